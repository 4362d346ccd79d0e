/- The library's contract for strings.Join, as a theorem of this program: one application of the library's own theorem. -/
import Derived.Shelf.Strings.OnBuilder
import Derived.Test.YtahdmhenkjbimaaDoorGA
namespace Go.Proofs
open Go.Shelf
def Tryd.lays156_ren : Go.Shelf.Ren := ⟨fun | 156 => 35 | 165 => 45 | 166 => 40 | 169 => 21 | 240 => 39 | 241 => 50 | 276 => 49 | 277 => 52 | n => n, fun | 0 => 0 | 3 => 3 | 4 => 4 | 5 => 5 | 9 => 9 | 20 => 20 | 31 => 36 | 37 => 43 | 70 => 42 | 72 => 45 | 75 => 47 | 76 => 48 | 80 => 52 | 127 => 74 | 164 => 86 | n => n, fun | n => n⟩
theorem Tryd.lays156 : Go.Proofs.Lays.n156 Tryd.prog Tryd.lays156_ren := {
  mixed := by kernel_rfl
  f156 := Tryd.func35.trans (congrArg some (by kernel_rfl))
  f165 := Tryd.func45.trans (congrArg some (by kernel_rfl))
  f166 := Tryd.func40.trans (congrArg some (by kernel_rfl))
  f169 := Tryd.func21.trans (congrArg some (by kernel_rfl))
  f240 := Tryd.func39.trans (congrArg some (by kernel_rfl))
  f241 := Tryd.func50.trans (congrArg some (by kernel_rfl))
  f276 := Tryd.func49.trans (congrArg some (by kernel_rfl))
  f277 := Tryd.func52.trans (congrArg some (by kernel_rfl))
  t0 := Tryd.underlying0
  a0 := Tryd.isAgg0
  z0 := Tryd.sizeOf0
  v0 := Tryd.zeroValue0
  t3 := Tryd.underlying3
  a3 := Tryd.isAgg3
  z3 := Tryd.sizeOf3
  v3 := Tryd.zeroValue3
  t4 := Tryd.underlying4
  a4 := Tryd.isAgg4
  z4 := Tryd.sizeOf4
  v4 := Tryd.zeroValue4
  t9 := Tryd.underlying9
  a9 := Tryd.isAgg9
  z9 := Tryd.sizeOf9
  v9 := Tryd.zeroValue9
  t20 := Tryd.underlying20
  a20 := Tryd.isAgg20
  z20 := Tryd.sizeOf20
  v20 := Tryd.zeroValue20
  t31 := Tryd.underlying36
  a31 := Tryd.isAgg36
  z31 := Tryd.sizeOf36
  v31 := Tryd.zeroValue36
  t37 := Tryd.underlying43
  a37 := Tryd.isAgg43
  z37 := Tryd.sizeOf43
  v37 := Tryd.zeroValue43
  t70 := Tryd.underlying42
  a70 := Tryd.isAgg42
  z70 := Tryd.sizeOf42
  v70 := Tryd.zeroValue42
  t72 := Tryd.underlying45
  a72 := Tryd.isAgg45
  z72 := Tryd.sizeOf45
  v72 := Tryd.zeroValue45
  t75 := Tryd.underlying47
  a75 := Tryd.isAgg47
  z75 := Tryd.sizeOf47
  v75 := Tryd.zeroValue47
  t76 := Tryd.underlying48
  a76 := Tryd.isAgg48
  z76 := Tryd.sizeOf48
  v76 := Tryd.zeroValue48
  t127 := Tryd.underlying74
  a127 := Tryd.isAgg74
  z127 := Tryd.sizeOf74
  v127 := Tryd.zeroValue74
  t164 := Tryd.underlying86
  a164 := Tryd.isAgg86
  z164 := Tryd.sizeOf86
  v164 := Tryd.zeroValue86 }
theorem Tryd.Builder_Extra_156 : Builder.Extra Tryd.prog Tryd.lays156_ren := {
  sizeBuilder := by kernel_rfl
  liesBuilder := by kernel_rfl
  t5 := Tryd.underlying5
  a5 := Tryd.isAgg5
  z5 := Tryd.sizeOf5
  v5 := Tryd.zeroValue5
  infoByte := by kernel_rfl
  cellsByte := by kernel_rfl
  sizeByte := by kernel_rfl
  neB5 := by decide }
end Go.Proofs
namespace Go.Proofs.YtahdmhenkjbimaaDoor
open Go.RowKit
set_option linter.unusedVariables false
theorem join_nil : ∀ l : List (List UInt8), Lib.join l [] = l.flatten
  | [] => rfl
  | [x] => by simp [Lib.join, List.intercalate]
  | x :: y :: l => by
    have ih := join_nil (y :: l)
    simp only [Lib.join, List.intercalate] at ih ⊢
    rw [show List.intersperse ([] : List UInt8) (x :: y :: l) = x :: [] :: List.intersperse [] (y :: l) from rfl]
    simp only [List.flatten_cons, List.nil_append, ih]
theorem joinS (v : Value) (l : List (List UInt8)) (w : World) (hv : Strs w.heap.size w v l) (hcap : ∀ a n c, v = .slice a n c → n ≤ c) (hn : l.length ≤ 140737488355328) (hlen : l.flatten.length ≤ 140737488355328) :
    Calls Tryd.prog 35 #[v, .string ⟨#[]⟩] w fun e w' => e = .returned (.string (M.bs l.flatten)) ∧ Below w.heap.size w w' := by
  rcases hv with ⟨rfl, a, c, rfl⟩ | ⟨b, off, cap, rfl, hb, hc⟩
  · refine (Any.strings_Join_none Tryd.lays156 Tryd.Builder_Extra_156 a c ⟨#[]⟩ w).mono ?_
    rintro e w' ⟨rfl, rfl⟩
    exact ⟨rfl, Below.refl _ _⟩
  · have hml : ((l.map M.bs).map (fun s : ByteArray => s.data.toList)) = l := by
      rw [List.map_map]
      have : (fun s : ByteArray => s.data.toList) ∘ M.bs = id := by funext x; exact M.bs_toList x
      rw [this, List.map_id]
    have h := Any.strings_Join Tryd.lays156 Tryd.Builder_Extra_156 b off cap (l.map M.bs) ⟨#[]⟩ w (fun j x hx => by
      rw [List.getElem?_map] at hx
      cases hl : l[j]? with
      | none => rw [hl] at hx; simp at hx
      | some t => rw [hl] at hx; simp at hx; subst hx; exact hc j t hl) hb (by simpa using hn) (by simpa using hcap _ _ _ rfl) (by rw [hml]; simpa [join_nil] using hlen)
    rw [hml] at h
    simp only [List.length_map] at h
    refine h.mono ?_
    rintro e w' ⟨rfl, hb⟩
    exact ⟨by rw [join_nil]; rfl, hb⟩
end Go.Proofs.YtahdmhenkjbimaaDoor
