/- strings.Cut and strings.Split at one byte; what recipe.Parse answers. -/
import Derived.Test.YtgjpcddjfmdobaaDoorL14
namespace Go.Proofs.YtgjpcddjfmdobaaDoor
open Go.RowKit
set_option linter.unusedVariables false

/-- the library's own variable holds some number -/
def MX (w : World) : Prop := ∃ m, w.cell? ⟨0, 0, none⟩ = some (.int .i64 m)
theorem MX.bl {w w' : World} (h : MX w) (hb : Bl w w') : MX w' := by
  obtain ⟨m, hm⟩ := h
  exact ⟨m, by rw [Bl.cell hb (World.block_lt_of_cell? _ _ hm)]; exact hm⟩
theorem cut_no (t : List UInt8) (W : World) (hm : MX W) (hs : t.length ≤ 100000) (hc : RC.cutL 10 t = none) :
    Calls Tryd.prog 31 #[.string (M.bs t), .string ⟨#[10]⟩] W fun e w' => e = .returned (.tuple #[.string (M.bs t), .string (M.bs []), .bool false]) ∧ Bl W w' := by
  obtain ⟨m, hm⟩ := hm
  have h := Tryd.strings_Cut (M.bs t) ⟨#[10]⟩ m W (by rw [M.bs_size]; omega) hm
  have e : Lib.cut (M.bs t).data.toList (⟨#[10]⟩ : ByteArray).data.toList = (t, [], false) := by
    rw [M.bs_toList]; exact RC.cut_none 10 t hc
  rw [e] at h
  refine h.mono ?_
  rintro e w' ⟨rfl, n, rfl⟩
  exact ⟨rfl, (Bl.refl W).drewN n⟩
theorem cut_yes (t p q : List UInt8) (W : World) (hm : MX W) (hs : t.length ≤ 100000) (hc : RC.cutL 10 t = some (p, q)) :
    Calls Tryd.prog 31 #[.string (M.bs t), .string ⟨#[10]⟩] W fun e w' => e = .returned (.tuple #[.string (M.bs p), .string (M.bs q), .bool true]) ∧ Bl W w' := by
  obtain ⟨m, hm⟩ := hm
  have h := Tryd.strings_Cut (M.bs t) ⟨#[10]⟩ m W (by rw [M.bs_size]; omega) hm
  have e : Lib.cut (M.bs t).data.toList (⟨#[10]⟩ : ByteArray).data.toList = (p, q, true) := by
    rw [M.bs_toList]; exact RC.cut_some 10 t p q hc
  rw [e] at h
  refine h.mono ?_
  rintro e w' ⟨rfl, n, rfl⟩
  exact ⟨rfl, (Bl.refl W).drewN n⟩
theorem splitB_spl (t : List UInt8) : Lib.splitB ⟨#[32]⟩ 0 (Lib.countB (M.bs t) ⟨#[32]⟩) (M.bs t) = (RC.spl 32 t).map M.bs := by
  have h := Lib.splitB_data ⟨#[32]⟩ 0 (Lib.countB (M.bs t) ⟨#[32]⟩) (M.bs t)
  have e : Lib.splitK (⟨#[32]⟩ : ByteArray).data.toList 0 (Lib.countB (M.bs t) ⟨#[32]⟩) (M.bs t).data.toList = RC.spl 32 t := by
    have := RC.split_spl 32 t
    unfold Lib.split at this
    rw [← this]
    show Lib.splitK [32] 0 (Lib.count (M.bs t).data.toList [32]) (M.bs t).data.toList = _
    rw [M.bs_toList]
  rw [e] at h
  rw [← h, List.map_map]
  have e2 : (M.bs ∘ fun s : ByteArray => s.data.toList) = id := by funext s; exact M.bs_of s
  rw [e2, List.map_id]
theorem split_x (t : List UInt8) (W : World) (hm : MX W) (hs : t.length ≤ 100000) :
    Calls Tryd.prog 33 #[.string (M.bs t), .string ⟨#[32]⟩] W fun e w' => e = .returned (.slice (some ⟨W.heap.size, 0, none⟩) (RC.spl 32 t).length (RC.spl 32 t).length) ∧ w' = W.alloc (.cells ((RC.spl 32 t).map encS).toArray 9) := by
  obtain ⟨m, hm⟩ := hm
  have h := Tryd.strings_Split (M.bs t) ⟨#[32]⟩ m W (by rw [M.bs_size]; omega) hm (by decide)
  have hl := Lib.splitB_all ⟨#[32]⟩ (by decide) 0 _ (M.bs t) rfl
  rw [splitB_spl] at h hl
  rw [List.length_map] at hl
  rw [← hl, List.map_map] at h
  exact h
theorem spl_length (c : UInt8) : ∀ s : List UInt8, (RC.spl c s).length ≤ s.length + 1
  | [] => by simp [RC.spl]
  | b :: l => by
    have ih := spl_length c l
    unfold RC.spl
    split
    · simp; omega
    · split
      · simp
      · rename_i x r h; rw [h] at ih; simp at ih ⊢; omega
theorem spl_mem_len (c : UInt8) : ∀ (s w : List UInt8), w ∈ RC.spl c s → w.length ≤ s.length
  | [], w, h => by simp [RC.spl] at h; subst h; simp
  | b :: l, w, h => by
    have ih := spl_mem_len c l
    unfold RC.spl at h
    split at h
    · rcases List.mem_cons.1 h with rfl | h
      · simp
      · have := ih w h; simp; omega
    · split at h
      · simp at h; subst h; simp
      · rename_i x r hs
        rcases List.mem_cons.1 h with rfl | h
        · have := ih x (by rw [hs]; simp); simp; omega
        · have := ih w (by rw [hs]; simp [h]); simp; omega

theorem results3_row {P : Program} {fn : Func} {p q r : Tmp} {ty : TypeId} (h : fn.results = #[.cell p ty, .tmp q, .tmp r]) (tmps : Array Value) (w : World) (g : Nat) (t : TypeId) (cs : Array Value) (fr : Nat × Nat) (d : TypeDesc)
    (hp : tmps.getD p undef = .pointer (some ⟨g, 0, none⟩)) (hg : w.heap[g]? = some (.cells cs t fr))
    (hu : P.underlying ty = some d) (hd : (match d with | .struct _ | .array _ _ => true | _ => false) = true) (hi : (P.info? ty).map (·.size) = some cs.size) :
    (results fn tmps).run P w = .ok (.tuple #[.agg cs, tmps.getD q undef, tmps.getD r undef]) w := by
  have hp' : tmps[p]?.getD undef = .pointer (some ⟨g, 0, none⟩) := by simpa using hp
  simp [results, h, hp', asAddr, run_loadVar_row w g t ty cs fr d hg hu hd hi]
/-- no build -/
def zG : Array Value := #[.slice none 0 0, .slice none 0 0]
theorem infoG : (Tryd.prog.info? 25).map (·.size) = some 2 := by kernel_rfl
theorem undG : ∃ fs, Tryd.prog.underlying 25 = some (.struct fs) := ⟨_, Tryd.underlying25⟩
/-- the draft is a build in memory -/
theorem DX.ga {w : World} {N b : Nat} {g : RC.Gr} {vs va : Value} {xs : List (Option Addr × Nat)} {W : World} (h : DX w N b g vs va xs W) : ∃ sa sc aa ac, vs = .slice sa g.1.length sc ∧ va = .slice aa g.2.length ac ∧ GA W.heap.size W g sa sc aa ac := by
  obtain ⟨sa, sc, rfl, _, hs⟩ := Strs.ofOwns h.s
  obtain ⟨aa, ac, rfl⟩ := own_shape h.a
  refine ⟨sa, sc, aa, ac, rfl, rfl, hs, fun i t ht => ?_⟩
  have hi : i < g.2.length := (List.getElem?_eq_some_iff.1 ht).1
  have hl := h.len
  obtain ⟨p, hp⟩ : ∃ p, xs[i]? = some p := ⟨xs[i]'(by omega), List.getElem?_eq_getElem _⟩
  obtain ⟨x, c⟩ := p
  obtain ⟨h0, ⟨_, h2⟩ | ⟨gb, cap, cur, h1, h2, h3, h4, h5, h6, h7⟩⟩ := h.a
  · omega
  · simp only [Value.slice.injEq] at h1
    refine ⟨gb, 0, x, c, h1.1, TA.lt_heap h3, fun j v hv => ?_, strs_of_owns (h.ins i t x c ht hp)⟩
    have hj : j < 3 := by
      have := (List.getElem?_eq_some_iff.1 hv).1
      simpa [acL] using this
    rw [Lib.cell_of_heap h3, Nat.zero_add]
    have h8 : (cur.toList.take (g.2.length * 3))[i * 3 + j]? = (flatA g.2 xs)[i * 3 + j]? := by rw [h7]
    rw [List.getElem?_take_of_lt (by omega), flatA_at g.2 xs i t (x, c) ht hp j hj, hv] at h8
    simpa using h8
def strLen : Value → Nat
  | .string s => s.size
  | _ => 0
end Go.Proofs.YtgjpcddjfmdobaaDoor
