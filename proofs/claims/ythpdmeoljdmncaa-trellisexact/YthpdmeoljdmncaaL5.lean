/- What recipe.Print answers: codes' words, lines, the text. -/
import Derived.Test.YthpdmeoljdmncaaL4
import Derived.Test.YthpdmeoljdmncaaShR
import Derived.Test.YthpdmeoljdmncaaShelf2
import Derived.Test.YthpdmeoljdmncaaTxA
namespace Go.Proofs.Ythpdmeoljdmncaa
open Go.RowKit
set_option linter.unusedVariables false

theorem writeByte (B b : Nat) (pre : List UInt8) (c : UInt8) (w : World) (h : Lib.IsBuilder 80 5 B b (Lib.byteCells pre) w) (hlen : pre.length + 1 ≤ 140737488355328) (hBw : B ≤ w.heap.size) :
    Calls Try.prog 92 #[.pointer (some ⟨b, 0, none⟩), .int .u8 c.toNat] w fun e w' => e = .returned .nilIface ∧ Lib.IsBuilder 80 5 B b (Lib.byteCells (pre ++ [c])) w' ∧ Below B w w' := by
  refine (Try.Builder_WriteByte B b (Lib.byteCells pre) c.toNat w h (by rw [Lib.byteCells_length]; exact hlen) hBw).mono ?_
  rintro e w' ⟨rfl, h1, h2⟩
  refine ⟨rfl, Or.inr ?_, h2⟩
  rw [Lib.byteCells_append]
  exact h1
theorem and15 (c : UInt8) : bits BinOp.and IntKind.u8 (c.toNat : Int) 15 = ((c.toNat % 16 : Nat) : Int) := by
  have h : ∀ n : Fin 256, bits BinOp.and IntKind.u8 (n.val : Int) 15 = ((n.val % 16 : Nat) : Int) := by decide +kernel
  exact h ⟨c.toNat, c.toNat_lt⟩
theorem digs_at (n : Nat) (h : n < 16) : ∀ hh, ({ data := #[48, 49, 50, 51, 52, 53, 54, 55, 56, 57, 97, 98, 99, 100, 101, 102] } : ByteArray)[n]'hh = RC.hx n := by
  have key : ∀ m : Fin 16, (RC.digs)[m.val]'(by simp [RC.digs]) = RC.hx m.val := by decide +kernel
  intro hh
  exact key ⟨n, h⟩

set_option maxHeartbeats 1000000 in
theorem codeWord_at (s : List UInt8) {w W : World} (HB : Bl w W) (hs : s.length ≤ 1000) :
    Calls Try.prog 79 #[.string (M.bs s)] W fun e w' => e = .returned (.string (M.bs (RC.codeW s))) ∧ Bl w w' := by
  have hbs := M.bs_size s
  have hem := bs_empty s
  by_cases h0 : s = []
  · have hq : RC.codeW s = [45] := by rw [h0]; rfl
    rw [hq]
    rw [decide_eq_true h0] at hem
    clear h0 hq
    go_enter Try.func79, Try.ntmps79
    go_wp2_with fail
    go_ret
    exact ⟨rfl, HB⟩
  have HQ : Hid (RC.codeW s = RC.hexs s) := if_neg h0
  rw [decide_eq_false h0] at hem
  have HB0 : Hid (Bl w W) := HB
  clear h0 HB
  have HFR : Hid (Lib.IsBuilder 80 5 W.heap.size W.heap.size (Lib.byteCells []) _) := Lib.fresh_isBuilder 80 5 W
  have HAL : Hid (∀ o, Below W.heap.size W (W.alloc o)) := fun o => (Below.refl _ W).alloc (Nat.le_refl _) o
  go_enter Try.func79, Try.ntmps79
  go_wp2_with fail
  go_loopw [4, 9] (fun u4 u9 wr => ∃ k : Nat, k ≤ s.length ∧ u9 = .int .i64 k ∧ Lib.IsBuilder 80 5 W.heap.size W.heap.size (Lib.byteCells (RC.hexs (s.take k))) wr ∧ Below W.heap.size W wr) (fun _ u9 _ => s.length - (intOf u9).toNat)
  case atStart => exact ⟨0, Nat.zero_le _, rfl, HFR.out, HAL.out _⟩
  case round =>
    obtain ⟨k, hk, rfl, hbd, hbe⟩ := hrel
    clear HFR HAL
    have hsz := hbe.size
    have HBD : Hid (Lib.IsBuilder 80 5 W.heap.size W.heap.size (Lib.byteCells (RC.hexs (s.take k))) wr) := hbd
    have HBE : Hid (Below W.heap.size W wr) := hbe
    clear hbd hbe
    by_cases hlt : k < s.length
    · have hsk : (M.bs s)[k]'(by omega) = s[k] := by simp [M.bs, ByteArray.getElem_eq_getElem_data]
      have hg : s[k]? = some s[k] := List.getElem?_eq_getElem hlt
      obtain ⟨c, hc⟩ : ∃ c, s[k] = c := ⟨_, rfl⟩
      rw [hc] at hsk hg
      have HHX : Hid (RC.hexs (s.take (k + 1)) = (RC.hexs (s.take k) ++ [RC.hx (c.toNat / 16)]) ++ [RC.hx (c.toNat % 16)]) := by
        show _ = _
        rw [List.take_add_one, hg]
        simp [RC.hexs, RC.hex2]
      have hl1 := RC.hexs_length (s.take k)
      have hl2 : (s.take k).length ≤ s.length := List.length_take_le' _ _
      have hcl := c.toNat_lt
      have hd1 : (0 : Int) ≤ (c.toNat : Int) / 16 := by omega
      have hd2 : (c.toNat : Int) / 16 < 16 := by omega
      have hd3 := and15 c
      have hd4 : (0 : Int) ≤ ((c.toNat % 16 : Nat) : Int) := by omega
      have hd5 : ((c.toNat % 16 : Nat) : Int) < 16 := by omega
      have he1 := digs_at (c.toNat / 16) (by omega)
      have he2 := digs_at (c.toNat % 16) (by omega)
      obtain ⟨x1, hx1⟩ : ∃ x, RC.hx (c.toNat / 16) = x := ⟨_, rfl⟩
      obtain ⟨x2, hx2⟩ : ∃ x, RC.hx (c.toNat % 16) = x := ⟨_, rfl⟩
      rw [hx1] at he1 HHX
      rw [hx2] at he2 HHX
      clear hx1 hx2 hc hg
      go_wp2_with (first
        | (go_at_call 92; refine (writeByte _ _ _ x1 _ HBD.out (by omega) hsz).mono ?_; rintro e w3 ⟨rfl, HBD3, HB3⟩; clear HBD; replace hsz := Nat.le_trans hsz HB3.size)
        | (go_at_call 92; refine (writeByte _ _ _ x2 _ HBD3 (by rw [List.length_append]; simp; omega) hsz).mono ?_; rintro e w4 ⟨rfl, HBD4, HB4⟩; clear HBD3))
      go_roundw
      case rel => exact ⟨k + 1, by omega, by go_num, by rw [HHX.out]; exact HBD4, HBE.out.trans (HB3.trans HB4)⟩
      case measure => simp [intOf]; omega
    · obtain rfl : k = s.length := by omega
      go_wp2_with (go_at_call 55; refine (Try.Builder_String_any _ _ _ _ HBD.out hsz).mono ?_; rintro e w3 ⟨rfl, HB3⟩)
      go_ret
      exact ⟨by rw [HQ.out]; rfl, HB0.out.step (HBE.out.trans HB3)⟩

theorem join32 (v : Value) (l : List (List UInt8)) (w : World) (hv : Strs w.heap.size w v l) (hcap : ∀ a n c, v = .slice a n c → n ≤ c) (hn : l.length ≤ 140737488355328) (hlen : (Lib.join l [32]).length ≤ 140737488355328) :
    Calls Try.prog 78 #[v, .string ⟨#[32]⟩] w fun e w' => e = .returned (.string (M.bs (Lib.join l [32]))) ∧ Below w.heap.size w w' := by
  rcases hv with ⟨rfl, a, c, rfl⟩ | ⟨b, off, cap, rfl, hb, hc⟩
  · refine (Any.strings_Join_none Try.lays156 Try.Builder_Extra_156 a c ⟨#[32]⟩ w).mono ?_
    rintro e w' ⟨rfl, rfl⟩
    exact ⟨rfl, Below.refl _ _⟩
  · have hml : ((l.map M.bs).map (fun s : ByteArray => s.data.toList)) = l := by
      rw [List.map_map]
      have : (fun s : ByteArray => s.data.toList) ∘ M.bs = id := by funext x; exact M.bs_toList x
      rw [this, List.map_id]
    have h := Any.strings_Join Try.lays156 Try.Builder_Extra_156 b off cap (l.map M.bs) ⟨#[32]⟩ w (fun j x hx => by
      rw [List.getElem?_map] at hx
      cases hl : l[j]? with
      | none => rw [hl] at hx; simp at hx
      | some t => rw [hl] at hx; simp at hx; subst hx; exact hc j t hl) hb (by simpa using hn) (by simpa using hcap _ _ _ rfl) (by rw [hml]; exact hlen)
    rw [hml] at h
    simp only [List.length_map] at h
    refine h.mono ?_
    rintro e w' ⟨rfl, hb⟩
    exact ⟨rfl, hb⟩
theorem line_at (a : Option Addr) (c : Nat) (l : List (List UInt8)) {w W : World} (HB : Bl w W) (hv : Strs W.heap.size W (.slice a l.length c) l) (hcap : l.length ≤ c) (hn : l.length ≤ 100) (hlen : (Lib.join l [32]).length ≤ 100000) :
    Calls Try.prog 53 #[.slice a l.length c] W fun e w' => e = .returned (.string (M.bs (RC.line l))) ∧ Bl w w' := by
  have CJ : Hid (Calls Try.prog 78 #[.slice a l.length c, .string ⟨#[32]⟩] W fun e w' => e = .returned (.string (M.bs (Lib.join l [32]))) ∧ Bl w w') := by
    refine (join32 _ l W hv (fun a' n' c' e => by cases e; exact hcap) (by omega) (by omega)).mono ?_
    rintro e w' ⟨rfl, hb⟩
    exact ⟨rfl, HB.step hb⟩
  have happ : M.bs (Lib.join l [32]) ++ (⟨#[10]⟩ : ByteArray) = M.bs (RC.line l) := by
    have := bs_append (Lib.join l [32]) [10]
    exact this
  have hz := M.bs_size (Lib.join l [32])
  clear hv HB
  go_enter Try.func53, Try.ntmps53
  go_wp2_with (go_at_call 78; refine CJ.out.mono ?_; rintro e w' ⟨rfl, HB⟩)
  go_ret
  exact ⟨rfl, HB⟩
end Go.Proofs.Ythpdmeoljdmncaa
