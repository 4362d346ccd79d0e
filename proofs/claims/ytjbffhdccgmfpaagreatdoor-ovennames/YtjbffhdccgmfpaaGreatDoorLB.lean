/- The texts L5 L6 L7 L8 L9 L10 L11 as one. -/
import Derived.Test.YtjbffhdccgmfpaaGreatDoorLA
import Derived.Test.YtjbffhdccgmfpaaGreatDoorShR
import Derived.Test.YtjbffhdccgmfpaaGreatDoorShelf2
import Derived.Test.YtjbffhdccgmfpaaGreatDoorTxA
import Derived.Deep.WholeRow
import Derived.Laws.CopyOwn
import Derived.Deep.AppendLies
import Derived.Deep.RegionLaw
/- What recipe.Print answers: codes' words, lines, the text. -/
namespace Go.Proofs.YtjbffhdccgmfpaaGreatDoor
open Go.RowKit
set_option linter.unusedVariables false

theorem writeByte (B b : Nat) (pre : List UInt8) (c : UInt8) (w : World) (h : Lib.IsBuilder 113 5 B b (Lib.byteCells pre) w) (hlen : pre.length + 1 ≤ 140737488355328) (hBw : B ≤ w.heap.size) :
    Calls Tryz.prog 116 #[.pointer (some ⟨b, 0, none⟩), .int .u8 c.toNat] w fun e w' => e = .returned .nilIface ∧ Lib.IsBuilder 113 5 B b (Lib.byteCells (pre ++ [c])) w' ∧ Below B w w' := by
  refine (Tryz.Builder_WriteByte B b (Lib.byteCells pre) c.toNat w h (by rw [Lib.byteCells_length]; exact hlen) hBw).mono ?_
  rintro e w' ⟨rfl, h1, h2⟩
  refine ⟨rfl, Or.inr ?_, h2⟩
  rw [Lib.byteCells_append]
  exact h1
theorem and15 (c : UInt8) : bits BinOp.and IntKind.u8 (c.toNat : Int) 15 = ((c.toNat % 16 : Nat) : Int) := by
  have h : ∀ n : Fin 256, bits BinOp.and IntKind.u8 (n.val : Int) 15 = ((n.val % 16 : Nat) : Int) := by decide +kernel
  exact h ⟨c.toNat, c.toNat_lt⟩
theorem digs_at (n : Nat) (h : n < 16) : ∀ hh, ({ data := #[48, 49, 50, 51, 52, 53, 54, 55, 56, 57, 97, 98, 99, 100, 101, 102] } : ByteArray)[n]'hh = RC.hx n := by
  have key : ∀ m : Fin 16, (RC.digs)[m.val]'(by simp [RC.digs]) = RC.hx m.val := by decide +kernel
  intro hh
  exact key ⟨n, h⟩

set_option maxHeartbeats 1000000 in
theorem codeWord_at (s : List UInt8) {w W : World} (HB : Bl w W) (hs : s.length ≤ 1000) :
    Calls Tryz.prog 102 #[.string (M.bs s)] W fun e w' => e = .returned (.string (M.bs (RC.codeW s))) ∧ Bl w w' := by
  have hbs := M.bs_size s
  have hem := bs_empty s
  by_cases h0 : s = []
  · have hq : RC.codeW s = [45] := by rw [h0]; rfl
    rw [hq]
    rw [decide_eq_true h0] at hem
    clear h0 hq
    go_enter Tryz.func102, Tryz.ntmps102
    go_wp2_with fail
    go_ret
    exact ⟨rfl, HB⟩
  have HQ : Hid (RC.codeW s = RC.hexs s) := if_neg h0
  rw [decide_eq_false h0] at hem
  have HB0 : Hid (Bl w W) := HB
  clear h0 HB
  have HFR : Hid (Lib.IsBuilder 113 5 W.heap.size W.heap.size (Lib.byteCells []) _) := Lib.fresh_isBuilder 113 5 W
  have HAL : Hid (∀ o, Below W.heap.size W (W.alloc o)) := fun o => (Below.refl _ W).alloc (Nat.le_refl _) o
  go_enter Tryz.func102, Tryz.ntmps102
  go_wp2_with fail
  go_loopw [4, 9] (fun u4 u9 wr => ∃ k : Nat, k ≤ s.length ∧ u9 = .int .i64 k ∧ Lib.IsBuilder 113 5 W.heap.size W.heap.size (Lib.byteCells (RC.hexs (s.take k))) wr ∧ Below W.heap.size W wr) (fun _ u9 _ => s.length - (intOf u9).toNat)
  case atStart => exact ⟨0, Nat.zero_le _, rfl, HFR.out, HAL.out _⟩
  case round =>
    obtain ⟨k, hk, rfl, hbd, hbe⟩ := hrel
    clear HFR HAL
    have hsz := hbe.size
    have HBD : Hid (Lib.IsBuilder 113 5 W.heap.size W.heap.size (Lib.byteCells (RC.hexs (s.take k))) wr) := hbd
    have HBE : Hid (Below W.heap.size W wr) := hbe
    clear hbd hbe
    by_cases hlt : k < s.length
    · have hsk : (M.bs s)[k]'(by omega) = s[k] := by simp [M.bs, ByteArray.getElem_eq_getElem_data]
      have hg : s[k]? = some s[k] := List.getElem?_eq_getElem hlt
      obtain ⟨c, hc⟩ : ∃ c, s[k] = c := ⟨_, rfl⟩
      rw [hc] at hsk hg
      have HHX : Hid (RC.hexs (s.take (k + 1)) = (RC.hexs (s.take k) ++ [RC.hx (c.toNat / 16)]) ++ [RC.hx (c.toNat % 16)]) := by
        show _ = _
        rw [List.take_add_one, hg]
        simp [RC.hexs, RC.hex2]
      have hl1 := RC.hexs_length (s.take k)
      have hl2 : (s.take k).length ≤ s.length := List.length_take_le' _ _
      have hcl := c.toNat_lt
      have hd1 : (0 : Int) ≤ (c.toNat : Int) / 16 := by omega
      have hd2 : (c.toNat : Int) / 16 < 16 := by omega
      have hd3 := and15 c
      have hd4 : (0 : Int) ≤ ((c.toNat % 16 : Nat) : Int) := by omega
      have hd5 : ((c.toNat % 16 : Nat) : Int) < 16 := by omega
      have he1 := digs_at (c.toNat / 16) (by omega)
      have he2 := digs_at (c.toNat % 16) (by omega)
      obtain ⟨x1, hx1⟩ : ∃ x, RC.hx (c.toNat / 16) = x := ⟨_, rfl⟩
      obtain ⟨x2, hx2⟩ : ∃ x, RC.hx (c.toNat % 16) = x := ⟨_, rfl⟩
      rw [hx1] at he1 HHX
      rw [hx2] at he2 HHX
      clear hx1 hx2 hc hg
      go_wp2_with (first
        | (go_at_call 116; refine (writeByte _ _ _ x1 _ HBD.out (by omega) hsz).mono ?_; rintro e w3 ⟨rfl, HBD3, HB3⟩; clear HBD; replace hsz := Nat.le_trans hsz HB3.size)
        | (go_at_call 116; refine (writeByte _ _ _ x2 _ HBD3 (by rw [List.length_append]; simp; omega) hsz).mono ?_; rintro e w4 ⟨rfl, HBD4, HB4⟩; clear HBD3))
      go_roundw
      case rel => exact ⟨k + 1, by omega, by go_num, by rw [HHX.out]; exact HBD4, HBE.out.trans (HB3.trans HB4)⟩
      case measure => simp [intOf]; omega
    · obtain rfl : k = s.length := by omega
      go_wp2_with (go_at_call 57; refine (Tryz.Builder_String_any _ _ _ _ HBD.out hsz).mono ?_; rintro e w3 ⟨rfl, HB3⟩)
      go_ret
      exact ⟨by rw [HQ.out]; rfl, HB0.out.step (HBE.out.trans HB3)⟩

theorem join32 (v : Value) (l : List (List UInt8)) (w : World) (hv : Strs w.heap.size w v l) (hcap : ∀ a n c, v = .slice a n c → n ≤ c) (hn : l.length ≤ 140737488355328) (hlen : (Lib.join l [32]).length ≤ 140737488355328) :
    Calls Tryz.prog 101 #[v, .string ⟨#[32]⟩] w fun e w' => e = .returned (.string (M.bs (Lib.join l [32]))) ∧ Below w.heap.size w w' := by
  rcases hv with ⟨rfl, a, c, rfl⟩ | ⟨b, off, cap, rfl, hb, hc⟩
  · refine (Any.strings_Join_none Tryz.lays156 Tryz.Builder_Extra_156 a c ⟨#[32]⟩ w).mono ?_
    rintro e w' ⟨rfl, rfl⟩
    exact ⟨rfl, Below.refl _ _⟩
  · have hml : ((l.map M.bs).map (fun s : ByteArray => s.data.toList)) = l := by
      rw [List.map_map]
      have : (fun s : ByteArray => s.data.toList) ∘ M.bs = id := by funext x; exact M.bs_toList x
      rw [this, List.map_id]
    have h := Any.strings_Join Tryz.lays156 Tryz.Builder_Extra_156 b off cap (l.map M.bs) ⟨#[32]⟩ w (fun j x hx => by
      rw [List.getElem?_map] at hx
      cases hl : l[j]? with
      | none => rw [hl] at hx; simp at hx
      | some t => rw [hl] at hx; simp at hx; subst hx; exact hc j t hl) hb (by simpa using hn) (by simpa using hcap _ _ _ rfl) (by rw [hml]; exact hlen)
    rw [hml] at h
    simp only [List.length_map] at h
    refine h.mono ?_
    rintro e w' ⟨rfl, hb⟩
    exact ⟨rfl, hb⟩
theorem line_at (a : Option Addr) (c : Nat) (l : List (List UInt8)) {w W : World} (HB : Bl w W) (hv : Strs W.heap.size W (.slice a l.length c) l) (hcap : l.length ≤ c) (hn : l.length ≤ 100) (hlen : (Lib.join l [32]).length ≤ 100000) :
    Calls Tryz.prog 79 #[.slice a l.length c] W fun e w' => e = .returned (.string (M.bs (RC.line l))) ∧ Bl w w' := by
  have CJ : Hid (Calls Tryz.prog 101 #[.slice a l.length c, .string ⟨#[32]⟩] W fun e w' => e = .returned (.string (M.bs (Lib.join l [32]))) ∧ Bl w w') := by
    refine (join32 _ l W hv (fun a' n' c' e => by cases e; exact hcap) (by omega) (by omega)).mono ?_
    rintro e w' ⟨rfl, hb⟩
    exact ⟨rfl, HB.step hb⟩
  have happ : M.bs (Lib.join l [32]) ++ (⟨#[10]⟩ : ByteArray) = M.bs (RC.line l) := by
    have := bs_append (Lib.join l [32]) [10]
    exact this
  have hz := M.bs_size (Lib.join l [32])
  clear hv HB
  go_enter Tryz.func79, Tryz.ntmps79
  go_wp2_with (go_at_call 101; refine CJ.out.mono ?_; rintro e w' ⟨rfl, HB⟩)
  go_ret
  exact ⟨rfl, HB⟩
end Go.Proofs.YtjbffhdccgmfpaaGreatDoor

/- An action's words, and what recipe.Print answers. -/
namespace Go.Proofs.YtjbffhdccgmfpaaGreatDoor
open Go.RowKit
set_option linter.unusedVariables false

theorem Strs.ofOwns {N : Nat} {w : World} {v : Value} {ks : List (List UInt8)} (h : w.ownsRow N 9 1 v ks.length (ks.map encS)) : ∃ a c, v = .slice a ks.length c ∧ ks.length ≤ c ∧ Strs w.heap.size w (.slice a ks.length c) ks := by
  obtain ⟨a, c, rfl, hc⟩ := TA.owns_cap h
  exact ⟨a, c, rfl, hc, strs_of_owns h⟩
theorem ownsRow_belowT {B n k : Nat} {e : TypeId} {v : Value} {xs : List Value} {w w' : World} (h : w.ownsRow B e k v n xs) (hb : Below w.heap.size w w') : w'.ownsRow B e k v n xs := by
  obtain ⟨h0, h1 | ⟨g, cap, cur, h1, h2, h3, h4⟩⟩ := h
  · exact ⟨h0, Or.inl h1⟩
  · exact ⟨h0, Or.inr ⟨g, cap, cur, h1, h2, by rw [hb.block g (TA.lt_heap h3)]; exact h3, h4⟩⟩
set_option maxRecDepth 8000 in
set_option maxHeartbeats 2000000 in
theorem actionWords_at (t : RC.Ac) (x : Option Addr) (c : Nat) {w W : World} (HB : Bl w W) (hv : Strs W.heap.size W (.slice x t.2.1.length c) t.2.1) (h4 : t.2.1.length ≤ 4) (hc : t.2.2.length ≤ 64) :
    Calls Tryz.prog 80 #[.agg (acL t x c).toArray] W fun e w' => ∃ a k, e = .returned (.slice a (RC.words t).length k) ∧ (RC.words t).length ≤ k ∧ Strs w'.heap.size w' (.slice a (RC.words t).length k) (RC.words t) ∧ Bl w w' := by
  obtain ⟨n, ins, code⟩ := t
  simp only [] at h4 hc hv
  have hwl : RC.words (n, ins, code) = ([RC.wMake, n] ++ RC.midW ins) ++ [RC.wBy, RC.codeW code] := by simp [RC.words]
  have B1 : Bl W (W.alloc (.cells #[.string (M.bs n), .slice x ins.length c, .string (M.bs code)] 43)) := (Bl.refl W).alloc _
  have hz1 : (W.alloc (.cells #[.string (M.bs n), .slice x ins.length c, .string (M.bs code)] 43)).heap.size = W.heap.size + 1 := by simp
  have g1 : (W.alloc (.cells #[.string (M.bs n), .slice x ins.length c, .string (M.bs code)] 43)).cell? ⟨W.heap.size, 1, none⟩ = some (.slice x ins.length c) := by rw [Lib.cell_of_heap (heap_alloc_new W _)]; rfl
  have g2 : (W.alloc (.cells #[.string (M.bs n), .slice x ins.length c, .string (M.bs code)] 43)).cell? ⟨W.heap.size, 2, none⟩ = some (.string (M.bs code)) := by rw [Lib.cell_of_heap (heap_alloc_new W _)]; rfl
  obtain ⟨W1, hW1⟩ : ∃ W1, W1 = W.alloc (.cells #[.string (M.bs n), .slice x ins.length c, .string (M.bs code)] 43) := ⟨_, rfl⟩
  rw [← hW1] at B1 hz1 g1 g2
  have HC1 : Hid (∀ W', Below (W.heap.size + 1) W1 W' → W'.cell? ⟨W.heap.size, 1, none⟩ = some (.slice x ins.length c)) := fun W' h => by rw [h.cell (p := ⟨W.heap.size, 1, none⟩) (by simp)]; exact g1
  have HC2 : Hid (∀ W', Below (W.heap.size + 1) W1 W' → W'.cell? ⟨W.heap.size, 2, none⟩ = some (.string (M.bs code))) := fun W' h => by rw [h.cell (p := ⟨W.heap.size, 2, none⟩) (by simp)]; exact g2
  have HBF : Hid (∀ W', Below (W.heap.size + 1) W1 W' → Bl w W') := fun W' h => HB.step (B1.step (by rw [hz1]; exact h))
  have OWN0 : Hid (∀ o, ((W1.alloc (.cells #[.string ⟨#[109, 97, 107, 101]⟩, .string (M.bs n)] 9)).alloc o).ownsRow (W.heap.size + 1) 9 1 (.slice (some ⟨W.heap.size + 1, 0, none⟩) 2 2) [RC.wMake, n].length ([RC.wMake, n].map encS)) := fun o => by
    have := World.ownsRow.alloc (TA.own_new W1 [RC.wMake, n] (by unfold maxLen; simp)) o
    rw [hz1] at this
    exact this
  have OWN1 : Hid ((W1.alloc (.cells #[.string ⟨#[109, 97, 107, 101]⟩, .string (M.bs n)] 9)).ownsRow (W.heap.size + 1) 9 1 (.slice (some ⟨W.heap.size + 1, 0, none⟩) 2 2) [RC.wMake, n].length ([RC.wMake, n].map encS)) := by
    have := TA.own_new W1 [RC.wMake, n] (by unfold maxLen; simp)
    rw [hz1] at this
    exact this
  have BB0 : Hid (Below (W.heap.size + 1) W1 (W1.alloc (.cells #[.string ⟨#[109, 97, 107, 101]⟩, .string (M.bs n)] 9))) := (Below.refl _ W1).alloc (by omega) _
  have BB1 : Hid (∀ w', ((W1.alloc (.cells #[.string ⟨#[109, 97, 107, 101]⟩, .string (M.bs n)] 9)).alloc (.cells #[.string ⟨#[102, 114, 111, 109]⟩] 9)).grownBy w' (Value.slice (some ⟨W.heap.size + 1, 0, none⟩) 2 2).ownBlock → Below (W.heap.size + 1) W1 w') := fun w' hg => by
    refine (BB0.out.alloc (by simp; omega) _).grown hg (by simp; omega) (fun k hk => ?_)
    cases hk; exact Nat.le_refl _
  have TS1 : Hid (TA.TS ((W1.alloc (.cells #[.string ⟨#[109, 97, 107, 101]⟩, .string (M.bs n)] 9)).alloc (.cells #[.string ⟨#[102, 114, 111, 109]⟩] 9)) (some ⟨W.heap.size + 1 + 1, 0, none⟩) [RC.wFrom]) := by
    have := TA.ts_new (W1.alloc (.cells #[.string ⟨#[109, 97, 107, 101]⟩, .string (M.bs n)] 9)) [RC.wFrom] 9
    have e : (W1.alloc (.cells #[.string ⟨#[109, 97, 107, 101]⟩, .string (M.bs n)] 9)).heap.size = W.heap.size + 1 + 1 := by simp; omega
    rw [e] at this
    exact this
  have TSI : Hid (∀ W', Below (W.heap.size + 1) W1 W' → TA.TS W' x ins) := fun W' h => (TA.ts_of (hv.bl B1)).below (by rw [hz1]; exact h)
  have CW : Hid (∀ W', Below (W.heap.size + 1) W1 W' → Calls Tryz.prog 102 #[.string (M.bs code)] W' fun e w' => e = .returned (.string (M.bs (RC.codeW code))) ∧ Below W'.heap.size W' w') := fun W' h => codeWord_at code (Bl.refl W') (by omega)
  have TS2 : Hid (∀ W' : World, TA.TS (W'.alloc (.cells #[.string ⟨#[98, 121]⟩, .string (M.bs (RC.codeW code))] 9)) (some ⟨W'.heap.size, 0, none⟩) [RC.wBy, RC.codeW code]) := fun W' => TA.ts_new W' [RC.wBy, RC.codeW code] 9
  have HWL : Hid (RC.words (n, ins, code) = ([RC.wMake, n] ++ RC.midW ins) ++ [RC.wBy, RC.codeW code]) := hwl
  clear hwl
  generalize RC.words (n, ins, code) = L at *
  clear HB hv B1 g1 g2 hz1
  unfold acL
  simp only []
  subst hW1
  by_cases h0 : ins = []
  · subst h0
    have HM : Hid (RC.midW [] = []) := rfl
    clear OWN0 BB1 TS1 TSI HC1
    go_enter Tryz.func80, Tryz.ntmps80
    go_wp2_with (first
      | (go_at_call 102; refine (CW.out _ BB0.out).mono ?_; rintro e w3 ⟨rfl, hb3⟩; have OWN3 := ownsRow_belowT OWN1.out hb3; have BB3 := BB0.out.trans (hb3.mono (by simp)); clear CW OWN1 BB0 hb3)
      | (refine TA.wl_app rfl _ _ rfl (W.heap.size + 1) [RC.wMake, n] _ rfl (World.ownsRow.alloc OWN3 _) (some ⟨w3.heap.size, 0, none⟩) [RC.wBy, RC.codeW code] 2 2 rfl rfl (TS2.out w3) (by have := BB3.size; simp at this ⊢; omega) (by simp) ?_; intro v4 w4 hown4 hg4; have BB4 := (BB3.alloc (by have := BB3.size; simp at this ⊢; omega) _).grown hg4 (by have := BB3.size; simp at this ⊢; omega) (fun k hk => (TA.owns_ge (World.ownsRow.alloc OWN3 (.cells #[.string ⟨#[98, 121]⟩, .string (M.bs (RC.codeW code))] 9)) hk).1); clear OWN3 BB3 hg4))
    have e4 : [RC.wMake, n] ++ [RC.wBy, RC.codeW code] = L := by rw [HWL.out, HM.out]; simp
    rw [e4] at hown4
    obtain ⟨a, k, rfl, hk, hs⟩ := Strs.ofOwns hown4
    go_ret
    exact ⟨a, k, rfl, hk, hs, HBF.out _ BB4⟩
  · have hl0 : 0 < ins.length := List.length_pos_iff.2 h0
    have HM : Hid (RC.midW ins = RC.wFrom :: ins) := if_neg h0
    clear h0 OWN1 BB0
    go_enter Tryz.func80, Tryz.ntmps80
    go_wp2_with (first
      | (refine TA.wl_app rfl _ _ rfl (W.heap.size + 1) [RC.wMake, n] _ rfl (OWN0.out _) (some ⟨W.heap.size + 1 + 1, 0, none⟩) [RC.wFrom] 1 1 rfl rfl TS1.out (by first | (simp; done) | (simp; omega)) (by simp) ?_; intro v1 w1 hown1 hg1; have BB2 := BB1.out _ hg1; clear OWN0 TS1 hg1 BB1; have hcc1 := HC1.out _ BB2)
      | (refine TA.wl_app rfl _ _ rfl (W.heap.size + 1) ([RC.wMake, n] ++ [RC.wFrom]) v1 rfl hown1 x ins ins.length c rfl rfl (TSI.out _ BB2) (by have := BB2.size; simp at this ⊢; omega) (by simp; omega) ?_; intro v2 w2 hown2 hg2; replace BB2 := BB2.grown hg2 (by have := BB2.size; simp at this ⊢; omega) (fun k hk => (TA.owns_ge hown1 hk).1); clear hown1 hg2 TSI hcc1; have hcc2 := HC2.out _ BB2)
      | (go_at_call 102; refine (CW.out _ BB2).mono ?_; rintro e w3 ⟨rfl, hb3⟩; have OWN3 := ownsRow_belowT hown2 hb3; have BB3 := BB2.trans (hb3.mono (by have := BB2.size; simp at this ⊢; omega)); clear CW hown2 BB2 hb3 hcc2)
      | (refine TA.wl_app rfl _ _ rfl (W.heap.size + 1) ([RC.wMake, n] ++ [RC.wFrom] ++ ins) _ rfl (World.ownsRow.alloc OWN3 _) (some ⟨w3.heap.size, 0, none⟩) [RC.wBy, RC.codeW code] 2 2 rfl rfl (TS2.out w3) (by have := BB3.size; simp at this ⊢; omega) (by simp; omega) ?_; intro v4 w4 hown4 hg4; have BB4 := (BB3.alloc (by have := BB3.size; simp at this ⊢; omega) _).grown hg4 (by have := BB3.size; simp at this ⊢; omega) (fun k hk => (TA.owns_ge (World.ownsRow.alloc OWN3 (.cells #[.string ⟨#[98, 121]⟩, .string (M.bs (RC.codeW code))] 9)) hk).1); clear OWN3 BB3 hg4))
    have e4 : [RC.wMake, n] ++ [RC.wFrom] ++ ins ++ [RC.wBy, RC.codeW code] = L := by rw [HWL.out, HM.out]; simp
    rw [e4] at hown4
    obtain ⟨a, k, rfl, hk, hs⟩ := Strs.ofOwns hown4
    go_ret
    exact ⟨a, k, rfl, hk, hs, HBF.out _ BB4⟩
end Go.Proofs.YtjbffhdccgmfpaaGreatDoor

/- What recipe.Print answers. -/
namespace Go.Proofs.YtjbffhdccgmfpaaGreatDoor
open Go.RowKit
set_option linter.unusedVariables false

/-- what is written behind k sources; behind all sources and k actions -/
def pS (S : List (List UInt8)) (k : Nat) : List UInt8 := RC.linesS (S.take k)
def pA (S : List (List UInt8)) (A : List RC.Ac) (k : Nat) : List UInt8 := RC.linesS S ++ RC.linesA (A.take k)
theorem pS_succ (S : List (List UInt8)) (k : Nat) (t : List UInt8) (h : S[k]? = some t) : pS S (k + 1) = pS S k ++ RC.line [RC.wSource, t] := by
  unfold pS; rw [List.take_add_one, h]; exact RC.linesS_snoc _ _
theorem pA_succ (S : List (List UInt8)) (A : List RC.Ac) (k : Nat) (t : RC.Ac) (h : A[k]? = some t) : pA S A (k + 1) = pA S A k ++ RC.line (RC.words t) := by
  unfold pA; rw [List.take_add_one, h]
  simp only [Option.toList_some]
  rw [RC.linesA_snoc, List.append_assoc]
theorem linesS_split (S : List (List UInt8)) (k : Nat) : RC.linesS S = RC.linesS (S.take k) ++ RC.linesS (S.drop k) := by
  unfold RC.linesS; rw [← List.flatten_append, ← List.map_append, List.take_append_drop]
theorem linesA_split (A : List RC.Ac) (k : Nat) : RC.linesA A = RC.linesA (A.take k) ++ RC.linesA (A.drop k) := by
  unfold RC.linesA; rw [← List.flatten_append, ← List.map_append, List.take_append_drop]
theorem pS_le (S : List (List UInt8)) (A : List RC.Ac) (k : Nat) (h : RC.can (S, A) = true) : (pS S k).length ≤ 2600 := by
  have h1 := RC.text_length _ h
  unfold RC.text at h1
  simp only [] at h1
  rw [linesS_split S k] at h1
  simp only [List.length_append] at h1
  unfold pS; omega
theorem pA_le (S : List (List UInt8)) (A : List RC.Ac) (k : Nat) (h : RC.can (S, A) = true) : (pA S A k).length ≤ 2600 := by
  have h1 := RC.text_length _ h
  unfold RC.text at h1
  simp only [] at h1
  rw [linesA_split A k] at h1
  simp only [List.length_append] at h1
  unfold pA; simp only [List.length_append]; omega
theorem pS_zero (S : List (List UInt8)) : pS S 0 = [] := rfl
theorem pA_zero (S : List (List UInt8)) (A : List RC.Ac) : pA S A 0 = pS S S.length := by simp [pA, pS, RC.linesA]
theorem pA_all (S : List (List UInt8)) (A : List RC.Ac) : pA S A A.length = RC.text (S, A) := by simp [pA, RC.text]
theorem join_le (w : List UInt8) (r : List (List UInt8)) : (Lib.join (w :: r) [32]).length ≤ (RC.line (w :: r)).length := by simp [RC.line]

set_option maxHeartbeats 1000000 in
theorem Print_no (g : RC.Gr) (sa : Option Addr) (sc : Nat) (aa : Option Addr) (ac : Nat) {w W : World} (HB : Bl w W) (hg : GA W.heap.size W g sa sc aa ac) (hk : grOk g) (hc : RC.can g = false) :
    Calls Tryz.prog 58 #[.agg (gv g sa sc aa ac)] W fun e w' => e = .returned (.tuple #[.string (M.bs []), .int .i64 1]) ∧ Bl w w' := by
  have CC : Hid (∀ o, Calls Tryz.prog 78 #[.agg (gv g sa sc aa ac)] (W.alloc o) fun e w' => e = .returned (.bool false) ∧ Bl w w') := fun o => by
    rw [← hc]; exact canBeWritten_at g sa sc aa ac (HB.alloc o) (hg.bl ((Bl.refl W).alloc o)) hk
  clear HB hg hk hc
  unfold gv at CC ⊢
  go_enter Tryz.func58, Tryz.ntmps58
  go_wp2_with (go_at_call 78; refine (CC.out _).mono ?_; rintro e w' ⟨rfl, HB⟩)
  go_ret2
  exact ⟨rfl, HB⟩

set_option maxRecDepth 8000 in
set_option maxHeartbeats 4000000 in
theorem Print_yes (g : RC.Gr) (sa : Option Addr) (sc : Nat) (aa : Option Addr) (ac : Nat) {w W : World} (HB : Bl w W) (hg : GA W.heap.size W g sa sc aa ac) (hk : grOk g) (hc : RC.can g = true) :
    Calls Tryz.prog 58 #[.agg (gv g sa sc aa ac)] W fun e w' => e = .returned (.tuple #[.string (M.bs (RC.text g)), .int .i64 0]) ∧ Bl w w' := by
  obtain ⟨S, A⟩ := g
  have CC : Hid (∀ o, Calls Tryz.prog 78 #[.agg (gv (S, A) sa sc aa ac)] (W.alloc o) fun e w' => e = .returned (.bool true) ∧ Bl (W.alloc o) w') := fun o => by
    rw [← hc]; exact canBeWritten_at (S, A) sa sc aa ac (Bl.refl _) (hg.bl ((Bl.refl W).alloc o)) hk
  obtain ⟨cp1, cp2, cp3, cp4⟩ := RC.can_parts hc
  simp only [] at cp1 cp2 cp3 cp4
  have HS : Hid (∀ o w1, Bl (W.alloc o) w1 → GA w1.heap.size w1 (S, A) sa sc aa ac) := fun o w1 h => hg.bl (((Bl.refl W).alloc o).step h)
  have HW : Hid (∀ o w1, Bl (W.alloc o) w1 → Bl w w1) := fun o w1 h => (HB.alloc o).step h
  have HP1 : Hid (∀ k, (pS S k).length ≤ 2600) := fun k => pS_le S A k hc
  have HP2 : Hid (∀ k, (pA S A k).length ≤ 2600) := fun k => pA_le S A k hc
  have HPA : Hid (pA S A A.length = RC.text (S, A)) := pA_all S A
  have CB0 : Hid (∀ T w1, Bl (W.alloc (.cells #[.slice sa S.length sc, .slice aa A.length ac] T)) w1 → W.heap.size < w1.heap.size ∧ w1.cell? ⟨W.heap.size, 0, none⟩ = some (.slice sa S.length sc) ∧ w1.cell? ⟨W.heap.size, 1, none⟩ = some (.slice aa A.length ac)) := fun T w1 h => by
    have hz : W.heap.size < (W.alloc (.cells #[.slice sa S.length sc, .slice aa A.length ac] T)).heap.size := by simp
    refine ⟨Nat.lt_of_lt_of_le hz (Below.size h), ?_, ?_⟩
    · rw [h.cell hz, Lib.cell_of_heap (heap_alloc_new W _)]; rfl
    · rw [h.cell hz, Lib.cell_of_heap (heap_alloc_new W _)]; rfl
  obtain ⟨fs, hum⟩ := undAc
  clear HB hg hk hc
  unfold gv at CC ⊢
  simp only [] at CC ⊢
  go_enter Tryz.func58, Tryz.ntmps58
  go_wp2_with (go_at_call 78; refine (CC.out _).mono ?_; rintro e w1 ⟨rfl, hb1⟩; obtain ⟨hx1, hx2, hx3⟩ := CB0.out _ _ hb1; have GS := HS.out _ _ hb1; replace HW := HW.out _ _ hb1; clear CC CB0 HS hb1)
  have HFR : Hid (Lib.IsBuilder 113 5 w1.heap.size w1.heap.size (Lib.byteCells []) _) := Lib.fresh_isBuilder 113 5 w1
  have HAL : Hid (∀ o, Below w1.heap.size w1 (w1.alloc o)) := fun o => (Below.refl _ w1).alloc (Nat.le_refl _) o
  have HG : Hid (GA w1.heap.size w1 (S, A) sa sc aa ac) := GS
  have HWW : Hid (Bl w w1) := HW
  have HX3 : Hid (∀ W', Below w1.heap.size w1 W' → W'.cell? ⟨W.heap.size, 1, none⟩ = some (.slice aa A.length ac)) := fun W' h => by rw [h.cell (p := ⟨W.heap.size, 1, none⟩) hx1]; exact hx3
  clear GS HW hx2 hx3
  go_loopw [6, 15] (fun u6 u15 wr => ∃ k : Nat, k ≤ S.length ∧ u15 = .int .i64 k ∧ Lib.IsBuilder 113 5 w1.heap.size w1.heap.size (Lib.byteCells (pS S k)) wr ∧ Below w1.heap.size w1 wr) (fun _ u15 _ => S.length - (intOf u15).toNat)
  case atStart => exact ⟨0, Nat.zero_le _, rfl, HFR.out, HAL.out _⟩
  case round =>
    obtain ⟨k, hk, rfl, hbd, hbe⟩ := hrel
    clear HFR HAL
    have hsz := hbe.size
    have HBD : Hid (Lib.IsBuilder 113 5 w1.heap.size w1.heap.size (Lib.byteCells (pS S k)) wr) := hbd
    have HBE : Hid (Below w1.heap.size w1 wr) := hbe
    clear hbd hbe
    by_cases hlt : k < S.length
    · obtain ⟨t, ht⟩ : ∃ t, S[k]? = some t := ⟨S[k], List.getElem?_eq_getElem hlt⟩
      obtain ⟨b, off, rfl, hcell⟩ := (Strs.sa (HG.out.s.bl HBE.out)).2 k t ht
      have htn := (RC.isNm_len (cp3 t (List.mem_of_getElem? ht))).1
      have HPS : Hid (pS S (k + 1) = pS S k ++ RC.line [RC.wSource, t]) := pS_succ S k t ht
      have hpl := HP1.out (k + 1)
      rw [HPS.out, List.length_append] at hpl
      have hjl := join_le RC.wSource [t]
      have CL : Hid (Calls Tryz.prog 79 #[.slice (some ⟨wr.heap.size, 0, none⟩) 2 2] (wr.alloc (.cells #[.string ⟨#[115, 111, 117, 114, 99, 101]⟩, .string (M.bs t)] 9)) fun e w' => e = .returned (.string (M.bs (RC.line [RC.wSource, t]))) ∧ Bl wr w') :=
        line_at (some ⟨wr.heap.size, 0, none⟩) 2 [RC.wSource, t] ((Bl.refl wr).alloc _) (strs_of_owns (TA.own_new wr [RC.wSource, t] (by unfold maxLen; simp))) (by simp) (by simp) (by omega)
      have hz := M.bs_size (RC.line [RC.wSource, t])
      generalize RC.line [RC.wSource, t] = LN at *
      clear ht htn hjl
      go_wp2_with (first
        | (go_at_call 79; refine CL.out.mono ?_; rintro e w3 ⟨rfl, hb3⟩; have hbd3 := builder_below HBD.out hb3; have HB3 : Below w1.heap.size w1 w3 := HBE.out.trans (hb3.mono hsz); clear CL HBD hb3)
        | (go_at_call 56; refine (writeString _ _ _ _ _ hbd3 (by omega) HB3.size).mono ?_; rintro e w4 ⟨rfl, hbd4, hb4⟩; replace HB3 := HB3.trans hb4; clear hbd3 hb4))
      go_roundw
      case rel => exact ⟨k + 1, by omega, by go_num, by rw [HPS.out]; exact hbd4, HB3⟩
      case measure => simp [intOf]; omega
    · obtain rfl : k = S.length := by omega
      have hx3 := HX3.out _ HBE.out
      have HBD0 : Hid (Lib.IsBuilder 113 5 w1.heap.size w1.heap.size (Lib.byteCells (pA S A 0)) wr) := by
        show Lib.IsBuilder _ _ _ _ _ _
        rw [pA_zero]; exact HBD.out
      go_wp2_with fail
      clear HX3 hx3 HBD hx1
      go_loopw [8, 27] (fun u8 u27 wr => ∃ k : Nat, k ≤ A.length ∧ u27 = .int .i64 k ∧ Lib.IsBuilder 113 5 w1.heap.size w1.heap.size (Lib.byteCells (pA S A k)) wr ∧ Below w1.heap.size w1 wr) (fun _ u27 _ => A.length - (intOf u27).toNat)
      case atStart => exact ⟨0, Nat.zero_le _, rfl, HBD0.out, HBE.out⟩
      case round =>
        obtain ⟨k, hk, rfl, hbd, hbe⟩ := hrel
        clear HBD0 HBE hsz
        have hsz := hbe.size
        have HBD : Hid (Lib.IsBuilder 113 5 w1.heap.size w1.heap.size (Lib.byteCells (pA S A k)) wr) := hbd
        have HBE : Hid (Below w1.heap.size w1 wr) := hbe
        clear hbd hbe
        by_cases hlt : k < A.length
        · obtain ⟨t, ht⟩ : ∃ t, A[k]? = some t := ⟨A[k], List.getElem?_eq_getElem hlt⟩
          obtain ⟨b, off, x, c, rfl, hb, hr, hs⟩ := HG.out.a.bl HBE.out k t ht
          have hca := cp4 t (List.mem_of_getElem? ht)
          obtain ⟨ca1, ca2, ca3, ca4⟩ := RC.canA_parts hca
          have HPS : Hid (pA S A (k + 1) = pA S A k ++ RC.line (RC.words t)) := pA_succ S A k t ht
          have hpl := HP2.out (k + 1)
          rw [HPS.out, List.length_append] at hpl
          have hll := RC.lineA_length t hca
          have hjl : (Lib.join (RC.words t) [32]).length ≤ (RC.line (RC.words t)).length := by simp [RC.line]
          have hwn : (RC.words t).length ≤ 100 := by
            rw [RC.words_tail]; unfold RC.tailW RC.midW
            split
            · simp
            · simp; omega
          have hi := infoAc t x c
          have HR : Hid (wr.rangeAt b (off + k * 3) (acL t x c)) := hr
          have CW : Hid (∀ o, Calls Tryz.prog 80 #[.agg (acL t x c).toArray] (wr.alloc o) fun e w' => ∃ a m, e = .returned (.slice a (RC.words t).length m) ∧ (RC.words t).length ≤ m ∧ Strs w'.heap.size w' (.slice a (RC.words t).length m) (RC.words t) ∧ Bl wr w') := fun o => actionWords_at t x c ((Bl.refl wr).alloc o) (hs.bl ((Bl.refl wr).alloc o)) ca2 ca4
          have CL : Hid (∀ (W' : World) (a : Option Addr) (m : Nat), (RC.words t).length ≤ m → Strs W'.heap.size W' (.slice a (RC.words t).length m) (RC.words t) → Bl wr W' → Calls Tryz.prog 79 #[.slice a (RC.words t).length m] W' fun e w' => e = .returned (.string (M.bs (RC.line (RC.words t)))) ∧ Bl wr w') := fun W' a m hm hs' hb' => line_at a m (RC.words t) hb' hs' hm hwn (by omega)
          have hz := M.bs_size (RC.line (RC.words t))
          generalize RC.line (RC.words t) = LN at *
          generalize RC.words t = WS at *
          clear ht hca ca1 ca2 ca3 ca4 hll hjl hr hs
          unfold acL at hi HR CW
          go_wp2_with (first
            | (refine wpList_load_mid rfl 43 _ rfl b (off + k * 3) rfl _ _ HR.out hum rfl hi ?_; clear HR)
            | (go_at_call 80; refine (CW.out _).mono ?_; rintro e w2 ⟨a2, m2, rfl, hm2, hs2, hb2⟩; clear CW)
            | (go_at_call 79; refine (CL.out _ _ _ hm2 hs2 hb2).mono ?_; rintro e w3 ⟨rfl, hb3⟩; have hbd3 := builder_below HBD.out hb3; have HB3 : Below w1.heap.size w1 w3 := HBE.out.trans (hb3.mono hsz); clear CL HBD hb3 hs2 hb2)
            | (go_at_call 56; refine (writeString _ _ _ _ _ hbd3 (by omega) HB3.size).mono ?_; rintro e w4 ⟨rfl, hbd4, hb4⟩; replace HB3 := HB3.trans hb4; clear hbd3 hb4))
          go_roundw
          case rel => exact ⟨k + 1, by omega, by go_num, by rw [HPS.out]; exact hbd4, HB3⟩
          case measure => simp [intOf]; omega
        · obtain rfl : k = A.length := by omega
          go_wp2_with (go_at_call 57; refine (Tryz.Builder_String_any _ _ _ _ HBD.out hsz).mono ?_; rintro e w3 ⟨rfl, HB3⟩)
          go_ret2
          exact ⟨by rw [← HPA.out]; rfl, HWW.out.step (HBE.out.trans HB3)⟩
end Go.Proofs.YtjbffhdccgmfpaaGreatDoor

/- What recipe.readCode answers. -/
namespace Go.Proofs.YtjbffhdccgmfpaaGreatDoor
open Go.RowKit
set_option linter.unusedVariables false

/-- what a reader of a text answers -/
def tbV : Option (List UInt8) → Value
  | none => .tuple #[.string ⟨#[]⟩, .bool false]
  | some c => .tuple #[.string (M.bs c), .bool true]
theorem readH_two (a b : UInt8) (r : List UInt8) (h1 : 0 ≤ RC.dig a) (h2 : 0 ≤ RC.dig b) : RC.readH (a :: b :: r) = (RC.readH r).map (fun c => UInt8.ofNat ((RC.dig a).toNat * 16 + (RC.dig b).toNat) :: c) := by
  rw [RC.readH]
  have e1 : decide (RC.dig a < 0) = false := by simp; omega
  have e2 : decide (RC.dig b < 0) = false := by simp; omega
  rw [e1, e2]
  simp only [Bool.or_self, Bool.false_eq_true, if_false]
  cases RC.readH r <;> rfl
theorem readH_no (a b : UInt8) (r : List UInt8) (h : RC.dig a < 0 ∨ RC.dig b < 0) : RC.readH (a :: b :: r) = none := by
  rw [RC.readH]
  rcases h with h | h <;> simp [h]
theorem dig_bd (c : UInt8) : -1 ≤ RC.dig c ∧ RC.dig c ≤ 15 := by
  have h : ∀ n : Fin 256, -1 ≤ RC.dig (UInt8.ofNat n.val) ∧ RC.dig (UInt8.ofNat n.val) ≤ 15 := by decide +kernel
  have := h ⟨c.toNat, c.toNat_lt⟩
  simpa using this
theorem or16 (x y : Int) (h1 : 0 ≤ x) (h2 : x ≤ 15) (h3 : 0 ≤ y) (h4 : y ≤ 15) : bits BinOp.or IntKind.i64 (x * 16) y % 256 = ((UInt8.ofNat (x.toNat * 16 + y.toNat)).toNat : Int) := by
  have h : ∀ a b : Fin 16, bits BinOp.or IntKind.i64 ((a.val : Int) * 16) (b.val : Int) % 256 = ((UInt8.ofNat (a.val * 16 + b.val)).toNat : Int) := by decide +kernel
  have := h ⟨x.toNat, by omega⟩ ⟨y.toNat, by omega⟩
  simp only [Int.toNat_of_nonneg h1, Int.toNat_of_nonneg h3] at this
  exact this
end Go.Proofs.YtjbffhdccgmfpaaGreatDoor

/- What recipe.readInputs and recipe.readAction answer. -/
namespace Go.Proofs.YtjbffhdccgmfpaaGreatDoor
open Go.RowKit
set_option linter.unusedVariables false

/-- texts as a slice: where they lie, and room -/
structure SX2 (W : World) (a : Option Addr) (n c : Nat) (l : List (List UInt8)) : Prop where
  v : Strs W.heap.size W (.slice a n c) l
  c : n ≤ c
theorem SX2.bl {W W' : World} {a : Option Addr} {n c : Nat} {l : List (List UInt8)} (h : SX2 W a n c l) (hb : Bl W W') : SX2 W' a n c l := ⟨h.v.bl hb, h.c⟩
theorem cloneS (b off c : Nat) (r : List (List UInt8)) {w W : World} (HB : Bl w W) (hr : ∀ i t, r[i]? = some t → W.cell? ⟨b, off + i, none⟩ = some (.string (M.bs t))) (hn : r.length ≤ 100000) :
    Calls Tryz.prog 81 #[.slice (some ⟨b, off, none⟩) r.length c] W fun e w' => ∃ a' c', e = .returned (.slice a' r.length c') ∧ w'.ownsRow W.heap.size 9 1 (.slice a' r.length c') r.length (r.map encS) ∧ Bl w w' := by
  refine (Tryz.slices_Clone_string b off r.length c (r.map M.bs) W (by simp) (by omega) (fun j hj => ?_)).mono ?_
  · simp only [List.length_map] at hj
    rw [hr j r[j] (List.getElem?_eq_getElem hj)]
    simp [List.getD_eq_getElem?_getD, List.getElem?_eq_getElem hj]
  · rintro e w' ⟨v', rfl, h1, _, h2⟩
    have h3 : w'.ownsRow W.heap.size 9 1 v' r.length (r.map encS) := by
      have e : (List.take r.length (r.map M.bs)).map Value.string = r.map encS := by
        rw [List.take_of_length_le (by simp), List.map_map]; rfl
      rw [e] at h1; exact h1
    obtain ⟨a', c', rfl, _, hs⟩ := Strs.ofOwns h3
    exact ⟨a', c', rfl, h3, HB.step h2⟩
theorem readIns_cons (f : List UInt8) (r : List (List UInt8)) : RC.readIns (f :: r) = if f = RC.wFrom ∧ r ≠ [] ∧ r.length ≤ 4 ∧ r.all RC.isNm = true then some r else none := rfl
theorem bs_eqW (a b : List UInt8) : ((M.bs a).toList == b) = decide (a = b) := by
  rw [Lib.toList_data, M.bs_toList]
  by_cases h : a = b
  · subst h; simp
  · simp [h]

end Go.Proofs.YtjbffhdccgmfpaaGreatDoor

/- What recipe.readAction answers. -/
namespace Go.Proofs.YtjbffhdccgmfpaaGreatDoor
open Go.RowKit
set_option linter.unusedVariables false

theorem results2_rowR {P : Program} {fn : Func} {p q : Tmp} {ty : TypeId} (h : fn.results = #[.cell p ty, .tmp q]) (tmps : Array Value) (w : World) (g : Nat) (t : TypeId) (cs : Array Value) (fr : Nat × Nat) (d : TypeDesc)
    (hp : tmps.getD p undef = .pointer (some ⟨g, 0, none⟩)) (hg : w.heap[g]? = some (.cells cs t fr))
    (hu : P.underlying ty = some d) (hd : (match d with | .struct _ | .array _ _ => true | _ => false) = true) (hi : (P.info? ty).map (·.size) = some cs.size) :
    (results fn tmps).run P w = .ok (.tuple #[.agg cs, tmps.getD q undef]) w := by
  have hp' : tmps[p]?.getD undef = .pointer (some ⟨g, 0, none⟩) := by simpa using hp
  simp [results, h, hp', asAddr, run_loadVar_row w g t ty cs fr d hg hu hd hi]
/-- no action -/
def zAc : Array Value := #[.string ⟨#[]⟩, .slice none 0 0, .string ⟨#[]⟩]
theorem infoAc3 : (Tryz.prog.info? 43).map (·.size) = some 3 := by kernel_rfl

theorem ownsRow_set {B n k g : Nat} {e : TypeId} {v : Value} {xs : List Value} {w : World} (h : w.ownsRow B e k v n xs) (hg : g < B) (cs : Array Value) : (w.setRow g cs).ownsRow B e k v n xs := by
  obtain ⟨h0, h1 | ⟨g', cap, cur, h1, h2, h3, h4⟩⟩ := h
  · exact ⟨h0, Or.inl h1⟩
  · refine ⟨h0, Or.inr ⟨g', cap, cur, h1, h2, ?_, h4⟩⟩
    show (w.heap.modify g _)[g']? = _
    rw [Array.getElem?_modify, if_neg (by omega)]; exact h3
theorem ownsRow_base {B B' n k : Nat} {e : TypeId} {v : Value} {xs : List Value} {w : World} (h : w.ownsRow B e k v n xs) (hB : B' ≤ B) : w.ownsRow B' e k v n xs := by
  obtain ⟨h0, h1 | ⟨g', cap, cur, h1, h2, h3⟩⟩ := h
  · exact ⟨h0, Or.inl h1⟩
  · exact ⟨h0, Or.inr ⟨g', cap, cur, h1, by omega, h3⟩⟩
theorem Bl.setRow {w0 w : World} (h : Bl w0 w) {g : Nat} (hg : w0.heap.size ≤ g) (cs : Array Value) : Bl w0 (w.setRow g cs) := below_setRow h hg cs

/-- what is known where an action's words are read -/
structure RA (w W : World) (x : List UInt8) (m : List (List UInt8)) (z : List UInt8) (b off c : Nat) : Prop where
  hb : b < W.heap.size
  h0 : W.cell? ⟨b, off, none⟩ = some (.string (M.bs x))
  h1 : W.cell? ⟨b, off + (m.length + 1), none⟩ = some (.string (M.bs RC.wBy))
  h2 : W.cell? ⟨b, off + (m.length + 2), none⟩ = some (.string (M.bs z))
  hm : ∀ i t, m[i]? = some t → W.cell? ⟨b, off + 1 + i, none⟩ = some (.string (M.bs t))
  hc : m.length + 3 ≤ c
  hx : x.length ≤ 100000
  hz : z.length ≤ 100000
  hl : ∀ t ∈ m, t.length ≤ 100000
  hn : m.length ≤ 90000
  nm : RC.isNm x = true
  bl : Bl w W
end Go.Proofs.YtjbffhdccgmfpaaGreatDoor

/- A build that is being read: recipe's draft in memory, and a source or an action more. -/
namespace Go.Proofs.YtjbffhdccgmfpaaGreatDoor
open Go.RowKit
set_option linter.unusedVariables false

theorem heap_setCell_rowR {w : World} {b i : Nat} {C : Array Value} {t : TypeId} {fr : Nat × Nat} {v : Value} (h : w.heap[b]? = some (.cells C t fr)) : (w.setCell ⟨b, i, none⟩ v).heap[b]? = some (.cells (C.setIfInBounds i v) t fr) := by
  show (w.heap.modify b _)[b]? = _
  rw [Array.getElem?_modify, if_pos rfl, h]; rfl
theorem heap_setCell_otherR {w : World} {b i k : Nat} {v : Value} (h : k ≠ b) : (w.setCell ⟨b, i, none⟩ v).heap[k]? = w.heap[k]? := by
  show (w.heap.modify b _)[k]? = _
  rw [Array.getElem?_modify, if_neg (by omega)]
theorem ownsRow_setC {B n k g i : Nat} {e : TypeId} {v : Value} {xs : List Value} {w : World} (h : w.ownsRow B e k v n xs) (hg : g < B) (u : Value) : (w.setCell ⟨g, i, none⟩ u).ownsRow B e k v n xs := by
  obtain ⟨h0, h1 | ⟨g', cap, cur, h1, h2, h3, h4⟩⟩ := h
  · exact ⟨h0, Or.inl h1⟩
  · exact ⟨h0, Or.inr ⟨g', cap, cur, h1, h2, by rw [heap_setCell_otherR (by omega)]; exact h3, h4⟩⟩
/-- a row of another type is not touched where a row grows -/
theorem ownsRow_grown {B n k n' k' : Nat} {e e' : TypeId} {v v' : Value} {xs xs' : List Value} {w w' : World} (h : w.ownsRow B e k v n xs) (h' : w.ownsRow B e' k' v' n' xs') (he : e ≠ e') (hg : w.grownBy w' v'.ownBlock) : w'.ownsRow B e k v n xs := by
  obtain ⟨h0, h1 | ⟨g, cap, cur, h1, h2, h3, h4⟩⟩ := h
  · exact ⟨h0, Or.inl h1⟩
  · refine ⟨h0, Or.inr ⟨g, cap, cur, h1, h2, ?_, h4⟩⟩
    rw [hg.block g (TA.lt_heap h3) ?_]
    · exact h3
    · intro hh
      obtain ⟨_, ⟨rfl, _⟩ | ⟨g2, cap2, cur2, rfl, _, h5, _⟩⟩ := h'
      · cases hh
      · simp only [Value.ownBlock, Option.some.injEq] at hh
        subst hh
        rw [h3] at h5
        simp only [Option.some.injEq, Obj.cells.injEq] at h5
        exact he h5.2.1

/-- actions' cells -/
def flatA (A : List RC.Ac) (xs : List (Option Addr × Nat)) : List Value := (List.zipWith (fun t p => acL t p.1 p.2) A xs).flatten
theorem flatA_snoc (A : List RC.Ac) (xs : List (Option Addr × Nat)) (t : RC.Ac) (p : Option Addr × Nat) (h : xs.length = A.length) : flatA (A ++ [t]) (xs ++ [p]) = flatA A xs ++ acL t p.1 p.2 := by
  unfold flatA
  rw [List.zipWith_append (by omega)]
  simp
theorem flatA_at : ∀ (A : List RC.Ac) (xs : List (Option Addr × Nat)) (i : Nat) (t : RC.Ac) (p : Option Addr × Nat), A[i]? = some t → xs[i]? = some p → ∀ j, j < 3 → (flatA A xs)[i * 3 + j]? = (acL t p.1 p.2)[j]?
  | [], _, i, t, p, h, _, j, hj => by simp at h
  | _ :: _, [], i, t, p, _, h, j, hj => by simp at h
  | u :: A, q :: xs, 0, t, p, h, h', j, hj => by
    simp at h h'; subst h; subst h'
    simp only [flatA, List.zipWith_cons_cons, List.flatten_cons, Nat.zero_mul, Nat.zero_add]
    rw [List.getElem?_append_left (by simp [acL]; omega)]
  | u :: A, q :: xs, i + 1, t, p, h, h', j, hj => by
    have ih := flatA_at A xs i t p (by simpa using h) (by simpa using h') j hj
    simp only [flatA, List.zipWith_cons_cons, List.flatten_cons] at ih ⊢
    rw [List.getElem?_append_right (by simp [acL]; omega)]
    rw [show (i + 1) * 3 + j - (acL u q.1 q.2).length = i * 3 + j by simp [acL]; omega]
    exact ih
theorem own_shape {N n k : Nat} {e : TypeId} {v : Value} {xs : List Value} {W : World} (h : W.ownsRow N e k v n xs) : ∃ a c, v = .slice a n c := by
  obtain ⟨_, ⟨rfl, rfl⟩ | ⟨g, cap, cur, rfl, _⟩⟩ := h
  · exact ⟨none, 0, rfl⟩
  · exact ⟨_, _, rfl⟩
end Go.Proofs.YtjbffhdccgmfpaaGreatDoor
