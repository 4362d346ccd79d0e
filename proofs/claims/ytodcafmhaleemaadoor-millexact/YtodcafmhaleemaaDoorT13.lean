/- What mill.Run answers. -/
import Derived.Test.YtodcafmhaleemaaDoorT12
namespace Go.Proofs.YtodcafmhaleemaaDoor
open Go.RowKit
set_option linter.unusedVariables false

def wideM (l : List (List UInt8)) : Bool := l.any (fun t => decide (512 < t.length))
theorem wideM_at {l : List (List UInt8)} {k : Nat} {t : List UInt8} (ht : l[k]? = some t) (h : 512 < t.length) : wideM l = true := by
  unfold wideM; rw [List.any_eq_true]; exact ⟨t, List.mem_of_getElem? ht, by simpa using h⟩
theorem wideM_none {l : List (List UInt8)} (h : ∀ (j : Nat) t, j < l.length → l[j]? = some t → ¬ 512 < t.length) : wideM l = false := by
  unfold wideM
  rw [List.any_eq_false]
  intro t hm
  obtain ⟨j, hj, e⟩ := List.getElem_of_mem hm
  have := h j l[j] hj (List.getElem?_eq_getElem hj)
  rw [e] at this
  simpa using this
set_option maxRecDepth 8000 in
set_option maxHeartbeats 1000000 in
theorem IndexW_at (a : Option Addr) (c : Nat) (l : List (List UInt8)) (W : World) (h : TX W a l) (hn : l.length ≤ 1000) (hl : ∀ t ∈ l, t.length ≤ 9223372036854775807) :
    Calls Tryd.prog 25 #[.slice a l.length c, .func (.func 17) #[] #[]] W fun e w' => ∃ z : Int, e = .returned (.int .i64 z) ∧ decide (0 ≤ z) = wideM l ∧ w' = W := by
  have HT : Hid (TX W a l) := h
  have HL : Hid (∀ t ∈ l, t.length ≤ 9223372036854775807) := hl
  clear h hl
  go_enter Tryd.func25, Tryd.ntmps25
  go_wp2_with fail
  go_loopw [5, 8] (fun u5 u8 wr => ∃ k : Nat, k ≤ l.length ∧ u8 = .int .i64 k ∧ wr = W ∧ ∀ (j : Nat) t, j < k → l[j]? = some t → ¬ 512 < t.length) (fun _ u8 _ => l.length - (intOf u8).toNat)
  case atStart => exact ⟨0, Nat.zero_le _, rfl, rfl, fun j t hj => by omega⟩
  case round =>
    obtain ⟨k, hk, rfl, rfl, hpre⟩ := hrel
    have HP : Hid (∀ (j : Nat) t, j < k → l[j]? = some t → ¬ 512 < t.length) := hpre
    clear hpre
    by_cases hlt : k < l.length
    · obtain ⟨t, ht⟩ : ∃ t, l[k]? = some t := ⟨l[k], List.getElem?_eq_getElem hlt⟩
      obtain ⟨sb, off, rfl, hsb, hc⟩ := HT.out k t ht
      have i0 : (0 : Int) ≤ (k : Int) := by omega
      have i1 : (k : Int) < (l.length : Int) := by omega
      have CW : Hid (Calls Tryd.prog 17 #[.string (M.bs t)] wr fun e w' => e = .returned (.bool (decide (512 < t.length))) ∧ w' = wr) := wide_is t (HL.out t (List.mem_of_getElem? ht)) wr
      by_cases hts : 512 < t.length
      · rw [decide_eq_true hts] at CW
        have HF : Hid (wideM l = true) := wideM_at ht hts
        clear hts ht
        go_wp2_with (go_at_call 17; refine CW.out.mono ?_; rintro e w' ⟨rfl, rfl⟩)
        go_ret
        exact ⟨_, rfl, by rw [HF.out]; simp, rfl⟩
      · rw [decide_eq_false hts] at CW
        have HN : Hid (∀ (j : Nat) t, j < k + 1 → l[j]? = some t → ¬ 512 < t.length) := fun j t' hj ht' => by
          rcases (by omega : j < k ∨ j = k) with h' | rfl
          · exact HP.out j t' h' ht'
          · rw [ht] at ht'; cases ht'; exact hts
        clear hts ht
        go_wp2_with (go_at_call 17; refine CW.out.mono ?_; rintro e w' ⟨rfl, rfl⟩)
        go_roundw
        case rel => exact ⟨k + 1, by omega, by go_num, (by first | exact trivial | rfl), HN.out⟩
        case measure => simp [intOf]; omega
    · obtain rfl : k = l.length := by omega
      have HF : Hid (wideM l = false) := wideM_none HP.out
      go_wp2_with fail
      go_ret
      exact ⟨_, rfl, by rw [HF.out]; rfl, rfl⟩
theorem ContainsW_at (a : Option Addr) (c : Nat) (l : List (List UInt8)) (W : World) (h : TX W a l) (hn : l.length ≤ 1000) (hl : ∀ t ∈ l, t.length ≤ 9223372036854775807) :
    Calls Tryd.prog 16 #[.slice a l.length c, .func (.func 17) #[] #[]] W fun e w' => e = .returned (.bool (wideM l)) ∧ w' = W := by
  have CI : Hid (Calls Tryd.prog 25 #[.slice a l.length c, .func (.func 17) #[] #[]] W fun e w' => ∃ z : Int, e = .returned (.int .i64 z) ∧ decide (0 ≤ z) = wideM l ∧ w' = W) := IndexW_at a c l W h hn hl
  clear h hl
  generalize wideM l = q at *
  go_enter Tryd.func16, Tryd.ntmps16
  go_wp2_with (go_at_call 25; refine CI.out.mono ?_; rintro e w' ⟨z, rfl, hz, rfl⟩)
  go_ret
  exact ⟨by first | rfl | rw [← hz]; rfl, rfl⟩

/-- an answer of mill.Run -/
def runV (R : Q.Re) : Value := .tuple #[.agg #[.int .i64 (R.code : Int), .string (M.bs R.blob)], .int .i64 (R.n : Int)]
theorem results2_rowM {P : Program} {fn : Func} {p q : Tmp} {ty : TypeId} (h : fn.results = #[.cell p ty, .tmp q]) (tmps : Array Value) (w : World) (g : Nat) (t : TypeId) (cs : Array Value) (fr : Nat × Nat) (d : TypeDesc)
    (hp : tmps.getD p undef = .pointer (some ⟨g, 0, none⟩)) (hg : w.heap[g]? = some (.cells cs t fr))
    (hu : P.underlying ty = some d) (hd : (match d with | .struct _ | .array _ _ => true | _ => false) = true) (hi : (P.info? ty).map (·.size) = some cs.size) :
    (results fn tmps).run P w = .ok (.tuple #[.agg cs, tmps.getD q undef]) w := by
  have hp' : tmps[p]?.getD undef = .pointer (some ⟨g, 0, none⟩) := by simpa using hp
  simp [results, h, hp', asAddr, run_loadVar_row w g t ty cs fr d hg hu hd hi]
theorem GB.set {w W : World} {b : Nat} (h : GB w W) (h1 : w.heap.size ≤ b) (h2 : 2 ≤ b) (i : Nat) (v : Value) : GB w (W.setCell ⟨b, i, none⟩ v) :=
  ⟨h.g.below (Below.setCell (Below.refl b W) (Nat.le_refl _) _) h2, h.b.trans (Below.setCell (Below.refl _ W) h1 _)⟩
theorem GB.drew {w W : World} (h : GB w W) : GB w W.drew := h.step (Below.refl _ _).drew
theorem infoRes : (Tryd.prog.info? 26).map (·.size) = some 2 := by kernel_rfl
theorem undRes : ∃ fs, Tryd.prog.underlying 26 = some (.struct fs) := ⟨_, Tryd.underlying26⟩
set_option maxRecDepth 8000 in
set_option maxHeartbeats 2000000 in
theorem Run_at {w W : World} (code : List UInt8) (ins : List (List UInt8)) (a : Option Addr) (c : Nat) (hg : GB w W) (hT : Tab W) (hx : TX W a ins) (hl : code.length ≤ 9223372036854775807) (hn : ins.length ≤ 9223372036854775807) (hil : ∀ t ∈ ins, t.length ≤ 9223372036854775807) :
    Calls Tryd.prog 10 #[.string (M.bs code), .slice a ins.length c] W fun e w' => e = .returned (runV (Q.run code ins)) ∧ GB w w' := by
  have hs := M.bs_size code
  obtain ⟨fs, hum⟩ := undRes
  have HG : Hid (GB w (W.alloc (.cells #[.int .i64 4, .string ⟨#[]⟩] 26))) := hg.alloc _
  by_cases h1 : 64 < code.length
  · have e : Q.run code ins = ⟨4, [], 0⟩ := by unfold Q.run; rw [if_pos (Or.inl h1)]
    rw [e]
    clear e hg hx hil hT
    go_enter Tryd.func10, Tryd.ntmps10
    go_wp2_with fail
    refine bodyPost_ret (results2_rowM rfl _ _ W.heap.size 26 _ (0, 0) _ rfl (heap_alloc_new _ _) hum rfl infoRes) rfl ?_
    exact ⟨rfl, HG.out⟩
  · by_cases h2 : 4 < ins.length
    · have e : Q.run code ins = ⟨4, [], 0⟩ := by unfold Q.run; rw [if_pos (Or.inr (Or.inl h2))]
      rw [e]
      clear e hg hx hil hT
      go_enter Tryd.func10, Tryd.ntmps10
      go_wp2_with fail
      refine bodyPost_ret (results2_rowM rfl _ _ W.heap.size 26 _ (0, 0) _ rfl (heap_alloc_new _ _) hum rfl infoRes) rfl ?_
      exact ⟨rfl, HG.out⟩
    · obtain ⟨W0, hW0⟩ : ∃ W0, W0 = W.alloc (.cells #[.int .i64 0, .string ⟨#[]⟩] 26) := ⟨_, rfl⟩
      have hb0 : Below W.heap.size W W0 := by rw [hW0]; exact (Below.refl _ W).alloc (Nat.le_refl _) _
      have hsz0 : W0.heap.size = W.heap.size + 1 := by rw [hW0]; simp
      have hx0 : TX W0 a ins := fun i t ht => by
        obtain ⟨sb, off, h3, h4, h5⟩ := hx i t ht
        exact ⟨sb, off, h3, by omega, by rw [hb0.cell (p := ⟨sb, off + i, none⟩) h4]; exact h5⟩
      have CC : Hid (Calls Tryd.prog 16 #[.slice a ins.length c, .func (.func 17) #[] #[]] (W.alloc (.cells #[.int .i64 0, .string ⟨#[]⟩] 26)) fun e w' => e = .returned (.bool (wideM ins)) ∧ w' = W.alloc (.cells #[.int .i64 0, .string ⟨#[]⟩] 26)) := by
        rw [← hW0]; exact ContainsW_at a c ins W0 hx0 (by omega) hil
      cases h3 : wideM ins with
      | true =>
        have e : Q.run code ins = ⟨4, [], 0⟩ := by unfold Q.run; rw [if_pos (Or.inr (Or.inr (show (ins.any fun t => decide (512 < t.length)) = true from h3)))]
        rw [e]
        rw [h3] at CC
        clear e hg hx hil hT hW0 hb0 hsz0 hx0 h3
        go_enter Tryd.func10, Tryd.ntmps10
        go_wp2_with (go_at_call 16; refine CC.out.mono ?_; clear CC; rintro e w' ⟨rfl, rfl⟩)
        refine bodyPost_ret (results2_rowM rfl _ _ W.heap.size 26 _ (0, 0) _ rfl (heap_alloc_new _ _) hum rfl infoRes) rfl ?_
        exact ⟨rfl, HG.out⟩
      | false =>
        have e : Q.run code ins = Q.runF code ins 301 ⟨[], 0, 0⟩ := by
          unfold Q.run
          rw [if_neg]
          rintro (h | h | h)
          · exact h1 h
          · exact h2 h
          · unfold wideM at h3; rw [h] at h3; cases h3
        rw [e]
        rw [h3] at CC
        have hil2 : ∀ t ∈ ins, t.length ≤ 512 := fun t ht => by
          unfold wideM at h3
          rw [List.any_eq_false] at h3
          have := h3 t ht
          simp at this; omega
        have hG0 : GW W0 := by rw [hW0]; exact (hg.alloc _).g
        have hT0 : Tab W0 := hT.below hb0
        have hz := hG0.z
        obtain ⟨W1, hW1⟩ : ∃ W1, W1 = W0.alloc (.cells #[.slice none 0 0, .string (M.bs code), .slice a ins.length c, .int .i64 0, .int .i64 0] 45) := ⟨_, rfl⟩
        have hm : MX W0 W0.heap.size code a c ins ⟨[], 0, 0⟩ W1 := by
          refine ⟨.slice none 0 0, ?_, World.ownsRow_nil _ _ _ _, ?_, Nat.le_refl _, hz, ?_⟩
          · rw [hW1]; exact heap_alloc_new _ _
          · rw [hW1]; exact (GB.refl hG0).alloc _
          · exact ⟨by simp, fun t ht => by cases ht⟩
        have hz1 : w.heap.size ≤ W.heap.size := hg.b.size
        have hz2 : 2 ≤ W.heap.size := hg.g.z
        have HGW : Hid (∀ W2, GB W0 W2 → GB w W2) := fun W2 h => by
          refine ⟨h.g, hg.b.trans ((hb0.mono (hg.b.size)).trans (h.b.mono ?_))⟩
          have := hg.b.size
          omega
        have hrow0 : W0.heap[W.heap.size]? = some (.cells #[.int .i64 0, .string ⟨#[]⟩] 26 (0, 0)) := by rw [hW0]; exact heap_alloc_new _ _
        have CR : Hid (Calls Tryd.prog 18 #[.pointer (some ⟨W.heap.size + 1, 0, none⟩)] ((W.alloc (.cells #[.int .i64 0, .string ⟨#[]⟩] 26)).alloc (.cells #[.slice none 0 0, .string (M.bs code), .slice a ins.length c, .int .i64 0, .int .i64 0] 45)) fun e w' => e = .returned (reV (Q.runF code ins 301 ⟨[], 0, 0⟩)) ∧ w'.cell? ⟨W.heap.size + 1, 4, none⟩ = some (.int .i64 ((Q.runF code ins 301 ⟨[], 0, 0⟩).n : Int)) ∧ w'.heap[W.heap.size]? = some (.cells #[.int .i64 0, .string ⟨#[]⟩] 26 (0, 0)) ∧ GB W0 w') := by
          rw [← hW0, ← hW1]
          rw [hsz0] at hm
          refine (run_at hm ⟨hx0, by omega, hil2⟩ hT0 (by omega)).mono ?_
          rintro e w' ⟨rfl, m, ⟨v, hs'⟩, hmn⟩
          refine ⟨rfl, by rw [hs'.m4, hmn], ?_, hs'.g⟩
          rw [hs'.g.b.block _ (by omega)]; exact hrow0
        generalize Q.runF code ins 301 ⟨[], 0, 0⟩ = R at *
        unfold reV at CR
        clear e hg hx hil hT hb0 hx0 h3 hil2 hG0 hT0 hm hrow0 hW1 hW0 HG hz hsz0
        go_enter Tryd.func10, Tryd.ntmps10
        go_wp2_with (first
          | (go_at_call 16; refine CC.out.mono ?_; clear CC; rintro e w' ⟨rfl, rfl⟩)
          | (go_at_call 18; refine CR.out.mono ?_; clear CR; rintro e w' ⟨rfl, k4, hrow, HE⟩))
        have r0 : w'.cell? ⟨W.heap.size, 0, none⟩ = some (.int .i64 0) := by simp [World.cell?, hrow]
        have r1 : w'.cell? ⟨W.heap.size, 1, none⟩ = some (.string ⟨#[]⟩) := by simp [World.cell?, hrow]
        have f0 := frozen_rowM hrow
        have HRW : Hid _ := hrow
        clear hrow
        go_region
        go_wp2_with fail
        refine bodyPost_ret (results2_rowM rfl _ _ W.heap.size 26 _ (0, 0) _ rfl (heap_setCell_rowM (heap_setCell_rowM HRW.out)) hum rfl infoRes) rfl ?_
        refine ⟨rfl, ?_⟩
        exact (((HGW.out _ HE).set hz1 hz2 0 _).set hz1 hz2 1 _).drew
end Go.Proofs.YtodcafmhaleemaaDoor
