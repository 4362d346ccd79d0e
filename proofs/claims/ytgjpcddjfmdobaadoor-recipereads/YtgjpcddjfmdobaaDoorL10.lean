/- What recipe.readAction answers. -/
import Derived.Test.YtgjpcddjfmdobaaDoorL9
import Derived.Deep.WholeRow
import Derived.Laws.CopyOwn
namespace Go.Proofs.YtgjpcddjfmdobaaDoor
open Go.RowKit
set_option linter.unusedVariables false

theorem results2_rowR {P : Program} {fn : Func} {p q : Tmp} {ty : TypeId} (h : fn.results = #[.cell p ty, .tmp q]) (tmps : Array Value) (w : World) (g : Nat) (t : TypeId) (cs : Array Value) (fr : Nat × Nat) (d : TypeDesc)
    (hp : tmps.getD p undef = .pointer (some ⟨g, 0, none⟩)) (hg : w.heap[g]? = some (.cells cs t fr))
    (hu : P.underlying ty = some d) (hd : (match d with | .struct _ | .array _ _ => true | _ => false) = true) (hi : (P.info? ty).map (·.size) = some cs.size) :
    (results fn tmps).run P w = .ok (.tuple #[.agg cs, tmps.getD q undef]) w := by
  have hp' : tmps[p]?.getD undef = .pointer (some ⟨g, 0, none⟩) := by simpa using hp
  simp [results, h, hp', asAddr, run_loadVar_row w g t ty cs fr d hg hu hd hi]
/-- no action -/
def zAc : Array Value := #[.string ⟨#[]⟩, .slice none 0 0, .string ⟨#[]⟩]
theorem infoAc3 : (Tryd.prog.info? 42).map (·.size) = some 3 := by kernel_rfl

theorem ownsRow_set {B n k g : Nat} {e : TypeId} {v : Value} {xs : List Value} {w : World} (h : w.ownsRow B e k v n xs) (hg : g < B) (cs : Array Value) : (w.setRow g cs).ownsRow B e k v n xs := by
  obtain ⟨h0, h1 | ⟨g', cap, cur, h1, h2, h3, h4⟩⟩ := h
  · exact ⟨h0, Or.inl h1⟩
  · refine ⟨h0, Or.inr ⟨g', cap, cur, h1, h2, ?_, h4⟩⟩
    show (w.heap.modify g _)[g']? = _
    rw [Array.getElem?_modify, if_neg (by omega)]; exact h3
theorem ownsRow_base {B B' n k : Nat} {e : TypeId} {v : Value} {xs : List Value} {w : World} (h : w.ownsRow B e k v n xs) (hB : B' ≤ B) : w.ownsRow B' e k v n xs := by
  obtain ⟨h0, h1 | ⟨g', cap, cur, h1, h2, h3⟩⟩ := h
  · exact ⟨h0, Or.inl h1⟩
  · exact ⟨h0, Or.inr ⟨g', cap, cur, h1, by omega, h3⟩⟩
theorem Bl.setRow {w0 w : World} (h : Bl w0 w) {g : Nat} (hg : w0.heap.size ≤ g) (cs : Array Value) : Bl w0 (w.setRow g cs) := below_setRow h hg cs

set_option maxRecDepth 8000 in
set_option maxHeartbeats 2000000 in
theorem readAction_short (ws : List (List UInt8)) (a : Option Addr) (c : Nat) {w W : World} (HB : Bl w W) (h : ws.length < 3) :
    Calls Tryd.prog 55 #[.slice a ws.length c] W fun e w' => e = .returned (.tuple #[.agg zAc, .bool false]) ∧ Bl w w' := by
  have HB0 : Hid (∀ o, Bl w (W.alloc o)) := fun o => HB.alloc o
  clear HB
  have hn : (ws.length : Int) - 2 < 1 := by omega
  unfold zAc
  go_enter Tryd.func55, Tryd.ntmps55
  go_wp2_with fail
  exact bodyPost_ret (v := .tuple #[.agg #[.string ⟨#[]⟩, .slice none 0 0, .string ⟨#[]⟩], .bool false]) (by simp [results, Tryd.results55, go_sem]) rfl ⟨rfl, HB0.out _⟩

set_option maxRecDepth 8000 in
set_option maxHeartbeats 2000000 in
theorem readAction_bad (x : List UInt8) (m : List (List UInt8)) (y z : List UInt8) (b off c : Nat) {w W : World} (HB : Bl w W) (hv : ∀ i t, (x :: (m ++ [y, z]))[i]? = some t → b < W.heap.size ∧ W.cell? ⟨b, off + i, none⟩ = some (.string (M.bs t))) (hc : m.length + 3 ≤ c) (hl : ∀ t ∈ x :: (m ++ [y, z]), t.length ≤ 100000) (hn : m.length ≤ 90000) (hq : y ≠ RC.wBy ∨ RC.isNm x = false) :
    Calls Tryd.prog 55 #[.slice (some ⟨b, off, none⟩) (m.length + 3) c] W fun e w' => e = .returned (.tuple #[.agg zAc, .bool false]) ∧ Bl w w' := by
  have HB0 : Hid (∀ o, Bl w (W.alloc o)) := fun o => HB.alloc o
  obtain ⟨hb, h0⟩ := hv 0 x rfl
  rw [Nat.add_zero] at h0
  have h1 := (hv (m.length + 1) y (by rw [List.getElem?_cons_succ, List.getElem?_append_right (Nat.le_refl _)]; simp)).2
  have h2 := (hv (m.length + 2) z (by rw [List.getElem?_cons_succ, List.getElem?_append_right (by omega)]; simp)).2
  have hA : ∀ o p, (W.alloc o).cell? ⟨b, p, none⟩ = W.cell? ⟨b, p, none⟩ := fun o p => ((Below.refl _ W).alloc (Nat.le_refl _) o).cell (p := ⟨b, p, none⟩) hb
  have CI : Hid (∀ W', Calls Tryd.prog 15 #[.string (M.bs x)] W' fun e w' => e = .returned (.bool (RC.isNm x)) ∧ w' = W') := fun W' => IsName_at x W' (by have := hl x (by simp); unfold maxLen; omega)
  have hne := bs_eqW y RC.wBy
  unfold RC.wBy at hne
  have hm1 : ((m.length + 3 : Nat) : Int) - 2 = ((m.length + 1 : Nat) : Int) := by omega
  clear HB hv hl
  unfold zAc
  by_cases c1 : y = RC.wBy
  · have c2 : RC.isNm x = false := by rcases hq with h | h; exact absurd c1 h; exact h
    rw [c2] at CI
    rw [decide_eq_true (show y = [98, 121] from c1)] at hne
    clear c1 c2 hq
    go_enter Tryd.func55, Tryd.ntmps55
    go_wp2_with (go_at_call 15; refine (CI.out _).mono ?_; rintro e w' ⟨rfl, rfl⟩)
    exact bodyPost_ret (v := .tuple #[.agg #[.string ⟨#[]⟩, .slice none 0 0, .string ⟨#[]⟩], .bool false]) (by simp [results, Tryd.results55, go_sem]) rfl ⟨rfl, HB0.out _⟩
  · rw [decide_eq_false (show ¬ y = [98, 121] from c1)] at hne
    clear c1 hq CI
    go_enter Tryd.func55, Tryd.ntmps55
    go_wp2_with fail
    exact bodyPost_ret (v := .tuple #[.agg #[.string ⟨#[]⟩, .slice none 0 0, .string ⟨#[]⟩], .bool false]) (by simp [results, Tryd.results55, go_sem]) rfl ⟨rfl, HB0.out _⟩

/-- what is known where an action's words are read -/
structure RA (w W : World) (x : List UInt8) (m : List (List UInt8)) (z : List UInt8) (b off c : Nat) : Prop where
  hb : b < W.heap.size
  h0 : W.cell? ⟨b, off, none⟩ = some (.string (M.bs x))
  h1 : W.cell? ⟨b, off + (m.length + 1), none⟩ = some (.string (M.bs RC.wBy))
  h2 : W.cell? ⟨b, off + (m.length + 2), none⟩ = some (.string (M.bs z))
  hm : ∀ i t, m[i]? = some t → W.cell? ⟨b, off + 1 + i, none⟩ = some (.string (M.bs t))
  hc : m.length + 3 ≤ c
  hx : x.length ≤ 100000
  hz : z.length ≤ 100000
  hl : ∀ t ∈ m, t.length ≤ 100000
  hn : m.length ≤ 90000
  nm : RC.isNm x = true
  bl : Bl w W
set_option maxRecDepth 8000 in
set_option maxHeartbeats 2000000 in
theorem readAction_ins (x : List UInt8) (m : List (List UInt8)) (z : List UInt8) (b off c : Nat) {w W : World} (h : RA w W x m z b off c) (hq : RC.readIns m = none) :
    Calls Tryd.prog 55 #[.slice (some ⟨b, off, none⟩) (m.length + 3) c] W fun e w' => e = .returned (.tuple #[.agg zAc, .bool false]) ∧ Bl w w' := by
  obtain ⟨hb, h0, h1, h2, hm, hc, hx, hz, hl, hn, nm, HB⟩ := h
  have hA : ∀ o p, (W.alloc o).cell? ⟨b, p, none⟩ = W.cell? ⟨b, p, none⟩ := fun o p => ((Below.refl _ W).alloc (Nat.le_refl _) o).cell (p := ⟨b, p, none⟩) hb
  have CI : Hid (∀ W', Calls Tryd.prog 15 #[.string (M.bs x)] W' fun e w' => e = .returned (.bool true) ∧ w' = W') := fun W' => by rw [← nm]; exact IsName_at x W' (by unfold maxLen; omega)
  have hne : ((M.bs RC.wBy).toList == [98, 121]) = true := by rw [bs_eqW]; rfl
  have hsx : ∀ o, SX2 (W.alloc o) (some ⟨b, off + 1, none⟩) m.length (c - 1) m := fun o => ⟨Or.inr ⟨b, off + 1, c - 1, rfl, by simp; omega, fun i t ht => by rw [hA]; exact hm i t ht⟩, by omega⟩
  have HZ0 : Hid (∀ W', Bl (W.alloc (.cells zAc 42)) W' → W'.heap[W.heap.size]? = some (.cells zAc 42 (0, 0))) := fun W' h => by
    rw [Below.block h W.heap.size (by simp)]; exact heap_alloc_new W _
  have hbl : Bl w (W.alloc (.cells zAc 42)) := HB.alloc _
  have hws : w.heap.size ≤ W.heap.size := Below.size HB
  have hcc : ∀ W' p, Bl (W.alloc (.cells zAc 42)) W' → W'.cell? ⟨b, p, none⟩ = W.cell? ⟨b, p, none⟩ := fun W' p h => by
    rw [Bl.cell h (by simp; omega)]; exact hA _ p
  obtain ⟨fs, hum⟩ := undAc
  have CR : Hid (Calls Tryd.prog 66 #[.slice (some ⟨b, off + 1, none⟩) m.length (c - 1)] (W.alloc (.cells zAc 42)) fun e w' => e = .returned (.tuple #[.slice none 0 0, .bool false]) ∧ Bl (W.alloc (.cells zAc 42)) w') :=
    readInputs_none m _ _ (Bl.refl _) (hsx _) (fun t ht => by have := hl t ht; unfold maxLen; omega) (by omega) hq
  have HFN : Hid (∀ W', Bl (W.alloc (.cells zAc 42)) W' → Bl w (W'.setRow W.heap.size zAc)) := fun W' h => (hbl.step h).setRow hws _
  clear hm hsx hl nm HB hq hbl hcc
  unfold zAc at CR HZ0 HFN ⊢
  go_enter Tryd.func55, Tryd.ntmps55
  go_wp2_with (first
    | (go_at_call 15; refine (CI.out _).mono ?_; rintro e w' ⟨rfl, rfl⟩)
    | (go_at_call 66; refine CR.out.mono ?_; rintro e w2 ⟨rfl, hb2⟩; have HH := HZ0.out _ hb2; have HF := HFN.out _ hb2; clear CR HZ0 HFN hb2)
    | (refine wpList_store_row rfl 42 _ _ rfl W.heap.size #[.string ⟨#[]⟩, .slice none 0 0, .string ⟨#[]⟩] rfl rfl 42 _ HH infoAc3 rfl (by simp [Value.oneCell']) ?_))
  (try simp only [Exit.inBlock, Exit.then])
  exact bodyPost_ret (results2_rowR rfl _ _ _ 42 #[.string ⟨#[]⟩, .slice none 0 0, .string ⟨#[]⟩] (0, 0) _ rfl (setRow_heap _ _ _ _ _ _ HH) hum rfl infoAc3) rfl ⟨rfl, HF⟩

set_option maxRecDepth 8000 in
set_option maxHeartbeats 2000000 in
theorem readAction_code (x : List UInt8) (m ins : List (List UInt8)) (z : List UInt8) (b off c : Nat) {w W : World} (h : RA w W x m z b off c) (hq : RC.readIns m = some ins) (hr : RC.readC z = none) :
    Calls Tryd.prog 55 #[.slice (some ⟨b, off, none⟩) (m.length + 3) c] W fun e w' => e = .returned (.tuple #[.agg zAc, .bool false]) ∧ Bl w w' := by
  obtain ⟨hb, h0, h1, h2, hm, hc, hx, hz, hl, hn, nm, HB⟩ := h
  have hA : ∀ o p, (W.alloc o).cell? ⟨b, p, none⟩ = W.cell? ⟨b, p, none⟩ := fun o p => ((Below.refl _ W).alloc (Nat.le_refl _) o).cell (p := ⟨b, p, none⟩) hb
  have CI : Hid (∀ W', Calls Tryd.prog 15 #[.string (M.bs x)] W' fun e w' => e = .returned (.bool true) ∧ w' = W') := fun W' => by rw [← nm]; exact IsName_at x W' (by unfold maxLen; omega)
  have hne : ((M.bs RC.wBy).toList == [98, 121]) = true := by rw [bs_eqW]; rfl
  have hsx : ∀ o, SX2 (W.alloc o) (some ⟨b, off + 1, none⟩) m.length (c - 1) m := fun o => ⟨Or.inr ⟨b, off + 1, c - 1, rfl, by simp; omega, fun i t ht => by rw [hA]; exact hm i t ht⟩, by omega⟩
  have HZ0 : Hid (∀ W', Bl (W.alloc (.cells zAc 42)) W' → W'.heap[W.heap.size]? = some (.cells zAc 42 (0, 0))) := fun W' h => by
    rw [Below.block h W.heap.size (by simp)]; exact heap_alloc_new W _
  have hbl : Bl w (W.alloc (.cells zAc 42)) := HB.alloc _
  have hws : w.heap.size ≤ W.heap.size := Below.size HB
  have hcc : ∀ W' p, Bl (W.alloc (.cells zAc 42)) W' → W'.cell? ⟨b, p, none⟩ = W.cell? ⟨b, p, none⟩ := fun W' p h => by
    rw [Bl.cell h (by simp; omega)]; exact hA _ p
  obtain ⟨fs, hum⟩ := undAc
  have CR : Hid (Calls Tryd.prog 66 #[.slice (some ⟨b, off + 1, none⟩) m.length (c - 1)] (W.alloc (.cells zAc 42)) fun e w' => ∃ a' c', e = .returned (.tuple #[.slice a' ins.length c', .bool true]) ∧ w'.ownsRow (W.alloc (.cells zAc 42)).heap.size 9 1 (.slice a' ins.length c') ins.length (ins.map encS) ∧ Bl (W.alloc (.cells zAc 42)) w') :=
    readInputs_some m ins _ _ (Bl.refl _) (hsx _) (fun t ht => by have := hl t ht; unfold maxLen; omega) (by omega) hq
  have CC : Hid (∀ W', Bl (W.alloc (.cells zAc 42)) W' → Calls Tryd.prog 67 #[.string (M.bs z)] W' fun e w' => e = .returned (.tuple #[.string ⟨#[]⟩, .bool false]) ∧ Bl (W.alloc (.cells zAc 42)) w') := fun W' h' => by
    have := readCode_at z h' hz
    rw [hr] at this
    exact this
  have HFN : Hid (∀ W', Bl (W.alloc (.cells zAc 42)) W' → Bl w (W'.setRow W.heap.size zAc)) := fun W' h => (hbl.step h).setRow hws _
  have HC2 : Hid (∀ W', Bl (W.alloc (.cells zAc 42)) W' → W'.cell? ⟨b, off + (m.length + 2), none⟩ = some (.string (M.bs z))) := fun W' h => by rw [hcc W' _ h]; exact h2
  clear hm hsx hl nm HB hq hbl hcc hr
  unfold zAc at CR CC HZ0 HFN HC2 ⊢
  go_enter Tryd.func55, Tryd.ntmps55
  go_wp2_with (first
    | (go_at_call 15; refine (CI.out _).mono ?_; rintro e w' ⟨rfl, rfl⟩)
    | (go_at_call 66; refine CR.out.mono ?_; rintro e w2 ⟨a2, c2, rfl, _, hb2⟩; have hz2 := HC2.out _ hb2; clear CR HC2)
    | (go_at_call 67; refine (CC.out _ hb2).mono ?_; rintro e w3 ⟨rfl, hb3⟩; have HH := HZ0.out _ hb3; have HF := HFN.out _ hb3; clear CC HZ0 HFN hb3 hb2)
    | (refine wpList_store_row rfl 42 _ _ rfl W.heap.size #[.string ⟨#[]⟩, .slice none 0 0, .string ⟨#[]⟩] rfl rfl 42 _ HH infoAc3 rfl (by simp [Value.oneCell']) ?_))
  (try simp only [Exit.inBlock, Exit.then])
  exact bodyPost_ret (results2_rowR rfl _ _ _ 42 #[.string ⟨#[]⟩, .slice none 0 0, .string ⟨#[]⟩] (0, 0) _ rfl (setRow_heap _ _ _ _ _ _ HH) hum rfl infoAc3) rfl ⟨rfl, HF⟩

set_option maxRecDepth 8000 in
set_option maxHeartbeats 2000000 in
theorem readAction_yes (x : List UInt8) (m ins : List (List UInt8)) (z code : List UInt8) (b off c : Nat) {w W : World} (h : RA w W x m z b off c) (hq : RC.readIns m = some ins) (hr : RC.readC z = some code) :
    Calls Tryd.prog 55 #[.slice (some ⟨b, off, none⟩) (m.length + 3) c] W fun e w' => ∃ a' c', e = .returned (.tuple #[.agg (acL (x, ins, code) a' c').toArray, .bool true]) ∧ w'.ownsRow W.heap.size 9 1 (.slice a' ins.length c') ins.length (ins.map encS) ∧ Bl w w' := by
  obtain ⟨hb, h0, h1, h2, hm, hc, hx, hz, hl, hn, nm, HB⟩ := h
  have hA : ∀ o p, (W.alloc o).cell? ⟨b, p, none⟩ = W.cell? ⟨b, p, none⟩ := fun o p => ((Below.refl _ W).alloc (Nat.le_refl _) o).cell (p := ⟨b, p, none⟩) hb
  have CI : Hid (∀ W', Calls Tryd.prog 15 #[.string (M.bs x)] W' fun e w' => e = .returned (.bool true) ∧ w' = W') := fun W' => by rw [← nm]; exact IsName_at x W' (by unfold maxLen; omega)
  have hne : ((M.bs RC.wBy).toList == [98, 121]) = true := by rw [bs_eqW]; rfl
  have hsx : ∀ o, SX2 (W.alloc o) (some ⟨b, off + 1, none⟩) m.length (c - 1) m := fun o => ⟨Or.inr ⟨b, off + 1, c - 1, rfl, by simp; omega, fun i t ht => by rw [hA]; exact hm i t ht⟩, by omega⟩
  have HZ0 : Hid (∀ W', Bl (W.alloc (.cells zAc 42)) W' → W'.heap[W.heap.size]? = some (.cells zAc 42 (0, 0))) := fun W' h => by
    rw [Below.block h W.heap.size (by simp)]; exact heap_alloc_new W _
  have hbl : Bl w (W.alloc (.cells zAc 42)) := HB.alloc _
  have hws : w.heap.size ≤ W.heap.size := Below.size HB
  have hcc : ∀ W' p, Bl (W.alloc (.cells zAc 42)) W' → W'.cell? ⟨b, p, none⟩ = W.cell? ⟨b, p, none⟩ := fun W' p h => by
    rw [Bl.cell h (by simp; omega)]; exact hA _ p
  obtain ⟨fs, hum⟩ := undAc
  have CR : Hid (Calls Tryd.prog 66 #[.slice (some ⟨b, off + 1, none⟩) m.length (c - 1)] (W.alloc (.cells zAc 42)) fun e w' => ∃ a' c', e = .returned (.tuple #[.slice a' ins.length c', .bool true]) ∧ w'.ownsRow (W.alloc (.cells zAc 42)).heap.size 9 1 (.slice a' ins.length c') ins.length (ins.map encS) ∧ Bl (W.alloc (.cells zAc 42)) w') :=
    readInputs_some m ins _ _ (Bl.refl _) (hsx _) (fun t ht => by have := hl t ht; unfold maxLen; omega) (by omega) hq
  have CC : Hid (∀ W', Calls Tryd.prog 67 #[.string (M.bs z)] W' fun e w' => e = .returned (.tuple #[.string (M.bs code), .bool true]) ∧ Bl W' w') := fun W' => by
    have := readCode_at z (Bl.refl W') hz
    rw [hr] at this
    exact this
  have HFN : Hid (∀ W' cs, Bl (W.alloc (.cells zAc 42)) W' → Bl w (W'.setRow W.heap.size cs)) := fun W' cs h => (hbl.step h).setRow hws _
  have HC2 : Hid (∀ W', Bl (W.alloc (.cells zAc 42)) W' → W'.cell? ⟨b, off + (m.length + 2), none⟩ = some (.string (M.bs z))) := fun W' h => by rw [hcc W' _ h]; exact h2
  have HC0 : Hid (∀ W', Bl (W.alloc (.cells zAc 42)) W' → W'.cell? ⟨b, off, none⟩ = some (.string (M.bs x))) := fun W' h => by rw [hcc W' _ h]; exact h0
  have HOW : Hid (∀ (W' : World) (a' : Option Addr) (c' : Nat) (cs : Array Value), W'.ownsRow (W.alloc (.cells zAc 42)).heap.size 9 1 (.slice a' ins.length c') ins.length (ins.map encS) → (W'.setRow W.heap.size cs).ownsRow W.heap.size 9 1 (.slice a' ins.length c') ins.length (ins.map encS)) := fun W' a' c' cs h => by
    have e : (W.alloc (.cells zAc 42)).heap.size = W.heap.size + 1 := by simp
    rw [e] at h
    exact ownsRow_base (ownsRow_set h (by omega) cs) (by omega)
  clear hm hsx hl nm HB hq hbl hcc hr
  unfold zAc at CR HZ0 HFN HC2 HC0 HOW
  unfold acL
  go_enter Tryd.func55, Tryd.ntmps55
  go_wp2_with (first
    | (go_at_call 15; refine (CI.out _).mono ?_; rintro e w' ⟨rfl, rfl⟩)
    | (go_at_call 66; refine CR.out.mono ?_; rintro e w2 ⟨a2, c2, rfl, hown2, hb2⟩; have hz2 := HC2.out _ hb2; clear CR HC2)
    | (go_at_call 67; refine (CC.out _).mono ?_; rintro e w3 ⟨rfl, hb3⟩; have hown3 := ownsRow_belowT hown2 hb3; replace hb3 := hb2.step hb3; have HH := HZ0.out _ hb3; have HF := HFN.out _ #[.string (M.bs x), .slice a2 ins.length c2, .string (M.bs code)] hb3; have hz3 := HC0.out _ hb3; have HOW3 := HOW.out _ _ _ #[.string (M.bs x), .slice a2 ins.length c2, .string (M.bs code)] hown3; clear CC HZ0 HFN hb3 hb2 HC0 HOW hown2 hown3)
    | (refine wpList_store_row rfl 42 _ _ rfl W.heap.size #[.string (M.bs x), .slice a2 ins.length c2, .string (M.bs code)] rfl rfl 42 _ HH infoAc3 rfl (by simp [Value.oneCell']) ?_))
  (try simp only [Exit.inBlock, Exit.then])
  exact bodyPost_ret (results2_rowR rfl _ _ _ 42 #[.string (M.bs x), .slice a2 ins.length c2, .string (M.bs code)] (0, 0) _ rfl (setRow_heap _ _ _ _ _ _ HH) hum rfl infoAc3) rfl ⟨a2, c2, rfl, HOW3, HF⟩
end Go.Proofs.YtgjpcddjfmdobaaDoor
