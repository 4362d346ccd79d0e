/- slices.Index, Contains, IndexFunc, DeleteFunc at ints. -/
import Derived.Test.YtebmgajijjhinaaKn5
import Derived.Test.YtebmgajijjhinaaOwS
import Derived.Shelf.Abstract
namespace Go.Proofs.Ytebmgajijjhinaa
open Go.RowKit Go.Maps
set_option linter.unusedVariables false
set_option linter.unusedSimpArgs false

theorem infoI3 : (Try.prog.info? 3).map (fun i => (i.zero, i.size, i.bytes)) = some (some (.int .i64 0), 1, 8) := by kernel_rfl
theorem hidI {p : Prop} (h : p) : Hid p := h
/-- one int of a slice -/
theorem RS.at1 {W : World} {a : Option Addr} {l : List Int} (h : RS lyI W a l) {k : Nat} {x : Int} (hk : l[k]? = some x) : ∃ b off, a = some ⟨b, off, none⟩ ∧ b < W.heap.size ∧ W.cell? ⟨b, off + k, none⟩ = some (.int .i64 x) := by
  obtain ⟨b, off, h1, h2, h3⟩ := h k x hk
  refine ⟨b, off, h1, h2, ?_⟩
  have := h3 0 (.int .i64 x) rfl
  have e : off + k * lyI.k + 0 = off + k := by show off + k * 1 + 0 = _; omega
  rw [e] at this; exact this
/-- the first place; -1: none -/
def idxN (p : Int → Bool) (l : List Int) : Int := match l.findIdx? p with | some i => (i : Int) | none => -1
theorem idxN_of {p : Int → Bool} {es : List Int} {k : Nat} (h1 : ∀ i e, i < k → es[i]? = some e → p e = false) {e : Int} (he : es[k]? = some e) (h2 : p e = true) : idxN p es = (k : Int) := by
  unfold idxN
  have hk : k < es.length := (List.getElem?_eq_some_iff.1 he).1
  have : es.findIdx? p = some k := by
    rw [List.findIdx?_eq_some_iff_getElem]
    refine ⟨hk, ?_, fun j hj => ?_⟩
    · rw [List.getElem?_eq_getElem hk] at he
      rw [Option.some.inj he]; exact h2
    · have := h1 j es[j] hj (List.getElem?_eq_getElem (by omega))
      rw [this]; decide
  rw [this]
theorem idxN_none {p : Int → Bool} {es : List Int} (h1 : ∀ i e, i < es.length → es[i]? = some e → p e = false) : idxN p es = -1 := by
  unfold idxN
  have : es.findIdx? p = none := by
    rw [List.findIdx?_eq_none_iff]
    intro e he
    obtain ⟨i, hi, rfl⟩ := List.getElem_of_mem he
    exact h1 i es[i] hi (List.getElem?_eq_getElem hi)
  rw [this]
theorem idxN_cases (p : Int → Bool) (es : List Int) : (idxN p es = -1 ∧ ∀ e ∈ es, p e = false) ∨ ∃ (k : Nat) (e : Int), idxN p es = (k : Int) ∧ es[k]? = some e ∧ p e = true ∧ ∀ (i : Nat) x, i < k → es[i]? = some x → p x = false := by
  unfold idxN
  cases h : es.findIdx? p with
  | none => exact Or.inl ⟨rfl, by simpa using h⟩
  | some k =>
    obtain ⟨hk, h1, h2⟩ := List.findIdx?_eq_some_iff_getElem.1 h
    refine Or.inr ⟨k, es[k], rfl, List.getElem?_eq_getElem hk, h1, fun i x hi hx => ?_⟩
    have := h2 i hi
    rw [List.getElem?_eq_getElem (by omega)] at hx
    rw [← Option.some.inj hx]; simpa using this
set_option maxRecDepth 8000 in
set_option maxHeartbeats 2000000 in
theorem Index_i (l : List Int) (x : Int) (a : Option Addr) (n c : Nat) (hnl : n = l.length) {w W : World} (HB : Bl w W) (hv : RS lyI W a l) (hn : l.length ≤ 100000) :
    Calls Try.prog 77 #[.slice a n c, .int .i64 x] W fun e w' => e = .returned (.int .i64 (idxN (fun y => x == y) l)) ∧ Bl w w' := by
  subst hnl
  have HV : Hid (RS lyI W a l) := hv
  have HB0 : Hid (Bl w W) := HB
  clear hv HB
  go_enter Try.func77, Try.ntmps77
  go_wp2_with fail
  go_loop [5, 8] (fun u5 u8 => ∃ k : Nat, k ≤ l.length ∧ u8 = .int .i64 k ∧ (∀ i e, i < k → l[i]? = some e → (x == e) = false)) (fun _ u8 => l.length - (intOf u8).toNat)
  case atStart => exact ⟨0, Nat.zero_le _, rfl, fun i e hi => by omega⟩
  case round =>
    obtain ⟨k, hk, rfl, hpre⟩ := hrel
    have HP : Hid (∀ i e, i < k → l[i]? = some e → (x == e) = false) := hpre
    clear hpre
    by_cases hlt : k < l.length
    · obtain ⟨t, ht⟩ : ∃ t, l[k]? = some t := ⟨l[k], List.getElem?_eq_getElem hlt⟩
      obtain ⟨b, off, rfl, hb, hr⟩ := HV.out.at1 ht
      obtain ⟨q, hq⟩ : ∃ q, (x == t) = q := ⟨_, rfl⟩
      have HF : Hid (q = true → idxN (fun y => x == y) l = (k : Int)) := fun h => idxN_of (fun i e h1 h2 => HP.out i e h1 h2) ht (by show (x == t) = true; rw [hq]; exact h)
      have HE : Hid (q = false → ∀ i e, i < k + 1 → l[i]? = some e → (x == e) = false) := fun h i e hi he => by
        rcases (by omega : i < k ∨ i = k) with h' | rfl
        · exact HP.out i e h' he
        · rw [ht] at he; cases he; rw [hq]; exact h
      clear ht HV
      cases q
      · go_wp2_with fail
        go_round
        case rel => exact ⟨k + 1, by omega, by go_num, HE.out (by trivial)⟩
        case measure => simp [intOf]; omega
      · go_wp2_with fail
        go_ret
        exact ⟨by rw [HF.out (by trivial)]; rfl, HB0.out⟩
    · obtain rfl : k = l.length := by omega
      have HF : Hid (idxN (fun y => x == y) l = -1) := idxN_none HP.out
      go_wp2_with fail
      go_ret
      exact ⟨by rw [HF.out]; rfl, HB0.out⟩
theorem idxN_has (x : Int) (l : List Int) : decide (idxN (fun y => x == y) l ≥ 0) = l.contains x := by
  rcases idxN_cases (fun y => x == y) l with ⟨h, h2⟩ | ⟨k, e, h, h2, h3, _⟩
  · rw [h]
    have hf : l.contains x = false := by
     rw [Bool.eq_false_iff]
     intro hc
     rw [List.contains_iff_mem] at hc
     have := h2 x hc
     simp at this
    rw [hf]; rfl
  · rw [h]
    have hx : x = e := by simpa using h3
    subst hx
    have : l.contains x = true := by rw [List.contains_iff_mem]; exact List.mem_of_getElem? h2
    rw [this]; simp
theorem Contains_i (l : List Int) (x : Int) (a : Option Addr) (n c : Nat) (hnl : n = l.length) {w W : World} (HB : Bl w W) (hv : RS lyI W a l) (hn : l.length ≤ 100000) :
    Calls Try.prog 63 #[.slice a n c, .int .i64 x] W fun e w' => e = .returned (.bool (l.contains x)) ∧ Bl w w' := by
  have C1 : Hid (Calls Try.prog 77 #[.slice a n c, .int .i64 x] W fun e w' => e = .returned (.int .i64 (idxN (fun y => x == y) l)) ∧ Bl w w') := Index_i l x a n c hnl HB hv hn
  have HH : Hid (decide (idxN (fun y => x == y) l ≥ 0) = l.contains x) := idxN_has x l
  generalize l.contains x = q at *
  generalize idxN (fun y => x == y) l = i at *
  clear hv HB hnl hn
  go_enter Try.func63, Try.ntmps63
  go_wp2_with (go_at_call 77; refine C1.out.mono ?_; rintro e w' ⟨rfl, hb⟩)
  go_ret
  exact ⟨by rw [← HH.out]; rfl, hb⟩
set_option maxRecDepth 8000 in
set_option maxHeartbeats 2000000 in
theorem IndexI_c (f : FuncId) (caps : Array Value) (p : Int → Bool) (l : List Int) (a : Option Addr) (n c : Nat) (hnl : n = l.length) {w W : World} (HB : Bl w W)
    (hent : ∀ args w, (callFunc f args).run Try.prog w = .ok (.enter f args) w) (hv : RS lyI W a l) (hn : l.length ≤ 100000)
    (hf : ∀ (W' : World) (t : Int), Bl W W' → Calls Try.prog f (#[.int .i64 t] ++ caps) W' fun e w' => e = .returned (.bool (p t)) ∧ Bl W' w') :
    Calls Try.prog 78 #[.slice a n c, .func (.func f) #[] caps] W fun e w' => e = .returned (.int .i64 (idxN p l)) ∧ Bl w w' := by
  subst hnl
  have HV : Hid (RS lyI W a l) := hv
  have HF0 : Hid (∀ (W' : World) (t : Int), Bl W W' → Calls Try.prog f (#[.int .i64 t] ++ caps) W' fun e w' => e = .returned (.bool (p t)) ∧ Bl W' w') := hf
  have HB0 : Hid (Bl w W) := HB
  clear hv hf HB
  go_enter Try.func78, Try.ntmps78
  go_wp2_with fail
  go_loopw [5, 8] (fun u5 u8 wr => ∃ k : Nat, k ≤ l.length ∧ u8 = .int .i64 k ∧ (∀ i e, i < k → l[i]? = some e → p e = false) ∧ Bl W wr) (fun _ u8 _ => l.length - (intOf u8).toNat)
  case atStart => exact ⟨0, Nat.zero_le _, rfl, fun i e hi => by omega, Bl.refl W⟩
  case round =>
    obtain ⟨k, hk, rfl, hpre, hbl⟩ := hrel
    have HP : Hid (∀ i e, i < k → l[i]? = some e → p e = false) := hpre
    have HBR : Hid (Bl W wr) := hbl
    clear hpre hbl
    by_cases hlt : k < l.length
    · obtain ⟨t, ht⟩ : ∃ t, l[k]? = some t := ⟨l[k], List.getElem?_eq_getElem hlt⟩
      obtain ⟨b, off, rfl, hb, hr⟩ := (HV.out.bl HBR.out).at1 ht
      obtain ⟨q, hq⟩ : ∃ q, p t = q := ⟨_, rfl⟩
      have CN : Hid (Calls Try.prog f (#[.int .i64 t] ++ caps) wr fun e w' => e = .returned (.bool q) ∧ Bl W w') := by
        show Calls _ _ _ _ _
        rw [← hq]
        refine (HF0.out wr t HBR.out).mono ?_
        rintro e w' ⟨rfl, hb'⟩
        exact ⟨rfl, HBR.out.step hb'⟩
      have HF : Hid (q = true → idxN p l = (k : Int)) := fun h => idxN_of HP.out ht (by rw [hq]; exact h)
      have HE : Hid (q = false → ∀ i e, i < k + 1 → l[i]? = some e → p e = false) := fun h i e hi he => by
        rcases (by omega : i < k ∨ i = k) with h' | rfl
        · exact HP.out i e h' he
        · rw [ht] at he; cases he; rw [hq]; exact h
      clear ht hq HF0 HV
      cases q
      · go_wp2_with (go_at_fn f; refine CN.out.mono ?_; rintro e w' ⟨rfl, hy⟩)
        go_roundw
        case rel => exact ⟨k + 1, by omega, by go_num, HE.out trivial, hy⟩
        case measure => simp [intOf]; omega
      · go_wp2_with (go_at_fn f; refine CN.out.mono ?_; rintro e w' ⟨rfl, hy⟩)
        go_ret
        exact ⟨by rw [HF.out trivial]; rfl, HB0.out.step hy⟩
    · obtain rfl : k = l.length := by omega
      have HF : Hid (idxN p l = -1) := idxN_none HP.out
      go_wp2_with fail
      go_ret
      exact ⟨by rw [HF.out]; rfl, HB0.out.step HBR.out⟩
/-- what is to be told yet -/
def kpI (p : Int → Bool) (l : List Int) : List Int := l.filter (fun r => !p r)
theorem kpI_no {p : Int → Bool} {l : List Int} {j : Nat} {r : Int} (h : l[j]? = some r) (hr : p r = true) : kpI p (l.take (j + 1)) = kpI p (l.take j) := by
  unfold kpI; rw [List.take_add_one, h, Option.toList_some, List.filter_append]; simp [hr]
theorem kpI_yes {p : Int → Bool} {l : List Int} {j : Nat} {r : Int} (h : l[j]? = some r) (hr : p r = false) : kpI p (l.take (j + 1)) = kpI p (l.take j) ++ [r] := by
  unfold kpI; rw [List.take_add_one, h, Option.toList_some, List.filter_append]; simp [hr]
theorem kpI_all {p : Int → Bool} {l : List Int} (h : ∀ r ∈ l, p r = false) : kpI p l = l := by
  unfold kpI; rw [List.filter_eq_self]; intro r hr; rw [h r hr]; rfl
/-- the row in the middle of the deleting -/
structure DN (p : Int → Bool) (l : List Int) (i j : Nat) (d : List Int) : Prop where
  len : d.length = l.length
  lt : i < j
  le : j ≤ l.length
  tk : d.take i = kpI p (l.take j)
  dr : d.drop j = l.drop j
theorem DN.start {p : Int → Bool} {l : List Int} {k : Nat} {r : Int} (hk : l[k]? = some r) (hr : p r = true) (h : ∀ (i : Nat) x, i < k → l[i]? = some x → p x = false) : DN p l k (k + 1) l := by
  have hkl := (List.getElem?_eq_some_iff.1 hk).1
  refine ⟨rfl, by omega, by omega, ?_, rfl⟩
  rw [kpI_no hk hr, kpI_all]
  intro x hx
  obtain ⟨i, hi⟩ := List.mem_iff_getElem?.1 hx
  rw [List.getElem?_take] at hi
  split at hi
  · rename_i h2; exact h i x h2 hi
  · cases hi
theorem DN.at' {p : Int → Bool} {l d : List Int} {i j : Nat} (h : DN p l i j d) {r : Int} (hr : l[j]? = some r) : d[j]? = some r := by
  have e1 : (d.drop j)[0]? = (l.drop j)[0]? := by rw [h.dr]
  rw [List.getElem?_drop, List.getElem?_drop, Nat.add_zero] at e1
  rw [e1]; exact hr
theorem DN.skip {p : Int → Bool} {l d : List Int} {i j : Nat} (h : DN p l i j d) {r : Int} (hr : l[j]? = some r) (hp : p r = true) : DN p l i (j + 1) d := by
  have hj := (List.getElem?_eq_some_iff.1 hr).1
  have hl := h.lt
  refine ⟨h.len, by omega, by omega, by rw [kpI_no hr hp]; exact h.tk, ?_⟩
  have := congrArg (List.drop 1) h.dr
  rwa [List.drop_drop, List.drop_drop] at this
theorem DN.keep {p : Int → Bool} {l d : List Int} {i j : Nat} (h : DN p l i j d) {r : Int} (hr : l[j]? = some r) (hp : p r = false) : DN p l (i + 1) (j + 1) (d.set i r) := by
  have hj := (List.getElem?_eq_some_iff.1 hr).1
  have hl := h.lt
  have hlen := h.len
  refine ⟨by rw [List.length_set]; exact hlen, by omega, by omega, ?_, ?_⟩
  · rw [kpI_yes hr hp, ← h.tk, List.take_add_one, List.take_set_of_le (Nat.le_refl _), List.getElem?_set_self (by omega)]; rfl
  · rw [List.drop_set_of_lt (by omega)]
    have := congrArg (List.drop 1) h.dr
    rwa [List.drop_drop, List.drop_drop] at this
theorem DN.end {p : Int → Bool} {l d : List Int} {i : Nat} (h : DN p l i l.length d) : d.take i = kpI p l ∧ i = (kpI p l).length := by
  have e := h.tk
  rw [List.take_length] at e
  refine ⟨e, ?_⟩
  rw [← e, List.length_take, h.len, Nat.min_eq_left (Nat.le_of_lt h.lt)]
theorem zeroIn : ∀ w, (zeroValue 3).run Try.prog w = .ok (.int .i64 0) w := Try.zeroValue3
theorem own_tag0 {W : World} {N k n g : Nat} {T : TypeId} {v : Value} {xs : List Value} (h : W.ownsRow N T k v n xs) (hg : v.ownBlock = some g) : ∃ C, W.heap[g]? = some (.cells C T (0, 0)) := by
  obtain ⟨_, ⟨h1, h2⟩ | ⟨g', cap', cur, h1, _, h3, _⟩⟩ := h
  · subst h1; cases hg
  · subst h1; cases hg; exact ⟨cur, h3⟩
set_option maxRecDepth 8000 in
set_option maxHeartbeats 4000000 in
theorem DeleteI (f : FuncId) (caps : Array Value) (p : Int → Bool) {N n : Nat} {v : Value} {l : List Int} {W : World} (hn : n = l.length) (hown : W.ownsRow N 3 1 v n (flG lyI l)) (hl : l.length ≤ 1000) (hN : N ≤ W.heap.size)
    (hent : ∀ args w, (callFunc f args).run Try.prog w = .ok (.enter f args) w) (hf : ∀ (W' : World) (t : Int), W.grownBy W' v.ownBlock → Calls Try.prog f (#[.int .i64 t] ++ caps) W' fun e w' => e = .returned (.bool (p t)) ∧ Bl W' w') :
    Calls Try.prog 65 #[v, .func (.func f) #[] caps] W fun e w' => ∃ v', e = .returned v' ∧ w'.ownsRow N 3 1 v' (kpI p l).length (flG lyI (kpI p l)) ∧ W.grownBy w' v.ownBlock ∧ v'.ownBlock = v.ownBlock := by
  subst hn
  obtain ⟨a, c, rfl, hRS⟩ := owns_rs lyI hown
  have CI : Hid (Calls Try.prog 78 #[.slice a l.length c, .func (.func f) #[] caps] W fun e w' => e = .returned (.int .i64 (idxN p l)) ∧ Bl W w') := IndexI_c f caps p l a _ c rfl (Bl.refl W) hent hRS (by omega) (fun W' t hb => hf W' t (grown_bl hb _))
  have HF0 : Hid (∀ (W' : World) (t : Int), W.grownBy W' (Value.slice a l.length c).ownBlock → Calls Try.prog f (#[.int .i64 t] ++ caps) W' fun e w' => e = .returned (.bool (p t)) ∧ Bl W' w') := hf
  clear hf
  rcases idxN_cases p l with ⟨hi, hall⟩ | ⟨k, r, hi, hk, hr, hpre⟩
  · rw [hi] at CI
    have HQ : Hid (∀ w', Bl W w' → w'.ownsRow N 3 1 (.slice a l.length c) (kpI p l).length (flG lyI (kpI p l)) ∧ W.grownBy w' (Value.slice a l.length c).ownBlock) := fun w' hb => by
      rw [kpI_all hall]
      exact ⟨ownsRow_bl hown hb, grown_bl hb _⟩
    clear hown hRS hi hall HF0
    go_enter Try.func65, Try.ntmps65
    go_wp2_with (go_at_call 78; refine CI.out.mono ?_; rintro e w' ⟨rfl, hb⟩)
    go_ret
    exact ⟨_, rfl, (HQ.out _ hb).1, (HQ.out _ hb).2, rfl⟩
  · rw [hi] at CI
    have hkl := (List.getElem?_eq_some_iff.1 hk).1
    obtain ⟨g, rfl⟩ : ∃ g, a = some ⟨g, 0, none⟩ := by
      obtain ⟨_, ⟨h1, h2⟩ | ⟨g', cap', cur, h1, _⟩⟩ := hown
      · omega
      · simp only [Value.slice.injEq] at h1
        exact ⟨g', h1.1⟩
    have HD0 : Hid (DN p l k (k + 1) l) := DN.start hk hr hpre
    have HO0 : Hid (W.ownsRow N 3 1 (.slice (some ⟨g, 0, none⟩) l.length c) l.length (flG lyI l)) := hown
    have hcl : l.length ≤ c := by
      obtain ⟨_, ⟨h1, h2⟩ | ⟨g', cap', cur, h1, _, _, h4, _⟩⟩ := hown
      · cases h1
      · simp only [Value.slice.injEq] at h1
        rw [h1.2.2]; exact h4
    have hne1 : ((k : Int) == -1) = false := beq_eq_false_iff_ne.2 (by omega)
    clear hown hRS hi hk hr hpre
    go_enter Try.func65, Try.ntmps65
    go_wp2_with (go_at_call 78; refine CI.out.mono ?_; rintro e w1 ⟨rfl, hb1⟩)
    have HO1 : Hid (w1.ownsRow N 3 1 (.slice (some ⟨g, 0, none⟩) l.length c) l.length (flG lyI l) ∧ W.grownBy w1 (some g)) := ⟨ownsRow_bl HO0.out hb1, grown_bl hb1 _⟩
    clear HO0 hb1 CI
    go_loopw [5, 6, 7] (fun u5 u6 _ wr => ∃ (i j : Nat) (d : List Int), u5 = .int .i64 i ∧ u6 = .int .i64 j ∧ DN p l i j d ∧ wr.ownsRow N 3 1 (.slice (some ⟨g, 0, none⟩) l.length c) l.length (flG lyI d) ∧ W.grownBy wr (some g)) (fun _ u6 _ _ => l.length - (intOf u6).toNat)
    case atStart => exact ⟨k, k + 1, l, rfl, by go_num, HD0.out, HO1.out.1, HO1.out.2⟩
    case round =>
      obtain ⟨i, j, d, rfl, rfl, hd, ho, hg⟩ := hrel
      clear HD0 HO1
      have hij := hd.lt
      have hjl := hd.le
      have hdl := hd.len
      have hil : (i : Int) < (l.length : Int) := by omega
      by_cases hlt : j < l.length
      · obtain ⟨r, hr⟩ : ∃ r, l[j]? = some r := ⟨l[j], List.getElem?_eq_getElem hlt⟩
        obtain ⟨a', c', ha', hrs⟩ := owns_rs lyI (ks := d) (by rw [hdl]; exact ho)
        obtain ⟨b', off', e', _, hrg⟩ := hrs.at1 (hd.at' hr)
        rw [e'] at ha'
        obtain ⟨rfl, rfl⟩ : g = b' ∧ 0 = off' := by simpa using (Value.slice.inj ha').1
        clear ha' e' hrs
        rw [Nat.zero_add] at hrg
        have HG : Hid (W.grownBy wr (some g)) := hg
        have C1 : Hid (Calls Try.prog f (#[.int .i64 r] ++ caps) wr fun e w' => e = .returned (.bool (p r)) ∧ Bl wr w') := HF0.out wr r hg
        have HOW : Hid (∀ w2, Bl wr w2 → w2.ownsRow N 3 1 (.slice (some ⟨g, 0, none⟩) l.length c) l.length (flG lyI d) ∧ W.grownBy w2 (some g)) := fun w2 hb => ⟨ownsRow_bl ho hb, hg.trans (grown_bl hb _)⟩
        have HD : Hid (DN p l i j d) := hd
        have HR2 : Hid (l[j]? = some r) := hr
        clear ho hg hd hr
        cases hq : p r with
        | true =>
          rw [hq] at C1
          have HD2 : Hid (DN p l i (j + 1) d) := HD.out.skip HR2.out hq
          clear hq HD HR2
          go_wp2_with (go_at_fn f; refine (C1.out).mono ?_; clear C1; rintro e w2 ⟨rfl, hb2⟩)
          go_roundw
          case rel => exact ⟨i, j + 1, d, rfl, by go_num, HD2.out, (HOW.out _ hb2).1, (HOW.out _ hb2).2⟩
          case measure => simp [intOf]; omega
        | false =>
          rw [hq] at C1
          have HD2 : Hid (DN p l (i + 1) (j + 1) (d.set i r)) := HD.out.keep HR2.out hq
          have HST : Hid (∀ w2, Bl wr w2 → (∃ u, w2.cell? ⟨g, i, none⟩ = some u) ∧ w2.frozen? ⟨g, i, none⟩ = false ∧ (w2.setCell ⟨g, i, none⟩ (.int .i64 r)).ownsRow N 3 1 (.slice (some ⟨g, 0, none⟩) l.length c) l.length (flG lyI (d.set i r)) ∧ W.grownBy (w2.setCell ⟨g, i, none⟩ (.int .i64 r)) (some g)) := fun w2 hb => by
            obtain ⟨h1, h2⟩ := HOW.out w2 hb
            have h3 := own_setG lyI hdl.symm h1 (i := i) (by omega) r
            have e : w2.setCells g (i * lyI.k) (lyI.f r) = w2.setCell ⟨g, i, none⟩ (.int .i64 r) := by
              show w2.setCells g (i * 1) [.int .i64 r] = _
              rw [Nat.mul_one]; rfl
            obtain ⟨C, hC⟩ := own_tag0 h1 rfl
            obtain ⟨d', hd'⟩ : ∃ d', d[i]? = some d' := ⟨d[i]'(by omega), List.getElem?_eq_getElem _⟩
            obtain ⟨a'', c'', ha'', hrs''⟩ := owns_rs lyI (ks := d) (by rw [hdl]; exact h1)
            obtain ⟨b'', off'', e'', _, hc''⟩ := hrs''.at1 hd'
            rw [e''] at ha''
            obtain ⟨rfl, rfl⟩ : g = b'' ∧ 0 = off'' := by simpa using (Value.slice.inj ha'').1
            rw [Nat.zero_add] at hc''
            refine ⟨⟨_, hc''⟩, by simp [World.frozen?, hC], ?_, ?_⟩
            · rw [← e]; exact h3
            · exact h2.trans (grown_setCell _ _ _ _)
          clear hq HD HR2 HOW
          go_wp2_with (go_at_fn f; refine (C1.out).mono ?_; clear C1; rintro e w2 ⟨rfl, hb2⟩; obtain ⟨⟨u, k1⟩, k2, o2, g2⟩ := HST.out _ hb2; clear HST; have O2 := hidI o2; have G2 := hidI g2; clear o2 g2)
          go_roundw
          case rel => exact ⟨i + 1, j + 1, _, by go_num, by go_num, HD2.out, O2.out, G2.out⟩
          case measure => simp [intOf]; omega
      · obtain rfl : j = l.length := by omega
        obtain ⟨e1, e2⟩ := hd.end
        obtain ⟨vs, hcl2⟩ := run_clearG lyI hdl.symm ho undIs zeroIn rfl (fun v hv => by simp [Value.cells] at hv; subst hv; rfl) (i := i) hij 0 (c - i)
        have HE : Hid ((wr.setCells g (i * 1) vs).ownsRow N 3 1 (.slice (some ⟨g, 0, none⟩) i c) (kpI p l).length (flG lyI (kpI p l)) ∧ W.grownBy (wr.setCells g (i * 1) vs) (some g)) := by
          have h3 := own_cut lyI hdl.symm ho (i := i) (by omega) vs
          rw [e1] at h3
          exact ⟨by rw [← e2]; exact h3, hg.trans (grown_setCells _ _ _ _)⟩
        rw [Nat.mul_one] at HE
        have hcl3 : ∀ ty, (Builtin.clear_ #[23] ty #[.slice (some ⟨g, i, none⟩) (l.length - i) (c - i)]).run Try.prog wr = .ok (.tuple #[]) (wr.setCells g i vs) := fun ty => by
          have := hcl2
          rw [show i * lyI.k = i from Nat.mul_one i] at this
          exact this
        clear hcl2 ho hg hd e1 e2
        go_wp2_with fail
        go_ret
        exact ⟨_, rfl, HE.out.1, HE.out.2, rfl⟩
end Go.Proofs.Ytebmgajijjhinaa
