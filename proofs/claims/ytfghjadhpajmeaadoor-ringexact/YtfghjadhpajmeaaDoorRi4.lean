/- A key's owners; the law's own awake. -/
import Derived.Test.YtfghjadhpajmeaaDoorRi3
namespace Go.Proofs.YtfghjadhpajmeaaDoor
open Go.RowKit Go.Maps Go.Sort Go.Shelf
set_option linter.unusedVariables false
set_option linter.unusedSimpArgs false
attribute [local go_sem ↓] zero27

theorem own_capR {W : World} {N k n c : Nat} {T : TypeId} {a : Option Addr} {xs : List Value} (h : W.ownsRow N T k (.slice a n c) n xs) : n ≤ c := by
  obtain ⟨h0, ⟨h1, h2⟩ | ⟨g, cap, cur, h1, h2, h3, h4, h5, h6⟩⟩ := h
  · omega
  · cases h1; omega
set_option maxRecDepth 8000 in
set_option maxHeartbeats 4000000 in
theorem Owns_x (d : List UInt8) (hd : d.length = 32) (l : List Int) (a : Option Addr) (n c : Nat) (hnl : n = l.length) (W : World) (hG : GW W) (hv : RS lyI W a l) (hl : l.length ≤ 100000) :
    Calls Tryd.prog 15 #[.agg (dg d), .slice a n c] W fun e w' => ∃ a' c' out, e = .returned (.slice a' (out.take 2).length c') ∧ RI.IsW (RI.near (RI.place d)) l out ∧ RS lyI w' a' (out.take 2) ∧ GB W w' := by
  have hz := hG.z
  have C1 : Hid (Calls Tryd.prog 13 #[.agg (dg d), .slice a n c] (W.alloc (.cells (dg d) 23)) fun e w' => ∃ a' c' out, e = .returned (.slice a' out.length c') ∧ RI.IsW (RI.near (RI.place d)) l out ∧ RS lyI w' a' out ∧ out.length ≤ c' ∧ GB W w') := by
    have HB : GB W (W.alloc (.cells (dg d) 23)) := (GB.refl hG).alloc _
    refine (Walk_x d hd l a n c hnl _ HB.g (hv.bl HB.b) hl).mono ?_
    rintro e w' ⟨v, out, rfl, h1, h2, h3⟩
    obtain ⟨a', c', rfl, h4⟩ := owns_rs lyI h2
    exact ⟨a', c', out, rfl, h1, h4, own_capR h2, HB.step h3.b⟩
  have HRow : Hid ((W.alloc (.cells (dg d) 23)).heap[W.heap.size]? = some (.cells (dg d) 23 (0, 0))) := heap_alloc_new _ _
  have hDs : (dg d).size = 32 := by rw [dg_size, hd]
  generalize dg d = D at *
  clear hv hG hd hnl hl
  go_enter Tryd.func15, Tryd.ntmps15
  go_wp2_with (first
    | go_skip
    | refine wpList_load_row rfl 23 _ rfl _ rfl 23 D (0, 0) _ HRow.out und27 rfl (by rw [hDs]; exact info27) ?_
    | (go_at_call 13; refine (C1.out).mono ?_; clear C1; rintro e w' ⟨a', c', out, rfl, h1, h2, h3, h4⟩))
  have e1 : (min (out.length : Int) 2).toNat = (out.take 2).length := by rw [List.length_take]; omega
  go_ret
  exact ⟨a', c', out, by rw [← e1]; rfl, h1, h2.take 2, h4⟩
theorem num3 : M.numB 3 = [1, 3] := by decide +kernel
theorem num7 : M.numB 7 = [1, 7] := by decide +kernel
/-- rows of numbers beside what lies there -/
def KS (w : World) (R : List (Option Addr × List Int)) (U : World) : Prop := GB w U ∧ ∀ r ∈ R, RS lyI U r.1 r.2
theorem KS.step {w U V : World} {R : List (Option Addr × List Int)} (h : KS w R U) (b : GB U V) : KS w R V := ⟨h.1.step b.b, fun r hr => (h.2 r hr).bl b.b⟩
theorem KS.alloc {w U : World} {R : List (Option Addr × List Int)} (h : KS w R U) (x : Obj) : KS w R (U.alloc x) := h.step ((GB.refl h.1.g).alloc x)
theorem KS.drewN {w U : World} {R : List (Option Addr × List Int)} (h : KS w R U) (n : Nat) : KS w R (U.drewN n) := h.step ((GB.refl h.1.g).drewN n)
theorem KS.add {w U : World} {R : List (Option Addr × List Int)} (h : KS w R U) {a : Option Addr} {l : List Int} (ha : RS lyI U a l) : KS w ((a, l) :: R) U := ⟨h.1, fun r hr => by
  rcases List.mem_cons.1 hr with rfl | hr
  · exact ha
  · exact h.2 r hr⟩
theorem KS.one {w U : World} {R : List (Option Addr × List Int)} (h : KS w R U) (x : Int) (T : TypeId) : KS w ((some ⟨U.heap.size, 0, none⟩, [x]) :: R) (U.alloc (.cells #[.int .i64 x] T)) := (h.alloc _).add (RS.one lyI U T x)
theorem isW_one (f : Int → Int) {x : Int} (h1 : 1 ≤ x) (h2 : x ≤ 6) : RI.IsW f [x] [x] := ⟨by simp, fun y => by
  rw [List.mem_singleton]
  constructor
  · rintro rfl; exact ⟨h1, h2, rfl⟩
  · rintro ⟨_, _, h⟩; exact h, by simp⟩
theorem isW_nil (f : Int → Int) : RI.IsW f [] [] := ⟨by simp, fun y => by simp, by simp⟩
/-- the digest whose eighth byte is 5 -/
def d5 : List UInt8 := [0, 0, 0, 0, 0, 0, 0, 5, 0, 0, 0, 0, 0, 0, 0, 0, 0, 0, 0, 0, 0, 0, 0, 0, 0, 0, 0, 0, 0, 0, 0, 0]
theorem dg_d5 : dg d5 = #[.int .u8 0, .int .u8 0, .int .u8 0, .int .u8 0, .int .u8 0, .int .u8 0, .int .u8 0, .int .u8 5, .int .u8 0, .int .u8 0, .int .u8 0, .int .u8 0, .int .u8 0, .int .u8 0, .int .u8 0, .int .u8 0, .int .u8 0, .int .u8 0, .int .u8 0, .int .u8 0, .int .u8 0, .int .u8 0, .int .u8 0, .int .u8 0, .int .u8 0, .int .u8 0, .int .u8 0, .int .u8 0, .int .u8 0, .int .u8 0, .int .u8 0, .int .u8 0] := by kernel_rfl
theorem place_d5 : RI.place d5 = 5 := by decide +kernel
set_option maxRecDepth 8000 in
set_option maxHeartbeats 4000000 in
theorem awake_13 (W : World) (hG : GW W) : Calls Tryd.prog 7 #[] W fun e w' => e = .returned (.bool true) ∧ GB W w' := by
  have hz := hG.z
  have HG : GB W W := GB.refl hG
  obtain ⟨D, hD⟩ : ∃ D, D = S.sha (M.rowB [RI.word, M.numB 3, M.numB 7]) := ⟨_, rfl⟩
  have hDl : D.length = 32 := by rw [hD]; exact S.sha_length _
  have hDp : (RI.place D : Nat) = RI.pt 3 7 := by rw [hD]; rfl
  have C1 : Hid (∀ W', GB W W' → Calls Tryd.prog 8 #[.int .i64 3, .int .i64 7] W' fun e w' => e = .returned (.tuple #[.int .u64 (RI.place D : Nat), .int .i64 0]) ∧ GB W w') := fun W' h => by
    rw [hDp]; exact Point_yes 3 7 h (by omega) (by omega) (by omega) (by omega)
  have C2 : Hid (∀ W', GB W W' → Calls Tryd.prog 8 #[.int .i64 7, .int .i64 0] W' fun e w' => e = .returned (.tuple #[.int .u64 0, .int .i64 1]) ∧ GB W w') := fun W' h => (Point_no 7 0 W' (by omega)).mono fun e w' ⟨h1, h2⟩ => ⟨h1, by rw [h2]; exact h⟩
  have hsz : ∀ U : World, (U.alloc (.cells #[.string ⟨#[114, 105, 110, 103]⟩, .string ⟨#[1, 3]⟩, .string ⟨#[1, 7]⟩] 9)).heap.size = U.heap.size + 1 := fun U => by simp
  obtain ⟨LD, hLD⟩ : ∃ LD : List Value, LD = D.map vb := ⟨_, rfl⟩
  have hdl : dg D = LD.toArray := by rw [hLD]; rfl
  have hLs : LD.toArray.size = 32 := by rw [← hdl, dg_size, hDl]
  have hLo : LD.toArray.all (·.oneCell') = true := by rw [← hdl]; exact dg_one D
  have C3 : Hid (∀ U : World, GB W U → Calls Tryd.prog 17 #[.slice (some ⟨U.heap.size, 0, none⟩) 3 3] (U.alloc (.cells #[.string ⟨#[114, 105, 110, 103]⟩, .string ⟨#[1, 3]⟩, .string ⟨#[1, 7]⟩] 9)) fun e w' => e = .returned (.agg LD.toArray) ∧ U.heap.size + 1 ≤ w'.heap.size ∧ GB W w') := fun U h => by
    have hs := strs_new [RI.word, [1, 3], [1, 7]] U 9 (by simp)
    have hr := rowB_le [RI.word, [1, 3], [1, 7]] 22 (by simp [RI.word])
    rw [← hdl, hD, num3, num7]
    refine (Row_at [RI.word, [1, 3], [1, 7]] _ _ (h.alloc _).g (by rw [hsz]; exact hs) (by simp at hr; omega) (by simp)).mono ?_
    rintro e w' ⟨rfl, hb⟩
    have := hb.size
    rw [hsz] at this
    exact ⟨rfl, this, (h.alloc _).step hb⟩
  have C5 : Hid (∀ w4 R U, KS w4 R U → Calls Tryd.prog 10 #[.agg LD.toArray] U fun e w' => e = .returned (.int .u64 (RI.place D : Nat)) ∧ KS w4 R w') := fun w4 R U h => by
    rw [← hdl]
    exact (Place_x D hDl U).mono fun e w' ⟨h1, h2⟩ => ⟨h1, h.step ((GB.refl h.1.g).step h2)⟩
  have C14 : Hid (∀ w4 R U, KS w4 R U → Calls Tryd.prog 10 #[.agg #[.int .u8 0, .int .u8 0, .int .u8 0, .int .u8 0, .int .u8 0, .int .u8 0, .int .u8 0, .int .u8 5, .int .u8 0, .int .u8 0, .int .u8 0, .int .u8 0, .int .u8 0, .int .u8 0, .int .u8 0, .int .u8 0, .int .u8 0, .int .u8 0, .int .u8 0, .int .u8 0, .int .u8 0, .int .u8 0, .int .u8 0, .int .u8 0, .int .u8 0, .int .u8 0, .int .u8 0, .int .u8 0, .int .u8 0, .int .u8 0, .int .u8 0, .int .u8 0]] U fun e w' => e = .returned (.int .u64 5) ∧ KS w4 R w') := fun w4 R U h => by
    have := Place_x d5 (by rfl) U
    rw [place_d5, dg_d5] at this
    exact this.mono fun e w' ⟨h1, h2⟩ => ⟨h1, h.step ((GB.refl h.1.g).step h2)⟩
  have C20 : Hid (∀ w4 R U a, KS w4 R U → RS lyI U a [4] → Calls Tryd.prog 13 #[.agg LD.toArray, .slice a 1 1] U fun e w' => ∃ a' c', e = .returned (.slice a' 1 c') ∧ KS w4 ((a', [4]) :: R) w') := fun w4 R U a h ha => by
    rw [← hdl]
    refine (Walk_x D hDl [4] a 1 1 rfl U h.1.g ha (by simp)).mono ?_
    rintro e w' ⟨v, out, rfl, h1, h2, h3⟩
    obtain rfl : out = [4] := h1.uniq (isW_one _ (by omega) (by omega)) (fun _ _ _ => Iff.rfl)
    obtain ⟨a', c', rfl, h4⟩ := owns_rs lyI h2
    exact ⟨a', c', rfl, (h.step h3).add h4⟩
  have C22 : Hid (∀ w4 R U (x : Int) a b c d, KS w4 R U → RS lyI U a [x] → RS lyI U b [x] → Calls Tryd.prog 12 #[.slice a 1 c, .slice b 1 d] U fun e w' => e = .returned (.bool true) ∧ KS w4 R w') := fun w4 R U x a b c d h h1 h2 => by
    refine (Ints_x [x] [x] a b c d U h1 h2 (by simp [maxLen]) (by simp [maxLen])).mono ?_
    rintro e w' ⟨rfl, n, rfl⟩
    exact ⟨by simp, h.drewN n⟩
  have C26 : Hid (∀ w4 R U, KS w4 R U → Calls Tryd.prog 13 #[.agg LD.toArray, .slice none 0 0] U fun e w' => ∃ a' c', e = .returned (.slice a' 0 c') ∧ KS w4 R w') := fun w4 R U h => by
    rw [← hdl]
    refine (Walk_x D hDl [] none 0 0 rfl U h.1.g (RS.nil _ _ _) (by simp)).mono ?_
    rintro e w' ⟨v, out, rfl, h1, h2, h3⟩
    obtain rfl : out = [] := h1.uniq (isW_nil _) (fun _ _ _ => Iff.rfl)
    obtain ⟨a', c', rfl, h4⟩ := owns_rs lyI h2
    exact ⟨a', c', rfl, h.step h3⟩
  have C33 : Hid (∀ w4 R U a, KS w4 R U → RS lyI U a [3] → Calls Tryd.prog 15 #[.agg LD.toArray, .slice a 1 1] U fun e w' => ∃ a' c', e = .returned (.slice a' 1 c') ∧ KS w4 ((a', [3]) :: R) w') := fun w4 R U a h ha => by
    rw [← hdl]
    refine (Owns_x D hDl [3] a 1 1 rfl U h.1.g ha (by simp)).mono ?_
    rintro e w' ⟨a', c', out, rfl, h1, h2, h3⟩
    obtain rfl : out = [3] := h1.uniq (isW_one _ (by omega) (by omega)) (fun _ _ _ => Iff.rfl)
    exact ⟨a', c', rfl, (h.step h3).add h2⟩
  have hLi : (Tryd.prog.info? 23).map (·.size) = some LD.length := by
    have : LD.length = 32 := by simpa using hLs
    rw [this]; exact info27
  have hzs : zero32.size = 32 := by decide +kernel
  generalize RI.place D = P at *
  clear hD hDl hDp hLD hdl hG hsz
  go_enter Tryd.func7, Tryd.ntmps7
  go_upto_region 4 with (first
    | go_skip
    | (go_at_call 8; refine (C1.out _ HG).mono ?_; clear HG C1; rintro e w1 ⟨rfl, HG⟩)
    | (go_at_call 8; refine (C2.out _ HG).mono ?_; clear HG C2; rintro e w2 ⟨rfl, HG⟩)
    | (go_at_call 17; refine (C3.out _ HG).mono ?_; clear HG C3; rintro e w3 ⟨rfl, hsz3, HG⟩)
    | (refine wpList_store_row rfl 23 _ _ rfl _ LD.toArray rfl rfl 23 zero32 (heap_alloc_new _ _) (by rw [hLs]; exact info27) (by rw [hzs, hLs]) hLo ?_; rw [World.setRow_alloc_new]))
  have HG4 : Hid (GB W (w3.alloc (.cells LD.toArray 23))) := HG.alloc _
  have HB : KS (w3.alloc (.cells LD.toArray 23)) [] (w3.alloc (.cells LD.toArray 23)) := ⟨GB.refl HG4.out.g, fun r hr => by cases hr⟩
  have KP : Hid (∀ U, GB (w3.alloc (.cells LD.toArray 23)) U → U.rangeAt w3.heap.size 0 LD) := fun U hU j v hv => by
    rw [Nat.zero_add, hU.b.cell (p := ⟨w3.heap.size, j, none⟩) (by simp), Lib.cell_of_heap (heap_alloc_new _ _), List.getElem?_toArray]; exact hv
  generalize w3.alloc (.cells LD.toArray 23) = w4 at *
  generalize w3.heap.size = db at *
  clear HG hLs hLo hzs
  go_wp2_with (first
    | go_skip
    | (refine wl_midG (by rfl) 23 _ rfl db 0 rfl LD _ (KP.out _ HB.1) und27 rfl hLi ?_)
    | (go_at_call 10; refine (C5.out _ _ _ HB).mono ?_; clear HB C5; rintro e V ⟨rfl, HB⟩)
    | (go_at_call 10; refine (C14.out _ _ _ HB).mono ?_; clear HB C14; rintro e V ⟨rfl, HB⟩)
    | (go_at_call 13; refine (C20.out _ _ _ _ (HB.one 4 _) (RS.one lyI _ _ 4)).mono ?_; clear HB C20; rintro e V ⟨a, c, rfl, HB⟩)
    | (go_at_call 13; refine (C26.out _ _ _ HB).mono ?_; clear HB; rintro e V ⟨a, c, rfl, HB⟩)
    | (go_at_call 15; refine (C33.out _ _ _ _ (HB.one 3 _) (RS.one lyI _ _ 3)).mono ?_; clear HB; rintro e V ⟨a, c, rfl, HB⟩)
    | (go_at_call 12; refine (C22.out _ _ _ _ _ _ _ _ (HB.one _ _) ((HB.one _ _).2 (_, _) (List.mem_cons_of_mem _ List.mem_cons_self)) ((HB.one _ _).2 (_, _) List.mem_cons_self)).mono ?_; clear HB; rintro e V ⟨rfl, HB⟩))
  go_ret
  exact ⟨rfl, HG4.out.step HB.1.b⟩
end Go.Proofs.YtfghjadhpajmeaaDoor
