/- The law's own awake. -/
import Derived.Test.YtlkllcnnnndllaaGreatDoorN17
import Derived.Great.BuildSlice
namespace Go.Proofs.YtlkllcnnnndllaaGreatDoor
open Go.RowKit Go.Maps
set_option linter.unusedVariables false
set_option linter.unusedSimpArgs false
attribute [local go_sem ↓] zeroDg

theorem wl_bs33 {ops : Array Oper} {rest : List Oper} {o : Oper} {a : Act} {w : World} {Q : Exit → Act → World → Prop} (hg : o.guard = none) (x : Operand) (ho : o.op = .buildSlice 55 1 #[(0, x)]) (d : List UInt8) (hd : d.length = 32) (hx : a.eval x = .agg (dg d))
    (h : wpList Tryz.prog ops Q rest (a.put o.dst (.slice (some ⟨w.heap.size, 0, none⟩) 1 1)) (w.alloc (.cells (dg d) 39))) : wpList Tryz.prog ops Q (o :: rest) a w := by
  obtain ⟨i, hi, hz, hs, hb⟩ : ∃ i, Tryz.prog.info? 39 = some i ∧ i.zero = some (.agg zero32) ∧ i.size = 32 ∧ i.bytes = 32 :=
    info_parts (show (Tryz.prog.info? 39).map (fun i => (i.zero, i.size, i.bytes)) = some (some (.agg zero32), 32, 32) by kernel_rfl)
  refine wpList_buildSlice hg _ 39 1 #[(0, x)] ho (dg d) i (.agg zero32) Tryz.underlying55 hi hz (by rw [hs]; decide) (by rw [hs]; decide) ?_ h
  have hp : ((#[(0, x)] : Array (Nat × Operand)).map fun (i, x) => (i, a.eval x)).toList = [(0, .agg (dg d))] := by simp [hx]
  rw [hp, hs]
  obtain ⟨Z, hZ⟩ : ∃ Z, Z = ((Array.range (1 * 32)).map ((Value.agg zero32).cells[· % (Value.agg zero32).cells.size]!)) := ⟨_, rfl⟩
  have hZs : Z.toList.length = 32 := by rw [hZ]; simp
  rw [← hZ]
  have e : Z = ([] ++ Z.toList ++ []).toArray := by simp
  rw [e, fill_cons _ [] Z.toList [] 0 _ _ (d.map vb) 0 rfl (by simp [hd]) rfl (by rw [hZs, List.length_map, hd])]
  simp [Instr.fill, dg]
def aA : List UInt8 := [97]
def aB : List UInt8 := [98]
def aC : List UInt8 := [99]
theorem sha_ab : (S.sha aA == S.sha aB) = false := by kernel_rfl
theorem sha_cb : (S.sha aC == S.sha aB) = false := by kernel_rfl
theorem ne_ab : S.sha aA ≠ S.sha aB := fun e => by have := sha_ab; rw [e] at this; simp at this
theorem ne_cb : S.sha aC ≠ S.sha aB := fun e => by have := sha_cb; rw [e] at this; simp at this
theorem one_no {t d : List UInt8} (u n : Nat) (p : List (List UInt8)) (h : S.sha t ≠ d) : (⟨[some (t, u)], n, p⟩ : Ag).fnd d = none := by
  simp [Ag.fnd, V.findN, Ag.es, enG, List.findIdx?_cons, h]
theorem one_yes {t : List UInt8} (u n : Nat) (p : List (List UInt8)) : (⟨[some (t, u)], n, p⟩ : Ag).fnd (S.sha t) = some 0 := by
  simp [Ag.fnd, V.findN, Ag.es, enG, List.findIdx?_cons, V.kb]
theorem new_no (n : Nat) (d : List UInt8) : (agN n).fnd d = none := by
  have := find0 n V.kb d
  simpa [Ag.fnd, Ag.es, agN, enG] using this
theorem room_new1 : (agN 1).room = some 0 := by
  have : freeI (agN 1).es = 0 := rfl
  unfold Ag.room; rw [this]; rfl
theorem one_full (t : List UInt8) (u n : Nat) (p : List (List UInt8)) : freeI (⟨[some (t, u)], n, p⟩ : Ag).es = -1 := rfl
theorem room_one (t : List UInt8) (u n : Nat) : (⟨[some (t, u)], n, []⟩ : Ag).room = some 0 := by
  unfold Ag.room; rw [one_full]
  simp [Ag.es, enG, oldS]
theorem room_pin (t : List UInt8) (u n : Nat) : (⟨[some (t, u)], n, [S.sha t]⟩ : Ag).room = none := by
  unfold Ag.room; rw [one_full]
  simp [Ag.es, enG, oldS]
theorem put_new1 (t : List UInt8) : (agN 1).put 0 t = ⟨[some (t, 1)], 1, []⟩ := rfl
theorem put_one (t s : List UInt8) (u n : Nat) (p : List (List UInt8)) : (⟨[some (t, u)], n, p⟩ : Ag).put 0 s = ⟨[some (s, n + 1)], n + 1, p⟩ := rfl
def Ag1 (t : List UInt8) (n : Nat) (p : List (List UInt8)) : Ag := ⟨[some (t, n)], n, p⟩
theorem zero32_dg : zero32 = dg V.zd := by rfl

set_option maxRecDepth 8000 in
set_option maxHeartbeats 4000000 in
theorem awake_h {w W : World} (h : GB w W) : Calls Tryz.prog 4 #[] W fun e w' => e = .returned (.bool true) ∧ GB w w' := by
  have hG := h.g
  have hbase : ∀ w', Below W.heap.size W w' → GB w w' := fun w' hb => h.step hb
  clear h
  have CN : Hid (Calls Tryz.prog 8 #[.int .i64 1] W fun e w' => ∃ b c, e = .returned (.pointer (some ⟨b, 0, none⟩)) ∧ (W.heap.size ≤ b ∧ W.heap.size ≤ c) ∧ SW W b c (new 1) w') := (shNew_at 1 (by omega) W).mono (fun e w' h => by obtain ⟨b, c, h1, h2, h3, h4⟩ := h; exact ⟨b, c, h1, ⟨h2, h3⟩, h4⟩)
  have CO : Hid (∀ {b c : Nat} W', (W.heap.size ≤ b ∧ W.heap.size ≤ c) → SW W b c (new 1) W' → Calls Tryz.prog 9 #[.pointer (some ⟨b, 0, none⟩)] W' fun e' w' => ∃ k, e' = .returned (.tuple #[.pointer (some ⟨k + 2, 0, none⟩), .int .i64 0]) ∧ AW W 0 (newB b c k) (agN 1) 0 [] w') := fun W' hbc x => Open_new x hbc.1 hbc.2 hG (by omega)
  have C1 : Hid (∀ {b : HB} {k : Nat} {qs} W', b.hv = k → AW W 0 b (agN 1) 0 qs W' → Calls Tryz.prog 11 #[.pointer (some ⟨k, 0, none⟩), .string ⟨#[97]⟩] W' fun e' w' => e' = .returned (.tuple #[.agg (dg (S.sha aA)), .int .i64 0]) ∧ AW W 0 b (Ag1 aA 1 []) 3 qs w') := fun W' hk x => by subst hk; exact x.putNew (by omega) aA (by decide) (new_no 1 _) room_new1
  have C2 : Hid (∀ {b : HB} {k : Nat} {qs} W', b.hv = k → AW W 0 b (Ag1 aA 1 []) 3 qs W' → Calls Tryz.prog 11 #[.pointer (some ⟨k, 0, none⟩), .string ⟨#[98]⟩] W' fun e' w' => e' = .returned (.tuple #[.agg (dg (S.sha aB)), .int .i64 0]) ∧ AW W 0 b (Ag1 aB 2 []) 6 qs w') := fun W' hk x => by subst hk; exact x.putNew (by omega) aB (by decide) (one_no _ _ _ ne_ab) (room_one _ _ _)
  have C3 : Hid (∀ {b : HB} {k : Nat} {qs} W', b.hv = k → AW W 0 b (Ag1 aB 2 []) 6 qs W' → Calls Tryz.prog 17 #[.pointer (some ⟨k, 0, none⟩), .agg (dg (S.sha aA))] W' fun e' w' => e' = .returned (.tuple #[.string ⟨#[]⟩, .bool false]) ∧ AW W 0 b (Ag1 aB 2 []) 9 qs w') := fun W' hk x => by subst hk; exact x.blobNo (S.sha_length _) (one_no _ _ _ (Ne.symm ne_ab))
  have C4 : Hid (∀ {b : HB} {k : Nat} {qs} W', b.hv = k → AW W 0 b (Ag1 aB 2 []) 9 qs W' → Calls Tryz.prog 17 #[.pointer (some ⟨k, 0, none⟩), .agg (dg (S.sha aB))] W' fun e' w' => e' = .returned (.tuple #[.string ⟨#[98]⟩, .bool true]) ∧ AW W 0 b (Ag1 aB 3 []) 12 qs w') := fun W' hk x => by subst hk; exact x.blobYes (by omega) (one_yes _ _ _) (t := aB) (u := 2) rfl
  have C5 : Hid (∀ {b : HB} {k : Nat} {qs} W', b.hv = k → AW W 0 b (Ag1 aB 3 []) 12 qs W' → Calls Tryz.prog 23 #[.pointer (some ⟨k, 0, none⟩), .slice (some ⟨W'.heap.size, 0, none⟩) 1 1] (W'.alloc (.cells (dg (S.sha aB)) 39)) fun e' w' => e' = .returned (.tuple #[]) ∧ ∃ b', (b'.hv = k ∧ b'.sh = b.sh ∧ b'.sc = b.sc) ∧ AW W 0 b' (Ag1 aB 3 [S.sha aB]) 12 qs w') := fun W' hk x => by subst hk; exact Pin_g x _ (S.sha_length _) (by decide)
  have C6 : Hid (∀ {b : HB} {k : Nat} {qs} W', b.hv = k → AW W 0 b (Ag1 aB 3 [S.sha aB]) 12 qs W' → Calls Tryz.prog 11 #[.pointer (some ⟨k, 0, none⟩), .string ⟨#[99]⟩] W' fun e' w' => e' = .returned (.tuple #[.agg (dg V.zd), .int .i64 11]) ∧ AW W 0 b (Ag1 aB 3 [S.sha aB]) 15 qs w') := fun W' hk x => by subst hk; exact x.putFull (by omega) aC (by decide) (one_no _ _ _ (Ne.symm ne_cb)) (room_pin _ _ _)
  have C7 : Hid (∀ {b : HB} {k : Nat} {qs} W', b.hv = k → AW W 0 b (Ag1 aB 3 [S.sha aB]) 15 qs W' → Calls Tryz.prog 14 #[.pointer (some ⟨k, 0, none⟩)] W' fun e' w' => e' = .returned (.int .i64 0) ∧ ∃ a, a ≤ 16 ∧ AX W b.sh b.sc (shOf 0 a [H.settle (V.sealB (V.blobL aB))]) qs w') := fun W' hk x => by subst hk; exact x.sync (by omega) rfl
  have C8 : Hid (∀ {sh sc a qs} W', AX W sh sc (shOf 0 a [H.settle (V.sealB (V.blobL aB))]) qs W' → Calls Tryz.prog 15 #[.pointer (some ⟨sh, 0, none⟩)] W' fun e' w' => e' = .returned (.tuple #[]) ∧ AX W sh sc ⟨true, 0, a, 1, [H.settle (V.sealB (V.blobL aB))]⟩ qs w') := fun W' x => by
    refine (Off_at x.s (by show (0 : Nat) ≤ _; omega)).mono ?_
    rintro e' w' ⟨rfl, y⟩
    exact ⟨rfl, x.next y⟩
  have C9 : Hid (∀ {sh sc a qs} W', a ≤ 16 → AX W sh sc ⟨true, 0, a, 1, [H.settle (V.sealB (V.blobL aB))]⟩ qs W' → Calls Tryz.prog 16 #[.pointer (some ⟨sh, 0, none⟩), .slice none 0 0] W' fun e' w' => e' = .returned (.tuple #[]) ∧ AX W sh sc (shOf 1 a [H.settle (V.sealB (V.blobL aB))]) qs w') := fun {sh sc a qs} W' ha x => by
    have hs := seal_len aB (by decide)
    have hS : Ss 1 [H.settle (V.sealB (V.blobL aB))] := ⟨rfl, fun s hs' => by simp at hs'; subst hs'; exact ⟨hs, hs⟩⟩
    refine (On_at x.s rfl (hS.sm (by omega) true 0 a 1 (by omega) (by omega) (by omega)) [] none 0 (fun i y h => by simp at h) (by decide) (fun y h => by simp at h)).mono ?_
    rintro e' w' ⟨rfl, y⟩
    refine ⟨rfl, x.next ?_⟩
    have e : H.on [] ⟨true, 0, a, 1, [H.settle (V.sealB (V.blobL aB))]⟩ = shOf 1 a [H.settle (V.sealB (V.blobL aB))] := rfl
    rw [← e]; exact y
  have C10 : Hid (∀ {sh sc a qs} W', a ≤ 16 → AX W sh sc (shOf 1 a [H.settle (V.sealB (V.blobL aB))]) qs W' → Calls Tryz.prog 9 #[.pointer (some ⟨sh, 0, none⟩)] W' fun e' w' => ∃ k, e' = .returned (.tuple #[.pointer (some ⟨k + 2, 0, none⟩), .int .i64 0]) ∧ AW W 1 (newB sh sc k) (Ag1 aB 1 []) 30 qs w') := fun W' ha x => by
    refine (x.openOne (by decide) hG (by omega) (by omega)).mono ?_
    rintro e' w' ⟨k, rfl, y⟩
    exact ⟨k, rfl, y.wider (by omega)⟩
  have C11 : Hid (∀ {b : HB} {k : Nat} {qs} W', b.hv = k → AW W 1 b (Ag1 aB 1 []) 30 qs W' → Calls Tryz.prog 17 #[.pointer (some ⟨k, 0, none⟩), .agg (dg (S.sha aB))] W' fun e' w' => e' = .returned (.tuple #[.string ⟨#[98]⟩, .bool true]) ∧ AW W 1 b (Ag1 aB 2 []) 33 qs w') := fun W' hk x => by subst hk; exact x.blobYes (by omega) (one_yes _ _ _) (t := aB) (u := 1) rfl
  have C12 : Hid (∀ {b : HB} {qs} W' T, AW W 1 b (Ag1 aB 2 []) 33 qs W' → Calls Tryz.prog 18 #[.slice (some ⟨W'.heap.size, 0, none⟩) 1 1] (W'.alloc (.cells #[.string ⟨#[97]⟩] T)) fun e' w' => e' = .returned (.agg (dg (S.sha aA))) ∧ AW W 1 b (Ag1 aB 2 []) 33 qs w') := fun W' T x => by
    refine (Of_g aA T (GB.refl x.gw) (by decide)).mono ?_
    rintro e' w' ⟨rfl, hg⟩
    exact ⟨rfl, x.step hg.b⟩
  have C13 : Hid (∀ {b : HB} {k : Nat} {qs} W', b.hv = k → AW W 1 b (Ag1 aB 2 []) 33 qs W' → Calls Tryz.prog 22 #[.pointer (some ⟨k, 0, none⟩)] W' fun e' w' => e' = .returned (.int .i64 1) ∧ AW W 1 b (Ag1 aB 2 []) 33 qs w') := fun W' hk x => by
    subst hk
    refine (Len_g x.B).mono ?_
    rintro e' w' ⟨rfl, rfl⟩
    exact ⟨rfl, x⟩
  have C14 : Hid (∀ {b : HB} {k : Nat} {qs} W', b.hv = k → AW W 1 b (Ag1 aB 2 []) 33 qs W' → Calls Tryz.prog 20 #[.pointer (some ⟨k, 0, none⟩)] W' fun e' w' => e' = .returned (.slice none 0 0) ∧ AW W 1 b (Ag1 aB 2 []) 33 qs w') := fun W' hk x => by subst hk; exact x.keys
  have HST : Hid (∀ W : World, (W.alloc (.cells zero32 39)).heap[W.heap.size]? = some (.cells zero32 39 (0, 0))) := hst32
  have hz3 := zero32_size
  have hla := S.sha_length aA
  have hlb := S.sha_length aB
  have hlz := zd_length
  generalize S.sha aA = da at *
  generalize S.sha aB = db at *
  generalize hdz : V.zd = dz at *
  have hda : (dg da).size = 32 := by rw [dg_size, hla]
  have hdb : (dg db).size = 32 := by rw [dg_size, hlb]
  have hdz' : (dg dz).size = 32 := by rw [dg_size, hlz]
  have oa := dg_one da
  have ob := dg_one db
  have oz := dg_one dz
  have hEQ : ∀ W, (Op.equalIn 10000 39 (.agg (da.map vb).toArray) (.agg (da.map vb).toArray)).run Tryz.prog W = .ok true W := fun W => by
    have := eqDgD 9998 da da hla hla W
    simpa [dg] using this
  have hia : (Tryz.prog.info? 39).map (·.size) = some (da.map vb).length := by rw [info27, List.length_map, hla]
  clear hdz hlz hla hG
  go_enter Tryz.func4, Tryz.ntmps4
  go_wp2_with (first
    | (go_at_call 8; refine CN.out.mono ?_; clear CN; rintro e w1 ⟨b, c, rfl, hbc, LX⟩)
    | (go_at_call 9; refine (CO.out _ hbc LX).mono ?_; clear CO LX; rintro e w2 ⟨k, rfl, LX⟩; have hk : (newB b c k).hv = k + 2 := rfl; have hsh : (newB b c k).sh = b ∧ (newB b c k).sc = c := ⟨rfl, rfl⟩; generalize newB b c k = nb at LX hk hsh))
  go_wp2_with (first
    | (go_at_call 11; refine (C1.out _ hk LX).mono ?_; clear C1 LX; rintro e w3 ⟨rfl, LX⟩)
    | (refine wpList_store_row rfl 39 _ _ rfl w3.heap.size (dg da) rfl rfl 39 zero32 (HST.out w3) (by rw [hda]; exact info27) (by rw [hz3, hda]) oa ?_; rw [World.setRow_alloc_new]; replace LX := LX.row da)
    | (go_at_call 11; refine (C2.out _ hk LX).mono ?_; clear C2 LX; rintro e w4 ⟨rfl, LX⟩)
    | (refine wpList_store_row rfl 39 _ _ rfl w4.heap.size (dg db) rfl rfl 39 zero32 (HST.out w4) (by rw [hdb]; exact info27) (by rw [hz3, hdb]) ob ?_; rw [World.setRow_alloc_new]; replace LX := LX.row db)
    | (refine wpList_load_row rfl 39 _ rfl w3.heap.size rfl 39 (dg da) (0, 0) _ (LX.r (w3.heap.size, da) (by simp)).1 und27 rfl (by rw [hda]; exact info27) ?_)
    | (go_at_call 17; refine (C3.out _ hk LX).mono ?_; clear C3 LX; rintro e w5 ⟨rfl, LX⟩)
    | (refine wpList_load_row rfl 39 _ rfl w4.heap.size rfl 39 (dg db) (0, 0) _ (LX.r (w4.heap.size, db) (by simp)).1 und27 rfl (by rw [hdb]; exact info27) ?_)
    | (go_at_call 17; refine (C4.out _ hk LX).mono ?_; clear C4 LX; rintro e w6 ⟨rfl, LX⟩)
    | (refine wl_bs33 rfl _ rfl db hlb rfl ?_)
    | (go_at_call 23; refine (C5.out _ hk LX).mono ?_; clear C5 LX hk; rintro e w7 ⟨rfl, nc, hs, LX⟩; have hk := hs.1)
    | (go_at_call 11; refine (C6.out _ hk LX).mono ?_; clear C6 LX; rintro e w8 ⟨rfl, LX⟩)
    | (refine wpList_store_row rfl 39 _ _ rfl w8.heap.size (dg dz) rfl rfl 39 zero32 (HST.out w8) (by rw [hdz']; exact info27) (by rw [hz3, hdz']) oz ?_; rw [World.setRow_alloc_new]; replace LX := LX.row dz)
    | (go_at_call 14; refine (C7.out _ hk LX).mono ?_; clear C7 LX hk; rintro e w9 ⟨rfl, a, ha, LX⟩; rw [hs.2.1, hs.2.2, hsh.1, hsh.2] at LX)
    | (go_at_call 15; refine (C8.out _ LX).mono ?_; clear C8 LX; rintro e w10 ⟨rfl, LX⟩)
    | (go_at_call 16; refine (C9.out _ ha LX).mono ?_; clear C9 LX; rintro e w11 ⟨rfl, LX⟩)
    | (go_at_call 9; refine (C10.out _ ha LX).mono ?_; clear C10 LX; rintro e w12 ⟨k2, rfl, LX⟩; have hk : (newB b c k2).hv = k2 + 2 := rfl; generalize newB b c k2 = nd at LX hk)
    | (go_at_call 17; refine (C11.out _ hk LX).mono ?_; clear C11 LX; rintro e w13 ⟨rfl, LX⟩))
  have KP : Hid (∀ W', AW W 1 nd (Ag1 aB 2 []) 33 [(w8.heap.size, dz), (w4.heap.size, db), (w3.heap.size, da)] W' → W'.rangeAt w3.heap.size 0 (da.map vb)) := fun W' y => range_part (y.r (w3.heap.size, da) (by simp)).1 [] (da.map vb) [] 0 (by simp [dg]) rfl
  simp only [dg] at C12
  refine wp_region_noPanic ?_
  refine wp_region_held_drew (S := (fun W' => W'.rangeAt w3.heap.size 0 (da.map vb))) (by kernel_rfl) (KP.out _ LX.drew) (fun hHeld => ?_)
  refine wpAnyH_take (i := 0) rfl (by kernel_rfl) (by kernel_rfl) (by kernel_rfl) (fun _ _ _ h => h) (yi_move (by kernel_rfl) rfl rfl) (by assumption) ?_
  simp only [Act.put, List.getElem_toArray, List.getElem_cons_succ, List.getElem_cons_zero, List.setIfInBounds_toArray, List.set_cons_zero, List.set_cons_succ]
  refine wpAnyH_take (i := 1) (v := ?_) rfl (by kernel_rfl) (by kernel_rfl) (by kernel_rfl) (fun _ _ _ h => h) (Or.inl ⟨by kernel_rfl, ?_⟩) (by assumption) ?_
  rotate_left
  · (intro w hSw; (try dsimp only at hSw); go_simp; (try with_reducible rfl))
  simp only [Act.put, List.getElem_toArray, List.getElem_cons_succ, List.getElem_cons_zero, List.setIfInBounds_toArray, List.set_cons_zero, List.set_cons_succ]
  refine wpAnyH_take (i := 2) rfl (by kernel_rfl) (by kernel_rfl) (by kernel_rfl) (fun _ _ _ h => h) (yi_move (by kernel_rfl) rfl rfl) (by assumption) ?_
  simp only [Act.put, List.getElem_toArray, List.getElem_cons_succ, List.getElem_cons_zero, List.setIfInBounds_toArray, List.set_cons_zero, List.set_cons_succ]
  refine wpAnyH_take (i := 3) (v := .agg (List.toArray (da.map vb))) rfl (by kernel_rfl) (by kernel_rfl) (by kernel_rfl) (fun _ _ _ h => h) (yieldsIf_load_mid (by kernel_rfl) _ (.tmp 4) (by kernel_rfl) w3.heap.size 0 (by kernel_rfl) (da.map vb) _ (fun W hW => hW) und27 rfl hia) (by assumption) ?_
  simp only [Act.put, List.getElem_toArray, List.getElem_cons_succ, List.getElem_cons_zero, List.setIfInBounds_toArray, List.set_cons_zero, List.set_cons_succ]
  refine wpAnyH_ready (rs := [4]) (by kernel_rfl) (by simp) ?_
  refine AllReadyH.cons (o := _) rfl (fun K hK => ?_) AllReadyH.nil
  go_simp
  refine hK.out _ _ (KP.out _ (LX.drew.alloc _)) (fun hHeld => ?_)
  clear hK K
  (try simp only [Act.put, List.getElem_toArray, List.getElem_cons_succ, List.getElem_cons_zero, List.setIfInBounds_toArray, List.set_cons_zero, List.set_cons_succ])
  refine wpAnyH_ready (rs := [5]) (by kernel_rfl) (by simp) ?_
  refine AllReadyH.cons (o := _) rfl (fun K hK => ?_) AllReadyH.nil
  go_simp
  (refine (C12.out _ _ LX.drew).mono ?_; rintro e x6 ⟨rfl, HB6⟩; dsimp only)
  refine hK.out _ _ (KP.out _ HB6) (fun hHeld => ?_)
  clear hK K
  (try simp only [Act.put, List.getElem_toArray, List.getElem_cons_succ, List.getElem_cons_zero, List.setIfInBounds_toArray, List.set_cons_zero, List.set_cons_succ])
  refine wpAnyH_take (i := 6) (v := ?_) rfl (by kernel_rfl) (by kernel_rfl) (by kernel_rfl) (fun _ _ _ h => h) (Or.inl ⟨by kernel_rfl, ?_⟩) (by assumption) ?_
  rotate_left
  · (intro w hSw; (try dsimp only at hSw); go_simp; (try with_reducible rfl))
  simp only [Act.put, List.getElem_toArray, List.getElem_cons_succ, List.getElem_cons_zero, List.setIfInBounds_toArray, List.set_cons_zero, List.set_cons_succ]
  refine wpAnyH_take (i := 7) (v := ?_) rfl (by kernel_rfl) (by kernel_rfl) (by kernel_rfl) (fun _ _ _ h => h) (Or.inl ⟨by kernel_rfl, ?_⟩) (by assumption) ?_
  rotate_left
  · (intro w hSw; (try dsimp only at hSw); go_simp; (try with_reducible rfl))
  simp only [Act.put, List.getElem_toArray, List.getElem_cons_succ, List.getElem_cons_zero, List.setIfInBounds_toArray, List.set_cons_zero, List.set_cons_succ]
  refine wpAnyH_take (i := 8) rfl (by kernel_rfl) (by kernel_rfl) (by kernel_rfl) (fun _ _ _ h => h) (yi_move (by kernel_rfl) rfl rfl) (by assumption) ?_
  simp only [Act.put, List.getElem_toArray, List.getElem_cons_succ, List.getElem_cons_zero, List.setIfInBounds_toArray, List.set_cons_zero, List.set_cons_succ]
  refine wpAnyH_take (i := 9) rfl (by kernel_rfl) (by kernel_rfl) (by kernel_rfl) (fun _ _ _ h => h) (yi_move (by kernel_rfl) rfl rfl) (by assumption) ?_
  simp only [Act.put, List.getElem_toArray, List.getElem_cons_succ, List.getElem_cons_zero, List.setIfInBounds_toArray, List.set_cons_zero, List.set_cons_succ]
  refine wpAnyH_take (i := 10) (v := ?_) rfl (by kernel_rfl) (by kernel_rfl) (by kernel_rfl) (fun _ _ _ h => h) (Or.inl ⟨by kernel_rfl, ?_⟩) (by assumption) ?_
  rotate_left
  · (intro w hSw; (try dsimp only at hSw); go_simp; (try with_reducible rfl))
  simp only [Act.put, List.getElem_toArray, List.getElem_cons_succ, List.getElem_cons_zero, List.setIfInBounds_toArray, List.set_cons_zero, List.set_cons_succ]
  refine wpAnyH_take (i := 11) (v := ?_) rfl (by kernel_rfl) (by kernel_rfl) (by kernel_rfl) (fun _ _ _ h => h) (Or.inl ⟨by kernel_rfl, ?_⟩) (by assumption) ?_
  rotate_left
  · (intro w hSw; (try dsimp only at hSw); go_simp; (try with_reducible rfl))
  simp only [Act.put, List.getElem_toArray, List.getElem_cons_succ, List.getElem_cons_zero, List.setIfInBounds_toArray, List.set_cons_zero, List.set_cons_succ]
  refine wpAnyH_take (i := 12) rfl (by kernel_rfl) (by kernel_rfl) (by kernel_rfl) (fun _ _ _ h => h) (yi_move (by kernel_rfl) rfl rfl) (by assumption) ?_
  simp only [Act.put, List.getElem_toArray, List.getElem_cons_succ, List.getElem_cons_zero, List.setIfInBounds_toArray, List.set_cons_zero, List.set_cons_succ]
  refine wpAnyH_take (i := 13) rfl (by kernel_rfl) (by kernel_rfl) (by kernel_rfl) (fun _ _ _ h => h) (yi_move (by kernel_rfl) rfl rfl) (by assumption) ?_
  simp only [Act.put, List.getElem_toArray, List.getElem_cons_succ, List.getElem_cons_zero, List.setIfInBounds_toArray, List.set_cons_zero, List.set_cons_succ]
  refine wpAnyH_take (i := 14) (v := ?_) rfl (by kernel_rfl) (by kernel_rfl) (by kernel_rfl) (fun _ _ _ h => h) (Or.inl ⟨by kernel_rfl, ?_⟩) (by assumption) ?_
  rotate_left
  · (intro w hSw; (try dsimp only at hSw); go_simp; (try with_reducible rfl))
  simp only [Act.put, List.getElem_toArray, List.getElem_cons_succ, List.getElem_cons_zero, List.setIfInBounds_toArray, List.set_cons_zero, List.set_cons_succ]
  refine wpAnyH_take (i := 15) (v := ?_) rfl (by kernel_rfl) (by kernel_rfl) (by kernel_rfl) (fun _ _ _ h => h) (Or.inl ⟨by kernel_rfl, ?_⟩) (by assumption) ?_
  rotate_left
  · (intro w hSw; (try dsimp only at hSw); go_simp; (try with_reducible rfl))
  simp only [Act.put, List.getElem_toArray, List.getElem_cons_succ, List.getElem_cons_zero, List.setIfInBounds_toArray, List.set_cons_zero, List.set_cons_succ]
  refine wpAnyH_take (i := 16) rfl (by kernel_rfl) (by kernel_rfl) (by kernel_rfl) (fun _ _ _ h => h) (yi_move (by kernel_rfl) rfl rfl) (by assumption) ?_
  simp only [Act.put, List.getElem_toArray, List.getElem_cons_succ, List.getElem_cons_zero, List.setIfInBounds_toArray, List.set_cons_zero, List.set_cons_succ]
  refine wpAnyH_take (i := 17) rfl (by kernel_rfl) (by kernel_rfl) (by kernel_rfl) (fun _ _ _ h => h) (yi_move (by kernel_rfl) rfl rfl) (by assumption) ?_
  simp only [Act.put, List.getElem_toArray, List.getElem_cons_succ, List.getElem_cons_zero, List.setIfInBounds_toArray, List.set_cons_zero, List.set_cons_succ]
  refine wpAnyH_take (i := 18) (v := ?_) rfl (by kernel_rfl) (by kernel_rfl) (by kernel_rfl) (fun _ _ _ h => h) (Or.inl ⟨by kernel_rfl, ?_⟩) (by assumption) ?_
  rotate_left
  · (intro w hSw; (try dsimp only at hSw); go_simp; (try with_reducible rfl))
  simp only [Act.put, List.getElem_toArray, List.getElem_cons_succ, List.getElem_cons_zero, List.setIfInBounds_toArray, List.set_cons_zero, List.set_cons_succ]
  refine wpAnyH_take (i := 19) (v := ?_) rfl (by kernel_rfl) (by kernel_rfl) (by kernel_rfl) (fun _ _ _ h => h) (Or.inl ⟨by kernel_rfl, ?_⟩) (by assumption) ?_
  rotate_left
  · (intro w hSw; (try dsimp only at hSw); go_simp; (try with_reducible rfl))
  simp only [Act.put, List.getElem_toArray, List.getElem_cons_succ, List.getElem_cons_zero, List.setIfInBounds_toArray, List.set_cons_zero, List.set_cons_succ]
  refine wpAnyH_take (i := 20) rfl (by kernel_rfl) (by kernel_rfl) (by kernel_rfl) (fun _ _ _ h => h) (yi_move (by kernel_rfl) rfl rfl) (by assumption) ?_
  simp only [Act.put, List.getElem_toArray, List.getElem_cons_succ, List.getElem_cons_zero, List.setIfInBounds_toArray, List.set_cons_zero, List.set_cons_succ]
  refine wpAnyH_take (i := 21) rfl (by kernel_rfl) (by kernel_rfl) (by kernel_rfl) (fun _ _ _ h => h) (yi_move (by kernel_rfl) rfl rfl) (by assumption) ?_
  simp only [Act.put, List.getElem_toArray, List.getElem_cons_succ, List.getElem_cons_zero, List.setIfInBounds_toArray, List.set_cons_zero, List.set_cons_succ]
  refine wpAnyH_take (i := 22) (v := ?_) rfl (by kernel_rfl) (by kernel_rfl) (by kernel_rfl) (fun _ _ _ h => h) (Or.inl ⟨by kernel_rfl, ?_⟩) (by assumption) ?_
  rotate_left
  · (intro w hSw; (try dsimp only at hSw); go_simp; (try with_reducible rfl))
  simp only [Act.put, List.getElem_toArray, List.getElem_cons_succ, List.getElem_cons_zero, List.setIfInBounds_toArray, List.set_cons_zero, List.set_cons_succ]
  refine wpAnyH_take (i := 23) rfl (by kernel_rfl) (by kernel_rfl) (by kernel_rfl) (fun _ _ _ h => h) (yi_move (by kernel_rfl) rfl rfl) (by assumption) ?_
  simp only [Act.put, List.getElem_toArray, List.getElem_cons_succ, List.getElem_cons_zero, List.setIfInBounds_toArray, List.set_cons_zero, List.set_cons_succ]
  refine wpAnyH_take (i := 24) rfl (by kernel_rfl) (by kernel_rfl) (by kernel_rfl) (fun _ _ _ h => h) (yi_move (by kernel_rfl) rfl rfl) (by assumption) ?_
  simp only [Act.put, List.getElem_toArray, List.getElem_cons_succ, List.getElem_cons_zero, List.setIfInBounds_toArray, List.set_cons_zero, List.set_cons_succ]
  refine wpAnyH_take (i := 25) (v := ?_) rfl (by kernel_rfl) (by kernel_rfl) (by kernel_rfl) (fun _ _ _ h => h) (Or.inl ⟨by kernel_rfl, ?_⟩) (by assumption) ?_
  rotate_left
  · (intro w hSw; (try dsimp only at hSw); go_simp; (try with_reducible rfl))
  simp only [Act.put, List.getElem_toArray, List.getElem_cons_succ, List.getElem_cons_zero, List.setIfInBounds_toArray, List.set_cons_zero, List.set_cons_succ]
  refine wpAnyH_take (i := 26) (v := ?_) rfl (by kernel_rfl) (by kernel_rfl) (by kernel_rfl) (fun _ _ _ h => h) (Or.inl ⟨by kernel_rfl, ?_⟩) (by assumption) ?_
  rotate_left
  · (intro w hSw; (try dsimp only at hSw); go_simp; (try with_reducible rfl))
  simp only [Act.put, List.getElem_toArray, List.getElem_cons_succ, List.getElem_cons_zero, List.setIfInBounds_toArray, List.set_cons_zero, List.set_cons_succ]
  refine wpAnyH_take (i := 27) rfl (by kernel_rfl) (by kernel_rfl) (by kernel_rfl) (fun _ _ _ h => h) (yi_move (by kernel_rfl) rfl rfl) (by assumption) ?_
  simp only [Act.put, List.getElem_toArray, List.getElem_cons_succ, List.getElem_cons_zero, List.setIfInBounds_toArray, List.set_cons_zero, List.set_cons_succ]
  refine wpAnyH_take (i := 28) rfl (by kernel_rfl) (by kernel_rfl) (by kernel_rfl) (fun _ _ _ h => h) (yi_move (by kernel_rfl) rfl rfl) (by assumption) ?_
  simp only [Act.put, List.getElem_toArray, List.getElem_cons_succ, List.getElem_cons_zero, List.setIfInBounds_toArray, List.set_cons_zero, List.set_cons_succ]
  refine wpAnyH_take (i := 29) (v := ?_) rfl (by kernel_rfl) (by kernel_rfl) (by kernel_rfl) (fun _ _ _ h => h) (Or.inl ⟨by kernel_rfl, ?_⟩) (by assumption) ?_
  rotate_left
  · (intro w hSw; (try dsimp only at hSw); go_simp; (try with_reducible rfl))
  simp only [Act.put, List.getElem_toArray, List.getElem_cons_succ, List.getElem_cons_zero, List.setIfInBounds_toArray, List.set_cons_zero, List.set_cons_succ]
  refine wpAnyH_take (i := 30) (v := ?_) rfl (by kernel_rfl) (by kernel_rfl) (by kernel_rfl) (fun _ _ _ h => h) (Or.inl ⟨by kernel_rfl, ?_⟩) (by assumption) ?_
  rotate_left
  · (intro w hSw; (try dsimp only at hSw); go_simp; (try with_reducible rfl))
  simp only [Act.put, List.getElem_toArray, List.getElem_cons_succ, List.getElem_cons_zero, List.setIfInBounds_toArray, List.set_cons_zero, List.set_cons_succ]
  refine wpAnyH_take (i := 31) rfl (by kernel_rfl) (by kernel_rfl) (by kernel_rfl) (fun _ _ _ h => h) (yi_move (by kernel_rfl) rfl rfl) (by assumption) ?_
  simp only [Act.put, List.getElem_toArray, List.getElem_cons_succ, List.getElem_cons_zero, List.setIfInBounds_toArray, List.set_cons_zero, List.set_cons_succ]
  refine wpAnyH_take (i := 32) rfl (by kernel_rfl) (by kernel_rfl) (by kernel_rfl) (fun _ _ _ h => h) (yi_move (by kernel_rfl) rfl rfl) (by assumption) ?_
  simp only [Act.put, List.getElem_toArray, List.getElem_cons_succ, List.getElem_cons_zero, List.setIfInBounds_toArray, List.set_cons_zero, List.set_cons_succ]
  refine wpAnyH_take (i := 33) (v := ?_) rfl (by kernel_rfl) (by kernel_rfl) (by kernel_rfl) (fun _ _ _ h => h) (Or.inl ⟨by kernel_rfl, ?_⟩) (by assumption) ?_
  rotate_left
  · (intro w hSw; (try dsimp only at hSw); go_simp; (try with_reducible rfl))
  simp only [Act.put, List.getElem_toArray, List.getElem_cons_succ, List.getElem_cons_zero, List.setIfInBounds_toArray, List.set_cons_zero, List.set_cons_succ]
  refine wpAnyH_take (i := 34) (v := ?_) rfl (by kernel_rfl) (by kernel_rfl) (by kernel_rfl) (fun _ _ _ h => h) (Or.inl ⟨by kernel_rfl, ?_⟩) (by assumption) ?_
  rotate_left
  · (intro w hSw; (try dsimp only at hSw); go_simp; (try with_reducible rfl))
  simp only [Act.put, List.getElem_toArray, List.getElem_cons_succ, List.getElem_cons_zero, List.setIfInBounds_toArray, List.set_cons_zero, List.set_cons_succ]
  refine wpAnyH_take (i := 35) rfl (by kernel_rfl) (by kernel_rfl) (by kernel_rfl) (fun _ _ _ h => h) (yi_move (by kernel_rfl) rfl rfl) (by assumption) ?_
  simp only [Act.put, List.getElem_toArray, List.getElem_cons_succ, List.getElem_cons_zero, List.setIfInBounds_toArray, List.set_cons_zero, List.set_cons_succ]
  refine wpAnyH_take (i := 36) rfl (by kernel_rfl) (by kernel_rfl) (by kernel_rfl) (fun _ _ _ h => h) (yi_move (by kernel_rfl) rfl rfl) (by assumption) ?_
  simp only [Act.put, List.getElem_toArray, List.getElem_cons_succ, List.getElem_cons_zero, List.setIfInBounds_toArray, List.set_cons_zero, List.set_cons_succ]
  refine wpAnyH_take (i := 37) (v := ?_) rfl (by kernel_rfl) (by kernel_rfl) (by kernel_rfl) (fun _ _ _ h => h) (Or.inl ⟨by kernel_rfl, ?_⟩) (by assumption) ?_
  rotate_left
  · (intro w hSw; (try dsimp only at hSw); go_simp; (try with_reducible rfl))
  simp only [Act.put, List.getElem_toArray, List.getElem_cons_succ, List.getElem_cons_zero, List.setIfInBounds_toArray, List.set_cons_zero, List.set_cons_succ]
  refine wpAnyH_take (i := 38) rfl (by kernel_rfl) (by kernel_rfl) (by kernel_rfl) (fun _ _ _ h => h) (yi_move (by kernel_rfl) rfl rfl) (by assumption) ?_
  simp only [Act.put, List.getElem_toArray, List.getElem_cons_succ, List.getElem_cons_zero, List.setIfInBounds_toArray, List.set_cons_zero, List.set_cons_succ]
  refine wpAnyH_take (i := 39) rfl (by kernel_rfl) (by kernel_rfl) (by kernel_rfl) (fun _ _ _ h => h) (yi_move (by kernel_rfl) rfl rfl) (by assumption) ?_
  simp only [Act.put, List.getElem_toArray, List.getElem_cons_succ, List.getElem_cons_zero, List.setIfInBounds_toArray, List.set_cons_zero, List.set_cons_succ]
  refine wpAnyH_ready (rs := [40]) (by kernel_rfl) (by simp) ?_
  refine AllReadyH.cons (o := _) rfl (fun K hK => ?_) AllReadyH.nil
  go_simp
  (refine (C13.out _ hk HB6).mono ?_; rintro e x41 ⟨rfl, HB41⟩; dsimp only)
  refine hK.out _ _ (KP.out _ HB41) (fun hHeld => ?_)
  clear hK K
  (try simp only [Act.put, List.getElem_toArray, List.getElem_cons_succ, List.getElem_cons_zero, List.setIfInBounds_toArray, List.set_cons_zero, List.set_cons_succ])
  refine wpAnyH_take (i := 41) (v := ?_) rfl (by kernel_rfl) (by kernel_rfl) (by kernel_rfl) (fun _ _ _ h => h) (Or.inl ⟨by kernel_rfl, ?_⟩) (by assumption) ?_
  rotate_left
  · (intro w hSw; (try dsimp only at hSw); go_simp; (try with_reducible rfl))
  simp only [Act.put, List.getElem_toArray, List.getElem_cons_succ, List.getElem_cons_zero, List.setIfInBounds_toArray, List.set_cons_zero, List.set_cons_succ]
  refine wpAnyH_take (i := 42) (v := ?_) rfl (by kernel_rfl) (by kernel_rfl) (by kernel_rfl) (fun _ _ _ h => h) (Or.inl ⟨by kernel_rfl, ?_⟩) (by assumption) ?_
  rotate_left
  · (intro w hSw; (try dsimp only at hSw); go_simp; (try with_reducible rfl))
  simp only [Act.put, List.getElem_toArray, List.getElem_cons_succ, List.getElem_cons_zero, List.setIfInBounds_toArray, List.set_cons_zero, List.set_cons_succ]
  refine wpAnyH_take (i := 43) rfl (by kernel_rfl) (by kernel_rfl) (by kernel_rfl) (fun _ _ _ h => h) (yi_move (by kernel_rfl) rfl rfl) (by assumption) ?_
  simp only [Act.put, List.getElem_toArray, List.getElem_cons_succ, List.getElem_cons_zero, List.setIfInBounds_toArray, List.set_cons_zero, List.set_cons_succ]
  refine wpAnyH_take (i := 44) rfl (by kernel_rfl) (by kernel_rfl) (by kernel_rfl) (fun _ _ _ h => h) (yi_move (by kernel_rfl) rfl rfl) (by assumption) ?_
  simp only [Act.put, List.getElem_toArray, List.getElem_cons_succ, List.getElem_cons_zero, List.setIfInBounds_toArray, List.set_cons_zero, List.set_cons_succ]
  refine wpAnyH_ready (rs := [45]) (by kernel_rfl) (by simp) ?_
  refine AllReadyH.cons (o := _) rfl (fun K hK => ?_) AllReadyH.nil
  go_simp
  (refine (C14.out _ hk HB41).mono ?_; rintro e x46 ⟨rfl, HB46⟩; dsimp only)
  refine hK.out _ _ (KP.out _ HB46) (fun hHeld => ?_)
  clear hK K
  (try simp only [Act.put, List.getElem_toArray, List.getElem_cons_succ, List.getElem_cons_zero, List.setIfInBounds_toArray, List.set_cons_zero, List.set_cons_succ])
  refine wpAnyH_take (i := 46) (v := ?_) rfl (by kernel_rfl) (by kernel_rfl) (by kernel_rfl) (fun _ _ _ h => h) (Or.inl ⟨by kernel_rfl, ?_⟩) (by assumption) ?_
  rotate_left
  · (intro w hSw; (try dsimp only at hSw); go_simp; (try with_reducible rfl))
  simp only [Act.put, List.getElem_toArray, List.getElem_cons_succ, List.getElem_cons_zero, List.setIfInBounds_toArray, List.set_cons_zero, List.set_cons_succ]
  refine wpAnyH_take (i := 47) (v := ?_) rfl (by kernel_rfl) (by kernel_rfl) (by kernel_rfl) (fun _ _ _ h => h) (Or.inl ⟨by kernel_rfl, ?_⟩) (by assumption) ?_
  rotate_left
  · (intro w hSw; (try dsimp only at hSw); go_simp; (try with_reducible rfl))
  simp only [Act.put, List.getElem_toArray, List.getElem_cons_succ, List.getElem_cons_zero, List.setIfInBounds_toArray, List.set_cons_zero, List.set_cons_succ]
  refine wpAnyH_take (i := 48) (v := ?_) rfl (by kernel_rfl) (by kernel_rfl) (by kernel_rfl) (fun _ _ _ h => h) (Or.inl ⟨by kernel_rfl, ?_⟩) (by assumption) ?_
  rotate_left
  · (intro w hSw; (try dsimp only at hSw); go_simp; (try with_reducible rfl))
  simp only [Act.put, List.getElem_toArray, List.getElem_cons_succ, List.getElem_cons_zero, List.setIfInBounds_toArray, List.set_cons_zero, List.set_cons_succ]
  refine wpAnyH_take (i := 49) rfl (by kernel_rfl) (by kernel_rfl) (by kernel_rfl) (fun _ _ _ h => h) (yi_assign (by kernel_rfl) rfl rfl) (by assumption) ?_
  simp only [Act.put, List.getElem_toArray, List.getElem_cons_succ, List.getElem_cons_zero, List.setIfInBounds_toArray, List.set_cons_zero, List.set_cons_succ]
  refine wpAnyH_done (by kernel_rfl) ?_ _
  refine NoPanic.normal ?_
  clear hHeld KP
  have HL : Hid _ := HB46.o
  go_wp2_with fail
  go_ret
  exact ⟨rfl, hbase _ HL.out⟩
end Go.Proofs.YtlkllcnnnndllaaGreatDoor
