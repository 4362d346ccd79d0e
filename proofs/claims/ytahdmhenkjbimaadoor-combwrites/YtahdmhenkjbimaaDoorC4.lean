/- What comb.Mani answers. -/
import Derived.Test.YtahdmhenkjbimaaDoorC3
import Derived.Test.YtahdmhenkjbimaaDoorArgs
import Derived.Deep.AppendLies
import Derived.Deep.RegionLaw
namespace Go.Proofs.YtahdmhenkjbimaaDoor
open Go.RowKit
set_option linter.unusedVariables false

def zero34 : Array Value := mv d0 0 none 0 0
theorem zero27m (W : World) : (zeroValue 26).run Tryd.prog W = .ok (.agg zero34) W := by kernel_rfl
theorem zero34_size : zero34.size = 34 := by simp [zero34, mv, d0]
theorem fold_zip (L : List Value) : ∀ (Z : Array Value) (k : Nat), k + L.length ≤ Z.size → (L.zipIdx k).foldl (fun (cs : Array Value) x => cs.setIfInBounds x.2 x.1) Z = (Z.toList.take k ++ L ++ Z.toList.drop (k + L.length)).toArray := by
  induction L with
  | nil => intro Z k h; simp
  | cons x L ih =>
    intro Z k h
    rw [List.zipIdx_cons, List.foldl_cons, ih _ _ (by simp at h ⊢; omega)]
    congr 1
    apply List.ext_getElem?
    intro i
    simp only [List.length_cons] at h
    have hk : k < Z.toList.length := by simp; omega
    simp only [Array.toList_setIfInBounds, List.take_add_one, List.append_assoc]
    rw [List.getElem?_set_self hk, List.take_set_of_le (Nat.le_refl k), List.drop_set_of_lt (by omega)]
    simp [List.length_cons, Nat.add_comm, Nat.add_left_comm]
theorem fold_mv (whole : List UInt8) (h : whole.length = 32) (n : Int) : (Array.foldl (fun (cs : Array Value) (x : Value × Nat) => cs.setIfInBounds x.snd x.fst) zero34 (dg whole).zipIdx 0 32).size = 34 ∧ (Array.foldl (fun (cs : Array Value) (x : Value × Nat) => cs.setIfInBounds x.snd x.fst) zero34 (dg whole).zipIdx 0 32).setIfInBounds 32 (.int .i64 n) = mv whole n none 0 0 := by
  have e : Array.foldl (fun (cs : Array Value) (x : Value × Nat) => cs.setIfInBounds x.snd x.fst) zero34 (dg whole).zipIdx 0 32 = mv whole 0 none 0 0 := by
    have e1 : (dg whole).zipIdx = ((whole.map vb).zipIdx).toArray := by simp [dg]
    have e2 : ((whole.map vb).zipIdx).length = 32 := by simp [h]
    rw [e1, ← e2, List.foldl_toArray', fold_zip _ _ _ (by rw [zero34_size]; simp [h])]
    · simp only [List.take_zero, List.nil_append, Nat.zero_add, List.length_map, h]
      unfold mv
      congr 1
    · rfl
  rw [e]
  refine ⟨mv_size _ _ _ _ _ h, ?_⟩
  unfold mv
  simp only [List.setIfInBounds_toArray]
  congr 1
  rw [List.set_append_right _ _ (by simp [h])]
  simp [h]
theorem results2_row {P : Program} {fn : Func} {p q : Tmp} {ty : TypeId} (h : fn.results = #[.cell p ty, .tmp q]) (tmps : Array Value) (w : World) (g : Nat) (t : TypeId) (cs : Array Value) (fr : Nat × Nat) (d : TypeDesc)
    (hp : tmps.getD p undef = .pointer (some ⟨g, 0, none⟩)) (hg : w.heap[g]? = some (.cells cs t fr))
    (hu : P.underlying ty = some d) (hd : (match d with | .struct _ | .array _ _ => true | _ => false) = true) (hi : (P.info? ty).map (·.size) = some cs.size) :
    (results fn tmps).run P w = .ok (.tuple #[.agg cs, tmps.getD q undef]) w := by
  have hp' : tmps[p]?.getD undef = .pointer (some ⟨g, 0, none⟩) := by simpa using hp
  simp [results, h, hp', asAddr, run_loadVar_row w g t ty cs fr d hg hu hd hi]

set_option maxRecDepth 8000 in
theorem Mani_wide (s : List UInt8) (w : World) (hs : 512 < s.length) (hs2 : s.length ≤ 9223372036854775807) :
    Calls Tryd.prog 13 #[.string (M.bs s)] w fun e w' => e = .returned (.tuple #[.agg zero34, .int .i64 33]) ∧ Below w.heap.size w w' := by
  have hbs := M.bs_size s
  have hz := zero34_size
  have h1 : zero34.all (·.oneCell') = true := mv_one _ _ _ _ _
  obtain ⟨fs, hum⟩ := und27m
  have hzz : ∀ W, (zeroValue 26).run Tryd.prog W = .ok (.agg zero34) W := zero27m
  have HB : Hid (Below w.heap.size w (w.alloc (.cells zero34 26))) := (Below.refl _ w).alloc (Nat.le_refl _) _
  have HN : Hid ((w.alloc (.cells zero34 26)).heap[w.heap.size]? = some (.cells zero34 26 (0, 0))) := heap_alloc_new _ _
  go_enter Tryd.func13, Tryd.ntmps13
  go_wp2_with (refine wpList_store_row rfl 26 _ _ rfl w.heap.size _ rfl rfl 26 zero34 HN.out (by rw [hz]; exact info27m) rfl h1 ?_)
  (try simp only [Exit.inBlock, Exit.then])
  refine bodyPost_ret (results2_row rfl _ _ _ 26 _ (0, 0) _ rfl (setRow_heap _ _ _ _ _ _ HN.out) hum rfl (by rw [hz]; exact info27m)) rfl ?_
  exact ⟨rfl, below_setRow HB.out (Nat.le_refl _) _⟩

theorem ownsRow_belowN {B n k : Nat} {e : TypeId} {v : Value} {xs : List Value} {w w' : World} (h : w.ownsRow B e k v n xs) (hb : Below w.heap.size w w') : w'.ownsRow B e k v n xs := by
  obtain ⟨h0, h1 | ⟨g, cap, cur, h1, h2, h3, h4⟩⟩ := h
  · exact ⟨h0, Or.inl h1⟩
  · have hg : g < w.heap.size := by
      rcases Nat.lt_or_ge g w.heap.size with h | h
      · exact h
      · rw [Array.getElem?_eq_none h] at h3; simp at h3
    exact ⟨h0, Or.inr ⟨g, cap, cur, h1, h2, by rw [hb.block g hg]; exact h3, h4⟩⟩
theorem ownsRow_off {B n k mb : Nat} {e : TypeId} {v : Value} {xs : List Value} {w w' : World} (h : w.ownsRow B e k v n xs) (ho : Off mb w w') (hm : mb < B) : w'.ownsRow B e k v n xs := by
  obtain ⟨h0, h1 | ⟨g, cap, cur, h1, h2, h3, h4⟩⟩ := h
  · exact ⟨h0, Or.inl h1⟩
  · have hg : g < w.heap.size := by
      rcases Nat.lt_or_ge g w.heap.size with h | h
      · exact h
      · rw [Array.getElem?_eq_none h] at h3; simp at h3
    exact ⟨h0, Or.inr ⟨g, cap, cur, h1, h2, by rw [ho.block g hg (by omega)]; exact h3, h4⟩⟩
theorem fold_dg (d : List UInt8) (h : d.length = 32) (Y : Array Value) (hY : Y.size = 32) : Array.foldl (fun (cs : Array Value) (x : Value × Nat) => cs.setIfInBounds x.snd x.fst) Y (dg d).zipIdx 0 32 = dg d := by
  have e1 : (dg d).zipIdx = ((d.map vb).zipIdx).toArray := by simp [dg]
  have e2 : ((d.map vb).zipIdx).length = 32 := by simp [h]
  rw [e1, ← e2, List.foldl_toArray', fold_zip _ _ _ (by rw [hY]; simp [h])]
  · have : Y.toList.drop 32 = [] := List.drop_of_length_le (by simp [hY])
    simp only [List.take_zero, List.nil_append, Nat.zero_add, List.length_map, h, this, List.append_nil]
    rfl
  · rfl
/-- the cells of k digests of chunks -/
def flatD (ds : List (List UInt8)) : List Value := (ds.map fun d => d.map vb).flatten
theorem flatD_append (a b : List (List UInt8)) : flatD (a ++ b) = flatD a ++ flatD b := by simp [flatD]
theorem flatD_one (d : List UInt8) : flatD [d] = d.map vb := by simp [flatD]
theorem flatD_at : ∀ (ds : List (List UInt8)) (i : Nat) (d : List UInt8), (∀ x ∈ ds, x.length = 32) → ds[i]? = some d → ∀ j, j < 32 → (flatD ds)[i * 32 + j]? = (d.map vb)[j]?
  | [], i, d, _, h, j, hj => by simp at h
  | x :: ds, 0, d, ha, h, j, hj => by
    simp at h; subst h
    have hx := ha x (by simp)
    simp only [flatD, List.map_cons, List.flatten_cons, Nat.zero_mul, Nat.zero_add]
    rw [List.getElem?_append_left (by simp; omega)]
  | x :: ds, i + 1, d, ha, h, j, hj => by
    have hx := ha x (by simp)
    have ih := flatD_at ds i d (fun y hy => ha y (by simp [hy])) (by simpa using h) j hj
    simp only [flatD, List.map_cons, List.flatten_cons] at ih ⊢
    rw [List.getElem?_append_right (by simp; omega)]
    simp only [List.length_map, hx]
    rw [show (i + 1) * 32 + j - 32 = i * 32 + j by omega]
    exact ih
theorem dgs_of_owns {N n cap : Nat} {w : World} {a : Option Addr} {ds : List (List UInt8)} (h : w.ownsRow N 23 32 (.slice a n cap) n (flatD ds)) (hn : ds.length = n) (ha : ∀ x ∈ ds, x.length = 32) : Dgs w.heap.size w a ds := by
  intro i d hd
  have hi : i < ds.length := (List.getElem?_eq_some_iff.1 hd).1
  refine ⟨ha d (List.mem_of_getElem? hd), ?_⟩
  obtain ⟨h0, ⟨h1, h2⟩ | ⟨g, cap', cur, h1, h2, h3, h4, h5, h6, h7⟩⟩ := h
  · omega
  · simp only [Value.slice.injEq] at h1
    have hg : g < w.heap.size := by
      rcases Nat.lt_or_ge g w.heap.size with h | h
      · exact h
      · rw [Array.getElem?_eq_none h] at h3; simp at h3
    refine ⟨g, 0, h1.1, hg, ?_⟩
    intro j v hv
    have hj : j < 32 := by
      have := (List.getElem?_eq_some_iff.1 hv).1
      rw [List.length_map, ha d (List.mem_of_getElem? hd)] at this
      exact this
    rw [Lib.cell_of_heap h3, Nat.zero_add]
    have h8 : (cur.toList.take (n * 32))[i * 32 + j]? = (flatD ds)[i * 32 + j]? := by rw [h7]
    rw [List.getElem?_take_of_lt (by omega), flatD_at ds i d ha hd j hj, hv] at h8
    simpa using h8
theorem mv_nostr (whole : List UInt8) (size : Int) (a : Option Addr) (n cap i : Nat) (x : ByteArray) : (mv whole size a n cap)[i]? ≠ some (.string x) := by
  intro h
  have := List.mem_of_getElem? (l := whole.map vb ++ [Value.int .i64 size, Value.slice a n cap]) (by unfold mv at h; rwa [List.getElem?_toArray] at h)
  simp only [List.mem_append, List.mem_map, List.mem_cons, List.not_mem_nil, or_false] at this
  rcases this with ⟨y, _, h⟩ | h | h <;> cases h
theorem mv_set33 (whole : List UInt8) (size : Int) (a a' : Option Addr) (n cap n' cap' : Nat) (h : whole.length = 32) : (mv whole size a n cap).setIfInBounds 33 (.slice a' n' cap') = mv whole size a' n' cap' := by
  unfold mv
  simp only [List.setIfInBounds_toArray]
  congr 1
  rw [List.set_append_right _ _ (by simp [h])]
  simp [h]

set_option maxRecDepth 8000 in
set_option maxHeartbeats 1000000 in
theorem Mani_at (s : List UInt8) (w : World) (hs : s.length ≤ 512) (hG : GW w) :
    Calls Tryd.prog 13 #[.string (M.bs s)] w fun e w' => ∃ a cap, e = .returned (.tuple #[.agg (mv (S.sha s) (s.length : Int) a (S.split s).length cap), .int .i64 0]) ∧ Dgs w'.heap.size w' a ((S.split s).map S.sha) ∧ Below w.heap.size w w' := by
  have hbs := M.bs_size s
  have hz := zero34_size
  have h1 : zero34.all (·.oneCell') = true := mv_one _ _ _ _ _
  obtain ⟨fs, hum⟩ := und27m
  have hGz := hG.z
  have HB : Hid (Below w.heap.size w (w.alloc (.cells zero34 26))) := (Below.refl _ w).alloc (Nat.le_refl _) _
  have HN : Hid ((w.alloc (.cells zero34 26)).heap[w.heap.size]? = some (.cells zero34 26 (0, 0))) := heap_alloc_new _ _
  have CO : Hid (∀ T, Calls Tryd.prog 15 #[.slice (some ⟨w.heap.size + 1, 0, none⟩) 1 1] ((w.alloc (.cells zero34 26)).alloc (.cells #[.string (M.bs s)] T)) fun e w' => e = .returned (.agg (dg (S.sha s))) ∧ Below (w.heap.size + 1) (w.alloc (.cells zero34 26)) w') := fun T => by
    have e1 : (w.alloc (.cells zero34 26)).heap.size = w.heap.size + 1 := by simp
    have := Of_g s T (GB.refl (hG.below HB.out hGz)) (by omega)
    rw [e1] at this
    refine this.mono ?_
    rintro e w' ⟨rfl, hg⟩
    refine ⟨rfl, ?_⟩
    have := hg.b
    rwa [e1] at this
  obtain ⟨D, hD⟩ : ∃ D, D = dg (S.sha s) := ⟨_, rfl⟩
  obtain ⟨hf1, hf2⟩ := fold_mv (S.sha s) (S.sha_length _) (s.length : Int)
  rw [← hD] at CO hf1 hf2
  have hDs : D.size = 32 := by rw [hD, dg_size, S.sha_length]
  have hzz : ∀ W, (zeroValue 26).run Tryd.prog W = .ok (.agg zero34) W := zero27m
  clear hD
  obtain ⟨F, hF⟩ : ∃ F, F = Array.foldl (fun (cs : Array Value) (x : Value × Nat) => cs.setIfInBounds x.snd x.fst) zero34 D.zipIdx 0 32 := ⟨_, rfl⟩
  rw [← hF] at hf1 hf2
  have hF' := hF.symm
  clear hF
  obtain ⟨E, hE⟩ : ∃ E, E = mv (S.sha s) (s.length : Int) none 0 0 := ⟨_, rfl⟩
  rw [← hE] at hf2
  have hEs : E.size = 34 := by rw [hE]; exact mv_size _ _ _ _ _ (S.sha_length _)
  have hE1 : E.all (·.oneCell') = true := by rw [hE]; exact mv_one _ _ _ _ _
  have HE : Hid (E = mv (S.sha s) (s.length : Int) none 0 0) := hE
  clear hE
  generalize zero34 = Z at *
  have HST : Hid (∀ W : World, (W.alloc (.cells Z 26)).heap[W.heap.size]? = some (.cells Z 26 (0, 0))) := fun W => heap_alloc_new W _
  go_enter Tryd.func13, Tryd.ntmps13
  go_wp2_with (first
    | (go_at_call 15; refine (CO.out _).mono ?_; clear CO; rintro e w1 ⟨rfl, hb1⟩)
    | (refine wpList_store_row rfl 26 _ _ rfl w1.heap.size E rfl rfl 26 Z (HST.out w1) (by rw [hEs]; exact info27m) (by rw [hz, hEs]) hE1 ?_; clear HST; rw [World.setRow_alloc_new]))
  have h10 : (w1.alloc (.cells E 26)).heap.size = w1.heap.size + 1 := by simp
  have hs1 : w.heap.size + 1 ≤ w1.heap.size := by have := hb1.size; simpa using this
  have hBE : Below w.heap.size w (w1.alloc (.cells E 26)) := (HB.out.trans (hb1.mono (by omega))).alloc (by omega) _
  have hrE : (w1.alloc (.cells E 26)).heap[w.heap.size]? = some (.cells Z 26 (0, 0)) := by
    rw [Below.heap_alloc _ _ _ (by omega), hb1.block _ (by omega)]; exact HN.out
  have hmE : (w1.alloc (.cells E 26)).heap[w1.heap.size]? = some (.cells E 26 (0, 0)) := heap_alloc_new _ _
  clear hf1 hf2 hF' HN HB hDs h1
  refine (Split_at s _ (by omega)).mono ?_
  rintro e w5 ⟨sa, sc, rfl, hS5, _, hB5⟩
  rw [h10] at hB5
  have hs5 : w1.heap.size + 1 ≤ w5.heap.size := by have := hB5.size; omega
  have hr5 : w5.heap[w.heap.size]? = some (.cells Z 26 (0, 0)) := by rw [hB5.block _ (by omega)]; exact hrE
  have hm5 : w5.heap[w1.heap.size]? = some (.cells (mv (S.sha s) (s.length : Int) none 0 0) 26 (0, 0)) := by rw [hB5.block _ (by omega), ← HE.out]; exact hmE
  have hBw5 : Below w.heap.size w w5 := hBE.trans (hB5.mono (by omega))
  have HG5 : Hid (GW w5) := hG.below hBw5 hGz
  have HBW : Hid (Below w.heap.size w w5) := hBw5
  have HR5 : Hid (w5.heap[w.heap.size]? = some (.cells Z 26 (0, 0))) := hr5
  have HM5 : Hid (w5.heap[w1.heap.size]? = some (.cells (mv (S.sha s) (s.length : Int) none 0 0) 26 (0, 0))) := hm5
  have HAT : Hid (∀ i t, (S.split s)[i]? = some t → ∃ b off, sa = some ⟨b, off, none⟩ ∧ b < w5.heap.size ∧ b ≠ w1.heap.size ∧ w5.cell? ⟨b, off + i, none⟩ = some (.string (M.bs t))) := fun i t ht => by
    obtain ⟨b, off, g1, g2, g3⟩ := strs_at hS5 i t ht
    refine ⟨b, off, g1, g2, fun hb => ?_, g3⟩
    subst hb
    rw [cell_of_row _ _ _ _ _ _ hm5] at g3
    exact mv_nostr _ _ _ _ _ _ _ g3
  clear hr5 hm5 hBw5 hB5 hrE hmE hBE hb1 hS5 hG hE1 hEs
  have hnl : (S.split s).length ≤ 8 := by rw [S.split_length]; unfold S.nch; omega
  obtain ⟨L, hL⟩ : ∃ L, L = S.split s := ⟨_, rfl⟩
  have HL64 : Hid (∀ t ∈ L, t.length ≤ 64) := fun t ht => by rw [hL] at ht; exact S.mem_split_len ht
  rw [← hL] at HAT hnl ⊢
  have HLS : Hid (L = S.split s) := hL
  clear hL
  generalize hr : w.heap.size = r at *
  generalize hmb : w1.heap.size = mb at *
  go_wp2_with fail
  have hwl := S.sha_length s
  obtain ⟨wh, hwh⟩ : ∃ wh, wh = S.sha s := ⟨_, rfl⟩
  rw [← hwh] at HM5 hwl
  have HWH : Hid (wh = S.sha s) := hwh
  clear hwh HE hzz h10 hmb
  have HN1 : Hid (w.heap.size = r) := hr
  clear hr
  obtain ⟨N5, hN5⟩ : ∃ N5, N5 = w5.heap.size := ⟨_, rfl⟩
  rw [← hN5] at hs5
  have HN5 : Hid (N5 = w5.heap.size) := hN5
  clear hN5
  go_loopw [6, 20] (fun u6 u20 wr => ∃ (k cap : Nat) (a : Option Addr), k ≤ L.length ∧ u20 = .int .i64 k ∧ wr.heap[mb]? = some (.cells (mv wh (s.length : Int) a k cap) 26 (0, 0)) ∧ wr.ownsRow N5 23 32 (.slice a k cap) k (flatD ((L.take k).map S.sha)) ∧ Off mb w5 wr) (fun _ u20 _ => L.length - (intOf u20).toNat)
  case atStart => exact ⟨0, 0, none, Nat.zero_le _, rfl, HM5.out, ⟨rfl, Or.inl ⟨rfl, rfl⟩⟩, Off.refl _ _⟩
  case round =>
    obtain ⟨k, cap, a, hk, rfl, hm, hown, hoff⟩ := hrel
    have HM : Hid (wr.heap[mb]? = some (.cells (mv wh (s.length : Int) a k cap) 26 (0, 0))) := hm
    have HOW : Hid (wr.ownsRow N5 23 32 (.slice a k cap) k (flatD ((L.take k).map S.sha))) := hown
    have HOF : Hid (Off mb w5 wr) := hoff
    have hwr : N5 ≤ wr.heap.size := by rw [HN5.out]; exact hoff.size
    clear hm hown hoff HM5
    by_cases hlt : k < L.length
    · obtain ⟨t, ht⟩ : ∃ t, L[k]? = some t := ⟨L[k], List.getElem?_eq_getElem hlt⟩
      obtain ⟨sb, off, rfl, hsb, hne, hcell⟩ := HAT.out k t ht
      have hc : wr.cell? ⟨sb, off + k, none⟩ = some (.string (M.bs t)) := by rw [HOF.out.cell (p := ⟨sb, off + k, none⟩) hsb hne]; exact hcell
      have ht64 := HL64.out t (List.mem_of_getElem? ht)
      have HTK : Hid ((L.take (k + 1)).map S.sha = (L.take k).map S.sha ++ [S.sha t]) := by
        show _ = _
        rw [List.take_add_one, ht]; simp
      have hk0 : (0 : Int) ≤ (k : Int) := by omega
      have hk1 : (k : Int) < (L.length : Int) := by omega
      have hcm : wr.cell? ⟨mb, 33, none⟩ = some (.slice a k cap) := by rw [cell_of_row _ _ 33 _ _ _ HM.out]; exact mv_33 _ _ _ _ _ hwl
      have hfm : wr.frozen? ⟨mb, 33, none⟩ = false := by simp [World.frozen?, HM.out]
      clear hcell ht HAT
      have hmw : mb < wr.heap.size := by omega
      have CO : Hid (∀ W T, Below wr.heap.size wr W → Calls Tryd.prog 15 #[.slice (some ⟨W.heap.size, 0, none⟩) 1 1] (W.alloc (.cells #[.string (M.bs t)] T)) fun e w' => e = .returned (.agg (dg (S.sha t))) ∧ Below wr.heap.size wr w') := fun W T hW => by
        have hgw : GW wr := HG5.out.off HOF.out (by omega)
        refine (Of_g t T (GB.refl (hgw.below hW hgw.z)) (by omega)).mono ?_
        rintro e w' ⟨rfl, hg⟩
        exact ⟨rfl, hW.trans (hg.b.mono hW.size)⟩
      have OWN : Hid (∀ W o, Below wr.heap.size wr W → (W.alloc o).ownsRow N5 23 32 (.slice a k cap) k (flatD ((L.take k).map S.sha))) := fun W o hW => World.ownsRow.alloc (ownsRow_belowN HOW.out hW) o
      have HFD : Hid (∀ Y : Array Value, Y.size = 32 → Array.foldl (fun (cs : Array Value) (x : Value × Nat) => cs.setIfInBounds x.snd x.fst) Y (dg (S.sha t)).zipIdx 0 32 = dg (S.sha t)) := fun Y hY => fold_dg (S.sha t) (S.sha_length _) Y hY
      have hz27 : ∀ W, (zeroValue 23).run Tryd.prog W = .ok (.agg zero32) W := zero27
      have hDs := dg_size (S.sha t)
      rw [S.sha_length] at hDs
      have hnl2 : ((S.sha t).map vb).length = 32 := by rw [List.length_map, S.sha_length]
      have hn1 : ∀ u ∈ (S.sha t).map vb, u.oneCell' = true := fun u hu => by obtain ⟨x, _, rfl⟩ := List.mem_map.1 hu; rfl
      obtain ⟨D, hD⟩ : ∃ D, D = dg (S.sha t) := ⟨_, rfl⟩
      have hDl : D.toList = (S.sha t).map vb := by rw [hD]; rfl
      rw [← hD] at HFD hDs CO
      clear hD
      obtain ⟨i0, hi, hz0, hz1, hz2⟩ := info_parts (show (Tryd.prog.info? 23).map (fun i => (i.zero, i.size, i.bytes)) = some (some (.agg zero32), 32, 32) by kernel_rfl)
      have hZ2 : (Value.agg zero32).cells.size = 32 := zero32_size
      generalize zero32 = Z2 at *
      have NEWS : Hid (∀ (W : World) T (Y : Array Value), Y.size = 32 → ∀ j u, ((S.sha t).map vb)[j]? = some u → (W.alloc (.cells (Array.foldl (fun (cs : Array Value) (x : Value × Nat) => cs.setIfInBounds x.snd x.fst) Y D.zipIdx 0 32) T)).cell? ((⟨W.heap.size, 0, none⟩ : Addr).add j) = some u) := fun W T Y hY j u hu => by
        rw [← hDl] at hu
        rw [HFD.out Y hY]
        exact World.news_of_block (heap_alloc_new W _) j u hu
      have HNB : Hid (some mb ≠ (Value.slice a k cap).ownBlock) := fun h => by
        have := (HOW.out.lt mb h.symm).1
        omega
      have AP : Hid (∀ (W w8 : World) (o : Obj), Below wr.heap.size wr W → (W.alloc o).grownBy w8 (Value.slice a k cap).ownBlock → w8.heap[mb]? = some (.cells (mv wh (s.length : Int) a k cap) 26 (0, 0)) ∧ Off mb w5 w8) := fun W w8 o hW hg => by
        have hWs := hW.size
        have e0 : (W.alloc o).heap.size = W.heap.size + 1 := by simp
        have hsz8 := hg.size
        refine ⟨by rw [hg.block mb (by omega) HNB.out, Below.heap_alloc _ _ _ (by omega), hW.block mb hmw]; exact HM.out, ?_⟩
        refine ⟨hg.os.trans ((hW.alloc (by omega) o).os.trans HOF.out.os), hg.tape.trans ((hW.alloc (by omega) o).tape.trans HOF.out.tape), hg.output.trans ((hW.alloc (by omega) o).output.trans HOF.out.output), by have := HN5.out; omega, fun i hi hne => ?_⟩
        have hi5 : i < N5 := by rw [HN5.out]; exact hi
        rw [hg.block i (by omega) (fun h => by have := (HOW.out.lt i h.symm).1; omega), Below.heap_alloc _ _ _ (by omega), hW.block i (by omega)]
        exact HOF.out.block i hi hne
      have A33 : Hid (∀ w8 : World, w8.heap[mb]? = some (.cells (mv wh (s.length : Int) a k cap) 26 (0, 0)) → w8.cell? ⟨mb, 33, none⟩ = some (.slice a k cap) ∧ w8.frozen? ⟨mb, 33, none⟩ = false) := fun w8 h => ⟨by rw [cell_of_row _ _ 33 _ _ _ h]; exact mv_33 _ _ _ _ _ hwl, by simp [World.frozen?, h]⟩
      have hb0 : Below wr.heap.size wr wr.drew := (Below.refl _ _).drew
      have hcell33 : Hid (∀ W, Below wr.heap.size wr W → W.cell? ⟨mb, 33, none⟩ = some (.slice a k cap) ∧ W.frozen? ⟨mb, 33, none⟩ = false) := fun W hW => ⟨by rw [hW.cell (p := ⟨mb, 33, none⟩) hmw]; exact hcm, by rw [World.frozen?_of_block (w := wr) (hW.block mb hmw)]; exact hfm⟩
      have hal : ∀ o, (wr.alloc o).cell? ⟨mb, 33, none⟩ = some (.slice a k cap) := fun o => (hcell33.out _ ((Below.refl _ wr).alloc (Nat.le_refl _) o)).1
      go_wp2_with fail
      go_region_law (first
        | (go_simp; go_at_call 15; refine (CO.out wr.drew _ hb0).mono ?_; rintro e w' ⟨rfl, HS⟩; obtain ⟨c1, c2⟩ := hcell33.out _ HS; have c5 := fun o => (hcell33.out _ (HS.alloc HS.size o)).1; dsimp only)
        | (refine step_append_lies _ (by rfl) _ _ 24 (by rfl) N5 23 i0 (.agg Z2) 32 32 Tryd.underlying24 hi hz0 hz1 hz2 hZ2 (by decide) _ k _ (by rfl) (OWN.out w' _ HS) ⟨w'.heap.size, 0, none⟩ 1 1 ((S.sha t).map vb) (by rfl) hnl2 (NEWS.out w' _ _ (by rfl)) hn1 (by decide) (by unfold maxLen; omega) (by omega) (by have := HS.size; simp; omega) (w'.heap.size + 1) (by simp) ?_; intro g cap' w8 hown8 hgrow8 hat8 hlt8; obtain ⟨m8, o8⟩ := AP.out _ _ _ HS hgrow8; obtain ⟨c3, c4⟩ := A33.out _ m8))
      all_goals
        have HM8 : Hid ((w8.setCell ⟨mb, 33, none⟩ (.slice (some ⟨g, 0, none⟩) (k + 1) cap')).heap[mb]? = some (.cells (mv wh (s.length : Int) (some ⟨g, 0, none⟩) (k + 1) cap') 26 (0, 0))) := by
          show _ = _
          rw [heap_setCell_row m8, mv_set33 _ _ _ _ _ _ _ _ hwl]
        have HO8 : Hid ((w8.setCell ⟨mb, 33, none⟩ (.slice (some ⟨g, 0, none⟩) (k + 1) cap')).ownsRow N5 23 32 (.slice (some ⟨g, 0, none⟩) (k + 1) cap') (k + 1) (flatD ((L.take (k + 1)).map S.sha))) := by
          refine ownsRow_off (mb := mb) ?_ ((Off.refl mb w8).setCell 33 _) (by omega)
          rw [HTK.out, flatD_append, flatD_one]; exact hown8
        have HF8 : Hid (Off mb w5 (w8.setCell ⟨mb, 33, none⟩ (.slice (some ⟨g, 0, none⟩) (k + 1) cap'))) := o8.setCell 33 _
        clear m8 o8 c1 c2 c3 c4 c5 hat8 hown8 hgrow8
        go_wp2_with fail
        go_roundw
        case rel => exact ⟨k + 1, cap', some ⟨g, 0, none⟩, by omega, by go_num, HM8.out, HO8.out, HF8.out⟩
        case measure => simp [intOf]; omega
    · obtain rfl : k = L.length := by omega
      clear HAT HL64 HN5
      have hsm := mv_size wh (s.length : Int) a L.length cap hwl
      have h1m := mv_one wh (s.length : Int) a L.length cap
      have HRr : Hid (wr.heap[r]? = some (.cells Z 26 (0, 0))) := by
        show _ = _
        rw [HOF.out.block r (by have := HBW.out.size; have := HN1.out; have h := HR5.out; rcases Nat.lt_or_ge r w5.heap.size with h' | h'; exact h'; rw [Array.getElem?_eq_none h'] at h; simp at h) (by omega)]; exact HR5.out
      generalize hC : mv wh (s.length : Int) a L.length cap = C at *
      have HCC : Hid (mv wh (s.length : Int) a L.length cap = C) := hC
      clear hC
      go_wp2_with (first
        | (refine wpList_load_row rfl 26 _ rfl mb rfl 26 C (0, 0) _ HM.out hum rfl (by rw [hsm]; exact info27m) ?_; clear HM)
        | (refine wpList_store_row rfl 26 _ _ rfl r C rfl rfl 26 Z HRr.out (by rw [hsm]; exact info27m) (by rw [hz, hsm]) h1m ?_))
      (try simp only [Exit.inBlock, Exit.then])
      refine bodyPost_ret (results2_row rfl _ _ _ 26 C (0, 0) _ rfl (setRow_heap _ _ _ _ _ _ HRr.out) hum rfl (by rw [hsm]; exact info27m)) rfl ?_
      have hOr : Off r wr (wr.setRow r C) := (Off.refl r wr).setRow C
      refine ⟨a, cap, ?_, ?_, ?_⟩
      · rw [← HLS.out, ← HWH.out, HCC.out]; rfl
      · rw [← HLS.out]
        have := HOW.out
        rw [List.take_length] at this
        exact dgs_of_owns (ownsRow_off this hOr (by omega)) (by simp) (fun x hx => by obtain ⟨y, _, rfl⟩ := List.mem_map.1 hx; exact S.sha_length _)
      · rw [HN1.out]
        have hB8 : Below r w wr := HBW.out.trans (HOF.out.below (by omega) (by have := HBW.out.size; rw [HN1.out] at this; exact this))
        exact below_setRow hB8 (Nat.le_refl _) _
end Go.Proofs.YtahdmhenkjbimaaDoor
