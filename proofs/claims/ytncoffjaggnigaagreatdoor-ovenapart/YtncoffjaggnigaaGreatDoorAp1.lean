/- The law's row: the bytes of which a key is the digest. -/
import Derived.Test.YtncoffjaggnigaaGreatDoorOA
namespace Go.Proofs.YtncoffjaggnigaaGreatDoor
open Go.RowKit
set_option linter.unusedVariables false
set_option linter.unusedSimpArgs false
attribute [local go_sem ↓] zero27

/-- one more is appended to a row of one's own; the new block's number by a name of its own -/
theorem wl_app1M9 {α : Type} (E : Lay α) {ops : Array Oper} {rest : List Oper} {o : Oper} {a : Act} {w W U : World} {Q : Exit → Act → World → Prop} (T TS : TypeId) (z : Value) (bytes : Nat)
    (hund : Tryz.prog.underlying TS = some (.slice T)) (hinfo : (Tryz.prog.info? T).map (fun i => (i.zero, i.size, i.bytes)) = some (some z, E.k, bytes)) (hzc : z.cells.size = E.k) (hby : bytes ≤ 4096)
    (hgd : o.guard = none) (s x : Operand) (ho : o.op = .call { callee := .builtin .append, args := #[s, x], argTypes := #[TS, TS] }) (n : Nat) (ks : List α) (hnk : n = ks.length) (t : α) (v : Value) (hs : a.eval s = v) (hb : Bl w W) (hown : W.ownsRow w.heap.size T E.k v n (flG E ks))
    (N : Nat) (hN : N = W.heap.size) (hx : a.eval x = .slice (some ⟨N, 0, none⟩) 1 1) (hn : n ≤ 90000)
    (h : ∀ a' c' w', w'.ownsRow w.heap.size T E.k (.slice a' (n + 1) c') (n + 1) (flG E (ks ++ [t])) → Bl w w' → W.grownBy w' v.ownBlock → wpList Tryz.prog ops Q rest (a.put o.dst (.slice a' (n + 1) c')) w') (C : Array Value) (hC : C = (E.f t).toArray) (hU : U = W.alloc (.cells C T)) : wpList Tryz.prog ops Q (o :: rest) a U := by
  subst hN
  exact wl_app1G E T TS z bytes hund hinfo hzc hby hgd s x ho n ks hnk t v hs hb hown hx hn h C hC hU
set_option maxRecDepth 8000 in
set_option maxHeartbeats 4000000 in
theorem row_x9 (code : List UInt8) (l : List O.Re) (a : Option Addr) (c : Nat) {w W : World} (hG : GW w) (HB : Bl w W) (hv : RS lyR W a l) (hl : l.length ≤ 30) (hok : ∀ r ∈ l, ReOk r) (hc : code.length ≤ 1000000) :
    Calls Tryz.prog 17 #[.agg #[.string (M.bs code), .slice a l.length c]] W fun e w' => e = .returned (.string (M.bs (M.rowB (O.keyR code l)))) ∧ Bl W w' := by
  have hGW : GW W := hG.below HB hG.z
  have HV : Hid (RS lyR W a l) := hv
  have HG : Hid (GW W) := hGW
  have HO : Hid (∀ r ∈ l, ReOk r) := hok
  clear hG HB hGW hv hok
  go_enter Tryz.func17, Tryz.ntmps17
  go_wp2_with fail
  have HWZ : Hid (Bl W (W.alloc (.cells #[.string (M.bs code), .slice a l.length c] 57))) := (Bl.refl W).alloc _
  have HBX : Hid (∀ U, Bl (W.alloc (.cells #[.string (M.bs code), .slice a l.length c] 57)) U → U.cell? ⟨W.heap.size, 1, none⟩ = some (.slice a l.length c)) := fun U hU => by
    rw [Bl.cell hU (by simp), Lib.cell_of_heap (heap_alloc_new _ _)]; rfl
  have HS0 : Hid (Bl (W.alloc (.cells #[.string (M.bs code), .slice a l.length c] 57)) ((W.alloc (.cells #[.string (M.bs code), .slice a l.length c] 57)).alloc (.cells #[.string (M.bs O.kAct), .string (M.bs code)] 9))) := (Bl.refl _).alloc _
  have HSO : Hid (((W.alloc (.cells #[.string (M.bs code), .slice a l.length c] 57)).alloc (.cells #[.string (M.bs O.kAct), .string (M.bs code)] 9)).ownsRow (W.alloc (.cells #[.string (M.bs code), .slice a l.length c] 57)).heap.size 9 1 (.slice (some ⟨W.heap.size + 1, 0, none⟩) 2 2) 2 (flG lyT (O.keyR code (l.take 0)))) := by
    have := TA.own_new (W.alloc (.cells #[.string (M.bs code), .slice a l.length c] 57)) [O.kAct, code] (by unfold maxLen; simp)
    rw [show (W.alloc (.cells #[.string (M.bs code), .slice a l.length c] 57)).heap.size = W.heap.size + 1 by simp] at this ⊢
    rw [flT]; exact this
  generalize hZ : (W.alloc (.cells #[.string (M.bs code), .slice a l.length c] 57)) = Z at *
  go_loopw [3, 4, 5] (fun u3 u4 u5 wr => ∃ k : Nat, k ≤ l.length ∧ u4 = .int .i64 k ∧ (∃ a5 c5, u3 = .slice a5 (k + 2) c5) ∧ wr.ownsRow Z.heap.size 9 1 u3 (k + 2) (flG lyT (O.keyR code (l.take k))) ∧ Bl Z wr) (fun _ u4 _ _ => l.length - (intOf u4).toNat)
  case atStart => exact ⟨0, Nat.zero_le _, rfl, ⟨_, _, rfl⟩, HSO.out, HS0.out⟩
  case round =>
    obtain ⟨k, hk, rfl, ⟨a5, c5, rfl⟩, hown, hbl⟩ := hrel
    have HOW : Hid (wr.ownsRow Z.heap.size 9 1 (.slice a5 (k + 2) c5) (k + 2) (flG lyT (O.keyR code (l.take k)))) := hown
    have HBR : Hid (Bl Z wr) := hbl
    have bx := HBX.out wr hbl
    clear hown hbl HS0 HSO
    by_cases hlt : k < l.length
    · obtain ⟨r, hr⟩ : ∃ r, l[k]? = some r := ⟨l[k], List.getElem?_eq_getElem hlt⟩
      obtain ⟨b, off, rfl, hb, hrg⟩ := (HV.out.bl HWZ.out).bl HBR.out k r hr
      have HKL : Hid (k + 2 = (O.keyR code (l.take k)).length) := by show _ = _; simp [O.keyR]; omega
      have HN : Hid (O.keyR code (l.take (k + 1)) = O.keyR code (l.take k) ++ [O.told r]) := keyR_take hr
      have hro := HO.out r (List.mem_of_getElem? hr)
      have hc1 := hro.c1
      have hc2 := hro.c2
      have hrl := hro.l
      obtain ⟨rc, rb⟩ := r
      simp only at *
      have HF : Hid (∀ U, Bl wr U → U.cell? ⟨W.heap.size, 1, none⟩ = some (.slice (some ⟨b, off, none⟩) l.length c) ∧ U.cell? ⟨b, off + k * 2, none⟩ = some (.int .i64 rc)) := fun U hU => ⟨HBX.out U (HBR.out.step hU), by rw [Bl.cell hU hb]; exact hrg 0 _ rfl⟩
      have q1 : wr.cell? ⟨b, off + k * 2 + 1, none⟩ = some (.string (M.bs rb)) := hrg 1 _ rfl
      have hGr : GW wr := (HG.out.below HWZ.out HG.out.z).below HBR.out (by have := HG.out.z; have := Below.size HWZ.out; omega)
      have CO : Hid (Calls Tryz.prog 19 #[.slice (some ⟨wr.heap.size, 0, none⟩) 1 1] (wr.alloc (.cells #[.string (M.bs rb)] 9)) fun e w' => e = .returned (.agg (dg (S.sha rb))) ∧ Bl wr w') := by
        refine (Of_g rb 9 (GB.refl hGr) (by omega)).mono ?_
        rintro e w' ⟨rfl, h⟩
        exact ⟨rfl, h.b⟩
      have hsl : (S.sha rb).length = 32 := S.sha_length rb
      have hD : Hid (∀ j (hj : j < (S.sha rb).length), (dg (S.sha rb))[j]? = some (.int .u8 ((S.sha rb)[j].toNat : Int))) := fun j hj => by
        unfold dg
        rw [List.getElem?_toArray, List.getElem?_map, List.getElem?_eq_getElem hj]; rfl
      have hsD : (dg (S.sha rb)).size = 32 := by rw [dg_size, hsl]
      have h1 : Hid ((dg (S.sha rb)).all (·.oneCell') = true) := dg_one _
      have HST : Hid (∀ w' : World, (w'.alloc (.cells zero32 51)).heap[w'.heap.size]? = some (.cells zero32 51 (0, 0))) := fun w' => heap_alloc_new _ _
      have hz := zero32_size
      clear hr hrg HV HO hro hGr HG HBX
      by_cases h0 : rc = 0
      · subst h0
        have ht : O.told (0, rb) = 100 :: S.sha rb := rfl
        rw [ht] at HN
        have happ : (⟨#[100]⟩ : ByteArray) ++ M.bs (S.sha rb) = M.bs (100 :: S.sha rb) := bs_append [100] _
        have hs1 := M.bs_size (S.sha rb)
        have hs2 : (⟨#[100]⟩ : ByteArray).size = 1 := rfl
        generalize (100 :: S.sha rb) = T3 at *
        generalize S.sha rb = d at *
        generalize dg d = D at *
        generalize O.keyR code (l.take k) = KS at *
        have HCV : Hid (∀ w' : World, (convert 90 9 (.slice (some ⟨w'.heap.size, 0, none⟩) 32 32)).run Tryz.prog (w'.alloc (.cells D 51)) = .ok (.string (M.bs d)) (w'.alloc (.cells D 51))) := fun w' => by
          have := run_convert_bytes_back (P := Tryz.prog) (w'.alloc (.cells D 51)) 90 9 5 ⟨w'.heap.size, 0, none⟩ 32 d Tryz.underlying90 Tryz.underlying5 Tryz.underlying9 (fun j hj => by
            rw [Addr.add_mid, Nat.zero_add, cell_of_row _ _ j D _ _ (heap_alloc_new _ _)]; exact hD.out j hj)
          rw [hsl] at this
          exact this
        clear ht
        go_wp2_with (first
          | (go_at_call 19; refine CO.out.mono ?_; clear CO bx q1; rintro e w1 ⟨rfl, H1'⟩; have H1 : Hid (Bl wr (w1.alloc (.cells D 51))) := Bl.alloc H1' _; clear H1'; obtain ⟨p1, p2⟩ := HF.out _ H1.out; have hcv := HCV.out w1)
          | (refine wpList_store_row rfl 51 _ _ rfl w1.heap.size D rfl rfl 51 zero32 (HST.out w1) (by rw [hsD]; exact info27) (by rw [hz, hsD]) h1.out ?_; clear HST; rw [World.setRow_alloc_new])
          | (refine wl_app1M9 lyT (w := Z) (W := w1.alloc (.cells D 51)) 9 22 (.string ⟨#[]⟩) 16 undS infoS rfl (by omega) rfl _ _ rfl (k + 2) KS HKL.out T3 _ rfl (HBR.out.step H1.out) (ownsRow_bl HOW.out H1.out) (w1.heap.size + 1) (by simp) rfl (by omega) ?_ _ rfl rfl; intro a' c' w3 h3 hb3 _))
        go_roundw
        case rel => exact ⟨k + 1, by omega, by go_num, ⟨_, _, rfl⟩, by rw [HN.out]; exact h3, hb3⟩
        case measure => simp [intOf]; omega
      · have ht : O.told (rc, rb) = 101 :: M.numB rc := by unfold O.told; rw [if_neg h0]
        rw [ht] at HN
        have h0i : (rc == 0) = false := by simpa using h0
        have happ : (⟨#[101]⟩ : ByteArray) ++ M.bs (M.numB rc) = M.bs (101 :: M.numB rc) := bs_append [101] _
        have hs1 := M.bs_size (M.numB rc)
        have hs2 : (⟨#[101]⟩ : ByteArray).size = 1 := rfl
        have hn9 := M.numB_len rc
        have CN : Hid (∀ U, Bl wr U → Calls Tryz.prog 35 #[.int .i64 rc] U fun e w' => e = .returned (.string (M.bs (M.numB rc))) ∧ Bl wr w') := fun U hU => num_b rc hU hc1 (by omega)
        generalize (101 :: M.numB rc) = T3 at *
        generalize M.numB rc = d2 at *
        generalize S.sha rb = d at *
        generalize dg d = D at *
        generalize O.keyR code (l.take k) = KS at *
        clear ht h0
        go_wp2_with (first
          | (go_at_call 19; refine CO.out.mono ?_; clear CO bx q1; rintro e w1 ⟨rfl, H1'⟩; have H1 : Hid (Bl wr (w1.alloc (.cells D 51))) := Bl.alloc H1' _; clear H1'; obtain ⟨p1, p2⟩ := HF.out _ H1.out)
          | (refine wpList_store_row rfl 51 _ _ rfl w1.heap.size D rfl rfl 51 zero32 (HST.out w1) (by rw [hsD]; exact info27) (by rw [hz, hsD]) h1.out ?_; clear HST; rw [World.setRow_alloc_new])
          | (go_at_call 35; refine (CN.out _ H1.out).mono ?_; clear CN p1 p2; rintro e w2 ⟨rfl, H2'⟩; have H2 : Hid (Bl wr w2) := H2'; clear H2')
          | (refine wl_app1G lyT (w := Z) (W := w2) 9 22 (.string ⟨#[]⟩) 16 undS infoS rfl (by omega) rfl _ _ rfl (k + 2) KS HKL.out T3 _ rfl (HBR.out.step H2.out) (ownsRow_bl HOW.out H2.out) rfl (by omega) ?_ _ rfl rfl; intro a' c' w3 h3 hb3 _))
        go_roundw
        case rel => exact ⟨k + 1, by omega, by go_num, ⟨_, _, rfl⟩, by rw [HN.out]; exact h3, hb3⟩
        case measure => simp [intOf]; omega
    · obtain rfl : k = l.length := by omega
      have hS : Strs wr.heap.size wr (.slice a5 (l.length + 2) c5) (O.keyR code l) := by
        have h := HOW.out
        rw [List.take_length, flT, show l.length + 2 = (O.keyR code l).length by simp [O.keyR]] at h
        have := strs_of_owns h
        rwa [show (O.keyR code l).length = l.length + 2 by simp [O.keyR]] at this
      have CR : Hid (Calls Tryz.prog 36 #[.slice a5 (l.length + 2) c5] wr fun e w' => e = .returned (.string (M.bs (M.rowB (O.keyR code l)))) ∧ Bl wr w') := by
        have := keyR_le code l hc (by omega)
        exact row_b _ _ (Bl.refl wr) hS (by omega) (by simp [O.keyR]; omega)
      clear hS
      go_wp2_with (first
        | (go_at_call 36; refine CR.out.mono ?_; clear CR; rintro e w1 ⟨rfl, H1⟩))
      go_ret
      exact ⟨rfl, HWZ.out.step (HBR.out.step H1)⟩
end Go.Proofs.YtncoffjaggnigaaGreatDoor
