/- HiveAgain: the walk. -/
import Derived.Test.YtbaemckmhnkfaaaDoorG3
import Derived.Deep.CutBlock
import Derived.Deep.DeepCutAuto
namespace Go.Proofs.YtbaemckmhnkfaaaDoor
open Go.RowKit Go.Maps
set_option linter.unusedVariables false
set_option linter.unusedSimpArgs false

def zA5 : Array Value := (avL ⟨0, [], V.zr, 0, [], none, 0⟩).toArray
theorem zeroA5 (W : World) : (zeroValue 38).run Tryd.prog W = .ok (.agg zA5) W := by kernel_rfl
theorem undA5 : ∃ fs, Tryd.prog.underlying 38 = some (.struct fs) := ⟨_, Tryd.underlying38⟩
theorem infoA5 : (Tryd.prog.info? 38).map (·.size) = some 69 := by kernel_rfl
theorem zA5_size : zA5.size = 69 := by rw [zA5, List.size_toArray]; exact avL_length zr32
theorem hstA5 (W : World) : (W.alloc (.cells zA5 38)).heap[W.heap.size]? = some (.cells zA5 38 (0, 0)) := heap_alloc_new _ _
attribute [local go_sem ↓] zeroDg
attribute [local go_sem ↓] zero35
attribute [local go_sem ↓] zeroA5

/-- a call's text -/
def XT (acts : List A5) : List UInt8 → Prop := fun s => ∃ (j : Nat) (x : A5), j < 70 ∧ acts[j]? = some x ∧ x.text = s
/-- a blob that was put so far -/
def DT (acts : List A5) (i : Nat) : List UInt8 → Prop := fun s => ∃ (j : Nat) (x : A5), j < i ∧ acts[j]? = some x ∧ x.kind ≠ 2 ∧ x.text.length ≤ 512 ∧ x.text = s
theorem DT.two {acts : List A5} {i : Nat} {x : A5} (hx : acts[i]? = some x) (h : x.kind = 2 ∨ ¬ x.text.length ≤ 512) : ∀ s, DT acts (i + 1) s → DT acts i s := fun s hs => by
  obtain ⟨j, y, h1, h2, h3, h4, h5⟩ := hs
  by_cases e : j = i
  · subst e
    rw [hx] at h2
    cases h2
    rcases h with h | h
    · exact absurd h h3
    · exact absurd h4 h
  · exact ⟨j, y, by omega, h2, h3, h4, h5⟩
theorem DT.one {acts : List A5} {i : Nat} {x : A5} (hx : acts[i]? = some x) : ∀ s, DT acts (i + 1) s → DT acts i s ∨ s = x.text := fun s hs => by
  obtain ⟨j, y, h1, h2, h3, h4, h5⟩ := hs
  by_cases e : j = i
  · subst e
    rw [hx] at h2
    cases h2
    exact .inr h5.symm
  · exact .inl ⟨j, y, by omega, h2, h3, h4, h5⟩
set_option maxRecDepth 8000 in
set_option maxHeartbeats 8000000 in
theorem hiveAgain_core (acts : List A5) (a : Option Addr) (c : Nat) (w : World) (hG : GW w) (T : AC5 w a acts) (hn : acts.length ≤ 9223372036854775807) :
    Calls Tryd.prog 4 #[.slice a acts.length c] w fun e w' => e = .returned (.bool true) ∧ Below w.heap.size w w' := by
  have hz := hG.z
  have HG : GB w w := GB.refl hG
  have CA : Hid (∀ W, GB w W → Calls Tryd.prog 5 #[] W fun e w' => e = .returned (.bool true) ∧ GB w w') := fun W h => awake_h h
  have CG : Hid (∀ W, GB w W → Calls Tryd.prog 6 #[.slice a acts.length c] W fun e w' => G5 acts W e w') := fun W h => great5 acts a c T h.b hn
  have CT : Hid (∀ W, GB w W → Calls Tryd.prog 23 #[.slice a acts.length c] W fun e w' => TP acts W e w') := fun W h => texts_at acts a c T h.b hn
  have CC : Hid (∀ {a1 : Option Addr} {c1 : Nat} {L : List (List UInt8)} {W : World}, TS W a1 L → L.length ≤ 70 → (∀ t ∈ L, t.length ≤ 1000) → GB w W → Calls Tryd.prog 22 #[.slice a1 L.length c1, .slice none 0 0] W fun e w' => ∃ q, e = .returned (.bool q) ∧ (q = false → NC L L.length) ∧ GB w w') := fun {a1 c1 L W} h1 h2 h3 h => by
    refine (clash_at a1 none c1 0 L [] h h1 (fun i t ht => by simp at ht) (by omega) (by simp) h3 (by simp)).mono ?_
    rintro e w' ⟨q, rfl, hq, hg⟩
    exact ⟨q, rfl, by simpa using hq, hg⟩
  have CN : Hid (∀ W, GB w W → Calls Tryd.prog 7 #[.int .i64 128] W fun e w' => ∃ b c, e = .returned (.pointer (some ⟨b, 0, none⟩)) ∧ (w.heap.size ≤ b ∧ w.heap.size ≤ c) ∧ SW w b c (new 128) w') := fun W h => by
    refine (New_u 128 (by omega) h.b).mono ?_
    rintro e w' ⟨b, c, rfl, h1, h2, h3⟩
    exact ⟨b, c, rfl, ⟨h1, h2⟩, h3⟩
  have CO : Hid (∀ {b c : Nat} W, (w.heap.size ≤ b ∧ w.heap.size ≤ c) → SW w b c (new 128) W → Calls Tryd.prog 8 #[.pointer (some ⟨b, 0, none⟩)] W fun e w' => ∃ K, e = .returned (.tuple #[.pointer (some ⟨K, 0, none⟩), .int .i64 0]) ∧ QY w 128 (0 + 200) K b c [] (XT acts) (fun _ => False) 0 R0 w') := fun W h x => QY.new x h.1 h.2 (by omega) hG
  have HT : Hid (AC5 w a acts) := T
  clear T
  go_enter Tryd.func4, Tryd.ntmps4
  go_wp2_with (first
    | (go_at_call 5; refine (CA.out _ HG).mono ?_; clear CA HG; rintro e w1 ⟨rfl, HG⟩)
    | (go_at_call 6; refine (CG.out _ HG).mono ?_; clear CG; rintro e w2 ⟨q, rfl, hq, hw⟩; rw [hw]; clear hw w2; have HQ : Hid (q = false → ∀ (i : Nat) (x : A5), i < 70 → acts[i]? = some x → x.text.length ≤ 1000 ∧ x.fates.length ≤ 200) := hq; clear hq; cases q)
    | (go_at_call 23; refine (CT.out _ HG).mono ?_; clear CT; rintro e w3 ⟨a1, c1, L, rfl, hts, hbt, hL7, hLm, hLs⟩; replace HG := HG.step hbt; have HLm : Hid (∀ (j : Nat) (x : A5), j < 70 → acts[j]? = some x → x.text ∈ L) := hLm; have HL1 : Hid (∀ t ∈ L, t.length ≤ 1000) := (fun t ht => by obtain ⟨j, y, h1, h2, h3⟩ := hLs t ht; rw [← h3]; first | exact (HQ.out rfl j y h1 h2).1 | exact (HQ.out trivial j y h1 h2).1); have HTS : Hid (TS w3 a1 L) := hts; clear hbt hLm hLs hts)
    | (go_at_call 22; refine (CC.out HTS.out hL7 HL1.out HG).mono ?_; clear CC HTS HG; rintro e w4 ⟨qc, rfl, hnc, HG⟩; have HNC : Hid (qc = false → NC L L.length) := hnc; clear hnc; cases qc))
  · have HIN : Hid (∀ s, XT acts s → ∀ (i : Nat) (x : A5), i < 70 → acts[i]? = some x → S.sha s = S.sha x.text → s = x.text) := fun s hs i x hi hx he => by
      obtain ⟨j, y, h1, h2, h3⟩ := hs
      subst h3
      first | exact nc_inj (HNC.out rfl) _ (HLm.out j y h1 h2) _ (HLm.out i x hi hx) he | exact nc_inj (HNC.out trivial) _ (HLm.out j y h1 h2) _ (HLm.out i x hi hx) he
    have HQ1 : Hid (∀ (i : Nat) (x : A5), i < 70 → acts[i]? = some x → x.text.length ≤ 1000 ∧ x.fates.length ≤ 200) := by first | exact HQ.out rfl | exact HQ.out trivial
    clear HNC HLm HL1 HQ
    go_wp2_with (first
      | (go_at_call 7; refine (CN.out _ HG).mono ?_; clear CN HG; rintro e w5 ⟨sh, sc, rfl, hbc, LX⟩)
      | (go_at_call 8; refine (CO.out _ hbc LX).mono ?_; clear CO LX; rintro e w6 ⟨K, rfl, LX⟩))
    have LX0 : Hid (QY w 128 (300 * 0 + 300) K sh sc [] (XT acts) (DT acts 0) 0 R0 w6) := (LX.dns (fun s hs => by obtain ⟨j, _, h, _⟩ := hs; omega)).wider (by omega)
    clear LX hbc
    go_loopw [5, 6, 7, 8, 9, 10, 11, 12, 13, 14, 15, 16] (fun u5 u6 u7 u8 u9 u10 u11 u12 u13 u14 u15 u16 wr => ∃ (i cn : Nat), i ≤ acts.length ∧ i ≤ 70 ∧ cn ≤ i ∧ u6 = .int .i64 (i : Int) ∧ QY w 128 (300 * i + 300) K sh sc [] (XT acts) (DT acts i) cn R0 wr) (fun _ u6 _ _ _ _ _ _ _ _ _ _ _ => 70 - (intOf u6).toNat)
    case atStart => exact ⟨0, 0, Nat.zero_le _, Nat.zero_le _, Nat.le_refl _, rfl, LX0.out⟩
    case round =>
      obtain ⟨i, cn, hi, h7, hcn, rfl, LX⟩ := hrel
      clear LX0
      obtain ⟨fsA, humA⟩ := undA5
      obtain ⟨fs35, hum35⟩ := und35
      have hzA := zA5_size
      have HSTA : Hid (∀ W : World, (W.alloc (.cells zA5 38)).heap[W.heap.size]? = some (.cells zA5 38 (0, 0))) := hstA5
      have HST : Hid (∀ W : World, (W.alloc (.cells zero32 33)).heap[W.heap.size]? = some (.cells zero32 33 (0, 0))) := hst32
      have hz3 := zero32_size
      by_cases hlt : i < acts.length ∧ i < 70
      · obtain ⟨hlt1, h70⟩ := hlt
        obtain ⟨x, hxi⟩ : ∃ x, acts[i]? = some x := ⟨acts[i], List.getElem?_eq_getElem hlt1⟩
        obtain ⟨hx1, hx2⟩ := HQ1.out i x h70 hxi
        obtain ⟨sb, off, ha, hr, _, _, ok⟩ := HT.out.at LX.o hxi
        cases ha
        have HRX : Hid (wr.rangeAt sb (off + i * 69) (avL x)) := hr
        have HXI : Hid (acts[i]? = some x) := hxi
        have okr := ok.r
        have i0 : (0 : Int) ≤ (i : Int) := by omega
        have i1 : (i : Int) < (acts.length : Int) := by omega
        have i2 : (i : Int) < 70 := by omega
        have hiA : (Tryd.prog.info? 38).map (·.size) = some (avL x).length := by rw [avL_length ok.r]; exact infoA5
        have hAs : (avL x).toArray.size = 69 := by rw [List.size_toArray]; exact avL_length ok.r
        have hA1 : (avL x).toArray.all (·.oneCell') = true := all_oneCell_toArray (avL_one x)
        have hiR : (Tryd.prog.info? 35).map (·.size) = some (rvL x.r).length := by rw [rvL_length ok.r]; exact info35
        have hiK : (Tryd.prog.info? 33).map (·.size) = some (x.r.key.map vb).length := by rw [List.length_map, ok.r.k]; exact info27
        have HAV : Hid (∀ (W : World) (q : Nat), W.heap[q]? = some (.cells (avL x).toArray 38 (0, 0)) → W.cell? ⟨q, 0, none⟩ = some (.int .i64 x.kind) ∧ W.cell? ⟨q, 1, none⟩ = some (.string (M.bs x.text)) ∧ W.cell? ⟨q, 67, none⟩ = some (.int .i64 x.at') ∧ W.cell? ⟨q, 68, none⟩ = some (.slice x.fa x.fates.length x.fc) ∧ W.rangeAt q 2 (rvL x.r) ∧ W.rangeAt q 2 (x.r.key.map vb)) := fun W q h => av_parts okr h
        clear hr hxi
        by_cases hk : x.kind = 2
        · have HS5 : Hid (∀ W : World, (W.alloc (.cells (rv V.zr) 35)).heap[W.heap.size]? = some (.cells (rv V.zr) 35 (0, 0))) := hst35
          have hrz := rv_size zr32
          have HD2 : Hid (∀ s, DT acts (i + 1) s → DT acts i s) := DT.two HXI.out (.inl hk)
          have CR : Hid (∀ {rs : List (Nat × Array Value × TypeId)} W', QY w 128 (300 * i + 300) K sh sc rs (XT acts) (DT acts i) cn R0 W' → Calls Tryd.prog 16 #[.pointer (some ⟨K, 0, none⟩), .agg (x.r.key.map vb).toArray] W' fun e' w' => ∃ (r : V.Rc) (v : Bool), e' = .returned (.tuple #[.agg (rv r), .bool v]) ∧ Rc32 r ∧ QY w 128 (300 * i + 300 + 5) K sh sc rs (XT acts) (DT acts i) cn R0 w') := fun W' l => l.recG (by omega) x.r.key okr.k
          have CP1 : Hid (∀ {rs : List (Nat × Array Value × TypeId)} W', QY w 128 (300 * i + 300 + 5) K sh sc rs (XT acts) (DT acts i) cn R0 W' → Calls Tryd.prog 10 #[.pointer (some ⟨K, 0, none⟩), .agg (rvL x.r).toArray] W' fun e' w' => ∃ (er : Int) (cn' : Nat), e' = .returned (.int .i64 er) ∧ (er = 0 ∨ er = 1 ∨ er = 21) ∧ cn' ≤ cn + 1 ∧ QY w 128 (300 * i + 300 + 5 + 5) K sh sc rs (XT acts) (DT acts i) cn' (RS x.r er) w') := fun W' l => l.recA (by omega) (by omega) x.r okr
          have CP2 : Hid (∀ {er : Int} {cn' : Nat} {rs : List (Nat × Array Value × TypeId)} W', QY w 128 (300 * i + 300 + 5 + 5) K sh sc rs (XT acts) (DT acts i) cn' (RS x.r er) W' → Calls Tryd.prog 10 #[.pointer (some ⟨K, 0, none⟩), .agg (rvL x.r).toArray] W' fun e' w' => e' = .returned (.int .i64 er) ∧ QY w 128 (300 * i + 300 + 5 + 5 + 5) K sh sc rs (XT acts) (DT acts i) cn' R0 w') := fun W' l => l.recB (by omega) okr
          have CL : Hid (∀ {m cn' : Nat} {rs : List (Nat × Array Value × TypeId)} {R : List V.En → List H.Sl → Prop} W', QY w 128 m K sh sc rs (XT acts) (DT acts i) cn' R W' → Calls Tryd.prog 20 #[.pointer (some ⟨K, 0, none⟩)] W' fun e' w' => e' = .returned (.int .i64 (cn' : Int)) ∧ w' = W') := fun W' l => l.len
          clear ok okr HST
          go_upto_region 18 with (first
            | (refine wl_mid (by kernel_rfl) 38 _ rfl sb (off + i * 69) rfl (avL x) _ HRX.out humA rfl hiA ?_; clear HRX)
            | (refine wpList_store_row rfl 38 _ _ rfl wr.heap.size (avL x).toArray rfl rfl 38 zA5 (HSTA.out wr) (by rw [hAs]; exact infoA5) (by rw [hzA, hAs]) hA1 ?_; clear HSTA; rw [World.setRow_alloc_new]; replace LX := LX.row (avL x).toArray 38; generalize wr.alloc (.cells (avL x).toArray 38) = w0 at LX ⊢; generalize wr.heap.size = Q at LX ⊢; obtain ⟨k0, k1, k67, k68, kR, kK⟩ := HAV.out _ Q (LX.at (by simp)); clear k1 k67 k68 kR)
            | (refine wl_mid (by kernel_rfl) 33 _ rfl Q 2 rfl (x.r.key.map vb) _ kK und27 rfl hiK ?_; clear kK k0)
            | (go_at_call 16; refine (CR.out _ LX).mono ?_; clear CR LX; rintro e w3 ⟨r2, v2, rfl, hr2, LX⟩; have hrs2 := rv_size hr2; have hro2 := rv_one r2; clear hr2)
            | (refine wpList_store_row rfl 35 _ _ rfl w3.heap.size (rv r2) rfl rfl 35 (rv V.zr) (HS5.out w3) (by rw [hrs2]; exact info35) (by rw [hrz, hrs2]) hro2 ?_; clear HS5; rw [World.setRow_alloc_new]; replace LX := LX.alloc (.cells (rv r2) 35); generalize w3.alloc (.cells (rv r2) 35) = w4 at LX ⊢; obtain ⟨k0, k1, k67, k68, kR, kK⟩ := HAV.out _ Q (LX.at (by simp)); clear k0 k1 k67 k68 kK)
            | (refine wl_mid (by kernel_rfl) 35 _ rfl Q 2 rfl (rvL x.r) _ kR hum35 rfl hiR ?_; clear kR)
            | (go_at_call 10; refine (CP1.out _ LX).mono ?_; clear CP1 LX; rintro e w5 ⟨er, cn2, rfl, her, hcn2, LX⟩; have HER : Hid (er = 0 ∨ er = 1 ∨ er = 21) := her; clear her; obtain ⟨k0, k1, k67, k68, kR, kK⟩ := HAV.out _ Q (LX.at (by simp)); clear k0 k1 k67 k68 kK)
            | (go_at_call 20; refine (CL.out _ LX).mono ?_; rintro e w6 ⟨rfl, hw⟩; rw [hw]; clear hw w6)
            | (go_at_call 10; refine (CP2.out _ LX).mono ?_; clear CP2 LX; rintro e w7 ⟨rfl, LX⟩))
          cases v2
          · go_wp2_with (go_at_call 20; refine (CL.out _ LX).mono ?_; clear CL; rintro e w8 ⟨rfl, hw⟩; rw [hw]; clear hw w8)
            go_roundw
            case rel => exact ⟨i + 1, cn2, by omega, by omega, by omega, by go_num, ((LX.less (by simp)).dns HD2.out).wider (by omega)⟩
            case measure => simp [intOf]; omega
          · rcases HER.out with rfl | rfl | rfl
            all_goals
              go_wp2_with (go_at_call 20; refine (CL.out _ LX).mono ?_; clear CL; rintro e w8 ⟨rfl, hw⟩; rw [hw]; clear hw w8)
              go_roundw
              case rel => exact ⟨i + 1, cn2, by omega, by omega, by omega, by go_num, ((LX.less (by simp)).dns HD2.out).wider (by omega)⟩
              case measure => simp [intOf]; omega
        · have hts := M.bs_size x.text
          have CL : Hid (∀ {m cn' : Nat} {rs : List (Nat × Array Value × TypeId)} {dn : List UInt8 → Prop} {R : List V.En → List H.Sl → Prop} W', QY w 128 m K sh sc rs (XT acts) dn cn' R W' → Calls Tryd.prog 20 #[.pointer (some ⟨K, 0, none⟩)] W' fun e' w' => e' = .returned (.int .i64 (cn' : Int)) ∧ w' = W') := fun W' l => l.len
          by_cases h5 : x.text.length ≤ 512
          · have h5' : (x.text.length : Int) ≤ 512 := by omega
            have HD1 : Hid (∀ s, DT acts (i + 1) s → DT acts i s ∨ s = x.text) := DT.one HXI.out
            have CP1 : Hid (∀ {rs : List (Nat × Array Value × TypeId)} W', QY w 128 (300 * i + 300) K sh sc rs (XT acts) (DT acts i) cn R0 W' → Calls Tryd.prog 9 #[.pointer (some ⟨K, 0, none⟩), .string (M.bs x.text)] W' fun e' w' => ∃ cn' : Nat, e' = .returned (.tuple #[.agg (dg (S.sha x.text)), .int .i64 0]) ∧ cn' ≤ cn + 1 ∧ QY w 128 (300 * i + 300 + 5) K sh sc rs (XT acts) (fun s => DT acts i s ∨ s = x.text) cn' R0 w') := fun W' l => l.blobA (by omega) (by omega) x.text h5 ⟨i, x, h70, HXI.out, rfl⟩
            have CP2 : Hid (∀ {cn' : Nat} {rs : List (Nat × Array Value × TypeId)} W', QY w 128 (300 * i + 300 + 5) K sh sc rs (XT acts) (fun s => DT acts i s ∨ s = x.text) cn' R0 W' → Calls Tryd.prog 9 #[.pointer (some ⟨K, 0, none⟩), .string (M.bs x.text)] W' fun e' w' => e' = .returned (.tuple #[.agg (dg (S.sha x.text)), .int .i64 0]) ∧ QY w 128 (300 * i + 300 + 5 + 5) K sh sc rs (XT acts) (fun s => DT acts i s ∨ s = x.text) cn' R0 w') := fun W' l => l.blobB (by omega) x.text h5 (.inr rfl)
            have hlD := S.sha_length x.text
            clear ok okr
            generalize S.sha x.text = D at *
            have hDs : (dg D).size = 32 := by rw [dg_size, hlD]
            have hD1 := dg_one D
            have hEQ : ∀ W', (Op.equalIn 10000 33 (.agg (dg D)) (.agg (dg D))).run Tryd.prog W' = .ok true W' := fun W' => by
              have := eqDg D D hlD hlD W'
              rw [decide_eq_true rfl] at this
              exact this
            have HST2 := HST
            go_wp2_with (first
              | (refine wl_mid (by kernel_rfl) 38 _ rfl sb (off + i * 69) rfl (avL x) _ HRX.out humA rfl hiA ?_; clear HRX)
              | (refine wpList_store_row rfl 38 _ _ rfl wr.heap.size (avL x).toArray rfl rfl 38 zA5 (HSTA.out wr) (by rw [hAs]; exact infoA5) (by rw [hzA, hAs]) hA1 ?_; clear HSTA; rw [World.setRow_alloc_new]; replace LX := LX.row (avL x).toArray 38; generalize wr.alloc (.cells (avL x).toArray 38) = w0 at LX ⊢; generalize wr.heap.size = Q at LX ⊢; obtain ⟨k0, k1, k67, k68, kR, kK⟩ := HAV.out _ Q (LX.at (by simp)); clear k67 k68 kR kK)
              | (go_at_call 9; refine (CP1.out _ LX).mono ?_; clear CP1 LX k0 k1; rintro e w3 ⟨cn2, rfl, hcn2, LX⟩)
              | (refine wpList_store_row rfl 33 _ _ rfl w3.heap.size (dg D) rfl rfl 33 zero32 (HST.out w3) (by rw [hDs]; exact info27) (by rw [hz3, hDs]) hD1 ?_; clear HST; rw [World.setRow_alloc_new]; replace LX := LX.row (dg D) 33; generalize w3.alloc (.cells (dg D) 33) = w4 at LX ⊢; generalize w3.heap.size = Q2 at LX ⊢; obtain ⟨k0, k1, k67, k68, kR, kK⟩ := HAV.out _ Q (LX.at (by simp)); clear k0 k67 k68 kR kK)
              | (go_at_call 20; refine (CL.out _ LX).mono ?_; rintro e w6 ⟨rfl, hw⟩; rw [hw]; clear hw w6)
              | (go_at_call 9; refine (CP2.out _ LX).mono ?_; clear CP2 LX k1; rintro e w5 ⟨rfl, LX⟩)
              | (refine wpList_store_row rfl 33 _ _ rfl w5.heap.size (dg D) rfl rfl 33 zero32 (HST2.out w5) (by rw [hDs]; exact info27) (by rw [hz3, hDs]) hD1 ?_; clear HST2; rw [World.setRow_alloc_new]; replace LX := LX.row (dg D) 33; generalize w5.alloc (.cells (dg D) 33) = w7 at LX ⊢; generalize w5.heap.size = Q3 at LX ⊢; obtain ⟨k0, k1, k67, k68, kR, kK⟩ := HAV.out _ Q (LX.at (by simp)); clear k0 k67 k68 kR kK)
              | (refine wpList_load_row rfl 33 _ rfl Q2 rfl 33 (dg D) (0, 0) _ (LX.at (by simp)) und27 rfl (by rw [hDs]; exact info27) ?_)
              | (refine wpList_load_row rfl 33 _ rfl Q3 rfl 33 (dg D) (0, 0) _ (LX.at (by simp)) und27 rfl (by rw [hDs]; exact info27) ?_))
            go_roundw
            case rel => exact ⟨i + 1, cn2, by omega, by omega, by omega, by go_num, ((LX.less (by simp)).dns HD1.out).wider (by omega)⟩
            case measure => simp [intOf]; omega
          · have h5' : ¬ (x.text.length : Int) ≤ 512 := by omega
            have HD2 : Hid (∀ s, DT acts (i + 1) s → DT acts i s) := DT.two HXI.out (.inr h5)
            have CP : Hid (∀ {m : Nat} {rs : List (Nat × Array Value × TypeId)} W', QY w 128 m K sh sc rs (XT acts) (DT acts i) cn R0 W' → Calls Tryd.prog 9 #[.pointer (some ⟨K, 0, none⟩), .string (M.bs x.text)] W' fun e' w' => e' = .returned (.tuple #[.agg zero32, .int .i64 33]) ∧ QY w 128 (m + 5) K sh sc rs (XT acts) (DT acts i) cn R0 w') := fun W' l => l.blobW x.text (by omega) ok.t
            have h31 := zero32_one
            have hEQ : ∀ W', (Op.equalIn 10000 33 (.agg zero32) (.agg zero32)).run Tryd.prog W' = .ok true W' := fun W' => by
              have := eqDg V.zd V.zd zd_length zd_length W'
              rw [decide_eq_true rfl, zd_dg] at this
              exact this
            have CP2 : Hid (∀ {m : Nat} {rs : List (Nat × Array Value × TypeId)} W', QY w 128 m K sh sc rs (XT acts) (DT acts i) cn R0 W' → Calls Tryd.prog 9 #[.pointer (some ⟨K, 0, none⟩), .string (M.bs x.text)] W' fun e' w' => e' = .returned (.tuple #[.agg zero32, .int .i64 33]) ∧ QY w 128 (m + 5) K sh sc rs (XT acts) (DT acts i) cn R0 w') := fun W' l => CP.out W' l
            have HST2 := HST
            clear ok okr
            go_wp2_with (first
              | (refine wl_mid (by kernel_rfl) 38 _ rfl sb (off + i * 69) rfl (avL x) _ HRX.out humA rfl hiA ?_; clear HRX)
              | (refine wpList_store_row rfl 38 _ _ rfl wr.heap.size (avL x).toArray rfl rfl 38 zA5 (HSTA.out wr) (by rw [hAs]; exact infoA5) (by rw [hzA, hAs]) hA1 ?_; clear HSTA; rw [World.setRow_alloc_new]; replace LX := LX.row (avL x).toArray 38; generalize wr.alloc (.cells (avL x).toArray 38) = w0 at LX ⊢; generalize wr.heap.size = Q at LX ⊢; obtain ⟨k0, k1, k67, k68, kR, kK⟩ := HAV.out _ Q (LX.at (by simp)); clear k67 k68 kR kK)
              | (go_at_call 9; refine (CP.out _ LX).mono ?_; clear CP LX k0 k1; rintro e w3 ⟨rfl, LX⟩)
              | (refine wpList_store_row rfl 33 _ _ rfl w3.heap.size zero32 rfl rfl 33 zero32 (HST.out w3) (by rw [hz3]; exact info27) rfl h31 ?_; clear HST; rw [World.setRow_alloc_new]; replace LX := LX.row zero32 33; generalize w3.alloc (.cells zero32 33) = w4 at LX ⊢; generalize w3.heap.size = Q2 at LX ⊢; obtain ⟨k0, k1, k67, k68, kR, kK⟩ := HAV.out _ Q (LX.at (by simp)); clear k0 k67 k68 kR kK)
              | (go_at_call 20; refine (CL.out _ LX).mono ?_; rintro e w6 ⟨rfl, hw⟩; rw [hw]; clear hw w6)
              | (go_at_call 9; refine (CP2.out _ LX).mono ?_; clear CP2 LX k1; rintro e w5 ⟨rfl, LX⟩)
              | (refine wpList_store_row rfl 33 _ _ rfl w5.heap.size zero32 rfl rfl 33 zero32 (HST2.out w5) (by rw [hz3]; exact info27) rfl h31 ?_; clear HST2; rw [World.setRow_alloc_new]; replace LX := LX.row zero32 33; generalize w5.alloc (.cells zero32 33) = w7 at LX ⊢; generalize w5.heap.size = Q3 at LX ⊢; obtain ⟨k0, k1, k67, k68, kR, kK⟩ := HAV.out _ Q (LX.at (by simp)); clear k0 k67 k68 kR kK)
              | (refine wpList_load_row rfl 33 _ rfl Q2 rfl 33 zero32 (0, 0) _ (LX.at (by simp)) und27 rfl (by rw [hz3]; exact info27) ?_)
              | (refine wpList_load_row rfl 33 _ rfl Q3 rfl 33 zero32 (0, 0) _ (LX.at (by simp)) und27 rfl (by rw [hz3]; exact info27) ?_))
            go_roundw
            case rel => exact ⟨i + 1, cn, by omega, by omega, by omega, by go_num, ((LX.less (by simp)).dns HD2.out).wider (by omega)⟩
            case measure => simp [intOf]; omega
      · have HDN : Hid (∀ (j : Nat) (x : A5), j < 70 → acts[j]? = some x → x.kind ≠ 2 → x.text.length ≤ 512 → DT acts i x.text) := fun j x hj hx hk h5 => ⟨j, x, by have := (List.getElem?_eq_some_iff.1 hx).1; omega, hx, hk, h5, rfl⟩
        have CS : Hid (∀ W', QY w 128 (300 * i + 300) K sh sc [] (XT acts) (DT acts i) cn R0 W' → Calls Tryd.prog 19 #[.pointer (some ⟨K, 0, none⟩)] W' fun e' w' => e' = .returned (.int .i64 0) ∧ QZ w 128 (300 * i + 300 + 5) K sh sc false (XT acts) (DT acts i) cn w') := fun W' l => l.sync (by omega)
        have CF : Hid (∀ W', QZ w 128 (300 * i + 300 + 5) K sh sc false (XT acts) (DT acts i) cn W' → Calls Tryd.prog 11 #[.pointer (some ⟨sh, 0, none⟩)] W' fun e' w' => e' = .returned (.tuple #[]) ∧ QZ w 128 (300 * i + 300 + 5 + 1) K sh sc true (XT acts) (DT acts i) cn w') := fun W' l => l.off (by omega)
        have CB : Hid (∀ W', QZ w 128 (300 * i + 300 + 5 + 1) K sh sc true (XT acts) (DT acts i) cn W' → Calls Tryd.prog 12 #[.pointer (some ⟨sh, 0, none⟩), .slice none 0 0] W' fun e' w' => e' = .returned (.tuple #[]) ∧ QZ w 128 (300 * i + 300 + 5 + 1) K sh sc false (XT acts) (DT acts i) cn w') := fun W' l => l.on (by omega)
        have CO : Hid (∀ W', QZ w 128 (300 * i + 300 + 5 + 1) K sh sc false (XT acts) (DT acts i) cn W' → Calls Tryd.prog 8 #[.pointer (some ⟨sh, 0, none⟩)] W' fun e' w' => ∃ K2, e' = .returned (.tuple #[.pointer (some ⟨K2, 0, none⟩), .int .i64 0]) ∧ QY w 128 (300 * i + 300 + 5 + 1 + 200) K2 sh sc [] (XT acts) (DT acts i) cn R0 w' ∧ ZO K sh sc cn w') := fun W' l => l.opens (by omega) hG
        have CL2 : Hid (∀ {K2 : Nat} W', QY w 128 (300 * i + 300 + 5 + 1 + 200) K2 sh sc [] (XT acts) (DT acts i) cn R0 W' → Calls Tryd.prog 20 #[.pointer (some ⟨K2, 0, none⟩)] W' fun e' w' => e' = .returned (.int .i64 (cn : Int)) ∧ w' = W') := fun W' l => l.len
        have CL1 : Hid (∀ W', ZO K sh sc cn W' → Calls Tryd.prog 20 #[.pointer (some ⟨K, 0, none⟩)] W' fun e' w' => e' = .returned (.int .i64 (cn : Int)) ∧ w' = W') := fun W' l => l.len
        have XI : (¬ (i : Int) < (acts.length : Int)) ∨ ((i : Int) < (acts.length : Int) ∧ i = 70) := by omega
        clear hlt
        obtain ⟨M0, hM0⟩ : ∃ M0, M0 = 300 * i + 300 + 5 + 1 + 200 := ⟨_, rfl⟩
        have hM : M0 ≤ 30000 := by omega
        rcases XI with XI | ⟨XI, hi70⟩
        all_goals
          go_wp2_with (first
            | (go_at_call 19; refine (CS.out _ LX).mono ?_; clear CS LX; rintro e w3 ⟨rfl, LX⟩)
            | (go_at_call 11; refine (CF.out _ LX).mono ?_; clear CF LX; rintro e w4 ⟨rfl, LX⟩)
            | (go_at_call 12; refine (CB.out _ LX).mono ?_; clear CB LX; rintro e w5 ⟨rfl, LX⟩)
            | (go_at_call 8; refine (CO.out _ LX).mono ?_; clear CO LX; rintro e w6 ⟨K2, rfl, LX, ZX⟩)
            | (go_at_call 20; refine (CL2.out _ LX).mono ?_; clear CL2; rintro e w7 ⟨rfl, hw⟩; rw [hw]; clear hw w7)
            | (go_at_call 20; refine (CL1.out _ ZX).mono ?_; clear CL1 ZX; rintro e w7 ⟨rfl, hw⟩; rw [hw]; clear hw w7))
          rw [← hM0] at LX
          have LX0 : Hid (QY w 128 (M0 + 10 * 0) K2 sh sc [] (XT acts) (DT acts i) cn R0 w6) := LX
          clear LX hM0 XI
          go_loopw [18, 19, 20, 21] (fun u18 u19 u20 u21 wr => ∃ (j : Nat), j ≤ acts.length ∧ j ≤ 70 ∧ u18 = .int .i64 (j : Int) ∧ QY w 128 (M0 + 10 * j) K2 sh sc [] (XT acts) (DT acts i) cn R0 wr) (fun u18 _ _ _ _ => 70 - (intOf u18).toNat)
          case atStart => exact ⟨0, Nat.zero_le _, Nat.zero_le _, rfl, LX0.out⟩
          case round =>
            obtain ⟨j, hj, hj7, rfl, LX⟩ := hrel
            clear LX0
            by_cases hlj : j < acts.length
            · have j1 : (j : Int) < (acts.length : Int) := by omega
              by_cases hj70 : j < 70
              · have j2 : (j : Int) < 70 := by omega
                have j0 : (0 : Int) ≤ (j : Int) := by omega
                obtain ⟨x, hxi⟩ : ∃ x, acts[j]? = some x := ⟨acts[j], List.getElem?_eq_getElem hlj⟩
                obtain ⟨hx1, hx2⟩ := HQ1.out j x hj70 hxi
                obtain ⟨sb, off, ha, hr, _, _, ok⟩ := HT.out.at LX.o hxi
                cases ha
                have HRX : Hid (wr.rangeAt sb (off + j * 69) (avL x)) := hr
                have hiA : (Tryd.prog.info? 38).map (·.size) = some (avL x).length := by rw [avL_length ok.r]; exact infoA5
                have hAs : (avL x).toArray.size = 69 := by rw [List.size_toArray]; exact avL_length ok.r
                have hA1 : (avL x).toArray.all (·.oneCell') = true := all_oneCell_toArray (avL_one x)
                have okr := ok.r
                have HAV : Hid (∀ (W : World) (q : Nat), W.heap[q]? = some (.cells (avL x).toArray 38 (0, 0)) → W.cell? ⟨q, 0, none⟩ = some (.int .i64 x.kind) ∧ W.cell? ⟨q, 1, none⟩ = some (.string (M.bs x.text)) ∧ W.cell? ⟨q, 67, none⟩ = some (.int .i64 x.at') ∧ W.cell? ⟨q, 68, none⟩ = some (.slice x.fa x.fates.length x.fc) ∧ W.rangeAt q 2 (rvL x.r) ∧ W.rangeAt q 2 (x.r.key.map vb)) := fun W q h => av_parts okr h
                have HXI : Hid (acts[j]? = some x) := hxi
                clear hr hxi ok
                by_cases hk : x.kind = 2
                · clear okr
                  go_wp2_with (first
                    | (refine wl_mid (by kernel_rfl) 38 _ rfl sb (off + j * 69) rfl (avL x) _ HRX.out humA rfl hiA ?_; clear HRX)
                    | (refine wpList_store_row rfl 38 _ _ rfl wr.heap.size (avL x).toArray rfl rfl 38 zA5 (HSTA.out wr) (by rw [hAs]; exact infoA5) (by rw [hzA, hAs]) hA1 ?_; clear HSTA; rw [World.setRow_alloc_new]; replace LX := LX.row (avL x).toArray 38; generalize wr.alloc (.cells (avL x).toArray 38) = w0 at LX ⊢; generalize wr.heap.size = Q at LX ⊢; obtain ⟨k0, k1, k67, k68, kR, kK⟩ := HAV.out _ Q (LX.at (by simp)); clear k1 k67 k68 kR kK))
                  go_roundw
                  case rel => exact ⟨j + 1, by omega, by omega, by go_num, (LX.less (by simp)).wider (by omega)⟩
                  case measure => simp [intOf]; omega
                · have hts := M.bs_size x.text
                  have hbe := bs_eqQ x.text x.text true (by simp)
                  have COF : Hid (∀ {rs : List (Nat × Array Value × TypeId)} W' T, QY w 128 (M0 + 10 * j) K2 sh sc rs (XT acts) (DT acts i) cn R0 W' → Calls Tryd.prog 14 #[.slice (some ⟨W'.heap.size, 0, none⟩) 1 1] (W'.alloc (.cells #[.string (M.bs x.text)] T)) fun e' w' => e' = .returned (.agg (dg (S.sha x.text))) ∧ QY w 128 (M0 + 10 * j) K2 sh sc rs (XT acts) (DT acts i) cn R0 w') := fun W' T l => l.of x.text T (by omega)
                  have CBL : Hid (∀ {rs : List (Nat × Array Value × TypeId)} W', QY w 128 (M0 + 10 * j) K2 sh sc rs (XT acts) (DT acts i) cn R0 W' → Calls Tryd.prog 15 #[.pointer (some ⟨K2, 0, none⟩), .agg (dg (S.sha x.text))] W' fun e' w' => e' = .returned (.tuple #[.string (M.bs (if x.text.length ≤ 512 then x.text else [])), .bool (decide (x.text.length ≤ 512))]) ∧ QY w 128 (M0 + 10 * j + 5) K2 sh sc rs (XT acts) (DT acts i) cn R0 w') := fun W' l => l.blob (by omega) x.text (fun s hs he => HIN.out s hs j x hj70 HXI.out he) (fun h5 => HDN.out j x hj70 HXI.out hk h5)
                  clear okr
                  by_cases h5 : x.text.length ≤ 512
                  · have h5' : (x.text.length : Int) ≤ 512 := by omega
                    rw [if_pos h5, decide_eq_true h5] at CBL
                    generalize S.sha x.text = D at *
                    go_wp2_with (first
                      | (refine wl_mid (by kernel_rfl) 38 _ rfl sb (off + j * 69) rfl (avL x) _ HRX.out humA rfl hiA ?_; clear HRX)
                      | (refine wpList_store_row rfl 38 _ _ rfl wr.heap.size (avL x).toArray rfl rfl 38 zA5 (HSTA.out wr) (by rw [hAs]; exact infoA5) (by rw [hzA, hAs]) hA1 ?_; clear HSTA; rw [World.setRow_alloc_new]; replace LX := LX.row (avL x).toArray 38; generalize wr.alloc (.cells (avL x).toArray 38) = w0 at LX ⊢; generalize wr.heap.size = Q at LX ⊢; obtain ⟨k0, k1, k67, k68, kR, kK⟩ := HAV.out _ Q (LX.at (by simp)); clear k67 k68 kR kK)
                      | (go_at_call 14; refine (COF.out _ _ LX).mono ?_; clear COF LX k0 k1; rintro e w8 ⟨rfl, LX⟩)
                      | (go_at_call 15; refine (CBL.out _ LX).mono ?_; clear CBL LX; rintro e w9 ⟨rfl, LX⟩; obtain ⟨k0, k1, k67, k68, kR, kK⟩ := HAV.out _ Q (LX.at (by simp)); clear k0 k67 k68 kR kK))
                    go_roundw
                    case rel => exact ⟨j + 1, by omega, by omega, by go_num, (LX.less (by simp)).wider (by omega)⟩
                    case measure => simp [intOf]; omega
                  · have h5' : ¬ (x.text.length : Int) ≤ 512 := by omega
                    rw [if_neg h5, decide_eq_false h5] at CBL
                    generalize S.sha x.text = D at *
                    go_wp2_with (first
                      | (refine wl_mid (by kernel_rfl) 38 _ rfl sb (off + j * 69) rfl (avL x) _ HRX.out humA rfl hiA ?_; clear HRX)
                      | (refine wpList_store_row rfl 38 _ _ rfl wr.heap.size (avL x).toArray rfl rfl 38 zA5 (HSTA.out wr) (by rw [hAs]; exact infoA5) (by rw [hzA, hAs]) hA1 ?_; clear HSTA; rw [World.setRow_alloc_new]; replace LX := LX.row (avL x).toArray 38; generalize wr.alloc (.cells (avL x).toArray 38) = w0 at LX ⊢; generalize wr.heap.size = Q at LX ⊢; obtain ⟨k0, k1, k67, k68, kR, kK⟩ := HAV.out _ Q (LX.at (by simp)); clear k67 k68 kR kK)
                      | (go_at_call 14; refine (COF.out _ _ LX).mono ?_; clear COF LX k0 k1; rintro e w8 ⟨rfl, LX⟩)
                      | (go_at_call 15; refine (CBL.out _ LX).mono ?_; clear CBL LX; rintro e w9 ⟨rfl, LX⟩; obtain ⟨k0, k1, k67, k68, kR, kK⟩ := HAV.out _ Q (LX.at (by simp)); clear k0 k67 k68 kR kK))
                    go_roundw
                    case rel => exact ⟨j + 1, by omega, by omega, by go_num, (LX.less (by simp)).wider (by omega)⟩
                    case measure => simp [intOf]; omega
              · obtain rfl : j = 70 := by omega
                go_wp2_with fail
                go_ret
                exact ⟨rfl, LX.o⟩
            · have j1 : ¬ (j : Int) < (acts.length : Int) := by omega
              go_wp2_with fail
              go_ret
              exact ⟨rfl, LX.o⟩
  · go_wp2_with fail
    go_ret
    exact ⟨rfl, HG.b⟩
  · go_wp2_with fail
    go_ret
    exact ⟨rfl, HG.b⟩
end Go.Proofs.YtbaemckmhnkfaaaDoor
