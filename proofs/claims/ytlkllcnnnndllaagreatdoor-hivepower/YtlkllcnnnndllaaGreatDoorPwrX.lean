/- The texts Pwr PwrP as one. -/
import Derived.Test.YtlkllcnnnndllaaGreatDoorPwrK
import Derived.Test.YtlkllcnnnndllaaGreatDoorPwrL
import Derived.Deep.CutBlock
import Derived.BigGuard
import Derived.Deep.DeepCutAuto
import Derived.Test.YtlkllcnnnndllaaGreatDoorArgs
import Derived.Test.YtlkllcnnnndllaaGreatDoorP3
import Derived.Test.YtlkllcnnnndllaaGreatDoorOpI
import Derived.Test.YtlkllcnnnndllaaGreatDoorLaid
import Derived.Test.YtlkllcnnnndllaaGreatDoorCards
import Derived.Test.YtlkllcnnnndllaaGreatDoorTie
import Derived.SevenTiedAt
import Derived.ChangeOld
import Derived.Below
import Derived.ShutString
/- HivePower: the walk. -/
namespace Go.Proofs.YtlkllcnnnndllaaGreatDoor
open Go.RowKit Go.Maps
set_option linter.unusedVariables false
set_option linter.unusedSimpArgs false

def zA5 : Array Value := (avL ⟨0, [], V.zr, 0, [], none, 0⟩).toArray
theorem zeroA5 (W : World) : (zeroValue 43).run Tryz.prog W = .ok (.agg zA5) W := by kernel_rfl
theorem undA5 : ∃ fs, Tryz.prog.underlying 43 = some (.struct fs) := ⟨_, Tryz.underlying43⟩
theorem infoA5 : (Tryz.prog.info? 43).map (·.size) = some 69 := by kernel_rfl
theorem zA5_size : zA5.size = 69 := by rw [zA5, List.size_toArray]; exact avL_length zr32
theorem hstA5 (W : World) : (W.alloc (.cells zA5 43)).heap[W.heap.size]? = some (.cells zA5 43 (0, 0)) := heap_alloc_new _ _
attribute [local go_sem ↓] zeroDg
attribute [local go_sem ↓] zero35
attribute [local go_sem ↓] zeroA5

set_option maxRecDepth 8000 in
set_option maxHeartbeats 32000000 in
theorem hivePower_core (acts : List A5) (a : Option Addr) (c : Nat) (pw : List Int) (pa : Option Addr) (pc : Nat) (w : World) (hG : GW w) (T : AC5 w a acts) (hn : acts.length ≤ 9223372036854775807) (P : FI w pa pw) (hpn : pw.length ≤ 9223372036854775807) (hpb : ∀ x ∈ pw, -9223372036854775808 ≤ x ∧ x ≤ 9223372036854775807) :
    Calls Tryz.prog 3 #[.slice a acts.length c, .slice pa pw.length pc] w fun e w' => e = .returned (.bool true) ∧ Below w.heap.size w w' := by
  have hz := hG.z
  have HG : GB w w := GB.refl hG
  have HGW : Hid (GW w) := hG
  have CA : Hid (∀ W, GB w W → Calls Tryz.prog 4 #[] W fun e w' => e = .returned (.bool true) ∧ GB w w') := fun W h => awake_h h
  have CG : Hid (∀ W, GB w W → Calls Tryz.prog 5 #[.slice a acts.length c] W fun e w' => G5 acts W e w') := fun W h => great5 acts a c T h.b hn
  have CT : Hid (∀ W, GB w W → Calls Tryz.prog 7 #[.slice a acts.length c] W fun e w' => TP acts W e w') := fun W h => texts_at acts a c T h.b hn
  have CC : Hid (∀ {a1 : Option Addr} {c1 : Nat} {L : List (List UInt8)} {W : World}, TS W a1 L → L.length ≤ 70 → (∀ t ∈ L, t.length ≤ 1000) → GB w W → Calls Tryz.prog 6 #[.slice a1 L.length c1, .slice none 0 0] W fun e w' => ∃ q, e = .returned (.bool q) ∧ (q = false → NC L L.length) ∧ GB w w') := fun {a1 c1 L W} h1 h2 h3 h => by
    refine (clash_at a1 none c1 0 L [] h h1 (fun i t ht => by simp at ht) (by omega) (by simp) h3 (by simp)).mono ?_
    rintro e w' ⟨q, rfl, hq, hg⟩
    exact ⟨q, rfl, by simpa using hq, hg⟩
  have CN : Hid (∀ W, GB w W → Calls Tryz.prog 8 #[.int .i64 128] W fun e w' => ∃ b c, e = .returned (.pointer (some ⟨b, 0, none⟩)) ∧ (w.heap.size ≤ b ∧ w.heap.size ≤ c) ∧ SW w b c (new 128) w') := fun W h => by
    refine (New_u 128 (by omega) h.b).mono ?_
    rintro e w' ⟨b, c, rfl, h1, h2, h3⟩
    exact ⟨b, c, rfl, ⟨h1, h2⟩, h3⟩
  have CO : Hid (∀ {b c : Nat} W, (w.heap.size ≤ b ∧ w.heap.size ≤ c) → SW w b c (new 128) W → Calls Tryz.prog 9 #[.pointer (some ⟨b, 0, none⟩)] W fun e w' => ∃ K cn, e = .returned (.tuple #[.pointer (some ⟨K, 0, none⟩), .int .i64 0]) ∧ QP w 128 200 K b c 0 [] (XT acts) cn (L4 [] [] [] []) w') := fun W h x => QP.new x h.1 h.2 (by omega) hG
  have HT : Hid (AC5 w a acts) := T
  have HP : Hid (FI w pa pw) := P
  have HPB : Hid (∀ x ∈ pw, -9223372036854775808 ≤ x ∧ x ≤ 9223372036854775807) := hpb
  clear T P hpb
  go_enter Tryz.func3, Tryz.ntmps3
  go_wp2_with (first
    | go_skip
    | (go_at_call 4; refine (CA.out _ HG).mono ?_; clear CA HG; rintro e w1 ⟨rfl, HG⟩)
    | (go_at_call 5; refine (CG.out _ HG).mono ?_; clear CG; rintro e w2 ⟨q, rfl, hq, hw⟩; rw [hw]; clear hw w2; have HQ : Hid (q = false → ∀ (i : Nat) (x : A5), i < 70 → acts[i]? = some x → x.text.length ≤ 1000 ∧ x.fates.length ≤ 200) := hq; clear hq; cases q)
    | (go_at_call 7; refine (CT.out _ HG).mono ?_; clear CT; rintro e w3 ⟨a1, c1, L, rfl, hts, hbt, hL7, hLm, hLs⟩; replace HG := HG.step hbt; have HLm : Hid (∀ (j : Nat) (x : A5), j < 70 → acts[j]? = some x → x.text ∈ L) := hLm; have HL1 : Hid (∀ t ∈ L, t.length ≤ 1000) := (fun t ht => by obtain ⟨j, y, h1, h2, h3⟩ := hLs t ht; rw [← h3]; first | exact (HQ.out rfl j y h1 h2).1 | exact (HQ.out trivial j y h1 h2).1); have HTS : Hid (TS w3 a1 L) := hts; clear hbt hLm hLs hts)
    | (go_at_call 6; refine (CC.out HTS.out hL7 HL1.out HG).mono ?_; clear CC HTS HG; rintro e w4 ⟨qc, rfl, hnc, HG⟩; have HNC : Hid (qc = false → NC L L.length) := hnc; clear hnc; cases qc))
  · have HIN : Hid (∀ s, XT acts s → ∀ t, XT acts t → S.sha s = S.sha t → s = t) := fun s hs t ht he => by
      obtain ⟨j, y, h1, h2, h3⟩ := hs
      obtain ⟨i, x, hi, hx, h4⟩ := ht
      subst h3
      subst h4
      first | exact nc_inj (HNC.out rfl) _ (HLm.out j y h1 h2) _ (HLm.out i x hi hx) he | exact nc_inj (HNC.out trivial) _ (HLm.out j y h1 h2) _ (HLm.out i x hi hx) he
    have HQ1 : Hid (∀ (i : Nat) (x : A5), i < 70 → acts[i]? = some x → x.text.length ≤ 1000 ∧ x.fates.length ≤ 200) := by first | exact HQ.out rfl | exact HQ.out trivial
    clear HNC HLm HL1 HQ
    have HPI : Hid (∀ {W : World} (j : Nat), Below w.heap.size w W → j < pw.length → ∃ (y : Int) (sb off : Nat), pa = some ⟨sb, off, none⟩ ∧ W.cell? ⟨sb, off + j, none⟩ = some (.int .i64 y) ∧ -9223372036854775808 ≤ y ∧ y ≤ 9223372036854775807) := fun {W} j hB h0 => by
      have hy : pw[j]? = some pw[j] := List.getElem?_eq_getElem h0
      obtain ⟨sb, off, e1, h1, h2⟩ := HP.out j _ hy
      exact ⟨pw[j], sb, off, e1, by rw [hB.cell (p := ⟨sb, off + j, none⟩) h1]; exact h2, HPB.out _ (List.mem_of_getElem? hy)⟩
    clear HP HPB
    go_upto_if 53 with (first
        | go_skip
        | (go_at_call 8; refine (CN.out _ HG).mono ?_; clear CN HG; rintro e w5 ⟨sh, sc, rfl, hbc, LX⟩)
        | (go_at_call 9; refine (CO.out _ hbc LX).mono ?_; clear CO LX; rintro e w6 ⟨K, cn0, rfl, LX⟩))
    have LX4 : Hid (QP w 128 200 K sh sc 0 (r5 (.slice (some ⟨w6.heap.size + 1, 0, none⟩) 0 0) (.slice (some ⟨w6.heap.size, 0, none⟩) 0 0) (.slice (some ⟨w6.heap.size + 1 + 1 + 1, 0, none⟩) 0 0) (.slice (some ⟨w6.heap.size + 1 + 1, 0, none⟩) 0 0) [] [] [] [] []) (XT acts) cn0 (L4 [] [] [] []) (W4 w6)) := LX.four
    unfold W4 at LX4
    clear LX hbc
    go_cut [53] (fun s53 wx => ∃ ar, QP w 128 200 K sh sc ar (r5 (.slice (some ⟨w6.heap.size + 1, 0, none⟩) 0 0) (.slice (some ⟨w6.heap.size, 0, none⟩) 0 0) (.slice (some ⟨w6.heap.size + 1 + 1 + 1, 0, none⟩) 0 0) (.slice (some ⟨w6.heap.size + 1 + 1, 0, none⟩) 0 0) [] [] [] [] []) (XT acts) cn0 (L4 [] [] [] []) wx)
    case first =>
      by_cases hp0 : 0 < pw.length
      · have hp1 : (0 : Int) < (pw.length : Int) := by omega
        obtain ⟨y, sb, off, hpa, hcy, hy1, hy2⟩ := HPI.out 0 LX4.out.o hp0
        rw [Nat.add_zero] at hcy
        subst hpa
        obtain ⟨ka, hka, hkw⟩ := arm60 y
        go_wp2_with (first
          | go_skip
          | (go_at_call 10; rw [hkw]; refine (LX4.out.arms ka hka).mono ?_; clear LX4 hcy; rintro e w7 ⟨rfl, LX⟩))
        go_meet
        exact ⟨ka, LX⟩
      · have hp1 : ¬ (0 : Int) < (pw.length : Int) := by omega
        go_wp2_with fail
        go_meet
        exact ⟨0, LX4.out⟩
    case rest =>
      as_aux_lemma =>
      obtain ⟨ar0, LX0⟩ := hcut
      clear LX4
      have HX0 : Hid (RndP w acts sh sc 0 (.pointer (some ⟨K, 0, none⟩)) (.slice (some ⟨w6.heap.size, 0, none⟩) 0 0) (.slice (some ⟨w6.heap.size + 1, 0, none⟩) 0 0) (.slice (some ⟨w6.heap.size + 1 + 1, 0, none⟩) 0 0) (.slice (some ⟨w6.heap.size + 1 + 1 + 1, 0, none⟩) 0 0) wc) := ⟨K, ar0, cn0, [], [], [], [], rfl, Nat.le_refl _, fun t ht => absurd ht (by simp), fun t ht => absurd ht (by simp), fun t ht => absurd ht (by simp), LX0⟩
      clear LX0
      generalize w6.heap.size = z6 at *
      go_wp2_with fail
      go_loopw [6, 7, 8, 9, 10, 11, 12, 13, 14, 15, 16, 17, 18, 19, 20, 21, 22, 23, 24, 25, 26, 27, 28, 29] (fun u6 u7 u8 u9 u10 u11 u12 u13 u14 u15 u16 u17 u18 u19 u20 u21 u22 u23 u24 u25 u26 u27 u28 u29 wr => ∃ (i lo : Nat), i ≤ acts.length ∧ i ≤ 70 ∧ u13 = .int .i64 (i : Int) ∧ lo ≤ i ∧ u12 = .int .i64 (lo : Int) ∧ RndP w acts sh sc i u6 u8 u9 u10 u11 wr) (fun u6 u7 u8 u9 u10 u11 u12 u13 u14 u15 u16 u17 u18 u19 u20 u21 u22 u23 u24 u25 u26 u27 u28 u29 _ => 70 - (intOf u13).toNat)
      case atStart => exact ⟨0, 0, Nat.zero_le _, Nat.zero_le _, rfl, Nat.le_refl _, rfl, HX0.out⟩
      case round =>
        as_aux_lemma =>
        obtain ⟨i, lo, hi, h7, rfl, hlo, rfl, hR⟩ := hrel
        clear HX0
        obtain ⟨K', arm, cn, bl, su, re, sa, rfl, hbr, hbX, hre, hsa, LX⟩ := hR
        have HbX : Hid (∀ t ∈ bl, XT acts t) := hbX
        have Hre : Hid (∀ r ∈ re, Rc32 r) := hre
        have Hsa : Hid (∀ r ∈ sa, Rc32 r) := hsa
        have HB : Hid (Below w.heap.size w wr) := LX.o
        clear hbX hre hsa
        by_cases hlt : i < acts.length ∧ i < 70
        · obtain ⟨hlt1, h70⟩ := hlt
          obtain ⟨x, hxi⟩ : ∃ x, acts[i]? = some x := ⟨acts[i], List.getElem?_eq_getElem hlt1⟩
          obtain ⟨hx1, hx2⟩ := HQ1.out i x h70 hxi
          obtain ⟨sb, off, ha, hr, _, _, ok⟩ := HT.out.at LX.o hxi
          subst ha
          have HRX : Hid (wr.rangeAt sb (off + i * 69) (avL x)) := hr
          have HOK : Hid (A5ok w x) := ok
          have okr := ok.r
          have HXT : Hid (XT acts x.text) := ⟨i, x, h70, hxi, rfl⟩
          have i0 : (0 : Int) ≤ (i : Int) := by omega
          have i1 : (i : Int) < (acts.length : Int) := by omega
          have i2 : (i : Int) < 70 := by omega
          obtain ⟨fsA, humA⟩ := undA5
          obtain ⟨fs35, hum35⟩ := und35
          have hiA : (Tryz.prog.info? 43).map (·.size) = some (avL x).length := by rw [avL_length ok.r]; exact infoA5
          have hAs : (avL x).toArray.size = 69 := by rw [List.size_toArray]; exact avL_length ok.r
          have hzA := zA5_size
          have hA1 : (avL x).toArray.all (·.oneCell') = true := all_oneCell_toArray (avL_one x)
          have hiR : (Tryz.prog.info? 41).map (·.size) = some (rvL x.r).length := by rw [rvL_length ok.r]; exact info35
          have hiK : (Tryz.prog.info? 39).map (·.size) = some (x.r.key.map vb).length := by rw [List.length_map, ok.r.k]; exact info27
          have HSTA : Hid (∀ W : World, (W.alloc (.cells zA5 43)).heap[W.heap.size]? = some (.cells zA5 43 (0, 0))) := hstA5
          have HAV : Hid (∀ (W : World) (q : Nat), W.heap[q]? = some (.cells (avL x).toArray 43 (0, 0)) → W.cell? ⟨q, 0, none⟩ = some (.int .i64 x.kind) ∧ W.cell? ⟨q, 1, none⟩ = some (.string (M.bs x.text)) ∧ W.cell? ⟨q, 67, none⟩ = some (.int .i64 x.at') ∧ W.cell? ⟨q, 68, none⟩ = some (.slice x.fa x.fates.length x.fc) ∧ W.rangeAt q 2 (rvL x.r) ∧ W.rangeAt q 2 (x.r.key.map vb)) := fun W q h => av_parts okr h
          obtain ⟨aB, cB, rfl, hTB⟩ := owns_ts (LX.owns (r := rwS u9 bl) (by simp [r5]))
          obtain ⟨aR, cR, rfl, hTR, _⟩ := owns_rl Hre.out (LX.owns (r := rwR u11 re) (by simp [r5]))
          have hbl : bl.length ≤ 70 := by omega
          have hrl : re.length ≤ 70 := by omega
          have HTL : Hid (∀ t, XT acts t → t.length ≤ 1000) := fun t ht => by
            obtain ⟨j, y, hj, hy, rfl⟩ := ht
            exact (HQ1.out j y hj hy).1
          clear hr hxi ok hTB hTR HQ1 HT
          go_upto_block 2 with (first
            | go_skip
            | (refine wl_mid (by kernel_rfl) 43 _ rfl sb (off + i * 69) rfl (avL x) _ HRX.out humA rfl hiA ?_; clear HRX)
            | (refine wpList_store_row rfl 43 _ _ rfl wr.heap.size (avL x).toArray rfl rfl 43 zA5 (HSTA.out wr) (by rw [hAs]; exact infoA5) (by rw [hzA, hAs]) hA1 ?_; clear HSTA; rw [World.setRow_alloc_new]; replace LX := (LX.box (avL x).toArray 43 69 hAs).aside; generalize wr.alloc (.cells (avL x).toArray 43) = w0 at LX ⊢; generalize wr.heap.size = Q at LX ⊢; obtain ⟨k0, k1, k67, k68, kR, kK⟩ := HAV.out _ Q (LX.boxAt (r5_mem (List.mem_singleton.2 rfl)) (by rw [hAs]))))
          clear k67 k68 HB
          obtain ⟨bx, hbx⟩ : ∃ bx, rwK 43 69 Q 1 (avL x).toArray = bx := ⟨_, rfl⟩
          rw [hbx] at LX
          have HBX : Hid (rwK 43 69 Q 1 (avL x).toArray = bx) := hbx
          clear hbx
          go_cut [7, 8, 9, 10, 11, 77] (fun s7 s8 s9 s10 s11 s77 wx => ActP w acts K' sh sc i bx s7 s8 s9 s10 s11 wx)
          case first =>
            rename_i J KP hJ hM
            exact hivePower_act (J := J) (KP := KP) acts c pw pa pc w hn hpn hz HGW HIN sh sc i lo hi h7 hlo K' arm cn bl su re sa hbr HbX Hre Hsa hlt1 h70 x hx1 hx2 sb off HOK okr HXT i0 i1 i2 fs35 hum35 hAs hiR hiK HAV aB cB aR cR hbl hrl HTL Q k0 k1 kR kK bx LX HBX hJ hM
          case rest =>
            as_aux_lemma =>
            obtain ⟨er, bl', su', re', sa', rfl, hbr', hbX', hre', hsa', NX⟩ := hcut
            clear LX k0 k1 kR kK
            have HbX' : Hid (∀ t ∈ bl', XT acts t) := hbX'
            have Hre' : Hid (∀ r ∈ re', Rc32 r) := hre'
            have Hsa' : Hid (∀ r ∈ sa', Rc32 r) := hsa'
            clear hbX' hre' hsa' HbX Hre Hsa
            by_cases her : er = 10
            · subst her
              refine hivePower_loss acts c pw pa pc w hn hpn hz HGW HIN HPI sh sc i lo hi h7 hlo K' hlt1 h70 x hx1 hx2 sb off HOK HXT fs35 hum35 hAs HAV HTL Q bx HBX wc bl' su' re' sa' hbr' HbX' Hre' Hsa' NX (by unfold lossCode; assumption) ?_
              show ∀ _, _
              intro l1 v6 v8 v9 v10 v11 v4 v7 v17 v18 v19 v20 v21 v22 v23 v24 v25 v26 v27 v28 v29 v139 v140 v141 v142 v143 v144 v145 v146 v147 v148 v149 v150 v151 v152 v153 v154 v155 v156 v157 v158 v159 v160 v161 v162 v163 v164 v165 v166 v167 v168 v169 v170 v171 v172 v173 v174 v175 v176 v177 v178 v179 v180 v181 v182 v183 v184 v185 v186 v187 v188 v189 v190 v191 v192 v193 v194 v195 v196 v197 v198 v199 v200 v201 v202 v203 v204 v205 v206 v207 v208 v209 v210 v211 v212 v213 v214 v215 v216 v217 v218 v219 v220 v221 v222 v223 v224 v225 v226 v227 v228 v229 v230 v231 v232 v233 v234 v235 v236 v237 v238 v239 v240 v241 v242 v243 v244 v245 v246 v247 v248 v249 v250 v251 v252 v253 v254 v255 v256 v257 v258 v259 v260 v261 v262 v263 v264 v265 v266 v267 v268 v269 v270 v271 v272 v273 v274 v275 v276 v277 v278 v279 v280 v281 v282 v283 v284 v285 v286 v287 v288 v289 v290 v291 v292 v293 v294 v295 v296 v297 v298 v299 v300 v301 v302 v303 v304 v305 v306 v307 v308 v309 v310 v311 v312 v313 v314 v315 v316 U hl1 hR
              have HE := hR
              have HEE : Hid (RndP w acts sh sc (i + 1) v6 v8 v9 v10 v11 U) := HE
              clear HE hR NX HbX' Hre' Hsa' hbr' HAV HOK
              go_wp2_with go_big_skip
              go_roundw
              case rel => exact ⟨i + 1, l1, by omega, by omega, by go_num, by omega, rfl, HEE.out⟩
              case measure => simp [intOf] <;> omega
            · as_aux_lemma =>
              obtain ⟨arm2, cn2, LX⟩ := NX.goes her
              clear NX
              have hb10 : (er == 10) = false := by simpa using her
              have HE : Hid (RndP w acts sh sc (i + 1) (.pointer (some ⟨K', 0, none⟩)) u8 u9 u10 u11 wc) := ⟨K', arm2, cn2, bl', su', re', sa', rfl, hbr', HbX'.out, Hre'.out, Hsa'.out, (LX.less (List.nil_sublist _)).wider (by omega)⟩
              clear LX
              go_wp2_with go_big_skip
              go_roundw
              case rel => exact ⟨i + 1, lo, by omega, by omega, by go_num, by omega, rfl, HE.out⟩
              case measure => simp [intOf] <;> omega
        · have hend : ¬ ((i : Int) < (acts.length : Int)) ∨ ¬ (i : Int) < 70 := by omega
          clear LX HbX Hre Hsa HPI
          rcases hend with he | he
          · go_wp2_with fail
            go_ret
            exact ⟨rfl, HB.out⟩
          · by_cases hl1 : (i : Int) < (acts.length : Int)
            · go_wp2_with fail
              go_ret
              exact ⟨rfl, HB.out⟩
            · go_wp2_with fail
              go_ret
              exact ⟨rfl, HB.out⟩
  all_goals (go_wp2_with go_big_skip; go_ret; exact ⟨rfl, HG.b⟩)
end Go.Proofs.YtlkllcnnnndllaaGreatDoor

/- PROVED: for every row of calls and every row of losses the law HivePower returns true and leaves its arguments as they were: wherever the power goes, what was sure is there, whole, and nothing that wasn't put. No condition; the tables start and roundWords lie in memory as the program's text lays them (the card ties them). -/
namespace Go.Proofs.YtlkllcnnnndllaaGreatDoor.hivePower
open Go.ChangeShapes Go.WideShapes Go.ChangeAt Go.WideMaps Go.WideElems Go.RowKit
open Go.ChangeMaps (open_string shut_string)
set_option linter.unusedVariables false

theorem door_met (os : Os) (args : Array Value) : laidMetH Tryz.prog Rows.hivePowerRow.laid ((World.doorLaid Tryz.prog 400 os).forCall (fun _ _ => 0) ⟨#[], args, []⟩).memory :=
  laidMetH_of_parts3 (fuel := 8) (laidMet_of_run' 8 (by kernel_rfl) (by kernel_rfl)) (by kernel_rfl) (by kernel_rfl)

theorem walk (l0 : List A5) (a0 : Option Addr) (c0 : Nat) (hn0 : l0.length ≤ maxLen) (l1 : List Int) (a1 : Option Addr) (c1 : Nat) (hn1 : l1.length ≤ maxLen) (hl1 : ∀ x ∈ l1, -9223372036854775808 ≤ x ∧ x ≤ 9223372036854775807) (w : World) (hG : GW w)
    (hv0 : AC5 w a0 l0) (hv1 : FI w a1 l1) :
    Calls Tryz.prog 3 #[.slice a0 l0.length c0, .slice a1 l1.length c1] w fun e w' => e = .returned (.bool true) ∧ Below w.heap.size w w' := by
  have hmx : maxLen ≤ 9223372036854775807 := by decide
  exact hivePower_core l0 a0 c0 l1 a1 c1 w hG hv0 (by omega) hv1 (by omega) hl1


set_option maxRecDepth 100000 in
theorem lifted (os : Os) (started : os.Started) (H : Type) (enc : TypeId × Value → H) :
    ReturnsInHanded {} Tryz.checked os 3 .any (fun w args => (Rows.hivePowerSpec.pre enc Tryz.prog Tryz.f3 [] false w args ∧ laidMetH Tryz.prog Rows.hivePowerRow.laid w) ∧ sizedMet enc Tryz.prog Tryz.f3 (OpenSpec.ofChange Rows.hivePowerSpec) false w args)
      (Rows.hivePowerSpec.post enc Tryz.prog Tryz.f3 false true false false) := by
  refine returnsInHanded_of_change_and (C := Tryz.checked) (X := fun w _ => laidMetH Tryz.prog Rows.hivePowerRow.laid w) (fun _ _ _ hh h => h.of_heap hh) own started (by kernel_rfl) Tryz.func3
    (ChangeSpec.witness_shaped (enc := enc) (C := Tryz.checked) (os := os) (X := fun w _ => laidMetH Tryz.prog Rows.hivePowerRow.laid w) false (World.doorLaid Tryz.prog 400 os) #[.slice none 0 0, .slice none 0 0] 8 rfl (World.shaped_of_RefB (by kernel_rfl) (by kernel_rfl)) (by kernel_rfl) (by kernel_rfl) (by kernel_rfl) (door_met os _)) ?_
  intro W base args ds gs before hval0 hW _ _ hL _
  have hval : ∀ (j : Nat) t v, Tryz.f3.params[j]? = some t → args[j]? = some v → Value.okWide Tryz.prog W .any base t v := hval0
  have hW' := hW
  obtain ⟨p, q, hA0, hV, rfl, hfz, hnd⟩ := hW
  have hA : DataW.TrodAll enc Tryz.prog W 0 (fun _ => true) true Tryz.f3.params.toList args.toList ds p := hA0
  rw [Tryz.params3] at hA hval
  obtain ⟨v0, vs0, d0, ds0, p0, q0, hargs, rfl, rfl, h0, r0⟩ := trodAll_cons hA
  obtain ⟨v1, vs1, d1, ds1, p1, q1, rfl, rfl, rfl, h1, r1⟩ := trodAll_cons r0
  obtain ⟨rfl, rfl, rfl⟩ := trodAll_nil r1
  obtain rfl : args = #[v0, v1] := by cases args; simp_all
  obtain ⟨rfl, rfl⟩ := trodVars_none hV
  have k0 := h0
  have k1 := h1
  have lt0 : ∀ x ∈ p0, x.block < W.heap.size := by obtain ⟨m, hm⟩ := k0; exact DataW.trod_lt m _ _ _ hm
  have lt1 : ∀ x ∈ p1, x.block < W.heap.size := by obtain ⟨m, hm⟩ := k1; exact DataW.trod_lt m _ _ _ hm
  obtain ⟨a0, c0, l0, rfl, hv0, hn0⟩ := open_acts5 (hval 0 22 v0 rfl rfl) h0
  obtain ⟨a1, c1, l1, rfl, hv1, hn1, hl1⟩ := open_ints (hval 1 23 v1 rfl rfl) h1
  clear hA0 hval0
  refine (walk l0 a0 c0 hn0 l1 a1 c1 hn1 hl1 W (of_laid hL) hv0 hv1).mono fun e W' ⟨he, bel⟩ => ?_
  subst he
  exact ⟨_, rfl, _, _, _, [], _, [], hW', trodAll_mk1 (shut_bool Tryz.underlying4 _), (trodAll_cons_mk (Below.trod laidOut (by kernel_rfl) (of_decide_eq_true (by kernel_rfl)) k0 bel lt0) (trodAll_cons_mk (Below.trod laidOut (by kernel_rfl) (of_decide_eq_true (by kernel_rfl)) k1 bel lt1) trodAll_mk0)), rfl, bel.frame _, fun h => by cases h⟩

theorem over : Rows.HivePowerSaid :=
  OpenClaim.holds_of_wide 3 Tryz.f3 rfl rfl rfl rfl rfl rfl rfl ⟨rfl, rfl, rfl, rfl, rfl⟩ rfl rfl rfl rfl rfl (by kernel_rfl) Tryz.func3 (by kernel_rfl)
    (of_decide_eq_true (by kernel_rfl)) (by unfold Func.isWrapper; first | (rw [if_pos (by decide +kernel)]; kernel_rfl) | (rw [if_neg (by decide +kernel)]; exact ⟨rfl, rfl⟩))
    (fun os started H enc _ => lifted os started H enc)

theorem proved : Rows.HivePowerCardSaid :=
  Claim7.holds_tied_plain_at .later [] [.data, .data] true _ false
    over (fun _ h => by cases h) (by kernel_rfl) (fun _ h => by cases h) hivePower_row_tie rfl ⟨rfl, rfl⟩ (by kernel_rfl) rfl
    (fun f fn hf hfn => by
      obtain rfl : f = 3 := Option.some.inj ((show Tryz.prog.funcNamed "apiary/apiarylaw05.HivePower" = some 3 by kernel_rfl).symm.trans hf) |>.symm
      obtain rfl : fn = Tryz.f3 := (Option.some.inj (Tryz.func3.symm.trans hfn)).symm
      exact ⟨by kernel_rfl, fun j t ht => by
        rw [Tryz.params3] at ht
        rcases j with _ | _ | j
        · obtain rfl : t = 22 := by simpa using ht.symm
          kernel_rfl
        · obtain rfl : t = 23 := by simpa using ht.symm
          kernel_rfl
        · simp at ht⟩)
    (by kernel_rfl)
end Go.Proofs.YtlkllcnnnndllaaGreatDoor.hivePower
