/- The texts O3 O4 O5 O6 as one. -/
import Derived.Test.YtjbffhdccgmfpaaGreatDoorOA
import Derived.Test.YtjbffhdccgmfpaaGreatDoorZB
/- The kitchen in memory: what lacks, inputs, lay answer. -/
namespace Go.Proofs.YtjbffhdccgmfpaaGreatDoor
open Go.RowKit Go.Maps
set_option linter.unusedVariables false
set_option linter.unusedSimpArgs false

theorem undSo : ∃ fs, Tryz.prog.underlying 45 = some (.struct fs) := ⟨_, Tryz.underlying45⟩
theorem infoSo : (Tryz.prog.info? 45).map (·.size) = some 2 := by kernel_rfl
/-- where a kitchen's build lies -/
structure GP where
  sa : Option Addr
  sc : Nat
  aa : Option Addr
  ac : Nat
def kv (g : RC.Gr) (p : GP) (b : Nat) : Array Value := #[.slice p.sa g.1.length p.sc, .slice p.aa g.2.length p.ac, .map (some b)]
/-- a kitchen in block q, its results in block b; what lay in w lies there still -/
structure KT (w : World) (q b : Nat) (g : RC.Gr) (p : GP) (m : O.Mp) (W : World) : Prop where
  row : W.heap[q]? = some (.cells (kv g p b) 56 (0, 0))
  mp : KM W b m
  q0 : w.heap.size ≤ q
  b0 : w.heap.size ≤ b
  bl : Bl w W
theorem KT.grow {w W W' : World} {q b : Nat} {g : RC.Gr} {p : GP} {m : O.Mp} (x : KT w q b g p m W) (hb : Bl W W') : KT w q b g p m W' :=
  ⟨by rw [Below.block hb _ (TA.lt_heap x.row)]; exact x.row, x.mp.bl hb, x.q0, x.b0, x.bl.step hb⟩
theorem KT.put {w W : World} {q b : Nat} {g : RC.Gr} {p : GP} {m : O.Mp} (x : KT w q b g p m W) (s : List UInt8) (hs : s.length ≤ maxLen) (r : O.Re) (hl : m.length < 1000000) :
    ∃ W', (Instr.mapUpdate tMp (.map (some b)) (.string (M.bs s)) (.agg (resV r))).run Tryz.prog W = .ok () W' ∧ KT w q b g p ((s, r) :: m) W' := by
  obtain ⟨W', h1, h2, h3⟩ := x.mp.put s hs r hl
  refine ⟨W', h1, ?_, h2, x.q0, x.b0, turned_bl x.bl h3 x.b0⟩
  have hne : q ≠ b := fun e => by
    obtain ⟨es, c, _, _, h4, _⟩ := h3
    have := x.row
    rw [e, h4] at this; cases this
  rw [h3.grown.block q (TA.lt_heap x.row) (fun e => hne (Option.some.inj e))]; exact x.row
theorem KT.c0 {w W : World} {q b : Nat} {g : RC.Gr} {p : GP} {m : O.Mp} (x : KT w q b g p m W) : W.cell? ⟨q, 0, none⟩ = some (.slice p.sa g.1.length p.sc) := by rw [Lib.cell_of_heap x.row]; rfl
theorem KT.c1 {w W : World} {q b : Nat} {g : RC.Gr} {p : GP} {m : O.Mp} (x : KT w q b g p m W) : W.cell? ⟨q, 1, none⟩ = some (.slice p.aa g.2.length p.ac) := by rw [Lib.cell_of_heap x.row]; rfl
theorem KT.c2 {w W : World} {q b : Nat} {g : RC.Gr} {p : GP} {m : O.Mp} (x : KT w q b g p m W) : W.cell? ⟨q, 2, none⟩ = some (.map (some b)) := by rw [Lib.cell_of_heap x.row]; rfl

theorem KT.drew1 {w W : World} {q b : Nat} {g : RC.Gr} {p : GP} {m : O.Mp} (x : KT w q b g p m W) : KT w q b g p m W.drew := x.grow ((Bl.refl W).drewN 1)
theorem KT.drew {w W : World} {q b : Nat} {g : RC.Gr} {p : GP} {m : O.Mp} (x : KT w q b g p m W) (n : Nat) : KT w q b g p m (W.drewN n) := x.grow ((Bl.refl W).drewN n)
set_option maxRecDepth 8000 in
theorem lacks_x {w W : World} {q b : Nat} {g : RC.Gr} {p : GP} {m : O.Mp} (x : KT w q b g p m W) (s : List UInt8) (hs : s.length ≤ maxLen) :
    Calls Tryz.prog 24 #[.pointer (some ⟨q, 0, none⟩), .string (M.bs s)] W fun e w' => e = .returned (.bool (O.lacks m s)) ∧ Bl W w' := by
  have x1 := x.grow ((Bl.refl W).alloc (.cells #[.int .i64 0, .string ⟨#[]⟩] 47))
  have k2 := x.c2
  have k2' := x1.c2
  have hlk := x1.mp.look s hs
  have hlk0 := x.mp.look s hs
  have HL : Hid (O.lacks m s = !(O.get m s).isSome) := rfl
  generalize (O.get m s).isSome = y at *
  obtain ⟨⟨c, t⟩, hgt⟩ : ∃ r, O.gt m s = r := ⟨_, rfl⟩
  rw [hgt] at hlk hlk0
  unfold resV at hlk hlk0
  simp only at hlk hlk0
  clear x x1 hgt
  go_enter Tryz.func24, Tryz.ntmps24
  go_wp2_with fail
  go_ret
  exact ⟨by rw [HL.out]; rfl, (Bl.refl W).alloc _⟩
set_option maxRecDepth 8000 in
set_option maxHeartbeats 2000000 in
theorem lay_x {w W : World} {q b : Nat} {g : RC.Gr} {p : GP} (x : KT w q b g p [] W) (l : List O.So) (a : Option Addr) (c : Nat) (hv : RS lyS w a l) (hl : l.length ≤ 1000) (hok : ∀ s ∈ l, s.1.length ≤ maxLen) :
    Calls Tryz.prog 22 #[.pointer (some ⟨q, 0, none⟩), .slice a l.length c] W fun e w' => e = .returned (.bool (decide ((O.nms l).Nodup))) ∧ KT w q b g p (O.srcM l) w' := by
  have HX : Hid (KT w q b g p [] W) := x
  have HV : Hid (RS lyS w a l) := hv
  have HO : Hid (∀ s ∈ l, s.1.length ≤ maxLen) := hok
  obtain ⟨fs, hum⟩ := undSo
  clear x hv hok
  go_enter Tryz.func22, Tryz.ntmps22
  go_wp2_with fail
  go_loopw [6, 9] (fun u6 u9 wr => ∃ k : Nat, k ≤ l.length ∧ u9 = .int .i64 k ∧ KT w q b g p (O.srcM (l.take k)) wr) (fun _ u9 _ => l.length - (intOf u9).toNat)
  case atStart => exact ⟨0, Nat.zero_le _, rfl, HX.out⟩
  case round =>
    obtain ⟨k, hk, rfl, hx⟩ := hrel
    have HXR : Hid (KT w q b g p (O.srcM (l.take k)) wr) := hx
    clear hx HX
    by_cases hlt : k < l.length
    · obtain ⟨r, hr⟩ : ∃ r, l[k]? = some r := ⟨l[k], List.getElem?_eq_getElem hlt⟩
      obtain ⟨b2, off, rfl, hb, hrg⟩ := HV.out.bl HXR.out.bl k r hr
      have HN : Hid (O.srcM (l.take (k + 1)) = (r.1, ((0 : Int), r.2)) :: O.srcM (l.take k)) := O.srcM_take hr
      have hml : (O.srcM (l.take k)).length < 1000000 := by rw [O.srcM_len, List.length_take]; omega
      have hn1 := HO.out r (List.mem_of_getElem? hr)
      obtain ⟨rn, rb⟩ := r
      have HR : Hid (wr.rangeAt b2 (off + k * 2) [.string (M.bs rn), .string (M.bs rb)]) := hrg
      have x1 := HXR.out.grow ((Bl.refl wr).alloc (.cells #[.string (M.bs rn), .string (M.bs rb)] 45))
      have k2 := x1.c2
      obtain ⟨W', hrun, hx'⟩ := x1.drew1.put rn hn1 (0, rb) hml
      have HX' : Hid (KT w q b g p ((rn, ((0 : Int), rb)) :: O.srcM (l.take k)) W') := hx'
      unfold resV at hrun
      simp only at hrun
      clear hr hrg HV HO hx' x1
      go_wp2_with (refine wpList_load_mid rfl 45 _ rfl b2 (off + k * 2) rfl [.string (M.bs rn), .string (M.bs rb)] _ HR.out hum rfl infoSo ?_)
      go_region
      go_wp2_with fail
      go_roundw
      case rel => exact ⟨k + 1, by omega, by go_num, by rw [HN.out]; exact HX'.out⟩
      case measure => simp [intOf]; omega
    · obtain rfl : k = l.length := by omega
      have hx2 := HXR.out
      rw [List.take_length] at hx2
      have k2 := hx2.c2
      have hln := fun ty => hx2.mp.len ty
      have HD : Hid (decide ((O.nms l).Nodup) = decide (O.cnt (O.srcM l) = l.length)) := by show _ = _; rw [decide_eq_decide]; exact (O.srcM_nodup l).symm
      have hcl := O.cnt_le (O.srcM l)
      rw [O.srcM_len] at hcl
      have HX2 : Hid (KT w q b g p (O.srcM l) wr) := hx2
      generalize O.cnt (O.srcM l) = C at *
      clear hx2 HXR
      go_wp2_with fail
      go_ret
      refine ⟨?_, HX2.out⟩
      rw [HD.out]
      by_cases e : C = l.length
      · subst e; simp
      · have e2 : ((C : Int) == (l.length : Int)) = false := by simp; omega
        simp [e]; omega
theorem ins_take {m : O.Mp} {xs : List RC.Bs} {k : Nat} {s : List UInt8} (h : xs[k]? = some s) : O.ins m (xs.take (k + 1)) = O.ins m (xs.take k) ++ [O.gt m s] := by
  unfold O.ins
  rw [List.take_add_one, h]; simp
theorem infoR3 : (Tryz.prog.info? 47).map (fun i => (i.zero, i.size, i.bytes)) = some (some (.agg #[.int .i64 0, .string ⟨#[]⟩]), 2, 24) := by kernel_rfl
theorem undRs : Tryz.prog.underlying 60 = some (.slice 47) := Tryz.underlying60
set_option maxRecDepth 8000 in
set_option maxHeartbeats 2000000 in
theorem inputs_x {w W : World} {q b : Nat} {g : RC.Gr} {p : GP} {m : O.Mp} (x : KT w q b g p m W) (t : RC.Ac) (y : Option Addr) (c : Nat) (hv : Strs w.heap.size w (.slice y t.2.1.length c) t.2.1) (hl : t.2.1.length ≤ 1000) (hok : ∀ s ∈ t.2.1, s.length ≤ maxLen) :
    Calls Tryz.prog 34 #[.pointer (some ⟨q, 0, none⟩), .agg #[.string (M.bs t.1), .slice y t.2.1.length c, .string (M.bs t.2.2)]] W fun e w' => ∃ a' c', e = .returned (.slice a' t.2.1.length c') ∧ RS lyR w' a' (O.ins m t.2.1) ∧ Bl W w' := by
  have HX : Hid (KT w q b g p m W) := x
  have HV : Hid (TA.TS w y t.2.1) := TA.ts_of hv
  have HO : Hid (∀ s ∈ t.2.1, s.length ≤ maxLen) := hok
  obtain ⟨tn, ti, tc⟩ := t
  simp only at *
  clear x hv hok
  have HB1 : Hid (Bl W (W.alloc (.cells #[.string (M.bs tn), .slice y ti.length c, .string (M.bs tc)] 43))) := (Bl.refl W).alloc _
  go_enter Tryz.func34, Tryz.ntmps34
  go_wp2_with fail
  go_loopw [5, 7, 11] (fun u5 u7 u11 wr => ∃ k : Nat, k ≤ ti.length ∧ u11 = .int .i64 k ∧ (∃ a5 c5, u5 = .slice a5 k c5) ∧ wr.ownsRow W.heap.size 47 2 u5 k (flG lyR (O.ins m (ti.take k))) ∧ Bl W wr) (fun _ _ u11 _ => ti.length - (intOf u11).toNat)
  case atStart => exact ⟨0, Nat.zero_le _, rfl, ⟨_, _, rfl⟩, World.ownsRow_nil _ _ _ _, HB1.out⟩
  case round =>
    obtain ⟨k, hk, rfl, ⟨a5, c5, rfl⟩, hown, hbl⟩ := hrel
    have HOW : Hid (wr.ownsRow W.heap.size 47 2 (.slice a5 k c5) k (flG lyR (O.ins m (ti.take k)))) := hown
    have HBR : Hid (Bl W wr) := hbl
    clear hown hbl HB1
    by_cases hlt : k < ti.length
    · obtain ⟨s, hs⟩ : ∃ s, ti[k]? = some s := ⟨ti[k], List.getElem?_eq_getElem hlt⟩
      obtain ⟨b2, off, rfl, hb, hcell⟩ := (HV.out.below HX.out.bl).below HBR.out k s hs
      have HKL : Hid (k = (O.ins m (ti.take k)).length) := by show _ = _; simp [O.ins]; omega
      have HN : Hid (O.ins m (ti.take (k + 1)) = O.ins m (ti.take k) ++ [O.gt m s]) := ins_take hs
      have x1 := HX.out.grow HBR.out
      have k2 := x1.c2
      have hlk := x1.mp.look0 s (HO.out s (List.mem_of_getElem? hs))
      obtain ⟨⟨rc, rb⟩, hgt⟩ : ∃ r, O.gt m s = r := ⟨_, rfl⟩
      rw [hgt] at hlk HN
      unfold resV at hlk
      simp only at hlk
      generalize O.ins m (ti.take k) = KS at *
      clear hs hgt HV HO HX x1
      go_wp2_with (refine wl_app1G lyR (w := W) (W := wr) 47 60 (.agg #[.int .i64 0, .string ⟨#[]⟩]) 24 undRs infoR3 rfl (by omega) rfl _ _ rfl k KS HKL.out (rc, rb) _ rfl HBR.out HOW.out rfl (by omega) ?_ _ rfl rfl; intro a' c' w2 h2 hb2 _)
      go_roundw
      case rel => exact ⟨k + 1, by omega, by go_num, ⟨_, _, rfl⟩, by rw [HN.out]; exact h2, hb2⟩
      case measure => simp [intOf]; omega
    · obtain rfl : k = ti.length := by omega
      have HRS : Hid (RS lyR wr a5 (O.ins m ti)) := by
        have h := HOW.out
        rw [List.take_length] at h
        have h' : wr.ownsRow W.heap.size 47 lyR.k (.slice a5 ti.length c5) (O.ins m ti).length (flG lyR (O.ins m ti)) := by rw [show (O.ins m ti).length = ti.length by simp [O.ins]]; exact h
        obtain ⟨x, y, e, hrs⟩ := owns_rs lyR h'
        simp only [Value.slice.injEq] at e
        rw [e.1]; exact hrs
      go_wp2_with fail
      go_ret
      exact ⟨_, _, rfl, HRS.out, HBR.out⟩
end Go.Proofs.YtjbffhdccgmfpaaGreatDoor

/- slices.ContainsFunc at the kitchen's lacks and at isWide. -/
namespace Go.Proofs.YtjbffhdccgmfpaaGreatDoor
open Go.RowKit
set_option linter.unusedVariables false
set_option linter.unusedSimpArgs false

set_option maxRecDepth 8000 in
set_option maxHeartbeats 2000000 in
theorem IndexS_b (f : FuncId) (r : Value) (p : List UInt8 → Bool) (l : List (List UInt8)) (a : Option Addr) (c : Nat) {w W : World} (HB : Bl w W)
    (hent : ∀ args w, (callFunc f args).run Tryz.prog w = .ok (.enter f args) w) (hv : TA.TS W a l) (hn : l.length ≤ maxLen)
    (hf : ∀ (W' : World) (t : List UInt8), t ∈ l → Bl W W' → Calls Tryz.prog f #[r, .string (M.bs t)] W' fun e w' => e = .returned (.bool (p t)) ∧ Bl W' w') :
    Calls Tryz.prog 40 #[.slice a l.length c, .func (.func f) #[r] #[]] W fun e w' => e = .returned (.int .i64 (idxI p l)) ∧ Bl w w' := by
  have HV : Hid (TA.TS W a l) := hv
  have HF0 : Hid (∀ (W' : World) (t : List UInt8), t ∈ l → Bl W W' → Calls Tryz.prog f #[r, .string (M.bs t)] W' fun e w' => e = .returned (.bool (p t)) ∧ Bl W' w') := hf
  have HB0 : Hid (Bl w W) := HB
  clear hv hf HB
  unfold maxLen at hn
  go_enter Tryz.func40, Tryz.ntmps40
  go_wp2_with fail
  go_loopw [5, 8] (fun u5 u8 wr => ∃ k : Nat, k ≤ l.length ∧ u8 = .int .i64 k ∧ (∀ i e, i < k → l[i]? = some e → p e = false) ∧ Bl W wr) (fun _ u8 _ => l.length - (intOf u8).toNat)
  case atStart => exact ⟨0, Nat.zero_le _, rfl, fun i e hi => by omega, Bl.refl W⟩
  case round =>
    obtain ⟨k, hk, rfl, hpre, hbl⟩ := hrel
    have HP : Hid (∀ i e, i < k → l[i]? = some e → p e = false) := hpre
    have HBR : Hid (Bl W wr) := hbl
    clear hpre hbl
    by_cases hlt : k < l.length
    · obtain ⟨t, ht⟩ : ∃ t, l[k]? = some t := ⟨l[k], List.getElem?_eq_getElem hlt⟩
      obtain ⟨b, off, rfl, hb, hc⟩ := HV.out.below HBR.out k t ht
      obtain ⟨q, hq⟩ : ∃ q, p t = q := ⟨_, rfl⟩
      have CN : Hid (Calls Tryz.prog f #[r, .string (M.bs t)] wr fun e w' => e = .returned (.bool q) ∧ Bl W w') := by
        show Calls _ _ _ _ _
        rw [← hq]
        refine (HF0.out wr t (List.mem_of_getElem? ht) HBR.out).mono ?_
        rintro e w' ⟨rfl, hb'⟩
        exact ⟨rfl, HBR.out.step hb'⟩
      have HF : Hid (q = true → idxI p l = (k : Int)) := fun h => idxI_of HP.out ht (by rw [hq]; exact h)
      have HE : Hid (q = false → ∀ i e, i < k + 1 → l[i]? = some e → p e = false) := fun h i e hi he => by
        rcases (by omega : i < k ∨ i = k) with h' | rfl
        · exact HP.out i e h' he
        · rw [ht] at he; cases he; rw [hq]; exact h
      clear ht hq HF0 HV
      cases q
      · go_wp2_with (go_at_fn f; refine CN.out.mono ?_; rintro e w' ⟨rfl, hy⟩)
        go_roundw
        case rel => exact ⟨k + 1, by omega, by go_num, HE.out trivial, hy⟩
        case measure => simp [intOf]; omega
      · go_wp2_with (go_at_fn f; refine CN.out.mono ?_; rintro e w' ⟨rfl, hy⟩)
        go_ret
        exact ⟨by rw [HF.out trivial]; rfl, HB0.out.step hy⟩
    · obtain rfl : k = l.length := by omega
      have HF : Hid (idxI p l = -1) := idxI_none HP.out
      go_wp2_with fail
      go_ret
      exact ⟨by rw [HF.out]; rfl, HB0.out.step HBR.out⟩
theorem ContainsS_b (f : FuncId) (r : Value) (p : List UInt8 → Bool) (l : List (List UInt8)) (a : Option Addr) (c : Nat) {w W : World}
    (CI : Calls Tryz.prog 40 #[.slice a l.length c, .func (.func f) #[r] #[]] W fun e w' => e = .returned (.int .i64 (idxI p l)) ∧ Bl w w') :
    Calls Tryz.prog 23 #[.slice a l.length c, .func (.func f) #[r] #[]] W fun e w' => e = .returned (.bool (l.any p)) ∧ Bl w w' := by
  have HA : Hid (decide (0 ≤ idxI p l) = l.any p) := idxI_any _ l
  generalize idxI p l = i at *
  have CX : Hid (Calls Tryz.prog 40 #[.slice a l.length c, .func (.func f) #[r] #[]] W fun e w' => e = .returned (.int .i64 i) ∧ Bl w w') := CI
  clear CI
  go_enter Tryz.func23, Tryz.ntmps23
  go_wp2_with (go_at_call 40; refine CX.out.mono ?_; rintro e w' ⟨rfl, HB⟩)
  go_ret
  exact ⟨by rw [← HA.out]; rfl, HB⟩
theorem containsLacks {w W : World} {q b : Nat} {g : RC.Gr} {p : GP} {m : O.Mp} (x : KT w q b g p m W) (l : List (List UInt8)) (a : Option Addr) (c : Nat) (hv : TA.TS w a l) (hn : l.length ≤ maxLen) (hl : ∀ s ∈ l, s.length ≤ maxLen) :
    Calls Tryz.prog 23 #[.slice a l.length c, .func (.func 24) #[.pointer (some ⟨q, 0, none⟩)] #[]] W fun e w' => e = .returned (.bool (l.any (O.lacks m))) ∧ Bl W w' :=
  ContainsS_b _ _ (O.lacks m) l a c (IndexS_b _ _ (O.lacks m) l a c (Bl.refl W) (enters_of Tryz.func24 (by kernel_rfl) rfl) (hv.below x.bl) hn (fun W' t ht hb => lacks_x (x.grow hb) t (hl t ht)))

theorem isWide_at (s : O.So) (hs : s.2.length ≤ maxLen) (W : World) :
    Calls Tryz.prog 26 #[.agg #[.string (M.bs s.1), .string (M.bs s.2)]] W fun e w' => e = .returned (.bool (O.isWd s)) ∧ Bl W w' := by
  obtain ⟨n, t⟩ := s
  have hz := M.bs_size t
  unfold maxLen at hs
  simp only at *
  have HB : Hid (O.isWd (n, t) = decide (512 < t.length)) := rfl
  go_enter Tryz.func26, Tryz.ntmps26
  go_wp2_with fail
  go_ret
  refine ⟨?_, (Bl.refl W).alloc _⟩
  have e : decide ((512 : Int) < (t.length : Int)) = decide (512 < t.length) := by rw [decide_eq_decide]; omega
  rw [HB.out, ← e]; rfl
set_option maxRecDepth 8000 in
set_option maxHeartbeats 2000000 in
theorem IndexSo_x (p : O.So → Bool) (f : FuncId) (l : List O.So) (a : Option Addr) (c : Nat) {W : World}
    (hent : ∀ args w, (callFunc f args).run Tryz.prog w = .ok (.enter f args) w) (hv : RS lyS W a l) (hn : l.length ≤ maxLen)
    (hf : ∀ (W' : World) (t : O.So), t ∈ l → Bl W W' → Calls Tryz.prog f #[.agg #[.string (M.bs t.1), .string (M.bs t.2)]] W' fun e w' => e = .returned (.bool (p t)) ∧ Bl W' w') :
    Calls Tryz.prog 41 #[.slice a l.length c, .func (.func f) #[] #[]] W fun e w' => e = .returned (.int .i64 (idxI p l)) ∧ Bl W w' := by
  have HV : Hid (RS lyS W a l) := hv
  have HF0 : Hid (∀ (W' : World) (t : O.So), t ∈ l → Bl W W' → Calls Tryz.prog f #[.agg #[.string (M.bs t.1), .string (M.bs t.2)]] W' fun e w' => e = .returned (.bool (p t)) ∧ Bl W' w') := hf
  obtain ⟨fs, hum⟩ := undSo
  clear hv hf
  unfold maxLen at hn
  go_enter Tryz.func41, Tryz.ntmps41
  go_wp2_with fail
  go_loopw [5, 8] (fun u5 u8 wr => ∃ k : Nat, k ≤ l.length ∧ u8 = .int .i64 k ∧ (∀ i e, i < k → l[i]? = some e → p e = false) ∧ Bl W wr) (fun _ u8 _ => l.length - (intOf u8).toNat)
  case atStart => exact ⟨0, Nat.zero_le _, rfl, fun i e hi => by omega, Bl.refl W⟩
  case round =>
    obtain ⟨k, hk, rfl, hpre, hbl⟩ := hrel
    have HP : Hid (∀ i e, i < k → l[i]? = some e → p e = false) := hpre
    have HBR : Hid (Bl W wr) := hbl
    clear hpre hbl
    by_cases hlt : k < l.length
    · obtain ⟨t, ht⟩ : ∃ t, l[k]? = some t := ⟨l[k], List.getElem?_eq_getElem hlt⟩
      obtain ⟨b, off, rfl, hb, hc⟩ := HV.out.bl HBR.out k t ht
      have HR : Hid (wr.rangeAt b (off + k * 2) [.string (M.bs t.1), .string (M.bs t.2)]) := hc
      obtain ⟨q, hq⟩ : ∃ q, p t = q := ⟨_, rfl⟩
      have CN : Hid (Calls Tryz.prog f #[.agg #[.string (M.bs t.1), .string (M.bs t.2)]] wr fun e w' => e = .returned (.bool q) ∧ Bl W w') := by
        show Calls _ _ _ _ _
        rw [← hq]
        refine (HF0.out wr t (List.mem_of_getElem? ht) HBR.out).mono ?_
        rintro e w' ⟨rfl, hb'⟩
        exact ⟨rfl, HBR.out.step hb'⟩
      have HF : Hid (q = true → idxI p l = (k : Int)) := fun h => idxI_of HP.out ht (by rw [hq]; exact h)
      have HE : Hid (q = false → ∀ i e, i < k + 1 → l[i]? = some e → p e = false) := fun h i e hi he => by
        rcases (by omega : i < k ∨ i = k) with h' | rfl
        · exact HP.out i e h' he
        · rw [ht] at he; cases he; rw [hq]; exact h
      clear ht hq hc HF0 HV
      cases q
      · go_wp2_with (first
          | (refine wpList_load_mid rfl 45 _ rfl b (off + k * 2) rfl [.string (M.bs t.1), .string (M.bs t.2)] _ HR.out hum rfl infoSo ?_)
          | (go_at_fn f; refine CN.out.mono ?_; rintro e w' ⟨rfl, hy⟩))
        go_roundw
        case rel => exact ⟨k + 1, by omega, by go_num, HE.out trivial, hy⟩
        case measure => simp [intOf]; omega
      · go_wp2_with (first
          | (refine wpList_load_mid rfl 45 _ rfl b (off + k * 2) rfl [.string (M.bs t.1), .string (M.bs t.2)] _ HR.out hum rfl infoSo ?_)
          | (go_at_fn f; refine CN.out.mono ?_; rintro e w' ⟨rfl, hy⟩))
        go_ret
        exact ⟨by rw [HF.out trivial]; rfl, hy⟩
    · obtain rfl : k = l.length := by omega
      have HF : Hid (idxI p l = -1) := idxI_none HP.out
      go_wp2_with fail
      go_ret
      exact ⟨by rw [HF.out]; rfl, HBR.out⟩
theorem ContainsSo_x (f : FuncId) (p : O.So → Bool) (l : List O.So) (a : Option Addr) (c : Nat) {w W : World}
    (CI : Calls Tryz.prog 41 #[.slice a l.length c, .func (.func f) #[] #[]] W fun e w' => e = .returned (.int .i64 (idxI p l)) ∧ Bl w w') :
    Calls Tryz.prog 25 #[.slice a l.length c, .func (.func f) #[] #[]] W fun e w' => e = .returned (.bool (l.any p)) ∧ Bl w w' := by
  have HA : Hid (decide (0 ≤ idxI p l) = l.any p) := idxI_any _ l
  generalize idxI p l = i at *
  have CX : Hid (Calls Tryz.prog 41 #[.slice a l.length c, .func (.func f) #[] #[]] W fun e w' => e = .returned (.int .i64 i) ∧ Bl w w') := CI
  clear CI
  go_enter Tryz.func25, Tryz.ntmps25
  go_wp2_with (go_at_call 41; refine CX.out.mono ?_; rintro e w' ⟨rfl, HB⟩)
  go_ret
  exact ⟨by rw [← HA.out]; rfl, HB⟩
theorem containsWide (l : List O.So) (a : Option Addr) (c : Nat) {W : World} (hv : RS lyS W a l) (hn : l.length ≤ maxLen) (hl : ∀ s ∈ l, s.2.length ≤ maxLen) :
    Calls Tryz.prog 25 #[.slice a l.length c, .func (.func 26) #[] #[]] W fun e w' => e = .returned (.bool (l.any O.isWd)) ∧ Bl W w' :=
  ContainsSo_x _ O.isWd l a c (IndexSo_x O.isWd _ l a c (enters_of Tryz.func26 (by kernel_rfl) rfl) hv hn (fun W' t ht _ => isWide_at t (hl t ht) W'))
end Go.Proofs.YtjbffhdccgmfpaaGreatDoor

/- The kitchen's key. -/
namespace Go.Proofs.YtjbffhdccgmfpaaGreatDoor
open Go.RowKit Go.Maps
set_option linter.unusedVariables false
set_option linter.unusedSimpArgs false
attribute [local go_sem ↓] zero27

theorem stepo_store_row {P : Program} {ops : Array Oper} {o : Oper} {a : Act} {w : World} {K : Act → World → Prop} {Q : Exit → Act → World → Prop} {E : Prop} (hgd : o.guard = none) (ty : TypeId) (x y : Operand) (ho : o.op = .store ty x y)
    (g : Nat) (cells : Array Value) (hx : a.eval x = .pointer (some ⟨g, 0, none⟩)) (hy : a.eval y = .agg cells)
    (t : TypeId) (old : Array Value) (hg : w.heap[g]? = some (.cells old t (0, 0))) (hi : (P.info? ty).map (·.size) = some cells.size)
    (hold : old.size = cells.size) (h1 : cells.all (·.oneCell') = true)
    (h : K (a.put o.dst undef) (w.setRow g cells)) : if Region.wanted o (yielded ops a.tmps) = true then Oper.wp P o a w K Q else E := by
  have hw : Region.wanted o (yielded ops a.tmps) = true := by simp [Region.wanted, hgd]
  rw [if_pos hw]
  exact wp_store_row ty x y ho g cells hx hy t old hg hi hold h1 h
theorem fieldC (rc : Int) (rb : ByteArray) (W : World) : (Instr.field 47 (.agg #[.int .i64 rc, .string rb]) 0).run Tryz.prog W = .ok (.int .i64 rc) W := by kernel_rfl
set_option maxRecDepth 8000 in
set_option maxHeartbeats 2000000 in
theorem key_x {w W : World} {q b : Nat} {g : RC.Gr} {p : GP} {m : O.Mp} (x : KT w q b g p m W) (hG : GW w) (t : RC.Ac) (y : Option Addr) (c : Nat) (hv : Strs w.heap.size w (.slice y t.2.1.length c) t.2.1) (hl : t.2.1.length ≤ 1000) (hok : ∀ s ∈ t.2.1, s.length ≤ maxLen) (hn : t.1.length ≤ maxLen) (hc : t.2.2.length ≤ 1000000) (hre : ∀ s, ReOk (O.gt m s)) :
    Calls Tryz.prog 18 #[.pointer (some ⟨q, 0, none⟩), .agg #[.string (M.bs t.1), .slice y t.2.1.length c, .string (M.bs t.2.2)]] W fun e w' => e = .returned (.agg (dg (O.keyA m t))) ∧ Bl W w' := by
  obtain ⟨tn, ti, tc⟩ := t
  simp only at *
  have x1 := x.grow (((Bl.refl W).alloc (.cells #[.string (M.bs tn), .slice y ti.length c, .string (M.bs tc)] 43)).alloc (.cells zero32 51))
  have k2 := x1.c2
  have hlk := x1.drew1.mp.look0 tn hn
  have HBV : Hid (Bl W ((W.alloc (.cells #[.string (M.bs tn), .slice y ti.length c, .string (M.bs tc)] 43)).alloc (.cells zero32 51))) := ((Bl.refl W).alloc _).alloc _
  have HRW : Hid (((W.alloc (.cells #[.string (M.bs tn), .slice y ti.length c, .string (M.bs tc)] 43)).alloc (.cells zero32 51)).heap[W.heap.size + 1]? = some (.cells zero32 51 (0, 0))) := by
    have := heap_alloc_new (W.alloc (.cells #[.string (M.bs tn), .slice y ti.length c, .string (M.bs tc)] 43)) (.cells zero32 51)
    rw [show (W.alloc (.cells #[.string (M.bs tn), .slice y ti.length c, .string (M.bs tc)] 43)).heap.size = W.heap.size + 1 by simp] at this
    exact this
  have HVC : Hid (∀ U, Bl ((W.alloc (.cells #[.string (M.bs tn), .slice y ti.length c, .string (M.bs tc)] 43)).alloc (.cells zero32 51)) U → U.cell? ⟨W.heap.size, 0, none⟩ = some (.string (M.bs tn)) ∧ U.cell? ⟨W.heap.size, 1, none⟩ = some (.slice y ti.length c) ∧ U.cell? ⟨W.heap.size, 2, none⟩ = some (.string (M.bs tc)) ∧ U.heap[W.heap.size + 1]? = some (.cells zero32 51 (0, 0))) := fun U hU => by
    have h0 : ((W.alloc (.cells #[.string (M.bs tn), .slice y ti.length c, .string (M.bs tc)] 43)).alloc (.cells zero32 51)).heap[W.heap.size]? = some (.cells #[.string (M.bs tn), .slice y ti.length c, .string (M.bs tc)] 43 (0, 0)) := by
      rw [Below.block ((Bl.refl (W.alloc (.cells #[.string (M.bs tn), .slice y ti.length c, .string (M.bs tc)] 43))).alloc _) _ (by simp)]; exact heap_alloc_new _ _
    have e := Below.block hU W.heap.size (TA.lt_heap h0)
    rw [h0] at e
    exact ⟨by rw [Lib.cell_of_heap e]; rfl, by rw [Lib.cell_of_heap e]; rfl, by rw [Lib.cell_of_heap e]; rfl, by rw [Below.block hU _ (TA.lt_heap HRW.out)]; exact HRW.out⟩
  obtain ⟨c0, c1, c2, _⟩ := HVC.out _ (Bl.refl _)
  obtain ⟨⟨rc, rb⟩, hgt⟩ : ∃ r, O.gt m tn = r := ⟨_, rfl⟩
  rw [hgt] at hlk
  unfold resV at hlk
  simp only at hlk
  have hfd := fieldC rc (M.bs rb)
  by_cases h34 : rc = 34
  · have e : O.keyA m (tn, ti, tc) = O.zd := by unfold O.keyA; simp only; rw [hgt, if_pos h34]
    rw [e]
    subst h34
    have hzl : O.zd.length = 32 := by simp [O.zd]
    have hzd : dg O.zd = zero32 := by unfold dg O.zd zero32; rw [List.map_replicate]; rfl
    rw [hzd]
    have hz := zero32_size
    have HRD : Hid (((W.alloc (.cells #[.string (M.bs tn), .slice y ti.length c, .string (M.bs tc)] 43)).alloc (.cells zero32 51)).drew.heap[W.heap.size + 1]? = some (.cells zero32 51 (0, 0))) := HRW.out
    have HZ1 : Hid (zero32.all (·.oneCell') = true) := by have := dg_one O.zd; rw [hzd] at this; exact this
    clear x x1 hgt e hv hok hre
    go_enter Tryz.func18, Tryz.ntmps18
    go_wp2_with fail
    go_region
    go_wp2_with (refine wpList_store_row rfl 51 _ _ rfl (W.heap.size + 1) zero32 rfl rfl 51 zero32 HRD.out (by rw [hz]; exact info27) rfl HZ1.out ?_)
    (try simp only [Exit.inBlock, Exit.then])
    refine bodyPost_ret (results_cell_row rfl _ _ _ 51 zero32 (0, 0) _ rfl (setRow_heap _ _ _ _ _ _ HRD.out) und27 rfl (by rw [hz]; exact info27)) rfl ?_
    exact ⟨rfl, below_setRow (HBV.out.drewN 1) (by omega) _⟩
  · have h34' : (rc == 34) = false := by simpa using h34
    have e : O.keyA m (tn, ti, tc) = O.key tc (O.ins m ti) := by unfold O.keyA; simp only; rw [hgt, if_neg h34]
    rw [e]
    have XV := x1.drew1
    have HBV1 : Hid (Bl W ((W.alloc (.cells #[.string (M.bs tn), .slice y ti.length c, .string (M.bs tc)] 43)).alloc (.cells zero32 51)).drew) := HBV.out.drewN 1
    have HRO : Hid (∀ U, Bl ((W.alloc (.cells #[.string (M.bs tn), .slice y ti.length c, .string (M.bs tc)] 43)).alloc (.cells zero32 51)).drew U → U.heap[W.heap.size + 1]? = some (.cells zero32 51 (0, 0))) := fun U hU => (HVC.out U (((Bl.refl _).drewN 1).step hU)).2.2.2
    have KP : Hid (∀ U, Bl ((W.alloc (.cells #[.string (M.bs tn), .slice y ti.length c, .string (M.bs tc)] 43)).alloc (.cells zero32 51)).drew U → U.cell? ⟨W.heap.size, 2, none⟩ = some (.string (M.bs tc)) ∧ U.rangeAt W.heap.size 0 [.string (M.bs tn), .slice y ti.length c, .string (M.bs tc)]) := fun U hU => by
      obtain ⟨e0, e1, e2, _⟩ := HVC.out U (((Bl.refl _).drewN 1).step hU)
      refine ⟨e2, fun j v hv => ?_⟩
      rcases j with _ | _ | _ | j
      · cases hv; exact e0
      · cases hv; exact e1
      · cases hv; exact e2
      · simp at hv
    have KPS : Hid (∀ U C, Bl ((W.alloc (.cells #[.string (M.bs tn), .slice y ti.length c, .string (M.bs tc)] 43)).alloc (.cells zero32 51)).drew U → (U.setRow (W.heap.size + 1) C).cell? ⟨W.heap.size, 2, none⟩ = some (.string (M.bs tc)) ∧ (U.setRow (W.heap.size + 1) C).rangeAt W.heap.size 0 [.string (M.bs tn), .slice y ti.length c, .string (M.bs tc)]) := fun U C hU => by
      obtain ⟨e1, e2⟩ := KP.out U hU
      have hb := below_setRow (Below.refl (W.heap.size + 1) U) (Nat.le_refl _) C
      exact ⟨by rw [hb.cell (p := ⟨W.heap.size, 2, none⟩) (Nat.lt_succ_self _)]; exact e1, fun j v hv => by rw [hb.cell (p := ⟨W.heap.size, 0 + j, none⟩) (Nat.lt_succ_self _)]; exact e2 j v hv⟩
    have CI : Hid (∀ U, Bl ((W.alloc (.cells #[.string (M.bs tn), .slice y ti.length c, .string (M.bs tc)] 43)).alloc (.cells zero32 51)).drew U → Calls Tryz.prog 34 #[.pointer (some ⟨q, 0, none⟩), .agg #[.string (M.bs tn), .slice y ti.length c, .string (M.bs tc)]] U fun e w' => ∃ a' c', e = .returned (.slice a' ti.length c') ∧ RS lyR w' a' (O.ins m ti) ∧ Bl ((W.alloc (.cells #[.string (M.bs tn), .slice y ti.length c, .string (M.bs tc)] 43)).alloc (.cells zero32 51)).drew w') := fun U hU => by
      refine (inputs_x (XV.grow hU) (tn, ti, tc) y c hv hl hok).mono ?_
      rintro e w' ⟨a', c', rfl, h1, h2⟩
      exact ⟨a', c', rfl, h1, hU.step h2⟩
    have CK : Hid (∀ U a' c', Bl ((W.alloc (.cells #[.string (M.bs tn), .slice y ti.length c, .string (M.bs tc)] 43)).alloc (.cells zero32 51)).drew U → RS lyR U a' (O.ins m ti) → Calls Tryz.prog 14 #[.string (M.bs tc), .slice a' ti.length c'] U fun e w' => e = .returned (.agg (dg (O.key tc (O.ins m ti)))) ∧ Bl ((W.alloc (.cells #[.string (M.bs tn), .slice y ti.length c, .string (M.bs tc)] 43)).alloc (.cells zero32 51)).drew w') := fun U a' c' hU hr => by
      have h := Key_x tc (O.ins m ti) a' c' (hG.below (XV.grow hU).bl hG.z) (Bl.refl U) hr (by simp [O.ins]; exact hl) (fun r hr => by
        obtain ⟨s, _, rfl⟩ := List.mem_map.1 hr
        exact hre s) hc
      rw [show (O.ins m ti).length = ti.length by simp [O.ins]] at h
      refine h.mono ?_
      rintro e w' ⟨rfl, h2⟩
      exact ⟨rfl, hU.step h2⟩
    have hkl : (O.key tc (O.ins m ti)).length = 32 := S.sha_length _
    have hum : Tryz.prog.underlying 43 = some (.struct _) := Tryz.underlying43
    have hi := infoAc (tn, ti, tc) y c
    clear XV x x1 hv hok hre e
    go_enter Tryz.func18, Tryz.ntmps18
    go_wp2_with fail
    go_region
    go_wp2_with fail
    clear k2 hlk c0 c1 c2 HVC HRW HBV
    generalize ((W.alloc (.cells #[.string (M.bs tn), .slice y ti.length c, .string (M.bs tc)] 43)).alloc (.cells zero32 51)).drew = V1 at *
    refine wp_region_noPanic ?_
    refine wp_region_held_drew (S := fun U => U.cell? ⟨W.heap.size, 2, none⟩ = some (.string (M.bs tc)) ∧ U.rangeAt W.heap.size 0 [.string (M.bs tn), .slice y ti.length c, .string (M.bs tc)]) (by kernel_rfl) (KP.out _ ((Bl.refl V1).drewN 1)) (fun hHeld => ?_)
    refine wpAnyH_take (i := 0) (v := ?_) rfl (by kernel_rfl) (by kernel_rfl) (by kernel_rfl) (fun _ _ _ h => h) (Or.inl ⟨by kernel_rfl, ?_⟩) (by assumption) ?_
    rotate_left
    · (intro w hSw; (try dsimp only at hSw); go_simp; (try with_reducible rfl))
    simp only [Act.put, List.getElem_toArray, List.getElem_cons_succ, List.getElem_cons_zero, List.setIfInBounds_toArray, List.set_cons_zero, List.set_cons_succ]
    refine wpAnyH_take (i := 1) (v := ?_) rfl (by kernel_rfl) (by kernel_rfl) (by kernel_rfl) (fun _ _ _ h => h) (Or.inl ⟨by kernel_rfl, ?_⟩) (by assumption) ?_
    rotate_left
    · (intro w hSw; (try dsimp only at hSw); go_simp; (try with_reducible rfl))
    simp only [Act.put, List.getElem_toArray, List.getElem_cons_succ, List.getElem_cons_zero, List.setIfInBounds_toArray, List.set_cons_zero, List.set_cons_succ]
    refine wpAnyH_take (i := 2) rfl (by kernel_rfl) (by kernel_rfl) (by kernel_rfl) (fun _ _ _ h => h) (yi_move (by kernel_rfl) rfl rfl) (by assumption) ?_
    simp only [Act.put, List.getElem_toArray, List.getElem_cons_succ, List.getElem_cons_zero, List.setIfInBounds_toArray, List.set_cons_zero, List.set_cons_succ]
    refine wpAnyH_take (i := 3) (v := .agg (List.toArray [.string (M.bs tn), .slice y ti.length c, .string (M.bs tc)])) rfl (by kernel_rfl) (by kernel_rfl) (by kernel_rfl) (fun _ _ _ h => h) (yieldsIf_load_mid (by kernel_rfl) _ (.tmp 3) (by kernel_rfl) W.heap.size 0 (by kernel_rfl) [.string (M.bs tn), .slice y ti.length c, .string (M.bs tc)] _ (fun W hW => hW.2) hum rfl hi) (by assumption) ?_
    simp only [Act.put, List.getElem_toArray, List.getElem_cons_succ, List.getElem_cons_zero, List.setIfInBounds_toArray, List.set_cons_zero, List.set_cons_succ]
    refine wpAnyH_ready (rs := [4]) (by kernel_rfl) (by simp) ?_
    refine AllReadyH.cons (o := _) rfl (fun K hK => ?_) AllReadyH.nil
    go_simp
    go_at_call 34; refine (CI.out _ ((Bl.refl V1).drewN 1)).mono ?_; rintro e w5 ⟨a', c', rfl, hrs, HB5⟩
    refine hK.out _ _ (KP.out _ HB5) (fun hHeld => ?_)
    clear hK K
    (try simp only [Act.put, List.getElem_toArray, List.getElem_cons_succ, List.getElem_cons_zero, List.setIfInBounds_toArray, List.set_cons_zero, List.set_cons_succ])
    refine wpAnyH_ready (rs := [5]) (by kernel_rfl) (by simp) ?_
    refine AllReadyH.cons (o := _) rfl (fun K hK => ?_) AllReadyH.nil
    go_simp
    go_at_call 14; refine (CK.out _ a' c' HB5 hrs).mono ?_; rintro e w6 ⟨rfl, HB6⟩
    refine hK.out _ _ (KP.out _ HB6) (fun hHeld => ?_)
    clear hK K
    (try simp only [Act.put, List.getElem_toArray, List.getElem_cons_succ, List.getElem_cons_zero, List.setIfInBounds_toArray, List.set_cons_zero, List.set_cons_succ])
    refine wpAnyH_ready (rs := [6]) (by kernel_rfl) (by simp) ?_
    refine AllReadyH.cons (o := _) rfl (fun K hK => ?_) AllReadyH.nil
    refine stepo_store_row rfl 51 _ _ rfl (W.heap.size + 1) (dg (O.key tc (O.ins m ti))) (by rfl) (by rfl) 51 zero32 (HRO.out _ HB6) (by rw [dg_size, hkl]; exact info27) (by rw [dg_size, hkl]; exact zero32_size) (dg_one _) (hK.out _ _ (KPS.out _ _ HB6) (fun hHeld => ?_))
    clear hK K
    (try simp only [Act.put, List.getElem_toArray, List.getElem_cons_succ, List.getElem_cons_zero, List.setIfInBounds_toArray, List.set_cons_zero, List.set_cons_succ])
    refine wpAnyH_done (by kernel_rfl) ?_ _
    refine NoPanic.normal ?_
    go_wp2_with fail
    (try simp only [Exit.inBlock, Exit.then])
    refine bodyPost_ret (results_cell_row rfl _ _ _ 51 _ (0, 0) _ rfl (setRow_heap _ _ _ _ _ _ (HRO.out _ HB6)) und27 rfl (by rw [dg_size, hkl]; exact info27)) rfl ?_
    exact ⟨rfl, below_setRow (HBV1.out.step HB6) (by omega) _⟩
end Go.Proofs.YtjbffhdccgmfpaaGreatDoor

/- The kitchen's bake. -/
namespace Go.Proofs.YtjbffhdccgmfpaaGreatDoor
open Go.RowKit Go.Maps
set_option linter.unusedVariables false
set_option linter.unusedSimpArgs false

/-- all results of a kitchen can be in memory -/
theorem srcM_ok {l : List O.So} (h : ∀ s ∈ l, s.2.length ≤ 1000000) (s : List UInt8) : ReOk (O.gt (O.srcM l) s) := by
  have : ∀ m : O.Mp, (∀ x ∈ m, ReOk x.2) → ReOk (O.gt m s) := by
    intro m
    induction m with
    | nil => intro _; exact ⟨by simp [O.gt, O.get], by simp [O.gt, O.get], by simp [O.gt, O.get]⟩
    | cons x r ih =>
      intro h
      unfold O.gt O.get
      by_cases e : x.1 = s
      · rw [if_pos e]; exact h x (by simp)
      · rw [if_neg e]; exact ih (fun y hy => h y (by simp [hy]))
  refine this _ fun x hx => ?_
  unfold O.srcM at hx
  rw [List.mem_reverse] at hx
  obtain ⟨y, hy, rfl⟩ := List.mem_map.1 hx
  exact ⟨by simp, by simp, h y hy⟩
theorem cons_ok {m : O.Mp} (h : ∀ s, ReOk (O.gt m s)) (n : List UInt8) (r : O.Re) (hr : ReOk r) (s : List UInt8) : ReOk (O.gt ((n, r) :: m) s) := by
  unfold O.gt
  by_cases e : n = s
  · subst e; rw [O.get_cons_same]; exact hr
  · rw [O.get_cons_other _ _ e]; exact h s
theorem bakedN_ok {g : RC.Gr} {l : List O.So} (hgd : TR.Good g) (h : ∀ s ∈ l, s.2.length ≤ 1000000) : ∀ (i : Nat), i ≤ (TR.fin g).order.length → ∀ s, ReOk (O.gt (O.bakedN g l i) s)
  | 0, _, s => by rw [O.bakedN_zero]; exact srcM_ok h s
  | i + 1, hi, s => by
    obtain ⟨p, t, hp, ht⟩ := O.order_at hgd (i := i) (by omega)
    rw [O.bakedN_succ hp ht]
    exact cons_ok (bakedN_ok hgd h i (by omega)) _ _ (mk_ok _ _).1 s
theorem RC_can {g : RC.Gr} (h : TR.Good g) {p : Nat} {t : RC.Ac} (ht : g.2[p]? = some t) : t.2.1.length ≤ 4 ∧ t.2.2.length ≤ 64 := by
  have hc := h.can
  unfold RC.can at hc
  simp only [Bool.and_eq_true] at hc
  have := List.all_eq_true.1 hc.2 t (List.mem_of_getElem? ht)
  unfold RC.canA at this
  simp only [Bool.and_eq_true, decide_eq_true_eq] at this
  exact ⟨this.1.1.2, this.2⟩
theorem stepo_mapUpdate {P : Program} {ops : Array Oper} {o : Oper} {a : Act} {w w2 : World} {K : Act → World → Prop} {Q : Exit → Act → World → Prop} {E : Prop} (hgd : o.guard = none) (m x v : Operand) (t : TypeId) (hop : o.op = Op.mapUpdate t m x v) (vm vx vv : Value) (hm : a.eval m = vm) (hx : a.eval x = vx) (hv : a.eval v = vv)
    (hrun : (Instr.mapUpdate t vm vx vv).run P w = .ok () w2) (h : K (a.put o.dst undef) w2) : if Region.wanted o (yielded ops a.tmps) = true then Oper.wp P o a w K Q else E := by
  have hw : Region.wanted o (yielded ops a.tmps) = true := by simp [Region.wanted, hgd]
  rw [if_pos hw]
  unfold Oper.wp
  simp [execOp, hop, hm, hx, hv, hrun, Result.andThen]
  exact h
/-- what is no map's block is not turned with it -/
theorem turned_cell {W W' : World} {b : Nat} (h : W.mapTurned W' b) {x o : Nat} {v : Value} (hc : W.cell? ⟨x, o, none⟩ = some v) : W'.cell? ⟨x, o, none⟩ = some v := by
  have hx : x < W.heap.size := block_lt hc
  have hne : x ≠ b := fun e => by
    subst e
    obtain ⟨es, c, _, _, h1, _⟩ := h
    simp [World.cell?, h1] at hc
  have e := h.grown.block x hx (fun e => hne (Option.some.inj e))
  have : W'.cell? ⟨x, o, none⟩ = W.cell? ⟨x, o, none⟩ := by simp [World.cell?, e]
  rw [this]; exact hc
theorem IA.turned {W W' : World} {b : Nat} {a : Option Addr} {l : List Nat} (h : IA W a l) (ht : W.mapTurned W' b) : IA W' a l := fun i x hx => by
  obtain ⟨b2, off, h1, h2, h3⟩ := h i x hx
  exact ⟨b2, off, h1, block_lt (turned_cell ht h3), turned_cell ht h3⟩
theorem KT.puti {w W : World} {q b : Nat} {g : RC.Gr} {p : GP} {m : O.Mp} (x : KT w q b g p m W) (s : List UInt8) (hs : s.length ≤ maxLen) (r : O.Re) (hl : m.length < 1000000) :
    ∃ W', (Instr.mapUpdate tMp (.map (some b)) (.string (M.bs s)) (.agg #[.int .i64 r.1, .string (M.bs r.2)])).run Tryz.prog W = .ok () W' ∧ KT w q b g p ((s, r) :: m) W' ∧ W.mapTurned W' b := by
  obtain ⟨W', h1, h2, h3⟩ := x.mp.put s hs r hl
  refine ⟨W', h1, ⟨?_, h2, x.q0, x.b0, turned_bl x.bl h3 x.b0⟩, h3⟩
  have hne : q ≠ b := fun e => by
    obtain ⟨es, c, _, _, h4, _⟩ := h3
    have := x.row
    rw [e, h4] at this; cases this
  rw [h3.grown.block q (TA.lt_heap x.row) (fun e => hne (Option.some.inj e))]; exact x.row
set_option maxRecDepth 8000 in
set_option maxHeartbeats 2000000 in
theorem bake_x {w W : World} {q b : Nat} {g : RC.Gr} {p : GP} {l : List O.So} (x : KT w q b g p (O.srcM l) W) (hG : GW w) (hT : Tab w) (hg : GA w.heap.size w g p.sa p.sc p.aa p.ac) (hk : grOk g) (hgd : TR.Good g) (hl : ∀ s ∈ l, s.2.length ≤ 1000000) (hn : l.length ≤ 1000) :
    Calls Tryz.prog 27 #[.pointer (some ⟨q, 0, none⟩)] W fun e w' => e = .returned (.tuple #[]) ∧ KT w q b g p (O.baked g l) w' := by
  have k0 := x.c0
  have k1 := x.c1
  have HX : Hid (KT w q b g p (O.srcM l) W) := x
  have HGA : Hid (GA w.heap.size w g p.sa p.sc p.aa p.ac) := hg
  have hol : (TR.fin g).order.length = g.2.length := hgd.len
  have hle := hgd.le
  have CO : Hid (Calls Tryz.prog 42 #[.agg #[.slice p.sa g.1.length p.sc, .slice p.aa g.2.length p.ac]] W fun e w' => ∃ a c, e = .returned (.slice a g.2.length c) ∧ IA w' a (TR.fin g).order ∧ Bl W w') := by
    have h := Order_x g p.sa p.sc p.aa p.ac (Bl.refl W) (hg.bl x.bl) hk
    have e : ordL g = (TR.fin g).order := by unfold ordL; rw [if_pos (TR.chk_zero.2 hgd)]
    rw [e, hol] at h
    exact h
  clear x hg
  go_enter Tryz.func27, Tryz.ntmps27
  go_wp2_with (go_at_call 42; refine CO.out.mono ?_; clear CO; rintro e w1 ⟨oa, oc, rfl, hia, hb1⟩)
  have HX1 : Hid (KT w q b g p (O.bakedN g l 0) w1) := by rw [O.bakedN_zero]; exact HX.out.grow hb1
  have HIA : Hid (IA w1 oa (TR.fin g).order) := hia
  have HB1 : Hid (Bl w1 w1) := Bl.refl w1
  clear hia hb1 HX k0 k1
  go_loopw [3, 4, 11] (fun u3 u4 u11 wr => ∃ k : Nat, k ≤ g.2.length ∧ u11 = .int .i64 k ∧ KT w q b g p (O.bakedN g l k) wr ∧ IA wr oa (TR.fin g).order) (fun _ _ u11 _ => g.2.length - (intOf u11).toNat)
  case atStart => exact ⟨0, Nat.zero_le _, rfl, HX1.out, HIA.out⟩
  case round =>
    obtain ⟨k, hk2, rfl, hx, hia⟩ := hrel
    have HXR : Hid (KT w q b g p (O.bakedN g l k) wr) := hx
    have HIR : Hid (IA wr oa (TR.fin g).order) := hia
    clear hx hia HX1 HIA HB1
    by_cases hlt : k < g.2.length
    · obtain ⟨pl, t, hpl, ht⟩ := O.order_at hgd (i := k) (by omega)
      obtain ⟨ob, ooff, rfl, hob, hoc⟩ := HIR.out k pl hpl
      obtain ⟨ab, aoff, y, c, haa, hab, hrg, hst⟩ := HGA.out.a pl t ht
      have hplt : pl < g.2.length := (List.getElem?_eq_some_iff.1 ht).1
      have i0 : (0 : Int) ≤ (pl : Int) := by omega
      have i1 : (pl : Int) < (g.2.length : Int) := by omega
      have c1 := HXR.out.c1
      rw [haa] at c1
      have hgk := hk.b t (List.mem_of_getElem? ht)
      have hca := RC_can hgd ht
      have HN : Hid (O.bakedN g l (k + 1) = (t.1, O.mk t.2.2 (O.ins (O.bakedN g l k) t.2.1)) :: O.bakedN g l k) := O.bakedN_succ hpl ht
      have hre := bakedN_ok hgd hl k (by omega)
      have hnl := O.names_le g l k
      have hmk := (mk_ok t.2.2 (O.ins (O.bakedN g l k) t.2.1)).1
      have hrw : wr.rangeAt ab (aoff + pl * 3) (acL t y c) := fun j v hv => by rw [Bl.cell HXR.out.bl hab]; exact hrg j v hv
      obtain ⟨tn, ti, tc⟩ := t
      simp only at *
      have HR : Hid (wr.rangeAt ab (aoff + pl * 3) [.string (M.bs tn), .slice y ti.length c, .string (M.bs tc)]) := hrw
      have XV := HXR.out.grow ((Bl.refl wr).alloc (.cells #[.string (M.bs tn), .slice y ti.length c, .string (M.bs tc)] 43))
      have hrow : (wr.alloc (.cells #[.string (M.bs tn), .slice y ti.length c, .string (M.bs tc)] 43)).heap[wr.heap.size]? = some (.cells #[.string (M.bs tn), .slice y ti.length c, .string (M.bs tc)] 43 (0, 0)) := heap_alloc_new _ _
      have KP : Hid (∀ U, Bl (wr.alloc (.cells #[.string (M.bs tn), .slice y ti.length c, .string (M.bs tc)] 43)) U → U.cell? ⟨q, 2, none⟩ = some (.map (some b)) ∧ U.cell? ⟨wr.heap.size, 0, none⟩ = some (.string (M.bs tn)) ∧ U.cell? ⟨wr.heap.size, 2, none⟩ = some (.string (M.bs tc)) ∧ U.rangeAt wr.heap.size 0 [.string (M.bs tn), .slice y ti.length c, .string (M.bs tc)]) := fun U hU => by
        have e := Below.block hU wr.heap.size (TA.lt_heap hrow)
        rw [hrow] at e
        have e0 : U.cell? ⟨wr.heap.size, 0, none⟩ = some (.string (M.bs tn)) := by rw [Lib.cell_of_heap e]; rfl
        have e1 : U.cell? ⟨wr.heap.size, 1, none⟩ = some (.slice y ti.length c) := by rw [Lib.cell_of_heap e]; rfl
        have e2 : U.cell? ⟨wr.heap.size, 2, none⟩ = some (.string (M.bs tc)) := by rw [Lib.cell_of_heap e]; rfl
        refine ⟨(XV.grow hU).c2, e0, e2, fun j v hv => ?_⟩
        rcases j with _ | _ | _ | j
        · cases hv; exact e0
        · cases hv; exact e1
        · cases hv; exact e2
        · simp at hv
      have PUT : Hid (∀ U, Bl (wr.alloc (.cells #[.string (M.bs tn), .slice y ti.length c, .string (M.bs tc)] 43)) U → ∃ W9, (Instr.mapUpdate tMp (.map (some b)) (.string (M.bs tn)) (.agg #[.int .i64 (O.mk tc (O.ins (O.bakedN g l k) ti)).1, .string (M.bs (O.mk tc (O.ins (O.bakedN g l k) ti)).2)])).run Tryz.prog U = .ok () W9 ∧ KT w q b g p (O.bakedN g l (k + 1)) W9 ∧ IA W9 (some ⟨ob, ooff, none⟩) (TR.fin g).order ∧ (W9.cell? ⟨q, 2, none⟩ = some (.map (some b)) ∧ W9.cell? ⟨wr.heap.size, 0, none⟩ = some (.string (M.bs tn)) ∧ W9.cell? ⟨wr.heap.size, 2, none⟩ = some (.string (M.bs tc)) ∧ W9.rangeAt wr.heap.size 0 [.string (M.bs tn), .slice y ti.length c, .string (M.bs tc)])) := fun U hU => by
        obtain ⟨W9, h1, h2, h3⟩ := (XV.grow hU).puti tn hgk.1 (O.mk tc (O.ins (O.bakedN g l k) ti)) (by omega)
        obtain ⟨e0, e1, e2, e3⟩ := KP.out U hU
        refine ⟨W9, h1, by rw [HN.out]; exact h2, ((HIR.out.bl ((Bl.refl wr).alloc _)).bl hU).turned h3, turned_cell h3 e0, turned_cell h3 e1, turned_cell h3 e2, fun j v hv => turned_cell h3 (e3 j v hv)⟩
      have CI : Hid (∀ U, Bl (wr.alloc (.cells #[.string (M.bs tn), .slice y ti.length c, .string (M.bs tc)] 43)) U → Calls Tryz.prog 34 #[.pointer (some ⟨q, 0, none⟩), .agg #[.string (M.bs tn), .slice y ti.length c, .string (M.bs tc)]] U fun e w' => ∃ a' c', e = .returned (.slice a' ti.length c') ∧ RS lyR w' a' (O.ins (O.bakedN g l k) ti) ∧ Bl (wr.alloc (.cells #[.string (M.bs tn), .slice y ti.length c, .string (M.bs tc)] 43)) w') := fun U hU => by
        refine (inputs_x (XV.grow hU) (tn, ti, tc) y c hst (show ti.length ≤ 1000 by omega) hgk.2.2.1).mono ?_
        rintro e w' ⟨a', c', rfl, h1, h2⟩
        exact ⟨a', c', rfl, h1, hU.step h2⟩
      have CM : Hid (∀ U a' c', Bl (wr.alloc (.cells #[.string (M.bs tn), .slice y ti.length c, .string (M.bs tc)] 43)) U → RS lyR U a' (O.ins (O.bakedN g l k) ti) → Calls Tryz.prog 43 #[.string (M.bs tc), .slice a' ti.length c'] U fun e w' => e = .returned (.agg #[.int .i64 (O.mk tc (O.ins (O.bakedN g l k) ti)).1, .string (M.bs (O.mk tc (O.ins (O.bakedN g l k) ti)).2)]) ∧ Bl (wr.alloc (.cells #[.string (M.bs tn), .slice y ti.length c, .string (M.bs tc)] 43)) w') := fun U a' c' hU hr => by
        have h := Make_x tc (O.ins (O.bakedN g l k) ti) a' c' hG hT (XV.grow hU).bl hr (by simp [O.ins]; omega) (fun r hr => by
          obtain ⟨s, _, rfl⟩ := List.mem_map.1 hr
          exact hre s) (by omega)
        rw [show (O.ins (O.bakedN g l k) ti).length = ti.length by simp [O.ins]] at h
        refine h.mono ?_
        rintro e w' ⟨rfl, h2⟩
        exact ⟨rfl, hU.step h2⟩
      have hum : Tryz.prog.underlying 43 = some (.struct _) := Tryz.underlying43
      have hi := infoAc (tn, ti, tc) y c
      have HMU : Hid (ReOk (O.mk tc (O.ins (O.bakedN g l k) ti))) := hmk
      generalize O.mk tc (O.ins (O.bakedN g l k) ti) = R at *
      obtain ⟨rc, rb⟩ := R
      simp only at PUT CM
      clear XV hrow hre hmk hgk hca hnl hst hrg hrw ht hpl HGA HN HIR haa
      go_wp2_with (refine wpList_load_mid rfl 43 _ rfl ab (aoff + pl * 3) rfl [.string (M.bs tn), .slice y ti.length c, .string (M.bs tc)] _ HR.out hum rfl hi ?_)
      generalize (wr.alloc (.cells #[.string (M.bs tn), .slice y ti.length c, .string (M.bs tc)] 43)) = V1 at *
      refine wp_region_noPanic ?_
      refine wp_region_held_drew (S := fun U => U.cell? ⟨q, 2, none⟩ = some (.map (some b)) ∧ U.cell? ⟨wr.heap.size, 0, none⟩ = some (.string (M.bs tn)) ∧ U.cell? ⟨wr.heap.size, 2, none⟩ = some (.string (M.bs tc)) ∧ U.rangeAt wr.heap.size 0 [.string (M.bs tn), .slice y ti.length c, .string (M.bs tc)]) (by kernel_rfl) (KP.out _ ((Bl.refl V1).drewN 1)) (fun hHeld => ?_)
      refine wpAnyH_take (i := 0) rfl (by kernel_rfl) (by kernel_rfl) (by kernel_rfl) (fun _ _ _ h => h) (yi_move (by kernel_rfl) rfl rfl) (by assumption) ?_
      simp only [Act.put, List.getElem_toArray, List.getElem_cons_succ, List.getElem_cons_zero, List.setIfInBounds_toArray, List.set_cons_zero, List.set_cons_succ]
      refine wpAnyH_take (i := 1) (v := ?_) rfl (by kernel_rfl) (by kernel_rfl) (by kernel_rfl) (fun _ _ _ h => h) (Or.inl ⟨by kernel_rfl, ?_⟩) (by assumption) ?_
      rotate_left
      · (intro w hSw; (try dsimp only at hSw); go_simp; (try with_reducible rfl))
      simp only [Act.put, List.getElem_toArray, List.getElem_cons_succ, List.getElem_cons_zero, List.setIfInBounds_toArray, List.set_cons_zero, List.set_cons_succ]
      refine wpAnyH_take (i := 2) (v := ?_) rfl (by kernel_rfl) (by kernel_rfl) (by kernel_rfl) (fun _ _ _ h => h) (Or.inl ⟨by kernel_rfl, ?_⟩) (by assumption) ?_
      rotate_left
      · (intro w hSw; (try dsimp only at hSw); go_simp; (try with_reducible rfl))
      simp only [Act.put, List.getElem_toArray, List.getElem_cons_succ, List.getElem_cons_zero, List.setIfInBounds_toArray, List.set_cons_zero, List.set_cons_succ]
      refine wpAnyH_take (i := 3) (v := ?_) rfl (by kernel_rfl) (by kernel_rfl) (by kernel_rfl) (fun _ _ _ h => h) (Or.inl ⟨by kernel_rfl, ?_⟩) (by assumption) ?_
      rotate_left
      · (intro w hSw; (try dsimp only at hSw); go_simp; (try with_reducible rfl))
      simp only [Act.put, List.getElem_toArray, List.getElem_cons_succ, List.getElem_cons_zero, List.setIfInBounds_toArray, List.set_cons_zero, List.set_cons_succ]
      refine wpAnyH_take (i := 4) (v := ?_) rfl (by kernel_rfl) (by kernel_rfl) (by kernel_rfl) (fun _ _ _ h => h) (Or.inl ⟨by kernel_rfl, ?_⟩) (by assumption) ?_
      rotate_left
      · (intro w hSw; (try dsimp only at hSw); go_simp; (try with_reducible rfl))
      simp only [Act.put, List.getElem_toArray, List.getElem_cons_succ, List.getElem_cons_zero, List.setIfInBounds_toArray, List.set_cons_zero, List.set_cons_succ]
      refine wpAnyH_take (i := 5) (v := ?_) rfl (by kernel_rfl) (by kernel_rfl) (by kernel_rfl) (fun _ _ _ h => h) (Or.inl ⟨by kernel_rfl, ?_⟩) (by assumption) ?_
      rotate_left
      · (intro w hSw; (try dsimp only at hSw); go_simp; (try with_reducible rfl))
      simp only [Act.put, List.getElem_toArray, List.getElem_cons_succ, List.getElem_cons_zero, List.setIfInBounds_toArray, List.set_cons_zero, List.set_cons_succ]
      refine wpAnyH_take (i := 6) (v := ?_) rfl (by kernel_rfl) (by kernel_rfl) (by kernel_rfl) (fun _ _ _ h => h) (Or.inl ⟨by kernel_rfl, ?_⟩) (by assumption) ?_
      rotate_left
      · (intro w hSw; (try dsimp only at hSw); go_simp; (try with_reducible rfl))
      simp only [Act.put, List.getElem_toArray, List.getElem_cons_succ, List.getElem_cons_zero, List.setIfInBounds_toArray, List.set_cons_zero, List.set_cons_succ]
      refine wpAnyH_take (i := 7) (v := ?_) rfl (by kernel_rfl) (by kernel_rfl) (by kernel_rfl) (fun _ _ _ h => h) (Or.inl ⟨by kernel_rfl, ?_⟩) (by assumption) ?_
      rotate_left
      · (intro w hSw; (try dsimp only at hSw); go_simp; (try with_reducible rfl))
      simp only [Act.put, List.getElem_toArray, List.getElem_cons_succ, List.getElem_cons_zero, List.setIfInBounds_toArray, List.set_cons_zero, List.set_cons_succ]
      refine wpAnyH_take (i := 8) (v := ?_) rfl (by kernel_rfl) (by kernel_rfl) (by kernel_rfl) (fun _ _ _ h => h) (Or.inl ⟨by kernel_rfl, ?_⟩) (by assumption) ?_
      rotate_left
      · (intro w hSw; (try dsimp only at hSw); go_simp; (try with_reducible rfl))
      simp only [Act.put, List.getElem_toArray, List.getElem_cons_succ, List.getElem_cons_zero, List.setIfInBounds_toArray, List.set_cons_zero, List.set_cons_succ]
      refine wpAnyH_take (i := 9) rfl (by kernel_rfl) (by kernel_rfl) (by kernel_rfl) (fun _ _ _ h => h) (yi_move (by kernel_rfl) rfl rfl) (by assumption) ?_
      simp only [Act.put, List.getElem_toArray, List.getElem_cons_succ, List.getElem_cons_zero, List.setIfInBounds_toArray, List.set_cons_zero, List.set_cons_succ]
      refine wpAnyH_take (i := 10) (v := .agg (List.toArray [.string (M.bs tn), .slice y ti.length c, .string (M.bs tc)])) rfl (by kernel_rfl) (by kernel_rfl) (by kernel_rfl) (fun _ _ _ h => h) (yieldsIf_load_mid (by kernel_rfl) _ (.tmp 4) (by kernel_rfl) wr.heap.size 0 (by kernel_rfl) [.string (M.bs tn), .slice y ti.length c, .string (M.bs tc)] _ (fun W hW => hW.2.2.2) hum rfl hi) (by assumption) ?_
      simp only [Act.put, List.getElem_toArray, List.getElem_cons_succ, List.getElem_cons_zero, List.setIfInBounds_toArray, List.set_cons_zero, List.set_cons_succ]
      refine wpAnyH_ready (rs := [11]) (by kernel_rfl) (by simp) ?_
      refine AllReadyH.cons (o := _) rfl (fun K hK => ?_) AllReadyH.nil
      go_simp
      go_at_call 34; refine (CI.out _ ((Bl.refl V1).drewN 1)).mono ?_; rintro e w12 ⟨a', c', rfl, hrs, HB12⟩
      refine hK.out _ _ (KP.out _ HB12) (fun hHeld => ?_)
      clear hK K
      (try simp only [Act.put, List.getElem_toArray, List.getElem_cons_succ, List.getElem_cons_zero, List.setIfInBounds_toArray, List.set_cons_zero, List.set_cons_succ])
      refine wpAnyH_ready (rs := [12]) (by kernel_rfl) (by simp) ?_
      refine AllReadyH.cons (o := _) rfl (fun K hK => ?_) AllReadyH.nil
      go_simp
      go_at_call 43; refine (CM.out _ a' c' HB12 hrs).mono ?_; rintro e w13 ⟨rfl, HB13⟩
      refine hK.out _ _ (KP.out _ HB13) (fun hHeld => ?_)
      clear hK K
      (try simp only [Act.put, List.getElem_toArray, List.getElem_cons_succ, List.getElem_cons_zero, List.setIfInBounds_toArray, List.set_cons_zero, List.set_cons_succ])
      refine wpAnyH_ready (rs := [13]) (by kernel_rfl) (by simp) ?_
      refine AllReadyH.cons (o := _) rfl (fun K hK => ?_) AllReadyH.nil
      obtain ⟨W9, hrun9, hx9, hia9, hS9⟩ := PUT.out _ HB13
      refine stepo_mapUpdate rfl _ _ _ _ rfl (.map (some b)) (.string (M.bs tn)) (.agg #[.int .i64 rc, .string (M.bs rb)]) (by rfl) (by rfl) (by rfl) hrun9 (hK.out _ _ hS9 (fun hHeld => ?_))
      clear hrun9 hS9
      clear hK K
      (try simp only [Act.put, List.getElem_toArray, List.getElem_cons_succ, List.getElem_cons_zero, List.setIfInBounds_toArray, List.set_cons_zero, List.set_cons_succ])
      refine wpAnyH_done (by kernel_rfl) ?_ _
      refine NoPanic.normal ?_
      have HX9 : Hid _ := hx9
      have HI9 : Hid _ := hia9
      clear hx9 hia9 hHeld PUT CI CM KP
      go_wp2_with fail
      go_roundw
      case rel => exact ⟨k + 1, by omega, by go_num, HX9.out, HI9.out⟩
      case measure => simp [intOf]; omega
    · obtain rfl : k = g.2.length := by omega
      have HE : Hid (O.bakedN g l g.2.length = O.baked g l) := by rw [← hol]; exact O.bakedN_all g l
      go_wp2_with fail
      refine bodyPost_end (results_none rfl _ _ _) rfl ?_
      exact ⟨rfl, by rw [← HE.out]; exact HXR.out⟩
end Go.Proofs.YtjbffhdccgmfpaaGreatDoor
