/- The texts ORow OMap O1 O2 O2m as one. -/
import Derived.Test.YtjbffhdccgmfpaaGreatDoorTxA
import Derived.Test.YtjbffhdccgmfpaaGreatDoorGA
import Derived.Deep.AppendLies
import Derived.Test.YtjbffhdccgmfpaaGreatDoorOMath
import Derived.Maps.OwnSet
import Derived.StringKeys
import Derived.Test.YtjbffhdccgmfpaaGreatDoorGT
import Derived.Test.YtjbffhdccgmfpaaGreatDoorMC
/- Rows of things of k cells each: as slices, and as rows of one's own to which one more is appended. -/
namespace Go.Proofs.YtjbffhdccgmfpaaGreatDoor
open Go.RowKit
set_option linter.unusedVariables false
set_option linter.unusedSimpArgs false

/-- how a thing lies in cells -/
structure Lay (α : Type) where
  k : Nat
  f : α → List Value
  len : ∀ x, (f x).length = k
  one : ∀ x, ∀ u ∈ f x, u.oneCell' = true
  pos : 0 < k
/-- things as a slice -/
def RS {α : Type} (E : Lay α) (W : World) (a : Option Addr) (l : List α) : Prop := ∀ (i : Nat) (x : α), l[i]? = some x → ∃ b off, a = some ⟨b, off, none⟩ ∧ b < W.heap.size ∧ W.rangeAt b (off + i * E.k) (E.f x)
theorem RS.bl {α : Type} {E : Lay α} {w W : World} {a : Option Addr} {l : List α} (h : RS E w a l) (hb : Bl w W) : RS E W a l := fun i x hx => by
  obtain ⟨b, off, h1, h2, h3⟩ := h i x hx
  exact ⟨b, off, h1, by have := Below.size hb; omega, fun j v hv => by rw [Bl.cell hb h2]; exact h3 j v hv⟩
theorem RS.nil {α : Type} (E : Lay α) (W : World) (a : Option Addr) : RS E W a [] := fun i x hx => by simp at hx
def flG {α : Type} (E : Lay α) (L : List α) : List Value := L.flatMap E.f
theorem flG_app {α : Type} (E : Lay α) (A B : List α) : flG E (A ++ B) = flG E A ++ flG E B := by simp [flG]
theorem flG_len {α : Type} (E : Lay α) : ∀ L : List α, (flG E L).length = L.length * E.k
  | [] => by simp [flG]
  | d :: r => by
    have hr := flG_len E r
    unfold flG at hr ⊢
    rw [List.flatMap_cons, List.length_append, E.len, hr, List.length_cons, Nat.add_mul]; omega
theorem flG_at {α : Type} (E : Lay α) : ∀ (L : List α) {i : Nat} {d : α}, L[i]? = some d → ∃ a z, flG E L = a ++ (E.f d ++ z) ∧ a.length = i * E.k
  | [], i, d, h => by simp at h
  | x :: r, i, d, h => by
    cases i with
    | zero =>
      simp at h; subst h
      exact ⟨[], flG E r, rfl, by simp⟩
    | succ i =>
      have h' : r[i]? = some d := by simpa using h
      obtain ⟨a, z, h1, h2⟩ := flG_at E r h'
      refine ⟨E.f x ++ a, z, ?_, by rw [List.length_append, E.len, h2, Nat.add_mul]; omega⟩
      unfold flG at h1 ⊢
      rw [List.flatMap_cons, h1, List.append_assoc]
theorem flG_one {α : Type} (E : Lay α) (L : List α) : ∀ u ∈ flG E L, u.oneCell' = true := fun u hu => by
  unfold flG at hu
  obtain ⟨r, _, hr⟩ := List.mem_flatMap.1 hu
  exact E.one r u hr
/-- a row of one's own, read as a slice -/
theorem owns_rs {α : Type} (E : Lay α) {N : Nat} {W : World} {T : TypeId} {v : Value} {ks : List α} (h : W.ownsRow N T E.k v ks.length (flG E ks)) : ∃ a c, v = .slice a ks.length c ∧ RS E W a ks := by
  obtain ⟨h0, ⟨h1, h2⟩ | ⟨g, cap, cur, h1, h2, h3, h4, h5, h6, h7⟩⟩ := h
  · subst h1
    rw [h2]
    exact ⟨none, 0, rfl, fun i r hr => by have := (List.getElem?_eq_some_iff.1 hr).1; omega⟩
  · subst h1
    refine ⟨some ⟨g, 0, none⟩, cap, rfl, fun i r hr => ?_⟩
    refine ⟨g, 0, rfl, TA.lt_heap h3, fun j u hu => ?_⟩
    obtain ⟨a, z, e1, e2⟩ := flG_at E ks hr
    have hi : i < ks.length := (List.getElem?_eq_some_iff.1 hr).1
    have hrl := E.len r
    have hj : j < E.k := by have := (List.getElem?_eq_some_iff.1 hu).1; omega
    have hij : i * E.k + j < ks.length * E.k := by
      have : (i + 1) * E.k ≤ ks.length * E.k := Nat.mul_le_mul_right _ hi
      rw [Nat.add_mul] at this; omega
    rw [Lib.cell_of_heap h3, Nat.zero_add, ← Array.getElem?_toList]
    have e3 : (cur.toList.take (ks.length * E.k))[i * E.k + j]? = cur.toList[i * E.k + j]? := by rw [List.getElem?_take, if_pos hij]
    rw [← e3, h7, e1, List.getElem?_append_right (by omega), e2, Nat.add_sub_cancel_left, List.getElem?_append_left (by omega)]
    exact hu
theorem ownsRow_bl {B n k : Nat} {e : TypeId} {v : Value} {xs : List Value} {w w' : World} (h : w.ownsRow B e k v n xs) (hb : Below w.heap.size w w') : w'.ownsRow B e k v n xs := by
  obtain ⟨h0, h1 | ⟨g, cap, cur, h1, h2, h3, h4⟩⟩ := h
  · exact ⟨h0, Or.inl h1⟩
  · exact ⟨h0, Or.inr ⟨g, cap, cur, h1, h2, by rw [hb.block g (TA.lt_heap h3)]; exact h3, h4⟩⟩
/-- one more is appended to a row of one's own -/
theorem wl_app1G {α : Type} (E : Lay α) {ops : Array Oper} {rest : List Oper} {o : Oper} {a : Act} {w W U : World} {Q : Exit → Act → World → Prop} (T TS : TypeId) (z : Value) (bytes : Nat)
    (hund : Tryz.prog.underlying TS = some (.slice T)) (hinfo : (Tryz.prog.info? T).map (fun i => (i.zero, i.size, i.bytes)) = some (some z, E.k, bytes)) (hzc : z.cells.size = E.k) (hby : bytes ≤ 4096)
    (hgd : o.guard = none) (s x : Operand) (ho : o.op = .call { callee := .builtin .append, args := #[s, x], argTypes := #[TS, TS] }) (n : Nat) (ks : List α) (hnk : n = ks.length) (t : α) (v : Value) (hs : a.eval s = v) (hb : Bl w W) (hown : W.ownsRow w.heap.size T E.k v n (flG E ks))
    (hx : a.eval x = .slice (some ⟨W.heap.size, 0, none⟩) 1 1) (hn : n ≤ 90000)
    (h : ∀ a' c' w', w'.ownsRow w.heap.size T E.k (.slice a' (n + 1) c') (n + 1) (flG E (ks ++ [t])) → Bl w w' → W.grownBy w' v.ownBlock → wpList Tryz.prog ops Q rest (a.put o.dst (.slice a' (n + 1) c')) w') (C : Array Value) (hC : C = (E.f t).toArray) (hU : U = W.alloc (.cells C T)) : wpList Tryz.prog ops Q (o :: rest) a U := by
  subst hnk hU hC
  obtain ⟨i0, hi0, hz0, hz1, hz2⟩ := TA.info_partsT hinfo
  have hsz : w.heap.size ≤ (W.alloc (.cells (E.f t).toArray T)).heap.size := by
    have := Below.size hb; simp; omega
  have hk := E.pos
  refine wpList_append_lies _ hgd s x TS ho w.heap.size T i0 z E.k bytes hund hi0 hz0 hz1 hz2 hzc ?_ v ks.length (flG E ks) hs (ownsRow_bl hown ((Bl.refl W).alloc _)) ⟨W.heap.size, 0, none⟩ 1 1 (E.f t) hx (by rw [E.len]; omega) (fun j u hu => ?_) (E.one t) (by omega) (by unfold maxLen; omega) ?_ hsz _ rfl (fun g cap w' h1 h2 h3 h4 => ?_)
  · omega
  · rw [Addr.add_mid, Lib.cell_of_heap (heap_alloc_new W _), Nat.zero_add]
    simpa using hu
  · have : (ks.length + 1) * bytes ≤ 90001 * 4096 := Nat.mul_le_mul (by omega) hby
    omega
  · refine h _ _ w' (by rw [flG_app]; simpa [flG] using h1) (Below.grown (hb.alloc _) h2 hsz (fun q hq => (TA.owns_ge hown hq).1)) ?_
    exact (World.grownBy_alloc W _ _).trans h2
end Go.Proofs.YtjbffhdccgmfpaaGreatDoor

/- The kitchen's map of results, in memory. -/
namespace Go.Proofs.YtjbffhdccgmfpaaGreatDoor
open Go.RowKit Go.Maps
set_option linter.unusedVariables false
set_option linter.unusedSimpArgs false

abbrev tMp : TypeId := 54
theorem undMp : Tryz.prog.underlying tMp = some (.map 9 47) := by kernel_rfl
theorem lawS : Keyed Tryz.prog 9 := string_keyed Tryz.underlying9
/-- a result's cells -/
def resV (r : O.Re) : Array Value := #[.int .i64 r.1, .string (M.bs r.2)]
/-- what a result reads as -/
def reD (r : O.Re) : DataW Unit := .agg [.lit (.int .i64 r.1), .lit (.string r.2)]
def rL : List Value → Option (DataW Unit × List MemPlace)
  | [.int .i64 c, .string s] => some (.agg [.lit (.int .i64 c), .lit (.string s.data.toList)], [])
  | _ => none
def rE : Value → Option (DataW Unit × List MemPlace)
  | .agg a => rL a.toList
  | _ => none
theorem rE_mk (r : O.Re) : rE (.agg (resV r)) = some (reD r, []) := by simp [rE, rL, resV, reD, M.bs_toList]
theorem rE_inv {v : Value} {z : DataW Unit × List MemPlace} (h : rE v = some z) : ∃ r : O.Re, v = .agg (resV r) ∧ z = (reD r, []) := by
  unfold rE at h
  split at h
  · rename_i a
    unfold rL at h
    split at h
    · rename_i c s e
      cases h
      refine ⟨(c, s.data.toList), ?_, rfl⟩
      congr 1
      apply Array.toList_inj.1
      rw [e]
      simp [resV, M.bs]
    · cases h
  · cases h
theorem reD_inj {r q : O.Re} (h : reD r = reD q) : r = q := by
  simp only [reD, DataW.agg.injEq, List.cons.injEq, DataW.lit.injEq, Lit.int.injEq, Lit.string.injEq, true_and, and_true] at h
  exact Prod.ext h.1 h.2
def klS (s : List UInt8) : Lit := .string s
theorem key_s (s : List UInt8) (h : s.length ≤ maxLen) : keyOf Tryz.prog 9 (.string (M.bs s)) = some (klS s) := by
  have := WideMaps.keyOf_string_mk (P := Tryz.prog) (k := 9) Tryz.underlying9 (s := M.bs s) (by rw [M.bs_size]; exact h)
  rw [this, M.bs_toList]; rfl
theorem isKeyS (s : List UInt8) : WideAt.IsKeyLit (klS s) := trivial
/-- a map that reads as results by names -/
structure KD (D : DataW Unit) (m : O.Mp) : Prop where
  has : ∀ s, Maps.has D (klS s) = (O.get m s).isSome
  at' : ∀ s, D.atKey (klS s) (reD (0, [])) = reD (O.gt m s)
  size : Maps.size D = O.cnt m
def KM (W : World) (b : Nat) (m : O.Mp) : Prop := ∃ D : DataW Unit, W.ownsMap Tryz.prog 9 rE b (O.cnt m) D ∧ KD D m
theorem ownM_block {k : TypeId} {R : Value → Option (DataW Unit × List MemPlace)} {b n : Nat} {D : DataW Unit} {W W' : World} (h : W.ownsMap Tryz.prog k R b n D) (hb : W'.heap[b]? = W.heap[b]?) : W'.ownsMap Tryz.prog k R b n D := by
  obtain ⟨es, clock, h1, h2⟩ := h
  exact ⟨es, clock, by rw [hb]; exact h1, h2⟩
theorem ownM_tight {k : TypeId} {R : Value → Option (DataW Unit × List MemPlace)} {b n m : Nat} {D : DataW Unit} {W : World} (h : W.ownsMap Tryz.prog k R b n D) (hm : Maps.size D = m) : W.ownsMap Tryz.prog k R b m D := by
  obtain ⟨es, clock, h1, h2, h3, rfl⟩ := h
  refine ⟨es, clock, h1, h2, ?_, rfl⟩
  rw [← hm, Maps.size_eq, length_read]
  exact Nat.le_refl _
theorem KM.block {W W' : World} {b : Nat} {m : O.Mp} (h : KM W b m) (hb : W'.heap[b]? = W.heap[b]?) : KM W' b m := by
  obtain ⟨D, h1, h2⟩ := h
  exact ⟨D, ownM_block h1 hb, h2⟩
theorem KM.lt {W : World} {b : Nat} {m : O.Mp} (h : KM W b m) : b < W.heap.size := by
  obtain ⟨D, h1, h2⟩ := h
  exact h1.lt
theorem KM.bl {W W' : World} {b : Nat} {m : O.Mp} (h : KM W b m) (hb : Bl W W') : KM W' b m := h.block (Below.block hb _ h.lt)
theorem KM.look {W : World} {b : Nat} {m : O.Mp} (h : KM W b m) (s : List UInt8) (hs : s.length ≤ maxLen) :
    (Instr.lookup tMp (.map (some b)) (.string (M.bs s)) true).run Tryz.prog W = .ok (.tuple #[.agg (resV (O.gt m s)), .bool (O.get m s).isSome]) W := by
  obtain ⟨D, h1, h2⟩ := h
  obtain ⟨v, ps, hrun, hR⟩ := h1.look_ok lawS undMp (z := .agg (resV (0, []))) (zd := reD (0, [])) (zp := []) (by kernel_rfl) (rE_mk _) (key_s s hs)
  rw [hrun]
  obtain ⟨r, rfl, hz⟩ := rE_inv hR
  simp only [Prod.mk.injEq] at hz
  rw [h2.at' s] at hz
  rw [← reD_inj hz.1, h2.has s]
theorem KM.look0 {W : World} {b : Nat} {m : O.Mp} (h : KM W b m) (s : List UInt8) (hs : s.length ≤ maxLen) :
    (Instr.lookup tMp (.map (some b)) (.string (M.bs s)) false).run Tryz.prog W = .ok (.agg (resV (O.gt m s))) W := by
  obtain ⟨D, h1, h2⟩ := h
  obtain ⟨v, ps, hrun, hR⟩ := h1.lookup lawS undMp (z := .agg (resV (0, []))) (zd := reD (0, [])) (zp := []) (by kernel_rfl) (rE_mk _) (key_s s hs)
  rw [hrun]
  obtain ⟨r, rfl, hz⟩ := rE_inv hR
  simp only [Prod.mk.injEq] at hz
  rw [h2.at' s] at hz
  rw [← reD_inj hz.1]
theorem KM.len {W : World} {b : Nat} {m : O.Mp} (h : KM W b m) (ty : TypeId) : (Builtin.len_ #[tMp] ty #[.map (some b)]).run Tryz.prog W = .ok (.int .i64 ((O.cnt m : Nat) : Int)) W := by
  obtain ⟨D, h1, h2⟩ := h
  rw [h1.len undMp ty, h2.size]
theorem klS_ne {s t : List UInt8} (h : s ≠ t) : klS s ≠ klS t := fun e => h (by simpa [klS] using e)
theorem KM.put {W : World} {b : Nat} {m : O.Mp} (h : KM W b m) (s : List UInt8) (hs : s.length ≤ maxLen) (r : O.Re) (hl : m.length < 1000000) :
    ∃ W', (Instr.mapUpdate tMp (.map (some b)) (.string (M.bs s)) (.agg (resV r))).run Tryz.prog W = .ok () W' ∧ KM W' b ((s, r) :: m) ∧ W.mapTurned W' b := by
  obtain ⟨D, h1, h2⟩ := h
  have hc := O.cnt_le m
  obtain ⟨W', hrun, hown, ht⟩ := h1.store lawS undMp (by unfold maxLen; omega) (key_s s hs) (rE_mk r)
  have hsz : Maps.size (D.put (klS s) (reD r)) = O.cnt ((s, r) :: m) := by
    rw [size_put (h1.tidy lawS), h2.has s, h2.size]
    rw [show O.cnt ((s, r) :: m) = if (O.get m s).isSome = true then O.cnt m else O.cnt m + 1 from rfl]
  refine ⟨W', hrun, ⟨_, ownM_tight hown hsz, ?_⟩, ht⟩
  refine ⟨fun t => ?_, fun t => ?_, hsz⟩
  · by_cases e : s = t
    · subst e
      rw [has_put_same h1.isMap (isKeyS _) _, O.get_cons_same]; rfl
    · rw [has_put_other (klS_ne (Ne.symm e)), O.get_cons_other _ _ e, h2.has t]
  · by_cases e : s = t
    · subst e
      rw [atKey_put_same h1.isMap (isKeyS _) _ _]
      unfold O.gt
      rw [O.get_cons_same]; rfl
    · rw [atKey_put_other (klS_ne (Ne.symm e))]
      unfold O.gt
      rw [O.get_cons_other _ _ e]
      exact h2.at' t
theorem KM.made (W : World) : KM (W.alloc (.map #[] 0)) W.heap.size [] := by
  refine ⟨.map [], World.ownsMap_made W Tryz.prog 9 rE, ?_⟩
  exact ⟨fun s => rfl, fun s => rfl, rfl⟩
/-- the map lies behind what the call was handed: what lay there stays -/
theorem turned_bl {w W W' : World} {b : Nat} (hb : Bl w W) (h : W.mapTurned W' b) (hB : w.heap.size ≤ b) : Bl w W' :=
  Below.grown hb h.grown (Below.size hb) (fun q hq => by cases hq; exact hB)

/-- results, sources, what was built, digests: how they lie -/
def lyR : Lay O.Re := ⟨2, fun r => [.int .i64 r.1, .string (M.bs r.2)], fun _ => rfl, fun x u hu => by simp at hu; rcases hu with rfl | rfl <;> rfl, by decide⟩
def lyS : Lay O.So := ⟨2, fun r => [.string (M.bs r.1), .string (M.bs r.2)], fun _ => rfl, fun x u hu => by simp at hu; rcases hu with rfl | rfl <;> rfl, by decide⟩
def lyB : Lay (List UInt8 × O.Re) := ⟨3, fun r => [.string (M.bs r.1), .int .i64 r.2.1, .string (M.bs r.2.2)], fun _ => rfl, fun x u hu => by simp at hu; rcases hu with rfl | rfl | rfl <;> rfl, by decide⟩
end Go.Proofs.YtjbffhdccgmfpaaGreatDoor

/- What oven.failed, oven.told answer. -/
namespace Go.Proofs.YtjbffhdccgmfpaaGreatDoor
open Go.RowKit
set_option linter.unusedVariables false
set_option linter.unusedSimpArgs false
attribute [local go_sem ↓] zero27

/-- a result that can be in memory, not too long -/
structure ReOk (r : O.Re) : Prop where
  c1 : -9223372036854775808 ≤ r.1
  c2 : r.1 ≤ 9223372036854775807
  l : r.2.length ≤ 1000000
theorem failed_at (r : O.Re) (W : World) :
    Calls Tryz.prog 35 #[.agg (resV r)] W fun e w' => e = .returned (.bool (O.isBad r)) ∧ Bl W w' := by
  obtain ⟨c, b⟩ := r
  have HB : Hid (O.isBad (c, b) = decide (c ≠ 0)) := rfl
  unfold resV
  simp only
  by_cases h : c = 0
  · subst h
    go_enter Tryz.func35, Tryz.ntmps35
    go_wp2_with fail
    go_ret
    exact ⟨by rw [HB.out]; rfl, (Bl.refl W).alloc _⟩
  · have h1 : (c != 0) = true := by simpa using h
    have h2 : (c == 0) = false := by simpa using h
    go_enter Tryz.func35, Tryz.ntmps35
    go_wp2_with fail
    go_ret
    exact ⟨by rw [HB.out]; simp [h], (Bl.refl W).alloc _⟩
set_option maxRecDepth 8000 in
set_option maxHeartbeats 1000000 in
theorem told_at (r : O.Re) {w W : World} (hG : GW w) (HB : Bl w W) (hr : ReOk r) :
    Calls Tryz.prog 19 #[.agg (resV r)] W fun e w' => e = .returned (.string (M.bs (O.told r))) ∧ Bl w w' := by
  have hGW : GW W := hG.below HB hG.z
  have CF : Hid (∀ U, Calls Tryz.prog 35 #[.agg (resV r)] U fun e w' => e = .returned (.bool (O.isBad r)) ∧ Bl U w') := fun U => failed_at r U
  by_cases h : r.1 = 0
  · have e : O.told r = 100 :: S.sha r.2 := by unfold O.told; rw [if_pos h]
    have eb : O.isBad r = false := by unfold O.isBad; simp [h]
    rw [e]
    rw [eb] at CF
    obtain ⟨c, t⟩ := r
    have ht : t.length ≤ 1000000 := hr.l
    clear hr e eb h
    unfold resV at *
    simp only at *
    have CO : Hid (∀ U, Bl W U → Calls Tryz.prog 37 #[.slice (some ⟨U.heap.size, 0, none⟩) 1 1] (U.alloc (.cells #[.string (M.bs t)] 9)) fun e w' => e = .returned (.agg (dg (S.sha t))) ∧ Bl W w') := fun U hU => by
      refine (Of_g t 9 (GB.refl (hGW.below hU hGW.z)) (by omega)).mono ?_
      rintro e w' ⟨rfl, h⟩
      exact ⟨rfl, hU.step h.b⟩
    have hl : (S.sha t).length = 32 := S.sha_length t
    have hD : Hid (∀ j (hj : j < (S.sha t).length), (dg (S.sha t))[j]? = some (.int .u8 ((S.sha t)[j].toNat : Int))) := fun j hj => by
      unfold dg
      rw [List.getElem?_toArray, List.getElem?_map, List.getElem?_eq_getElem hj]; rfl
    have hsD : (dg (S.sha t)).size = 32 := by rw [dg_size, hl]
    have h1 : Hid ((dg (S.sha t)).all (·.oneCell') = true) := by
      show _ = true
      rw [Array.all_eq_true_iff_forall_mem]
      intro v hv
      unfold dg at hv
      simp only [List.mem_toArray, List.mem_map] at hv
      obtain ⟨x, _, rfl⟩ := hv
      rfl
    have happ : (⟨#[100]⟩ : ByteArray) ++ M.bs (S.sha t) = M.bs (100 :: S.sha t) := by
      exact bs_append [100] _
    have hs1 := M.bs_size (S.sha t)
    have hs2 : (⟨#[100]⟩ : ByteArray).size = 1 := rfl
    have hs3 := M.bs_size (100 :: S.sha t)
    have hc3 : (100 :: S.sha t).length = 33 := by simp [hl]
    generalize (100 :: S.sha t) = T3 at *
    generalize S.sha t = d at *
    generalize dg d = D at *
    have HB0 : Hid (Bl w W) := HB
    have HC : Hid (∀ w1, Bl (W.alloc (.cells #[.int .i64 c, .string (M.bs t)] 47)) w1 → w1.cell? ⟨W.heap.size, 1, none⟩ = some (.string (M.bs t)) ∧ Bl W w1) := fun w1 h => ⟨by rw [Bl.cell h (by simp), Lib.cell_of_heap (heap_alloc_new _ _)]; rfl, ((Bl.refl W).alloc _).step h⟩
    clear hG hGW HB
    have HST : Hid (∀ w' : World, (w'.alloc (.cells zero32 51)).heap[w'.heap.size]? = some (.cells zero32 51 (0, 0))) := fun w' => heap_alloc_new _ _
    have HCV : Hid (∀ w' : World, (convert 82 9 (.slice (some ⟨w'.heap.size, 0, none⟩) 32 32)).run Tryz.prog (w'.alloc (.cells D 51)) = .ok (.string (M.bs d)) (w'.alloc (.cells D 51))) := fun w' => by
      have := run_convert_bytes_back (P := Tryz.prog) (w'.alloc (.cells D 51)) 82 9 5 ⟨w'.heap.size, 0, none⟩ 32 d Tryz.underlying82 Tryz.underlying5 Tryz.underlying9 (fun j hj => by
        rw [Addr.add_mid, Nat.zero_add, cell_of_row _ _ j D _ _ (heap_alloc_new _ _)]; exact hD.out j hj)
      rw [hl] at this
      exact this
    have hz := zero32_size
    go_enter Tryz.func19, Tryz.ntmps19
    go_wp2_with (first
      | (go_at_call 35; refine (CF.out _).mono ?_; clear CF; rintro e w1 ⟨rfl, H1⟩; obtain ⟨hc1, HBW⟩ := HC.out w1 H1; replace HBW : Hid (Bl W w1) := HBW; clear HC H1)
      | (go_at_call 37; refine (CO.out _ HBW.out).mono ?_; clear CO; rintro e w' ⟨rfl, HB⟩; have HB : Hid (Bl W w') := HB; have hcv := HCV.out w')
      | (refine wpList_store_row rfl 51 _ _ rfl w'.heap.size D rfl rfl 51 zero32 (HST.out w') (by rw [hsD]; exact info27) (by rw [hz, hsD]) h1.out ?_; clear HST; rw [World.setRow_alloc_new]))
    go_ret
    exact ⟨rfl, HB0.out.step (HB.out.alloc _)⟩
  · have e : O.told r = 101 :: M.numB r.1 := by unfold O.told; rw [if_neg h]
    have eb : O.isBad r = true := by unfold O.isBad; simp [h]
    rw [e]
    rw [eb] at CF
    have CN : Hid (∀ U, Bl W U → Calls Tryz.prog 36 #[.int .i64 r.1] U fun e w' => e = .returned (.string (M.bs (M.numB r.1))) ∧ Bl W w') := fun U hU => num_b r.1 hU hr.c1 (by have := hr.c2; omega)
    have hc1 := hr.c1
    have hc2 := hr.c2
    obtain ⟨c, t⟩ := r
    simp only at *
    have happ : (⟨#[101]⟩ : ByteArray) ++ M.bs (M.numB c) = M.bs (101 :: M.numB c) := by
      exact bs_append [101] _
    have hs1 := M.bs_size (M.numB c)
    have hs2 : (⟨#[101]⟩ : ByteArray).size = 1 := rfl
    have hn9 : (M.numB c).length ≤ 9 := by have := M.numB_len c; omega
    have HB0 : Hid (Bl w W) := HB
    have HC : Hid (∀ w1, Bl (W.alloc (.cells #[.int .i64 c, .string (M.bs t)] 47)) w1 → w1.cell? ⟨W.heap.size, 0, none⟩ = some (.int .i64 c) ∧ Bl W w1) := fun w1 h => ⟨by rw [Bl.cell h (by simp), Lib.cell_of_heap (heap_alloc_new _ _)]; rfl, ((Bl.refl W).alloc _).step h⟩
    unfold resV at *
    simp only at *
    clear hG hGW HB hr e eb
    generalize (101 :: M.numB c) = T3 at *
    generalize M.numB c = d at *
    go_enter Tryz.func19, Tryz.ntmps19
    go_wp2_with (first
      | (go_at_call 35; refine (CF.out _).mono ?_; clear CF; rintro e w1 ⟨rfl, H1⟩; obtain ⟨hc1, HBW⟩ := HC.out w1 H1; replace HBW : Hid (Bl W w1) := HBW; clear HC H1)
      | (go_at_call 36; refine (CN.out _ HBW.out).mono ?_; clear CN; rintro e w' ⟨rfl, HB⟩))
    go_ret
    exact ⟨rfl, HB0.out.step HB⟩
end Go.Proofs.YtjbffhdccgmfpaaGreatDoor

/- What oven.Key, oven.blobs, oven.Make answer. -/
namespace Go.Proofs.YtjbffhdccgmfpaaGreatDoor
open Go.RowKit
set_option linter.unusedVariables false
set_option linter.unusedSimpArgs false
attribute [local go_sem ↓] zero27

/-- texts in cells -/
def lyT : Lay (List UInt8) := ⟨1, fun t => [.string (M.bs t)], fun _ => rfl, fun x u hu => by simp at hu; subst hu; rfl, by decide⟩
theorem flT (l : List (List UInt8)) : flG lyT l = l.map encS := by
  unfold flG
  induction l with
  | nil => rfl
  | cons x r ih => rw [List.flatMap_cons, ih]; rfl
theorem infoS : (Tryz.prog.info? 9).map (fun i => (i.zero, i.size, i.bytes)) = some (some (.string ⟨#[]⟩), 1, 16) := by kernel_rfl
theorem undS : Tryz.prog.underlying 22 = some (.slice 9) := Tryz.underlying22
theorem infoR (r : O.Re) : (Tryz.prog.info? 47).map (·.size) = some (lyR.f r).length := by rw [lyR.len]; exact infoRes
theorem told_len (r : O.Re) : (O.told r).length ≤ 33 := by
  unfold O.told
  split
  · rw [List.length_cons, S.sha_length]; omega
  · rw [List.length_cons]; have := M.numB_len r.1; omega
theorem keyR_take {code : List UInt8} {l : List O.Re} {k : Nat} {r : O.Re} (h : l[k]? = some r) : O.keyR code (l.take (k + 1)) = O.keyR code (l.take k) ++ [O.told r] := by
  unfold O.keyR
  rw [List.take_add_one, h]
  simp
theorem keyR_le (code : List UInt8) (l : List O.Re) (hc : code.length ≤ 1000000) (hl : l.length ≤ 1000) : (M.rowB (O.keyR code l)).length ≤ 2000000000 := by
  have := rowB_le (O.keyR code l) 1000000 (fun t ht => by
    unfold O.keyR at ht
    rcases List.mem_append.1 ht with ht | ht
    · simp at ht
      rcases ht with rfl | rfl
      · simp [O.kAct]
      · exact hc
    · obtain ⟨r, _, rfl⟩ := List.mem_map.1 ht
      have := told_len r; omega)
  have h2 : (O.keyR code l).length = l.length + 2 := by simp [O.keyR]
  rw [h2] at this
  have h3 : (l.length + 2) * (1000000 + 9) ≤ 1002 * 1000009 := Nat.mul_le_mul (by omega) (by omega)
  omega

set_option maxRecDepth 8000 in
set_option maxHeartbeats 2000000 in
theorem Key_x (code : List UInt8) (l : List O.Re) (a : Option Addr) (c : Nat) {w W : World} (hG : GW w) (HB : Bl w W) (hv : RS lyR W a l) (hl : l.length ≤ 1000) (hok : ∀ r ∈ l, ReOk r) (hc : code.length ≤ 1000000) :
    Calls Tryz.prog 14 #[.string (M.bs code), .slice a l.length c] W fun e w' => e = .returned (.agg (dg (O.key code l))) ∧ Bl w w' := by
  have hGW : GW W := hG.below HB hG.z
  have HV : Hid (RS lyR W a l) := hv
  have HB0 : Hid (Bl w W) := HB
  have HG : Hid (GW W) := hGW
  have HO : Hid (∀ r ∈ l, ReOk r) := hok
  obtain ⟨fs, hum⟩ := undRes
  clear hG HB hGW hv hok
  go_enter Tryz.func14, Tryz.ntmps14
  go_wp2_with fail
  have HS0 : Hid (Bl (W.alloc (.cells zero32 51)) ((W.alloc (.cells zero32 51)).alloc (.cells #[.string (M.bs O.kAct), .string (M.bs code)] 9))) := (Bl.refl _).alloc _
  have HSO : Hid (((W.alloc (.cells zero32 51)).alloc (.cells #[.string (M.bs O.kAct), .string (M.bs code)] 9)).ownsRow (W.alloc (.cells zero32 51)).heap.size 9 1 (.slice (some ⟨W.heap.size + 1, 0, none⟩) 2 2) 2 (flG lyT (O.keyR code (l.take 0)))) := by
    have := TA.own_new (W.alloc (.cells zero32 51)) [O.kAct, code] (by unfold maxLen; simp)
    rw [show (W.alloc (.cells zero32 51)).heap.size = W.heap.size + 1 by simp] at this ⊢
    rw [flT]; exact this
  have HWZ : Hid (Bl W (W.alloc (.cells zero32 51))) := (Bl.refl W).alloc _
  have HZ0 : Hid ((W.alloc (.cells zero32 51)).heap[W.heap.size]? = some (.cells zero32 51 (0, 0))) := heap_alloc_new _ _
  have HZs : Hid ((W.alloc (.cells zero32 51)).heap.size = W.heap.size + 1) := by show _ = _; simp
  generalize hZ : (W.alloc (.cells zero32 51)) = Z at *
  go_loopw [5, 7, 12] (fun u5 u7 u12 wr => ∃ k : Nat, k ≤ l.length ∧ u12 = .int .i64 k ∧ (∃ a5 c5, u5 = .slice a5 (k + 2) c5) ∧ wr.ownsRow Z.heap.size 9 1 u5 (k + 2) (flG lyT (O.keyR code (l.take k))) ∧ Bl Z wr) (fun _ _ u12 _ => l.length - (intOf u12).toNat)
  case atStart =>
    exact ⟨0, Nat.zero_le _, rfl, ⟨_, _, rfl⟩, HSO.out, HS0.out⟩
  case round =>
    obtain ⟨k, hk, rfl, ⟨a5, c5, rfl⟩, hown, hbl⟩ := hrel
    have HOW : Hid (wr.ownsRow Z.heap.size 9 1 (.slice a5 (k + 2) c5) (k + 2) (flG lyT (O.keyR code (l.take k)))) := hown
    have HBR : Hid (Bl Z wr) := hbl
    clear hown hbl HS0 HSO
    by_cases hlt : k < l.length
    · obtain ⟨r, hr⟩ : ∃ r, l[k]? = some r := ⟨l[k], List.getElem?_eq_getElem hlt⟩
      obtain ⟨b, off, rfl, hb, hrg⟩ := (HV.out.bl HWZ.out).bl HBR.out k r hr
      have HKL : Hid (k + 2 = (O.keyR code (l.take k)).length) := by show _ = _; simp [O.keyR]; omega
      have HN : Hid (O.keyR code (l.take (k + 1)) = O.keyR code (l.take k) ++ [O.told r]) := keyR_take hr
      have CT : Hid (∀ U, Bl wr U → Calls Tryz.prog 19 #[.agg (resV r)] U fun e w' => e = .returned (.string (M.bs (O.told r))) ∧ Bl wr w') := fun U hU => told_at r ((HG.out.below HWZ.out HG.out.z).below HBR.out (by have := HG.out.z; have := HZs.out; omega)) hU (HO.out r (List.mem_of_getElem? hr))
      obtain ⟨rc, rb⟩ := r
      have HR : Hid (wr.rangeAt b (off + k * 2) [.int .i64 rc, .string (M.bs rb)]) := hrg
      generalize O.told (rc, rb) = T at *
      generalize O.keyR code (l.take k) = KS at *
      have HWr : Hid (Bl wr wr) := Bl.refl wr
      unfold resV at CT
      simp only at CT
      clear hr hrg HV HO
      go_wp2_with (first
        | (refine wpList_load_mid rfl 47 _ rfl b (off + k * 2) rfl [.int .i64 rc, .string (M.bs rb)] _ HR.out hum rfl infoRes ?_)
        | (go_at_call 19; refine (CT.out _ (HWr.out.alloc _)).mono ?_; clear CT; rintro e w1 ⟨rfl, H1⟩; replace H1 : Hid (Bl wr w1) := H1)
        | (refine wl_app1G lyT (w := Z) (W := w1) 9 22 (.string ⟨#[]⟩) 16 undS infoS rfl (by omega) rfl _ _ rfl (k + 2) KS HKL.out T _ rfl (HBR.out.step H1.out) (ownsRow_bl HOW.out H1.out) rfl (by omega) ?_ _ rfl rfl; intro a' c' w2 h2 hb2 _))
      go_roundw
      case rel => exact ⟨k + 1, by omega, by go_num, ⟨_, _, rfl⟩, by rw [HN.out]; exact h2, hb2⟩
      case measure => simp [intOf]; omega
    · obtain rfl : k = l.length := by omega
      have hS : Strs wr.heap.size wr (.slice a5 (l.length + 2) c5) (O.keyR code l) := by
        have h := HOW.out
        rw [List.take_length, flT, show l.length + 2 = (O.keyR code l).length by simp [O.keyR]] at h
        have := strs_of_owns h
        rwa [show (O.keyR code l).length = l.length + 2 by simp [O.keyR]] at this
      have CR : Hid (Calls Tryz.prog 20 #[.slice a5 (l.length + 2) c5] wr fun e w' => e = .returned (.agg (dg (O.key code l))) ∧ Bl wr w') := by
        have := keyR_le code l hc hl
        refine Row_at (O.keyR code l) _ wr ((HG.out.below HWZ.out HG.out.z).below HBR.out (by have := HG.out.z; have := HZs.out; omega)) hS (by omega) (by simp [O.keyR]; omega)
      have hkl : (O.key code l).length = 32 := S.sha_length _
      have HF : Hid (∀ w1, Bl wr w1 → w1.heap[W.heap.size]? = some (.cells zero32 51 (0, 0))) := fun w1 h1 => by
        have := Below.size HBR.out
        have := HZs.out
        rw [Below.block h1 _ (by omega), Below.block HBR.out _ (by omega)]; exact HZ0.out
      go_wp2_with (first
        | (go_at_call 20; refine CR.out.mono ?_; clear CR; rintro e w1 ⟨rfl, H1⟩; have hf := HF.out w1 H1)
        | refine wpList_store_row rfl 51 _ _ rfl W.heap.size _ rfl rfl 51 zero32 hf (by rw [dg_size, hkl]; exact info27) (by rw [dg_size, hkl]; exact zero32_size) (dg_one _) ?_)
      (try simp only [Exit.inBlock, Exit.then])
      refine bodyPost_ret (results_cell_row rfl _ _ _ 51 _ (0, 0) _ rfl (setRow_heap _ _ _ _ _ _ hf) und27 rfl (by rw [dg_size, hkl]; exact info27)) rfl ?_
      refine ⟨rfl, below_setRow ?_ (Below.size HB0.out) _⟩
      exact HB0.out.step (HWZ.out.step (HBR.out.step H1))
end Go.Proofs.YtjbffhdccgmfpaaGreatDoor

/- What oven.blobs, oven.Make answer. -/
namespace Go.Proofs.YtjbffhdccgmfpaaGreatDoor
open Go.RowKit
set_option linter.unusedVariables false
set_option linter.unusedSimpArgs false

theorem Bl.set {w W : World} {b : Nat} (h : Bl w W) (hb : w.heap.size ≤ b) (i : Nat) (v : Value) : Bl w (W.setCell ⟨b, i, none⟩ v) := Below.trans h (Below.setCell (Below.refl _ W) hb _)
/-- the blobs of the first k results -/
def blT (l : List O.Re) (k : Nat) : List (List UInt8) := (l.take k).map (·.2)
theorem blT_succ {l : List O.Re} {k : Nat} {r : O.Re} (h : l[k]? = some r) : blT l (k + 1) = blT l k ++ [r.2] := by
  unfold blT
  rw [List.take_add_one, h]; simp
/-- what blobs leaves behind -/
def BlP (l : List O.Re) (w : World) (e : Ending) (w' : World) : Prop :=
  (O.bad l = true ∧ e = .returned (.tuple #[.slice none 0 0, .bool false]) ∧ Bl w w') ∨ (∃ a c, O.bad l = false ∧ e = .returned (.tuple #[.slice a l.length c, .bool true]) ∧ RS lyT w' a (l.map (·.2)) ∧ Bl w w')
set_option maxRecDepth 8000 in
set_option maxHeartbeats 2000000 in
theorem blobs_x (l : List O.Re) (a : Option Addr) (c : Nat) {W : World} (hv : RS lyR W a l) (hl : l.length ≤ 1000) :
    Calls Tryz.prog 64 #[.slice a l.length c] W (BlP l W) := by
  have HV : Hid (RS lyR W a l) := hv
  obtain ⟨fs, hum⟩ := undRes
  clear hv
  go_enter Tryz.func64, Tryz.ntmps64
  go_wp2_with fail
  have HPP : Hid (BlP l W = fun e w' => (O.bad l = true ∧ e = .returned (.tuple #[.slice none 0 0, .bool false]) ∧ Bl W w') ∨ (∃ a c, O.bad l = false ∧ e = .returned (.tuple #[.slice a l.length c, .bool true]) ∧ RS lyT w' a (l.map (·.2)) ∧ Bl W w')) := rfl
  go_loopw [4, 6, 9] (fun u4 u6 u9 wr => ∃ k : Nat, k ≤ l.length ∧ u9 = .int .i64 k ∧ (∃ a4 c4, u4 = .slice a4 k c4) ∧ O.bad (l.take k) = false ∧ wr.ownsRow W.heap.size 9 1 u4 k (flG lyT (blT l k)) ∧ Bl W wr) (fun _ _ u9 _ => l.length - (intOf u9).toNat)
  case atStart =>
    exact ⟨0, Nat.zero_le _, rfl, ⟨_, _, rfl⟩, rfl, World.ownsRow_nil _ _ _ _, Bl.refl W⟩
  case round =>
    obtain ⟨k, hk, rfl, ⟨a4, c4, rfl⟩, hbad, hown, hbl⟩ := hrel
    have HOW : Hid (wr.ownsRow W.heap.size 9 1 (.slice a4 k c4) k (flG lyT (blT l k))) := hown
    have HBR : Hid (Bl W wr) := hbl
    have HBD : Hid (O.bad (l.take k) = false) := hbad
    clear hown hbl hbad
    by_cases hlt : k < l.length
    · obtain ⟨r, hr⟩ : ∃ r, l[k]? = some r := ⟨l[k], List.getElem?_eq_getElem hlt⟩
      obtain ⟨b, off, rfl, hb, hrg⟩ := HV.out.bl HBR.out k r hr
      have HKL : Hid (k = (blT l k).length) := by show _ = _; simp [blT]; omega
      have HN : Hid (blT l (k + 1) = blT l k ++ [r.2]) := blT_succ hr
      have CF : Hid (∀ U, Calls Tryz.prog 35 #[.agg (resV r)] U fun e w' => e = .returned (.bool (O.isBad r)) ∧ Bl U w') := fun U => failed_at r U
      obtain ⟨q, hq⟩ : ∃ q, O.isBad r = q := ⟨_, rfl⟩
      rw [hq] at CF
      have HQ1 : Hid (q = true → O.bad l = true) := fun e => by
        unfold O.bad
        exact List.any_eq_true.2 ⟨r, List.mem_of_getElem? hr, by rw [hq]; exact e⟩
      have HQ2 : Hid (q = false → O.bad (l.take (k + 1)) = false) := fun e => by
        have := HBD.out
        unfold O.bad at this ⊢
        rw [List.take_add_one, hr, List.any_append, this]
        simp [hq, e]
      obtain ⟨rc, rb⟩ := r
      have HR : Hid (wr.rangeAt b (off + k * 2) [.int .i64 rc, .string (M.bs rb)]) := hrg
      generalize blT l k = KS at *
      have HWr : Hid (Bl wr (wr.alloc (.cells #[.int .i64 rc, .string (M.bs rb)] 47))) := (Bl.refl wr).alloc _
      have HC : Hid (∀ w1, Bl (wr.alloc (.cells #[.int .i64 rc, .string (M.bs rb)] 47)) w1 → w1.cell? ⟨wr.heap.size, 1, none⟩ = some (.string (M.bs rb))) := fun w1 h => by rw [Bl.cell h (by simp), Lib.cell_of_heap (heap_alloc_new _ _)]; rfl
      unfold resV at CF
      simp only at CF HN
      clear hr hrg HV hq
      cases q
      · go_wp2_with (first
          | (refine wpList_load_mid rfl 47 _ rfl b (off + k * 2) rfl [.int .i64 rc, .string (M.bs rb)] _ HR.out hum rfl infoRes ?_)
          | (go_at_call 35; refine (CF.out _).mono ?_; clear CF; rintro e w1 ⟨rfl, H0⟩; have hc1 := HC.out w1 H0; have H1 : Hid (Bl wr w1) := HWr.out.step H0; clear H0 HC)
          | (refine wl_app1G lyT (w := W) (W := w1) 9 22 (.string ⟨#[]⟩) 16 undS infoS rfl (by omega) rfl _ _ rfl k KS HKL.out rb _ rfl (HBR.out.step H1.out) (ownsRow_bl HOW.out H1.out) rfl (by omega) ?_ _ rfl rfl; intro a' c' w2 h2 hb2 _))
        go_roundw
        case rel => exact ⟨k + 1, by omega, by go_num, ⟨_, _, rfl⟩, HQ2.out trivial, by rw [HN.out]; exact h2, hb2⟩
        case measure => simp [intOf]; omega
      · go_wp2_with (first
          | (refine wpList_load_mid rfl 47 _ rfl b (off + k * 2) rfl [.int .i64 rc, .string (M.bs rb)] _ HR.out hum rfl infoRes ?_)
          | (go_at_call 35; refine (CF.out _).mono ?_; clear CF; rintro e w1 ⟨rfl, H0⟩; have hc1 := HC.out w1 H0; have H1 : Hid (Bl wr w1) := HWr.out.step H0; clear H0 HC))
        go_ret2
        rw [HPP.out]
        exact Or.inl ⟨HQ1.out trivial, rfl, HBR.out.step H1.out⟩
    · obtain rfl : k = l.length := by omega
      have HRS : Hid (RS lyT wr a4 (l.map (·.2))) := by
        have h := HOW.out
        unfold blT at h
        rw [List.take_length] at h
        have h' : wr.ownsRow W.heap.size 9 lyT.k (.slice a4 l.length c4) (l.map (·.2)).length (flG lyT (l.map (·.2))) := by rw [List.length_map]; exact h
        obtain ⟨x, y, e, hrs⟩ := owns_rs lyT h'
        simp only [Value.slice.injEq] at e
        rw [e.1]; exact hrs
      have HB2 : Hid (O.bad l = false) := by have := HBD.out; rw [List.take_length] at this; exact this
      go_wp2_with fail
      go_ret2
      rw [HPP.out]
      exact Or.inr ⟨_, _, HB2.out, rfl, HRS.out, HBR.out⟩
theorem tx_of {W : World} {a : Option Addr} {l : List (List UInt8)} (h : RS lyT W a l) : TX W a l := fun i t ht => by
  obtain ⟨b, off, h1, h2, h3⟩ := h i t ht
  refine ⟨b, off, h1, h2, ?_⟩
  have := h3 0 (.string (M.bs t)) rfl
  rwa [show off + i * lyT.k + 0 = off + i from by simp [lyT]] at this
theorem run_ok (code : List UInt8) (xs : List (List UInt8)) : (Q.run code xs).code ≤ 33 ∧ (Q.run code xs).blob.length ≤ 512 := by
  have h := Q.good_run code xs
  exact ⟨by rcases h.c with h | h | h | h | h | h <;> omega, h.l⟩
theorem mk_ok (code : List UInt8) (l : List O.Re) : ReOk (O.mk code l) ∧ 0 ≤ (O.mk code l).1 ∧ (O.mk code l).1 ≤ 34 ∧ (O.mk code l).2.length ≤ 512 := by
  unfold O.mk
  split
  · exact ⟨⟨by decide, by decide, by simp⟩, by decide, by decide, by simp⟩
  · have := run_ok code (l.map (·.2))
    exact ⟨⟨by simp only; omega, by simp only; omega, by simp only; omega⟩, by simp only; omega, by simp only; omega, by simp only; omega⟩
set_option maxRecDepth 8000 in
set_option maxHeartbeats 2000000 in
theorem Make_x (code : List UInt8) (l : List O.Re) (a : Option Addr) (c : Nat) {w W : World} (hG : GW w) (hT : Tab w) (HB : Bl w W) (hv : RS lyR W a l) (hl : l.length ≤ 1000) (hok : ∀ r ∈ l, ReOk r) (hc : code.length ≤ 1000000) :
    Calls Tryz.prog 43 #[.string (M.bs code), .slice a l.length c] W fun e w' => e = .returned (.agg (resV (O.mk code l))) ∧ Bl W w' := by
  have HWZ : Hid (Bl W (W.alloc (.cells #[.int .i64 0, .string ⟨#[]⟩] 47))) := (Bl.refl W).alloc _
  have HZ0 : Hid ((W.alloc (.cells #[.int .i64 0, .string ⟨#[]⟩] 47)).heap[W.heap.size]? = some (.cells #[.int .i64 0, .string ⟨#[]⟩] 47 (0, 0))) := heap_alloc_new _ _
  have HZs : Hid (W.heap.size < (W.alloc (.cells #[.int .i64 0, .string ⟨#[]⟩] 47)).heap.size) := by show _ < _; simp
  have CB : Hid (Calls Tryz.prog 64 #[.slice a l.length c] (W.alloc (.cells #[.int .i64 0, .string ⟨#[]⟩] 47)) (BlP l (W.alloc (.cells #[.int .i64 0, .string ⟨#[]⟩] 47)))) := blobs_x l a c (hv.bl HWZ.out) hl
  have HGW : Hid (∀ U, Bl W U → GB U U ∧ Tab U) := fun U h => ⟨GB.refl (hG.below (HB.step h) hG.z), hT.below (HB.step h)⟩
  obtain ⟨fs, hum⟩ := undRes
  have hs := M.bs_size code
  cases hbad : O.bad l with
  | true =>
    have e : O.mk code l = (34, []) := by unfold O.mk; rw [if_pos hbad]
    rw [e]
    have CB2 : Hid (Calls Tryz.prog 64 #[.slice a l.length c] (W.alloc (.cells #[.int .i64 0, .string ⟨#[]⟩] 47)) fun e w' => e = .returned (.tuple #[.slice none 0 0, .bool false]) ∧ Bl (W.alloc (.cells #[.int .i64 0, .string ⟨#[]⟩] 47)) w') := by
      refine CB.out.mono ?_
      rintro e w1 (⟨_, rfl, h⟩ | ⟨_, _, h, _⟩)
      · exact ⟨rfl, h⟩
      · rw [hbad] at h; cases h
    clear hG hT hv hok HGW e HB CB
    go_enter Tryz.func43, Tryz.ntmps43
    have HF : Hid (∀ w1, Bl (W.alloc (.cells #[.int .i64 0, .string ⟨#[]⟩] 47)) w1 → w1.heap[W.heap.size]? = some (.cells #[.int .i64 0, .string ⟨#[]⟩] 47 (0, 0))) := fun w1 h1 => by rw [Below.block h1 _ HZs.out]; exact HZ0.out
    go_wp2_with (first
      | (go_at_call 64; refine CB2.out.mono ?_; clear CB2; rintro e w1 ⟨rfl, H1⟩; have hf := HF.out w1 H1; have r0 : w1.cell? ⟨W.heap.size, 0, none⟩ = some (.int .i64 0) := (by simp [World.cell?, hf]); have r1 : w1.cell? ⟨W.heap.size, 1, none⟩ = some (.string ⟨#[]⟩) := (by simp [World.cell?, hf]); have f0 := frozen_rowM hf; have HRW : Hid _ := hf; clear hf))
    (try simp only [Exit.inBlock, Exit.then])
    refine bodyPost_ret (results_cell_row rfl _ _ _ 47 #[.int .i64 34, .string ⟨#[]⟩] (0, 0) _ rfl (heap_setCell_rowM (heap_setCell_rowM HRW.out)) hum rfl infoRes) rfl ?_
    exact ⟨rfl, ((HWZ.out.step H1).set (Nat.le_refl _) _ _).set (Nat.le_refl _) _ _⟩
  | false =>
    have e : O.mk code l = (((Q.run code (l.map (·.2))).code : Int), (Q.run code (l.map (·.2))).blob) := by unfold O.mk; rw [hbad]; rfl
    rw [e]
    have CR : Hid (∀ U a2 c2, Bl W U → RS lyT U a2 (l.map (·.2)) → Calls Tryz.prog 65 #[.string (M.bs code), .slice a2 l.length c2] U fun e w' => e = .returned (.tuple #[.agg #[.int .i64 ((Q.run code (l.map (·.2))).code : Int), .string (M.bs (Q.run code (l.map (·.2))).blob)], .int .i64 ((Q.run code (l.map (·.2))).n : Int)]) ∧ Bl U w') := fun U a2 c2 hU hr => by
      obtain ⟨g1, g2⟩ := HGW.out U hU
      have h := Run_at code (l.map (·.2)) a2 c2 g1 g2 (tx_of hr) (by omega) (by rw [List.length_map]; omega) (fun t ht => by
        obtain ⟨r, hr, rfl⟩ := List.mem_map.1 ht
        have := (hok r hr).l; omega)
      rw [List.length_map] at h
      refine h.mono ?_
      rintro e w' ⟨rfl, hb⟩
      exact ⟨rfl, hb.b⟩
    have hro := run_ok code (l.map (·.2))
    generalize Q.run code (l.map (·.2)) = R at *
    have HF : Hid (∀ w1, Bl (W.alloc (.cells #[.int .i64 0, .string ⟨#[]⟩] 47)) w1 → w1.heap[W.heap.size]? = some (.cells #[.int .i64 0, .string ⟨#[]⟩] 47 (0, 0))) := fun w1 h1 => by rw [Below.block h1 _ HZs.out]; exact HZ0.out
    have CB2 : Hid (Calls Tryz.prog 64 #[.slice a l.length c] (W.alloc (.cells #[.int .i64 0, .string ⟨#[]⟩] 47)) fun e w' => ∃ a2 c2, e = .returned (.tuple #[.slice a2 l.length c2, .bool true]) ∧ RS lyT w' a2 (l.map (·.2)) ∧ Bl (W.alloc (.cells #[.int .i64 0, .string ⟨#[]⟩] 47)) w') := by
      refine CB.out.mono ?_
      rintro e w1 (⟨h, _⟩ | ⟨a2, c2, _, rfl, h1, h2⟩)
      · rw [hbad] at h; cases h
      · exact ⟨_, _, rfl, h1, h2⟩
    clear hG hT hv hok HGW e HB CB
    go_enter Tryz.func43, Tryz.ntmps43
    go_wp2_with (first
      | (go_at_call 64; refine CB2.out.mono ?_; clear CB2; rintro e w1 ⟨a2, c2, rfl, hrs, H1⟩)
      | (go_at_call 65; refine (CR.out _ a2 c2 (HWZ.out.step H1) hrs).mono ?_; clear CR; rintro e w2 ⟨rfl, H2⟩; have hf := HF.out _ ((H1.step H2).alloc (.cells #[.int .i64 (R.code : Int), .string (M.bs R.blob)] 47)); have r0 : (w2.alloc (.cells #[.int .i64 (R.code : Int), .string (M.bs R.blob)] 47)).cell? ⟨W.heap.size, 0, none⟩ = some (.int .i64 0) := (by rw [Lib.cell_of_heap hf]; rfl); have r1 : (w2.alloc (.cells #[.int .i64 (R.code : Int), .string (M.bs R.blob)] 47)).cell? ⟨W.heap.size, 1, none⟩ = some (.string ⟨#[]⟩) := (by rw [Lib.cell_of_heap hf]; rfl); have f0 := frozen_rowM hf; have HRW : Hid _ := hf; clear hf))
    (try simp only [Exit.inBlock, Exit.then])
    refine bodyPost_ret (results_cell_row rfl _ _ _ 47 #[.int .i64 (R.code : Int), .string (M.bs R.blob)] (0, 0) _ rfl (heap_setCell_rowM (heap_setCell_rowM HRW.out)) hum rfl infoRes) rfl ?_
    exact ⟨rfl, (((HWZ.out.step (H1.step H2)).alloc _).set (Nat.le_refl _) _ _).set (Nat.le_refl _) _ _⟩
end Go.Proofs.YtjbffhdccgmfpaaGreatDoor
