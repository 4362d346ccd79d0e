/- Rings of actions, and chains: on lists. -/
import Derived.Test.YthpdmeoljdmncaaTM4
namespace Go.Proofs.Ythpdmeoljdmncaa
open RC TR
set_option linter.unusedVariables false

/-- a build without its codes -/
def bare (g : Gr) : Gr := (g.1, g.2.map fun a => (a.1, a.2.1, []))
theorem bare_nm (g : Gr) : nm (bare g) = nm g := by simp [nm, bare]
theorem bare_len (g : Gr) : (bare g).2.length = g.2.length := by simp [bare]
theorem bare_at (g : Gr) (p : Nat) : (bare g).2[p]? = (g.2[p]?).map fun a => (a.1, a.2.1, []) := by simp [bare]
theorem bare_ins (g : Gr) (p : Nat) : insO (bare g) p = insO g p := by
  unfold insO
  rw [bare_at]
  cases g.2[p]? <;> rfl
theorem bare_ready (g : Gr) (th : Nat) (a : Ac) : ready (bare g) th (a.1, a.2.1, []) = ready g th a := by
  unfold ready; rw [bare_nm]
theorem bare_find (g : Gr) (th : Nat) : (bare g).2.findIdx? (ready (bare g) th) = g.2.findIdx? (ready g th) := by
  show (g.2.map _).findIdx? _ = _
  rw [List.findIdx?_map]
  congr 1
  funext a
  exact bare_ready g th a
theorem bare_take (g : Gr) (st : St) (p : Nat) : take (bare g) st p = take g st p := by
  unfold take needN
  rw [bare_nm, bare_ins]
  rfl
theorem bare_arr (g : Gr) : ∀ (k : Nat) (st : St), arr (bare g) k st = arr g k st
  | 0, st => rfl
  | k + 1, st => by
    unfold arr
    rw [bare_find]
    cases g.2.findIdx? (ready g st.there) with
    | none => rfl
    | some p =>
      simp only []
      rw [bare_take]; exact bare_arr g k _
theorem bare_st0 (g : Gr) : st0 (bare g) = st0 g := by unfold st0; rw [bare_nm]; rfl
theorem bare_miss (g : Gr) : miss (bare g) = miss g := by
  unfold miss
  rw [bare_nm]
  show (g.2.map _).any _ = _
  rw [List.any_map]
  rfl
theorem bare_can (g : Gr) (h : ∀ a ∈ g.2, a.2.2.length ≤ 64) : can (bare g) = can g := by
  unfold can
  rw [bare_len]
  have e : (bare g).2.all canA = g.2.all canA := by
    show (g.2.map _).all _ = _
    rw [List.all_map]
    rw [Bool.eq_iff_iff, List.all_eq_true, List.all_eq_true]
    have key : ∀ a ∈ g.2, (canA (a.1, a.2.1, []) = true ↔ canA a = true) := fun a ha => by
      unfold canA
      have := h a ha
      simp [this]
    exact ⟨fun h1 a ha => (key a ha).1 (h1 a ha), fun h1 a ha => (key a ha).2 (h1 a ha)⟩
  rw [e]
  rfl
theorem bare_chk (g : Gr) (h : ∀ a ∈ g.2, a.2.2.length ≤ 64) : chk (bare g) = chk g := by
  unfold chk
  rw [bare_can g h, bare_nm, bare_miss, bare_len, bare_arr, bare_st0]
theorem bare_fin (g : Gr) : fin (bare g) = fin g := by unfold fin; rw [bare_len, bare_arr, bare_st0]
theorem bare_ord (g : Gr) (h : ∀ a ∈ g.2, a.2.2.length ≤ 64) : ordL (bare g) = ordL g := by unfold ordL; rw [bare_chk g h, bare_fin]
theorem bare_plc (g : Gr) (s : List UInt8) : plc (bare g) s = plc g s := by
  unfold plc
  show (g.2.map _).findIdx? _ = _
  rw [List.findIdx?_map]
  rfl
theorem bare_nd (g : Gr) (h : ∀ a ∈ g.2, a.2.2.length ≤ 64) (s : List UInt8) : ndL (bare g) s = ndL g s := by
  unfold ndL ndK
  rw [bare_chk g h, bare_fin, bare_plc, bare_nm]
theorem bare_dr (g : Gr) (h : ∀ a ∈ g.2, a.2.2.length ≤ 64) (xs : List (List UInt8)) : drL (bare g) xs = drL g xs := by
  unfold drL
  rw [bare_chk g h, bare_fin, bare_nm, bare_len]
  rfl
/-- the name of place i -/
def tn (i : Nat) : List UInt8 := [116, UInt8.ofNat (97 + i)]
def rgA (m : Nat) (c : List UInt8) (i : Nat) : Ac := (tn i, [tn ((i + 1) % m)], c)
/-- the ring of m actions, up to place k -/
def rg (m : Nat) (c : List UInt8) (k : Nat) : Gr := ([], (List.range k).map (rgA m c))
/-- the chain -/
def chn (m : Nat) (c : List UInt8) : Gr := ([], (List.range (m - 1)).map (rgA m c) ++ [(tn (m - 1), [], c)])
theorem rg_codes (m : Nat) (c : List UInt8) (k : Nat) (h : c.length ≤ 64) : ∀ a ∈ (rg m c k).2, a.2.2.length ≤ 64 := by
  intro a ha
  obtain ⟨i, _, rfl⟩ := List.mem_map.1 ha
  exact h
theorem chn_codes (m : Nat) (c : List UInt8) (h : c.length ≤ 64) : ∀ a ∈ (chn m c).2, a.2.2.length ≤ 64 := by
  intro a ha
  rcases List.mem_append.1 ha with h1 | h1
  · obtain ⟨i, _, rfl⟩ := List.mem_map.1 h1; exact h
  · simp at h1; rw [h1]; exact h
theorem rg_bare (m : Nat) (c : List UInt8) (k : Nat) : bare (rg m c k) = rg m [] k := by simp [bare, rg, rgA]
theorem chn_bare (m : Nat) (c : List UInt8) : bare (chn m c) = chn m [] := by simp [bare, chn, rgA]
theorem rg_fact : ∀ m : Fin 12, chk (rg (m.val + 1) [] (m.val + 1)) = 23 := by decide +kernel
theorem chn_fact : ∀ m : Fin 12, chk (chn (m.val + 1) []) = 0 ∧ (fin (chn (m.val + 1) [])).order = (List.range (m.val + 1)).map (fun i => m.val - i) ∧ plc (chn (m.val + 1) []) (tn 0) = some 0 ∧ (nin (nm (chn (m.val + 1) [])) (ndAt (fin (chn (m.val + 1) [])).needs 0) (nm (chn (m.val + 1) [])).length).length = m.val := by decide +kernel
theorem rg_chk {m : Nat} (h1 : 1 ≤ m) (h2 : m ≤ 12) {c : List UInt8} (hc : c.length ≤ 64) : chk (rg m c m) = 23 := by
  rw [← bare_chk _ (rg_codes m c m hc), rg_bare]
  have := rg_fact ⟨m - 1, by omega⟩
  simp only [Nat.sub_add_cancel h1] at this
  exact this
theorem rg_ord {m : Nat} (h1 : 1 ≤ m) (h2 : m ≤ 12) {c : List UInt8} (hc : c.length ≤ 64) : ordL (rg m c m) = [] := by unfold ordL; rw [if_neg (by rw [rg_chk h1 h2 hc]; decide)]
theorem rg_nd {m : Nat} (h1 : 1 ≤ m) (h2 : m ≤ 12) {c : List UInt8} (hc : c.length ≤ 64) (s : List UInt8) : ndL (rg m c m) s = [] := by unfold ndL; rw [if_neg (by rw [rg_chk h1 h2 hc]; decide)]
theorem rg_dr {m : Nat} (h1 : 1 ≤ m) (h2 : m ≤ 12) {c : List UInt8} (hc : c.length ≤ 64) (xs : List (List UInt8)) : drL (rg m c m) xs = [] := by unfold drL; rw [if_neg (by rw [rg_chk h1 h2 hc]; decide)]
theorem chn_all {m : Nat} (h1 : 1 ≤ m) (h2 : m ≤ 12) {c : List UInt8} (hc : c.length ≤ 64) : chk (chn m c) = 0 ∧ ordL (chn m c) = (List.range m).map (fun i => m - 1 - i) ∧ (ndL (chn m c) (tn 0)).length = m - 1 := by
  obtain ⟨f1, f2, f3, f4⟩ := chn_fact ⟨m - 1, by omega⟩
  simp only [Nat.sub_add_cancel h1] at f1 f2 f3 f4
  rw [← bare_chk _ (chn_codes m c hc), ← bare_ord _ (chn_codes m c hc), ← bare_nd _ (chn_codes m c hc), chn_bare]
  refine ⟨f1, ?_, ?_⟩
  · unfold ordL; rw [if_pos f1]; exact f2
  · unfold ndL ndK
    rw [if_pos f1, f3]
    simp only [srt, List.length_mergeSort]
    exact f4
end Go.Proofs.Ythpdmeoljdmncaa
