/- SapBack's walk: numbers, texts and a row one behind the other are read as they were. -/
import Derived.Test.YtfpeohlfofcbjaaW9
import Derived.Test.YtfpeohlfofcbjaaRows
namespace Go.Proofs.Ytfpeohlfofcbjaa
open Go.RowKit
set_option linter.unusedVariables false

def numsB (ns : List Int) : List UInt8 := (ns.map M.numB).flatten
def pn (ns : List Int) (k : Nat) : List UInt8 := numsB (ns.take k)
def q2 (ns : List Int) (ts : List (List UInt8)) (k : Nat) : List UInt8 := numsB ns ++ M.textsB (ts.take k)
def g4 (ts : List (List UInt8)) (more : List UInt8) (k : Nat) : List UInt8 := M.textsB (ts.drop k) ++ (M.rowB ts ++ more)
def g3 (ns : List Int) (ts : List (List UInt8)) (more : List UInt8) (k : Nat) : List UInt8 := numsB (ns.drop k) ++ g4 ts more 0
def r3 (ns : List Int) (ts : List (List UInt8)) : List UInt8 := numsB ns ++ (M.textsB ts ++ M.rowB ts)

theorem pn_succ (ns : List Int) (k : Nat) (x : Int) (h : ns[k]? = some x) : pn ns (k + 1) = pn ns k ++ M.numB x := by
  unfold pn; rw [List.take_add_one, h]; simp [numsB]
theorem pn_all (ns : List Int) : pn ns ns.length = numsB ns := by simp [pn]
theorem numsB_len (ns : List Int) : (numsB ns).length ≤ ns.length * 9 := by
  induction ns with
  | nil => simp [numsB]
  | cons x ns ih =>
    have e : numsB (x :: ns) = M.numB x ++ numsB ns := by simp [numsB]
    have := M.numB_len x
    rw [e, List.length_append, List.length_cons, Nat.succ_mul]
    omega
theorem pn_len (ns : List Int) (k : Nat) (hn : ns.length ≤ 60) : (pn ns k).length ≤ 540 := by
  have h := numsB_len (ns.take k)
  have h2 : (ns.take k).length ≤ ns.length := by simp; omega
  unfold pn
  omega
theorem q2_succ (ns : List Int) (ts : List (List UInt8)) (k : Nat) (t : List UInt8) (h : ts[k]? = some t) : q2 ns ts (k + 1) = q2 ns ts k ++ M.textB t := by
  unfold q2; rw [List.take_add_one, h]; simp [M.textsB]
theorem q2_zero (ns : List Int) (ts : List (List UInt8)) : q2 ns ts 0 = pn ns ns.length := by rw [pn_all]; simp [q2, M.textsB]
theorem q2_all (ns : List Int) (ts : List (List UInt8)) : q2 ns ts ts.length ++ M.rowB ts = r3 ns ts := by simp [q2, r3]
theorem r3_more (ns : List Int) (ts : List (List UInt8)) (more : List UInt8) : r3 ns ts ++ more = g3 ns ts more 0 := by simp [r3, g3, g4]
theorem q2_len (ns : List Int) (ts : List (List UInt8)) (k : Nat) (hn : ns.length ≤ 60) (hm : ts.length ≤ 60) (h : ∀ t ∈ ts, t.length ≤ 4096) : (q2 ns ts k).length ≤ 250000 := by
  have h1 := numsB_len ns
  have h2 := textsB_le (ts.take k) 4096 (fun t ht => h t (List.mem_of_mem_take ht))
  have h3 : (ts.take k).length ≤ 60 := by simp; omega
  unfold q2
  rw [List.length_append]
  omega
theorem g3_succ (ns : List Int) (ts : List (List UInt8)) (more : List UInt8) (k : Nat) (x : Int) (h : ns[k]? = some x) : g3 ns ts more k = M.numB x ++ g3 ns ts more (k + 1) := by
  have hk : k < ns.length := (List.getElem?_eq_some_iff.1 h).1
  have e : ns.drop k = x :: ns.drop (k + 1) := by
    rw [List.drop_eq_getElem_cons hk]
    rw [List.getElem?_eq_getElem hk] at h
    rw [Option.some.inj h]
  unfold g3
  rw [e]
  simp [numsB]
theorem g3_all (ns : List Int) (ts : List (List UInt8)) (more : List UInt8) : g3 ns ts more ns.length = g4 ts more 0 := by simp [g3, numsB]
theorem g4_succ (ts : List (List UInt8)) (more : List UInt8) (k : Nat) (t : List UInt8) (h : ts[k]? = some t) : g4 ts more k = M.textB t ++ g4 ts more (k + 1) := by
  have hk : k < ts.length := (List.getElem?_eq_some_iff.1 h).1
  have e : ts.drop k = t :: ts.drop (k + 1) := by
    rw [List.drop_eq_getElem_cons hk]
    rw [List.getElem?_eq_getElem hk] at h
    rw [Option.some.inj h]
  unfold g4
  rw [e]
  simp [M.textsB]
theorem g4_all (ts : List (List UInt8)) (more : List UInt8) : g4 ts more ts.length = M.rowB ts ++ more := by simp [g4, M.textsB]
theorem g4_le (ts : List (List UInt8)) (more : List UInt8) (k : Nat) : (g4 ts more k).length ≤ (g4 ts more 0).length := by
  have e : M.textsB ts = M.textsB (ts.take k) ++ M.textsB (ts.drop k) := by
    unfold M.textsB
    rw [← List.flatten_append, ← List.map_append, List.take_append_drop]
  unfold g4
  simp only [List.drop_zero, List.length_append]
  rw [e, List.length_append]
  omega
theorem g3_le (ns : List Int) (ts : List (List UInt8)) (more : List UInt8) (k : Nat) : (g3 ns ts more k).length ≤ (g3 ns ts more 0).length := by
  have e : numsB ns = numsB (ns.take k) ++ numsB (ns.drop k) := by
    unfold numsB
    rw [← List.flatten_append, ← List.map_append, List.take_append_drop]
  unfold g3
  simp only [List.drop_zero, List.length_append]
  rw [e, List.length_append]
  omega
theorem g3_len (ns : List Int) (ts : List (List UInt8)) (more : List UInt8) (hn : ns.length ≤ 60) (hm : ts.length ≤ 60) (h : ∀ t ∈ ts, t.length ≤ 4096) : (g3 ns ts more 0).length ≤ more.length + 1000000 := by
  have h1 := numsB_len ns
  have h2 := textsB_le ts 4096 h
  have h3 := rowB_le ts 4096 h
  unfold g3 g4
  simp only [List.drop_zero, List.length_append]
  omega

set_option maxHeartbeats 1000000 in
theorem sapBack_many (a1 a2 : Option Addr) (n1 c1 n2 c2 : Nat) (s : ByteArray) (w : World) (h1 : n1 ≤ maxLen) (h2 : n2 ≤ maxLen) (h : 60 < n1 ∨ (n1 ≤ 60 ∧ 60 < n2)) :
    Calls Try.prog 5 #[.slice a1 n1 c1, .slice a2 n2 c2, .string s] w fun e w' => e = .returned (.bool true) ∧ Below w.heap.size w w' := by
  have HB : Bl w w := Bl.refl w
  unfold maxLen at h1 h2
  rcases h with h | ⟨h, h'⟩
  all_goals
    go_enter Try.func5, Try.ntmps5
    go_wp2_with (go_at_call 9; refine (awake_b HB).mono ?_; clear HB; rintro e w' ⟨rfl, HB⟩)
    go_ret
    exact ⟨rfl, HB⟩

set_option maxHeartbeats 4000000 in
theorem sapBack_walk (a1 a2 : Option Addr) (c1 c2 : Nat) (ns : List Int) (ts : List (List UInt8)) (more : List UInt8) (w : World) (hn1 : ns.length ≤ 60) (hn2 : ts.length ≤ 60) (hmo : more.length ≤ 140737488355328)
    (hN : ∀ i x, ns[i]? = some x → ∃ b off, a1 = some ⟨b, off, none⟩ ∧ b < w.heap.size ∧ w.cell? ⟨b, off + i, none⟩ = some (.int .i64 x) ∧ -9223372036854775808 ≤ x ∧ x < 9223372036854775808)
    (hT : ∀ i t, ts[i]? = some t → ∃ b off, a2 = some ⟨b, off, none⟩ ∧ b < w.heap.size ∧ w.cell? ⟨b, off + i, none⟩ = some (.string (M.bs t)))
    (hv : Strs w.heap.size w (.slice a2 ts.length c2) ts) (hall : ∀ t ∈ ts, t.length ≤ 4096) :
    Calls Try.prog 5 #[.slice a1 ns.length c1, .slice a2 ts.length c2, .string (M.bs more)] w fun e w' => e = .returned (.bool true) ∧ Below w.heap.size w w' := by
  have HB : Bl w w := Bl.refl w
  have HN : Hid (∀ i x, ns[i]? = some x → ∃ b off, a1 = some ⟨b, off, none⟩ ∧ b < w.heap.size ∧ w.cell? ⟨b, off + i, none⟩ = some (.int .i64 x) ∧ -9223372036854775808 ≤ x ∧ x < 9223372036854775808) := hN
  have HT : Hid (∀ i t, ts[i]? = some t → ∃ b off, a2 = some ⟨b, off, none⟩ ∧ b < w.heap.size ∧ w.cell? ⟨b, off + i, none⟩ = some (.string (M.bs t))) := hT
  have HV : Hid (Strs w.heap.size w (.slice a2 ts.length c2) ts) := hv
  have HALL : Hid (∀ t ∈ ts, t.length ≤ 4096) := hall
  clear hN hT hv hall
  go_enter Try.func5, Try.ntmps5
  go_wp2_with (go_at_call 9; refine (awake_b HB).mono ?_; clear HB; rintro e w1 ⟨rfl, HB⟩)
  go_loopw [7, 8] (fun u7 u8 wr => ∃ k : Nat, k ≤ ns.length ∧ u8 = .int .i64 k ∧ u7 = .string (M.bs (pn ns k)) ∧ Bl w wr) (fun _ u8 _ => ns.length - (intOf u8).toNat)
  case atStart => exact ⟨0, Nat.zero_le _, rfl, rfl, HB⟩
  case round =>
    obtain ⟨k, hk, rfl, rfl, hbl⟩ := hrel
    clear HB
    by_cases hlt : k < ns.length
    · obtain ⟨x, hx⟩ : ∃ x, ns[k]? = some x := ⟨ns[k], List.getElem?_eq_getElem hlt⟩
      obtain ⟨b, off, rfl, hb, hcell0, hx1, hx2⟩ := HN.out k x hx
      have hcell : wr.cell? ⟨b, off + k, none⟩ = some (.int .i64 x) := by rw [hbl.cell hb]; exact hcell0
      have happ : M.bs (pn ns k) ++ M.bs (M.numB x) = M.bs (pn ns (k + 1)) := by rw [bs_append, pn_succ ns k x hx]
      have hz1 := M.bs_size (pn ns k)
      have hz2 := M.bs_size (M.numB x)
      have hz3 := M.numB_len x
      have hz4 := pn_len ns k hn1
      clear hx hcell0
      go_wp2_with (go_at_call 10; refine (num_b _ hbl (by omega) (by omega)).mono ?_; clear hbl; rintro e w2 ⟨rfl, hbl⟩)
      exact ⟨⟨k + 1, by omega, by go_num, rfl, hbl⟩, by simp [intOf]; omega⟩
    · obtain rfl : k = ns.length := by omega
      clear hk hlt
      go_wp2_with fail
      go_loopw [7, 9] (fun u7 u9 wr => ∃ k : Nat, k ≤ ts.length ∧ u9 = .int .i64 k ∧ u7 = .string (M.bs (q2 ns ts k)) ∧ Bl w wr) (fun _ u9 _ => ts.length - (intOf u9).toNat)
      case atStart => exact ⟨0, Nat.zero_le _, rfl, by rw [q2_zero], hbl⟩
      case round =>
        obtain ⟨k, hk, rfl, rfl, hbl2⟩ := hrel
        clear hbl
        by_cases hlt : k < ts.length
        · obtain ⟨t, ht⟩ : ∃ t, ts[k]? = some t := ⟨ts[k], List.getElem?_eq_getElem hlt⟩
          obtain ⟨b, off, rfl, hb, hcell0⟩ := HT.out k t ht
          have hcell : wr.cell? ⟨b, off + k, none⟩ = some (.string (M.bs t)) := by rw [hbl2.cell hb]; exact hcell0
          have happ : M.bs (q2 ns ts k) ++ M.bs (M.textB t) = M.bs (q2 ns ts (k + 1)) := by rw [bs_append, q2_succ ns ts k t ht]
          have hz0 := M.bs_size t
          have hz1 := M.bs_size (q2 ns ts k)
          have hz2 := M.bs_size (M.textB t)
          have hz3 := HALL.out t (mem_of ht)
          have hz5 : (M.textB t).length ≤ 4105 := by have := M.numB_len (t.length : Int); unfold M.textB; rw [List.length_append]; omega
          have hz4 := q2_len ns ts k hn1 hn2 HALL.out
          clear ht hcell0
          go_wp2_with (go_at_call 12; refine (text_b _ hbl2 (by omega)).mono ?_; clear hbl2; rintro e w2 ⟨rfl, hbl2⟩)
          exact ⟨⟨k + 1, by omega, by go_num, rfl, hbl2⟩, by simp [intOf]; omega⟩
        · obtain rfl : k = ts.length := by omega
          clear hk hlt
          have hq1 : M.bs (q2 ns ts ts.length) ++ M.bs (M.rowB ts) = M.bs (r3 ns ts) := by rw [bs_append, q2_all]
          have hq2 : M.bs (r3 ns ts) ++ M.bs more = M.bs (g3 ns ts more 0) := by rw [bs_append, r3_more]
          have hz1 := M.bs_size (q2 ns ts ts.length)
          have hz2 := M.bs_size (M.rowB ts)
          have hz3 := M.bs_size (r3 ns ts)
          have hz4 := M.bs_size more
          have hl1 := q2_len ns ts ts.length hn1 hn2 HALL.out
          have hl2 : (M.rowB ts).length ≤ 250000 := by have := rowB_le ts 4096 HALL.out; omega
          have hl3 : (r3 ns ts).length ≤ 500000 := by rw [← q2_all, List.length_append]; omega
          have hl4 := g3_len ns ts more hn1 hn2 HALL.out
          go_wp2_with (go_at_call 14; refine (row_c _ ts hbl2 HV.out (by omega) (by omega)).mono ?_; clear hbl2; rintro e w2 ⟨rfl, hbl2⟩)
          clear hq1 hq2 hz1 hz2 hz3 hl1 hl3
          go_loopw [7, 10] (fun u7 u10 wr => ∃ k : Nat, k ≤ ns.length ∧ u10 = .int .i64 k ∧ u7 = .string (M.bs (g3 ns ts more k)) ∧ Bl w wr) (fun _ u10 _ => ns.length - (intOf u10).toNat)
          case atStart => exact ⟨0, Nat.zero_le _, rfl, rfl, hbl2⟩
          case round =>
            obtain ⟨k, hk, rfl, rfl, hbl3⟩ := hrel
            clear hbl2
            by_cases hlt : k < ns.length
            · obtain ⟨x, hx⟩ : ∃ x, ns[k]? = some x := ⟨ns[k], List.getElem?_eq_getElem hlt⟩
              obtain ⟨b, off, rfl, hb, hcell0, hx1, hx2⟩ := HN.out k x hx
              have hgl := g3_le ns ts more k
              have hct := readNum_b (g3 ns ts more k) (by unfold maxLen; omega) hbl3
              have er : M.readNum (g3 ns ts more k) = some (x, g3 ns ts more (k + 1)) := by rw [g3_succ ns ts more k x hx]; exact M.readNum_numB x hx1 hx2 _
              rw [er] at hct
              simp only [rnV] at hct
              have HCT : Hid (Calls Try.prog 16 #[.string (M.bs (g3 ns ts more k))] wr fun e w' => e = .returned (.tuple #[.int .i64 x, .string (M.bs (g3 ns ts more (k + 1))), .bool true]) ∧ Bl w w') := hct
              have HC0 : Hid (w.cell? ⟨b, off + k, none⟩ = some (.int .i64 x)) := hcell0
              clear hct er hx hcell0 hbl3
              go_wp2_with (go_at_call 16; refine HCT.out.mono ?_)
              rintro e w3 ⟨rfl, hbl3⟩
              clear HCT
              have hcell : w3.cell? ⟨b, off + k, none⟩ = some (.int .i64 x) := by rw [hbl3.cell hb]; exact HC0.out
              go_wp2_with fail
              exact ⟨⟨k + 1, by omega, by go_num, rfl, hbl3⟩, by simp [intOf]; omega⟩
            · obtain rfl : k = ns.length := by omega
              clear hk hlt
              go_wp2_with fail
              go_loopw [7, 14] (fun u7 u14 wr => ∃ k : Nat, k ≤ ts.length ∧ u14 = .int .i64 k ∧ u7 = .string (M.bs (g4 ts more k)) ∧ Bl w wr) (fun _ u14 _ => ts.length - (intOf u14).toNat)
              case atStart => exact ⟨0, Nat.zero_le _, rfl, by rw [g3_all], hbl3⟩
              case round =>
                obtain ⟨k, hk, rfl, rfl, hbl4⟩ := hrel
                clear hbl3
                have hg40 : (g4 ts more 0).length ≤ (g3 ns ts more 0).length := by rw [← g3_all ns ts more]; exact g3_le ns ts more _
                have hgl := g4_le ts more k
                by_cases hlt : k < ts.length
                · obtain ⟨t, ht⟩ : ∃ t, ts[k]? = some t := ⟨ts[k], List.getElem?_eq_getElem hlt⟩
                  obtain ⟨b, off, rfl, hb, hcell0⟩ := HT.out k t ht
                  have hz3 := HALL.out t (mem_of ht)
                  have hct := readText_b (g4 ts more k) 4096 (by unfold maxLen; omega) hbl4
                  have er : M.readText (g4 ts more k) 4096 = some (t, g4 ts more (k + 1)) := by rw [g4_succ ts more k t ht]; exact M.readText_textB t _ 4096 (by omega) (by omega)
                  rw [er] at hct
                  simp only [rtV] at hct
                  have HCT : Hid (Calls Try.prog 18 #[.string (M.bs (g4 ts more k)), .int .i64 4096] wr fun e w' => e = .returned (.tuple #[.string (M.bs t), .string (M.bs (g4 ts more (k + 1))), .bool true]) ∧ Bl w w') := hct
                  have HC0 : Hid (w.cell? ⟨b, off + k, none⟩ = some (.string (M.bs t))) := hcell0
                  clear hct er ht hcell0 hbl4
                  go_wp2_with (go_at_call 18; refine HCT.out.mono ?_)
                  rintro e w3 ⟨rfl, hbl4⟩
                  clear HCT
                  have hcell : w3.cell? ⟨b, off + k, none⟩ = some (.string (M.bs t)) := by rw [hbl4.cell hb]; exact HC0.out
                  go_wp2_with fail
                  exact ⟨⟨k + 1, by omega, by go_num, rfl, hbl4⟩, by simp [intOf]; omega⟩
                · obtain rfl : k = ts.length := by omega
                  clear hk hlt
                  have CR : Hid (∀ W, Bl w W → Calls Try.prog 20 #[.string (M.bs (g4 ts more ts.length)), .int .i64 60] W fun e w' => ∃ a c, e = .returned (.tuple #[.slice a ts.length c, .string (M.bs more), .bool true]) ∧ Strs w'.heap.size w' (.slice a ts.length c) ts ∧ Bl w w') := fun W h =>
                    readRow_yes (g4 ts more ts.length) 60 (by omega) (Or.inl (by omega)) ts more (by rw [g4_all]; exact M.readRow_rowB ts more 60 (by omega) (fun t ht => by have := HALL.out t ht; omega) (by omega)) h
                  go_wp2_with (first
                    | (go_at_call 20; refine (CR.out _ hbl4).mono ?_; clear hbl4 CR; rintro e w' ⟨a3, c3, rfl, HS, hbl4⟩)
                    | (go_at_call 22; refine (same_b _ _ ts ts _ _ hbl4 HS (HV.out.bl hbl4) (by omega)).mono ?_; clear HS hbl4; rintro e w' ⟨rfl, hbl4⟩))
                  go_ret
                  exact ⟨by first | rfl | (simp; done), hbl4⟩

set_option maxHeartbeats 4000000 in
theorem sapBack_long (a1 a2 : Option Addr) (c1 c2 : Nat) (ns : List Int) (ts : List (List UInt8)) (more : List UInt8) (w : World) (hn1 : ns.length ≤ 60) (hn2 : ts.length ≤ 60)
    (hN : ∀ i x, ns[i]? = some x → ∃ b off, a1 = some ⟨b, off, none⟩ ∧ b < w.heap.size ∧ w.cell? ⟨b, off + i, none⟩ = some (.int .i64 x) ∧ -9223372036854775808 ≤ x ∧ x < 9223372036854775808)
    (hT : ∀ i t, ts[i]? = some t → ∃ b off, a2 = some ⟨b, off, none⟩ ∧ b < w.heap.size ∧ w.cell? ⟨b, off + i, none⟩ = some (.string (M.bs t)))
    (j : Nat) (tl : List UInt8) (h1 : ts[j]? = some tl) (h2 : 4096 < tl.length) (h2m : tl.length ≤ maxLen) (h3 : ∀ i u, i < j → ts[i]? = some u → u.length ≤ 4096) :
    Calls Try.prog 5 #[.slice a1 ns.length c1, .slice a2 ts.length c2, .string (M.bs more)] w fun e w' => e = .returned (.bool true) ∧ Below w.heap.size w w' := by
  have HB : Bl w w := Bl.refl w
  have HN : Hid (∀ i x, ns[i]? = some x → ∃ b off, a1 = some ⟨b, off, none⟩ ∧ b < w.heap.size ∧ w.cell? ⟨b, off + i, none⟩ = some (.int .i64 x) ∧ -9223372036854775808 ≤ x ∧ x < 9223372036854775808) := hN
  have HT : Hid (∀ i t, ts[i]? = some t → ∃ b off, a2 = some ⟨b, off, none⟩ ∧ b < w.heap.size ∧ w.cell? ⟨b, off + i, none⟩ = some (.string (M.bs t))) := hT
  have hjl : j < ts.length := (List.getElem?_eq_some_iff.1 h1).1
  have H1 : Hid (ts[j]? = some tl) := h1
  have H3 : Hid (∀ i u, i < j → ts[i]? = some u → u.length ≤ 4096) := h3
  unfold maxLen at h2m
  clear hN hT h1 h3
  go_enter Try.func5, Try.ntmps5
  go_wp2_with (go_at_call 9; refine (awake_b HB).mono ?_; clear HB; rintro e w1 ⟨rfl, HB⟩)
  go_loopw [7, 8] (fun u7 u8 wr => ∃ k : Nat, k ≤ ns.length ∧ u8 = .int .i64 k ∧ u7 = .string (M.bs (pn ns k)) ∧ Bl w wr) (fun _ u8 _ => ns.length - (intOf u8).toNat)
  case atStart => exact ⟨0, Nat.zero_le _, rfl, rfl, HB⟩
  case round =>
    obtain ⟨k, hk, rfl, rfl, hbl⟩ := hrel
    clear HB
    by_cases hlt : k < ns.length
    · obtain ⟨x, hx⟩ : ∃ x, ns[k]? = some x := ⟨ns[k], List.getElem?_eq_getElem hlt⟩
      obtain ⟨b, off, rfl, hb, hcell0, hx1, hx2⟩ := HN.out k x hx
      have hcell : wr.cell? ⟨b, off + k, none⟩ = some (.int .i64 x) := by rw [hbl.cell hb]; exact hcell0
      have happ : M.bs (pn ns k) ++ M.bs (M.numB x) = M.bs (pn ns (k + 1)) := by rw [bs_append, pn_succ ns k x hx]
      have hz1 := M.bs_size (pn ns k)
      have hz2 := M.bs_size (M.numB x)
      have hz3 := M.numB_len x
      have hz4 := pn_len ns k hn1
      clear hx hcell0
      go_wp2_with (go_at_call 10; refine (num_b _ hbl (by omega) (by omega)).mono ?_; clear hbl; rintro e w2 ⟨rfl, hbl⟩)
      exact ⟨⟨k + 1, by omega, by go_num, rfl, hbl⟩, by simp [intOf]; omega⟩
    · obtain rfl : k = ns.length := by omega
      clear hk hlt
      go_wp2_with fail
      go_loopw [7, 9] (fun u7 u9 wr => ∃ k : Nat, k ≤ j ∧ u9 = .int .i64 k ∧ (∃ q : List UInt8, u7 = .string (M.bs q) ∧ q.length ≤ 540 + k * 4200) ∧ Bl w wr) (fun _ u9 _ => j - (intOf u9).toNat)
      case atStart => exact ⟨0, Nat.zero_le _, rfl, ⟨_, rfl, by have := pn_len ns ns.length hn1; omega⟩, hbl⟩
      case round =>
        obtain ⟨k, hk, rfl, ⟨q, rfl, hql⟩, hbl2⟩ := hrel
        clear hbl
        by_cases hlt : k < j
        · obtain ⟨t, ht⟩ : ∃ t, ts[k]? = some t := ⟨ts[k]'(by omega), List.getElem?_eq_getElem _⟩
          obtain ⟨b, off, rfl, hb, hcell0⟩ := HT.out k t ht
          have hcell : wr.cell? ⟨b, off + k, none⟩ = some (.string (M.bs t)) := by rw [hbl2.cell hb]; exact hcell0
          have happ : M.bs q ++ M.bs (M.textB t) = M.bs (q ++ M.textB t) := bs_append _ _
          have hz0 := M.bs_size t
          have hz1 := M.bs_size q
          have hz2 := M.bs_size (M.textB t)
          have hz3 := H3.out k t hlt ht
          have hz5 : (M.textB t).length ≤ 4105 := by have := M.numB_len (t.length : Int); unfold M.textB; rw [List.length_append]; omega
          clear ht hcell0
          go_wp2_with (go_at_call 12; refine (text_b _ hbl2 (by omega)).mono ?_; clear hbl2; rintro e w2 ⟨rfl, hbl2⟩)
          exact ⟨⟨k + 1, by omega, by go_num, ⟨_, rfl, by rw [List.length_append]; omega⟩, hbl2⟩, by simp [intOf]; omega⟩
        · obtain rfl : k = j := by omega
          obtain ⟨b, off, rfl, hb, hcell0⟩ := HT.out k tl H1.out
          have hcell : wr.cell? ⟨b, off + k, none⟩ = some (.string (M.bs tl)) := by rw [hbl2.cell hb]; exact hcell0
          have hz0 := M.bs_size tl
          clear hcell0
          go_wp2_with fail
          go_ret
          exact ⟨rfl, hbl2⟩

end Go.Proofs.Ytfpeohlfofcbjaa
