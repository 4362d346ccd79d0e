/- A law's store and the rows beside it; the law's own great. -/
import Derived.Test.YtlkllcnnnndllaaGreatDoorP3
import Derived.Test.YtlkllcnnnndllaaGreatDoorP4
import Derived.Test.YtlkllcnnnndllaaGreatDoorN18
namespace Go.Proofs.YtlkllcnnnndllaaGreatDoor
open Go.RowKit Go.Maps
set_option linter.unusedVariables false
set_option linter.unusedSimpArgs false

/-- rows beside a store -/
def RB (P : Nat → Prop) (rs : List (Nat × Array Value × TypeId)) (W : World) : Prop := ∀ p ∈ rs, W.heap[p.1]? = some (.cells p.2.1 p.2.2 (0, 0)) ∧ ¬ P p.1
/-- the law's store, whatever it has, and rows of the law's own -/
def TY (w : World) (n m K sh sc : Nat) (rs : List (Nat × Array Value × TypeId)) (W : World) : Prop := ∃ b : HB, GS w n m b W ∧ (b.hv = K ∧ b.sh = sh ∧ b.sc = sc) ∧ RB b.mem rs W
/-- its shelf alone -/
def TZ (w : World) (n m sh sc : Nat) (off : Bool) (rs : List (Nat × Array Value × TypeId)) (W : World) : Prop := SS w n m sh sc off W ∧ RB (fun q => q = sh ∨ q = sc) rs W
section
variable {w W : World} {n m K sh sc : Nat} {rs : List (Nat × Array Value × TypeId)}
theorem RB.turn {P : Nat → Prop} (h : RB P rs W) {W' : World} (hb : ∀ q, q < W.heap.size → ¬ P q → W'.heap[q]? = W.heap[q]?) : RB P rs W' := fun p hp => ⟨by rw [hb _ (lt_of_heap (h p hp).1) (h p hp).2]; exact (h p hp).1, (h p hp).2⟩
theorem RB.cons {P : Nat → Prop} (h : RB P rs W) (C : Array Value) (T : TypeId) (hP : ∀ q, P q → q < W.heap.size) : RB P ((W.heap.size, C, T) :: rs) (W.alloc (.cells C T)) := fun p hp => by
  rcases List.mem_cons.1 hp with rfl | hp
  · exact ⟨heap_alloc_new _ _, fun h => by have := hP _ h; simp at this⟩
  · exact ⟨by rw [Below.heap_alloc _ _ _ (lt_of_heap (h p hp).1)]; exact (h p hp).1, (h p hp).2⟩
theorem TY.turn (h : TY w n m K sh sc rs W) : ∃ b : HB, GS w n m b W ∧ (b.hv = K ∧ b.sh = sh ∧ b.sc = sc) ∧ RB b.mem rs W := h
theorem TY.step (h : TY w n m K sh sc rs W) {W' : World} (hb : Below W.heap.size W W') : TY w n m K sh sc rs W' := by
  obtain ⟨b, g, e, r⟩ := h
  exact ⟨b, g.step hb, e, r.turn (fun q hq _ => hb.block q hq)⟩
theorem TY.alloc (h : TY w n m K sh sc rs W) (o : Obj) : TY w n m K sh sc rs (W.alloc o) := h.step ((Below.refl _ W).alloc (Nat.le_refl _) _)
theorem TY.drew (h : TY w n m K sh sc rs W) : TY w n m K sh sc rs W.drew := h.step (Below.refl _ _).drew
theorem TY.wider (h : TY w n m K sh sc rs W) {m' : Nat} (hm : m ≤ m') : TY w n m' K sh sc rs W := by
  obtain ⟨b, g, e, r⟩ := h
  exact ⟨b, g.wider hm, e, r⟩
theorem TY.row (h : TY w n m K sh sc rs W) (C : Array Value) (T : TypeId) : TY w n m K sh sc ((W.heap.size, C, T) :: rs) (W.alloc (.cells C T)) := by
  obtain ⟨b, g, e, r⟩ := h
  exact ⟨b, g.alloc _, e, r.cons C T (fun q hq => g.lt hq)⟩
theorem TY.less (h : TY w n m K sh sc rs W) {rs' : List (Nat × Array Value × TypeId)} (hs : ∀ p ∈ rs', p ∈ rs) : TY w n m K sh sc rs' W := by
  obtain ⟨b, g, e, r⟩ := h
  exact ⟨b, g, e, fun p hp => r p (hs p hp)⟩
theorem TY.at (h : TY w n m K sh sc rs W) {q : Nat} {C : Array Value} {T : TypeId} (hp : (q, C, T) ∈ rs) : W.heap[q]? = some (.cells C T (0, 0)) := by
  obtain ⟨b, g, e, r⟩ := h
  exact (r _ hp).1
theorem TY.o (h : TY w n m K sh sc rs W) : Below w.heap.size w W := by obtain ⟨b, g, e, r⟩ := h; exact g.o
theorem TY.gw (h : TY w n m K sh sc rs W) : GW W := by obtain ⟨b, g, e, r⟩ := h; exact g.gw
theorem TY.putBlob (h : TY w n m K sh sc rs W) (hm : m ≤ 900000) (t : List UInt8) (ht : t.length ≤ 9223372036854775807) :
    Calls Tryz.prog 11 #[.pointer (some ⟨K, 0, none⟩), .string (M.bs t)] W fun e' w' => (∃ (d : List UInt8) (er : Int), d.length = 32 ∧ e' = .returned (.tuple #[.agg (dg d), .int .i64 er])) ∧ TY w n (m + 5) K sh sc rs w' := by
  obtain ⟨b, g, ⟨rfl, e2, e3⟩, r⟩ := h
  refine (g.putBlob hm t ht).mono ?_
  rintro e' w' ⟨he, g', o⟩
  exact ⟨he, b, g', ⟨rfl, e2, e3⟩, r.turn o.block⟩
theorem TY.blob (h : TY w n m K sh sc rs W) (hm : m ≤ 900000) (d : List UInt8) (hd : d.length = 32) :
    Calls Tryz.prog 17 #[.pointer (some ⟨K, 0, none⟩), .agg (dg d)] W fun e' w' => (∃ (t : List UInt8) (q : Bool), e' = .returned (.tuple #[.string (M.bs t), .bool q]) ∧ t.length ≤ 512 ∧ (q = true → S.sha t = d) ∧ (q = false → t = [])) ∧ TY w n (m + 5) K sh sc rs w' := by
  obtain ⟨b, g, ⟨rfl, e2, e3⟩, r⟩ := h
  refine (g.blob hm d hd).mono ?_
  rintro e' w' ⟨he, g', o⟩
  exact ⟨he, b, g', ⟨rfl, e2, e3⟩, r.turn o.block⟩
theorem TY.putRec (h : TY w n m K sh sc rs W) (hm : m ≤ 900000) (x : V.Rc) (hx : Rc32 x) :
    Calls Tryz.prog 13 #[.pointer (some ⟨K, 0, none⟩), .agg (rv x)] W fun e' w' => (∃ er : Int, e' = .returned (.int .i64 er)) ∧ TY w n (m + 5) K sh sc rs w' := by
  obtain ⟨b, g, ⟨rfl, e2, e3⟩, r⟩ := h
  refine (g.putRec hm x hx).mono ?_
  rintro e' w' ⟨he, g', o⟩
  exact ⟨he, b, g', ⟨rfl, e2, e3⟩, r.turn o.block⟩
theorem TY.rec' (h : TY w n m K sh sc rs W) (hm : m ≤ 900000) (d : List UInt8) (hd : d.length = 32) :
    Calls Tryz.prog 12 #[.pointer (some ⟨K, 0, none⟩), .agg (dg d)] W fun e' w' => (∃ (x : V.Rc) (q : Bool), e' = .returned (.tuple #[.agg (rv x), .bool q]) ∧ Rc32 x ∧ (q = true → x.key = d) ∧ (q = false → x = V.zr)) ∧ TY w n (m + 5) K sh sc rs w' := by
  obtain ⟨b, g, ⟨rfl, e2, e3⟩, r⟩ := h
  refine (g.rec hm d hd).mono ?_
  rintro e' w' ⟨he, g', o⟩
  exact ⟨he, b, g', ⟨rfl, e2, e3⟩, r.turn o.block⟩
theorem TY.write (h : TY w n m K sh sc rs W) (hm : m ≤ 900000) (x : Int) (t : List UInt8) (ht : t.length ≤ maxLen) :
    Calls Tryz.prog 48 #[.pointer (some ⟨sh, 0, none⟩), .int .i64 x, .string (M.bs t)] W fun e' w' => (∃ er : Int, e' = .returned (.int .i64 er)) ∧ TY w n (m + 5) K sh sc rs w' := by
  obtain ⟨b, g, ⟨e1, rfl, e3⟩, r⟩ := h
  refine (g.write hm x t ht).mono ?_
  rintro e' w' ⟨he, g', o⟩
  exact ⟨he, b, g', ⟨e1, rfl, e3⟩, r.turn o.block⟩
theorem TY.of (h : TY w n m K sh sc rs W) (t : List UInt8) (T : TypeId) (ht : t.length ≤ 1048576) : Calls Tryz.prog 18 #[.slice (some ⟨W.heap.size, 0, none⟩) 1 1] (W.alloc (.cells #[.string (M.bs t)] T)) fun e' w' => e' = .returned (.agg (dg (S.sha t))) ∧ TY w n m K sh sc rs w' := by
  refine (Of_g t T (GB.refl h.gw) (by omega)).mono ?_
  rintro e' w' ⟨rfl, hg⟩
  exact ⟨rfl, h.step hg.b⟩
theorem TY.off (h : TY w n m K sh sc rs W) (hm : m ≤ 900000) : Calls Tryz.prog 15 #[.pointer (some ⟨sh, 0, none⟩)] W fun e' w' => e' = .returned (.tuple #[]) ∧ TZ w n (m + 1) sh sc true rs w' := by
  obtain ⟨b, g, ⟨e1, rfl, rfl⟩, r⟩ := h
  refine (g.off hm).mono ?_
  rintro e' w' ⟨rfl, g', o⟩
  refine ⟨rfl, g', fun p hp => ?_⟩
  have hr := r p hp
  have h1 : p.1 ≠ b.sh := fun e => hr.2 (.inl e)
  have h2 : p.1 ≠ b.sc := fun e => hr.2 (.inr (.inl e))
  exact ⟨by rw [o.block _ (lt_of_heap hr.1) h1 h2]; exact hr.1, fun e => e.elim h1 h2⟩
theorem TZ.at {off : Bool} (h : TZ w n m sh sc off rs W) {q : Nat} {C : Array Value} {T : TypeId} (hp : (q, C, T) ∈ rs) : W.heap[q]? = some (.cells C T (0, 0)) := (h.2 _ hp).1
theorem TZ.on (h : TZ w n m sh sc true rs W) (hm : m ≤ 900000) (F : List Int) (fa : Option Addr) (cap : Nat) (HF : FI w fa F) (hl : F.length ≤ 9223372036854775807) (hb : ∀ x ∈ F, -9223372036854775808 ≤ x ∧ x ≤ 9223372036854775807) :
    Calls Tryz.prog 16 #[.pointer (some ⟨sh, 0, none⟩), .slice fa F.length cap] W fun e' w' => e' = .returned (.tuple #[]) ∧ TZ w n m sh sc false rs w' := by
  refine (h.1.on hm F fa cap HF hl hb).mono ?_
  rintro e' w' ⟨rfl, g', o⟩
  exact ⟨rfl, g', h.2.turn (fun q hq hn => o.block q hq (fun e => hn (.inl e)) (fun e => hn (.inr e)))⟩
theorem TZ.opens (h : TZ w n m sh sc false rs W) (hm : m ≤ 800000) (hg : GW w) :
    Calls Tryz.prog 9 #[.pointer (some ⟨sh, 0, none⟩)] W fun e' w' => ∃ K, e' = .returned (.tuple #[.pointer (some ⟨K, 0, none⟩), .int .i64 0]) ∧ TY w n (m + 200) K sh sc rs w' := by
  refine (h.1.opens hm hg).mono ?_
  rintro e' w' ⟨b, e1, e2, rfl, g', o⟩
  refine ⟨b.hv, rfl, b, g', ⟨rfl, e1, e2⟩, fun p hp => ?_⟩
  have hr := h.2 p hp
  obtain ⟨o1, o2⟩ := o p.1 (lt_of_heap hr.1) (fun e => hr.2 (.inl e)) (fun e => hr.2 (.inr e))
  exact ⟨by rw [o1]; exact hr.1, o2⟩
/-- a new shelf -/
theorem TZ.new {b c : Nat} (x : SW w b c (new n) W) (hb : w.heap.size ≤ b) (hc : w.heap.size ≤ c) (hn : n ≤ 128) : TZ w n 0 b c false [] W :=
  ⟨⟨0, 0, List.replicate n s0, x.base, Ss.new n, hn, Nat.le_refl _, Nat.le_refl _, x.o.below hb hc (Nat.le_refl _), hb, hc⟩, fun p hp => by cases hp⟩
end
/-- a call's row -/
theorem av_parts {W : World} {q : Nat} {x : A5} (hr : Rc32 x.r) (h : W.heap[q]? = some (.cells (avL x).toArray 43 (0, 0))) :
    W.cell? ⟨q, 0, none⟩ = some (.int .i64 x.kind) ∧ W.cell? ⟨q, 1, none⟩ = some (.string (M.bs x.text)) ∧ W.cell? ⟨q, 67, none⟩ = some (.int .i64 x.at') ∧ W.cell? ⟨q, 68, none⟩ = some (.slice x.fa x.fates.length x.fc) ∧ W.rangeAt q 2 (rvL x.r) ∧ W.rangeAt q 2 (x.r.key.map vb) := by
  have hl := rvL_length hr
  refine ⟨by rw [cell_row h]; rfl, by rw [cell_row h]; rfl, ?_, ?_, range_part h [.int .i64 x.kind, .string (M.bs x.text)] (rvL x.r) [.int .i64 x.at', .slice x.fa x.fates.length x.fc] 2 (by simp [avL]) rfl,
    range_part h [.int .i64 x.kind, .string (M.bs x.text)] (x.r.key.map vb) ((Value.int .i64 x.r.code :: x.r.out.map vb) ++ [.int .i64 x.at', .slice x.fa x.fates.length x.fc]) 2 (by simp [avL, rvL]) rfl⟩
  · rw [cell_row h]
    show (rvL x.r ++ [_, _])[65]? = _
    rw [List.getElem?_append_right (by omega), hl]; rfl
  · rw [cell_row h]
    show (rvL x.r ++ [_, _])[66]? = _
    rw [List.getElem?_append_right (by omega), hl]; rfl
theorem AC5.at {w W : World} {a : Option Addr} {l : List A5} (h : AC5 w a l) (hB : Below w.heap.size w W) {i : Nat} {x : A5} (hx : l[i]? = some x) : ∃ sb off, a = some ⟨sb, off, none⟩ ∧ W.rangeAt sb (off + i * 69) (avL x) ∧ W.cell? ⟨sb, off + i * 69 + 1, none⟩ = some (.string (M.bs x.text)) ∧ W.cell? ⟨sb, off + i * 69 + 68, none⟩ = some (.slice x.fa x.fates.length x.fc) ∧ A5ok w x := by
  obtain ⟨sb, off, h1, h2, h3, h4⟩ := h i x hx
  have hr : W.rangeAt sb (off + i * 69) (avL x) := fun j v hv => by rw [hB.cell (p := ⟨sb, off + i * 69 + j, none⟩) h2]; exact h3 j v hv
  have hl := rvL_length h4.r
  refine ⟨sb, off, h1, hr, hr 1 _ rfl, hr 68 _ ?_, h4⟩
  show (rvL x.r ++ [_, _])[66]? = _
  rw [List.getElem?_append_right (by omega), hl]; rfl

def G5 (l : List A5) (W : World) (e : Ending) (w' : World) : Prop := ∃ q, e = .returned (.bool q) ∧ (q = false → ∀ (i : Nat) (x : A5), i < 70 → l[i]? = some x → x.text.length ≤ 1000 ∧ x.fates.length ≤ 200) ∧ w' = W
theorem G5.yes (l : List A5) (W : World) : G5 l W (.returned (.bool true)) W := ⟨true, rfl, (fun h => by cases h), rfl⟩
theorem G5.no {l : List A5} (W : World) (h : ∀ (i : Nat) (x : A5), i < 70 → l[i]? = some x → x.text.length ≤ 1000 ∧ x.fates.length ≤ 200) : G5 l W (.returned (.bool false)) W := ⟨false, rfl, fun _ => h, rfl⟩
set_option maxRecDepth 8000 in
set_option maxHeartbeats 4000000 in
theorem great5 (l : List A5) (a : Option Addr) (c : Nat) {w W : World} (hA : AC5 w a l) (hB : Below w.heap.size w W) (hl : l.length ≤ 9223372036854775807) :
    Calls Tryz.prog 5 #[.slice a l.length c] W fun e w' => G5 l W e w' := by
  have HA : Hid (∀ {i : Nat} {x : A5}, l[i]? = some x → ∃ sb off, a = some ⟨sb, off, none⟩ ∧ W.rangeAt sb (off + i * 69) (avL x) ∧ W.cell? ⟨sb, off + i * 69 + 1, none⟩ = some (.string (M.bs x.text)) ∧ W.cell? ⟨sb, off + i * 69 + 68, none⟩ = some (.slice x.fa x.fates.length x.fc) ∧ A5ok w x) := fun hx => hA.at hB hx
  clear hA hB
  go_enter Tryz.func5, Tryz.ntmps5
  go_wp2_with fail
  go_loopw [3] (fun u3 wr => ∃ i : Nat, i ≤ l.length ∧ i ≤ 70 ∧ u3 = .int .i64 (i : Int) ∧ wr = W ∧ ∀ (j : Nat) (x : A5), j < i → l[j]? = some x → x.text.length ≤ 1000 ∧ x.fates.length ≤ 200) (fun u3 _ => 70 - (intOf u3).toNat)
  case atStart => exact ⟨0, Nat.zero_le _, Nat.zero_le _, rfl, rfl, fun j x h => by omega⟩
  case round =>
    obtain ⟨i, hi, h7, rfl, hwr, hall⟩ := hrel
    rw [hwr]
    clear hwr wr
    have HALL : Hid (∀ (j : Nat) (x : A5), j < i → l[j]? = some x → x.text.length ≤ 1000 ∧ x.fates.length ≤ 200) := hall
    clear hall
    by_cases hlt : i < l.length
    · have i1 : (i : Int) < (l.length : Int) := by omega
      by_cases h70 : i < 70
      · have i2 : (i : Int) < 70 := by omega
        have i0 : (0 : Int) ≤ (i : Int) := by omega
        obtain ⟨x, hx⟩ : ∃ x, l[i]? = some x := ⟨l[i], List.getElem?_eq_getElem hlt⟩
        obtain ⟨sb, off, ha, _, c1, c68, ok⟩ := HA.out hx
        cases ha
        have hts := M.bs_size x.text
        have ht := ok.t
        have hf := ok.fl
        have HX : Hid (l[i]? = some x) := hx
        clear ok hx
        by_cases t1 : 1000 < x.text.length
        · have t1' : (1000 : Int) < (x.text.length : Int) := by omega
          clear t1
          go_wp2_with fail
          go_ret
          exact G5.yes l W
        · have t1' : ¬ (1000 : Int) < (x.text.length : Int) := by omega
          by_cases t2 : 200 < x.fates.length
          · have t2' : (200 : Int) < (x.fates.length : Int) := by omega
            clear t2 t1
            go_wp2_with fail
            go_ret
            exact G5.yes l W
          · have t2' : ¬ (200 : Int) < (x.fates.length : Int) := by omega
            have HALL2 : Hid (∀ (j : Nat) (x : A5), j < i + 1 → l[j]? = some x → x.text.length ≤ 1000 ∧ x.fates.length ≤ 200) := fun j y hj hy => by
              by_cases e : j = i
              · subst e
                rw [HX.out] at hy
                cases hy
                omega
              · exact HALL.out j y (by omega) hy
            clear t2 t1 HX HALL
            go_wp2_with fail
            go_roundw
            case rel => exact ⟨i + 1, by omega, by omega, by go_num, trivial, HALL2.out⟩
            case measure => simp [intOf]; omega
      · obtain rfl : i = 70 := by omega
        go_wp2_with fail
        go_ret
        exact G5.no W HALL.out
    · have i1 : ¬ (i : Int) < (l.length : Int) := by omega
      go_wp2_with fail
      go_ret
      exact G5.no W (fun j y _ hy => HALL.out j y (by have := (List.getElem?_eq_some_iff.1 hy).1; omega) hy)
end Go.Proofs.YtlkllcnnnndllaaGreatDoor
