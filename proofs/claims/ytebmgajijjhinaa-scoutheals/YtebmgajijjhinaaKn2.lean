/- What isNews and Get answer. -/
import Derived.Test.YtebmgajijjhinaaKn1
namespace Go.Proofs.Ytebmgajijjhinaa
open Go.RowKit Go.Maps
set_option linter.unusedVariables false
set_option linter.unusedSimpArgs false

theorem wl_midG {P : Program} {ops : Array Oper} {rest : List Oper} {o : Oper} {a : Act} {w : World} {Q : Exit → Act → World → Prop} (hw : Region.wanted o (yielded ops a.tmps) = true) (ty : TypeId) (x : Operand) (ho : o.op = .load ty x)
    (b q : Nat) (hx : a.eval x = .pointer (some ⟨b, q, none⟩)) (cs : List Value) (d : TypeDesc) (hc : w.rangeAt b q cs)
    (hu : P.underlying ty = some d) (hd : d.isRow = true) (hi : (P.info? ty).map (·.size) = some cs.length)
    (h : wpList P ops Q rest (a.put o.dst (.agg cs.toArray)) w) : wpList P ops Q (o :: rest) a w :=
  wpList_step fun _ hK => by rw [if_pos hw]; exact wp_load_mid ty x ho b q hx cs d hc hu hd hi (hK _ _ h)
theorem news_eq (f : K.Vw) (m : K.Me) : K.news f m = (K.good m && (!(f m.1).isSome || K.above m (gv f m.1))) := by
  unfold K.news gv
  cases f m.1 <;> simp
set_option maxRecDepth 8000 in
set_option maxHeartbeats 4000000 in
theorem isNews_x {w W : World} {q b : Nat} {f : K.Vw} {N : Nat} (x : VT w q b f N W) (m : K.Me) (hm : i64 m.1) :
    Calls Try.prog 64 #[.pointer (some ⟨q, 0, none⟩), .agg (meV m)] W fun e w' => e = .returned (.bool (K.news f m)) ∧ Bl W w' := by
  have x1 := x.grow (((Bl.refl W).alloc (.cells (meV m) 54)).alloc (.cells #[.int .i64 0, .int .i64 0, .int .i64 0] 54)).drew
  have x2 := x.grow ((Bl.refl W).alloc (.cells (meV m) 54)).drew
  have c1 := x1.c0
  have c2 := x2.c0
  have hlk := x1.mp.look m.1 hm
  have hlk0 := x2.mp.look m.1 hm
  have HG : Hid (K.news f m = (K.good m && (!(f m.1).isSome || K.above m (gv f m.1)))) := news_eq f m
  have C1 : Hid (∀ w W, Bl w W → Calls Try.prog 55 #[.agg (meV m)] W fun e w' => e = .returned (.bool (K.good m)) ∧ Bl w w') := fun w W h => Good_x m w W h
  have C2 : Hid (∀ w W, Bl w W → Calls Try.prog 39 #[.agg (meV m), .agg (meV (gv f m.1))] W fun e w' => e = .returned (.bool (K.above m (gv f m.1))) ∧ Bl w w') := fun w W h => Above_x m _ w W h
  clear x x1 x2 hm
  generalize (f m.1).isSome = y at *
  generalize K.above m (gv f m.1) = z at *
  generalize K.good m = g at *
  generalize K.news f m = r at *
  obtain ⟨⟨n2, i2, s2⟩, hgv⟩ : ∃ o, gv f m.1 = o := ⟨_, rfl⟩
  rw [hgv] at hlk hlk0 C2
  clear hgv
  obtain ⟨n, i, s⟩ := m
  unfold meV at *
  simp only at *
  have HB : Bl ((W.alloc (.cells #[.int .i64 n, .int .i64 i, .int .i64 s] 54)).alloc (.cells #[.int .i64 n2, .int .i64 i2, .int .i64 s2] 54)) ((W.alloc (.cells #[.int .i64 n, .int .i64 i, .int .i64 s] 54)).alloc (.cells #[.int .i64 n2, .int .i64 i2, .int .i64 s2] 54)).drew := (Bl.refl _).drew
  obtain ⟨fs, hum⟩ := undMe
  cases g <;> cases y <;>
  · go_enter Try.func64, Try.ntmps64
    go_wp2_with fail
    go_region
    all_goals go_wp2_with (first
      | (go_at_call 55; refine (C1.out _ _ HB).mono ?_; clear HB C1 hlk hlk0 c1 c2; rintro e w' ⟨rfl, HB⟩; have R1 := range3 HB.box1; have hb2 := HB.box; simp only [size_alloc1] at hb2; have R2 := range3 hb2; clear hb2)
      | (refine wl_midG rfl 54 _ rfl W.heap.size 0 rfl [.int .i64 n, .int .i64 i, .int .i64 s] _ R1 hum rfl infoMe ?_)
      | (refine wl_midG rfl 54 _ rfl (W.heap.size + 1) 0 rfl [.int .i64 n2, .int .i64 i2, .int .i64 s2] _ R2 hum rfl infoMe ?_)
      | (go_at_call 39; refine (C2.out _ _ HB).mono ?_; clear HB C2 R1 R2; rintro e w' ⟨rfl, HB⟩))
    all_goals go_ret
    all_goals exact ⟨by rw [HG.out]; simp, HB.up.up⟩
theorem isNews_b {w0 w W : World} {q b : Nat} {f : K.Vw} {N : Nat} (x : VT w0 q b f N W) (m : K.Me) (hm : i64 m.1) (hb : Bl w W) :
    Calls Try.prog 64 #[.pointer (some ⟨q, 0, none⟩), .agg (meV m)] W fun e w' => e = .returned (.bool (K.news f m)) ∧ Bl w w' := (isNews_x x m hm).mono fun e w' ⟨h1, h2⟩ => ⟨h1, hb.step h2⟩
theorem results2_row {P : Program} {fn : Func} {p q : Tmp} {ty : TypeId} (h : fn.results = #[.cell p ty, .tmp q]) (tmps : Array Value) (w : World) (g : Nat) (t : TypeId) (cs : Array Value) (fr : Nat × Nat) (d : TypeDesc)
    (hp : tmps.getD p undef = .pointer (some ⟨g, 0, none⟩)) (hg : w.heap[g]? = some (.cells cs t fr))
    (hu : P.underlying ty = some d) (hd : (match d with | .struct _ | .array _ _ => true | _ => false) = true) (hi : (P.info? ty).map (·.size) = some cs.size) :
    (results fn tmps).run P w = .ok (.tuple #[.agg cs, tmps.getD q undef]) w := by
  have hp' : tmps[p]?.getD undef = .pointer (some ⟨g, 0, none⟩) := by simpa using hp
  simp [results, h, hp', asAddr, run_loadVar_row w g t ty cs fr d hg hu hd hi]
set_option maxRecDepth 8000 in
theorem Get_nil (k : Int) (W : World) : Calls Try.prog 37 #[.pointer none, .int .i64 k] W fun e w' => e = .returned (.tuple #[.agg (meV (0, 0, 0)), .bool false]) ∧ Bl W w' := by
  obtain ⟨fs, hum⟩ := undMe
  go_enter Try.func37, Try.ntmps37
  go_wp2_with fail
  refine bodyPost_ret (results2_row rfl _ _ W.heap.size 54 #[.int .i64 0, .int .i64 0, .int .i64 0] (0, 0) _ rfl (heap_alloc_new W _) hum rfl infoMe) rfl ?_
  exact ⟨rfl, (Bl.refl W).alloc _⟩
set_option maxRecDepth 8000 in
set_option maxHeartbeats 1000000 in
theorem Get_x {w W : World} {q b : Nat} {f : K.Vw} {N : Nat} (x : VT w q b f N W) (k : Int) (hk : i64 k) :
    Calls Try.prog 37 #[.pointer (some ⟨q, 0, none⟩), .int .i64 k] W fun e w' => e = .returned (.tuple #[.agg (meV (gv f k)), .bool (f k).isSome]) ∧ Bl W w' := by
  have x1 := x.grow ((Bl.refl W).alloc (.cells #[.int .i64 0, .int .i64 0, .int .i64 0] 54))
  have x2 := x1.grow ((Bl.refl _).alloc (.cells #[.int .i64 0, .int .i64 0, .int .i64 0] 54))
  have c0 := x.c0
  have c1 := x1.c0
  have c2 := x2.c0
  have hlk := x1.mp.look k hk
  have hlk0 := x.mp.look k hk
  have hlk2 := x2.mp.look k hk
  clear x x1 x2
  generalize (f k).isSome = y at *
  generalize gv f k = o at *
  obtain ⟨n2, i2, s2⟩ := o
  unfold meV at *
  simp only at *
  obtain ⟨fs, hum⟩ := undMe
  go_enter Try.func37, Try.ntmps37
  go_wp2_with fail
  refine bodyPost_ret (results2_row rfl _ _ W.heap.size 54 #[.int .i64 n2, .int .i64 i2, .int .i64 s2] (0, 0) _ rfl (by rw [Below.heap_alloc _ _ _ (by simp)]; exact heap_alloc_new W _) hum rfl infoMe) rfl ?_
  exact ⟨rfl, ((Bl.refl W).alloc _).alloc _⟩
theorem Get_b {w0 w W : World} {q b : Nat} {f : K.Vw} {N : Nat} (x : VT w0 q b f N W) (k : Int) (hk : i64 k) (hb : Bl w W) :
    Calls Try.prog 37 #[.pointer (some ⟨q, 0, none⟩), .int .i64 k] W fun e w' => e = .returned (.tuple #[.agg (meV (gv f k)), .bool (f k).isSome]) ∧ Bl w w' := (Get_x x k hk).mono fun e w' ⟨h1, h2⟩ => ⟨h1, hb.step h2⟩
end Go.Proofs.Ytebmgajijjhinaa
