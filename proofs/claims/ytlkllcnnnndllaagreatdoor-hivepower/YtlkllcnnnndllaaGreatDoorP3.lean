/- Calls that came in, opened. -/
import Derived.Test.YtlkllcnnnndllaaGreatDoorOpI
import Derived.Test.YtlkllcnnnndllaaGreatDoorN2
namespace Go.Proofs.YtlkllcnnnndllaaGreatDoor
open Go.ChangeShapes Go.WideShapes Go.ChangeAt Go.RowKit
set_option linter.unusedVariables false
set_option maxRecDepth 8000

/-- a call that came in -/
structure A5 where
  kind : Int
  text : List UInt8
  r : V.Rc
  at' : Int
  fates : List Int
  fa : Option Addr
  fc : Nat
def avL (x : A5) : List Value := Value.int .i64 x.kind :: Value.string (M.bs x.text) :: (rvL x.r ++ [Value.int .i64 x.at', Value.slice x.fa x.fates.length x.fc])
structure A5ok (w : World) (x : A5) : Prop where
  t : x.text.length ≤ 9223372036854775807
  r : Rc32 x.r
  f : FI w x.fa x.fates
  fl : x.fates.length ≤ 9223372036854775807
  fb : ∀ y ∈ x.fates, -9223372036854775808 ≤ y ∧ y ≤ 9223372036854775807
  a1 : -9223372036854775808 ≤ x.at'
  a2 : x.at' ≤ 9223372036854775807
theorem avL_length {x : A5} (h : Rc32 x.r) : (avL x).length = 69 := by simp [avL, rvL_length h]
theorem avL_one (x : A5) : ∀ v ∈ avL x, v.oneCell' = true := fun v hv => by
  unfold avL at hv
  simp only [List.mem_cons, List.mem_append, List.not_mem_nil, or_false] at hv
  rcases hv with rfl | rfl | hv | rfl | rfl
  · rfl
  · rfl
  · exact rvL_one x.r v hv
  · rfl
  · rfl
/-- calls as a slice, read in a world -/
def AC5 (w : World) (a : Option Addr) (l : List A5) : Prop := ∀ (i : Nat) (x : A5), l[i]? = some x → ∃ sb off, a = some ⟨sb, off, none⟩ ∧ sb < w.heap.size ∧ w.rangeAt sb (off + i * 69) (avL x) ∧ A5ok w x
theorem cAct5 : Tryz.prog.cellsOf 43 = 69 := by kernel_rfl
theorem cRec5 : Tryz.prog.cellsOf 41 = 65 := by kernel_rfl
/-- a digest's cells -/
theorem dig_of {H : Type} {enc : TypeId × Value → H} {W : World} {fuel : Nat} {cs : List Value} {d : DataW H} {p : List MemPlace}
    (h : DataW.trod enc Tryz.prog W 0 (fun _ => true) true fuel 39 cs = some (d, p)) : ∃ a : List UInt8, a.length = 32 ∧ cs = a.map vb := by
  obtain ⟨zs, hz0, hz1, hz2, hp, hw⟩ := open_arr und27 Tryz.underlying5 c5 c27 h
  refine ⟨zs.map fun z => UInt8.ofNat z.toNat, by simp [hz0], ?_⟩
  rw [hz1, List.map_map]
  apply List.map_congr_left
  intro z hz
  have hb := hw z hz
  simp [Lit.wf, IntKind.min, IntKind.max, IntKind.signed, IntKind.bits] at hb
  show Value.int .u8 z = Value.int .u8 ((UInt8.ofNat z.toNat).toNat : Int)
  rw [UInt8.toNat_ofNat_of_lt' (by show z.toNat < 256; omega)]
  congr 1; omega
theorem cut3 {α : Type} (cs : List α) (n m : Nat) (h : cs.length = n + 1 + m) {a c : List α} {b : α} (ha : cs.take n = a) (hb : (cs.drop n).take 1 = [b]) (hc : (cs.drop (n + 1)).take m = c) : cs = a ++ (b :: c) := by
  have e1 : cs.drop (n + 1) = c := by rw [← hc, List.take_of_length_le (by simp; omega)]
  have e2 : cs.drop n = b :: c := by
    have : cs.drop n = (cs.drop n).take 1 ++ (cs.drop n).drop 1 := (List.take_append_drop _ _).symm
    rw [this, hb, List.drop_drop, e1]
    rfl
  rw [← List.take_append_drop n cs, ha, e2]
/-- a record's cells -/

theorem rec_of {H : Type} {enc : TypeId × Value → H} {W : World} {fuel : Nat} {cs : List Value} {d : DataW H} {p : List MemPlace}
    (h : DataW.trod enc Tryz.prog W 0 (fun _ => true) true fuel 41 cs = some (d, p)) : ∃ r : V.Rc, Rc32 r ∧ cs = rvL r := by
  obtain ⟨xs, n, _, hx, hcl, hxl, hfi⟩ := DataW.trod_struct Tryz.underlying41 h
  rw [cRec5] at hcl
  have g : ∀ (i : Nat), i < 3 → ∃ x, xs[i]? = some x := fun i hi => ⟨xs[i]'(by rw [hxl]; exact hi), List.getElem?_eq_getElem _⟩
  obtain ⟨x0, e0⟩ := g 0 (by omega)
  obtain ⟨x1, e1⟩ := g 1 (by omega)
  obtain ⟨x2, e2⟩ := g 2 (by omega)
  have f0 := hfi 0 _ rfl
  have f1 := hfi 1 _ rfl
  have f2 := hfi 2 _ rfl
  rw [e0] at f0
  rw [e1] at f1
  rw [e2] at f2
  obtain ⟨d0, p0⟩ := x0
  obtain ⟨d1, p1⟩ := x1
  obtain ⟨d2, p2⟩ := x2
  have f0' : DataW.trod enc Tryz.prog W 0 (fun _ => true) true n 39 ((cs.drop 0).take 32) = some (d0, p0) := f0
  have f1' : DataW.trod enc Tryz.prog W 0 (fun _ => true) true n 32 ((cs.drop 32).take 1) = some (d1, p1) := f1
  have f2' : DataW.trod enc Tryz.prog W 0 (fun _ => true) true n 39 ((cs.drop 33).take 32) = some (d2, p2) := f2
  obtain ⟨ka, k1, k2⟩ := dig_of f0'
  obtain ⟨z, z1, z2, z3⟩ := DataW.trod_int Tryz.underlying32 f1'
  obtain ⟨oa, o1, o2⟩ := dig_of f2'
  have hz := wf_i64 z3
  refine ⟨⟨ka, z, oa⟩, ⟨k1, o1, hz.1, by have := hz.2; show z ≤ _; omega⟩, ?_⟩
  exact cut3 cs 32 32 hcl (by simpa using k2) z1 o2
/-- one call's cells -/

theorem act5_of {H : Type} {enc : TypeId × Value → H} {W : World} {fuel : Nat} {cs : List Value} {d : DataW H} {p : List MemPlace}
    (h : DataW.trod enc Tryz.prog W 0 (fun _ => true) true fuel 43 cs = some (d, p)) : ∃ x : A5, cs = avL x ∧ A5ok W x := by
  obtain ⟨xs, n, _, hx, hcl, hxl, hfi⟩ := DataW.trod_struct Tryz.underlying43 h
  rw [cAct5] at hcl
  have g : ∀ (i : Nat), i < 5 → ∃ x, xs[i]? = some x := fun i hi => ⟨xs[i]'(by rw [hxl]; exact hi), List.getElem?_eq_getElem _⟩
  obtain ⟨x0, e0⟩ := g 0 (by omega)
  obtain ⟨x1, e1⟩ := g 1 (by omega)
  obtain ⟨x2, e2⟩ := g 2 (by omega)
  obtain ⟨x3, e3⟩ := g 3 (by omega)
  obtain ⟨x4, e4⟩ := g 4 (by omega)
  have f0 := hfi 0 _ rfl
  have f1 := hfi 1 _ rfl
  have f2 := hfi 2 _ rfl
  have f3 := hfi 3 _ rfl
  have f4 := hfi 4 _ rfl
  rw [e0] at f0
  rw [e1] at f1
  rw [e2] at f2
  rw [e3] at f3
  rw [e4] at f4
  obtain ⟨d0, p0⟩ := x0
  obtain ⟨d1, p1⟩ := x1
  obtain ⟨d2, p2⟩ := x2
  obtain ⟨d3, p3⟩ := x3
  obtain ⟨d4, p4⟩ := x4
  have f0' : DataW.trod enc Tryz.prog W 0 (fun _ => true) true n 3 ((cs.drop 0).take 1) = some (d0, p0) := f0
  have f1' : DataW.trod enc Tryz.prog W 0 (fun _ => true) true n 9 ((cs.drop 1).take 1) = some (d1, p1) := f1
  have f2' : DataW.trod enc Tryz.prog W 0 (fun _ => true) true n 41 ((cs.drop 2).take 65) = some (d2, p2) := f2
  have f3' : DataW.trod enc Tryz.prog W 0 (fun _ => true) true n 3 ((cs.drop 67).take 1) = some (d3, p3) := f3
  have f4' : DataW.trod enc Tryz.prog W 0 (fun _ => true) true n 23 ((cs.drop 68).take 1) = some (d4, p4) := f4
  obtain ⟨z, z1, z2, z3⟩ := DataW.trod_int Tryz.underlying3 f0'
  obtain ⟨s, s1, s2, s3⟩ := DataW.trod_string Tryz.underlying9 f1'
  obtain ⟨r, r1, r2⟩ := rec_of f2'
  obtain ⟨y, y1, y2, y3⟩ := DataW.trod_int Tryz.underlying3 f3'
  obtain ⟨v, hv⟩ : ∃ v, (cs.drop 68).take 1 = [v] := by
    have hl : ((cs.drop 68).take 1).length = 1 := by simp; omega
    match hq : (cs.drop 68).take 1, hl with
    | [v], _ => exact ⟨v, rfl⟩
  rw [hv] at f4'
  obtain ⟨fa, fc, fl, q1, q2, q3, q4⟩ := open_ints_c f4'
  subst q1
  have hyb := wf_i64 y3
  refine ⟨⟨z, s.data.toList, r, y, fl, fa, fc⟩, ?_, ⟨by show s.data.toList.length ≤ _; rw [← Lib.size_eq]; have : s.size ≤ maxLen := s3; have : maxLen = 9223372036854775807 := rfl; omega, r1, q2, by have : maxLen = 9223372036854775807 := rfl; show fl.length ≤ _; omega, q4, hyb.1, by have := hyb.2; show y ≤ _; omega⟩⟩
  have c2 : cs.drop 67 = [.int .i64 y, .slice fa fl.length fc] := by
    have := cut3 (cs.drop 67) 0 1 (by simp; omega) (a := []) (b := .int .i64 y) (c := [.slice fa fl.length fc]) rfl (by simpa using y1) (by rw [List.drop_drop]; exact hv)
    exact this
  have c3 : cs.drop 2 = rvL r ++ [.int .i64 y, .slice fa fl.length fc] := by
    rw [← List.take_append_drop 65 (cs.drop 2), r2, List.drop_drop, c2]
  have c4 : cs.drop 1 = .string s :: (rvL r ++ [.int .i64 y, .slice fa fl.length fc]) := by
    rw [← List.take_append_drop 1 (cs.drop 1), s1, List.drop_drop, c3]; rfl
  have c5 : cs = .int .i64 z :: .string s :: (rvL r ++ [.int .i64 y, .slice fa fl.length fc]) := by
    have h0 : cs = cs.take 1 ++ cs.drop 1 := (List.take_append_drop 1 cs).symm
    have z1' : cs.take 1 = [.int .i64 z] := by simpa using z1
    rw [h0, z1', c4]; rfl
  rw [c5]
  show _ = avL ⟨z, s.data.toList, r, y, fl, fa, fc⟩
  unfold avL
  rw [M.bs_of]
/-- CALLS THAT CAME IN -/

theorem open_acts5 {H : Type} {enc : TypeId × Value → H} {W : World} {base : Nat} {v : Value} {d : DataW H} {p : List MemPlace}
    (hok : Value.okWide Tryz.prog W .any base 22 v) (h : DataW.Trod enc Tryz.prog W 0 (fun _ => true) true 22 v d p) :
    ∃ (a : Option Addr) (c : Nat) (l : List A5), v = .slice a l.length c ∧ AC5 W a l ∧ l.length ≤ maxLen := by
  obtain ⟨a0, len0, cap0, rfl⟩ := okWide_slice Tryz.underlying22 hok
  obtain ⟨fuel, hf0⟩ := h
  have hf : DataW.trod enc Tryz.prog W 0 (fun _ => true) true fuel 22 [.slice a0 len0 cap0] = some (d, p) := by simpa [Value.cells] using hf0
  rcases DataW.trod_slice Tryz.underlying22 hf with ⟨hcs, hx⟩ | ⟨a, len, cap, elems, rest, n, _, hcs, hx, hb, hl, hm, hlen, hel, _, _⟩
  · simp only [List.cons.injEq, and_true] at hcs
    rw [hcs]
    exact ⟨none, 0, [], rfl, fun i d h => by simp at h, by simp⟩
  · simp only [List.cons.injEq, and_true] at hcs
    rw [hcs]
    have key : ∀ i, i < len → ∃ x : A5, W.cells? 0 (a.add (i * 69)) 69 = some (avL x) ∧ A5ok W x := fun i hi => by
      have h := hel i hi
      rw [cAct5, List.getElem?_eq_getElem (by omega)] at h
      cases hc : W.cells? 0 (a.add (i * 69)) 69 with
      | none => rw [hc] at h; simp at h
      | some cs =>
        rw [hc] at h
        simp only [Option.bind_some] at h
        obtain ⟨x, hx⟩ : ∃ x, elems[i] = x := ⟨_, rfl⟩
        rw [hx] at h
        obtain ⟨d, p⟩ := x
        obtain ⟨y, y1, y2⟩ := act5_of h
        exact ⟨y, by rw [y1], y2⟩
    obtain ⟨l, hll, hlp⟩ := list_ofI len key
    refine ⟨some a, cap, l, by rw [hll], fun i x hx => ?_, by rw [hll]; omega⟩
    have hspot : a.spot = none := by
      have hi : i < l.length := (List.getElem?_eq_some_iff.1 hx).1
      obtain ⟨g1, g2⟩ := hlp 0 _ (List.getElem?_eq_getElem (by omega : 0 < l.length))
      obtain ⟨_, _, gce⟩ := World.cells?_some g1
      have g0 := gce 0 (by omega)
      have := World.cell?_spot g0
      simpa [Addr.add] using this
    obtain ⟨h1, h2⟩ := hlp i x hx
    obtain ⟨_, hcl, hce⟩ := World.cells?_some h1
    obtain ⟨b, off, spot⟩ := a
    subst hspot
    have c0 := hce 0 (by omega)
    rw [add_plain, add_plain] at c0
    have c0' : W.cell? ⟨b, off + i * 69, none⟩ = (avL x)[0]? := c0
    refine ⟨b, off, rfl, block_lt (c0'.trans rfl), fun j v hv => ?_, h2⟩
    have hj : j < 69 := by have := (List.getElem?_eq_some_iff.1 hv).1; rw [avL_length h2.r] at this; exact this
    have cj := hce j hj
    rw [add_plain, add_plain] at cj
    exact cj.trans hv
end Go.Proofs.YtlkllcnnnndllaaGreatDoor
