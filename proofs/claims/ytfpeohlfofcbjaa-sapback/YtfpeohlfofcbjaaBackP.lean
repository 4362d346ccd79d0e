/- PROVED: for all numbers, texts and bytes behind them the law SapBack returns true and leaves its arguments as they were: numbers, texts and rows one behind the other are read as they were, each with what stood behind it. No condition. -/
import Derived.Test.YtfpeohlfofcbjaaBack
import Derived.Test.YtfpeohlfofcbjaaArgs
import Derived.ShutString
import Derived.ChangeOld
import Derived.Below
import Derived.SizedLaws
namespace Go.Proofs.Ytfpeohlfofcbjaa.sapBack
open Go.ChangeShapes Go.WideShapes Go.ChangeAt Go.RowKit
open Go.ChangeMaps (open_string shut_string)
set_option linter.unusedVariables false

theorem own : ownKnob Try.prog.godebug = none := by kernel_rfl
theorem laidOut : laidOutB Try.prog = true := by kernel_rfl

/-- a row of integers that came in -/
def Ints (w : World) (a : Option Addr) (ns : List Int) : Prop :=
  ∀ i x, ns[i]? = some x → ∃ b off, a = some ⟨b, off, none⟩ ∧ b < w.heap.size ∧ w.cell? ⟨b, off + i, none⟩ = some (.int .i64 x) ∧ -9223372036854775808 ≤ x ∧ x < 9223372036854775808

theorem cellsInt : Try.prog.cellsOf 3 = 1 := by kernel_rfl
theorem open_nums {H : Type} {enc : TypeId × Value → H} {W : World} {base : Nat} {v : Value} {d : DataW H} {p : List MemPlace}
    (hok : Value.okWide Try.prog W .any base 37 v) (h : DataW.Trod enc Try.prog W 0 (fun _ => true) true 37 v d p) :
    ∃ (a : Option Addr) (c : Nat) (ns : List Int), v = .slice a ns.length c ∧ Ints W a ns ∧ ns.length ≤ maxLen := by
  obtain ⟨a, len, cap, rfl⟩ := okWide_slice Try.underlying37 hok
  obtain ⟨fuel, hf⟩ := h
  rcases open_ints Try.underlying37 Try.underlying3 cellsInt hf with ⟨hcs, _⟩ | ⟨x, len', cap', zs, hcs, _, hl, hm, hz, _, hcell, hwz⟩
  · simp [Value.cells] at hcs
    obtain ⟨rfl, rfl, rfl⟩ := hcs
    exact ⟨none, 0, [], rfl, fun i x hx => by simp at hx, by simp⟩
  · simp [Value.cells] at hcs
    obtain ⟨rfl, rfl, rfl⟩ := hcs
    simp only [if_true] at hz
    have hlen : (zs.take len).length = len := by simp; omega
    refine ⟨some x, cap, zs.take len, by rw [hlen], ?_, by rw [hlen]; omega⟩
    intro i y hy
    rw [List.getElem?_take] at hy
    by_cases hi : i < len
    · rw [if_pos hi] at hy
      have hi' : i < zs.length := by omega
      obtain ⟨b, off, spot⟩ := x
      have hspot : spot = none := by simpa [Addr.add] using World.cell?_spot (hcell 0 (by omega))
      subst hspot
      have hc := hcell i hi'
      rw [add_plain] at hc
      have hmem : y ∈ zs := List.mem_of_getElem? hy
      have hw := wf_i64 (hwz y hmem)
      rw [List.getD_eq_getElem?_getD, hy, Option.getD_some] at hc
      exact ⟨b, off, rfl, block_lt hc, hc, hw.1, hw.2⟩
    · rw [if_neg hi] at hy; simp at hy

theorem walk (a1 : Option Addr) (c1 : Nat) (ns : List Int) (a : Option Addr) (c : Nat) (l : List (List UInt8)) (s : ByteArray) (w : World) (hi : Ints w a1 ns) (hni : ns.length ≤ maxLen) (hv : Strs w.heap.size w (.slice a l.length c) l) (hn : l.length ≤ maxLen) (hl : ∀ t ∈ l, t.length ≤ maxLen) (hs : s.size ≤ 140737488355328) :
    Calls Try.prog 5 #[.slice a1 ns.length c1, .slice a l.length c, .string s] w fun e w' => e = .returned (.bool true) ∧ Below w.heap.size w w' := by
  by_cases h : 60 < ns.length ∨ (ns.length ≤ 60 ∧ 60 < l.length)
  · exact sapBack_many a1 a _ c1 _ c s w hni hn h
  rw [← M.bs_of s]
  have hs' : s.data.toList.length = s.size := (Lib.size_eq s).symm
  rcases first_long l 4096 with hall | ⟨j, t, h1, h2, h3⟩
  · exact sapBack_walk a1 a c1 c ns l _ w (by omega) (by omega) (by rw [hs']; exact hs) hi (strs_at hv) hv hall
  · exact sapBack_long a1 a c1 c ns l _ w (by omega) (by omega) hi (strs_at hv) j t h1 h2 (hl t (mem_of h1)) h3

set_option maxRecDepth 100000 in
theorem lifted (os : Os) (started : os.Started) (H : Type) (enc : TypeId × Value → H) :
    ReturnsInHanded {} Try.checked os 5 .any (Rows.sapBackSpec.pre6 enc Try.prog Try.f5 Rows.sapBackRow.domain false) (Rows.sapBackSpec.post enc Try.prog Try.f5 false true false false) := by
  refine returnsInHanded_of_change_sized (C := Try.checked) own started (by kernel_rfl) Try.func5
    (ChangeSpec.witness6 (enc := enc) (C := Try.checked) false ⟨#[], #[.slice none 0 0, .slice none 0 0, .string ByteArray.empty], []⟩ 8 (by kernel_rfl) (by kernel_rfl) (by kernel_rfl) (by kernel_rfl)) ?_
  intro W base args ds gs before hval0 hW hcnd hsz0 _
  have hval : ∀ (j : Nat) t v, Try.f5.params[j]? = some t → args[j]? = some v → Value.okWide Try.prog W .any base t v := hval0
  have hW' := hW
  obtain ⟨p, q, hA0, hV, rfl, hfz, hnd⟩ := hW
  have hA : DataW.TrodAll enc Try.prog W 0 (fun _ => true) true Try.f5.params.toList args.toList ds p := hA0
  rw [Try.params5] at hA hval
  obtain ⟨v0, vs0, d0, ds0, p0, q0, hargs, rfl, rfl, h0, r0⟩ := trodAll_cons hA
  obtain ⟨v1, vs1, d1, ds1, p1, q1, rfl, rfl, rfl, h1, r1⟩ := trodAll_cons r0
  obtain ⟨v2, vs2, d2, ds2, p2, q2, rfl, rfl, rfl, h2, r2⟩ := trodAll_cons r1
  obtain ⟨rfl, rfl, rfl⟩ := trodAll_nil r2
  obtain rfl : args = #[v0, v1, v2] := by cases args; simp_all
  obtain ⟨rfl, rfl⟩ := trodVars_none hV
  have k0 := h0
  have lt0 : ∀ x ∈ p0, x.block < W.heap.size := by obtain ⟨m, hm⟩ := k0; exact DataW.trod_lt m _ _ _ hm
  obtain ⟨a1, c1, ns, rfl, hi, hni⟩ := open_nums (hval 0 37 v0 rfl rfl) h0
  have k1 := h1
  have lt1 : ∀ x ∈ p1, x.block < W.heap.size := by obtain ⟨m, hm⟩ := k1; exact DataW.trod_lt m _ _ _ hm
  obtain ⟨a, c, l, rfl, hv, hn, hl, _⟩ := open_texts (hval 1 22 v1 rfl rfl) h1
  obtain ⟨s, rfl, rfl, rfl, w2⟩ := open_string Try.underlying9 (hval 2 9 v2 rfl rfl) h2
  have hs : s.size ≤ 140737488355328 := by
    have hsz : (DataW.weightsEach Try.prog (Try.f5.params.toList ++ Rows.sapBackSpec.plain.varTypes Try.prog) ([d0, d1, .lit (.string s.data.toList)] ++ [])).all (· ≤ reachBytes) = true := hsz0
    have h := sized_string hsz (j := 2) (t := 9) (bytes := s.data.toList) (by rw [Try.params5]; rfl) rfl
    have := reachBytes_lt
    rw [← Lib.size_eq] at h
    omega
  clear hA0 hval0 hsz0
  refine (walk a1 c1 ns a c l s W hi hni hv hn hl hs).mono fun e W' ⟨he, bel⟩ => ?_
  subst he
  exact ⟨_, rfl, _, _, _, [], _, [], hW', trodAll_mk1 (shut_bool Try.underlying4 _), (trodAll_cons_mk (Below.trod laidOut (by kernel_rfl) (of_decide_eq_true (by kernel_rfl)) k0 bel lt0) (trodAll_cons_mk (Below.trod laidOut (by kernel_rfl) (of_decide_eq_true (by kernel_rfl)) k1 bel lt1) (trodAll_cons_mk (shut_string Try.underlying9 w2) trodAll_mk0))), rfl, bel.frame _, fun h => by cases h⟩

theorem over : Rows.sapBackRow.holds Try.pinned (OpenSpec.ofChange Rows.sapBackSpec) :=
  OpenClaim.holds_of_wide 5 Try.f5 rfl rfl rfl rfl rfl rfl rfl ⟨rfl, rfl, rfl, rfl, rfl⟩ rfl rfl rfl rfl rfl (by kernel_rfl) Try.func5 (by kernel_rfl)
    (of_decide_eq_true (by kernel_rfl)) (by unfold Func.isWrapper; first | (rw [if_pos (by decide +kernel)]; kernel_rfl) | (rw [if_neg (by decide +kernel)]; exact ⟨rfl, rfl⟩))
    (fun os started H enc _ => lifted os started H enc)

theorem proved : Rows.SapBackSaid :=
  over
end Go.Proofs.Ytfpeohlfofcbjaa.sapBack
