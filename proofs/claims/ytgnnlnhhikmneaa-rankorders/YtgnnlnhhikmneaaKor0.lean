/- The walk of the law RankOrders. -/
import Derived.Test.YtgnnlnhhikmneaaKaw
import Derived.Test.YtgnnlnhhikmneaaRegT
namespace Go.Proofs.Ytgnnlnhhikmneaa
open Go.RowKit Go.Maps
set_option linter.unusedVariables false
set_option linter.unusedSimpArgs false

/-- three members in blocks of their own -/
structure B3 (w : World) (a b c : K.Me) (W : World) : Prop where
  bl : Bl w W
  r0 : Bx W w.heap.size a
  r1 : Bx W (w.heap.size + 1) b
  r2 : Bx W (w.heap.size + 2) c
theorem B3.grow {w W W' : World} {a b c : K.Me} (h : B3 w a b c W) (hb : Bl W W') : B3 w a b c W' := ⟨h.bl.step hb, h.r0.grow hb, h.r1.grow hb, h.r2.grow hb⟩
theorem B3.new (w : World) (a b c : K.Me) : B3 w a b c (((w.alloc (.cells #[.int .i64 a.1, .int .i64 a.2.1, .int .i64 a.2.2] 28)).alloc (.cells #[.int .i64 b.1, .int .i64 b.2.1, .int .i64 b.2.2] 28)).alloc (.cells #[.int .i64 c.1, .int .i64 c.2.1, .int .i64 c.2.2] 28)) := by
  refine ⟨(((Bl.refl w).alloc _).alloc _).alloc _, ?_, ?_, ?_⟩
  · exact ((Bx.new w a).grow (((Bl.refl _).alloc _).alloc _))
  · have := (Bx.new (w.alloc (.cells #[.int .i64 a.1, .int .i64 a.2.1, .int .i64 a.2.2] 28)) b).grow ((Bl.refl _).alloc (.cells #[.int .i64 c.1, .int .i64 c.2.1, .int .i64 c.2.2] 28))
    rwa [size_alloc1] at this
  · have := Bx.new ((w.alloc (.cells #[.int .i64 a.1, .int .i64 a.2.1, .int .i64 a.2.2] 28)).alloc (.cells #[.int .i64 b.1, .int .i64 b.2.1, .int .i64 b.2.2] 28)) c
    rwa [size_alloc1, size_alloc1] at this
theorem Above_3 {w : World} {a b c : K.Me} (x y : K.Me) (r : Bool) (h : K.above x y = r) (W : World) (hb : B3 w a b c W) : Calls Try.prog 20 #[.agg #[.int .i64 x.1, .int .i64 x.2.1, .int .i64 x.2.2], .agg #[.int .i64 y.1, .int .i64 y.2.1, .int .i64 y.2.2]] W fun e w' => e = .returned (.bool r) ∧ B3 w a b c w' := by
  subst h
  exact (Above_0 x y W).mono fun e w' ⟨h1, h2⟩ => ⟨h1, hb.grow h2⟩
theorem Good_3 {w : World} {a b c : K.Me} (x : K.Me) (r : Bool) (h : K.good x = r) (W : World) (hb : B3 w a b c W) : Calls Try.prog 18 #[.agg #[.int .i64 x.1, .int .i64 x.2.1, .int .i64 x.2.2]] W fun e w' => e = .returned (.bool r) ∧ B3 w a b c w' := by
  subst h
  exact (Good_0 x W).mono fun e w' ⟨h1, h2⟩ => ⟨h1, hb.grow h2⟩
end Go.Proofs.Ytgnnlnhhikmneaa
