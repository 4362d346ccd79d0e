/- A hum in memory; New. -/
import Derived.Test.YtebmgajijjhinaaHuE
import Derived.Test.YtebmgajijjhinaaOwA
namespace Go.Proofs.Ytebmgajijjhinaa
open Go.RowKit Go.Maps
set_option linter.unusedVariables false
set_option linter.unusedSimpArgs false

/-- a hum in block b; its row of rumours is v, and holds l: just the rumours F -/
structure HL (w : World) (b : Nat) (v : Value) (T : Int) (F : HU.St) (l : List HU.Ru) (W : World) : Prop where
  row : W.heap[b]? = some (.cells #[.int .i64 T, v] 117 (0, 0))
  own : W.ownsRow w.heap.size 115 4 v l.length (flG lyR l)
  b0 : w.heap.size ≤ b
  bl : Bl w W
  rep : HU.Rep l F
  ok : HU.Ok F T
  t1 : 1 ≤ T
  t2 : T ≤ 100
/-- all blocks are as they were but for b and the row v, which is now v' -/
structure OV (b : Nat) (v v' : Value) (W W' : World) : Prop where
  os : W'.os = W.os
  tape : W'.tape = W.tape
  output : W'.output = W.output
  size : W.heap.size ≤ W'.heap.size
  block : ∀ k, k < W.heap.size → k ≠ b → some k ≠ v.ownBlock → W'.heap[k]? = W.heap[k]?
  own : ∀ g, v'.ownBlock = some g → v.ownBlock = some g ∨ W.heap.size ≤ g
theorem OV.refl (b : Nat) (v : Value) (W : World) : OV b v v W W := ⟨rfl, rfl, rfl, Nat.le_refl _, fun _ _ _ _ => rfl, fun _ h => Or.inl h⟩
theorem OV.bl {b : Nat} {v : Value} {W W' : World} (h : Bl W W') : OV b v v W W' := ⟨h.os, h.tape, h.output, h.size, fun k hk _ _ => h.block k hk, fun _ h => Or.inl h⟩
theorem OV.grown {b : Nat} {v : Value} {W W' : World} (h : W.grownBy W' v.ownBlock) : OV b v v W W' := ⟨h.os, h.tape, h.output, h.size, fun k hk _ hv => h.block k hk hv, fun _ h => Or.inl h⟩
theorem OV.trans {b : Nat} {v v1 v2 : Value} {W W1 W2 : World} (h : OV b v v1 W W1) (k : OV b v1 v2 W1 W2) : OV b v v2 W W2 := by
  refine ⟨k.os.trans h.os, k.tape.trans h.tape, k.output.trans h.output, Nat.le_trans h.size k.size, fun i hi hb hv => ?_, fun g hg => ?_⟩
  · rw [k.block i (Nat.lt_of_lt_of_le hi h.size) hb (fun e => ?_)]
    · exact h.block i hi hb hv
    · rcases h.own i e.symm with h1 | h1
      · exact hv h1.symm
      · omega
  · rcases k.own g hg with h1 | h1
    · exact h.own g h1
    · right; have := h.size; omega
theorem OV.below {b : Nat} {v v' : Value} {w W W' : World} (h : OV b v v' W W') (hb : Bl w W) (hB : w.heap.size ≤ b) (hv : ∀ g, v.ownBlock = some g → w.heap.size ≤ g) : Bl w W' :=
  ⟨h.os.trans hb.os, h.tape.trans hb.tape, h.output.trans hb.output, Nat.le_trans hb.size h.size, fun k hk => (h.block k (Nat.lt_of_lt_of_le hk hb.size) (by omega) (fun e => by have := hv k e.symm; omega)).trans (hb.block k hk)⟩
theorem HL.lt {w W : World} {b : Nat} {v : Value} {T : Int} {F : HU.St} {l : List HU.Ru} (h : HL w b v T F l W) : b < W.heap.size := lt_heap h.row
theorem HL.len {w W : World} {b : Nat} {v : Value} {T : Int} {F : HU.St} {l : List HU.Ru} (h : HL w b v T F l W) : l.length ≤ 6 := h.rep.len h.ok
theorem HL.ge {w W : World} {b : Nat} {v : Value} {T : Int} {F : HU.St} {l : List HU.Ru} (h : HL w b v T F l W) {g : Nat} (hg : v.ownBlock = some g) : w.heap.size ≤ g ∧ g < W.heap.size := owns_ge h.own hg
theorem own_tag {W : World} {N k n g : Nat} {T : TypeId} {v : Value} {xs : List Value} (h : W.ownsRow N T k v n xs) (hg : v.ownBlock = some g) : ∃ C, W.heap[g]? = some (.cells C T (0, 0)) := by
  obtain ⟨_, ⟨h1, h2⟩ | ⟨g', cap', cur, h1, _, h3, _⟩⟩ := h
  · subst h1; cases hg
  · subst h1; cases hg; exact ⟨cur, h3⟩
/-- the hum's block and its row's are two -/
theorem HL.ne {w W : World} {b : Nat} {v : Value} {T : Int} {F : HU.St} {l : List HU.Ru} (h : HL w b v T F l W) : some b ≠ v.ownBlock := fun e => by
  obtain ⟨C, hC⟩ := own_tag h.own e.symm
  rw [h.row] at hC
  have h1 := Option.some.inj hC
  injection h1 with _ h2
  exact absurd h2 (by decide)
theorem HL.grow {w W W' : World} {b : Nat} {v : Value} {T : Int} {F : HU.St} {l : List HU.Ru} (h : HL w b v T F l W) (hb : Bl W W') : HL w b v T F l W' :=
  ⟨by rw [Below.block hb _ h.lt]; exact h.row, ownsRow_bl h.own hb, h.b0, h.bl.step hb, h.rep, h.ok, h.t1, h.t2⟩
/-- the row has turned, where it lies -/
theorem HL.turn {w W W' : World} {b : Nat} {v : Value} {T : Int} {F F' : HU.St} {l l' : List HU.Ru} (h : HL w b v T F l W) (hg : W.grownBy W' v.ownBlock) (ho : W'.ownsRow w.heap.size 115 4 v l'.length (flG lyR l')) (hr : HU.Rep l' F') (hk : HU.Ok F' T) : HL w b v T F' l' W' :=
  ⟨by rw [hg.block b h.lt h.ne]; exact h.row, ho, h.b0, (OV.grown (b := b) hg).below h.bl h.b0 (fun g e => (h.ge e).1), hr, hk, h.t1, h.t2⟩
theorem HL.c0 {w W : World} {b : Nat} {v : Value} {T : Int} {F : HU.St} {l : List HU.Ru} (h : HL w b v T F l W) : W.cell? ⟨b, 0, none⟩ = some (.int .i64 T) := by rw [Lib.cell_of_heap h.row]; rfl
theorem HL.c1 {w W : World} {b : Nat} {v : Value} {T : Int} {F : HU.St} {l : List HU.Ru} (h : HL w b v T F l W) : W.cell? ⟨b, 1, none⟩ = some v := by rw [Lib.cell_of_heap h.row]; rfl
theorem HL.fz {w W : World} {b : Nat} {v : Value} {T : Int} {F : HU.St} {l : List HU.Ru} (h : HL w b v T F l W) (o : Nat) : W.frozen? ⟨b, o, none⟩ = false := by simp [World.frozen?, h.row]
/-- the hum's field is written anew -/
theorem field_set {w W : World} {b : Nat} {v v' : Value} {T : Int} {F' : HU.St} {l' : List HU.Ru} (hrow : W.heap[b]? = some (.cells #[.int .i64 T, v] 117 (0, 0))) (ho : W.ownsRow w.heap.size 115 4 v' l'.length (flG lyR l')) (hb0 : w.heap.size ≤ b) (hbl : Bl w W) (hr : HU.Rep l' F') (hk : HU.Ok F' T) (t1 : 1 ≤ T) (t2 : T ≤ 100) : HL w b v' T F' l' (W.setCell ⟨b, 1, none⟩ v') := by
  have hne : some b ≠ v'.ownBlock := fun e => by
    obtain ⟨C, hC⟩ := own_tag ho e.symm
    rw [hrow] at hC
    have h1 := Option.some.inj hC
    injection h1 with _ h2
    exact absurd h2 (by decide)
  have hg := grown_setCell W b 1 v'
  refine ⟨heap_setCell_own hrow, ?_, hb0, (Of1.of_grown hg).bl hbl hb0, hr, hk, t1, t2⟩
  obtain ⟨h0, h1 | ⟨g, cap, cur, h1, h2, h3, h4⟩⟩ := ho
  · exact ⟨h0, Or.inl h1⟩
  · refine ⟨h0, Or.inr ⟨g, cap, cur, h1, h2, ?_, h4⟩⟩
    rw [hg.block g (lt_heap h3) (fun e => hne (by rw [h1, ← e]; rfl))]; exact h3
def tms (t : Int) : Int := min (max t 1) 100
theorem tms_1 (t : Int) : 1 ≤ tms t ∧ tms t ≤ 100 := by unfold tms; omega
theorem HL.new (W : World) (t : Int) : HL W W.heap.size (.slice none 0 0) (tms t) HU.e0 [] (W.alloc (.cells #[.int .i64 (tms t), .slice none 0 0] 117)) := by
  have ok := HU.ok_e0 (T := tms t) (by have := tms_1 t; omega)
  refine ⟨heap_alloc_new W _, ⟨rfl, Or.inl ⟨rfl, rfl⟩⟩, Nat.le_refl _, (Bl.refl W).alloc _, ?_, ok, (tms_1 t).1, (tms_1 t).2⟩
  have := HU.rep_lf ok
  rwa [HU.lf_e0] at this
theorem New_h (t : Int) (W : World) : Calls Try.prog 48 #[.int .i64 t] W fun e w' => ∃ b, e = .returned (.pointer (some ⟨b, 0, none⟩)) ∧ b = W.heap.size ∧ HL W b (.slice none 0 0) (tms t) HU.e0 [] w' := by
  have HN : Hid (HL W W.heap.size (.slice none 0 0) (tms t) HU.e0 [] (W.alloc (.cells #[.int .i64 (tms t), .slice none 0 0] 117))) := HL.new W t
  have hm : tms t = min (max t 1) 100 := rfl
  generalize tms t = T at *
  go_enter Try.func48, Try.ntmps48
  go_wp2_with fail
  go_ret
  exact ⟨_, rfl, rfl, by rw [← hm]; exact HN.out⟩
theorem nilS1 : ∀ W, (binOp .eql 113 (.slice none 0 0) (.slice none 0 0)).run Try.prog W = .ok (.bool true) W := fun W => by kernel_rfl
theorem nilS0 : ∀ (ad : Addr) (n c : Nat) W, (binOp .eql 113 (.slice (some ad) n c) (.slice none 0 0)).run Try.prog W = .ok (.bool false) W := fun ad n c W => by kernel_rfl
theorem infoRu3 : (Try.prog.info? 115).map (fun i => (i.zero, i.size, i.bytes)) = some (some (.agg #[.int .i64 0, .int .i64 0, .int .i64 0, .int .i64 0]), 4, 32) := by kernel_rfl
end Go.Proofs.Ytebmgajijjhinaa
