/- What mill.digest answers. -/
import Derived.Test.YtodcafmhaleemaaDoorT7
namespace Go.Proofs.YtodcafmhaleemaaDoor
open Go.RowKit
set_option linter.unusedVariables false
attribute [local go_sem ↓] zero27

set_option maxRecDepth 8000 in
set_option maxHeartbeats 1000000 in
theorem digest_at (t : List UInt8) (W : World) (ht : t.length ≤ 1000000) (hG : GW W) :
    Calls Tryd.prog 46 #[.string (M.bs t)] W fun e w' => e = .returned (.string (M.bs (S.sha t))) ∧ Below W.heap.size W w' := by
  have CO : Hid (Calls Tryd.prog 15 #[.slice (some ⟨W.heap.size, 0, none⟩) 1 1] (W.alloc (.cells #[.string (M.bs t)] 9)) fun e w' => e = .returned (.agg (dg (S.sha t))) ∧ Below W.heap.size W w') := by
    refine (Of_g t 9 (GB.refl hG) (by omega)).mono ?_
    rintro e w' ⟨rfl, h⟩
    exact ⟨rfl, h.b⟩
  have hl : (S.sha t).length = 32 := S.sha_length t
  have hD : Hid (∀ j (hj : j < (S.sha t).length), (dg (S.sha t))[j]? = some (.int .u8 ((S.sha t)[j].toNat : Int))) := fun j hj => by
    unfold dg
    rw [List.getElem?_toArray, List.getElem?_map, List.getElem?_eq_getElem hj]; rfl
  have hsD : (dg (S.sha t)).size = 32 := by rw [dg_size, hl]
  have h1 : Hid ((dg (S.sha t)).all (·.oneCell') = true) := by
    show _ = true
    rw [Array.all_eq_true_iff_forall_mem]
    intro v hv
    unfold dg at hv
    simp only [List.mem_toArray, List.mem_map] at hv
    obtain ⟨x, _, rfl⟩ := hv
    rfl
  generalize S.sha t = d at *
  generalize dg d = D at *
  clear hG
  have HST : Hid (∀ w' : World, (w'.alloc (.cells zero32 37)).heap[w'.heap.size]? = some (.cells zero32 37 (0, 0))) := fun w' => heap_alloc_new _ _
  have HCV : Hid (∀ w' : World, (convert 35 9 (.slice (some ⟨w'.heap.size, 0, none⟩) 32 32)).run Tryd.prog (w'.alloc (.cells D 37)) = .ok (.string (M.bs d)) (w'.alloc (.cells D 37))) := fun w' => by
    have := run_convert_bytes_back (P := Tryd.prog) (w'.alloc (.cells D 37)) 35 9 5 ⟨w'.heap.size, 0, none⟩ 32 d Tryd.underlying35 Tryd.underlying5 Tryd.underlying9 (fun j hj => by
      rw [Addr.add_mid, Nat.zero_add, cell_of_row _ _ j D _ _ (heap_alloc_new _ _)]; exact hD.out j hj)
    rw [hl] at this
    exact this
  have hz := zero32_size
  go_enter Tryd.func46, Tryd.ntmps46
  go_wp2_with (first
    | (go_at_call 15; refine CO.out.mono ?_; clear CO; rintro e w' ⟨rfl, HB⟩; have HB : Hid (Below W.heap.size W w') := HB; have hcv := HCV.out w')
    | (refine wpList_store_row rfl 37 _ _ rfl w'.heap.size D rfl rfl 37 zero32 (HST.out w') (by rw [hsD]; exact info27) (by rw [hz, hsD]) h1.out ?_; clear HST; rw [World.setRow_alloc_new]))
  go_ret
  exact ⟨rfl, HB.out.alloc HB.out.size _⟩
end Go.Proofs.YtodcafmhaleemaaDoor
