/- What structs are built of their parts. -/
import Derived.Test.YtgnajmiccbcacaaDoorE3
namespace Go.Proofs.YtgnajmiccbcacaaDoor
open Go.RowKit
set_option linter.unusedVariables false
set_option linter.unusedSimpArgs false

/-- a part laid into cells -/
theorem fold_at (L : List Value) : ∀ (Z : Array Value) (off k : Nat), off + k + L.length ≤ Z.size → (L.zipIdx k).foldl (fun (cs : Array Value) (x : Value × Nat) => cs.setIfInBounds (off + x.2) x.1) Z = (Z.toList.take (off + k) ++ L ++ Z.toList.drop (off + k + L.length)).toArray := by
  induction L with
  | nil => intro Z off k h; simp
  | cons x L ih =>
    intro Z off k h
    rw [List.zipIdx_cons, List.foldl_cons, ih _ _ _ (by simp at h ⊢; omega)]
    congr 1
    simp only [List.length_cons] at h
    have hk : off + k < Z.toList.length := by simp; omega
    have e : off + (k + 1) = off + k + 1 := by omega
    rw [e, Array.toList_setIfInBounds, List.take_add_one, List.getElem?_set_self hk, List.take_set_of_le (Nat.le_refl _), List.drop_set_of_lt (by omega)]
    simp only [List.length_cons, Option.toList_some, List.append_assoc, List.cons_append, List.nil_append]
    rw [show off + k + 1 + L.length = off + k + (L.length + 1) by omega]
theorem fill_cons (place : Nat → Option (Nat × Nat)) (A M' Z' : List Value) (i : Nat) (v : Value) (rest : List (Nat × Value)) (L : List Value) (off : Nat) (hv : v.cells = L.toArray) (hp : place i = some (off, L.length)) (hA : A.length = off) (hM : M'.length = L.length) :
    Instr.fill place (A ++ M' ++ Z').toArray ((i, v) :: rest) = Instr.fill place (A ++ L ++ Z').toArray rest := by
  have hz : (A ++ M' ++ Z').toArray.size = off + L.length + Z'.length := by simp [hA, hM]; omega
  rw [Instr.fill, hp]
  simp only [hv, List.size_toArray]
  rw [if_neg (by simp [hA, hM])]
  congr 1
  have := fold_at L (A ++ M' ++ Z').toArray off 0 (by rw [hz]; omega)
  simp only [Nat.add_zero] at this
  rw [show L.toArray.zipIdx = (L.zipIdx 0).toArray by simp]
  rw [List.foldl_toArray]
  refine this.trans ?_
  congr 1
  have e1 : (A ++ M' ++ Z').take off = A := by rw [List.append_assoc]; exact List.take_left' hA
  have e2 : (A ++ M' ++ Z').drop (off + L.length) = Z' := List.drop_left' (by simp [hA, hM])
  rw [e1, e2]
theorem run_build {P : Program} {t : TypeId} {fs : Array Field} (hu : P.underlying t = some (.struct fs)) (zero : Array Value) (hz : ∀ W, (zeroValue t).run P W = .ok (.agg zero) W) (places : Array (Nat × Nat))
    (hp : ∀ W, (fs.mapM (fun f => do pure (f.offset, ← sizeOf f.type) : Field → Sem (Nat × Nat))).run P W = .ok places W) (parts : Array (Nat × Value)) (cells : Array Value) (hf : Instr.fill (places[·]?) zero parts.toList = some cells) (W : World) :
    (Instr.build t parts).run P W = .ok (.agg cells) W := by
  unfold Instr.build
  simp only [Sem.run_bind, hz, Result.andThen_ok, run_underlying hu, hp, Value.cells, hf, Sem.run_pure]
def zc : V.Ct := ⟨[], V.zd, V.zd, [], V.zr⟩
theorem zero35 (W : World) : (zeroValue 35).run Tryd.prog W = .ok (.agg (rv V.zr)) W := by kernel_rfl
theorem zero73 (W : World) : (zeroValue 73).run Tryd.prog W = .ok (.agg (nmv [] V.zd)) W := by kernel_rfl
theorem zero75 (W : World) : (zeroValue 75).run Tryd.prog W = .ok (.agg (ev [] V.zd V.zd)) W := by kernel_rfl
theorem zero77 (W : World) : (zeroValue 77).run Tryd.prog W = .ok (.agg (cv zc)) W := by kernel_rfl
theorem zeroSl (W : World) : (zeroValue 100).run Tryd.prog W = .ok (.agg (svL V.en0).toArray) W := by kernel_rfl
theorem place35 : ∃ fs, Tryd.prog.underlying 35 = some (.struct fs) ∧ ∀ W, (fs.mapM (fun f => do pure (f.offset, ← sizeOf f.type) : Field → Sem (Nat × Nat))).run Tryd.prog W = .ok #[(0, 32), (32, 1), (33, 32)] W := ⟨_, Tryd.underlying35, fun W => by kernel_rfl⟩
theorem place73 : ∃ fs, Tryd.prog.underlying 73 = some (.struct fs) ∧ ∀ W, (fs.mapM (fun f => do pure (f.offset, ← sizeOf f.type) : Field → Sem (Nat × Nat))).run Tryd.prog W = .ok #[(0, 1), (1, 32)] W := ⟨_, Tryd.underlying73, fun W => by kernel_rfl⟩
theorem place75 : ∃ fs, Tryd.prog.underlying 75 = some (.struct fs) ∧ ∀ W, (fs.mapM (fun f => do pure (f.offset, ← sizeOf f.type) : Field → Sem (Nat × Nat))).run Tryd.prog W = .ok #[(0, 33), (33, 32)] W := ⟨_, Tryd.underlying75, fun W => by kernel_rfl⟩
theorem place77 : ∃ fs, Tryd.prog.underlying 77 = some (.struct fs) ∧ ∀ W, (fs.mapM (fun f => do pure (f.offset, ← sizeOf f.type) : Field → Sem (Nat × Nat))).run Tryd.prog W = .ok #[(0, 65), (65, 1), (66, 65)] W := ⟨_, Tryd.underlying77, fun W => by kernel_rfl⟩
theorem placeSl : ∃ fs, Tryd.prog.underlying 100 = some (.struct fs) ∧ ∀ W, (fs.mapM (fun f => do pure (f.offset, ← sizeOf f.type) : Field → Sem (Nat × Nat))).run Tryd.prog W = .ok #[(0, 65), (65, 1)] W := ⟨_, Tryd.underlying100, fun W => by kernel_rfl⟩

theorem build35 (a o : List UInt8) (c : Int) (ha : a.length = 32) (ho : o.length = 32) (W : World) : (Instr.build 35 #[(0, .agg (dg a)), (1, .int .i64 c), (2, .agg (dg o))]).run Tryd.prog W = .ok (.agg (rv ⟨a, c, o⟩)) W := by
  obtain ⟨fs, hu, hp⟩ := place35
  refine run_build hu _ zero35 _ hp _ _ ?_ W
  have e0 : rv V.zr = ([] ++ V.zd.map vb ++ (Value.int .i64 0 :: V.zd.map vb)).toArray := by simp [rv, rvL, V.zr]
  rw [e0]
  rw [fill_cons _ [] (V.zd.map vb) _ 0 _ _ (a.map vb) 0 rfl (by simp [ha]) rfl (by simp [ha, zd_length])]
  rw [show ([] ++ a.map vb ++ (Value.int .i64 0 :: V.zd.map vb)) = (a.map vb ++ [Value.int .i64 0] ++ V.zd.map vb) by simp]
  rw [fill_cons _ (a.map vb) [Value.int .i64 0] _ 1 _ _ [Value.int .i64 c] 32 rfl (by simp) (by simp [ha]) rfl]
  rw [show (a.map vb ++ [Value.int .i64 c] ++ V.zd.map vb) = ((a.map vb ++ [Value.int .i64 c]) ++ V.zd.map vb ++ []) by simp]
  rw [fill_cons _ (a.map vb ++ [Value.int .i64 c]) (V.zd.map vb) _ 2 _ _ (o.map vb) 33 rfl (by simp [ho]) (by simp [ha]) (by simp [ho, zd_length])]
  simp [Instr.fill, rv, rvL]
theorem build73 (k d : List UInt8) (hd : d.length = 32) (W : World) : (Instr.build 73 #[(0, .string (M.bs k)), (1, .agg (dg d))]).run Tryd.prog W = .ok (.agg (nmv k d)) W := by
  obtain ⟨fs, hu, hp⟩ := place73
  refine run_build hu _ zero73 _ hp _ _ ?_ W
  have e0 : nmv [] V.zd = ([] ++ [Value.string (M.bs [])] ++ V.zd.map vb).toArray := by simp [nmv, nmL]
  rw [e0]
  rw [fill_cons _ [] [Value.string (M.bs [])] _ 0 _ _ [Value.string (M.bs k)] 0 rfl (by simp) rfl rfl]
  rw [show ([] ++ [Value.string (M.bs k)] ++ V.zd.map vb) = ([Value.string (M.bs k)] ++ V.zd.map vb ++ []) by simp]
  rw [fill_cons _ [Value.string (M.bs k)] (V.zd.map vb) _ 1 _ _ (d.map vb) 1 rfl (by simp [hd]) rfl (by simp [hd, zd_length])]
  simp [Instr.fill, nmv, nmL]
theorem build75 (k d c : List UInt8) (hd : d.length = 32) (hc : c.length = 32) (W : World) : (Instr.build 75 #[(0, .agg (nmv k d)), (1, .agg (dg c))]).run Tryd.prog W = .ok (.agg (ev k d c)) W := by
  obtain ⟨fs, hu, hp⟩ := place75
  refine run_build hu _ zero75 _ hp _ _ ?_ W
  have e0 : ev [] V.zd V.zd = ([] ++ nmL [] V.zd ++ V.zd.map vb).toArray := by simp [ev, evL]
  rw [e0]
  rw [fill_cons _ [] (nmL [] V.zd) _ 0 _ _ (nmL k d) 0 rfl (by simp [nmL_length hd]) rfl (by rw [nmL_length hd, nmL_length zd_length])]
  rw [show ([] ++ nmL k d ++ V.zd.map vb) = (nmL k d ++ V.zd.map vb ++ []) by simp]
  rw [fill_cons _ (nmL k d) (V.zd.map vb) _ 1 _ _ (c.map vb) 33 rfl (by simp [hc]) (nmL_length hd) (by simp [hc, zd_length])]
  simp [Instr.fill, ev, evL]
theorem build77b (k d c b : List UInt8) (hd : d.length = 32) (hc : c.length = 32) (W : World) : (Instr.build 77 #[(0, .agg (ev k d c)), (1, .string (M.bs b))]).run Tryd.prog W = .ok (.agg (cv ⟨k, d, c, b, V.zr⟩)) W := by
  obtain ⟨fs, hu, hp⟩ := place77
  refine run_build hu _ zero77 _ hp _ _ ?_ W
  have e0 : cv zc = ([] ++ evL [] V.zd V.zd ++ (Value.string (M.bs []) :: rvL V.zr)).toArray := by simp [cv, cvL, zc]
  rw [e0]
  rw [fill_cons _ [] (evL [] V.zd V.zd) _ 0 _ _ (evL k d c) 0 rfl (by simp [evL_length hd hc]) rfl (by rw [evL_length hd hc, evL_length zd_length zd_length])]
  rw [show ([] ++ evL k d c ++ (Value.string (M.bs []) :: rvL V.zr)) = (evL k d c ++ [Value.string (M.bs [])] ++ rvL V.zr) by simp]
  rw [fill_cons _ (evL k d c) [Value.string (M.bs [])] _ 1 _ _ [Value.string (M.bs b)] 65 rfl (by simp) (evL_length hd hc) rfl]
  simp [Instr.fill, cv, cvL]
theorem build77r (k d c : List UInt8) (r : V.Rc) (hd : d.length = 32) (hc : c.length = 32) (hr : Rc32 r) (W : World) : (Instr.build 77 #[(0, .agg (ev k d c)), (2, .agg (rv r))]).run Tryd.prog W = .ok (.agg (cv ⟨k, d, c, [], r⟩)) W := by
  obtain ⟨fs, hu, hp⟩ := place77
  refine run_build hu _ zero77 _ hp _ _ ?_ W
  have e0 : cv zc = ([] ++ evL [] V.zd V.zd ++ (Value.string (M.bs []) :: rvL V.zr)).toArray := by simp [cv, cvL, zc]
  rw [e0]
  rw [fill_cons _ [] (evL [] V.zd V.zd) _ 0 _ _ (evL k d c) 0 rfl (by simp [evL_length hd hc]) rfl (by rw [evL_length hd hc, evL_length zd_length zd_length])]
  rw [show ([] ++ evL k d c ++ (Value.string (M.bs []) :: rvL V.zr)) = ((evL k d c ++ [Value.string (M.bs [])]) ++ rvL V.zr ++ []) by simp]
  rw [fill_cons _ (evL k d c ++ [Value.string (M.bs [])]) (rvL V.zr) _ 2 _ _ (rvL r) 66 rfl (by simp [rvL_length hr]) (by simp [evL_length hd hc]) (by rw [rvL_length hr, rvL_length zr32])]
  simp [Instr.fill, cv, cvL]
theorem buildSl (k d c : List UInt8) (hd : d.length = 32) (hc : c.length = 32) (W : World) : (Instr.build 100 #[(0, .agg (ev k d c))]).run Tryd.prog W = .ok (.agg (svL ⟨k, d, c, 0⟩).toArray) W := by
  obtain ⟨fs, hu, hp⟩ := placeSl
  refine run_build hu _ zeroSl _ hp _ _ ?_ W
  have e0 : (svL V.en0).toArray = ([] ++ evL [] V.zd V.zd ++ [Value.int .i64 0]).toArray := by simp [svL, V.en0]
  rw [e0]
  rw [fill_cons _ [] (evL [] V.zd V.zd) _ 0 _ _ (evL k d c) 0 rfl (by simp [evL_length hd hc]) rfl (by rw [evL_length hd hc, evL_length zd_length zd_length])]
  simp [Instr.fill, svL]
end Go.Proofs.YtgnajmiccbcacaaDoor
