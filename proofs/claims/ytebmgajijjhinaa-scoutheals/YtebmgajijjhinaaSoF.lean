/- Frames: how they lie, and how they are made. -/
import Derived.Test.YtebmgajijjhinaaSo6
import Derived.Laws.Tables
import Derived.Great.BuildSlice
namespace Go.Proofs.Ytebmgajijjhinaa
open Go.RowKit Go.Maps
set_option linter.unusedVariables false
set_option linter.unusedSimpArgs false

abbrev tFr : TypeId := 48
abbrev tSn : TypeId := 50
def u0 : Value := .int .u8 0
/-- what lies between a frame's Node and its lists, where nothing was laid -/
def zM : List Value := List.replicate 32 u0 ++ (Value.bool false :: (List.replicate 32 u0 ++ (Value.int .i64 0 :: (List.replicate 32 u0 ++ (List.replicate 32 u0 ++ (Value.int .i64 0 :: Value.string ⟨#[]⟩ :: (List.replicate 64 u0 ++ (List.replicate 32 u0 ++ [Value.int .i64 0]))))))))
theorem zM_len : zM.length = 229 := by simp only [zM, List.length_append, List.length_replicate, List.length_cons, List.length_nil]
theorem zM_one : ∀ v ∈ zM, v.oneCell' = true := by
  intro v hv
  simp only [zM, List.mem_append, List.mem_cons, List.mem_replicate, List.not_mem_nil, or_false] at hv
  rcases hv with ⟨_, rfl⟩ | rfl | ⟨_, rfl⟩ | rfl | ⟨_, rfl⟩ | ⟨_, rfl⟩ | rfl | rfl | ⟨_, rfl⟩ | ⟨_, rfl⟩ | rfl <;> rfl
def nilV : Value := .slice none 0 0
/-- a frame's cells: what it says, what lies in the middle, and its rumours -/
def frL (k fr sq nd : Int) (M : List Value) (rv : Value) : List Value := [.int .i64 k, .int .i64 fr, .int .i64 sq, .int .i64 nd] ++ (M ++ [nilV, nilV, nilV, rv])
def snL (tt k fr sq nd : Int) (M : List Value) (rv : Value) : List Value := .int .i64 tt :: frL k fr sq nd M rv
theorem frL_len {k fr sq nd : Int} {M : List Value} {rv : Value} (h : M.length = 229) : (frL k fr sq nd M rv).length = 237 := by simp [frL, h]
theorem snL_len {tt k fr sq nd : Int} {M : List Value} {rv : Value} (h : M.length = 229) : (snL tt k fr sq nd M rv).length = 238 := by simp [snL, frL_len h]
def zSn : Array Value := (snL 0 0 0 0 0 zM nilV).toArray
def zFn : Array Value := (frL 0 0 0 0 zM nilV).toArray
theorem zSn_size : zSn.size = 238 := snL_len zM_len
theorem zFn_size : zFn.size = 237 := frL_len zM_len
theorem zero66 : ∀ W, (zeroValue 50).run Try.prog W = .ok (.agg zSn) W := fun W => by kernel_rfl
theorem zero56 : ∀ W, (zeroValue 48).run Try.prog W = .ok (.agg zFn) W := fun W => by kernel_rfl
theorem build56a (k sq : Int) : Try.prog.built 48 [(0, .int .i64 k), (2, .int .i64 sq)] = some (frL k 0 sq 0 zM nilV).toArray := by kernel_rfl
theorem build56b (k sq nd : Int) : Try.prog.built 48 [(0, .int .i64 k), (2, .int .i64 sq), (3, .int .i64 nd)] = some (frL k 0 sq nd zM nilV).toArray := by kernel_rfl
theorem build66 (tt k fr sq nd : Int) : Try.prog.built 50 [(0, .int .i64 tt), (1, .agg (frL k fr sq nd zM nilV).toArray)] = some (snL tt k fr sq nd zM nilV).toArray := by kernel_rfl
theorem infoFr : (Try.prog.info? tFr).map (·.size) = some 237 := by kernel_rfl
theorem infoSn : (Try.prog.info? tSn).map (·.size) = some 238 := by kernel_rfl
theorem undSn : ∃ fs, Try.prog.underlying tSn = some (.struct fs) := ⟨_, Try.underlying50⟩
theorem undFr : ∃ fs, Try.prog.underlying tFr = some (.struct fs) := ⟨_, Try.underlying48⟩
theorem all_one {l : List Value} (h : ∀ v ∈ l, v.oneCell' = true) : l.toArray.all (·.oneCell') = true := by
  simp only [List.all_toArray, List.all_eq_true]; exact h
theorem snL_one {tt k fr sq nd : Int} {M : List Value} {rv : Value} (h : ∀ v ∈ M, v.oneCell' = true) (hr : rv.oneCell' = true) : ∀ v ∈ snL tt k fr sq nd M rv, v.oneCell' = true := by
  intro v hv
  simp only [snL, frL, List.mem_cons, List.mem_append, List.not_mem_nil, or_false] at hv
  rcases hv with rfl | (rfl | rfl | rfl | rfl) | hv | rfl | rfl | rfl | rfl
  all_goals first | exact h _ hv | exact hr | rfl
end Go.Proofs.Ytebmgajijjhinaa
