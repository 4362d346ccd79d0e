/- HivePower: what follows a loss, in a round. -/
import Derived.Test.YtlkllcnnnndllaaGreatDoorGW
import Derived.Deep.CutBlock
import Derived.BigGuard
import Derived.Deep.DeepCutAuto
namespace Go.Proofs.YtlkllcnnnndllaaGreatDoor
open Go.RowKit Go.Maps
set_option linter.unusedVariables false
set_option linter.unusedSimpArgs false

attribute [local go_sem ↓] zeroDg
attribute [local go_sem ↓] zero35
def lossCode : Code :=
  (((Code.region 38 #[{ dst := some 139, op := Op.move (Operand.tmp 7), type := 32, pos := "own.go:101", after := #[], guard := none }, { dst := some 140, op := Op.binOp BinOp.neq 32 (Operand.tmp 139) (Operand.const (Value.int IntKind.i64 10)) 32, type := 4, pos := "own.go:101", after := #[{ on := 0, ground := Ground.data }], guard := none }] false).seq (Code.cond (Operand.tmp 140) (Code.exit 1) Code.skip)).seq ((Code.region 39 #[{ dst := some 141, op := Op.move (Operand.tmp 5), type := 29, pos := "own.go:104", after := #[], guard := none }, { dst := some 142, op := Op.call { callee := Callee.value (Operand.func 15), args := #[Operand.tmp 141], argTypes := #[29] }, type := 0, pos := "own.go:104", after := #[{ on := 0, ground := Ground.data }], guard := none }] false).seq ((Code.region 40 #[{ dst := some 143, op := Op.move (Operand.tmp 5), type := 29, pos := "own.go:105", after := #[], guard := none }, { dst := some 144, op := Op.fieldAddr 43 (Operand.tmp 14) 4, type := 0, pos := "own.go:105", after := #[], guard := none }, { dst := some 145, op := Op.load 23 (Operand.tmp 144), type := 23, pos := "own.go:105", after := #[{ on := 1, ground := Ground.data }], guard := none }, { dst := some 146, op := Op.call { callee := Callee.value (Operand.func 16), args := #[Operand.tmp 143, Operand.tmp 145], argTypes := #[29, 23] }, type := 0, pos := "own.go:105", after := #[{ on := 0, ground := Ground.data }, { on := 2, ground := Ground.data }], guard := none }] false).seq ((Code.region 41 #[{ dst := some 148, op := Op.move (Operand.tmp 5), type := 29, pos := "own.go:106", after := #[], guard := none }, { dst := some 149, op := Op.call { callee := Callee.value (Operand.func 9), args := #[Operand.tmp 148], argTypes := #[29] }, type := 33, pos := "own.go:106", after := #[{ on := 0, ground := Ground.data }], guard := none }, { dst := some 147, op := Op.move (Operand.tmp 149), type := 33, pos := "own.go:106", after := #[{ on := 1, ground := Ground.data }], guard := none }, { dst := some 150, op := Op.extract (Operand.tmp 147) 0, type := 31, pos := "own.go:106", after := #[{ on := 2, ground := Ground.data }], guard := none }, { dst := some 151, op := Op.extract (Operand.tmp 147) 1, type := 32, pos := "own.go:106", after := #[{ on := 2, ground := Ground.data }, { on := 5, ground := Ground.gcOnly Departure.lateStores }], guard := none }, { dst := some 6, op := Op.assign (Operand.tmp 150), type := 31, pos := "own.go:106", after := #[{ on := 3, ground := Ground.data }, { on := 1, ground := Ground.chain }, { on := 0, ground := Ground.phase }, { on := 1, ground := Ground.phase }, { on := 2, ground := Ground.phase }, { on := 3, ground := Ground.phase }, { on := 4, ground := Ground.textOnly Departure.lateStores }], guard := none }, { dst := some 7, op := Op.assign (Operand.tmp 151), type := 32, pos := "own.go:106", after := #[{ on := 4, ground := Ground.data }, { on := 5, ground := Ground.chain }, { on := 0, ground := Ground.phase }, { on := 1, ground := Ground.phase }, { on := 2, ground := Ground.phase }, { on := 3, ground := Ground.phase }, { on := 4, ground := Ground.phase }, { on := 5, ground := Ground.phase }], guard := none }] false).seq (((Code.region 42 #[{ dst := some 152, op := Op.move (Operand.tmp 7), type := 32, pos := "own.go:107", after := #[], guard := none }, { dst := some 153, op := Op.binOp BinOp.neq 32 (Operand.tmp 152) (Operand.const (Value.int IntKind.i64 0)) 32, type := 4, pos := "own.go:107", after := #[{ on := 0, ground := Ground.data }], guard := none }] false).seq (Code.cond (Operand.tmp 153) ((Code.region 43 #[{ dst := some 4, op := Op.assign (Operand.const (Value.bool false)), type := 4, pos := "own.go:108", after := #[], guard := none }] false).seq Code.ret) Code.skip)).seq ((Code.region 44 #[{ dst := some 17, op := Op.assign (Operand.const (Value.int IntKind.i64 0)), type := 3, pos := "own.go:110", after := #[], guard := none }] false).seq (((Code.region 45 #[{ dst := some 18, op := Op.assign (Operand.const (Value.int IntKind.i64 0)), type := 3, pos := "own.go:111", after := #[], guard := none }] false).seq (Code.block 3 (((Code.region 46 #[{ dst := some 154, op := Op.move (Operand.tmp 18), type := 3, pos := "own.go:111", after := #[], guard := none }, { dst := some 155, op := Op.move (Operand.tmp 9), type := 27, pos := "own.go:111", after := #[], guard := none }, { dst := some 156, op := Op.call { callee := Callee.builtin Builtin.len, args := #[Operand.tmp 155], argTypes := #[27] }, type := 3, pos := "own.go:111", after := #[{ on := 1, ground := Ground.data }], guard := none }, { dst := some 157, op := Op.binOp BinOp.lss 3 (Operand.tmp 154) (Operand.tmp 156) 3, type := 4, pos := "own.go:111", after := #[{ on := 0, ground := Ground.data }, { on := 2, ground := Ground.data }], guard := none }] false).seq (Code.cond (Operand.tmp 157) Code.skip (Code.exit 3))).seq ((Code.block 4 ((Code.region 48 #[{ dst := some 161, op := Op.move (Operand.tmp 6), type := 31, pos := "own.go:112", after := #[], guard := none }, { dst := some 162, op := Op.move (Operand.tmp 9), type := 27, pos := "own.go:112", after := #[], guard := none }, { dst := some 163, op := Op.move (Operand.tmp 18), type := 3, pos := "own.go:112", after := #[], guard := none }, { dst := some 164, op := Op.indexAddr 27 (Operand.tmp 162) (Operand.tmp 163), type := 0, pos := "own.go:112", after := #[{ on := 1, ground := Ground.data }, { on := 2, ground := Ground.data }], guard := none }, { dst := some 165, op := Op.load 9 (Operand.tmp 164), type := 9, pos := "own.go:112", after := #[{ on := 3, ground := Ground.data }], guard := none }, { dst := some 166, op := Op.buildSlice 27 1 #[(0, Operand.tmp 165)], type := 27, pos := "own.go:112", after := #[{ on := 4, ground := Ground.data }], guard := none }, { dst := some 167, op := Op.call { callee := Callee.value (Operand.func 18), args := #[Operand.tmp 166], argTypes := #[27] }, type := 39, pos := "own.go:112", after := #[{ on := 5, ground := Ground.data }], guard := none }, { dst := some 168, op := Op.call { callee := Callee.value (Operand.func 17), args := #[Operand.tmp 161, Operand.tmp 167], argTypes := #[31, 39] }, type := 51, pos := "own.go:112", after := #[{ on := 0, ground := Ground.data }, { on := 6, ground := Ground.data }, { on := 6, ground := Ground.chain }], guard := none }, { dst := some 160, op := Op.move (Operand.tmp 168), type := 51, pos := "own.go:112", after := #[{ on := 7, ground := Ground.data }], guard := none }, { dst := some 169, op := Op.extract (Operand.tmp 160) 0, type := 9, pos := "own.go:112", after := #[{ on := 8, ground := Ground.data }], guard := none }, { dst := some 170, op := Op.extract (Operand.tmp 160) 1, type := 4, pos := "own.go:112", after := #[{ on := 8, ground := Ground.data }, { on := 11, ground := Ground.gcOnly Departure.lateStores }], guard := none }, { dst := some 19, op := Op.assign (Operand.tmp 169), type := 9, pos := "own.go:112", after := #[{ on := 9, ground := Ground.data }, { on := 7, ground := Ground.chain }, { on := 0, ground := Ground.phase }, { on := 1, ground := Ground.phase }, { on := 2, ground := Ground.phase }, { on := 3, ground := Ground.phase }, { on := 4, ground := Ground.phase }, { on := 5, ground := Ground.phase }, { on := 6, ground := Ground.phase }, { on := 7, ground := Ground.phase }, { on := 8, ground := Ground.phase }, { on := 9, ground := Ground.phase }, { on := 10, ground := Ground.textOnly Departure.lateStores }], guard := none }, { dst := some 20, op := Op.assign (Operand.tmp 170), type := 4, pos := "own.go:112", after := #[{ on := 10, ground := Ground.data }, { on := 11, ground := Ground.chain }, { on := 0, ground := Ground.phase }, { on := 1, ground := Ground.phase }, { on := 2, ground := Ground.phase }, { on := 3, ground := Ground.phase }, { on := 4, ground := Ground.phase }, { on := 5, ground := Ground.phase }, { on := 6, ground := Ground.phase }, { on := 7, ground := Ground.phase }, { on := 8, ground := Ground.phase }, { on := 9, ground := Ground.phase }, { on := 10, ground := Ground.phase }, { on := 11, ground := Ground.phase }], guard := none }] false).seq (((Code.region 49 #[{ dst := some 171, op := Op.move (Operand.tmp 20), type := 4, pos := "own.go:113", after := #[], guard := none }, { dst := some 172, op := Op.move (Operand.tmp 171), type := 4, pos := "own.go:113", after := #[{ on := 0, ground := Ground.data }], guard := none }, { dst := some 173, op := Op.move (Operand.tmp 19), type := 9, pos := "own.go:113", after := #[{ on := 1, ground := Ground.guard }], guard := some (1, true) }, { dst := some 174, op := Op.move (Operand.tmp 9), type := 27, pos := "own.go:113", after := #[{ on := 1, ground := Ground.guard }], guard := some (1, true) }, { dst := some 175, op := Op.move (Operand.tmp 18), type := 3, pos := "own.go:113", after := #[{ on := 1, ground := Ground.guard }], guard := some (1, true) }, { dst := some 176, op := Op.indexAddr 27 (Operand.tmp 174) (Operand.tmp 175), type := 0, pos := "own.go:113", after := #[{ on := 3, ground := Ground.data }, { on := 4, ground := Ground.data }, { on := 1, ground := Ground.guard }], guard := some (1, true) }, { dst := some 177, op := Op.load 9 (Operand.tmp 176), type := 9, pos := "own.go:113", after := #[{ on := 5, ground := Ground.data }, { on := 1, ground := Ground.guard }], guard := some (1, true) }, { dst := some 178, op := Op.binOp BinOp.neq 9 (Operand.tmp 173) (Operand.tmp 177) 9, type := 4, pos := "own.go:113", after := #[{ on := 2, ground := Ground.data }, { on := 6, ground := Ground.data }, { on := 1, ground := Ground.guard }], guard := some (1, true) }, { dst := some 179, op := Op.pick (Operand.tmp 172) (Operand.tmp 178) (Operand.const (Value.bool false)), type := 4, pos := "own.go:113", after := #[{ on := 1, ground := Ground.data }, { on := 7, ground := Ground.data }], guard := none }, { dst := some 180, op := Op.move (Operand.tmp 179), type := 4, pos := "own.go:113", after := #[{ on := 8, ground := Ground.data }, { on := 1, ground := Ground.chain }], guard := none }, { dst := some 181, op := Op.move (Operand.tmp 20), type := 4, pos := "own.go:113", after := #[{ on := 9, ground := Ground.guard }], guard := some (9, false) }, { dst := some 182, op := Op.unOp UnOp.not 4 (Operand.tmp 181), type := 4, pos := "own.go:113", after := #[{ on := 10, ground := Ground.data }, { on := 9, ground := Ground.guard }], guard := some (9, false) }, { dst := some 183, op := Op.move (Operand.tmp 182), type := 4, pos := "own.go:113", after := #[{ on := 11, ground := Ground.data }, { on := 9, ground := Ground.chain }, { on := 9, ground := Ground.guard }], guard := some (9, false) }, { dst := some 184, op := Op.move (Operand.tmp 8), type := 27, pos := "own.go:113", after := #[{ on := 12, ground := Ground.guard }], guard := some (12, true) }, { dst := some 185, op := Op.move (Operand.tmp 9), type := 27, pos := "own.go:113", after := #[{ on := 12, ground := Ground.guard }], guard := some (12, true) }, { dst := some 186, op := Op.move (Operand.tmp 18), type := 3, pos := "own.go:113", after := #[{ on := 12, ground := Ground.guard }], guard := some (12, true) }, { dst := some 187, op := Op.indexAddr 27 (Operand.tmp 185) (Operand.tmp 186), type := 0, pos := "own.go:113", after := #[{ on := 14, ground := Ground.data }, { on := 15, ground := Ground.data }, { on := 12, ground := Ground.guard }], guard := some (12, true) }, { dst := some 188, op := Op.load 9 (Operand.tmp 187), type := 9, pos := "own.go:113", after := #[{ on := 16, ground := Ground.data }, { on := 12, ground := Ground.guard }], guard := some (12, true) }, { dst := some 189, op := Op.call { callee := Callee.value (Operand.func 19), args := #[Operand.tmp 184, Operand.tmp 188], argTypes := #[27, 9] }, type := 4, pos := "own.go:113", after := #[{ on := 13, ground := Ground.data }, { on := 17, ground := Ground.data }, { on := 12, ground := Ground.chain }, { on := 12, ground := Ground.guard }], guard := some (12, true) }, { dst := some 190, op := Op.pick (Operand.tmp 183) (Operand.tmp 189) (Operand.const (Value.bool false)), type := 4, pos := "own.go:113", after := #[{ on := 12, ground := Ground.data }, { on := 18, ground := Ground.data }, { on := 9, ground := Ground.guard }], guard := some (9, false) }, { dst := some 191, op := Op.pick (Operand.tmp 180) (Operand.const (Value.bool true)) (Operand.tmp 190), type := 4, pos := "own.go:113", after := #[{ on := 9, ground := Ground.data }, { on := 19, ground := Ground.data }], guard := none }] false).seq (Code.cond (Operand.tmp 191) ((Code.region 50 #[{ dst := some 4, op := Op.assign (Operand.const (Value.bool false)), type := 4, pos := "own.go:114", after := #[], guard := none }] false).seq Code.ret) Code.skip)).seq ((Code.region 51 #[{ dst := some 192, op := Op.move (Operand.tmp 20), type := 4, pos := "own.go:116", after := #[], guard := none }, { dst := some 193, op := Op.move (Operand.tmp 192), type := 4, pos := "own.go:116", after := #[{ on := 0, ground := Ground.data }], guard := none }, { dst := some 194, op := Op.move (Operand.tmp 9), type := 27, pos := "own.go:116", after := #[{ on := 1, ground := Ground.guard }], guard := some (1, true) }, { dst := some 195, op := Op.move (Operand.tmp 18), type := 3, pos := "own.go:116", after := #[{ on := 1, ground := Ground.guard }], guard := some (1, true) }, { dst := some 196, op := Op.slice 27 (Operand.tmp 194) none (some (Operand.tmp 195)) none, type := 27, pos := "own.go:116", after := #[{ on := 2, ground := Ground.data }, { on := 3, ground := Ground.data }, { on := 1, ground := Ground.guard }], guard := some (1, true) }, { dst := some 197, op := Op.move (Operand.tmp 9), type := 27, pos := "own.go:116", after := #[{ on := 1, ground := Ground.guard }], guard := some (1, true) }, { dst := some 198, op := Op.move (Operand.tmp 18), type := 3, pos := "own.go:116", after := #[{ on := 1, ground := Ground.guard }], guard := some (1, true) }, { dst := some 199, op := Op.indexAddr 27 (Operand.tmp 197) (Operand.tmp 198), type := 0, pos := "own.go:116", after := #[{ on := 5, ground := Ground.data }, { on := 6, ground := Ground.data }, { on := 1, ground := Ground.guard }], guard := some (1, true) }, { dst := some 200, op := Op.load 9 (Operand.tmp 199), type := 9, pos := "own.go:116", after := #[{ on := 7, ground := Ground.data }, { on := 1, ground := Ground.guard }], guard := some (1, true) }, { dst := some 201, op := Op.call { callee := Callee.value (Operand.func 19), args := #[Operand.tmp 196, Operand.tmp 200], argTypes := #[27, 9] }, type := 4, pos := "own.go:116", after := #[{ on := 4, ground := Ground.data }, { on := 8, ground := Ground.data }, { on := 1, ground := Ground.chain }, { on := 1, ground := Ground.guard }], guard := some (1, true) }, { dst := some 202, op := Op.unOp UnOp.not 4 (Operand.tmp 201), type := 4, pos := "own.go:116", after := #[{ on := 9, ground := Ground.data }, { on := 1, ground := Ground.guard }], guard := some (1, true) }, { dst := some 203, op := Op.pick (Operand.tmp 193) (Operand.tmp 202) (Operand.const (Value.bool false)), type := 4, pos := "own.go:116", after := #[{ on := 1, ground := Ground.data }, { on := 10, ground := Ground.data }], guard := none }] true).seq (Code.cond (Operand.tmp 203) (Code.region 52 #[{ dst := some 204, op := Op.move (Operand.tmp 17), type := 3, pos := "own.go:117", after := #[], guard := none }, { dst := some 205, op := Op.binOp BinOp.add 3 (Operand.tmp 204) (Operand.const (Value.int IntKind.i64 1)) 3, type := 3, pos := "own.go:117", after := #[{ on := 0, ground := Ground.data }], guard := none }, { dst := some 17, op := Op.assign (Operand.tmp 205), type := 3, pos := "own.go:117", after := #[{ on := 1, ground := Ground.data }, { on := 0, ground := Ground.phase }, { on := 1, ground := Ground.phase }], guard := none }] false) Code.skip))))).seq (Code.region 47 #[{ dst := some 158, op := Op.move (Operand.tmp 18), type := 3, pos := "own.go:111", after := #[], guard := none }, { dst := some 159, op := Op.binOp BinOp.add 3 (Operand.tmp 158) (Operand.const (Value.int IntKind.i64 1)) 3, type := 3, pos := "own.go:111", after := #[{ on := 0, ground := Ground.data }], guard := none }, { dst := some 18, op := Op.assign (Operand.tmp 159), type := 3, pos := "own.go:111", after := #[{ on := 1, ground := Ground.data }, { on := 0, ground := Ground.phase }, { on := 1, ground := Ground.phase }], guard := none }] false))).loop)).seq ((Code.region 53 #[{ dst := some 206, op := Op.move (Operand.tmp 6), type := 31, pos := "own.go:120", after := #[], guard := none }, { dst := some 207, op := Op.call { callee := Callee.value (Operand.func 20), args := #[Operand.tmp 206], argTypes := #[31] }, type := 55, pos := "own.go:120", after := #[{ on := 0, ground := Ground.data }], guard := none }, { dst := some 21, op := Op.assign (Operand.tmp 207), type := 55, pos := "own.go:120", after := #[{ on := 1, ground := Ground.data }, { on := 1, ground := Ground.chain }, { on := 0, ground := Ground.phase }, { on := 1, ground := Ground.phase }], guard := none }] false).seq ((Code.region 54 #[{ dst := some 208, op := Op.buildSlice 35 0 #[], type := 35, pos := "own.go:121", after := #[], guard := none }, { dst := some 22, op := Op.assign (Operand.tmp 208), type := 35, pos := "own.go:121", after := #[{ on := 0, ground := Ground.data }, { on := 0, ground := Ground.phase }], guard := none }] false).seq (((Code.region 55 #[{ dst := some 23, op := Op.assign (Operand.const (Value.int IntKind.i64 0)), type := 3, pos := "own.go:122", after := #[], guard := none }] false).seq (Code.block 5 (((Code.region 56 #[{ dst := some 209, op := Op.move (Operand.tmp 23), type := 3, pos := "own.go:122", after := #[], guard := none }, { dst := some 210, op := Op.move (Operand.tmp 21), type := 55, pos := "own.go:122", after := #[], guard := none }, { dst := some 211, op := Op.call { callee := Callee.builtin Builtin.len, args := #[Operand.tmp 210], argTypes := #[55] }, type := 3, pos := "own.go:122", after := #[{ on := 1, ground := Ground.data }], guard := none }, { dst := some 212, op := Op.binOp BinOp.lss 3 (Operand.tmp 209) (Operand.tmp 211) 3, type := 4, pos := "own.go:122", after := #[{ on := 0, ground := Ground.data }, { on := 2, ground := Ground.data }], guard := none }] false).seq (Code.cond (Operand.tmp 212) Code.skip (Code.exit 5))).seq ((Code.block 6 ((Code.region 58 #[{ dst := some 216, op := Op.move (Operand.tmp 6), type := 31, pos := "own.go:123", after := #[], guard := none }, { dst := some 217, op := Op.move (Operand.tmp 21), type := 55, pos := "own.go:123", after := #[], guard := none }, { dst := some 218, op := Op.move (Operand.tmp 23), type := 3, pos := "own.go:123", after := #[], guard := none }, { dst := some 219, op := Op.indexAddr 55 (Operand.tmp 217) (Operand.tmp 218), type := 0, pos := "own.go:123", after := #[{ on := 1, ground := Ground.data }, { on := 2, ground := Ground.data }], guard := none }, { dst := some 220, op := Op.load 39 (Operand.tmp 219), type := 39, pos := "own.go:123", after := #[{ on := 3, ground := Ground.data }], guard := none }, { dst := some 221, op := Op.call { callee := Callee.value (Operand.func 12), args := #[Operand.tmp 216, Operand.tmp 220], argTypes := #[31, 39] }, type := 46, pos := "own.go:123", after := #[{ on := 0, ground := Ground.data }, { on := 4, ground := Ground.data }], guard := none }, { dst := some 215, op := Op.move (Operand.tmp 221), type := 46, pos := "own.go:123", after := #[{ on := 5, ground := Ground.data }], guard := none }, { dst := some 222, op := Op.extract (Operand.tmp 215) 0, type := 41, pos := "own.go:123", after := #[{ on := 6, ground := Ground.data }], guard := none }, { dst := some 223, op := Op.extract (Operand.tmp 215) 1, type := 4, pos := "own.go:123", after := #[{ on := 6, ground := Ground.data }, { on := 10, ground := Ground.gcOnly Departure.lateStores }], guard := none }, { dst := some 24, op := Op.alloc 41, type := 0, pos := "own.go:123", after := #[], guard := none }, { dst := none, op := Op.store 41 (Operand.tmp 24) (Operand.tmp 222), type := 0, pos := "own.go:123", after := #[{ on := 9, ground := Ground.data }, { on := 7, ground := Ground.data }, { on := 5, ground := Ground.chain }, { on := 0, ground := Ground.phase }, { on := 1, ground := Ground.phase }, { on := 2, ground := Ground.phase }, { on := 3, ground := Ground.phase }, { on := 4, ground := Ground.phase }, { on := 5, ground := Ground.phase }, { on := 6, ground := Ground.phase }, { on := 7, ground := Ground.phase }, { on := 8, ground := Ground.textOnly Departure.lateStores }, { on := 9, ground := Ground.phase }], guard := none }, { dst := some 25, op := Op.assign (Operand.tmp 223), type := 4, pos := "own.go:123", after := #[{ on := 8, ground := Ground.data }, { on := 10, ground := Ground.chain }, { on := 0, ground := Ground.phase }, { on := 1, ground := Ground.phase }, { on := 2, ground := Ground.phase }, { on := 3, ground := Ground.phase }, { on := 4, ground := Ground.phase }, { on := 5, ground := Ground.phase }, { on := 6, ground := Ground.phase }, { on := 7, ground := Ground.phase }, { on := 8, ground := Ground.phase }, { on := 9, ground := Ground.phase }, { on := 10, ground := Ground.phase }], guard := none }] false).seq (((Code.region 59 #[{ dst := some 224, op := Op.move (Operand.tmp 25), type := 4, pos := "own.go:124", after := #[], guard := none }, { dst := some 225, op := Op.unOp UnOp.not 4 (Operand.tmp 224), type := 4, pos := "own.go:124", after := #[{ on := 0, ground := Ground.data }], guard := none }, { dst := some 226, op := Op.move (Operand.tmp 225), type := 4, pos := "own.go:124", after := #[{ on := 1, ground := Ground.data }], guard := none }, { dst := some 227, op := Op.move (Operand.tmp 11), type := 35, pos := "own.go:124", after := #[{ on := 2, ground := Ground.guard }], guard := some (2, false) }, { dst := some 228, op := Op.load 41 (Operand.tmp 24), type := 41, pos := "own.go:124", after := #[{ on := 2, ground := Ground.guard }], guard := some (2, false) }, { dst := some 229, op := Op.call { callee := Callee.value (Operand.func 21), args := #[Operand.tmp 227, Operand.tmp 228], argTypes := #[35, 41] }, type := 4, pos := "own.go:124", after := #[{ on := 3, ground := Ground.data }, { on := 4, ground := Ground.data }, { on := 2, ground := Ground.chain }, { on := 2, ground := Ground.guard }], guard := some (2, false) }, { dst := some 230, op := Op.unOp UnOp.not 4 (Operand.tmp 229), type := 4, pos := "own.go:124", after := #[{ on := 5, ground := Ground.data }, { on := 2, ground := Ground.guard }], guard := some (2, false) }, { dst := some 231, op := Op.pick (Operand.tmp 226) (Operand.const (Value.bool true)) (Operand.tmp 230), type := 4, pos := "own.go:124", after := #[{ on := 2, ground := Ground.data }, { on := 6, ground := Ground.data }], guard := none }, { dst := some 232, op := Op.move (Operand.tmp 231), type := 4, pos := "own.go:124", after := #[{ on := 7, ground := Ground.data }, { on := 5, ground := Ground.chain }], guard := none }, { dst := some 233, op := Op.fieldAddr 41 (Operand.tmp 24) 0, type := 0, pos := "own.go:124", after := #[{ on := 8, ground := Ground.guard }], guard := some (8, false) }, { dst := some 234, op := Op.load 39 (Operand.tmp 233), type := 39, pos := "own.go:124", after := #[{ on := 9, ground := Ground.data }, { on := 8, ground := Ground.guard }], guard := some (8, false) }, { dst := some 235, op := Op.move (Operand.tmp 21), type := 55, pos := "own.go:124", after := #[{ on := 8, ground := Ground.guard }], guard := some (8, false) }, { dst := some 236, op := Op.move (Operand.tmp 23), type := 3, pos := "own.go:124", after := #[{ on := 8, ground := Ground.guard }], guard := some (8, false) }, { dst := some 237, op := Op.indexAddr 55 (Operand.tmp 235) (Operand.tmp 236), type := 0, pos := "own.go:124", after := #[{ on := 11, ground := Ground.data }, { on := 12, ground := Ground.data }, { on := 8, ground := Ground.guard }], guard := some (8, false) }, { dst := some 238, op := Op.load 39 (Operand.tmp 237), type := 39, pos := "own.go:124", after := #[{ on := 13, ground := Ground.data }, { on := 8, ground := Ground.guard }], guard := some (8, false) }, { dst := some 239, op := Op.binOp BinOp.neq 39 (Operand.tmp 234) (Operand.tmp 238) 39, type := 4, pos := "own.go:124", after := #[{ on := 10, ground := Ground.data }, { on := 14, ground := Ground.data }, { on := 8, ground := Ground.guard }], guard := some (8, false) }, { dst := some 240, op := Op.pick (Operand.tmp 232) (Operand.const (Value.bool true)) (Operand.tmp 239), type := 4, pos := "own.go:124", after := #[{ on := 8, ground := Ground.data }, { on := 15, ground := Ground.data }], guard := none }] true).seq (Code.cond (Operand.tmp 240) ((Code.region 60 #[{ dst := some 4, op := Op.assign (Operand.const (Value.bool false)), type := 4, pos := "own.go:125", after := #[], guard := none }] false).seq Code.ret) Code.skip)).seq (Code.region 61 #[{ dst := some 241, op := Op.move (Operand.tmp 22), type := 35, pos := "own.go:127", after := #[], guard := none }, { dst := some 242, op := Op.load 41 (Operand.tmp 24), type := 41, pos := "own.go:127", after := #[], guard := none }, { dst := some 243, op := Op.buildSlice 35 1 #[(0, Operand.tmp 242)], type := 35, pos := "own.go:127", after := #[{ on := 1, ground := Ground.data }], guard := none }, { dst := some 244, op := Op.call { callee := Callee.builtin Builtin.append, args := #[Operand.tmp 241, Operand.tmp 243], argTypes := #[35, 35] }, type := 35, pos := "own.go:127", after := #[{ on := 0, ground := Ground.data }, { on := 2, ground := Ground.data }], guard := none }, { dst := some 22, op := Op.assign (Operand.tmp 244), type := 35, pos := "own.go:127", after := #[{ on := 3, ground := Ground.data }, { on := 3, ground := Ground.chain }, { on := 0, ground := Ground.phase }, { on := 1, ground := Ground.phase }, { on := 2, ground := Ground.phase }, { on := 3, ground := Ground.phase }], guard := none }] false)))).seq (Code.region 57 #[{ dst := some 213, op := Op.move (Operand.tmp 23), type := 3, pos := "own.go:122", after := #[], guard := none }, { dst := some 214, op := Op.binOp BinOp.add 3 (Operand.tmp 213) (Operand.const (Value.int IntKind.i64 1)) 3, type := 3, pos := "own.go:122", after := #[{ on := 0, ground := Ground.data }], guard := none }, { dst := some 23, op := Op.assign (Operand.tmp 214), type := 3, pos := "own.go:122", after := #[{ on := 1, ground := Ground.data }, { on := 0, ground := Ground.phase }, { on := 1, ground := Ground.phase }], guard := none }] false))).loop)).seq (((Code.region 62 #[{ dst := some 26, op := Op.assign (Operand.const (Value.int IntKind.i64 0)), type := 3, pos := "own.go:129", after := #[], guard := none }] false).seq (Code.block 7 (((Code.region 63 #[{ dst := some 245, op := Op.move (Operand.tmp 26), type := 3, pos := "own.go:129", after := #[], guard := none }, { dst := some 246, op := Op.move (Operand.tmp 10), type := 35, pos := "own.go:129", after := #[], guard := none }, { dst := some 247, op := Op.call { callee := Callee.builtin Builtin.len, args := #[Operand.tmp 246], argTypes := #[35] }, type := 3, pos := "own.go:129", after := #[{ on := 1, ground := Ground.data }], guard := none }, { dst := some 248, op := Op.binOp BinOp.lss 3 (Operand.tmp 245) (Operand.tmp 247) 3, type := 4, pos := "own.go:129", after := #[{ on := 0, ground := Ground.data }, { on := 2, ground := Ground.data }], guard := none }] false).seq (Code.cond (Operand.tmp 248) Code.skip (Code.exit 7))).seq ((Code.block 8 ((Code.region 65 #[{ dst := some 251, op := Op.move (Operand.tmp 22), type := 35, pos := "own.go:130", after := #[], guard := none }, { dst := some 252, op := Op.move (Operand.tmp 10), type := 35, pos := "own.go:130", after := #[], guard := none }, { dst := some 253, op := Op.move (Operand.tmp 26), type := 3, pos := "own.go:130", after := #[], guard := none }, { dst := some 254, op := Op.indexAddr 35 (Operand.tmp 252) (Operand.tmp 253), type := 0, pos := "own.go:130", after := #[{ on := 1, ground := Ground.data }, { on := 2, ground := Ground.data }], guard := none }, { dst := some 255, op := Op.load 41 (Operand.tmp 254), type := 41, pos := "own.go:130", after := #[{ on := 3, ground := Ground.data }], guard := none }, { dst := some 256, op := Op.call { callee := Callee.value (Operand.func 21), args := #[Operand.tmp 251, Operand.tmp 255], argTypes := #[35, 41] }, type := 4, pos := "own.go:130", after := #[{ on := 0, ground := Ground.data }, { on := 4, ground := Ground.data }], guard := none }, { dst := some 257, op := Op.unOp UnOp.not 4 (Operand.tmp 256), type := 4, pos := "own.go:130", after := #[{ on := 5, ground := Ground.data }], guard := none }] false).seq (Code.cond (Operand.tmp 257) ((Code.region 66 #[{ dst := some 4, op := Op.assign (Operand.const (Value.bool false)), type := 4, pos := "own.go:131", after := #[], guard := none }] false).seq Code.ret) Code.skip))).seq (Code.region 64 #[{ dst := some 249, op := Op.move (Operand.tmp 26), type := 3, pos := "own.go:129", after := #[], guard := none }, { dst := some 250, op := Op.binOp BinOp.add 3 (Operand.tmp 249) (Operand.const (Value.int IntKind.i64 1)) 3, type := 3, pos := "own.go:129", after := #[{ on := 0, ground := Ground.data }], guard := none }, { dst := some 26, op := Op.assign (Operand.tmp 250), type := 3, pos := "own.go:129", after := #[{ on := 1, ground := Ground.data }, { on := 0, ground := Ground.phase }, { on := 1, ground := Ground.phase }], guard := none }] false))).loop)).seq (((Code.region 67 #[{ dst := some 258, op := Op.move (Operand.tmp 6), type := 31, pos := "own.go:134", after := #[], guard := none }, { dst := some 259, op := Op.call { callee := Callee.value (Operand.func 22), args := #[Operand.tmp 258], argTypes := #[31] }, type := 3, pos := "own.go:134", after := #[{ on := 0, ground := Ground.data }], guard := none }, { dst := some 260, op := Op.move (Operand.tmp 17), type := 3, pos := "own.go:134", after := #[], guard := none }, { dst := some 261, op := Op.move (Operand.tmp 21), type := 55, pos := "own.go:134", after := #[], guard := none }, { dst := some 262, op := Op.call { callee := Callee.builtin Builtin.len, args := #[Operand.tmp 261], argTypes := #[55] }, type := 3, pos := "own.go:134", after := #[{ on := 3, ground := Ground.data }], guard := none }, { dst := some 263, op := Op.binOp BinOp.add 3 (Operand.tmp 260) (Operand.tmp 262) 3, type := 3, pos := "own.go:134", after := #[{ on := 2, ground := Ground.data }, { on := 4, ground := Ground.data }], guard := none }, { dst := some 264, op := Op.binOp BinOp.neq 3 (Operand.tmp 259) (Operand.tmp 263) 3, type := 4, pos := "own.go:134", after := #[{ on := 1, ground := Ground.data }, { on := 5, ground := Ground.data }], guard := none }] false).seq (Code.cond (Operand.tmp 264) ((Code.region 68 #[{ dst := some 4, op := Op.assign (Operand.const (Value.bool false)), type := 4, pos := "own.go:135", after := #[], guard := none }] false).seq Code.ret) Code.skip)).seq ((Code.region 69 #[{ dst := some 265, op := Op.move (Operand.tmp 22), type := 35, pos := "own.go:137", after := #[], guard := none }, { dst := some 11, op := Op.assign (Operand.tmp 265), type := 35, pos := "own.go:137", after := #[{ on := 0, ground := Ground.data }, { on := 0, ground := Ground.phase }], guard := none }] false).seq ((Code.region 70 #[{ dst := some 266, op := Op.buildSlice 27 0 #[], type := 27, pos := "own.go:139", after := #[], guard := none }, { dst := some 8, op := Op.assign (Operand.tmp 266), type := 27, pos := "own.go:139", after := #[{ on := 0, ground := Ground.data }, { on := 0, ground := Ground.phase }], guard := none }] false).seq (((Code.region 71 #[{ dst := some 27, op := Op.assign (Operand.const (Value.int IntKind.i64 0)), type := 3, pos := "own.go:140", after := #[], guard := none }] false).seq (Code.block 9 (((Code.region 72 #[{ dst := some 267, op := Op.move (Operand.tmp 27), type := 3, pos := "own.go:140", after := #[], guard := none }, { dst := some 268, op := Op.move (Operand.tmp 9), type := 27, pos := "own.go:140", after := #[], guard := none }, { dst := some 269, op := Op.call { callee := Callee.builtin Builtin.len, args := #[Operand.tmp 268], argTypes := #[27] }, type := 3, pos := "own.go:140", after := #[{ on := 1, ground := Ground.data }], guard := none }, { dst := some 270, op := Op.binOp BinOp.lss 3 (Operand.tmp 267) (Operand.tmp 269) 3, type := 4, pos := "own.go:140", after := #[{ on := 0, ground := Ground.data }, { on := 2, ground := Ground.data }], guard := none }] false).seq (Code.cond (Operand.tmp 270) Code.skip (Code.exit 9))).seq ((Code.block 10 ((Code.region 74 #[{ dst := some 274, op := Op.move (Operand.tmp 6), type := 31, pos := "own.go:141", after := #[], guard := none }, { dst := some 275, op := Op.move (Operand.tmp 9), type := 27, pos := "own.go:141", after := #[], guard := none }, { dst := some 276, op := Op.move (Operand.tmp 27), type := 3, pos := "own.go:141", after := #[], guard := none }, { dst := some 277, op := Op.indexAddr 27 (Operand.tmp 275) (Operand.tmp 276), type := 0, pos := "own.go:141", after := #[{ on := 1, ground := Ground.data }, { on := 2, ground := Ground.data }], guard := none }, { dst := some 278, op := Op.load 9 (Operand.tmp 277), type := 9, pos := "own.go:141", after := #[{ on := 3, ground := Ground.data }], guard := none }, { dst := some 279, op := Op.buildSlice 27 1 #[(0, Operand.tmp 278)], type := 27, pos := "own.go:141", after := #[{ on := 4, ground := Ground.data }], guard := none }, { dst := some 280, op := Op.call { callee := Callee.value (Operand.func 18), args := #[Operand.tmp 279], argTypes := #[27] }, type := 39, pos := "own.go:141", after := #[{ on := 5, ground := Ground.data }], guard := none }, { dst := some 281, op := Op.call { callee := Callee.value (Operand.func 17), args := #[Operand.tmp 274, Operand.tmp 280], argTypes := #[31, 39] }, type := 51, pos := "own.go:141", after := #[{ on := 0, ground := Ground.data }, { on := 6, ground := Ground.data }, { on := 6, ground := Ground.chain }], guard := none }, { dst := some 273, op := Op.move (Operand.tmp 281), type := 51, pos := "own.go:141", after := #[{ on := 7, ground := Ground.data }], guard := none }, { dst := some 282, op := Op.extract (Operand.tmp 273) 0, type := 9, pos := "own.go:141", after := #[{ on := 8, ground := Ground.data }], guard := none }, { dst := some 283, op := Op.extract (Operand.tmp 273) 1, type := 4, pos := "own.go:141", after := #[{ on := 8, ground := Ground.data }, { on := 11, ground := Ground.gcOnly Departure.lateStores }], guard := none }, { dst := some 28, op := Op.assign (Operand.tmp 282), type := 9, pos := "own.go:141", after := #[{ on := 9, ground := Ground.data }, { on := 7, ground := Ground.chain }, { on := 0, ground := Ground.phase }, { on := 1, ground := Ground.phase }, { on := 2, ground := Ground.phase }, { on := 3, ground := Ground.phase }, { on := 4, ground := Ground.phase }, { on := 5, ground := Ground.phase }, { on := 6, ground := Ground.phase }, { on := 7, ground := Ground.phase }, { on := 8, ground := Ground.phase }, { on := 9, ground := Ground.phase }, { on := 10, ground := Ground.textOnly Departure.lateStores }], guard := none }, { dst := some 29, op := Op.assign (Operand.tmp 283), type := 4, pos := "own.go:141", after := #[{ on := 10, ground := Ground.data }, { on := 11, ground := Ground.chain }, { on := 0, ground := Ground.phase }, { on := 1, ground := Ground.phase }, { on := 2, ground := Ground.phase }, { on := 3, ground := Ground.phase }, { on := 4, ground := Ground.phase }, { on := 5, ground := Ground.phase }, { on := 6, ground := Ground.phase }, { on := 7, ground := Ground.phase }, { on := 8, ground := Ground.phase }, { on := 9, ground := Ground.phase }, { on := 10, ground := Ground.phase }, { on := 11, ground := Ground.phase }], guard := none }] false).seq ((Code.region 75 #[{ dst := some 284, op := Op.move (Operand.tmp 29), type := 4, pos := "own.go:141", after := #[], guard := none }] false).seq (Code.cond (Operand.tmp 284) (Code.region 76 #[{ dst := some 285, op := Op.move (Operand.tmp 8), type := 27, pos := "own.go:142", after := #[], guard := none }, { dst := some 286, op := Op.move (Operand.tmp 9), type := 27, pos := "own.go:142", after := #[], guard := none }, { dst := some 287, op := Op.move (Operand.tmp 27), type := 3, pos := "own.go:142", after := #[], guard := none }, { dst := some 288, op := Op.indexAddr 27 (Operand.tmp 286) (Operand.tmp 287), type := 0, pos := "own.go:142", after := #[{ on := 1, ground := Ground.data }, { on := 2, ground := Ground.data }], guard := none }, { dst := some 289, op := Op.load 9 (Operand.tmp 288), type := 9, pos := "own.go:142", after := #[{ on := 3, ground := Ground.data }], guard := none }, { dst := some 290, op := Op.buildSlice 27 1 #[(0, Operand.tmp 289)], type := 27, pos := "own.go:142", after := #[{ on := 4, ground := Ground.data }], guard := none }, { dst := some 291, op := Op.call { callee := Callee.builtin Builtin.append, args := #[Operand.tmp 285, Operand.tmp 290], argTypes := #[27, 27] }, type := 27, pos := "own.go:142", after := #[{ on := 0, ground := Ground.data }, { on := 5, ground := Ground.data }], guard := none }, { dst := some 8, op := Op.assign (Operand.tmp 291), type := 27, pos := "own.go:142", after := #[{ on := 6, ground := Ground.data }, { on := 6, ground := Ground.chain }, { on := 0, ground := Ground.phase }, { on := 1, ground := Ground.phase }, { on := 2, ground := Ground.phase }, { on := 3, ground := Ground.phase }, { on := 4, ground := Ground.phase }, { on := 5, ground := Ground.phase }, { on := 6, ground := Ground.phase }], guard := none }] false) Code.skip)))).seq (Code.region 73 #[{ dst := some 271, op := Op.move (Operand.tmp 27), type := 3, pos := "own.go:140", after := #[], guard := none }, { dst := some 272, op := Op.binOp BinOp.add 3 (Operand.tmp 271) (Operand.const (Value.int IntKind.i64 1)) 3, type := 3, pos := "own.go:140", after := #[{ on := 0, ground := Ground.data }], guard := none }, { dst := some 27, op := Op.assign (Operand.tmp 272), type := 3, pos := "own.go:140", after := #[{ on := 1, ground := Ground.data }, { on := 0, ground := Ground.phase }, { on := 1, ground := Ground.phase }], guard := none }] false))).loop)).seq ((Code.region 77 #[{ dst := some 292, op := Op.buildSlice 27 0 #[], type := 27, pos := "own.go:145", after := #[], guard := none }, { dst := some 293, op := Op.move (Operand.tmp 8), type := 27, pos := "own.go:145", after := #[], guard := none }, { dst := some 294, op := Op.call { callee := Callee.builtin Builtin.append, args := #[Operand.tmp 292, Operand.tmp 293], argTypes := #[27, 27] }, type := 27, pos := "own.go:145", after := #[{ on := 0, ground := Ground.data }, { on := 1, ground := Ground.data }], guard := none }, { dst := some 9, op := Op.assign (Operand.tmp 294), type := 27, pos := "own.go:145", after := #[{ on := 2, ground := Ground.data }, { on := 2, ground := Ground.chain }, { on := 0, ground := Ground.phase }, { on := 1, ground := Ground.phase }, { on := 2, ground := Ground.phase }], guard := none }] false).seq ((Code.region 78 #[{ dst := some 295, op := Op.buildSlice 35 0 #[], type := 35, pos := "own.go:146", after := #[], guard := none }, { dst := some 296, op := Op.move (Operand.tmp 22), type := 35, pos := "own.go:146", after := #[], guard := none }, { dst := some 297, op := Op.call { callee := Callee.builtin Builtin.append, args := #[Operand.tmp 295, Operand.tmp 296], argTypes := #[35, 35] }, type := 35, pos := "own.go:146", after := #[{ on := 0, ground := Ground.data }, { on := 1, ground := Ground.data }], guard := none }, { dst := some 10, op := Op.assign (Operand.tmp 297), type := 35, pos := "own.go:146", after := #[{ on := 2, ground := Ground.data }, { on := 2, ground := Ground.chain }, { on := 0, ground := Ground.phase }, { on := 1, ground := Ground.phase }, { on := 2, ground := Ground.phase }], guard := none }] false).seq ((Code.region 79 #[{ dst := some 298, op := Op.move (Operand.tmp 12), type := 3, pos := "own.go:147", after := #[], guard := none }, { dst := some 299, op := Op.binOp BinOp.add 3 (Operand.tmp 298) (Operand.const (Value.int IntKind.i64 1)) 3, type := 3, pos := "own.go:147", after := #[{ on := 0, ground := Ground.data }], guard := none }, { dst := some 12, op := Op.assign (Operand.tmp 299), type := 3, pos := "own.go:147", after := #[{ on := 1, ground := Ground.data }, { on := 0, ground := Ground.phase }, { on := 1, ground := Ground.phase }], guard := none }] false).seq ((Code.region 80 #[{ dst := some 300, op := Op.move (Operand.tmp 12), type := 3, pos := "own.go:148", after := #[], guard := none }, { dst := some 301, op := Op.move (Operand.tmp 1), type := 23, pos := "own.go:148", after := #[], guard := none }, { dst := some 302, op := Op.call { callee := Callee.builtin Builtin.len, args := #[Operand.tmp 301], argTypes := #[23] }, type := 3, pos := "own.go:148", after := #[{ on := 1, ground := Ground.data }], guard := none }, { dst := some 303, op := Op.binOp BinOp.lss 3 (Operand.tmp 300) (Operand.tmp 302) 3, type := 4, pos := "own.go:148", after := #[{ on := 0, ground := Ground.data }, { on := 2, ground := Ground.data }], guard := none }, { dst := some 304, op := Op.move (Operand.tmp 303), type := 4, pos := "own.go:148", after := #[{ on := 3, ground := Ground.data }], guard := none }, { dst := some 305, op := Op.move (Operand.tmp 12), type := 3, pos := "own.go:148", after := #[{ on := 4, ground := Ground.guard }], guard := some (4, true) }, { dst := some 306, op := Op.binOp BinOp.lss 3 (Operand.tmp 305) (Operand.const (Value.int IntKind.i64 5)) 3, type := 4, pos := "own.go:148", after := #[{ on := 5, ground := Ground.data }, { on := 4, ground := Ground.guard }], guard := some (4, true) }, { dst := some 307, op := Op.pick (Operand.tmp 304) (Operand.tmp 306) (Operand.const (Value.bool false)), type := 4, pos := "own.go:148", after := #[{ on := 4, ground := Ground.data }, { on := 6, ground := Ground.data }], guard := none }] false).seq (Code.cond (Operand.tmp 307) (Code.region 81 #[{ dst := some 308, op := Op.move (Operand.tmp 5), type := 29, pos := "own.go:149", after := #[], guard := none }, { dst := some 309, op := Op.move (Operand.tmp 1), type := 23, pos := "own.go:149", after := #[], guard := none }, { dst := some 310, op := Op.move (Operand.tmp 12), type := 3, pos := "own.go:149", after := #[], guard := none }, { dst := some 311, op := Op.indexAddr 23 (Operand.tmp 309) (Operand.tmp 310), type := 0, pos := "own.go:149", after := #[{ on := 1, ground := Ground.data }, { on := 2, ground := Ground.data }], guard := none }, { dst := some 312, op := Op.load 3 (Operand.tmp 311), type := 3, pos := "own.go:149", after := #[{ on := 3, ground := Ground.data }], guard := none }, { dst := some 313, op := Op.convert 3 37 (Operand.tmp 312), type := 37, pos := "own.go:149", after := #[{ on := 4, ground := Ground.data }], guard := none }, { dst := some 314, op := Op.binOp BinOp.rem 37 (Operand.tmp 313) (Operand.const (Value.int IntKind.u64 60)) 37, type := 37, pos := "own.go:149", after := #[{ on := 5, ground := Ground.data }], guard := none }, { dst := some 315, op := Op.convert 37 3 (Operand.tmp 314), type := 3, pos := "own.go:149", after := #[{ on := 6, ground := Ground.data }], guard := none }, { dst := some 316, op := Op.call { callee := Callee.value (Operand.func 10), args := #[Operand.tmp 308, Operand.tmp 315], argTypes := #[29, 3] }, type := 0, pos := "own.go:149", after := #[{ on := 0, ground := Ground.data }, { on := 7, ground := Ground.data }], guard := none }] false) Code.skip))))))))))))))))))))
set_option maxRecDepth 8000 in
set_option maxHeartbeats 32000000 in
theorem hivePower_loss {K K1 : Act → World → Prop} {Q' : Exit → Act → World → Prop} (acts : List A5) (c : Nat) (pw : List Int) (pa : Option Addr) (pc : Nat) (w : World) (hn : acts.length ≤ 9223372036854775807) (hpn : pw.length ≤ 9223372036854775807) (hz : 2 ≤ w.heap.size) (HGW : Hid (GW w))
    (HIN : Hid (∀ s, XT acts s → ∀ t, XT acts t → S.sha s = S.sha t → s = t))
    (HPI : Hid (∀ {W : World} (j : Nat), Below w.heap.size w W → j < pw.length → ∃ (y : Int) (sb off : Nat), pa = some ⟨sb, off, none⟩ ∧ W.cell? ⟨sb, off + j, none⟩ = some (.int .i64 y) ∧ -9223372036854775808 ≤ y ∧ y ≤ 9223372036854775807))
    (sh sc : Nat) (i lo : Nat) (hi : i ≤ acts.length) (h7 : i ≤ 70) (hlo : lo ≤ i) (K' : Nat) (hlt1 : i < acts.length) (h70 : i < 70) (x : A5) (hx1 : x.text.length ≤ 1000) (hx2 : x.fates.length ≤ 200) (sb off : Nat) (HOK : Hid (A5ok w x)) (HXT : Hid (XT acts x.text)) (fs35 : Array Field) (hum35 : Tryz.prog.underlying 41 = some (TypeDesc.struct fs35)) (hAs : (avL x).toArray.size = 69)
    (HAV : Hid (∀ (W : World) (q : Nat), W.heap[q]? = some (.cells (avL x).toArray 43 (0, 0)) → W.cell? ⟨q, 0, none⟩ = some (.int .i64 x.kind) ∧ W.cell? ⟨q, 1, none⟩ = some (.string (M.bs x.text)) ∧ W.cell? ⟨q, 67, none⟩ = some (.int .i64 x.at') ∧ W.cell? ⟨q, 68, none⟩ = some (.slice x.fa x.fates.length x.fc) ∧ W.rangeAt q 2 (rvL x.r) ∧ W.rangeAt q 2 (x.r.key.map vb)))
    (HTL : Hid (∀ t, XT acts t → t.length ≤ 1000)) (Q : Nat) (bx : Rw) (HBX : Hid (rwK 43 69 Q 1 (avL x).toArray = bx)) (wc : World)
    (bl' su' : List (List UInt8)) (re' sa' : List V.Rc) (hbr' : bl'.length + re'.length ≤ i + 1) (HbX' : Hid (∀ t ∈ bl', XT acts t)) (Hre' : Hid (∀ r ∈ re', Rc32 r)) (Hsa' : Hid (∀ r ∈ sa', Rc32 r))
    {u4 u8 u9 u10 u11 u15 u16 u17 u18 u19 u20 u21 u22 u23 u24 u25 u26 u27 u28 u29 u30 u31 u32 u33 u34 u35 u36 u37 u38 u39 u40 u41 u42 u43 u44 u45 u46 u47 u48 u49 u50 u51 u52 u53 u54 u55 u56 u57 u58 u59 u60 u61 u62 u63 u64 u65 u66 u67 u68 u69 u70 u71 u72 u73 u74 u75 u76 u77 u78 u79 u80 u81 u82 u83 u84 u85 u86 u87 u88 u89 u90 u91 u92 u93 u94 u95 u96 u97 u98 u99 u100 u101 u102 u103 u104 u105 u106 u107 u108 u109 u110 u111 u112 u113 u114 u115 u116 u117 u118 u119 u120 u121 u122 u123 u124 u125 u126 u127 u128 u129 u130 u131 u132 u133 u134 u135 u136 u137 u138 u139 u140 u141 u142 u143 u144 u145 u146 u147 u148 u149 u150 u151 u152 u153 u154 u155 u156 u157 u158 u159 u160 u161 u162 u163 u164 u165 u166 u167 u168 u169 u170 u171 u172 u173 u174 u175 u176 u177 u178 u179 u180 u181 u182 u183 u184 u185 u186 u187 u188 u189 u190 u191 u192 u193 u194 u195 u196 u197 u198 u199 u200 u201 u202 u203 u204 u205 u206 u207 u208 u209 u210 u211 u212 u213 u214 u215 u216 u217 u218 u219 u220 u221 u222 u223 u224 u225 u226 u227 u228 u229 u230 u231 u232 u233 u234 u235 u236 u237 u238 u239 u240 u241 u242 u243 u244 u245 u246 u247 u248 u249 u250 u251 u252 u253 u254 u255 u256 u257 u258 u259 u260 u261 u262 u263 u264 u265 u266 u267 u268 u269 u270 u271 u272 u273 u274 u275 u276 u277 u278 u279 u280 u281 u282 u283 u284 u285 u286 u287 u288 u289 u290 u291 u292 u293 u294 u295 u296 u297 u298 u299 u300 u301 u302 u303 u304 u305 u306 u307 u308 u309 u310 u311 u312 u313 u314 u315 u316 : Value} (NX : NA w 128 (2000 * i + 210) K' sh sc (r5 u9 u8 u11 u10 bl' su' re' sa' [bx]) (XT acts) bl' su' re' sa' wc 10)
    (hA : ∀ a w, Code.wp Tryz.prog lossCode (Exit.inBlock 1 (Exit.then K1 Q')) a w → K a w)
    (HK1 : Hid (∀ (l1 : Nat) {v6 v8 v9 v10 v11 v4 v7 v17 v18 v19 v20 v21 v22 v23 v24 v25 v26 v27 v28 v29 v139 v140 v141 v142 v143 v144 v145 v146 v147 v148 v149 v150 v151 v152 v153 v154 v155 v156 v157 v158 v159 v160 v161 v162 v163 v164 v165 v166 v167 v168 v169 v170 v171 v172 v173 v174 v175 v176 v177 v178 v179 v180 v181 v182 v183 v184 v185 v186 v187 v188 v189 v190 v191 v192 v193 v194 v195 v196 v197 v198 v199 v200 v201 v202 v203 v204 v205 v206 v207 v208 v209 v210 v211 v212 v213 v214 v215 v216 v217 v218 v219 v220 v221 v222 v223 v224 v225 v226 v227 v228 v229 v230 v231 v232 v233 v234 v235 v236 v237 v238 v239 v240 v241 v242 v243 v244 v245 v246 v247 v248 v249 v250 v251 v252 v253 v254 v255 v256 v257 v258 v259 v260 v261 v262 v263 v264 v265 v266 v267 v268 v269 v270 v271 v272 v273 v274 v275 v276 v277 v278 v279 v280 v281 v282 v283 v284 v285 v286 v287 v288 v289 v290 v291 v292 v293 v294 v295 v296 v297 v298 v299 v300 v301 v302 v303 v304 v305 v306 v307 v308 v309 v310 v311 v312 v313 v314 v315 v316 : Value} {U : World}, l1 ≤ i + 1 → RndP w acts sh sc (i + 1) v6 v8 v9 v10 v11 U → K1 (⟨List.toArray (Value.slice (some { block := sb, off := off }) acts.length c :: Value.slice pa pw.length pc :: undef :: undef :: v4 :: Value.pointer (some { block := sh, off := 0 }) :: v6 :: v7 :: v8 :: v9 :: v10 :: v11 :: Value.int IntKind.i64 (l1 : Int) :: Value.int IntKind.i64 ↑i :: Value.pointer (some { block := Q, off := 0 }) :: u15 :: u16 :: v17 :: v18 :: v19 :: v20 :: v21 :: v22 :: v23 :: v24 :: v25 :: v26 :: v27 :: v28 :: v29 :: u30 :: u31 :: u32 :: u33 :: u34 :: u35 :: u36 :: u37 :: u38 :: u39 :: u40 :: u41 :: u42 :: u43 :: u44 :: u45 :: u46 :: u47 :: u48 :: u49 :: u50 :: u51 :: u52 :: u53 :: u54 :: u55 :: u56 :: u57 :: u58 :: u59 :: u60 :: u61 :: u62 :: u63 :: u64 :: u65 :: u66 :: u67 :: u68 :: u69 :: u70 :: u71 :: u72 :: u73 :: u74 :: u75 :: u76 :: u77 :: u78 :: u79 :: u80 :: u81 :: u82 :: u83 :: u84 :: u85 :: u86 :: u87 :: u88 :: u89 :: u90 :: u91 :: u92 :: u93 :: u94 :: u95 :: u96 :: u97 :: u98 :: u99 :: u100 :: u101 :: u102 :: u103 :: u104 :: u105 :: u106 :: u107 :: u108 :: u109 :: u110 :: u111 :: u112 :: u113 :: u114 :: u115 :: u116 :: u117 :: u118 :: u119 :: u120 :: u121 :: u122 :: u123 :: u124 :: u125 :: u126 :: u127 :: u128 :: u129 :: u130 :: u131 :: u132 :: u133 :: u134 :: u135 :: u136 :: u137 :: u138 :: v139 :: v140 :: v141 :: v142 :: v143 :: v144 :: v145 :: v146 :: v147 :: v148 :: v149 :: v150 :: v151 :: v152 :: v153 :: v154 :: v155 :: v156 :: v157 :: v158 :: v159 :: v160 :: v161 :: v162 :: v163 :: v164 :: v165 :: v166 :: v167 :: v168 :: v169 :: v170 :: v171 :: v172 :: v173 :: v174 :: v175 :: v176 :: v177 :: v178 :: v179 :: v180 :: v181 :: v182 :: v183 :: v184 :: v185 :: v186 :: v187 :: v188 :: v189 :: v190 :: v191 :: v192 :: v193 :: v194 :: v195 :: v196 :: v197 :: v198 :: v199 :: v200 :: v201 :: v202 :: v203 :: v204 :: v205 :: v206 :: v207 :: v208 :: v209 :: v210 :: v211 :: v212 :: v213 :: v214 :: v215 :: v216 :: v217 :: v218 :: v219 :: v220 :: v221 :: v222 :: v223 :: v224 :: v225 :: v226 :: v227 :: v228 :: v229 :: v230 :: v231 :: v232 :: v233 :: v234 :: v235 :: v236 :: v237 :: v238 :: v239 :: v240 :: v241 :: v242 :: v243 :: v244 :: v245 :: v246 :: v247 :: v248 :: v249 :: v250 :: v251 :: v252 :: v253 :: v254 :: v255 :: v256 :: v257 :: v258 :: v259 :: v260 :: v261 :: v262 :: v263 :: v264 :: v265 :: v266 :: v267 :: v268 :: v269 :: v270 :: v271 :: v272 :: v273 :: v274 :: v275 :: v276 :: v277 :: v278 :: v279 :: v280 :: v281 :: v282 :: v283 :: v284 :: v285 :: v286 :: v287 :: v288 :: v289 :: v290 :: v291 :: v292 :: v293 :: v294 :: v295 :: v296 :: v297 :: v298 :: v299 :: v300 :: v301 :: v302 :: v303 :: v304 :: v305 :: v306 :: v307 :: v308 :: v309 :: v310 :: v311 :: v312 :: v313 :: v314 :: v315 :: v316 :: []), []⟩ : Act) U)) :
    K (⟨List.toArray (Value.slice (some { block := sb, off := off }) acts.length c :: Value.slice pa pw.length pc :: undef :: undef :: u4 :: Value.pointer (some { block := sh, off := 0 }) :: Value.pointer (some { block := K', off := 0 }) :: Value.int IntKind.i64 10 :: u8 :: u9 :: u10 :: u11 :: Value.int IntKind.i64 ↑lo :: Value.int IntKind.i64 ↑i :: Value.pointer (some { block := Q, off := 0 }) :: u15 :: u16 :: u17 :: u18 :: u19 :: u20 :: u21 :: u22 :: u23 :: u24 :: u25 :: u26 :: u27 :: u28 :: u29 :: u30 :: u31 :: u32 :: u33 :: u34 :: u35 :: u36 :: u37 :: u38 :: u39 :: u40 :: u41 :: u42 :: u43 :: u44 :: u45 :: u46 :: u47 :: u48 :: u49 :: u50 :: u51 :: u52 :: u53 :: u54 :: u55 :: u56 :: u57 :: u58 :: u59 :: u60 :: u61 :: u62 :: u63 :: u64 :: u65 :: u66 :: u67 :: u68 :: u69 :: u70 :: u71 :: u72 :: u73 :: u74 :: u75 :: u76 :: u77 :: u78 :: u79 :: u80 :: u81 :: u82 :: u83 :: u84 :: u85 :: u86 :: u87 :: u88 :: u89 :: u90 :: u91 :: u92 :: u93 :: u94 :: u95 :: u96 :: u97 :: u98 :: u99 :: u100 :: u101 :: u102 :: u103 :: u104 :: u105 :: u106 :: u107 :: u108 :: u109 :: u110 :: u111 :: u112 :: u113 :: u114 :: u115 :: u116 :: u117 :: u118 :: u119 :: u120 :: u121 :: u122 :: u123 :: u124 :: u125 :: u126 :: u127 :: u128 :: u129 :: u130 :: u131 :: u132 :: u133 :: u134 :: u135 :: u136 :: u137 :: u138 :: u139 :: u140 :: u141 :: u142 :: u143 :: u144 :: u145 :: u146 :: u147 :: u148 :: u149 :: u150 :: u151 :: u152 :: u153 :: u154 :: u155 :: u156 :: u157 :: u158 :: u159 :: u160 :: u161 :: u162 :: u163 :: u164 :: u165 :: u166 :: u167 :: u168 :: u169 :: u170 :: u171 :: u172 :: u173 :: u174 :: u175 :: u176 :: u177 :: u178 :: u179 :: u180 :: u181 :: u182 :: u183 :: u184 :: u185 :: u186 :: u187 :: u188 :: u189 :: u190 :: u191 :: u192 :: u193 :: u194 :: u195 :: u196 :: u197 :: u198 :: u199 :: u200 :: u201 :: u202 :: u203 :: u204 :: u205 :: u206 :: u207 :: u208 :: u209 :: u210 :: u211 :: u212 :: u213 :: u214 :: u215 :: u216 :: u217 :: u218 :: u219 :: u220 :: u221 :: u222 :: u223 :: u224 :: u225 :: u226 :: u227 :: u228 :: u229 :: u230 :: u231 :: u232 :: u233 :: u234 :: u235 :: u236 :: u237 :: u238 :: u239 :: u240 :: u241 :: u242 :: u243 :: u244 :: u245 :: u246 :: u247 :: u248 :: u249 :: u250 :: u251 :: u252 :: u253 :: u254 :: u255 :: u256 :: u257 :: u258 :: u259 :: u260 :: u261 :: u262 :: u263 :: u264 :: u265 :: u266 :: u267 :: u268 :: u269 :: u270 :: u271 :: u272 :: u273 :: u274 :: u275 :: u276 :: u277 :: u278 :: u279 :: u280 :: u281 :: u282 :: u283 :: u284 :: u285 :: u286 :: u287 :: u288 :: u289 :: u290 :: u291 :: u292 :: u293 :: u294 :: u295 :: u296 :: u297 :: u298 :: u299 :: u300 :: u301 :: u302 :: u303 :: u304 :: u305 :: u306 :: u307 :: u308 :: u309 :: u310 :: u311 :: u312 :: u313 :: u314 :: u315 :: u316 :: []), []⟩ : Act) wc := by
  refine hA _ _ ?_
  unfold lossCode
  clear hA
  have i0 : (0 : Int) ≤ (i : Int) := by omega
  have i2 : (i : Int) < 70 := by omega
  obtain ⟨aB', cB', rfl, _⟩ := owns_ts (NX.owns (r := rwS u9 bl') (by simp [r5]))
  obtain ⟨aS', cS', rfl, _⟩ := owns_ts (NX.owns (r := rwS u8 su') (by simp [r5]))
  obtain ⟨aR', cR', rfl, _, _⟩ := owns_rl Hre'.out (NX.owns (r := rwR u11 re') (by simp [r5]))
  obtain ⟨aF', cF', rfl, _, _⟩ := owns_rl Hsa'.out (NX.owns (r := rwR u10 sa') (by simp [r5]))
  have hsl : su'.length ≤ 9223372036854775807 := owns_len (NX.owns (r := rwS (.slice aS' su'.length cS') su') (by simp [r5]))
  have hal : sa'.length ≤ 9223372036854775807 := owns_len (NX.owns (r := rwR (.slice aF' sa'.length cF') sa') (by simp [r5]))
  have hbl' : bl'.length ≤ 71 := by omega
  have hrl' : re'.length ≤ 71 := by omega
  have hBXm : rwK 43 69 Q 1 (avL x).toArray ∈ r5 (.slice aB' bl'.length cB') (.slice aS' su'.length cS') (.slice aR' re'.length cR') (.slice aF' sa'.length cF') bl' su' re' sa' [bx] := r5_mem (List.mem_singleton.2 HBX.out)
  obtain ⟨RS, hRS⟩ : ∃ RS, r5 (.slice aB' bl'.length cB') (.slice aS' su'.length cS') (.slice aR' re'.length cR') (.slice aF' sa'.length cF') bl' su' re' sa' [bx] = RS := ⟨_, rfl⟩
  have HRS : Hid (r5 (.slice aB' bl'.length cB') (.slice aS' su'.length cS') (.slice aR' re'.length cR') (.slice aF' sa'.length cF') bl' su' re' sa' [bx] = RS) := hRS
  have HTB : Hid (∀ {rs : List Rw} {m K arm cn : Nat} {L : Fd → List H.Sl → Prop} V, (∀ r ∈ RS, r ∈ rs) → QP w 128 m K sh sc arm rs (XT acts) cn L V → TS V aB' bl') := fun V h q => ts_of (q.owns (r := rwS (.slice aB' bl'.length cB') bl') (h _ (by rw [← hRS]; simp [r5])))
  have HTS : Hid (∀ {rs : List Rw} {m K arm cn : Nat} {L : Fd → List H.Sl → Prop} V, (∀ r ∈ RS, r ∈ rs) → QP w 128 m K sh sc arm rs (XT acts) cn L V → TS V aS' su') := fun V h q => ts_of (q.owns (r := rwS (.slice aS' su'.length cS') su') (h _ (by rw [← hRS]; simp [r5])))
  have HTR : Hid (∀ {rs : List Rw} {m K arm cn : Nat} {L : Fd → List H.Sl → Prop} V, (∀ r ∈ RS, r ∈ rs) → QP w 128 m K sh sc arm rs (XT acts) cn L V → RL V aR' re') := fun V h q => rl_of Hre'.out (q.owns (r := rwR (.slice aR' re'.length cR') re') (h _ (by rw [← hRS]; simp [r5])))
  have HTF : Hid (∀ {rs : List Rw} {m K arm cn : Nat} {L : Fd → List H.Sl → Prop} V, (∀ r ∈ RS, r ∈ rs) → QP w 128 m K sh sc arm rs (XT acts) cn L V → RL V aF' sa') := fun V h q => rl_of Hsa'.out (q.owns (r := rwR (.slice aF' sa'.length cF') sa') (h _ (by rw [← hRS]; simp [r5])))
  rw [hRS] at NX hBXm
  clear hRS
  have COF : Hid (Calls Tryz.prog 15 #[.pointer (some ⟨sh, 0, none⟩)] wc fun e' w' => e' = .returned (.tuple #[]) ∧ DP w 128 (2000 * i + 211) sh sc RS (XT acts) (L4d bl' su' re' sa') w') := NX.offs (by omega)
  have CON : Hid (∀ W, DP w 128 (2000 * i + 211) sh sc RS (XT acts) (L4d bl' su' re' sa') W → Calls Tryz.prog 16 #[.pointer (some ⟨sh, 0, none⟩), .slice x.fa x.fates.length x.fc] W fun e' w' => e' = .returned (.tuple #[]) ∧ OP w 128 (2000 * i + 211) sh sc RS (XT acts) (Lb bl' su' re' sa') w') := fun W q => q.ons (by omega) x.fates x.fa x.fc HOK.out.f HOK.out.fl HOK.out.fb
  have COP : Hid (∀ W, OP w 128 (2000 * i + 211) sh sc RS (XT acts) (Lb bl' su' re' sa') W → Calls Tryz.prog 9 #[.pointer (some ⟨sh, 0, none⟩)] W fun e' w' => ∃ (K2 cn : Nat) (qf : List UInt8 → Bool), e' = .returned (.tuple #[.pointer (some ⟨K2, 0, none⟩), .int .i64 0]) ∧ (∀ t ∈ su', qf t = true) ∧ (∀ t, qf t = true → t ∈ bl') ∧ QP w 128 (2000 * i + 211 + 200) K2 sh sc 0 RS (XT acts) cn (Lo qf bl' su' re' sa') w') := fun W q => q.opens (by omega) HGW.out
  have HKF : Hid (∀ W, DP w 128 (2000 * i + 211) sh sc RS (XT acts) (L4d bl' su' re' sa') W → W.cell? ⟨Q, 68, none⟩ = some (.slice x.fa x.fates.length x.fc)) := fun W q => (HAV.out W Q (owns_heap (k := 69) (n := 1) hAs (q.owns hBXm))).2.2.2.1
  clear NX hBXm HAV HXT HOK
  go_upto_block 3 with (first
    | go_big_skip
    | (go_at_call 15; refine (COF.out).mono ?_; clear COF; rintro e w3 ⟨rfl, LD⟩; have k68 := HKF.out _ LD; clear HKF)
    | (go_at_call 16; refine (CON.out _ LD).mono ?_; clear CON LD k68; rintro e w4 ⟨rfl, LO⟩)
    | (go_at_call 9; refine (COP.out _ LO).mono ?_; clear COP LO; rintro e w5 ⟨K2, cn2, qf, rfl, hq1, hq2, LX⟩))
  have HQ1 : Hid (∀ t ∈ su', qf t = true) := hq1
  have HQ2 : Hid (∀ t, qf t = true → t ∈ bl') := hq2
  have HL0 : Hid (QP w 128 (2000 * i + 411 + 5 * 0) K2 sh sc 0 RS (XT acts) cn2 (Lo qf bl' su' re' sa') w5) := LX.wider (by omega)
  clear hq1 hq2 LX
  go_wp2_with fail
  go_loopw [17, 18, 19, 20] (fun u17 u18 _ _ wr => ∃ k : Nat, k ≤ bl'.length ∧ u17 = .int .i64 ((dsN qf bl' k).length : Nat) ∧ u18 = .int .i64 (k : Int) ∧ QP w 128 (2000 * i + 411 + 5 * k) K2 sh sc 0 RS (XT acts) cn2 (Lo qf bl' su' re' sa') wr) (fun _ u18 _ _ _ => bl'.length - (intOf u18).toNat)
  case atStart => exact ⟨0, Nat.zero_le _, rfl, rfl, HL0.out⟩
  case round =>
    obtain ⟨k, hk, rfl, rfl, LX⟩ := hrel
    clear HL0
    by_cases hkl : k < bl'.length
    · as_aux_lemma =>
      obtain ⟨t, ht⟩ : ∃ t, bl'[k]? = some t := ⟨bl'[k], List.getElem?_eq_getElem hkl⟩
      have htX : XT acts t := HbX'.out t (List.mem_of_getElem? ht)
      have htl := HTL.out t htX
      obtain ⟨gB, oB, hae, hgl, hcB⟩ := HTB.out wr (fun r h => h) LX k t ht
      have HSB : Hid (∀ {m : Nat} V, QP w 128 m K2 sh sc 0 RS (XT acts) cn2 (Lo qf bl' su' re' sa') V → V.cell? ⟨gB, oB + k, none⟩ = some (.string (M.bs t))) := fun {m} V q => by
        obtain ⟨g', o', e', _, h'⟩ := HTB.out V (fun r h => h) q k t ht
        rw [hae] at e'
        cases e'
        exact h'
      have HTK : Hid (∀ {m : Nat} V, QP w 128 m K2 sh sc 0 RS (XT acts) cn2 (Lo qf bl' su' re' sa') V → TS V (some ⟨gB, oB, none⟩) (bl'.take k)) := fun {m} V q j s hs => by
        have hj : bl'[j]? = some s := by
          rw [List.getElem?_take] at hs
          split at hs
          · exact hs
          · cases hs
        obtain ⟨g', o', e', h2, h'⟩ := HTB.out V (fun r h => h) q j s hj
        rw [hae] at e'
        exact ⟨g', o', e', h2, h'⟩
      have htk : (bl'.take k).length = k := by rw [List.length_take]; omega
      have CHB : Hid (∀ {m : Nat} V, QP w 128 m K2 sh sc 0 RS (XT acts) cn2 (Lo qf bl' su' re' sa') V → Calls Tryz.prog 19 #[.slice (some ⟨gB, oB, none⟩) k cB', .string (M.bs t)] V fun e w' => e = .returned (.bool (decide (t ∈ bl'.take k))) ∧ w' = V) := fun {m} V q => by
        have := has_at (some ⟨gB, oB, none⟩) cB' (bl'.take k) t V (HTK.out V q) (by rw [htk]; omega)
        rw [htk] at this
        exact this
      have CHS : Hid (∀ {m : Nat} V, QP w 128 m K2 sh sc 0 RS (XT acts) cn2 (Lo qf bl' su' re' sa') V → Calls Tryz.prog 19 #[.slice aS' su'.length cS', .string (M.bs t)] V fun e w' => e = .returned (.bool (decide (t ∈ su'))) ∧ w' = V) := fun {m} V q => has_at aS' cS' su' t V (HTS.out V (fun r h => h) q) hsl
      have CF : Hid (∀ {m : Nat} V T, QP w 128 m K2 sh sc 0 RS (XT acts) cn2 (Lo qf bl' su' re' sa') V → Calls Tryz.prog 18 #[.slice (some ⟨V.heap.size, 0, none⟩) 1 1] (V.alloc (.cells #[.string (M.bs t)] T)) fun e' w' => e' = .returned (.agg (dg (S.sha t))) ∧ QP w 128 m K2 sh sc 0 RS (XT acts) cn2 (Lo qf bl' su' re' sa') w') := fun V T q => q.of t T (by omega)
      have CBL : Hid (∀ (q : Bool), qf t = q → ∀ V, QP w 128 (2000 * i + 411 + 5 * k) K2 sh sc 0 RS (XT acts) cn2 (Lo qf bl' su' re' sa') V → Calls Tryz.prog 17 #[.pointer (some ⟨K2, 0, none⟩), .agg (dg (S.sha t))] V fun e' w' => e' = .returned (.tuple #[.string (M.bs (if q = true then t else [])), .bool q]) ∧ QP w 128 (2000 * i + 411 + 5 * k + 5) K2 sh sc 0 RS (XT acts) cn2 (Lo qf bl' su' re' sa') w') := fun q hq V p => by
        have := p.blobAsk (by omega) t (fun s hs he => HIN.out s hs t htX he) qf (fun F sl h => h.q)
        rw [hq] at this
        exact this
      have hkl' : (k : Int) < (bl'.length : Int) := by omega
      have hkI : (k : Int) ≤ (bl'.length : Int) := by omega
      have hcap : (bl'.length : Int) ≤ (cB' : Int) := by have := owns_cap (LX.owns (r := rwS (.slice aB' bl'.length cB') bl') (by rw [← HRS.out]; simp [r5])); have h2 : bl'.length ≤ cB' := this.1; omega
      have hkc : k ≤ cB' := by omega
      have hnn := dsN_le (p := qf) (l := bl') k
      obtain ⟨nn, hnn2⟩ : ∃ nn, (dsN qf bl' k).length = nn := ⟨_, rfl⟩
      have HNN : Hid ((dsN qf bl' k).length = nn) := hnn2
      rw [hnn2] at hnn ⊢
      have hn71 : nn ≤ 71 := by omega
      have HTT : Hid (bl'[k]? = some t) := ht
      clear hnn hnn2 ht htX htk hgl
      subst hae
      cases hqt : qf t with
      | true =>
        as_aux_lemma =>
        have CBX : Hid (∀ V, QP w 128 (2000 * i + 411 + 5 * k) K2 sh sc 0 RS (XT acts) cn2 (Lo qf bl' su' re' sa') V → Calls Tryz.prog 17 #[.pointer (some ⟨K2, 0, none⟩), .agg (dg (S.sha t))] V fun e' w' => e' = .returned (.tuple #[.string (M.bs t), .bool true]) ∧ QP w 128 (2000 * i + 411 + 5 * k + 5) K2 sh sc 0 RS (XT acts) cn2 (Lo qf bl' su' re' sa') w') := CBL.out true hqt
        by_cases hm : t ∈ bl'.take k
        · as_aux_lemma =>
          have HDS : Hid ((dsN qf bl' (k + 1)).length = nn) := by
            show _ = _
            rw [dsN_no HTT.out (.inr (decide_eq_true hm))]; exact HNN.out
          have CHX : Hid (∀ {m : Nat} V, QP w 128 m K2 sh sc 0 RS (XT acts) cn2 (Lo qf bl' su' re' sa') V → Calls Tryz.prog 19 #[.slice (some ⟨gB, oB, none⟩) k cB', .string (M.bs t)] V fun e w' => e = .returned (.bool true) ∧ w' = V) := fun V q => (CHB.out V q).mono (fun e w' h => by rw [decide_eq_true hm] at h; exact h)
          clear CHB CHS HTK CBL hqt hm HNN HTT
          go_upto_region 51 with (first
            | go_big_skip
            | (go_at_call 18; refine (CF.out _ _ LX).mono ?_; clear CF LX hcB; rintro e w6 ⟨rfl, LX⟩)
            | (go_at_call 17; refine (CBX.out _ LX).mono ?_; clear CBX LX; rintro e w7 ⟨rfl, LX⟩; have hcB := HSB.out _ LX))
          clear hcB
          have LXD : Hid (QP w 128 (2000 * i + 411 + 5 * k + 5) K2 sh sc 0 RS (XT acts) cn2 (Lo qf bl' su' re' sa') (w7.drewN 1)) := LX.step (below_drewN (Below.refl _ _) 1)
          clear LX
          refine wp_region_noPanic ?_
          refine wp_region_held_drew (S := fun V => V.cell? ⟨gB, oB + k, none⟩ = some (.string (M.bs t))) (by kernel_rfl) ((HSB.out _ LXD.out)) (fun hHeld => ?_)
          refine wpAnyH_take (i := 0) rfl (by kernel_rfl) (by kernel_rfl) (by kernel_rfl) (fun _ _ _ h => h) (yi_move (by kernel_rfl) rfl rfl) (by assumption) ?_
          simp only [Act.put, List.getElem_toArray, List.getElem_cons_succ, List.getElem_cons_zero, List.setIfInBounds_toArray, List.set_cons_zero, List.set_cons_succ]
          refine wpAnyH_take (i := 1) rfl (by kernel_rfl) (by kernel_rfl) (by kernel_rfl) (fun _ _ _ h => h) (yi_move (by kernel_rfl) rfl rfl) (by assumption) ?_
          simp only [Act.put, List.getElem_toArray, List.getElem_cons_succ, List.getElem_cons_zero, List.setIfInBounds_toArray, List.set_cons_zero, List.set_cons_succ]
          refine wpAnyH_take (i := 2) rfl (by kernel_rfl) (by kernel_rfl) (by kernel_rfl) (fun _ _ _ h => h) (yi_move (by kernel_rfl) rfl rfl) (by assumption) ?_
          simp only [Act.put, List.getElem_toArray, List.getElem_cons_succ, List.getElem_cons_zero, List.setIfInBounds_toArray, List.set_cons_zero, List.set_cons_succ]
          refine wpAnyH_take (i := 3) rfl (by kernel_rfl) (by kernel_rfl) (by kernel_rfl) (fun _ _ _ h => h) (yi_move (by kernel_rfl) rfl rfl) (by assumption) ?_
          simp only [Act.put, List.getElem_toArray, List.getElem_cons_succ, List.getElem_cons_zero, List.setIfInBounds_toArray, List.set_cons_zero, List.set_cons_succ]
          refine wpAnyH_take (i := 4) (v := ?_) rfl (by kernel_rfl) (by kernel_rfl) (by kernel_rfl) (fun _ _ _ h => h) (Or.inl ⟨by kernel_rfl, ?_⟩) (by assumption) ?_
          rotate_left
          · (intro w hSw; (try dsimp only at hSw); go_simp; (try with_reducible rfl))
          simp only [Act.put, List.getElem_toArray, List.getElem_cons_succ, List.getElem_cons_zero, List.setIfInBounds_toArray, List.set_cons_zero, List.set_cons_succ]
          refine wpAnyH_take (i := 5) rfl (by kernel_rfl) (by kernel_rfl) (by kernel_rfl) (fun _ _ _ h => h) (yi_move (by kernel_rfl) rfl rfl) (by assumption) ?_
          simp only [Act.put, List.getElem_toArray, List.getElem_cons_succ, List.getElem_cons_zero, List.setIfInBounds_toArray, List.set_cons_zero, List.set_cons_succ]
          refine wpAnyH_take (i := 6) rfl (by kernel_rfl) (by kernel_rfl) (by kernel_rfl) (fun _ _ _ h => h) (yi_move (by kernel_rfl) rfl rfl) (by assumption) ?_
          simp only [Act.put, List.getElem_toArray, List.getElem_cons_succ, List.getElem_cons_zero, List.setIfInBounds_toArray, List.set_cons_zero, List.set_cons_succ]
          refine wpAnyH_take (i := 7) (v := ?_) rfl (by kernel_rfl) (by kernel_rfl) (by kernel_rfl) (fun _ _ _ h => h) (Or.inl ⟨by kernel_rfl, ?_⟩) (by assumption) ?_
          rotate_left
          · (intro w hSw; (try dsimp only at hSw); go_simp; (try with_reducible rfl))
          simp only [Act.put, List.getElem_toArray, List.getElem_cons_succ, List.getElem_cons_zero, List.setIfInBounds_toArray, List.set_cons_zero, List.set_cons_succ]
          refine wpAnyH_take (i := 8) (v := ?_) rfl (by kernel_rfl) (by kernel_rfl) (by kernel_rfl) (fun _ _ _ h => h) (Or.inl ⟨by kernel_rfl, ?_⟩) (by assumption) ?_
          rotate_left
          · (intro w hSw; have z1 := hSw; go_simp; (try with_reducible rfl))
          simp only [Act.put, List.getElem_toArray, List.getElem_cons_succ, List.getElem_cons_zero, List.setIfInBounds_toArray, List.set_cons_zero, List.set_cons_succ]
          refine wpAnyH_ready (rs := [9]) (by kernel_rfl) (by simp) ?_
          refine AllReadyH.cons (o := _) rfl (fun K hK => ?_) AllReadyH.nil
          go_simp
          go_at_call 19; refine (CHX.out _ LXD.out).mono ?_; rintro e V10 ⟨rfl, hVn⟩; rw [hVn]; clear hVn V10; have HB10 := LXD.out
          refine hK.out _ _ ((HSB.out _ HB10)) (fun hHeld => ?_)
          clear hK K
          (try simp only [Act.put, List.getElem_toArray, List.getElem_cons_succ, List.getElem_cons_zero, List.setIfInBounds_toArray, List.set_cons_zero, List.set_cons_succ])
          refine wpAnyH_take (i := 10) (v := ?_) rfl (by kernel_rfl) (by kernel_rfl) (by kernel_rfl) (fun _ _ _ h => h) (Or.inl ⟨by kernel_rfl, ?_⟩) (by assumption) ?_
          rotate_left
          · (intro w hSw; (try dsimp only at hSw); go_simp; (try with_reducible rfl))
          simp only [Act.put, List.getElem_toArray, List.getElem_cons_succ, List.getElem_cons_zero, List.setIfInBounds_toArray, List.set_cons_zero, List.set_cons_succ]
          refine wpAnyH_take (i := 11) (v := ?_) rfl (by kernel_rfl) (by kernel_rfl) (by kernel_rfl) (fun _ _ _ h => h) (Or.inl ⟨by kernel_rfl, ?_⟩) (by assumption) ?_
          rotate_left
          · (intro w hSw; (try dsimp only at hSw); go_simp; (try with_reducible rfl))
          simp only [Act.put, List.getElem_toArray, List.getElem_cons_succ, List.getElem_cons_zero, List.setIfInBounds_toArray, List.set_cons_zero, List.set_cons_succ]
          refine wpAnyH_done (by kernel_rfl) ?_ _
          refine NoPanic.normal ?_
          have LY : Hid (QP w 128 (2000 * i + 411 + 5 * k + 5) K2 sh sc 0 RS (XT acts) cn2 (Lo qf bl' su' re' sa') (w7.drewN 1)) := HB10
          clear hHeld
          go_wp2_with go_big_skip
          go_roundw
          case rel => exact ⟨k + 1, by omega, by (rw [HDS.out]), by go_num, LY.out.wider (by omega)⟩
          case measure => simp [intOf]; omega
        · as_aux_lemma =>
          have HDS : Hid ((dsN qf bl' (k + 1)).length = nn + 1) := by
            show _ = _
            rw [dsN_yes HTT.out hqt (decide_eq_false hm), List.length_append, HNN.out]; rfl
          have CHX : Hid (∀ {m : Nat} V, QP w 128 m K2 sh sc 0 RS (XT acts) cn2 (Lo qf bl' su' re' sa') V → Calls Tryz.prog 19 #[.slice (some ⟨gB, oB, none⟩) k cB', .string (M.bs t)] V fun e w' => e = .returned (.bool false) ∧ w' = V) := fun V q => (CHB.out V q).mono (fun e w' h => by rw [decide_eq_false hm] at h; exact h)
          clear CHB CHS HTK CBL hqt hm HNN HTT
          go_upto_region 51 with (first
            | go_big_skip
            | (go_at_call 18; refine (CF.out _ _ LX).mono ?_; clear CF LX hcB; rintro e w6 ⟨rfl, LX⟩)
            | (go_at_call 17; refine (CBX.out _ LX).mono ?_; clear CBX LX; rintro e w7 ⟨rfl, LX⟩; have hcB := HSB.out _ LX))
          clear hcB
          have LXD : Hid (QP w 128 (2000 * i + 411 + 5 * k + 5) K2 sh sc 0 RS (XT acts) cn2 (Lo qf bl' su' re' sa') (w7.drewN 1)) := LX.step (below_drewN (Below.refl _ _) 1)
          clear LX
          refine wp_region_noPanic ?_
          refine wp_region_held_drew (S := fun V => V.cell? ⟨gB, oB + k, none⟩ = some (.string (M.bs t))) (by kernel_rfl) ((HSB.out _ LXD.out)) (fun hHeld => ?_)
          refine wpAnyH_take (i := 0) rfl (by kernel_rfl) (by kernel_rfl) (by kernel_rfl) (fun _ _ _ h => h) (yi_move (by kernel_rfl) rfl rfl) (by assumption) ?_
          simp only [Act.put, List.getElem_toArray, List.getElem_cons_succ, List.getElem_cons_zero, List.setIfInBounds_toArray, List.set_cons_zero, List.set_cons_succ]
          refine wpAnyH_take (i := 1) rfl (by kernel_rfl) (by kernel_rfl) (by kernel_rfl) (fun _ _ _ h => h) (yi_move (by kernel_rfl) rfl rfl) (by assumption) ?_
          simp only [Act.put, List.getElem_toArray, List.getElem_cons_succ, List.getElem_cons_zero, List.setIfInBounds_toArray, List.set_cons_zero, List.set_cons_succ]
          refine wpAnyH_take (i := 2) rfl (by kernel_rfl) (by kernel_rfl) (by kernel_rfl) (fun _ _ _ h => h) (yi_move (by kernel_rfl) rfl rfl) (by assumption) ?_
          simp only [Act.put, List.getElem_toArray, List.getElem_cons_succ, List.getElem_cons_zero, List.setIfInBounds_toArray, List.set_cons_zero, List.set_cons_succ]
          refine wpAnyH_take (i := 3) rfl (by kernel_rfl) (by kernel_rfl) (by kernel_rfl) (fun _ _ _ h => h) (yi_move (by kernel_rfl) rfl rfl) (by assumption) ?_
          simp only [Act.put, List.getElem_toArray, List.getElem_cons_succ, List.getElem_cons_zero, List.setIfInBounds_toArray, List.set_cons_zero, List.set_cons_succ]
          refine wpAnyH_take (i := 4) (v := ?_) rfl (by kernel_rfl) (by kernel_rfl) (by kernel_rfl) (fun _ _ _ h => h) (Or.inl ⟨by kernel_rfl, ?_⟩) (by assumption) ?_
          rotate_left
          · (intro w hSw; (try dsimp only at hSw); go_simp; (try with_reducible rfl))
          simp only [Act.put, List.getElem_toArray, List.getElem_cons_succ, List.getElem_cons_zero, List.setIfInBounds_toArray, List.set_cons_zero, List.set_cons_succ]
          refine wpAnyH_take (i := 5) rfl (by kernel_rfl) (by kernel_rfl) (by kernel_rfl) (fun _ _ _ h => h) (yi_move (by kernel_rfl) rfl rfl) (by assumption) ?_
          simp only [Act.put, List.getElem_toArray, List.getElem_cons_succ, List.getElem_cons_zero, List.setIfInBounds_toArray, List.set_cons_zero, List.set_cons_succ]
          refine wpAnyH_take (i := 6) rfl (by kernel_rfl) (by kernel_rfl) (by kernel_rfl) (fun _ _ _ h => h) (yi_move (by kernel_rfl) rfl rfl) (by assumption) ?_
          simp only [Act.put, List.getElem_toArray, List.getElem_cons_succ, List.getElem_cons_zero, List.setIfInBounds_toArray, List.set_cons_zero, List.set_cons_succ]
          refine wpAnyH_take (i := 7) (v := ?_) rfl (by kernel_rfl) (by kernel_rfl) (by kernel_rfl) (fun _ _ _ h => h) (Or.inl ⟨by kernel_rfl, ?_⟩) (by assumption) ?_
          rotate_left
          · (intro w hSw; (try dsimp only at hSw); go_simp; (try with_reducible rfl))
          simp only [Act.put, List.getElem_toArray, List.getElem_cons_succ, List.getElem_cons_zero, List.setIfInBounds_toArray, List.set_cons_zero, List.set_cons_succ]
          refine wpAnyH_take (i := 8) (v := ?_) rfl (by kernel_rfl) (by kernel_rfl) (by kernel_rfl) (fun _ _ _ h => h) (Or.inl ⟨by kernel_rfl, ?_⟩) (by assumption) ?_
          rotate_left
          · (intro w hSw; have z1 := hSw; go_simp; (try with_reducible rfl))
          simp only [Act.put, List.getElem_toArray, List.getElem_cons_succ, List.getElem_cons_zero, List.setIfInBounds_toArray, List.set_cons_zero, List.set_cons_succ]
          refine wpAnyH_ready (rs := [9]) (by kernel_rfl) (by simp) ?_
          refine AllReadyH.cons (o := _) rfl (fun K hK => ?_) AllReadyH.nil
          go_simp
          go_at_call 19; refine (CHX.out _ LXD.out).mono ?_; rintro e V10 ⟨rfl, hVn⟩; rw [hVn]; clear hVn V10; have HB10 := LXD.out
          refine hK.out _ _ ((HSB.out _ HB10)) (fun hHeld => ?_)
          clear hK K
          (try simp only [Act.put, List.getElem_toArray, List.getElem_cons_succ, List.getElem_cons_zero, List.setIfInBounds_toArray, List.set_cons_zero, List.set_cons_succ])
          refine wpAnyH_take (i := 10) (v := ?_) rfl (by kernel_rfl) (by kernel_rfl) (by kernel_rfl) (fun _ _ _ h => h) (Or.inl ⟨by kernel_rfl, ?_⟩) (by assumption) ?_
          rotate_left
          · (intro w hSw; (try dsimp only at hSw); go_simp; (try with_reducible rfl))
          simp only [Act.put, List.getElem_toArray, List.getElem_cons_succ, List.getElem_cons_zero, List.setIfInBounds_toArray, List.set_cons_zero, List.set_cons_succ]
          refine wpAnyH_take (i := 11) (v := ?_) rfl (by kernel_rfl) (by kernel_rfl) (by kernel_rfl) (fun _ _ _ h => h) (Or.inl ⟨by kernel_rfl, ?_⟩) (by assumption) ?_
          rotate_left
          · (intro w hSw; (try dsimp only at hSw); go_simp; (try with_reducible rfl))
          simp only [Act.put, List.getElem_toArray, List.getElem_cons_succ, List.getElem_cons_zero, List.setIfInBounds_toArray, List.set_cons_zero, List.set_cons_succ]
          refine wpAnyH_done (by kernel_rfl) ?_ _
          refine NoPanic.normal ?_
          have LY : Hid (QP w 128 (2000 * i + 411 + 5 * k + 5) K2 sh sc 0 RS (XT acts) cn2 (Lo qf bl' su' re' sa') (w7.drewN 1)) := HB10
          clear hHeld
          go_wp2_with go_big_skip
          go_roundw
          case rel => exact ⟨k + 1, by omega, by (rw [HDS.out]; go_num), by go_num, LY.out.wider (by omega)⟩
          case measure => simp [intOf]; omega
      | false =>
        as_aux_lemma =>
        have CBX : Hid (∀ V, QP w 128 (2000 * i + 411 + 5 * k) K2 sh sc 0 RS (XT acts) cn2 (Lo qf bl' su' re' sa') V → Calls Tryz.prog 17 #[.pointer (some ⟨K2, 0, none⟩), .agg (dg (S.sha t))] V fun e' w' => e' = .returned (.tuple #[.string (M.bs []), .bool false]) ∧ QP w 128 (2000 * i + 411 + 5 * k + 5) K2 sh sc 0 RS (XT acts) cn2 (Lo qf bl' su' re' sa') w') := CBL.out false hqt
        have hms : t ∉ su' := fun hm => by
          have := HQ1.out t hm
          rw [hqt] at this; cases this
        have HDS : Hid ((dsN qf bl' (k + 1)).length = nn) := by
          show _ = _
          rw [dsN_no HTT.out (.inl hqt)]; exact HNN.out
        have CHX : Hid (∀ {m : Nat} V, QP w 128 m K2 sh sc 0 RS (XT acts) cn2 (Lo qf bl' su' re' sa') V → Calls Tryz.prog 19 #[.slice aS' su'.length cS', .string (M.bs t)] V fun e w' => e = .returned (.bool false) ∧ w' = V) := fun V q => (CHS.out V q).mono (fun e w' h => by rw [decide_eq_false hms] at h; exact h)
        clear CHB CHS HTK CBL hqt hms HNN HTT
        go_upto_region 51 with (first
          | go_big_skip
          | (go_at_call 18; refine (CF.out _ _ LX).mono ?_; clear CF LX hcB; rintro e w6 ⟨rfl, LX⟩)
          | (go_at_call 17; refine (CBX.out _ LX).mono ?_; clear CBX LX; rintro e w7 ⟨rfl, LX⟩; have hcB := HSB.out _ LX)
          | (go_at_call 19; refine (CHX.out _ LX).mono ?_; rintro e w8 ⟨rfl, hw⟩; rw [hw]; clear hw w8 CHX))
        clear hcB
        have LXD : Hid (QP w 128 (2000 * i + 411 + 5 * k + 5) K2 sh sc 0 RS (XT acts) cn2 (Lo qf bl' su' re' sa') (w7.drewN 1)) := LX.step (below_drewN (Below.refl _ _) 1)
        clear LX
        refine wp_region_noPanic ?_
        refine wp_region_held_drew (S := fun _ => True) (by kernel_rfl) (trivial) (fun hHeld => ?_)
        refine wpAnyH_take (i := 0) rfl (by kernel_rfl) (by kernel_rfl) (by kernel_rfl) (fun _ _ _ h => h) (yi_move (by kernel_rfl) rfl rfl) (by assumption) ?_
        simp only [Act.put, List.getElem_toArray, List.getElem_cons_succ, List.getElem_cons_zero, List.setIfInBounds_toArray, List.set_cons_zero, List.set_cons_succ]
        refine wpAnyH_take (i := 1) rfl (by kernel_rfl) (by kernel_rfl) (by kernel_rfl) (fun _ _ _ h => h) (yi_move (by kernel_rfl) rfl rfl) (by assumption) ?_
        simp only [Act.put, List.getElem_toArray, List.getElem_cons_succ, List.getElem_cons_zero, List.setIfInBounds_toArray, List.set_cons_zero, List.set_cons_succ]
        refine wpAnyH_take (i := 2) (v := undef) rfl (by kernel_rfl) (by kernel_rfl) (by kernel_rfl) (fun _ _ _ h => h) (Or.inr ⟨by kernel_rfl, rfl⟩) (by assumption) ?_
        simp only [Act.put, List.getElem_toArray, List.getElem_cons_succ, List.getElem_cons_zero, List.setIfInBounds_toArray, List.set_cons_zero, List.set_cons_succ]
        refine wpAnyH_take (i := 3) (v := undef) rfl (by kernel_rfl) (by kernel_rfl) (by kernel_rfl) (fun _ _ _ h => h) (Or.inr ⟨by kernel_rfl, rfl⟩) (by assumption) ?_
        simp only [Act.put, List.getElem_toArray, List.getElem_cons_succ, List.getElem_cons_zero, List.setIfInBounds_toArray, List.set_cons_zero, List.set_cons_succ]
        refine wpAnyH_take (i := 4) (v := undef) rfl (by kernel_rfl) (by kernel_rfl) (by kernel_rfl) (fun _ _ _ h => h) (Or.inr ⟨by kernel_rfl, rfl⟩) (by assumption) ?_
        simp only [Act.put, List.getElem_toArray, List.getElem_cons_succ, List.getElem_cons_zero, List.setIfInBounds_toArray, List.set_cons_zero, List.set_cons_succ]
        refine wpAnyH_take (i := 5) (v := undef) rfl (by kernel_rfl) (by kernel_rfl) (by kernel_rfl) (fun _ _ _ h => h) (Or.inr ⟨by kernel_rfl, rfl⟩) (by assumption) ?_
        simp only [Act.put, List.getElem_toArray, List.getElem_cons_succ, List.getElem_cons_zero, List.setIfInBounds_toArray, List.set_cons_zero, List.set_cons_succ]
        refine wpAnyH_take (i := 6) (v := undef) rfl (by kernel_rfl) (by kernel_rfl) (by kernel_rfl) (fun _ _ _ h => h) (Or.inr ⟨by kernel_rfl, rfl⟩) (by assumption) ?_
        simp only [Act.put, List.getElem_toArray, List.getElem_cons_succ, List.getElem_cons_zero, List.setIfInBounds_toArray, List.set_cons_zero, List.set_cons_succ]
        refine wpAnyH_take (i := 7) (v := undef) rfl (by kernel_rfl) (by kernel_rfl) (by kernel_rfl) (fun _ _ _ h => h) (Or.inr ⟨by kernel_rfl, rfl⟩) (by assumption) ?_
        simp only [Act.put, List.getElem_toArray, List.getElem_cons_succ, List.getElem_cons_zero, List.setIfInBounds_toArray, List.set_cons_zero, List.set_cons_succ]
        refine wpAnyH_take (i := 8) (v := undef) rfl (by kernel_rfl) (by kernel_rfl) (by kernel_rfl) (fun _ _ _ h => h) (Or.inr ⟨by kernel_rfl, rfl⟩) (by assumption) ?_
        simp only [Act.put, List.getElem_toArray, List.getElem_cons_succ, List.getElem_cons_zero, List.setIfInBounds_toArray, List.set_cons_zero, List.set_cons_succ]
        refine wpAnyH_take (i := 9) (v := undef) rfl (by kernel_rfl) (by kernel_rfl) (by kernel_rfl) (fun _ _ _ h => h) (Or.inr ⟨by kernel_rfl, rfl⟩) (by assumption) ?_
        simp only [Act.put, List.getElem_toArray, List.getElem_cons_succ, List.getElem_cons_zero, List.setIfInBounds_toArray, List.set_cons_zero, List.set_cons_succ]
        refine wpAnyH_take (i := 10) (v := undef) rfl (by kernel_rfl) (by kernel_rfl) (by kernel_rfl) (fun _ _ _ h => h) (Or.inr ⟨by kernel_rfl, rfl⟩) (by assumption) ?_
        simp only [Act.put, List.getElem_toArray, List.getElem_cons_succ, List.getElem_cons_zero, List.setIfInBounds_toArray, List.set_cons_zero, List.set_cons_succ]
        refine wpAnyH_take (i := 11) (v := ?_) rfl (by kernel_rfl) (by kernel_rfl) (by kernel_rfl) (fun _ _ _ h => h) (Or.inl ⟨by kernel_rfl, ?_⟩) (by assumption) ?_
        rotate_left
        · (intro w hSw; (try dsimp only at hSw); go_simp; (try with_reducible rfl))
        simp only [Act.put, List.getElem_toArray, List.getElem_cons_succ, List.getElem_cons_zero, List.setIfInBounds_toArray, List.set_cons_zero, List.set_cons_succ]
        refine wpAnyH_done (by kernel_rfl) ?_ _
        refine NoPanic.normal ?_
        have LY : Hid (QP w 128 (2000 * i + 411 + 5 * k + 5) K2 sh sc 0 RS (XT acts) cn2 (Lo qf bl' su' re' sa') (w7.drewN 1)) := LXD.out
        clear hHeld
        go_wp2_with go_big_skip
        go_roundw
        case rel => exact ⟨k + 1, by omega, by (rw [HDS.out]), by go_num, LY.out.wider (by omega)⟩
        case measure => simp [intOf]; omega
    · as_aux_lemma =>
      obtain rfl : k = bl'.length := by omega
      have hkl0 : ¬ (bl'.length : Int) < (bl'.length : Int) := by omega
      obtain ⟨nn, hnn2⟩ : ∃ nn, (dsN qf bl' bl'.length).length = nn := ⟨_, rfl⟩
      have hn71 : nn ≤ 71 := by have := dsN_le (p := qf) (l := bl') bl'.length; omega
      have HNN : Hid ((dsN qf bl' bl'.length).length = nn) := hnn2
      have CKY : Hid (∀ V, QP w 128 (2000 * i + 411 + 5 * bl'.length) K2 sh sc 0 RS (XT acts) cn2 (Lo qf bl' su' re' sa') V → Calls Tryz.prog 20 #[.pointer (some ⟨K2, 0, none⟩)] V fun e' w' => ∃ (ad : Option Addr) (c : Nat) (D : List (List UInt8)) (kr : List Rw), e' = .returned (.slice ad D.length c) ∧ (∀ W', (∀ r ∈ kr, W'.ownsRow w.heap.size r.e r.k r.v r.n r.xs) → KQ W' ad D) ∧ D.Nodup ∧ (∀ d ∈ D, d.length = 32) ∧ cn2 = (dsN qf bl' bl'.length).length + D.length ∧ D.length ≤ 128 ∧ QP w 128 (2000 * i + 411 + 5 * bl'.length) K2 sh sc 0 (kr ++ RS) (XT acts) cn2 (Lk qf bl' su' re' sa' D []) w') := fun V q => q.keys (fun x' hx y hy e => HIN.out x' (HbX'.out x' hx) y (HbX'.out y hy) e)
      rw [hnn2]
      clear hnn2 hk
      go_upto_block 5 with (first
        | go_big_skip
        | (go_at_call 20; refine (CKY.out _ LX).mono ?_; clear CKY LX; rintro e w6 ⟨ad, ck, D, kr, rfl, hKQ, hnd, h32, hcn, hD8, LX⟩; have HKQ : Hid (∀ W', (∀ r ∈ kr, W'.ownsRow w.heap.size r.e r.k r.v r.n r.xs) → KQ W' ad D) := hKQ; have HND : Hid D.Nodup := hnd; have H32 : Hid (∀ d ∈ D, d.length = 32) := h32; have HCN : Hid (cn2 = nn + D.length) := hcn.trans (by rw [HNN.out]); clear hKQ hnd h32 hcn))
      have HL5 : Hid (QP w 128 (2000 * i + 811 + 5 * 0) K2 sh sc 0 (rwR (.slice (some ⟨w6.heap.size, 0, none⟩) 0 0) [] :: (kr ++ RS)) (XT acts) cn2 (Lk qf bl' su' re' sa' D []) (w6.alloc (.cells #[] 41))) := LX.rowR.wider (by omega)
      clear LX HNN
      generalize w6.heap.size = z7 at *
      go_wp2_with fail
      go_loopw [22, 23, 24, 25] (fun u22 u23 _ _ wr => ∃ (k : Nat) (le : List V.Rc), k ≤ D.length ∧ u23 = .int .i64 (k : Int) ∧ le.map (·.key) = D.take k ∧ (∀ r ∈ le, Rc32 r) ∧ (∀ r ∈ le, r ∈ re') ∧ QP w 128 (2000 * i + 811 + 5 * k) K2 sh sc 0 (rwR u22 le :: (kr ++ RS)) (XT acts) cn2 (Lk qf bl' su' re' sa' D le) wr) (fun _ u23 _ _ _ => D.length - (intOf u23).toNat)
      case atStart => exact ⟨0, [], Nat.zero_le _, rfl, rfl, fun r hr => absurd hr (by simp), fun r hr => absurd hr (by simp), HL5.out⟩
      case round =>
        obtain ⟨k, le, hk, rfl, hmap, hle32, hler, LX⟩ := hrel
        clear HL5
        have HMP : Hid (le.map (·.key) = D.take k) := hmap
        have HL32 : Hid (∀ r ∈ le, Rc32 r) := hle32
        have HLR : Hid (∀ r ∈ le, r ∈ re') := hler
        have hlel : le.length = k := by
          have := congrArg List.length hmap
          rw [List.length_map, List.length_take] at this
          omega
        clear hmap hle32 hler
        by_cases hkl : k < D.length
        · as_aux_lemma =>
          obtain ⟨d, hd⟩ : ∃ d, D[k]? = some d := ⟨D[k], List.getElem?_eq_getElem hkl⟩
          have hdm := List.mem_of_getElem? hd
          have hd32 := H32.out d hdm
          obtain ⟨gk, hae, hgl, hrk⟩ := HKQ.out wr (fun r hr => LX.owns (List.mem_cons_of_mem _ (List.mem_append_left _ hr))) k d hd
          have HRK : Hid (wr.rangeAt gk (k * 32) (d.map vb)) := hrk
          have hkl' : (k : Int) < (D.length : Int) := by omega
          have HDD : Hid (D[k]? = some d) := hd
          obtain ⟨fs35b, hum35b⟩ := und35
          have CRK : Hid (∀ U, QP w 128 (2000 * i + 811 + 5 * k) K2 sh sc 0 (rwR u22 le :: (kr ++ RS)) (XT acts) cn2 (Lk qf bl' su' re' sa' D le) U → Calls Tryz.prog 12 #[.pointer (some ⟨K2, 0, none⟩), .agg (d.map vb).toArray] U fun e' w' => ∃ r : V.Rc, e' = .returned (.tuple #[.agg (rv r), .bool true]) ∧ Rc32 r ∧ r.key = d ∧ r ∈ re' ∧ QP w 128 (2000 * i + 811 + 5 * k + 5) K2 sh sc 0 (rwR u22 le :: (kr ++ RS)) (XT acts) cn2 (Lk qf bl' su' re' sa' D (le ++ [r])) w') := fun U q => q.recKey (by omega) d hd32 hdm
          have HS5 : Hid (∀ W : World, (W.alloc (.cells (rv V.zr) 41)).heap[W.heap.size]? = some (.cells (rv V.zr) 41 (0, 0))) := hst35
          have hrz2 : (rv V.zr).size = 65 := rv_size zr32
          have hiD : (Tryz.prog.info? 39).map (·.size) = some (d.map vb).length := by rw [List.length_map, hd32]; exact info27
          clear hrk hd hdm hgl
          subst hae
          go_upto_region 59 with (first
            | go_big_skip
            | (refine wl_mid (by kernel_rfl) 39 _ rfl gk (k * 32) rfl (d.map vb) _ HRK.out und27 rfl hiD ?_; clear HRK)
            | (go_at_call 12; refine (CRK.out _ LX).mono ?_; clear CRK LX; rintro e w7 ⟨r, rfl, hr32, hrk, hrm, LX⟩; have hrs2 := rv_size hr32; have hro2 := rv_one r)
            | (refine wpList_store_row rfl 41 _ _ rfl w7.heap.size (rv r) rfl rfl 41 (rv V.zr) (HS5.out w7) (by rw [hrs2]; exact info35) (by rw [hrz2, hrs2]) hro2 ?_; clear HS5 hro2; rw [World.setRow_alloc_new]; replace LX := LX.box (rv r) 41 65 hrs2; generalize w7.alloc (.cells (rv r) 41) = w8 at LX ⊢; generalize w7.heap.size = Q3 at LX ⊢))
          have hrl65 := rvL_length hr32
          have hiR2 : (Tryz.prog.info? 41).map (·.size) = some (rvL r).length := by rw [hrl65]; exact info35
          have HG4 : Hid (∀ {m : Nat} U, QP w 128 m K2 sh sc 0 (rwK 41 65 Q3 1 (rv r) :: rwR u22 le :: (kr ++ RS)) (XT acts) cn2 (Lk qf bl' su' re' sa' D (le ++ [r])) U → U.rangeAt gk (k * 32) (d.map vb) ∧ U.rangeAt Q3 0 (rvL r)) := fun {m} U q => by
            refine ⟨?_, fun j v hv => ?_⟩
            · obtain ⟨g', e', _, h'⟩ := HKQ.out U (fun r hr => q.owns (List.mem_cons_of_mem _ (List.mem_cons_of_mem _ (List.mem_append_left _ hr)))) k d HDD.out
              cases e'
              exact h'
            · rw [Lib.cell_of_heap (q.boxAt (List.mem_cons_self ..) (by rw [hrs2]))]
              show (rv r)[0 + j]? = some v
              rw [Nat.zero_add]
              simpa [rv] using hv
          have HR0 : Hid (∀ U : World, U.rangeAt Q3 0 (rvL r) → U.rangeAt Q3 0 (d.map vb)) := fun U h j v hv => by
            refine h j v ?_
            have hj := (List.getElem?_eq_some_iff.1 hv).1
            show (r.key.map vb ++ _)[j]? = some v
            rw [hrk, List.getElem?_append_left hj]
            exact hv
          have CKN : Hid (∀ {m : Nat} U, QP w 128 m K2 sh sc 0 (rwK 41 65 Q3 1 (rv r) :: rwR u22 le :: (kr ++ RS)) (XT acts) cn2 (Lk qf bl' su' re' sa' D (le ++ [r])) U → Calls Tryz.prog 21 #[.slice aR' re'.length cR', .agg (rvL r).toArray] U fun e w' => e = .returned (.bool true) ∧ QP w 128 m K2 sh sc 0 (rwK 41 65 Q3 1 (rv r) :: rwR u22 le :: (kr ++ RS)) (XT acts) cn2 (Lk qf bl' su' re' sa' D (le ++ [r])) w') := fun {m} U q => by
            have h1 := known_at aR' cR' re' r hr32 U (HTR.out U (fun r hr => List.mem_cons_of_mem _ (List.mem_cons_of_mem _ (List.mem_append_right _ hr))) q) (by omega)
            rw [knB_iff.2 hrm] at h1
            exact h1.mono (fun e w' h => ⟨h.1, q.step h.2⟩)
          have hEQ : ∀ W', (Op.equalIn 10000 39 (.agg (d.map vb).toArray) (.agg (d.map vb).toArray)).run Tryz.prog W' = .ok true W' := fun W' => by
            have := eqDg d d hd32 hd32 W'
            rw [decide_eq_true rfl] at this
            exact this
          have LXD : Hid (QP w 128 (2000 * i + 811 + 5 * k + 5) K2 sh sc 0 (rwK 41 65 Q3 1 (rv r) :: rwR u22 le :: (kr ++ RS)) (XT acts) cn2 (Lk qf bl' su' re' sa' D (le ++ [r])) (w8.drewN 1)) := LX.step (below_drewN (Below.refl _ _) 1)
          have HMP2 : Hid ((le ++ [r]).map (·.key) = D.take (k + 1)) := by
            show _ = _
            rw [List.map_append, HMP.out, List.take_add_one, HDD.out, ← hrk]; rfl
          have HL322 : Hid (∀ y ∈ le ++ [r], Rc32 y) := fun y hy => by
            rcases List.mem_append.1 hy with hy | hy
            · exact HL32.out y hy
            · have e : y = r := by simpa using hy
              rw [e]; exact hr32
          have HLR2 : Hid (∀ y ∈ le ++ [r], y ∈ re') := fun y hy => by
            rcases List.mem_append.1 hy with hy | hy
            · exact HLR.out y hy
            · have e : y = r := by simpa using hy
              rw [e]; exact hrm
          clear LX hrk hrm HMP HL32 HLR
          refine wp_region_noPanic ?_
          refine wp_region_held_drew (S := fun V => V.rangeAt gk (k * 32) (d.map vb) ∧ V.rangeAt Q3 0 (rvL r)) (by kernel_rfl) ((HG4.out _ LXD.out)) (fun hHeld => ?_)
          refine wpAnyH_take (i := 0) rfl (by kernel_rfl) (by kernel_rfl) (by kernel_rfl) (fun _ _ _ h => h) (yi_move (by kernel_rfl) rfl rfl) (by assumption) ?_
          simp only [Act.put, List.getElem_toArray, List.getElem_cons_succ, List.getElem_cons_zero, List.setIfInBounds_toArray, List.set_cons_zero, List.set_cons_succ]
          refine wpAnyH_take (i := 1) (v := ?_) rfl (by kernel_rfl) (by kernel_rfl) (by kernel_rfl) (fun _ _ _ h => h) (Or.inl ⟨by kernel_rfl, ?_⟩) (by assumption) ?_
          rotate_left
          · (intro w hSw; (try dsimp only at hSw); go_simp; (try with_reducible rfl))
          simp only [Act.put, List.getElem_toArray, List.getElem_cons_succ, List.getElem_cons_zero, List.setIfInBounds_toArray, List.set_cons_zero, List.set_cons_succ]
          refine wpAnyH_take (i := 2) rfl (by kernel_rfl) (by kernel_rfl) (by kernel_rfl) (fun _ _ _ h => h) (yi_move (by kernel_rfl) rfl rfl) (by assumption) ?_
          simp only [Act.put, List.getElem_toArray, List.getElem_cons_succ, List.getElem_cons_zero, List.setIfInBounds_toArray, List.set_cons_zero, List.set_cons_succ]
          refine wpAnyH_take (i := 3) rfl (by kernel_rfl) (by kernel_rfl) (by kernel_rfl) (fun _ _ _ h => h) (yi_move (by kernel_rfl) rfl rfl) (by assumption) ?_
          simp only [Act.put, List.getElem_toArray, List.getElem_cons_succ, List.getElem_cons_zero, List.setIfInBounds_toArray, List.set_cons_zero, List.set_cons_succ]
          refine wpAnyH_take (i := 4) (v := .agg (List.toArray (rvL r))) rfl (by kernel_rfl) (by kernel_rfl) (by kernel_rfl) (fun _ _ _ h => h) (yieldsIf_load_mid (by kernel_rfl) _ (.tmp 24) (by kernel_rfl) Q3 0 (by kernel_rfl) (rvL r) _ (fun W hW => hW.2) hum35b rfl hiR2) (by assumption) ?_
          simp only [Act.put, List.getElem_toArray, List.getElem_cons_succ, List.getElem_cons_zero, List.setIfInBounds_toArray, List.set_cons_zero, List.set_cons_succ]
          refine wpAnyH_ready (rs := [5]) (by kernel_rfl) (by simp) ?_
          refine AllReadyH.cons (o := _) rfl (fun K hK => ?_) AllReadyH.nil
          go_simp
          go_at_call 21; refine (CKN.out _ LXD.out).mono ?_; rintro e V6 ⟨rfl, HB6⟩
          refine hK.out _ _ ((HG4.out _ HB6)) (fun hHeld => ?_)
          clear hK K
          (try simp only [Act.put, List.getElem_toArray, List.getElem_cons_succ, List.getElem_cons_zero, List.setIfInBounds_toArray, List.set_cons_zero, List.set_cons_succ])
          refine wpAnyH_take (i := 6) (v := ?_) rfl (by kernel_rfl) (by kernel_rfl) (by kernel_rfl) (fun _ _ _ h => h) (Or.inl ⟨by kernel_rfl, ?_⟩) (by assumption) ?_
          rotate_left
          · (intro w hSw; (try dsimp only at hSw); go_simp; (try with_reducible rfl))
          simp only [Act.put, List.getElem_toArray, List.getElem_cons_succ, List.getElem_cons_zero, List.setIfInBounds_toArray, List.set_cons_zero, List.set_cons_succ]
          refine wpAnyH_take (i := 7) (v := ?_) rfl (by kernel_rfl) (by kernel_rfl) (by kernel_rfl) (fun _ _ _ h => h) (Or.inl ⟨by kernel_rfl, ?_⟩) (by assumption) ?_
          rotate_left
          · (intro w hSw; (try dsimp only at hSw); go_simp; (try with_reducible rfl))
          simp only [Act.put, List.getElem_toArray, List.getElem_cons_succ, List.getElem_cons_zero, List.setIfInBounds_toArray, List.set_cons_zero, List.set_cons_succ]
          refine wpAnyH_take (i := 8) rfl (by kernel_rfl) (by kernel_rfl) (by kernel_rfl) (fun _ _ _ h => h) (yi_move (by kernel_rfl) rfl rfl) (by assumption) ?_
          simp only [Act.put, List.getElem_toArray, List.getElem_cons_succ, List.getElem_cons_zero, List.setIfInBounds_toArray, List.set_cons_zero, List.set_cons_succ]
          refine wpAnyH_take (i := 9) (v := ?_) rfl (by kernel_rfl) (by kernel_rfl) (by kernel_rfl) (fun _ _ _ h => h) (Or.inl ⟨by kernel_rfl, ?_⟩) (by assumption) ?_
          rotate_left
          · (intro w hSw; (try dsimp only at hSw); go_simp; (try with_reducible rfl))
          simp only [Act.put, List.getElem_toArray, List.getElem_cons_succ, List.getElem_cons_zero, List.setIfInBounds_toArray, List.set_cons_zero, List.set_cons_succ]
          refine wpAnyH_take (i := 10) (v := .agg (List.toArray (d.map vb))) rfl (by kernel_rfl) (by kernel_rfl) (by kernel_rfl) (fun _ _ _ h => h) (yieldsIf_load_mid (by kernel_rfl) _ (.tmp 233) (by kernel_rfl) Q3 0 (by kernel_rfl) (d.map vb) _ (fun W hW => (HR0.out _ hW.2)) und27 rfl hiD) (by assumption) ?_
          simp only [Act.put, List.getElem_toArray, List.getElem_cons_succ, List.getElem_cons_zero, List.setIfInBounds_toArray, List.set_cons_zero, List.set_cons_succ]
          refine wpAnyH_take (i := 11) rfl (by kernel_rfl) (by kernel_rfl) (by kernel_rfl) (fun _ _ _ h => h) (yi_move (by kernel_rfl) rfl rfl) (by assumption) ?_
          simp only [Act.put, List.getElem_toArray, List.getElem_cons_succ, List.getElem_cons_zero, List.setIfInBounds_toArray, List.set_cons_zero, List.set_cons_succ]
          refine wpAnyH_take (i := 12) rfl (by kernel_rfl) (by kernel_rfl) (by kernel_rfl) (fun _ _ _ h => h) (yi_move (by kernel_rfl) rfl rfl) (by assumption) ?_
          simp only [Act.put, List.getElem_toArray, List.getElem_cons_succ, List.getElem_cons_zero, List.setIfInBounds_toArray, List.set_cons_zero, List.set_cons_succ]
          refine wpAnyH_take (i := 13) (v := ?_) rfl (by kernel_rfl) (by kernel_rfl) (by kernel_rfl) (fun _ _ _ h => h) (Or.inl ⟨by kernel_rfl, ?_⟩) (by assumption) ?_
          rotate_left
          · (intro w hSw; (try dsimp only at hSw); go_simp; (try with_reducible rfl))
          simp only [Act.put, List.getElem_toArray, List.getElem_cons_succ, List.getElem_cons_zero, List.setIfInBounds_toArray, List.set_cons_zero, List.set_cons_succ]
          refine wpAnyH_take (i := 14) (v := .agg (List.toArray (d.map vb))) rfl (by kernel_rfl) (by kernel_rfl) (by kernel_rfl) (fun _ _ _ h => h) (yieldsIf_load_mid (by kernel_rfl) _ (.tmp 237) (by kernel_rfl) gk (k * 32) (by kernel_rfl) (d.map vb) _ (fun W hW => hW.1) und27 rfl hiD) (by assumption) ?_
          simp only [Act.put, List.getElem_toArray, List.getElem_cons_succ, List.getElem_cons_zero, List.setIfInBounds_toArray, List.set_cons_zero, List.set_cons_succ]
          refine wpAnyH_take (i := 15) (v := ?_) rfl (by kernel_rfl) (by kernel_rfl) (by kernel_rfl) (fun _ _ _ h => h) (Or.inl ⟨by kernel_rfl, ?_⟩) (by assumption) ?_
          rotate_left
          · (intro w hSw; have z1 := hEQ w; go_simp; (try with_reducible rfl))
          simp only [Act.put, List.getElem_toArray, List.getElem_cons_succ, List.getElem_cons_zero, List.setIfInBounds_toArray, List.set_cons_zero, List.set_cons_succ]
          refine wpAnyH_take (i := 16) (v := ?_) rfl (by kernel_rfl) (by kernel_rfl) (by kernel_rfl) (fun _ _ _ h => h) (Or.inl ⟨by kernel_rfl, ?_⟩) (by assumption) ?_
          rotate_left
          · (intro w hSw; (try dsimp only at hSw); go_simp; (try with_reducible rfl))
          simp only [Act.put, List.getElem_toArray, List.getElem_cons_succ, List.getElem_cons_zero, List.setIfInBounds_toArray, List.set_cons_zero, List.set_cons_succ]
          refine wpAnyH_done (by kernel_rfl) ?_ _
          refine NoPanic.normal ?_
          have LX9 := HB6
          clear hHeld
          have LQ : Hid (QP w 128 (2000 * i + 811 + 5 * k + 5) K2 sh sc 0 (rwR u22 le :: (kr ++ RS)) (XT acts) cn2 (Lk qf bl' su' re' sa' D (le ++ [r])) _) := LX9.sub (List.sublist_cons_self _ _)
          have HRB := (HG4.out _ LX9).2
          clear LX9 HG4 CKN HR0 hEQ
          go_wp2_with (first
            | go_big_skip
            | (refine wl_mid (by kernel_rfl) 41 _ rfl Q3 0 rfl (rvL r) _ HRB hum35b rfl hiR2 ?_; clear HRB)
            | (refine wl_bs65 rfl _ rfl r hr32 rfl ?_)
            | (at_builtin; refine wl_appR rfl _ _ rfl w.heap.size le _ rfl ((LQ.out.alloc (.cells (rvL r).toArray 41)).owns (r := rwR u22 le) (List.mem_cons_self ..)) (some ⟨_, 0, none⟩) [r] 1 rfl (rl_one6 _ _ hr32 _) (by have := LQ.out.o.size; simp; omega) (by simp; omega) ?_; intro v9 w9 hown9 hg9 hv9; have LZ : Hid (QP w 128 (2000 * i + 811 + 5 * k + 5) K2 sh sc 0 (rwR v9 (le ++ [r]) :: (kr ++ RS)) (XT acts) cn2 (Lk qf bl' su' re' sa' D (le ++ [r])) w9) := (LQ.out.alloc (.cells (rvL r).toArray 41)).app (r := rwR u22 le) HGW.out hg9 hown9 hv9; clear hown9 hg9 hv9 LQ))
          go_roundw
          case rel => exact ⟨k + 1, le ++ [r], by omega, by go_num, HMP2.out, HL322.out, HLR2.out, LZ.out.wider (by omega)⟩
          case measure => simp [intOf]; omega
        · as_aux_lemma =>
          obtain rfl : k = D.length := by omega
          have hmapD : le.map (·.key) = D := by have := HMP.out; rwa [List.take_length] at this
          obtain ⟨hsaf, _⟩ := QP.settled LX hmapD
          have HSAF : Hid (∀ y ∈ sa', y ∈ le) := hsaf
          have hlre : le.length ≤ re'.length := by
            have h1 := len_le D (re'.map (·.key)) HND.out (fun d hd => by
              rw [← hmapD] at hd
              obtain ⟨y, hy, he⟩ := List.mem_map.1 hd
              exact List.mem_map.2 ⟨y, HLR.out y hy, he⟩)
            rw [List.length_map] at h1
            omega
          have HMD : Hid (le.map (·.key) = D) := hmapD
          obtain ⟨aL, cL, rfl, _, _⟩ := owns_rl HL32.out (LX.owns (r := rwR u22 le) (List.mem_cons_self ..))
          have HL7 : Hid (QP w 128 (2000 * i + 1451) K2 sh sc 0 (rwR (.slice aL le.length cL) le :: (kr ++ RS)) (XT acts) cn2 (Lk qf bl' su' re' sa' D le) wr) := LX.wider (by omega)
          have CKL : Hid (∀ (y : V.Rc) U, y ∈ sa' → Rc32 y → QP w 128 (2000 * i + 1451) K2 sh sc 0 (rwR (.slice aL le.length cL) le :: (kr ++ RS)) (XT acts) cn2 (Lk qf bl' su' re' sa' D le) U → Calls Tryz.prog 21 #[.slice aL le.length cL, .agg (rvL y).toArray] U fun e w' => e = .returned (.bool true) ∧ QP w 128 (2000 * i + 1451) K2 sh sc 0 (rwR (.slice aL le.length cL) le :: (kr ++ RS)) (XT acts) cn2 (Lk qf bl' su' re' sa' D le) w') := fun y U hy hy32 q => by
            have h1 := known_at aL cL le y hy32 U (rl_of HL32.out (q.owns (r := rwR (.slice aL le.length cL) le) (List.mem_cons_self ..))) (by omega)
            rw [knB_iff.2 (HSAF.out y hy)] at h1
            exact h1.mono (fun e w' h => ⟨h.1, q.step h.2⟩)
          have HLE : Hid (le.length = D.length) := hlel
          clear LX hsaf hmapD HMP hk hkl hlel
          go_wp2_with fail
          go_loopw [26] (fun u26 wr => ∃ k : Nat, k ≤ sa'.length ∧ u26 = .int .i64 (k : Int) ∧ QP w 128 (2000 * i + 1451) K2 sh sc 0 (rwR (.slice aL le.length cL) le :: (kr ++ RS)) (XT acts) cn2 (Lk qf bl' su' re' sa' D le) wr) (fun u26 _ => sa'.length - (intOf u26).toNat)
          case atStart => exact ⟨0, Nat.zero_le _, rfl, HL7.out⟩
          case round =>
            obtain ⟨k, hk, rfl, LX⟩ := hrel
            clear HL7
            by_cases hkl : k < sa'.length
            · as_aux_lemma =>
              obtain ⟨y, hy⟩ : ∃ y, sa'[k]? = some y := ⟨sa'[k], List.getElem?_eq_getElem hkl⟩
              obtain ⟨gF, oF, hae, hgl, hrF, hy32⟩ := HTF.out wr (fun r h => List.mem_cons_of_mem _ (List.mem_append_right _ h)) LX k y hy
              have CKY : Hid (∀ U, QP w 128 (2000 * i + 1451) K2 sh sc 0 (rwR (.slice aL le.length cL) le :: (kr ++ RS)) (XT acts) cn2 (Lk qf bl' su' re' sa' D le) U → Calls Tryz.prog 21 #[.slice aL le.length cL, .agg (rvL y).toArray] U fun e w' => e = .returned (.bool true) ∧ QP w 128 (2000 * i + 1451) K2 sh sc 0 (rwR (.slice aL le.length cL) le :: (kr ++ RS)) (XT acts) cn2 (Lk qf bl' su' re' sa' D le) w') := fun U q => CKL.out y U (List.mem_of_getElem? hy) hy32 q
              have HRF : Hid (wr.rangeAt gF (oF + k * 65) (rvL y)) := hrF
              have hkl' : (k : Int) < (sa'.length : Int) := by omega
              have hiY : (Tryz.prog.info? 41).map (·.size) = some (rvL y).length := by rw [rvL_length hy32]; exact info35
              clear hrF hy hgl CKL hy32 HND HCN HMD HSAF HL32 HLR HQ1 HQ2 HKQ H32 HPI
              subst hae
              go_wp2_with (first
                | go_big_skip
                | (refine wl_mid (by kernel_rfl) 41 _ rfl gF (oF + k * 65) rfl (rvL y) _ HRF.out hum35 rfl hiY ?_; clear HRF)
                | (go_at_call 21; refine (CKY.out _ LX).mono ?_; clear CKY LX; rintro e w7 ⟨rfl, LX⟩))
              go_roundw
              case rel => exact ⟨k + 1, by omega, by go_num, LX⟩
              case measure => simp [intOf]; omega
            · as_aux_lemma =>
              obtain rfl : k = sa'.length := by omega
              have CLN : Hid (∀ {rs : List Rw} {m : Nat} {L : Fd → List H.Sl → Prop} U, QP w 128 m K2 sh sc 0 rs (XT acts) cn2 L U → Calls Tryz.prog 22 #[.pointer (some ⟨K2, 0, none⟩)] U fun e' w' => e' = .returned (.int .i64 ((nn : Int) + (D.length : Int))) ∧ w' = U) := fun {rs m L} U q => (q.len).mono (fun e' w' h => ⟨by rw [h.1, HCN.out, Int.natCast_add], h.2⟩)
              have LR : Hid (QP w 128 (2000 * i + 1451) K2 sh sc 0 (r5 (.slice aB' bl'.length cB') (.slice aS' su'.length cS') (.slice aL le.length cL) (.slice aF' sa'.length cF') bl' su' le sa' [bx]) (XT acts) cn2 (Lk qf bl' su' re' sa' D le) wr) := by
                have h := LX.sub (List.Sublist.cons_cons _ (List.sublist_append_right kr RS))
                rw [← HRS.out] at h
                exact h.newR
              clear LX CKL HTS HTR HTF HTB HCN HRS hk hkl
              have hw2 : IntKind.i64.wrap ((nn : Int) + (D.length : Int)) = (nn : Int) + (D.length : Int) := by rw [IntKind.wrap_i64]; omega
              have hw3 : wrap64 ((nn : Int) + (D.length : Int)) = (nn : Int) + (D.length : Int) := by unfold wrap64; omega
              have LRn := LR.out
              go_wp2_with (first
                | go_big_skip
                | (go_at_call 22; refine (CLN.out _ LRn).mono ?_; clear CLN LRn; rintro e w7 ⟨rfl, hw⟩; rw [hw]; clear hw w7))
              have HL9 : Hid (QP w 128 (2000 * i + 1451 + 5 * 0) K2 sh sc 0 (r5 (.slice aB' bl'.length cB') (.slice (some ⟨wr.heap.size, 0, none⟩) 0 0) (.slice aL le.length cL) (.slice aF' sa'.length cF') bl' [] le sa' [bx]) (XT acts) cn2 (Lk qf bl' su' re' sa' D le) (wr.alloc (.cells #[] 9))) := (LR.out.rowS.newS).wider (by omega)
              clear LR hw2 hw3
              generalize wr.heap.size = z9 at *
              go_loopw [8, 27, 28, 29] (fun u8 u27 _ _ wr => ∃ k : Nat, k ≤ bl'.length ∧ u27 = .int .i64 (k : Int) ∧ QP w 128 (2000 * i + 1451 + 5 * k) K2 sh sc 0 (r5 (.slice aB' bl'.length cB') u8 (.slice aL le.length cL) (.slice aF' sa'.length cF') bl' ((bl'.take k).filter qf) le sa' [bx]) (XT acts) cn2 (Lk qf bl' su' re' sa' D le) wr) (fun _ u27 _ _ _ => bl'.length - (intOf u27).toNat)
              case atStart => exact ⟨0, Nat.zero_le _, rfl, HL9.out⟩
              case round =>
                obtain ⟨k, hk, rfl, LX⟩ := hrel
                clear HL9
                obtain ⟨aS9, cS9, rfl, _⟩ := owns_ts (LX.owns (r := rwS u8 ((bl'.take k).filter qf)) (by simp [r5]))
                by_cases hkl : k < bl'.length
                · as_aux_lemma =>
                  obtain ⟨t, ht⟩ : ∃ t, bl'[k]? = some t := ⟨bl'[k], List.getElem?_eq_getElem hkl⟩
                  have htX : XT acts t := HbX'.out t (List.mem_of_getElem? ht)
                  have htl := HTL.out t htX
                  have HTT : Hid (∀ {m : Nat} {v : Value} {l : List (List UInt8)} U, QP w 128 m K2 sh sc 0 (r5 (.slice aB' bl'.length cB') v (.slice aL le.length cL) (.slice aF' sa'.length cF') bl' l le sa' [bx]) (XT acts) cn2 (Lk qf bl' su' re' sa' D le) U → TS U aB' bl') := fun {m v l} U q => ts_of (q.owns (r := rwS (.slice aB' bl'.length cB') bl') (by simp [r5]))
                  obtain ⟨gB, oB, hae, hgl, hcB⟩ := HTT.out wr LX k t ht
                  have HSB : Hid (∀ {m : Nat} {v : Value} {l : List (List UInt8)} U, QP w 128 m K2 sh sc 0 (r5 (.slice aB' bl'.length cB') v (.slice aL le.length cL) (.slice aF' sa'.length cF') bl' l le sa' [bx]) (XT acts) cn2 (Lk qf bl' su' re' sa' D le) U → U.cell? ⟨gB, oB + k, none⟩ = some (.string (M.bs t))) := fun {m v l} U q => by
                    obtain ⟨g', o', e', _, h'⟩ := HTT.out U q k t ht
                    rw [hae] at e'
                    cases e'
                    exact h'
                  obtain ⟨R9, hR9⟩ : ∃ R, r5 (.slice aB' bl'.length cB') (.slice aS9 ((bl'.take k).filter qf).length cS9) (.slice aL le.length cL) (.slice aF' sa'.length cF') bl' ((bl'.take k).filter qf) le sa' [bx] = R := ⟨_, rfl⟩
                  have CF : Hid (∀ {m : Nat} V T, QP w 128 m K2 sh sc 0 R9 (XT acts) cn2 (Lk qf bl' su' re' sa' D le) V → Calls Tryz.prog 18 #[.slice (some ⟨V.heap.size, 0, none⟩) 1 1] (V.alloc (.cells #[.string (M.bs t)] T)) fun e' w' => e' = .returned (.agg (dg (S.sha t))) ∧ QP w 128 m K2 sh sc 0 R9 (XT acts) cn2 (Lk qf bl' su' re' sa' D le) w') := fun {m} V T q => q.of t T (by omega)
                  have CBL : Hid (∀ (q : Bool), qf t = q → ∀ V, QP w 128 (2000 * i + 1451 + 5 * k) K2 sh sc 0 R9 (XT acts) cn2 (Lk qf bl' su' re' sa' D le) V → Calls Tryz.prog 17 #[.pointer (some ⟨K2, 0, none⟩), .agg (dg (S.sha t))] V fun e' w' => e' = .returned (.tuple #[.string (M.bs (if q = true then t else [])), .bool q]) ∧ QP w 128 (2000 * i + 1451 + 5 * k + 5) K2 sh sc 0 R9 (XT acts) cn2 (Lk qf bl' su' re' sa' D le) w') := fun q hq V p => by
                    have := p.blobAsk (by omega) t (fun s hs he => HIN.out s hs t htX he) qf (fun F sl h => h.o.q)
                    rw [hq] at this
                    exact this
                  have HSR : Hid (∀ {m : Nat} U, QP w 128 m K2 sh sc 0 R9 (XT acts) cn2 (Lk qf bl' su' re' sa' D le) U → U.cell? ⟨gB, oB + k, none⟩ = some (.string (M.bs t))) := fun {m} U q => by rw [← hR9] at q; exact HSB.out U q
                  have HR9 : Hid (r5 (.slice aB' bl'.length cB') (.slice aS9 ((bl'.take k).filter qf).length cS9) (.slice aL le.length cL) (.slice aF' sa'.length cF') bl' ((bl'.take k).filter qf) le sa' [bx] = R9) := hR9
                  have hkl' : (k : Int) < (bl'.length : Int) := by omega
                  have htk : bl'.take (k + 1) = bl'.take k ++ [t] := by rw [List.take_add_one, ht]; rfl
                  have HFT : Hid (qf t = true → (bl'.take (k + 1)).filter qf = (bl'.take k).filter qf ++ [t]) := fun e => by rw [htk, List.filter_append]; simp [e]
                  have HFF : Hid (qf t = false → (bl'.take (k + 1)).filter qf = (bl'.take k).filter qf) := fun e => by rw [htk, List.filter_append]; simp [e]
                  have hfl : ((bl'.take k).filter qf).length ≤ 71 := by
                    have h1 := List.length_filter_le qf (bl'.take k)
                    rw [List.length_take] at h1; omega
                  rw [hR9] at LX
                  clear hR9 ht htX hgl htk HTT HSB
                  subst hae
                  cases hqt : qf t with
                  | true =>
                    as_aux_lemma =>
                    have CBX : Hid (∀ V, QP w 128 (2000 * i + 1451 + 5 * k) K2 sh sc 0 R9 (XT acts) cn2 (Lk qf bl' su' re' sa' D le) V → Calls Tryz.prog 17 #[.pointer (some ⟨K2, 0, none⟩), .agg (dg (S.sha t))] V fun e' w' => e' = .returned (.tuple #[.string (M.bs t), .bool true]) ∧ QP w 128 (2000 * i + 1451 + 5 * k + 5) K2 sh sc 0 R9 (XT acts) cn2 (Lk qf bl' su' re' sa' D le) w') := CBL.out true hqt
                    have HFT2 : Hid ((bl'.take (k + 1)).filter qf = (bl'.take k).filter qf ++ [t]) := HFT.out hqt
                    clear CBL hqt HFT HFF
                    go_wp2_with (first
                      | go_big_skip
                      | (go_at_call 18; refine (CF.out _ _ LX).mono ?_; clear CF LX hcB; rintro e w6 ⟨rfl, LX⟩)
                      | (go_at_call 17; refine (CBX.out _ LX).mono ?_; clear CBX LX; rintro e w7 ⟨rfl, LX⟩; have hcB := HSR.out _ LX; rw [← HR9.out] at LX)
                      | (at_builtin; refine wl_app rfl _ _ rfl w.heap.size ((bl'.take k).filter qf) _ rfl ((LX.alloc (.cells #[.string (M.bs t)] 9)).owns (r := rwS (.slice aS9 ((bl'.take k).filter qf).length cS9) ((bl'.take k).filter qf)) (by simp [r5])) (some ⟨_, 0, none⟩) [t] 1 rfl (ts_one6 _ _ _) (by have := LX.o.size; simp; omega) (by simp; omega) ?_; intro v9 w9 hown9 hg9 hv9; have LY := (LX.alloc (.cells #[.string (M.bs t)] 9)).appS HGW.out hg9 hown9 hv9; clear hown9 hg9 hv9 LX))
                    go_roundw
                    case rel => exact ⟨k + 1, by omega, by go_num, by rw [HFT2.out]; exact LY.wider (by omega)⟩
                    case measure => simp [intOf]; omega
                  | false =>
                    as_aux_lemma =>
                    have CBX : Hid (∀ V, QP w 128 (2000 * i + 1451 + 5 * k) K2 sh sc 0 R9 (XT acts) cn2 (Lk qf bl' su' re' sa' D le) V → Calls Tryz.prog 17 #[.pointer (some ⟨K2, 0, none⟩), .agg (dg (S.sha t))] V fun e' w' => e' = .returned (.tuple #[.string (M.bs []), .bool false]) ∧ QP w 128 (2000 * i + 1451 + 5 * k + 5) K2 sh sc 0 R9 (XT acts) cn2 (Lk qf bl' su' re' sa' D le) w') := CBL.out false hqt
                    have HFT2 : Hid ((bl'.take (k + 1)).filter qf = (bl'.take k).filter qf) := HFF.out hqt
                    clear CBL hqt HFT HFF
                    go_wp2_with (first
                      | go_big_skip
                      | (go_at_call 18; refine (CF.out _ _ LX).mono ?_; clear CF LX hcB; rintro e w6 ⟨rfl, LX⟩)
                      | (go_at_call 17; refine (CBX.out _ LX).mono ?_; clear CBX LX; rintro e w7 ⟨rfl, LX⟩; rw [← HR9.out] at LX))
                    go_roundw
                    case rel => exact ⟨k + 1, by omega, by go_num, by rw [HFT2.out]; exact LX.wider (by omega)⟩
                    case measure => simp [intOf]; omega
                · as_aux_lemma =>
                  obtain rfl : k = bl'.length := by omega
                  rw [List.take_length] at LX ⊢
                  have HX9 : Hid (∀ t ∈ bl'.filter qf, XT acts t) := fun t ht => HbX'.out t (List.mem_filter.1 ht).1
                  have hfl : (bl'.filter qf).length ≤ bl'.length := List.length_filter_le qf bl'
                  have LS : QP w 128 (2000 * i + 1451 + 5 * bl'.length) K2 sh sc 0 (r5 (.slice aB' bl'.length cB') (.slice aS9 (bl'.filter qf).length cS9) (.slice aL le.length cL) (.slice aF' sa'.length cF') bl' (bl'.filter qf) le sa' [bx]) (XT acts) cn2 (L4 (bl'.filter qf) (bl'.filter qf) le le) wr := (QP.settled LX HMD.out).2
                  clear LX HMD hk hkl HbX' HKQ H32 HND HSAF HLR HQ1 HQ2
                  generalize bl'.filter qf = sf at *
                  go_upto_region 80 with (first
                    | go_big_skip
                    | (at_builtin; refine wl_app rfl _ _ rfl w.heap.size [] _ rfl (LS.rowS.owns (r := rwS _ []) (List.mem_cons_self ..)) aS9 sf cS9 rfl (ts_of (LS.rowS.owns (r := rwS (.slice aS9 sf.length cS9) sf) (by simp [r5]))) (by have := LS.o.size; simp; omega) (by simp; omega) ?_; intro v9 w9 hown9 hg9 hv9; have LY := (LS.rowS.app (r := rwS _ []) HGW.out hg9 hown9 hv9 : QP w 128 _ K2 sh sc _ (rwS v9 sf :: _) _ _ _ w9).newB; clear hown9 hg9 hv9 LS)
                    | (at_builtin; refine wl_appR rfl _ _ rfl w.heap.size [] _ rfl (LY.rowR.owns (r := rwR _ []) (List.mem_cons_self ..)) aL le cL rfl (rl_of HL32.out (LY.rowR.owns (r := rwR (.slice aL le.length cL) le) (by simp [r5]))) (by have := LY.o.size; simp; omega) (by simp; omega) ?_; intro v9' w9' hown9 hg9 hv9; have LZ := (LY.rowR.app (r := rwR _ []) HGW.out hg9 hown9 hv9 : QP w 128 _ K2 sh sc _ (rwR v9' le :: _) _ _ _ w9').newF; clear hown9 hg9 hv9 LY))
                  have HEN : Hid (∀ (arm : Nat) (U : World), QP w 128 (2000 * i + 1451 + 5 * bl'.length) K2 sh sc arm (r5 v9 (.slice aS9 sf.length cS9) (.slice aL le.length cL) v9' sf sf le le [bx]) (XT acts) cn2 (L4 sf sf le le) U → RndP w acts sh sc (i + 1) (.pointer (some ⟨K2, 0, none⟩)) (.slice aS9 sf.length cS9) v9 v9' (.slice aL le.length cL) U) := fun arm U q => ⟨K2, arm, cn2, sf, sf, le, le, rfl, by omega, HX9, HL32.out, HL32.out, (q.less (List.nil_sublist _)).wider (by omega)⟩
                  obtain ⟨l1, hl1⟩ : ∃ l1, l1 = lo + 1 := ⟨_, rfl⟩
                  have hlc : (lo : Int) + 1 = (l1 : Int) := by omega
                  have hl1i : l1 ≤ i + 1 := by omega
                  rw [hlc]
                  clear hlc HX9 hl1
                  by_cases hp1 : l1 < pw.length
                  · have hp1' : (l1 : Int) < (pw.length : Int) := by omega
                    by_cases h5 : l1 < 5
                    · as_aux_lemma =>
                      have h5' : (l1 : Int) < 5 := by omega
                      obtain ⟨y, sb2, off2, hpa, hcy, hy1, hy2⟩ := HPI.out l1 LZ.o hp1
                      subst hpa
                      obtain ⟨ka, hka, hkw⟩ := arm60 y
                      have CAR : Hid (Calls Tryz.prog 10 #[.pointer (some ⟨sh, 0, none⟩), .int .i64 (ka : Int)] w9' fun e' w' => e' = .returned (.tuple #[]) ∧ QP w 128 (2000 * i + 1451 + 5 * bl'.length) K2 sh sc ka (r5 v9 (.slice aS9 sf.length cS9) (.slice aL le.length cL) v9' sf sf le le [bx]) (XT acts) cn2 (L4 sf sf le le) w') := LZ.arms ka hka
                      clear LZ HPI
                      go_wp2_with (first
                        | go_big_skip
                        | (go_at_call 10; rw [hkw]; refine (CAR.out).mono ?_; clear CAR hcy; rintro e w10 ⟨rfl, LX⟩))
                      exact HK1.out l1 hl1i (HEN.out _ _ LX)
                    · as_aux_lemma =>
                      have h5' : ¬ (l1 : Int) < 5 := by omega
                      clear HPI
                      go_wp2_with go_big_skip
                      exact HK1.out l1 hl1i (HEN.out _ _ LZ)
                  · as_aux_lemma =>
                    have hp1' : ¬ (l1 : Int) < (pw.length : Int) := by omega
                    clear HPI
                    go_wp2_with go_big_skip
                    exact HK1.out l1 hl1i (HEN.out _ _ LZ)
end Go.Proofs.YtlkllcnnnndllaaGreatDoor
