/- What a machine's step does, letter by letter (one byte). -/
import Derived.Test.YtodcafmhaleemaaDoorT9
namespace Go.Proofs.YtodcafmhaleemaaDoor
open Go.RowKit
set_option linter.unusedVariables false

set_option maxRecDepth 8000 in
set_option maxHeartbeats 2000000 in
theorem do_c {w W : World} {b : Nat} {code : List UInt8} {a : Option Addr} {c place n : Nat} {ins st : List (List UInt8)} {v : Value} (h : SX w b (rowM code a ins.length c place n) st v W) (hin : IN w a ins) (hT : Tab w) (hn : n ≤ 300) (hp : place ≤ 1000)  :
    Calls Tryd.prog 26 #[.pointer (some ⟨b, 0, none⟩), .string (M.bs [99])] W fun e w' => e = .returned (.int .i64 ((Q.act ins st [99]).1 : Int)) ∧ ∃ v', SX w b (rowM code a ins.length c (Q.next ⟨st, place, n⟩ [99]) (n + 1)) (Q.act ins st [99]).2 v' w' := by
  have e1 : Q.act ins st [99] = (Q.fold (fun a b => a ++ b) st) := by unfold Q.act; simp
  have e2 : Q.next ⟨st, place, n⟩ [99] = (place + 1) := by unfold Q.next; simp
  rw [e1, e2]
  clear e1 e2
  have hsz : (M.bs [99]).size = 1 := M.bs_size [99]
  have hi := idx_0 [99] 99 rfl
  have k3 := h.m3
  have k4 := h.m4
  have fb := h.fb
  have hlt := h.lt
  have CX : Hid (∀ W2, SX w b (rowM code a ins.length c (place + 1) (n + 1)) st v W2 → W2.cell? ⟨W.heap.size, 0, none⟩ = some (.string (M.bs [99])) → Calls Tryd.prog 39 #[.pointer (some ⟨b, 0, none⟩), .func (.func 40) #[] #[]] W2 fun e w' => e = .returned (.int .i64 ((Q.fold (fun a b => a ++ b) st).1 : Nat)) ∧ ∃ v', SX w b (rowM code a ins.length c (place + 1) (n + 1)) (Q.fold (fun a b => a ++ b) st).2 v' w') := fun W2 hs hc => fold_at 40 (fun a b => a ++ b) (enters_of Tryd.func40 (by kernel_rfl) rfl) (fun x t hx ht => by rw [List.length_append]; omega) (fun W2 x t hx ht _ => joined_at x t W2 (by omega)) hs
  generalize (Q.fold (fun a b => a ++ b) st) = R at *
  obtain ⟨hS, hC⟩ := h.pre (M.bs [99]) 1 1 rfl
  generalize M.bs [99] = bsx at *
  have HS : Hid _ := hS
  have HC : Hid _ := hC
  clear hS hC h hin hT
  go_enter Tryd.func26, Tryd.ntmps26
  go_wp2_with fail
  go_region
  go_wp2_with (first
    | (go_at_call 39; refine (CX.out _ HS.out HC.out).mono ?_; rintro e w' ⟨rfl, HE⟩))
  go_ret
  exact ⟨rfl, HE⟩
set_option maxRecDepth 8000 in
set_option maxHeartbeats 2000000 in
theorem do_e {w W : World} {b : Nat} {code : List UInt8} {a : Option Addr} {c place n : Nat} {ins st : List (List UInt8)} {v : Value} (h : SX w b (rowM code a ins.length c place n) st v W) (hin : IN w a ins) (hT : Tab w) (hn : n ≤ 300) (hp : place ≤ 1000)  :
    Calls Tryd.prog 26 #[.pointer (some ⟨b, 0, none⟩), .string (M.bs [61])] W fun e w' => e = .returned (.int .i64 ((Q.act ins st [61]).1 : Int)) ∧ ∃ v', SX w b (rowM code a ins.length c (Q.next ⟨st, place, n⟩ [61]) (n + 1)) (Q.act ins st [61]).2 v' w' := by
  have e1 : Q.act ins st [61] = (Q.fold Q.cmp st) := by unfold Q.act; simp
  have e2 : Q.next ⟨st, place, n⟩ [61] = (place + 1) := by unfold Q.next; simp
  rw [e1, e2]
  clear e1 e2
  have hsz : (M.bs [61]).size = 1 := M.bs_size [61]
  have hi := idx_0 [61] 61 rfl
  have k3 := h.m3
  have k4 := h.m4
  have fb := h.fb
  have hlt := h.lt
  have CX : Hid (∀ W2, SX w b (rowM code a ins.length c (place + 1) (n + 1)) st v W2 → W2.cell? ⟨W.heap.size, 0, none⟩ = some (.string (M.bs [61])) → Calls Tryd.prog 39 #[.pointer (some ⟨b, 0, none⟩), .func (.func 50) #[] #[]] W2 fun e w' => e = .returned (.int .i64 ((Q.fold Q.cmp st).1 : Nat)) ∧ ∃ v', SX w b (rowM code a ins.length c (place + 1) (n + 1)) (Q.fold Q.cmp st).2 v' w') := fun W2 hs hc => fold_at 50 Q.cmp (enters_of Tryd.func50 (by kernel_rfl) rfl) (fun x t hx ht => by unfold Q.cmp; split <;> simp) (fun W2 x t hx ht _ => compared_at x t W2) hs
  generalize (Q.fold Q.cmp st) = R at *
  obtain ⟨hS, hC⟩ := h.pre (M.bs [61]) 1 1 rfl
  generalize M.bs [61] = bsx at *
  have HS : Hid _ := hS
  have HC : Hid _ := hC
  clear hS hC h hin hT
  go_enter Tryd.func26, Tryd.ntmps26
  go_wp2_with fail
  go_region
  go_wp2_with (first
    | (go_at_call 39; refine (CX.out _ HS.out HC.out).mono ?_; rintro e w' ⟨rfl, HE⟩))
  go_ret
  exact ⟨rfl, HE⟩
set_option maxRecDepth 8000 in
set_option maxHeartbeats 2000000 in
theorem do_d {w W : World} {b : Nat} {code : List UInt8} {a : Option Addr} {c place n : Nat} {ins st : List (List UInt8)} {v : Value} (h : SX w b (rowM code a ins.length c place n) st v W) (hin : IN w a ins) (hT : Tab w) (hn : n ≤ 300) (hp : place ≤ 1000)  :
    Calls Tryd.prog 26 #[.pointer (some ⟨b, 0, none⟩), .string (M.bs [100])] W fun e w' => e = .returned (.int .i64 ((Q.act ins st [100]).1 : Int)) ∧ ∃ v', SX w b (rowM code a ins.length c (Q.next ⟨st, place, n⟩ [100]) (n + 1)) (Q.act ins st [100]).2 v' w' := by
  have e1 : Q.act ins st [100] = (Q.double st) := by unfold Q.act; simp
  have e2 : Q.next ⟨st, place, n⟩ [100] = (place + 1) := by unfold Q.next; simp
  rw [e1, e2]
  clear e1 e2
  have hsz : (M.bs [100]).size = 1 := M.bs_size [100]
  have hi := idx_0 [100] 100 rfl
  have k3 := h.m3
  have k4 := h.m4
  have fb := h.fb
  have hlt := h.lt
  have CX : Hid (∀ W2, SX w b (rowM code a ins.length c (place + 1) (n + 1)) st v W2 → W2.cell? ⟨W.heap.size, 0, none⟩ = some (.string (M.bs [100])) → Calls Tryd.prog 41 #[.pointer (some ⟨b, 0, none⟩)] W2 fun e w' => e = .returned (.int .i64 ((Q.double st).1 : Nat)) ∧ ∃ v', SX w b (rowM code a ins.length c (place + 1) (n + 1)) (Q.double st).2 v' w') := fun W2 hs hc => double_at hs
  generalize (Q.double st) = R at *
  obtain ⟨hS, hC⟩ := h.pre (M.bs [100]) 1 1 rfl
  generalize M.bs [100] = bsx at *
  have HS : Hid _ := hS
  have HC : Hid _ := hC
  clear hS hC h hin hT
  go_enter Tryd.func26, Tryd.ntmps26
  go_wp2_with fail
  go_region
  go_wp2_with (first
    | (go_at_call 41; refine (CX.out _ HS.out HC.out).mono ?_; rintro e w' ⟨rfl, HE⟩))
  go_ret
  exact ⟨rfl, HE⟩
set_option maxRecDepth 8000 in
set_option maxHeartbeats 2000000 in
theorem do_s {w W : World} {b : Nat} {code : List UInt8} {a : Option Addr} {c place n : Nat} {ins st : List (List UInt8)} {v : Value} (h : SX w b (rowM code a ins.length c place n) st v W) (hin : IN w a ins) (hT : Tab w) (hn : n ≤ 300) (hp : place ≤ 1000)  :
    Calls Tryd.prog 26 #[.pointer (some ⟨b, 0, none⟩), .string (M.bs [115])] W fun e w' => e = .returned (.int .i64 ((Q.act ins st [115]).1 : Int)) ∧ ∃ v', SX w b (rowM code a ins.length c (Q.next ⟨st, place, n⟩ [115]) (n + 1)) (Q.act ins st [115]).2 v' w' := by
  have e1 : Q.act ins st [115] = (Q.swap st) := by unfold Q.act; simp
  have e2 : Q.next ⟨st, place, n⟩ [115] = (place + 1) := by unfold Q.next; simp
  rw [e1, e2]
  clear e1 e2
  have hsz : (M.bs [115]).size = 1 := M.bs_size [115]
  have hi := idx_0 [115] 115 rfl
  have k3 := h.m3
  have k4 := h.m4
  have fb := h.fb
  have hlt := h.lt
  have CX : Hid (∀ W2, SX w b (rowM code a ins.length c (place + 1) (n + 1)) st v W2 → W2.cell? ⟨W.heap.size, 0, none⟩ = some (.string (M.bs [115])) → Calls Tryd.prog 42 #[.pointer (some ⟨b, 0, none⟩)] W2 fun e w' => e = .returned (.int .i64 ((Q.swap st).1 : Nat)) ∧ ∃ v', SX w b (rowM code a ins.length c (place + 1) (n + 1)) (Q.swap st).2 v' w') := fun W2 hs hc => swap_at hs
  generalize (Q.swap st) = R at *
  obtain ⟨hS, hC⟩ := h.pre (M.bs [115]) 1 1 rfl
  generalize M.bs [115] = bsx at *
  have HS : Hid _ := hS
  have HC : Hid _ := hC
  clear hS hC h hin hT
  go_enter Tryd.func26, Tryd.ntmps26
  go_wp2_with fail
  go_region
  go_wp2_with (first
    | (go_at_call 42; refine (CX.out _ HS.out HC.out).mono ?_; rintro e w' ⟨rfl, HE⟩))
  go_ret
  exact ⟨rfl, HE⟩
set_option maxRecDepth 8000 in
set_option maxHeartbeats 2000000 in
theorem do_x {w W : World} {b : Nat} {code : List UInt8} {a : Option Addr} {c place n : Nat} {ins st : List (List UInt8)} {v : Value} (h : SX w b (rowM code a ins.length c place n) st v W) (hin : IN w a ins) (hT : Tab w) (hn : n ≤ 300) (hp : place ≤ 1000)  :
    Calls Tryd.prog 26 #[.pointer (some ⟨b, 0, none⟩), .string (M.bs [120])] W fun e w' => e = .returned (.int .i64 ((Q.act ins st [120]).1 : Int)) ∧ ∃ v', SX w b (rowM code a ins.length c (Q.next ⟨st, place, n⟩ [120]) (n + 1)) (Q.act ins st [120]).2 v' w' := by
  have e1 : Q.act ins st [120] = (Q.drop st) := by unfold Q.act; simp
  have e2 : Q.next ⟨st, place, n⟩ [120] = (place + 1) := by unfold Q.next; simp
  rw [e1, e2]
  clear e1 e2
  have hsz : (M.bs [120]).size = 1 := M.bs_size [120]
  have hi := idx_0 [120] 120 rfl
  have k3 := h.m3
  have k4 := h.m4
  have fb := h.fb
  have hlt := h.lt
  have CX : Hid (∀ W2, SX w b (rowM code a ins.length c (place + 1) (n + 1)) st v W2 → W2.cell? ⟨W.heap.size, 0, none⟩ = some (.string (M.bs [120])) → Calls Tryd.prog 43 #[.pointer (some ⟨b, 0, none⟩)] W2 fun e w' => e = .returned (.int .i64 ((Q.drop st).1 : Nat)) ∧ ∃ v', SX w b (rowM code a ins.length c (place + 1) (n + 1)) (Q.drop st).2 v' w') := fun W2 hs hc => drop_at hs
  generalize (Q.drop st) = R at *
  obtain ⟨hS, hC⟩ := h.pre (M.bs [120]) 1 1 rfl
  generalize M.bs [120] = bsx at *
  have HS : Hid _ := hS
  have HC : Hid _ := hC
  clear hS hC h hin hT
  go_enter Tryd.func26, Tryd.ntmps26
  go_wp2_with fail
  go_region
  go_wp2_with (first
    | (go_at_call 43; refine (CX.out _ HS.out HC.out).mono ?_; rintro e w' ⟨rfl, HE⟩))
  go_ret
  exact ⟨rfl, HE⟩
set_option maxRecDepth 8000 in
set_option maxHeartbeats 2000000 in
theorem do_r {w W : World} {b : Nat} {code : List UInt8} {a : Option Addr} {c place n : Nat} {ins st : List (List UInt8)} {v : Value} (h : SX w b (rowM code a ins.length c place n) st v W) (hin : IN w a ins) (hT : Tab w) (hn : n ≤ 300) (hp : place ≤ 1000)  :
    Calls Tryd.prog 26 #[.pointer (some ⟨b, 0, none⟩), .string (M.bs [114])] W fun e w' => e = .returned (.int .i64 ((Q.act ins st [114]).1 : Int)) ∧ ∃ v', SX w b (rowM code a ins.length c (Q.next ⟨st, place, n⟩ [114]) (n + 1)) (Q.act ins st [114]).2 v' w' := by
  have e1 : Q.act ins st [114] = (Q.change List.reverse st) := by unfold Q.act; simp
  have e2 : Q.next ⟨st, place, n⟩ [114] = (place + 1) := by unfold Q.next; simp
  rw [e1, e2]
  clear e1 e2
  have hsz : (M.bs [114]).size = 1 := M.bs_size [114]
  have hi := idx_0 [114] 114 rfl
  have k3 := h.m3
  have k4 := h.m4
  have fb := h.fb
  have hlt := h.lt
  have CX : Hid (∀ W2, SX w b (rowM code a ins.length c (place + 1) (n + 1)) st v W2 → W2.cell? ⟨W.heap.size, 0, none⟩ = some (.string (M.bs [114])) → Calls Tryd.prog 44 #[.pointer (some ⟨b, 0, none⟩), .func (.func 45) #[] #[]] W2 fun e w' => e = .returned (.int .i64 ((Q.change List.reverse st).1 : Nat)) ∧ ∃ v', SX w b (rowM code a ins.length c (place + 1) (n + 1)) (Q.change List.reverse st).2 v' w') := fun W2 hs hc => change_at 45 #[] (fun _ => True) List.reverse (enters_of Tryd.func45 (by kernel_rfl) rfl) trivial (fun _ _ => trivial) (fun t ht => by rw [List.length_reverse]; omega) (fun W2 t ht hg _ => by simpa using reversed_at t W2 (by omega)) hs
  generalize (Q.change List.reverse st) = R at *
  obtain ⟨hS, hC⟩ := h.pre (M.bs [114]) 1 1 rfl
  generalize M.bs [114] = bsx at *
  have HS : Hid _ := hS
  have HC : Hid _ := hC
  clear hS hC h hin hT
  go_enter Tryd.func26, Tryd.ntmps26
  go_wp2_with fail
  go_region
  go_wp2_with (first
    | (go_at_call 44; refine (CX.out _ HS.out HC.out).mono ?_; rintro e w' ⟨rfl, HE⟩))
  go_ret
  exact ⟨rfl, HE⟩
set_option maxRecDepth 8000 in
set_option maxHeartbeats 2000000 in
theorem do_h {w W : World} {b : Nat} {code : List UInt8} {a : Option Addr} {c place n : Nat} {ins st : List (List UInt8)} {v : Value} (h : SX w b (rowM code a ins.length c place n) st v W) (hin : IN w a ins) (hT : Tab w) (hn : n ≤ 300) (hp : place ≤ 1000)  :
    Calls Tryd.prog 26 #[.pointer (some ⟨b, 0, none⟩), .string (M.bs [104])] W fun e w' => e = .returned (.int .i64 ((Q.act ins st [104]).1 : Int)) ∧ ∃ v', SX w b (rowM code a ins.length c (Q.next ⟨st, place, n⟩ [104]) (n + 1)) (Q.act ins st [104]).2 v' w' := by
  have e1 : Q.act ins st [104] = (Q.change S.sha st) := by unfold Q.act; simp
  have e2 : Q.next ⟨st, place, n⟩ [104] = (place + 1) := by unfold Q.next; simp
  rw [e1, e2]
  clear e1 e2
  have hsz : (M.bs [104]).size = 1 := M.bs_size [104]
  have hi := idx_0 [104] 104 rfl
  have k3 := h.m3
  have k4 := h.m4
  have fb := h.fb
  have hlt := h.lt
  have CX : Hid (∀ W2, SX w b (rowM code a ins.length c (place + 1) (n + 1)) st v W2 → W2.cell? ⟨W.heap.size, 0, none⟩ = some (.string (M.bs [104])) → Calls Tryd.prog 44 #[.pointer (some ⟨b, 0, none⟩), .func (.func 46) #[] #[]] W2 fun e w' => e = .returned (.int .i64 ((Q.change S.sha st).1 : Nat)) ∧ ∃ v', SX w b (rowM code a ins.length c (place + 1) (n + 1)) (Q.change S.sha st).2 v' w') := fun W2 hs hc => change_at 46 #[] (fun _ => True) S.sha (enters_of Tryd.func46 (by kernel_rfl) rfl) trivial (fun _ _ => trivial) (fun t ht => by rw [S.sha_length]; omega) (fun W2 t ht hg _ => by simpa using digest_at t W2 (by omega) hg.g) hs
  generalize (Q.change S.sha st) = R at *
  obtain ⟨hS, hC⟩ := h.pre (M.bs [104]) 1 1 rfl
  generalize M.bs [104] = bsx at *
  have HS : Hid _ := hS
  have HC : Hid _ := hC
  clear hS hC h hin hT
  go_enter Tryd.func26, Tryd.ntmps26
  go_wp2_with fail
  go_region
  go_wp2_with (first
    | (go_at_call 44; refine (CX.out _ HS.out HC.out).mono ?_; rintro e w' ⟨rfl, HE⟩))
  go_ret
  exact ⟨rfl, HE⟩
set_option maxRecDepth 8000 in
set_option maxHeartbeats 2000000 in
theorem do_l {w W : World} {b : Nat} {code : List UInt8} {a : Option Addr} {c place n : Nat} {ins st : List (List UInt8)} {v : Value} (h : SX w b (rowM code a ins.length c place n) st v W) (hin : IN w a ins) (hT : Tab w) (hn : n ≤ 300) (hp : place ≤ 1000)  :
    Calls Tryd.prog 26 #[.pointer (some ⟨b, 0, none⟩), .string (M.bs [108])] W fun e w' => e = .returned (.int .i64 ((Q.act ins st [108]).1 : Int)) ∧ ∃ v', SX w b (rowM code a ins.length c (Q.next ⟨st, place, n⟩ [108]) (n + 1)) (Q.act ins st [108]).2 v' w' := by
  have e1 : Q.act ins st [108] = (Q.change Q.len st) := by unfold Q.act; simp
  have e2 : Q.next ⟨st, place, n⟩ [108] = (place + 1) := by unfold Q.next; simp
  rw [e1, e2]
  clear e1 e2
  have hsz : (M.bs [108]).size = 1 := M.bs_size [108]
  have hi := idx_0 [108] 108 rfl
  have k3 := h.m3
  have k4 := h.m4
  have fb := h.fb
  have hlt := h.lt
  have CX : Hid (∀ W2, SX w b (rowM code a ins.length c (place + 1) (n + 1)) st v W2 → W2.cell? ⟨W.heap.size, 0, none⟩ = some (.string (M.bs [108])) → Calls Tryd.prog 44 #[.pointer (some ⟨b, 0, none⟩), .func (.func 47) #[] #[]] W2 fun e w' => e = .returned (.int .i64 ((Q.change Q.len st).1 : Nat)) ∧ ∃ v', SX w b (rowM code a ins.length c (place + 1) (n + 1)) (Q.change Q.len st).2 v' w') := fun W2 hs hc => change_at 47 #[] (fun _ => True) Q.len (enters_of Tryd.func47 (by kernel_rfl) rfl) trivial (fun _ _ => trivial) (fun t ht => Q.len_le t ht) (fun W2 t ht hg _ => by simpa using length_at t W2 (by omega) (hT.below hg.b)) hs
  generalize (Q.change Q.len st) = R at *
  obtain ⟨hS, hC⟩ := h.pre (M.bs [108]) 1 1 rfl
  generalize M.bs [108] = bsx at *
  have HS : Hid _ := hS
  have HC : Hid _ := hC
  clear hS hC h hin hT
  go_enter Tryd.func26, Tryd.ntmps26
  go_wp2_with fail
  go_region
  go_wp2_with (first
    | (go_at_call 44; refine (CX.out _ HS.out HC.out).mono ?_; rintro e w' ⟨rfl, HE⟩))
  go_ret
  exact ⟨rfl, HE⟩
end Go.Proofs.YtodcafmhaleemaaDoor
