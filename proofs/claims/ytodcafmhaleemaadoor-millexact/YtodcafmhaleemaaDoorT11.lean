/- What a machine's step does, letter by letter (two bytes and more). -/
import Derived.Test.YtodcafmhaleemaaDoorT10
namespace Go.Proofs.YtodcafmhaleemaaDoor
open Go.RowKit
set_option linter.unusedVariables false

set_option maxRecDepth 8000 in
set_option maxHeartbeats 2000000 in
theorem do_t {w W : World} {b : Nat} {code : List UInt8} {a : Option Addr} {c place n : Nat} {ins st : List (List UInt8)} {v : Value} (h : SX w b (rowM code a ins.length c place n) st v W) (hin : IN w a ins) (hT : Tab w) (hn : n ≤ 300) (hp : place ≤ 1000) (x : UInt8) :
    Calls Tryd.prog 26 #[.pointer (some ⟨b, 0, none⟩), .string (M.bs [116, x])] W fun e w' => e = .returned (.int .i64 ((Q.act ins st [116, x]).1 : Int)) ∧ ∃ v', SX w b (rowM code a ins.length c (Q.next ⟨st, place, n⟩ [116, x]) (n + 1)) (Q.act ins st [116, x]).2 v' w' := by
  have e1 : Q.act ins st [116, x] = (Q.change (fun t => t.take x.toNat) st) := by unfold Q.act; simp
  have e2 : Q.next ⟨st, place, n⟩ [116, x] = (place + 2) := by unfold Q.next; simp
  rw [e1, e2]
  clear e1 e2
  have hsz : (M.bs [116, x]).size = 2 := M.bs_size [116, x]
  have hi := idx_0 [116, x] 116 rfl
  have k3 := h.m3
  have k4 := h.m4
  have fb := h.fb
  have hlt := h.lt
  have CX : Hid (∀ W2, SX w b (rowM code a ins.length c (place + 2) (n + 1)) st v W2 → W2.cell? ⟨W.heap.size, 0, none⟩ = some (.string (M.bs [116, x])) → Calls Tryd.prog 44 #[.pointer (some ⟨b, 0, none⟩), .func (.func 48) #[] #[.pointer (some ⟨W.heap.size, 0, none⟩)]] W2 fun e w' => e = .returned (.int .i64 ((Q.change (fun t => t.take x.toNat) st).1 : Nat)) ∧ ∃ v', SX w b (rowM code a ins.length c (place + 2) (n + 1)) (Q.change (fun t => t.take x.toNat) st).2 v' w') := fun W2 hs hc => change_at 48 #[.pointer (some ⟨W.heap.size, 0, none⟩)] (fun W2 => W2.cell? ⟨W.heap.size, 0, none⟩ = some (.string (M.bs [116, x]))) (fun t => t.take x.toNat) (enters_of Tryd.func48 (by kernel_rfl) rfl) hc (fun v2 h2 => by rw [World.cell?_of_block (w := W2) (Below.heap_setCell _ _ _ _ (show W.heap.size ≠ b by omega))]; exact h2) (fun t ht => by simp; omega) (fun W2 t ht hg h2 => by simpa using cut1_at _ t x W.heap.size W2 rfl (by omega) h2) hs
  generalize (Q.change (fun t => t.take x.toNat) st) = R at *
  obtain ⟨hS, hC⟩ := h.pre (M.bs [116, x]) 2 2 rfl
  generalize M.bs [116, x] = bsx at *
  have HS : Hid _ := hS
  have HC : Hid _ := hC
  clear hS hC h hin hT
  go_enter Tryd.func26, Tryd.ntmps26
  go_wp2_with fail
  go_region
  go_wp2_with (first
    | (go_at_call 44; refine (CX.out _ HS.out HC.out).mono ?_; rintro e w' ⟨rfl, HE⟩))
  go_ret
  exact ⟨rfl, HE⟩
set_option maxRecDepth 8000 in
set_option maxHeartbeats 2000000 in
theorem do_k {w W : World} {b : Nat} {code : List UInt8} {a : Option Addr} {c place n : Nat} {ins st : List (List UInt8)} {v : Value} (h : SX w b (rowM code a ins.length c place n) st v W) (hin : IN w a ins) (hT : Tab w) (hn : n ≤ 300) (hp : place ≤ 1000) (x : UInt8) :
    Calls Tryd.prog 26 #[.pointer (some ⟨b, 0, none⟩), .string (M.bs [107, x])] W fun e w' => e = .returned (.int .i64 ((Q.act ins st [107, x]).1 : Int)) ∧ ∃ v', SX w b (rowM code a ins.length c (Q.next ⟨st, place, n⟩ [107, x]) (n + 1)) (Q.act ins st [107, x]).2 v' w' := by
  have e1 : Q.act ins st [107, x] = (Q.change (fun t => t.drop x.toNat) st) := by unfold Q.act; simp
  have e2 : Q.next ⟨st, place, n⟩ [107, x] = (place + 2) := by unfold Q.next; simp
  rw [e1, e2]
  clear e1 e2
  have hsz : (M.bs [107, x]).size = 2 := M.bs_size [107, x]
  have hi := idx_0 [107, x] 107 rfl
  have k3 := h.m3
  have k4 := h.m4
  have fb := h.fb
  have hlt := h.lt
  have CX : Hid (∀ W2, SX w b (rowM code a ins.length c (place + 2) (n + 1)) st v W2 → W2.cell? ⟨W.heap.size, 0, none⟩ = some (.string (M.bs [107, x])) → Calls Tryd.prog 44 #[.pointer (some ⟨b, 0, none⟩), .func (.func 49) #[] #[.pointer (some ⟨W.heap.size, 0, none⟩)]] W2 fun e w' => e = .returned (.int .i64 ((Q.change (fun t => t.drop x.toNat) st).1 : Nat)) ∧ ∃ v', SX w b (rowM code a ins.length c (place + 2) (n + 1)) (Q.change (fun t => t.drop x.toNat) st).2 v' w') := fun W2 hs hc => change_at 49 #[.pointer (some ⟨W.heap.size, 0, none⟩)] (fun W2 => W2.cell? ⟨W.heap.size, 0, none⟩ = some (.string (M.bs [107, x]))) (fun t => t.drop x.toNat) (enters_of Tryd.func49 (by kernel_rfl) rfl) hc (fun v2 h2 => by rw [World.cell?_of_block (w := W2) (Below.heap_setCell _ _ _ _ (show W.heap.size ≠ b by omega))]; exact h2) (fun t ht => by simp; omega) (fun W2 t ht hg h2 => by simpa using cut2_at _ t x W.heap.size W2 rfl (by omega) h2) hs
  generalize (Q.change (fun t => t.drop x.toNat) st) = R at *
  obtain ⟨hS, hC⟩ := h.pre (M.bs [107, x]) 2 2 rfl
  generalize M.bs [107, x] = bsx at *
  have HS : Hid _ := hS
  have HC : Hid _ := hC
  clear hS hC h hin hT
  go_enter Tryd.func26, Tryd.ntmps26
  go_wp2_with fail
  go_region
  go_wp2_with (first
    | (go_at_call 44; refine (CX.out _ HS.out HC.out).mono ?_; rintro e w' ⟨rfl, HE⟩))
  go_ret
  exact ⟨rfl, HE⟩
set_option maxRecDepth 8000 in
set_option maxHeartbeats 2000000 in
theorem do_i {w W : World} {b : Nat} {code : List UInt8} {a : Option Addr} {c place n : Nat} {ins st : List (List UInt8)} {v : Value} (h : SX w b (rowM code a ins.length c place n) st v W) (hin : IN w a ins) (hT : Tab w) (hn : n ≤ 300) (hp : place ≤ 1000) (x : UInt8) :
    Calls Tryd.prog 26 #[.pointer (some ⟨b, 0, none⟩), .string (M.bs [105, x])] W fun e w' => e = .returned (.int .i64 ((Q.act ins st [105, x]).1 : Int)) ∧ ∃ v', SX w b (rowM code a ins.length c (Q.next ⟨st, place, n⟩ [105, x]) (n + 1)) (Q.act ins st [105, x]).2 v' w' := by
  have e1 : Q.act ins st [105, x] = (if ins.length ≤ x.toNat then (32, st) else Q.put st (ins.getD x.toNat [])) := by unfold Q.act; simp
  have e2 : Q.next ⟨st, place, n⟩ [105, x] = (place + 2) := by unfold Q.next; simp
  rw [e1, e2]
  clear e1 e2
  have hsz : (M.bs [105, x]).size = 2 := M.bs_size [105, x]
  have hi := idx_0 [105, x] 105 rfl
  have k3 := h.m3
  have k4 := h.m4
  have fb := h.fb
  have hlt := h.lt
  have CN : Hid (∀ W, Calls Tryd.prog 37 #[.string (M.bs [105, x])] W fun e w' => e = .returned (.int .i64 (x.toNat : Int)) ∧ w' = W) := fun W => number_at [105, x] x rfl W
  have CX : Hid (∀ W2, SX w b (rowM code a ins.length c (place + 2) (n + 1)) st v W2 → W2.cell? ⟨W.heap.size, 0, none⟩ = some (.string (M.bs [105, x])) → Calls Tryd.prog 36 #[.pointer (some ⟨b, 0, none⟩), .int .i64 (x.toNat : Int)] W2 fun e w' => e = .returned (.int .i64 ((if ins.length ≤ x.toNat then (32, st) else Q.put st (ins.getD x.toNat [])).1 : Nat)) ∧ ∃ v', SX w b (rowM code a ins.length c (place + 2) (n + 1)) (if ins.length ≤ x.toNat then (32, st) else Q.put st (ins.getD x.toNat [])).2 v' w') := fun W2 hs hc => putInput_at hs hin x.toNat (by have := x.toNat_lt; omega)
  generalize (if ins.length ≤ x.toNat then (32, st) else Q.put st (ins.getD x.toNat [])) = R at *
  obtain ⟨hS, hC⟩ := h.pre (M.bs [105, x]) 2 2 rfl
  generalize M.bs [105, x] = bsx at *
  have HS : Hid _ := hS
  have HC : Hid _ := hC
  clear hS hC h hin hT
  go_enter Tryd.func26, Tryd.ntmps26
  go_wp2_with fail
  go_region
  go_wp2_with (first
    | (go_at_call 36; refine (CX.out _ HS.out HC.out).mono ?_; rintro e w' ⟨rfl, HE⟩)
    | (go_at_call 37; refine (CN.out _).mono ?_; rintro e w' ⟨rfl, rfl⟩))
  go_ret
  exact ⟨rfl, HE⟩
set_option maxRecDepth 8000 in
set_option maxHeartbeats 2000000 in
theorem do_j {w W : World} {b : Nat} {code : List UInt8} {a : Option Addr} {c place n : Nat} {ins st : List (List UInt8)} {v : Value} (h : SX w b (rowM code a ins.length c place n) st v W) (hin : IN w a ins) (hT : Tab w) (hn : n ≤ 300) (hp : place ≤ 1000) (x : UInt8) :
    Calls Tryd.prog 26 #[.pointer (some ⟨b, 0, none⟩), .string (M.bs [106, x])] W fun e w' => e = .returned (.int .i64 ((Q.act ins st [106, x]).1 : Int)) ∧ ∃ v', SX w b (rowM code a ins.length c (Q.next ⟨st, place, n⟩ [106, x]) (n + 1)) (Q.act ins st [106, x]).2 v' w' := by
  have e1 : Q.act ins st [106, x] = (Q.drop st) := by unfold Q.act; simp
  have e2 : Q.next ⟨st, place, n⟩ [106, x] = (if Q.isE st then x.toNat else place + 2) := by unfold Q.next; simp
  rw [e1, e2]
  clear e1 e2
  have hsz : (M.bs [106, x]).size = 2 := M.bs_size [106, x]
  have hi := idx_0 [106, x] 106 rfl
  have k3 := h.m3
  have k4 := h.m4
  have fb := h.fb
  have hlt := h.lt
  have CN : Hid (∀ W, Calls Tryd.prog 37 #[.string (M.bs [106, x])] W fun e w' => e = .returned (.int .i64 (x.toNat : Int)) ∧ w' = W) := fun W => number_at [106, x] x rfl W
  have CX : Hid (∀ W2, SX w b (rowM code a ins.length c (place + 2) (n + 1)) st v W2 → W2.cell? ⟨W.heap.size, 0, none⟩ = some (.string (M.bs [106, x])) → Calls Tryd.prog 51 #[.pointer (some ⟨b, 0, none⟩), .int .i64 (x.toNat : Int)] W2 fun e w' => e = .returned (.int .i64 ((Q.drop st).1 : Nat)) ∧ ∃ v', SX w b (rowM code a ins.length c (if Q.isE st then x.toNat else place + 2) (n + 1)) (Q.drop st).2 v' w') := fun W2 hs hc => goIf_at hs x.toNat (by have := x.toNat_lt; omega)
  generalize (Q.drop st) = R at *
  generalize (if Q.isE st = true then x.toNat else place + 2) = PL at *
  obtain ⟨hS, hC⟩ := h.pre (M.bs [106, x]) 2 2 rfl
  generalize M.bs [106, x] = bsx at *
  have HS : Hid _ := hS
  have HC : Hid _ := hC
  clear hS hC h hin hT
  go_enter Tryd.func26, Tryd.ntmps26
  go_wp2_with fail
  go_region
  go_wp2_with (first
    | (go_at_call 51; refine (CX.out _ HS.out HC.out).mono ?_; rintro e w' ⟨rfl, HE⟩)
    | (go_at_call 37; refine (CN.out _).mono ?_; rintro e w' ⟨rfl, rfl⟩))
  go_ret
  exact ⟨rfl, HE⟩
set_option maxRecDepth 8000 in
set_option maxHeartbeats 2000000 in
theorem do_g {w W : World} {b : Nat} {code : List UInt8} {a : Option Addr} {c place n : Nat} {ins st : List (List UInt8)} {v : Value} (h : SX w b (rowM code a ins.length c place n) st v W) (hin : IN w a ins) (hT : Tab w) (hn : n ≤ 300) (hp : place ≤ 1000) (x : UInt8) :
    Calls Tryd.prog 26 #[.pointer (some ⟨b, 0, none⟩), .string (M.bs [103, x])] W fun e w' => e = .returned (.int .i64 ((Q.act ins st [103, x]).1 : Int)) ∧ ∃ v', SX w b (rowM code a ins.length c (Q.next ⟨st, place, n⟩ [103, x]) (n + 1)) (Q.act ins st [103, x]).2 v' w' := by
  have e1 : Q.act ins st [103, x] = (0, st) := by unfold Q.act; simp
  have e2 : Q.next ⟨st, place, n⟩ [103, x] = x.toNat := by unfold Q.next; simp
  rw [e1, e2]
  clear e1 e2
  have hsz : (M.bs [103, x]).size = 2 := M.bs_size [103, x]
  have hi := idx_0 [103, x] 103 rfl
  have k3 := h.m3
  have k4 := h.m4
  have fb := h.fb
  have hlt := h.lt
  have CN : Hid (∀ W, Calls Tryd.prog 37 #[.string (M.bs [103, x])] W fun e w' => e = .returned (.int .i64 (x.toNat : Int)) ∧ w' = W) := fun W => number_at [103, x] x rfl W
  generalize x.toNat = k at *
  have HS : Hid (SX w b (rowM code a ins.length c k (n + 1)) st v ((((W.setCell ⟨b, 4, none⟩ (.int .i64 ((n : Int) + 1))).setCell ⟨b, 3, none⟩ (.int .i64 ((place : Int) + 2))).setCell ⟨b, 3, none⟩ (.int .i64 (k : Int))).alloc (.cells #[.string (M.bs [103, x])] 9)).drew) := by
    have h1 := h.setN (n + 1)
    have h2 := (h1.setP (place + 2)).setP k
    rw [show ((n + 1 : Nat) : Int) = (n : Int) + 1 by omega, show ((place + 2 : Nat) : Int) = (place : Int) + 2 by omega] at h2
    exact (h2.alloc _).drew
  generalize M.bs [103, x] = bsx at *
  clear h hin hT
  go_enter Tryd.func26, Tryd.ntmps26
  go_wp2_with fail
  go_region
  go_wp2_with (go_at_call 37; refine (CN.out _).mono ?_; rintro e w' ⟨rfl, rfl⟩)
  go_ret
  exact ⟨rfl, _, HS.out⟩
set_option maxRecDepth 8000 in
set_option maxHeartbeats 2000000 in
theorem do_p {w W : World} {b : Nat} {code : List UInt8} {a : Option Addr} {c place n : Nat} {ins st : List (List UInt8)} {v : Value} (h : SX w b (rowM code a ins.length c place n) st v W) (hin : IN w a ins) (hT : Tab w) (hn : n ≤ 300) (hp : place ≤ 1000) (x : UInt8) (r : List UInt8) (hr : r.length ≤ 1000) :
    Calls Tryd.prog 26 #[.pointer (some ⟨b, 0, none⟩), .string (M.bs (112 :: x :: r))] W fun e w' => e = .returned (.int .i64 ((Q.act ins st (112 :: x :: r)).1 : Int)) ∧ ∃ v', SX w b (rowM code a ins.length c (Q.next ⟨st, place, n⟩ (112 :: x :: r)) (n + 1)) (Q.act ins st (112 :: x :: r)).2 v' w' := by
  have e1 : Q.act ins st (112 :: x :: r) = Q.put st r := by unfold Q.act; simp
  have e2 : Q.next ⟨st, place, n⟩ (112 :: x :: r) = place + (r.length + 2) := by unfold Q.next; simp
  rw [e1, e2]
  clear e1 e2
  have hsz : (M.bs (112 :: x :: r)).size = r.length + 2 := M.bs_size _
  have hi := idx_0 (112 :: x :: r) 112 rfl
  have hex : (M.bs (112 :: x :: r)).extract 2 (r.length + 2) = M.bs r := by
    have := drop_bs (112 :: x :: r) 2
    rw [hsz] at this
    exact this
  have k3 := h.m3
  have k4 := h.m4
  have fb := h.fb
  have hlt := h.lt
  obtain ⟨L, hL⟩ : ∃ L, L = r.length + 2 := ⟨_, rfl⟩
  rw [← hL] at hsz hex ⊢
  have hL2 : 2 ≤ L := by omega
  have hL3 : L ≤ 1002 := by omega
  have hL4 : (2 : Int) ≤ (L : Int) := by omega
  have CX : Hid (∀ W2, SX w b (rowM code a ins.length c (place + L) (n + 1)) st v W2 → Calls Tryd.prog 38 #[.pointer (some ⟨b, 0, none⟩), .string (M.bs r)] W2 fun e w' => e = .returned (.int .i64 ((Q.put st r).1 : Nat)) ∧ ∃ v', SX w b (rowM code a ins.length c (place + L) (n + 1)) (Q.put st r).2 v' w') := fun W2 hs => put_at r hs (by omega)
  generalize Q.put st r = R at *
  obtain ⟨hS, hC⟩ := h.pre (M.bs (112 :: x :: r)) L L rfl
  generalize M.bs (112 :: x :: r) = bsx at *
  generalize M.bs r = br at *
  have HS : Hid _ := hS
  clear hS h hin hT hL
  go_enter Tryd.func26, Tryd.ntmps26
  go_wp2_with fail
  go_region
  go_wp2_with fail
  generalize ((((W.setCell ⟨b, 4, none⟩ (.int .i64 ((n : Int) + 1))).setCell ⟨b, 3, none⟩ (.int .i64 ((place : Int) + (L : Int)))).alloc (.cells #[.string bsx] 9)).drew) = W3 at *
  go_region_with (go_at_call 38; refine (CX.out _ (by first | exact HS.out | exact HS.out.drew)).mono ?_; rintro e w' ⟨rfl, HE⟩)
  all_goals go_wp2_with fail
  all_goals go_ret
  all_goals exact ⟨rfl, HE⟩
end Go.Proofs.YtodcafmhaleemaaDoor
