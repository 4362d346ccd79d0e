/- A scout, on lists. -/
import Derived.Test.YtebmgajijjhinaaHuMath
namespace Go.Proofs.Ytebmgajijjhinaa.SO
set_option linter.unusedVariables false
set_option linter.unusedSimpArgs false

/-- a ping that another node asked for -/
structure Er where
  seq : Int
  node : Int
  asker : Int
  asked : Int
  closed : Bool
structure Sc where
  me : Int
  n : Int
  f : K.Vw
  F : HU.St
  now : Int
  sn : Int → Int
  line : List Int
  seq : Int
  pn : Int
  ps : Int
  ph : List Int
  pa : Bool
  er : List Er
/-- a frame that is sent: to whom, and what a scout looks at -/
structure Fr where
  dst : Int
  kind : Int
  frm : Int
  seq : Int
  node : Int
  rum : List K.Me
def of (s : Sc) (k : Int) : K.Me := (s.f k).getD (0, 0, 0)
def learn (s : Sc) (m : K.Me) : Sc := if K.news s.f m = true then { s with f := K.stp s.f m, F := HU.put 5 s.F m, sn := fun k => if k = m.1 then s.now else s.sn k } else s
def turn (s : Sc) (k st : Int) : Sc := learn s ((of s k).1, (of s k).2.1, st)
def remind (s : Sc) (k : Int) : Sc := { s with F := HU.put 5 s.F (of s k) }
def isP (s : Sc) (k : Int) : Bool := (K.pres s.f).contains k
def oth (s : Sc) : List Int := (K.pres s.f).filter (fun k => !(k == s.me))
def left (s : Sc) : Bool := (of s s.me).2.2 == 3
def those (s : Sc) (p : K.Me → Bool) : List Int := ((K.all s.f).filter p).map (·.1)
def overdue (s : Sc) (m : K.Me) : Bool := m.2.2 == 1 && decide (s.now - s.sn m.1 ≥ 8)
def other (s : Sc) (k : Int) : Bool := decide (1 ≤ k) && decide (k ≤ s.n) && !(k == s.me)
/-- one frame is sent -/
def tell1 (s : Sc) (x : Fr) : Sc × Fr := ({ s with F := HU.took s.F (HU.cnt s.F 6) }, { x with frm := s.me, rum := HU.told s.F (HU.cnt s.F 6) })
def tellS : Sc → List Fr → Sc
  | s, [] => s
  | s, x :: r => tellS (tell1 s x).1 r
def tellL : Sc → List Fr → List Fr
  | s, [] => []
  | s, x :: r => (tell1 s x).2 :: tellL (tell1 s x).1 r
theorem tellS_app : ∀ (s : Sc) (a b : List Fr), tellS s (a ++ b) = tellS (tellS s a) b
  | s, [], b => rfl
  | s, x :: r, b => tellS_app (tell1 s x).1 r b
theorem tellL_app : ∀ (s : Sc) (a b : List Fr), tellL s (a ++ b) = tellL s a ++ tellL (tellS s a) b
  | s, [], b => rfl
  | s, x :: r, b => by
    show (tell1 s x).2 :: tellL (tell1 s x).1 (r ++ b) = _
    rw [tellL_app]; rfl
theorem tellL_len : ∀ (s : Sc) (a : List Fr), (tellL s a).length = a.length
  | s, [] => rfl
  | s, x :: r => by
    show (tellL (tell1 s x).1 r).length + 1 = _
    rw [tellL_len]; rfl
theorem tellS_take {s : Sc} {l : List Fr} {k : Nat} {x : Fr} (h : l[k]? = some x) : tellS s (l.take (k + 1)) = (tell1 (tellS s (l.take k)) x).1 := by
  rw [List.take_add_one, h, Option.toList_some, tellS_app]; rfl
theorem tellL_take {s : Sc} {l : List Fr} {k : Nat} {x : Fr} (h : l[k]? = some x) : tellL s (l.take (k + 1)) = tellL s (l.take k) ++ [(tell1 (tellS s (l.take k)) x).2] := by
  rw [List.take_add_one, h, Option.toList_some, tellL_app]; rfl
def ping (tt seq : Int) : Fr := ⟨tt, 1, 0, seq, 0, []⟩
def ack (tt seq node : Int) : Fr := ⟨tt, 2, 0, seq, node, []⟩
def askF (tt seq node : Int) : Fr := ⟨tt, 3, 0, seq, node, []⟩
/-- two change places -/
def swp (l : List Int) (i j : Nat) : List Int := (l.set i (l.getD j 0)).set j (l.getD i 0)
def mixN : Nat → List Int → Int → List Int
  | 0, l, _ => l
  | i + 1, l, d => mixN i (swp l (i + 1) (d % ((i : Int) + 2)).toNat) (d.tdiv ((i : Int) + 2))
def mix (l : List Int) (d : Int) : List Int := mixN (l.length - 1) l d
/-- the next one in line -/
def nextL (s : Sc) (d : Int) : Option Int × Sc :=
  match s.line.dropWhile (fun k => !isP s k) with
  | x :: r => (some x, { s with line := r })
  | [] => match mix (oth s) d with
    | x :: r => (some x, { s with line := r })
    | [] => (none, { s with line := [] })
def rnd (s : Sc) : Int := (s.now - 1).tdiv 4 + 1
def sought (s : Sc) : Option Int :=
  if (rnd s).tmod 4 ≠ 0 then none else (those s (fun m => !isP s m.1))[(((rnd s).tdiv 4).tmod (those s (fun m => !isP s m.1)).length).toNat]?
def ask1 (s : Sc) (k : Int) : Sc := { s with seq := s.seq + 1, pn := k, ps := s.seq + 1, ph := [], pa := false }
def ask0 (s : Sc) : Sc := { s with pn := 0, ps := 0, ph := [], pa := false }
def ask (s : Sc) (d : Int) : Sc × List Fr :=
  match sought (ask0 s) with
  | some k => (tellS (ask1 (remind (ask0 s) k) k) [ping k (s.seq + 1)], tellL (ask1 (remind (ask0 s) k) k) [ping k (s.seq + 1)])
  | none => match nextL (ask0 s) d with
    | (some k, s') => (tellS (ask1 s' k) [ping k (s.seq + 1)], tellL (ask1 s' k) [ping k (s.seq + 1)])
    | (none, s') => (s', [])
def isOpen (s : Sc) : Bool := !(s.pn == 0) && !s.pa
def helpers (s : Sc) : List Int := ((oth s).filter (fun k => decide (k > s.pn)) ++ (oth s).filter (fun k => decide (k < s.pn))).take 2
def askH (s : Sc) : Sc × List Fr :=
  if isOpen s = true then (tellS { s with ph := helpers s } ((helpers s).map (fun h => askF h s.ps s.pn)), tellL { s with ph := helpers s } ((helpers s).map (fun h => askF h s.ps s.pn))) else (s, [])
def doubt (s : Sc) : Sc := if (isOpen s && ((of s s.pn).2.2 == 0)) = true then turn s s.pn 1 else s
def gone (s : Sc) (l : List Int) : Sc := l.foldl (fun s k => turn s k 2) s
def over (s : Sc) : Sc := gone s (those s (overdue s))
def tick0 (s : Sc) : Sc := { s with now := s.now + 1 }
def mid (s : Sc) (d : Int) : Sc × List Fr :=
  if (s.now - 1).tmod 4 = 0 then ask s d else if (s.now - 1).tmod 4 = 2 then askH s else if (s.now - 1).tmod 4 = 3 then (doubt s, []) else (s, [])
def tick (s : Sc) (d : Int) : Sc × List Fr :=
  if left (tick0 s) = true then (tick0 s, []) else (over (mid (tick0 s) d).1, (mid (tick0 s) d).2)
def rum1 (s : Sc) (m : K.Me) : Sc := if other s m.1 = true then learn s m else s
def rum2 (s : Sc) (m : K.Me) : Sc := if K.above (of s s.me) m = true then remind s s.me else s
def rum3 (s : Sc) (m : K.Me) : Sc := if (K.above m (of s s.me) && decide (m.2.1 < 1073741824)) = true then learn s (s.me, m.2.1 + 1, 0) else s
def rum (s : Sc) (m : K.Me) : Sc := if (!(m.1 == s.me) || left (rum1 s m)) = true then rum1 s m else rum3 (rum2 (rum1 s m) m) m
def rums (s : Sc) (l : List K.Me) : Sc := l.foldl rum s
def heed (s : Sc) (f : Fr) : Sc := if ((of s f.frm).2.2 == 0) = true then s else remind s f.frm
/-- an answer comes to who asked -/
def pHear (s : Sc) (f : Fr) : Sc := if (decide (f.seq = s.ps) && decide (f.node = s.pn) && (decide (f.frm = s.pn) || s.ph.contains f.frm)) = true then { s with pa := true } else s
def addE (l : List Er) (e : Er) : List Er := if l.length + 1 > 16 then (l ++ [e]).drop 1 else l ++ [e]
def errand (s : Sc) (f : Fr) : Sc × List Fr :=
  if (other s f.node && !(f.node == f.frm)) = true then (tellS { s with seq := s.seq + 1, er := addE s.er ⟨s.seq + 1, f.node, f.frm, f.seq, false⟩ } [ping f.node (s.seq + 1)], tellL { s with seq := s.seq + 1, er := addE s.er ⟨s.seq + 1, f.node, f.frm, f.seq, false⟩ } [ping f.node (s.seq + 1)]) else (s, [])
def fitE (f : Fr) (e : Er) : Bool := (e.seq == f.seq) && (e.node == f.frm) && !e.closed
def shut (e : Er) : Er := { e with closed := true }
def closeL (f : Fr) : List Er → List Er
  | [] => []
  | e :: r => if fitE f e = true then shut e :: r else e :: closeL f r
def ackE (s : Sc) (f : Fr) : Sc × List Fr :=
  match s.er.find? (fitE f) with
  | some e => (tellS { s with er := closeL f s.er } [ack e.asker e.asked e.node], tellL { s with er := closeL f s.er } [ack e.asker e.asked e.node])
  | none => (s, [])
def act (s : Sc) (f : Fr) : Sc × List Fr :=
  if f.kind = 1 then (tellS s [ack f.frm f.seq s.me], tellL s [ack f.frm f.seq s.me]) else if f.kind = 3 then errand s f else if f.kind = 2 then ackE (pHear s f) f else (s, [])
def hear (s : Sc) (f : Fr) : Sc × List Fr :=
  if other s f.frm = true then (if left (rums (heed s f) f.rum) = true then (rums (heed s f) f.rum, []) else act (rums (heed s f) f.rum) f) else (s, [])
def leave (s : Sc) : Sc × List Fr :=
  if left s = true then (s, []) else (tellS (turn s s.me 3) ((oth (turn s s.me 3)).map (fun k => ack k 0 s.me)), tellL (turn s s.me 3) ((oth (turn s s.me 3)).map (fun k => ack k 0 s.me)))
/-- all nodes are alive -/
def f0 (n : Nat) : K.Vw := (List.range n).foldl (fun f (i : Nat) => K.stp f ((i : Int) + 1, 0, 0)) K.e0
def new (me : Int) (n : Nat) : Sc := ⟨me, n, f0 n, HU.e0, 0, fun _ => 0, [], 0, 0, 0, [], false, []⟩
theorem f0_succ (n : Nat) : f0 (n + 1) = K.stp (f0 n) ((n : Int) + 1, 0, 0) := by
  unfold f0
  rw [List.range_succ, List.foldl_append]; rfl
end Go.Proofs.Ytebmgajijjhinaa.SO
