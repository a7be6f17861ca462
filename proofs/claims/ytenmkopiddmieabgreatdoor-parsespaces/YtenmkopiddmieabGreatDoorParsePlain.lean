/-
  A text's words as a written icon, said plainly: what each piece reads, what it leaves, the first that is amiss and where.
-/
import Derived.Test.YtenmkopiddmieabGreatDoorJA
import Derived.Test.YtenmkopiddmieabGreatDoorNumA
import Derived.Test.YtenmkopiddmieabGreatDoorColorPlain
namespace Go.Proofs.YtenmkopiddmieabGreatDoor
namespace PP

abbrev Tx := List UInt8
def k_icon : Tx := [105, 99, 111, 110]
def k_scale : Tx := [115, 99, 97, 108, 101]
def k_const : Tx := [99, 111, 110, 115, 116]
def k_color : Tx := [99, 111, 108, 111, 114]
def k_shape : Tx := [115, 104, 97, 112, 101]
def k_fill : Tx := [102, 105, 108, 108]
def k_evenodd : Tx := [101, 118, 101, 110, 111, 100, 100]
def k_nonzero : Tx := [110, 111, 110, 122, 101, 114, 111]
def k_line : Tx := [108, 105, 110, 101]
def k_linear : Tx := [108, 105, 110, 101, 97, 114]
def k_radial : Tx := [114, 97, 100, 105, 97, 108]
def k_path : Tx := [112, 97, 116, 104]
def k_use : Tx := [117, 115, 101]
def k_at : Tx := [97, 116]
def k_by : Tx := [98, 121]
def k_turn : Tx := [116, 117, 114, 110]
def m_semi : Tx := [59]
def m_open : Tx := [123]
def m_shut : Tx := [125]
def m_eq : Tx := [61]

structure Val where
  name : Tx
  n : Int
  pos : Nat
structure Col where
  r : Nat
  g : Nat
  b : Nat
  a : Nat
structure Ref where
  name : Tx
  c : Col
  pos : Nat
structure Step where
  kind : Nat
  pos : Nat
  vs : List Val
structure Item where
  use : Bool
  pos : Nat
  steps : List Step
  name : Tx
  x : Val
  y : Val
  by' : Val
  turn : Nat
structure Shape where
  name : Tx
  pos : Nat
  items : List Item
structure Paint where
  kind : Nat
  a : Ref
  b : Ref
  p0 : Val
  p1 : Val
  p2 : Val
  p3 : Val
structure Cmd where
  kind : Nat
  rule : Nat
  pos : Nat
  width : Val
  paint : Paint
  items : List Item
structure Src where
  w : Nat
  h : Nat
  scale : Nat
  consts : List Val
  colors : List Ref
  shapes : List Shape
  cmds : List Cmd

def v0 : Val := ⟨[], 0, 0⟩
def c0 : Col := ⟨0, 0, 0, 0⟩
def r0 : Ref := ⟨[], c0, 0⟩

/-- What is left of the words, the text's length, and the first that was amiss: its error's number, its place. -/
structure St where
  fin : Nat
  ws : List WP.W
  er : Option (Nat × Nat)

def St.nx (s : St) : WP.W := s.ws.headD (0, s.fin, [])
def St.tl (s : St) : St := ⟨s.fin, s.ws.tail, s.er⟩
def St.fail (c : Nat) (s : St) : St := ⟨s.fin, [], some (s.er.getD (c, s.nx.2.1))⟩
def St.is (s : St) (t : Tx) : Bool := s.nx.2.2 == t
def St.skip (t : Tx) (s : St) : St := if s.is t = true then s.tl else s.fail 0
def St.need (k : Nat) (s : St) : St := if s.nx.1 = k then s else s.fail 0
def St.more (most n : Nat) (s : St) : St := if n = most then s.fail 5 else s

/-- The next word as a number, a color, a whole one: tells what it is, and what is left. -/
def numb (s : St) : Int × St := match NP.parse s.nx.2.2 with
  | some n => (n, s.tl)
  | none => (0, (s.fail 0).tl)
def colOf (t : Tx) : Option Col := match CP.parse (t.map UInt8.toNat) with
  | some [r, g, b, a] => some ⟨r, g, b, a⟩
  | _ => none
def colr (s : St) : Col × St := match colOf s.nx.2.2 with
  | some c => (c, s.tl)
  | none => (c0, (s.fail 0).tl)
def whol (s : St) : Nat × St := match NP.whole s.nx.2.2 with
  | some n => (n, s.tl)
  | none => (0, (s.fail 0).tl)
def turn (s : St) : Nat × St := whol (match NP.whole s.nx.2.2 with
  | some n => if 3 < n then s.fail 5 else s
  | none => s)
def nameW (s : St) : WP.W × St := ((s.need 1).nx, (s.need 1).tl)
def val (s : St) : Val × St := if s.nx.1 = 1 then (⟨s.nx.2.2, 0, s.nx.2.1⟩, s.tl) else (⟨[], (numb s).1, s.nx.2.1⟩, (numb s).2)
def ref (s : St) : Ref × St := if s.nx.1 = 1 then (⟨s.nx.2.2, c0, s.nx.2.1⟩, s.tl) else (⟨[], (colr s).1, s.nx.2.1⟩, (colr s).2)
def vals : Nat → St → List Val × St
  | 0, s => ([], s)
  | n + 1, s => ((val s).1 :: (vals n (val s).2).1, (vals n (val s).2).2)

def letter (t : Tx) : Nat × Nat :=
  if t = [77] then (1, 2) else if t = [76] then (2, 2) else if t = [81] then (3, 4) else if t = [67] then (4, 6) else if t = [65] then (5, 2) else if t = [66] then (6, 2) else if t = [90] then (7, 0) else (0, 0)
def step (s : St) : Step × St := (⟨(letter s.nx.2.2).1, s.nx.2.1, (vals (letter s.nx.2.2).2 s.tl).1⟩, (vals (letter s.nx.2.2).2 s.tl).2)
def stepsGo : Nat → List Step → St → List Step × St
  | 0, l, s => (l, s)
  | f + 1, l, s => if s.nx.1 = 6 then stepsGo f (l ++ [(step (s.more 1000 l.length)).1]) (step (s.more 1000 l.length)).2 else (l, s)
def steps (s : St) : List Step × St := stepsGo ((s.need 6).ws.length + 1) [] (s.need 6)
def path (s : St) : Item × St := (⟨false, s.nx.2.1, (steps (s.skip k_path)).1, [], v0, v0, v0, 0⟩, (steps (s.skip k_path)).2.skip m_semi)
def useBy (p : Nat) (s : St) : Val × St := if s.is k_by = true then val s.tl else (⟨[], 1000000, p⟩, s)
def useTurn (s : St) : Nat × St := if s.is k_turn = true then turn s.tl else (0, s)
def use (s : St) : Item × St :=
  let p := s.nx.2.1
  let n := nameW (s.skip k_use)
  let x := val (n.2.skip k_at)
  let y := val x.2
  let b := useBy p y.2
  let t := useTurn b.2
  (⟨true, p, [], n.1.2.2, x.1, y.1, b.1, t.1⟩, t.2.skip m_semi)
def item (s : St) : Item × St := if s.is k_path = true then path s else use s
def itemsGo : Nat → List Item → St → List Item × St
  | 0, l, s => (l, s)
  | f + 1, l, s => if (s.is k_path || s.is k_use) = true then itemsGo f (l ++ [(item (s.more 400 l.length)).1]) (item (s.more 400 l.length)).2 else (l, s)
def items (s : St) : List Item × St := ((itemsGo ((s.skip m_open).ws.length + 1) [] (s.skip m_open)).1, (itemsGo ((s.skip m_open).ws.length + 1) [] (s.skip m_open)).2.skip m_shut)

def rule (s : St) : Nat × St := if s.is k_nonzero = true then (1, s.tl) else (0, s.skip k_evenodd)
def between (kind n : Nat) (s : St) : Paint × St :=
  let a := ref s
  let b := ref a.2
  let v := vals n b.2
  (⟨kind, a.1, b.1, v.1.getD 0 v0, v.1.getD 1 v0, v.1.getD 2 v0, v.1.getD 3 v0⟩, v.2)
def paint (s : St) : Paint × St :=
  if s.is k_linear = true then between 1 4 s.tl
  else if s.is k_radial = true then between 2 3 s.tl
  else (⟨0, (ref s).1, r0, v0, v0, v0, v0⟩, (ref s).2)
def cmd (s : St) : Cmd × St :=
  if s.is k_fill = true then
    let r := rule s.tl
    let p := paint r.2
    let i := items p.2
    (⟨1, r.1, s.nx.2.1, v0, p.1, i.1⟩, i.2)
  else
    let v := val (s.skip k_line)
    let p := paint v.2
    let i := items p.2
    (⟨2, 0, s.nx.2.1, v.1, p.1, i.1⟩, i.2)
def const (s : St) : Val × St :=
  let w := nameW s
  let n := numb (w.2.skip m_eq)
  (⟨w.1.2.2, n.1, w.1.2.1⟩, n.2.skip m_semi)
def named (s : St) : Ref × St :=
  let w := nameW s
  let n := colr (w.2.skip m_eq)
  (⟨w.1.2.2, n.1, w.1.2.1⟩, n.2.skip m_semi)
def shape (s : St) : Shape × St :=
  let w := nameW s
  let i := items w.2
  (⟨w.1.2.2, w.1.2.1, i.1⟩, i.2)

def part (x : Src) (s : St) : Src × St :=
  if s.is k_const = true then
    let r := const ((s.tl.need 1).more 64 x.consts.length)
    ({ x with consts := x.consts ++ [r.1] }, r.2)
  else if s.is k_color = true then
    let r := named ((s.tl.need 1).more 64 x.colors.length)
    ({ x with colors := x.colors ++ [r.1] }, r.2)
  else if s.is k_shape = true then
    let r := shape ((s.tl.need 1).more 64 x.shapes.length)
    ({ x with shapes := x.shapes ++ [r.1] }, r.2)
  else if (s.is k_fill || s.is k_line) = true then
    let r := cmd (s.more 200 x.cmds.length)
    ({ x with cmds := x.cmds ++ [r.1] }, r.2)
  else (x, s.fail 0)
def partsGo : Nat → Src → St → Src × St
  | 0, x, s => (x, s)
  | f + 1, x, s => if s.ws.length = 0 then (x, s) else partsGo f (part x s).1 (part x s).2
def headGo (s : St) : Src × St :=
  let w := whol (s.skip k_icon)
  let h := whol w.2
  let c := if h.2.is k_scale = true then whol h.2.tl else (0, h.2)
  (⟨w.1, h.1, c.1, [], [], [], []⟩, c.2.skip m_semi)
def icon (s : St) : Src × St := partsGo ((headGo s).2.ws.length + 1) (headGo s).1 (headGo s).2

def start (n : Nat) (ws : List WP.W) : St := ⟨n, ws, none⟩
/-- A text as a written icon, or the first that is amiss, and where. -/
def src (l : Tx) : Except (Nat × Nat) Src := match WP.split l with
  | .error n => .error (0, n)
  | .ok ws => match (icon (start l.length ws)).2.er with
    | some e => .error e
    | none => .ok (icon (start l.length ws)).1

end PP
end Go.Proofs.YtenmkopiddmieabGreatDoor
