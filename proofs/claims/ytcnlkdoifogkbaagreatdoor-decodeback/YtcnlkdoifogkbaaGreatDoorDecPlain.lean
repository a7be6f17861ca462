/-
  Bytes as an icon, said plainly: number by number, the first that is amiss and where.
-/
import Derived.Test.YtcnlkdoifogkbaaGreatDoorEncPlain
namespace Go.Proofs.YtcnlkdoifogkbaaGreatDoor
namespace DP
open IC

/-- What a reader has read so far. -/
structure St where
  at' : Nat
  far : Int
  cols : List Col
  used : Nat
  pts : Nat
  cl : Bool

/-- An error, by its place among package api's from 0 on; the place around it. -/
abbrev Bad := Nat × Nat
abbrev P (α : Type) := St → Except Bad (α × St)

def ret {α : Type} (a : α) : P α := fun s => .ok (a, s)
def andThen {α β : Type} (p : P α) (f : α → P β) : P β := fun s => match p s with
  | .error e => .error e
  | .ok (a, s') => f a s'

theorem andThen_ok {α β : Type} {p : P α} {f : α → P β} {s s' : St} {a : α} (h : p s = .ok (a, s')) : andThen p f s = f a s' := by unfold andThen; rw [h]
theorem andThen_err {α β : Type} {p : P α} {f : α → P β} {s : St} {e : Bad} (h : p s = .error e) : andThen p f s = .error e := by unfold andThen; rw [h]

abbrev eRange : Nat := 4
abbrev eLimit : Nat := 5
abbrev eShort : Nat := 6
abbrev eMagic : Nat := 7
abbrev eVarint : Nat := 8
abbrev eCanon : Nat := 9
abbrev eTrail : Nat := 10

def num (b : List Nat) (rule : Nat → Option Nat) : P Nat := fun s => match WP.dec 0 0 (b.drop s.at') with
  | .error v => .error (if v then eVarint else eShort, s.at')
  | .ok (n, k) => match rule n with
    | none => .ok (n, { s with at' := s.at' + k })
    | some c => .error (c, s.at')

def between (lo hi n : Nat) : Option Nat := if n < lo ∨ hi < n then some eRange else none
def atMost (m n : Nat) : Option Nat := if m < n then some eLimit else none
def cmdRule (n : Nat) : Option Nat := if 2 < n / 4 ∨ n % 4 = 3 then some eRange else none
def pathsRule (n : Nat) : Option Nat := if n = 0 then some eRange else atMost 200 n
def placeRule (cols used n : Nat) : Option Nat := if cols ≤ n then some eRange else if used < n then some eCanon else none
def pathRule (cl : Bool) (n : Nat) : Option Nat := if n / 2 = 0 then some eRange else if n % 2 = 1 ∧ cl = false then some eCanon else none
def runRule (kind segs pts n : Nat) : Option Nat := if n % 4 = 0 ∨ n / 4 = 0 then some eRange else if n % 4 = kind then some eCanon else if 400 < segs + n / 4 ∨ 4000 < pts + n % 4 * (n / 4) then some eLimit else none
def zag (n : Nat) : Int := if n % 2 = 1 then -((n / 2 : Nat) : Int) - 1 else ((n / 2 : Nat) : Int)
def partRule (far ahead : Int) (n : Nat) : Option Nat := if zag n < -far - ahead ∨ far - ahead < zag n then some eRange else none

def part (b : List Nat) (ahead : Int) : P Int := fun s => andThen (num b (partRule s.far ahead)) (fun n => ret (ahead + zag n)) s
def point (b : List Nat) (q : Pt) : P Pt := andThen (part b q.x) fun x => andThen (part b q.y) fun y => ret ⟨x, y⟩
def length (b : List Nat) : P Nat := fun s => num b (between 1 s.far.toNat) s
def place (b : List Nat) : P Nat := fun s => andThen (num b (placeRule s.cols.length s.used)) (fun n s' => .ok (n, { s' with used := if n = s'.used then s'.used + 1 else s'.used })) s

def other (b : List Nat) (p : Pt) : P Pt := andThen (part b 0) fun x s => andThen (part b 0) (fun y s' => if p.x = x ∧ p.y = y then .error (eRange, s.at') else .ok (⟨x, y⟩, s')) s

def paint (b : List Nat) (k : Nat) : P Paint := andThen (place b) fun a =>
  if k = 0 then ret ⟨0, a, 0, ⟨0, 0⟩, ⟨0, 0⟩⟩
  else andThen (place b) fun c => andThen (point b ⟨0, 0⟩) fun p =>
    if k = 1 then andThen (other b p) fun q => ret ⟨1, a, c, p, q⟩
    else andThen (length b) fun r => ret ⟨k, a, c, p, ⟨r, 0⟩⟩

/-- So many points, each from the one ahead. -/
def pts (b : List Nat) : Nat → List Pt → Pt → P (List Pt × Pt)
  | 0, acc, q => ret (acc, q)
  | n + 1, acc, q => andThen (point b q) fun p => pts b n (acc ++ [p]) p

def segOf (k : Nat) (l : List Pt) : Seg := ⟨k, l.getD 0 ⟨0, 0⟩, l.getD 1 ⟨0, 0⟩, l.getD 2 ⟨0, 0⟩⟩
def seg (b : List Nat) (k : Nat) (q : Pt) : P (Seg × Pt) := andThen (pts b k [] q) fun r s => .ok ((segOf k r.1, r.2), { s with pts := s.pts + k })

def segs (b : List Nat) (k : Nat) : Nat → List Seg → Pt → P (List Seg × Pt)
  | 0, acc, q => ret (acc, q)
  | n + 1, acc, q => andThen (seg b k q) fun r => segs b k n (acc ++ [r.1]) r.2

def runs (b : List Nat) : Nat → Nat → List Seg → Pt → P (List Seg)
  | 0, _, acc, _ => ret acc
  | n + 1, kind, acc, q => fun s => andThen (num b (runRule kind acc.length s.pts)) (fun x => andThen (segs b (x % 4) (x / 4) [] q) fun r => runs b n (x % 4) (acc ++ r.1) r.2) s

/-- A list's handle that says nothing. -/
def nov : Value := .slice none 0 0

def path (b : List Nat) : P Path := fun s => andThen (num b (pathRule s.cl)) (fun n => andThen (point b ⟨0, 0⟩) fun p s1 => andThen (runs b (n / 2) 0 [] p) (fun l => ret ⟨p, nov, l, decide (n % 2 = 1)⟩) { s1 with pts := s1.pts + 1 }) s

def list {α : Type} (one : P α) : Nat → List α → P (List α)
  | 0, acc => ret acc
  | n + 1, acc => andThen one fun x => list one n (acc ++ [x])

def cmd (b : List Nat) : P Cmd := andThen (num b cmdRule) fun n => andThen (if n % 2 = 1 then length b else ret 0) fun wd =>
  andThen (paint b (n / 4)) fun p s => andThen (num b pathsRule) (fun m => andThen (list (path b) m []) fun l => ret ⟨(n % 2 : Nat) + 1, (n / 2 % 2 : Nat), wd, p, nov, l⟩) { s with cl := decide (n % 2 = 1) }

def colAt (b : List Nat) (i : Nat) : Col := ⟨(b.getD i 0 : Nat), (b.getD (i + 1) 0 : Nat), (b.getD (i + 2) 0 : Nat), (b.getD (i + 3) 0 : Nat)⟩
def col (b : List Nat) : P Col := fun s =>
  if b.length < s.at' + 4 then .error (eShort, s.at')
  else if s.cols.any (sameCol (colAt b s.at')) then .error (eCanon, s.at')
  else .ok (colAt b s.at', { s with cols := s.cols ++ [colAt b s.at'], at' := s.at' + 4 })

def fin (b : List Nat) : P Unit := fun s => if s.used < s.cols.length then .error (eCanon, s.at') else if s.at' < b.length then .error (eTrail, s.at') else .ok ((), s)

def magic (b : List Nat) : P Unit := fun s => if b.length < 4 then .error (eShort, 0) else if b.take 4 = [71, 76, 89, 49] then .ok ((), { s with at' := 4 }) else .error (eMagic, 0)

def st0 : St := ⟨0, 0, [], 0, 0, false⟩

def most (b : List Nat) : P Icon := andThen (magic b) fun _ => andThen (num b (between 1 4096)) fun wd => andThen (num b (between 1 4096)) fun ht => andThen (num b (between 0 6)) fun sc s =>
  andThen (num b (atMost 256)) (fun n => andThen (list (col b) n []) fun cs => andThen (num b (atMost 200)) fun m => andThen (list (cmd b) m []) fun ms => ret ⟨wd, ht, sc, nov, cs, nov, ms⟩) { s with far := IC.greatest ⟨wd, ht, sc, nov, [], nov, []⟩ }

def body (b : List Nat) : P Icon := andThen (most b) fun i => andThen (fin b) fun _ => ret i

def icon (b : List Nat) : Except Bad Icon := if 60000 < b.length then .error (eLimit, 60000) else match body b st0 with
  | .error e => .error e
  | .ok (i, _) => .ok i

end DP
end Go.Proofs.YtcnlkdoifogkbaaGreatDoor
