/- A tree of files as plain data, and what is done to it. No condition. -/
import Derived.Test.YtohgecmbkjienaaFlI
namespace Go.Proofs.Ytohgecmbkjienaa
open Go.RowKit

abbrev Ents := List En
def nms (l : Ents) : List ByteArray := l.map (·.1)
/-- The number that a name stands for; 0 of none. -/
def lookM (l : Ents) (x : ByteArray) : Nat := if has (nms l) x then ((l[pos (nms l) x]?).map (·.2)).getD 0 else 0
def addM (l : Ents) (x : ByteArray) (n : Nat) : Ents := ins l (pos (nms l) x) (x, n)
def remM (l : Ents) (x : ByteArray) : Ents := if has (nms l) x then l.eraseIdx (pos (nms l) x) else l
def nameM : Ents → Nat → ByteArray
  | [], _ => ⟨#[]⟩
  | e :: l, n => if e.2 = n then e.1 else nameM l n
/-- An inode. -/
structure Ino where
  kind : Nat
  mode : Int
  links : Nat
  holds : Nat
  data : List UInt8
  ents : Ents
  parent : Nat
def Ino.isDir (I : Ino) : Bool := I.kind == 2
/-- The bits that are told of: of the owner. -/
def mayM (mode want : Int) : Bool := bits .and .i64 (wrap64 (mode.tdiv 64)) want == want
def Ino.may (I : Ino) (want : Int) : Bool := mayM I.mode want
def Ino.size (I : Ino) : Nat := if I.isDir then I.ents.length else I.data.length
def resM (l : List UInt8) (n : Nat) : List UInt8 := if n ≤ l.length then l.take n else l ++ List.replicate (n - l.length) 0
def modeM (m : Int) : Int := bits .and .i64 m 511

/-- The slots. -/
abbrev Fs := List (Option Ino)
def node (f : Fs) (n : Int) : Option Ino := if n < 1 then none else (f[(n - 1).toNat]?).join
def putAt (f : Fs) (n : Nat) (x : Option Ino) : Fs := f.set (n - 1) x
def isDir (f : Fs) (n : Int) : Bool := match node f n with
  | some I => I.isDir
  | none => false
/-- Where what is new lies: in the first free slot. -/
def free : Fs → Nat
  | [] => 0
  | none :: _ => 0
  | some _ :: l => free l + 1
def putNew (f : Fs) (I : Ino) : Fs := if free f < f.length then f.set (free f) (some I) else f ++ [some I]
def bytesM : Fs → Nat
  | [] => 0
  | none :: l => bytesM l
  | some I :: l => I.data.length + bytesM l
def countM : Fs → Nat
  | [] => 0
  | none :: l => countM l
  | some _ :: l => countM l + 1
def newM : Fs := [some ⟨2, 493, 1, 0, [], [], 1⟩]
/-- What nothing names or holds any more is let go. -/
def relM (f : Fs) (n : Nat) : Fs := match node f n with
  | some I => if I.links = 0 ∧ I.holds = 0 then putAt f n none else f
  | none => f

/-- What stands between the /. -/
def piecesGo : List UInt8 → List UInt8 → List (List UInt8)
  | acc, [] => if acc = [] then [] else [acc]
  | acc, b :: l => if b = 47 then (if acc = [] then piecesGo [] l else acc :: piecesGo [] l) else piecesGo (acc ++ [b]) l
def pieces (s : ByteArray) : List ByteArray := (piecesGo [] s.data.toList).map fun l => ⟨l.toArray⟩
def slashed (s : ByteArray) : Bool := s.data.toList.getLast? == some 47
/-- Where a way begins: the inode, and an error. -/
def beginM (dir : Int) (s : ByteArray) : Int × Nat :=
  if s.size = 0 then (0, 2) else if 256 < s.size then (0, 36) else if s.data.toList.head? = some 47 then (1, 0) else (dir, 0)
def enterM (f : Fs) (n : Int) : Nat := match node f n with
  | none => 20
  | some I => if I.isDir then (if I.may 1 then 0 else 13) else 20
def dotT : ByteArray := ⟨#[46]⟩
def dotsT : ByteArray := ⟨#[46, 46]⟩
/-- One step of a way. -/
def stepM (f : Fs) (n : Int) (p : ByteArray) : Int × Nat :=
  if enterM f n ≠ 0 then (0, enterM f n) else match node f n with
  | none => (0, 2)
  | some I =>
    if p = dotT then (if n = 0 then (0, 2) else (n, 0))
    else if p = dotsT then (if 0 < I.links ∧ I.parent ≠ 0 then ((I.parent : Int), 0) else (0, 2))
    else if 32 < p.size then (0, 36)
    else if lookM I.ents p = 0 then (0, 2) else ((lookM I.ents p : Int), 0)
def stepsM (f : Fs) : Int → List ByteArray → Int × Nat
  | n, [] => (n, 0)
  | n, p :: l => if (stepM f n p).2 ≠ 0 then (0, (stepM f n p).2) else stepsM f (stepM f n p).1 l
def walkM (f : Fs) (dir : Int) (s : ByteArray) : Int × Nat :=
  if (beginM dir s).2 ≠ 0 then (0, (beginM dir s).2)
  else if (stepsM f (beginM dir s).1 (pieces s)).2 ≠ 0 then (0, (stepsM f (beginM dir s).1 (pieces s)).2)
  else if slashed s && !isDir f (stepsM f (beginM dir s).1 (pieces s)).1 then (0, 20)
  else ((stepsM f (beginM dir s).1 (pieces s)).1, 0)
/-- What Walk answers. -/
def WalkM (f : Fs) (dir : Int) (s : ByteArray) : Int × Nat := if isDir f dir then walkM f dir s else (0, 9)
def aheadsM (f : Fs) : Int → ByteArray → List ByteArray → Int × ByteArray × Nat
  | n, last, [] => (n, last, 0)
  | n, last, p :: l =>
    if last.size = 0 then aheadsM f n p l
    else if (stepM f n last).2 ≠ 0 then (0, ⟨#[]⟩, (stepM f n last).2) else aheadsM f (stepM f n last).1 p l
def lastM (f : Fs) (r : Int × ByteArray × Nat) : Int × ByteArray × Nat :=
  if r.2.2 ≠ 0 then (0, ⟨#[]⟩, r.2.2)
  else if enterM f r.1 ≠ 0 then (0, ⟨#[]⟩, enterM f r.1)
  else if r.2.1.size = 0 ∨ r.2.1 = dotT ∨ r.2.1 = dotsT then (0, ⟨#[]⟩, 22)
  else if 32 < r.2.1.size then (0, ⟨#[]⟩, 36) else (r.1, r.2.1, 0)
def aheadM (f : Fs) (dir : Int) (s : ByteArray) : Int × ByteArray × Nat :=
  if (beginM dir s).2 ≠ 0 then (0, ⟨#[]⟩, (beginM dir s).2) else lastM f (aheadsM f (beginM dir s).1 ⟨#[]⟩ (pieces s))

/-- May a directory have a new entry of that name? -/
def mayAddM (f : Fs) (n : Int) (x : ByteArray) : Nat := match node f n with
  | none => 17
  | some I => if lookM I.ents x ≠ 0 then 17 else if I.links = 0 then 2 else if I.may 2 then 0 else 13
/-- An inode's entries anew. -/
def setEnts (f : Fs) (n : Nat) (g : Ents → Ents) : Fs := match node f n with
  | none => f
  | some I => putAt f n (some { I with ents := g I.ents })
def setLinks (f : Fs) (n : Nat) (g : Nat → Nat) : Fs := match node f n with
  | none => f
  | some I => putAt f n (some { I with links := g I.links })
/-- A new inode: its number or 0, the error, the tree. -/
def makeM (f : Fs) (n : Nat) (x : ByteArray) (I : Ino) : Nat × Nat × Fs :=
  if mayAddM f n x ≠ 0 then (0, mayAddM f n x, f)
  else if 100 ≤ countM f then (0, 23, f)
  else (free f + 1, 0, setEnts (putNew f { I with links := 1 }) n (fun l => addM l x (free f + 1)))
def unlinkM (f : Fs) (n : Nat) (x : ByteArray) : Fs := match node f n with
  | none => f
  | some I => relM (setLinks (setEnts f n (fun l => remM l x)) (lookM I.ents x) (· - 1)) (lookM I.ents x)
/-- An entry that a path names: its directory, its name, its inode, an error. -/
def namedM (f : Fs) (dir : Int) (s : ByteArray) : Int × ByteArray × Nat × Nat :=
  if !isDir f dir then (0, ⟨#[]⟩, 0, 9)
  else if (aheadM f dir s).2.2 ≠ 0 then (0, ⟨#[]⟩, 0, (aheadM f dir s).2.2)
  else match node f (aheadM f dir s).1 with
  | none => (0, ⟨#[]⟩, 0, 2)
  | some I => if lookM I.ents (aheadM f dir s).2.1 = 0 then (0, ⟨#[]⟩, 0, 2) else ((aheadM f dir s).1, (aheadM f dir s).2.1, lookM I.ents (aheadM f dir s).2.1, 0)
end Go.Proofs.Ytohgecmbkjienaa
