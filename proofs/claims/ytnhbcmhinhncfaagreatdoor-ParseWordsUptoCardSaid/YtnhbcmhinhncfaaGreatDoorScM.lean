/- Where quotes and substitutions end: plain functions. No condition. -/
import Derived.Test.YtnhbcmhinhncfaaGreatDoorBase
namespace Go.Proofs.YtnhbcmhinhncfaaGreatDoor
open Go.RowKit Go.PlainAid

/-- What a scanner answers: the next place, the place of an error, the error. -/
structure R3 where
  next : Nat
  place : Nat
  err : Nat
deriving DecidableEq

def begM (s : ByteArray) (i : Nat) (q : Bool) : Bool :=
  if bt s i == 39 then !q else if bt s i == 34 then true else if bt s i == 36 then decide (i + 1 < s.size) && (bt s (i + 1) == 40 || bt s (i + 1) == 123) else false
def qIdx (s : ByteArray) (i : Nat) : Int := Lib.indexByte (s.extract (i + 1) s.size).data.toList 39
def sqM (s : ByteArray) (i : Nat) : R3 := if 0 ≤ qIdx s i then ⟨i + 1 + (qIdx s i).toNat + 1, 0, 0⟩ else ⟨0, i, 53⟩
def passM (wh : Nat → Bool → R3) (s : ByteArray) (i : Nat) (q : Bool) : R3 :=
  if bt s i == 92 then ⟨min (i + 2) s.size, 0, 0⟩ else if bt s i == 96 then ⟨0, i, 55⟩ else if begM s i q then wh i q else ⟨i + 1, 0, 0⟩
/-- On to the byte that closes. -/
def loopM (p : Nat → R3) (s : ByteArray) (b : Nat) (c : Int) : Nat → Nat → R3
  | 0, _ => ⟨0, b, 53⟩
  | f + 1, i => if i < s.size then (if bt s i == c then ⟨i + 1, 0, 0⟩ else if (p i).err = 0 then loopM p s b c f (p i).next else ⟨0, (p i).place, (p i).err⟩) else ⟨0, b, 53⟩
def cmdM (p : Nat → R3) (s : ByteArray) (b : Nat) : Nat → Nat → Nat → R3
  | 0, _, _ => ⟨0, b, 53⟩
  | f + 1, i, o => if i < s.size then (if bt s i == 40 then cmdM p s b f (i + 1) (o + 1) else if bt s i == 41 then (if o = 1 then ⟨i + 1, 0, 0⟩ else cmdM p s b f (i + 1) (o - 1))
      else if (p i).err = 0 then cmdM p s b f (p i).next o else ⟨0, (p i).place, (p i).err⟩) else ⟨0, b, 53⟩
def wholeM (s : ByteArray) : Nat → Nat → Bool → R3
  | 0 => fun i _ => if bt s i == 39 then sqM s i else ⟨0, i, 52⟩
  | k + 1 => fun i q => if bt s i == 39 then sqM s i
      else if bt s i == 34 then loopM (fun j => passM (wholeM s k) s j true) s i 34 s.size (i + 1)
      else if bt s (i + 1) == 40 then cmdM (fun j => passM (wholeM s k) s j false) s i s.size (i + 1) 0
      else loopM (fun j => passM (wholeM s k) s j q) s i 125 s.size (i + 2)

/-- An answer that is no error lies ahead, in the text. -/
def Good (s : ByteArray) (i : Nat) (r : R3) : Prop := r.err = 0 → i < r.next ∧ r.next ≤ s.size
theorem indexByte_lt {l : List UInt8} {c : UInt8} (h : 0 ≤ Lib.indexByte l c) : (Lib.indexByte l c).toNat < l.length := by
  have h2 := (Lib.indexByte_some (l := l) (c := c) (o := (Lib.indexByte l c).toNat) (by omega)).1
  exact (List.getElem?_eq_some_iff.1 h2).1
theorem qIdx_lt {s : ByteArray} {i : Nat} (h : 0 ≤ qIdx s i) : i + 1 + (qIdx s i).toNat < s.size := by
  have key : (qIdx s i).toNat < (s.extract (i + 1) s.size).data.toList.length := indexByte_lt h
  have len : (s.extract (i + 1) s.size).data.toList.length = s.size - (i + 1) := by
    rw [← Lib.size_eq, ByteArray.size_extract]; omega
  omega
theorem sq_good {s : ByteArray} {i : Nat} : Good s i (sqM s i) := by
  intro h
  unfold sqM at h ⊢
  split at h
  · rename_i h0
    rw [if_pos h0]
    have := qIdx_lt h0
    exact ⟨by show i < i + 1 + _ + 1; omega, by show i + 1 + _ + 1 ≤ _; omega⟩
  · cases h
theorem pass_good {wh : Nat → Bool → R3} {s : ByteArray} {i : Nat} {q : Bool} (hi : i < s.size) (h : begM s i q = true → Good s i (wh i q)) : Good s i (passM wh s i q) := by
  unfold passM
  split
  · intro _; exact ⟨by show i < min _ _; omega, by show min _ _ ≤ _; omega⟩
  · split
    · intro e; cases e
    · split
      · exact h ‹_›
      · intro _; exact ⟨Nat.lt_succ_self _, hi⟩
theorem loop_good {p : Nat → R3} {s : ByteArray} {b b0 : Nat} {c : Int} (hp : ∀ i, i < s.size → Good s i (p i)) : ∀ (f i : Nat), b0 < i → Good s b0 (loopM p s b c f i)
  | 0, _, _ => fun e => by cases e
  | f + 1, i, hb => by
    unfold loopM
    split
    · rename_i hi
      split
      · intro _; exact ⟨by show _ < i + 1; omega, hi⟩
      · split
        · rename_i he
          exact loop_good hp f _ (Nat.lt_trans hb (hp i hi he).1)
        · intro e; exact absurd e ‹_›
    · intro e; cases e
theorem cmd_good {p : Nat → R3} {s : ByteArray} {b b0 : Nat} (hp : ∀ i, i < s.size → Good s i (p i)) : ∀ (f i o : Nat), b0 < i → Good s b0 (cmdM p s b f i o)
  | 0, _, _, _ => fun e => by cases e
  | f + 1, i, o, hb => by
    unfold cmdM
    split
    · rename_i hi
      split
      · exact cmd_good hp f _ _ (by omega)
      · split
        · split
          · intro _; exact ⟨by show _ < i + 1; omega, hi⟩
          · exact cmd_good hp f _ _ (by omega)
        · split
          · rename_i he
            exact cmd_good hp f _ _ (Nat.lt_trans hb (hp i hi he).1)
          · intro e; exact absurd e ‹_›
    · intro e; cases e
theorem whole_good (s : ByteArray) : ∀ (k i : Nat) (q : Bool), i < s.size → Good s i (wholeM s k i q)
  | 0, i, q, hi => by
    unfold wholeM
    split
    · exact sq_good
    · intro e; cases e
  | k + 1, i, q, hi => by
    have ih := whole_good s k
    unfold wholeM
    split
    · exact sq_good
    · split
      · exact loop_good (fun j hj => pass_good hj (fun _ => ih j _ hj)) _ _ (Nat.lt_succ_self _)
      · split
        · exact cmd_good (fun j hj => pass_good hj (fun _ => ih j _ hj)) _ _ _ (Nat.lt_succ_self _)
        · exact loop_good (fun j hj => pass_good hj (fun _ => ih j _ hj)) _ _ (by omega)
end Go.Proofs.YtnhbcmhinhncfaaGreatDoor
