/- What is a name. No condition. -/
import Derived.Test.YtnhbcmhinhncfaaGreatDoorShelf
import Derived.WalkKit
import Derived.WalkSpells
import Derived.WalkLawsBesides
import Derived.Deep.Draws
import Derived.WalkSmall
import Derived.Deep.QuietTactic
import Derived.BigQuiet
import Derived.Lib.Hide
import Derived.Deep.DeepCutAuto
import Derived.Deep.CutBlock
import Derived.PlainAid
import Derived.Lib.Strings
import Derived.Test.YtnhbcmhinhncfaaGreatDoorLxN
import Derived.Lib.ParseIntBCases
import Derived.Lib.AppendIntMem
import Derived.Lib.AtoiErrMem
import Derived.Test.YtnhbcmhinhncfaaGreatDoorLxO
import Derived.StillTailTactics
import Derived.Deep.LoopGhost
import Derived.Laws.Rows
namespace Go.Proofs.YtnhbcmhinhncfaaGreatDoor.W
open Go.RowKit Go.PlainAid
attribute [local go_sem] Oper.semAt_some

theorem ret_bool {a b : Bool} (h : a = b) : Ending.returned (.bool a) = .returned (.bool b) := by rw [h]
theorem toList_inj {a b : ByteArray} (h : a.toList = b.toList) : a = b := by
  rw [Lib.toList_data, Lib.toList_data] at h
  cases a with
  | mk yd => cases b with
    | mk xd => exact congrArg ByteArray.mk (Array.toList_inj.1 h)
def letB (c : Int) : Bool := decide ((65 ≤ c ∧ c ≤ 90) ∨ (97 ≤ c ∧ c ≤ 122))
def digB (c : Int) : Bool := decide (48 ≤ c ∧ c ≤ 57)
/-- The byte at place k may stand in a name. -/
def nmOk (s : ByteArray) (k : Nat) : Bool := letB (bt s k) || bt s k == 95 || (k != 0 && digB (bt s k))
def isName (s : ByteArray) : Bool := decide (s.size ≠ 0) && decide (∀ k, k < s.size → nmOk s k = true)

theorem letB_of {c : Int} {p : Bool} (h : ((65 ≤ c ∧ c ≤ 90) ∨ (97 ≤ c ∧ c ≤ 122)) ↔ p = true) : letB c = p := by
  unfold letB; cases p <;> simp_all
theorem digB_of {c : Int} {p : Bool} (h : (48 ≤ c ∧ c ≤ 57) ↔ p = true) : digB c = p := by
  unfold digB; cases p <;> simp_all


set_option maxHeartbeats 400000 in
theorem isLetter_any (c : Int) (w : World) : Calls Tryz.prog 23 #[.int .u8 c] w fun e w' => e = .returned (.bool (letB c)) ∧ w = w' := by
  by_cases h1 : 65 ≤ c <;> by_cases h2 : c ≤ 90 <;> by_cases h3 : 97 ≤ c <;> by_cases h4 : c ≤ 122
  all_goals
    go_enter Tryz.func23, Tryz.ntmps23
    go_wp2
    go_ret
    exact ⟨ret_bool (letB_of (by simp; omega)).symm, rfl⟩

set_option maxHeartbeats 400000 in
theorem isDigit_any (c : Int) (w : World) : Calls Tryz.prog 24 #[.int .u8 c] w fun e w' => e = .returned (.bool (digB c)) ∧ w = w' := by
  by_cases h1 : 48 ≤ c <;> by_cases h2 : c ≤ 57
  all_goals
    go_enter Tryz.func24, Tryz.ntmps24
    go_wp2
    go_ret
    exact ⟨ret_bool (digB_of (by simp; omega)).symm, rfl⟩

theorem isName_yes {s : ByteArray} (h0 : s.size ≠ 0) (h : ∀ k, k < s.size → nmOk s k = true) : isName s = true := by
  unfold isName; rw [decide_eq_true h0, decide_eq_true h]; rfl
theorem isName_bad {s : ByteArray} {k : Nat} (hk : k < s.size) (h : nmOk s k = false) : isName s = false := by
  unfold isName
  have : ¬ ∀ k, k < s.size → nmOk s k = true := fun g => by rw [g k hk] at h; cases h
  rw [decide_eq_false this]; simp
theorem isName_empty {s : ByteArray} (h : s.size = 0) : isName s = false := by
  unfold isName; simp [h]

theorem size0 {s : ByteArray} (h : s.size = 0) : s = ⟨#[]⟩ := by
  obtain ⟨⟨l⟩⟩ := s
  cases l with
  | nil => rfl
  | cons a l => simp [ByteArray.size] at h

theorem str_ne {s : ByteArray} (h : s.size ≠ 0) : (!s.toList.isEmpty) = true := by
  rw [Lib.toList_data]
  cases e : s.data.toList with
  | nil =>
    have : s.data.toList.length = 0 := by rw [e]; rfl
    rw [← Lib.size_eq] at this
    exact absurd this h
  | cons a l => rfl

set_option maxHeartbeats 1000000 in
theorem name_any (s : ByteArray) (w : World) (hs : s.size ≤ maxLen) : Calls Tryz.prog 108 #[.string s] w fun e w' => e = .returned (.bool (isName s)) ∧ w = w' := by
  unfold maxLen at hs
  have hb := get_bt s
  go_enter Tryz.func108, Tryz.ntmps108
  go_wp2
  go_loop [6] (fun i => ∃ k : Nat, k ≤ s.size ∧ i = .int .i64 k ∧ Hid (∀ m, m < k → nmOk s m = true)) (fun i => s.size - (intOf i).toNat)
  case atStart => exact ⟨0, Nat.zero_le _, rfl, Lib.hid (fun m h => absurd h (by omega))⟩
  case round =>
    obtain ⟨k, hk, rfl, hm⟩ := hrel
    by_cases hlt : k < s.size
    · cases hL : letB (bt s k) <;> cases hE : (bt s k == 95) <;> cases hK : ((k : Int) == 0) <;> cases hD : digB (bt s k)
      all_goals
        have hn : Hid (nmOk s k = (letB (bt s k) || bt s k == 95 || (!((k : Int) == 0) && digB (bt s k)))) := by
          unfold nmOk
          have : (k != 0) = !((k : Int) == 0) := by
            rw [bne, Bool.not_inj_iff, Bool.eq_iff_iff]; simp
          rw [this]
          exact rfl
        rw [hL, hE, hK, hD] at hn
        have hbn : (bt s k != 95) = !(bt s k == 95) := rfl
        rw [hE] at hbn
        go_wp2_with (first
          | (go_at_call 23; refine (isLetter_any _ _).mono ?_; rintro e w' ⟨rfl, rfl⟩)
          | (go_at_call 24; refine (isDigit_any _ _).mono ?_; rintro e w' ⟨rfl, rfl⟩))
        first
        | (go_ret
           exact ⟨ret_bool (isName_bad hlt hn.out).symm, rfl⟩)
        | (go_round
           case rel => exact ⟨k + 1, by omega, by go_num, Lib.hid (fun m h => by
             by_cases e : m = k
             · subst e; exact hn.out
             · exact hm.out m (by omega))⟩
           case measure => simp [intOf]; omega)
    · obtain rfl : k = s.size := by omega
      by_cases h0 : s.size = 0
      · have e0 := size0 h0
        have hr := Lib.hid (isName_empty h0)
        subst e0
        go_wp2
        go_ret
        exact ⟨ret_bool hr.out.symm, rfl⟩
      · have hr := Lib.hid (isName_yes h0 hm.out)
        have hne : (!s.toList.isEmpty) = true := str_ne h0
        clear h0
        go_wp2
        go_ret
        exact ⟨ret_bool hr.out.symm, rfl⟩
end Go.Proofs.YtnhbcmhinhncfaaGreatDoor.W
/- Commands as plain data, and their reading as plain functions. No condition. -/
namespace Go.Proofs.YtnhbcmhinhncfaaGreatDoor
open Go.RowKit Go.PlainAid
set_option linter.unusedVariables false

/-! ### Trees -/
structure Rd where
  fd : Int
  op : ByteArray
  word : ByteArray
  doc : ByteArray
  raw : Bool
deriving DecidableEq
inductive Nd where
  | mk (kind : Int) (neg inn : Bool) (name : ByteArray) (words : List ByteArray) (redirs : List Rd) (kids : List Nd)
def Nd.kind : Nd → Int
  | .mk k _ _ _ _ _ _ => k
def Nd.withRedirs : Nd → List Rd → Nd
  | .mk k a b n w _ kids, rs => .mk k a b n w rs kids
def noB : ByteArray := ⟨#[]⟩
def nd0 : Nd := .mk 0 false false noB [] [] []
def ndK (k : Int) (kids : List Nd) : Nd := .mk k false false noB [] [] kids

/-! ### The parser's state -/
structure PS where
  toks : List Tk
  at_ : Nat
  ended : Bool
  place : Int
  err : Int
deriving DecidableEq
section
variable (s : ByteArray)
def failP (pl e : Int) (st : PS) : PS := ⟨[], st.at_, true, if st.err = 0 then pl else st.place, if st.err = 0 then e else st.err⟩
def fillP : Nat → PS → PS
  | 0, st => st
  | f + 1, st =>
    if st.toks.isEmpty && !st.ended then
      (if (topM s st.at_).err ≠ 0 then failP (topM s st.at_).place (topM s st.at_).err st
       else fillP f ⟨(topM s st.at_).toks, (topM s st.at_).next, decide ((topM s st.at_).next = s.size), st.place, st.err⟩)
    else st
def fill (st : PS) : PS := fillP s (s.size + 2) st
def endT : Tk := ⟨0, noB, s.size, noB, false⟩
def tokP (st : PS) : Tk := st.toks.headD (endT s)
/-- The token at hand. -/
def peekP (st : PS) : Tk := tokP s (fill s st)
def nextP (st : PS) : PS := { fill s st with toks := (fill s st).toks.tail }
/-- Takes the token at hand; an error if it may not stand there. -/
def needP (may : Bool) (st : PS) : PS := nextP s (if may then st else failP (peekP s st).place 56 (fill s st))
def isT (k : Int) (t : List UInt8) (x : Tk) : Bool := x.kind == k && x.text.toList == t
def hasO (t : List UInt8) (st : PS) : Bool := isT 2 t (peekP s st)
def hasW (t : List UInt8) (st : PS) : Bool := isT 1 t (peekP s st)
/-- Takes it, if it is at hand: the state behind. -/
def tookP (k : Int) (t : List UInt8) (st : PS) : PS := if isT k t (peekP s st) then nextP s st else fill s st
def rem (st : PS) : Nat := st.toks.length + (if st.ended then 0 else s.size + 1 - st.at_)
def newlP : Nat → PS → PS
  | 0, st => st
  | f + 1, st => if (peekP s st).kind = 3 then newlP f (nextP s st) else fill s st
def newl (st : PS) : PS := newlP s (rem s st + 1) st
/-- One thing, and others as long as more of the last one. -/
def serP {X : Type} (R : PS → X × PS) (M : X → PS → Bool × PS) : Nat → PS → List X × PS
  | 0, st => ([], st)
  | f + 1, st => if (M (R st).1 (R st).2).1 then ((R st).1 :: (serP R M f (M (R st).1 (R st).2).2).1, (serP R M f (M (R st).1 (R st).2).2).2) else ([(R st).1], (M (R st).1 (R st).2).2)
def ser {X : Type} (R : PS → X × PS) (M : X → PS → Bool × PS) (st : PS) : List X × PS := serP R M (rem s st + 1) st

/-! ### Words that are kept -/
def begL : List (List UInt8) := [[33], [123], [99, 97, 115, 101], [102, 111, 114], [105, 102], [117, 110, 116, 105, 108], [119, 104, 105, 108, 101]]
def rsvL : List (List UInt8) := [[125], [100, 111], [100, 111, 110, 101], [101, 108, 105, 102], [101, 108, 115, 101], [101, 115, 97, 99], [102, 105], [105, 110], [116, 104, 101, 110]]
def begW (t : ByteArray) : Bool := begL.any (fun k => t.toList == k)
def rsvW (t : ByteArray) : Bool := rsvL.any (fun k => t.toList == k) || begW t

/-! ### Redirections -/
def numV (l : List UInt8) : Int := match Lib.parseIntB 64 l with
  | .ok v => v
  | _ => 0
def numOk (l : List UInt8) : Bool := match Lib.parseIntB 64 l with
  | .ok _ => true
  | _ => false
def redT (t : Tk) : Bool := t.kind == 4 || (t.kind == 2 && (bt t.text 0 == 60 || bt t.text 0 == 62))
def redNum (st : PS) : Int × PS :=
  if (peekP s st).kind = 4 then (numV (peekP s st).text.data.toList, needP s (numOk (peekP s st).text.data.toList && decide (numV (peekP s st).text.data.toList ≤ 9)) (fill s st)) else (-1, fill s st)
def redP (st : PS) : Rd × PS :=
  let a := redNum s st
  let op := (peekP s a.2).text
  let b := nextP s a.2
  let w := (peekP s b).kind == 1
  let t := peekP s (if w then b else failP (peekP s b).place 56 (fill s b))
  let c := needP s w b
  (if op.toList = [60, 60] ∨ op.toList = [60, 60, 45] then ⟨a.1, ⟨#[60, 60]⟩, noB, t.doc, t.raw⟩ else ⟨a.1, op, t.text, noB, false⟩, c)
def redsP (st : PS) : List Rd × PS := if redT (peekP s st) then ser s (redP s) (fun _ st => (redT (peekP s st), fill s st)) (fill s st) else ([], fill s st)

/-! ### Commands -/
def gather (l : List (Nd × Bool)) : Nd := match l with
  | [x] => if x.1.kind ≠ 6 then x.1 else ndK 5 [x.1]
  | l => ndK 5 (l.map (·.1))
def askD (d : Int) (st : PS) : PS := if 24 < d then failP (peekP s st).place 52 (fill s st) else fill s st
/-- The token that needP answers. -/
def needT (may : Bool) (st : PS) : Tk := peekP s (if may then st else failP (peekP s st).place 56 (fill s st))
def closes (st : PS) : Bool := (peekP s st).kind == 0 || isT 2 [41] (peekP s st) || isT 2 [59, 59] (peekP s st) || ((peekP s st).kind == 1 && rsvW (peekP s st).text && !begW (peekP s st).text)
section
variable (B : Int → PS → Nd × PS)
def doG (d : Int) (st : PS) : Nd × PS :=
  let r := B d (needP s (hasW s [100, 111] st) st)
  (r.1, needP s (hasW s [100, 111, 110, 101] r.2) r.2)
def loopP (w : ByteArray) (d : Int) (st : PS) : Nd × PS :=
  let c := B d st
  let b := doG s B d c.2
  (ndK (if w.toList = [117, 110, 116, 105, 108] then 11 else 10) [c.1, b.1], b.2)
def brP (d : Int) (st : PS) : (Nd × Nd) × PS :=
  let c := B d st
  let b := B d (needP s (hasW s [116, 104, 101, 110] c.2) c.2)
  ((c.1, b.1), b.2)
def chP (d : Int) (st : PS) : Nd × PS :=
  let l := ser s (brP s B d) (fun _ st => (hasW s [101, 108, 105, 102] st, tookP s 1 [101, 108, 105, 102] st)) st
  let kids := l.1.flatMap (fun b => [b.1, b.2])
  let e := if hasW s [101, 108, 115, 101] l.2 then (let b := B d (nextP s l.2); (kids ++ [b.1], b.2)) else (kids, fill s l.2)
  (ndK 9 e.1, needP s (hasW s [102, 105] e.2) e.2)
/-- Words up to something else. -/
def wordsP : Nat → List ByteArray → PS → List ByteArray × PS
  | 0, l, st => (l, st)
  | f + 1, l, st => if (peekP s st).kind = 1 then wordsP f (l ++ [(peekP s st).text]) (nextP s st) else (l, fill s st)
def forP (d : Int) (st : PS) : Nd × PS :=
  let t := peekP s st
  let st1 := newl s (needP s (t.kind == 1 && W.isName t.text) st)
  let inn := hasW s [105, 110] st1
  let st2 := tookP s 1 [105, 110] st1
  let r := if inn then (let w := wordsP s (rem s st2 + 1) [] st2; (w.1, newl s (needP s (hasO s [59] w.2 || (peekP s w.2).kind == 3) w.2)))
    else ([], if hasO s [59] st2 then newl s (nextP s st2) else fill s st2)
  let b := doG s B d r.2
  (.mk 12 false inn t.text r.1 [] [b.1], b.2)
def patsP (st : PS) : List ByteArray × PS :=
  let l := ser s (fun st => ((needT s ((peekP s st).kind == 1) st).text, needP s ((peekP s st).kind == 1) st)) (fun _ st => (hasO s [124] st, tookP s 2 [124] st)) (tookP s 2 [40] st)
  (l.1 ++ [⟨#[41]⟩], needP s (hasO s [41] l.2) l.2)
def itemP (d : Int) (st : PS) : Nd × PS :=
  let st1 := newl s st
  if hasO s [59, 59] st1 || hasW s [101, 115, 97, 99] st1 then (ndK 5 [], fill s st1) else B d (fill s st1)
def itemsP (d : Int) : Nat → List ByteArray → List Nd → PS → List ByteArray × List Nd × PS
  | 0, ws, ks, st => (ws, ks, st)
  | f + 1, ws, ks, st =>
    if (peekP s st).kind ≠ 0 ∧ hasW s [101, 115, 97, 99] st = false then
      let p := patsP s (fill s st)
      let b := itemP s B d p.2
      if hasO s [59, 59] b.2 then itemsP d f (ws ++ p.1) (ks ++ [b.1]) (newl s (nextP s b.2)) else (ws ++ p.1, ks ++ [b.1], fill s b.2)
    else (ws, ks, fill s st)
def caseP (d : Int) (st : PS) : Nd × PS :=
  let may := (peekP s st).kind == 1
  let name := (needT s may st).text
  let st1 := newl s (needP s may st)
  let st2 := newl s (needP s (hasW s [105, 110] st1) st1)
  let r := itemsP s B d (rem s st2 + 1) [] [] st2
  (.mk 13 false false name r.1 [] r.2.1, needP s (hasW s [101, 115, 97, 99] r.2.2) r.2.2)
def withR (r : Nd × PS) : Nd × PS := (r.1.withRedirs (redsP s r.2).1, (redsP s r.2).2)
def compP (d : Int) (st : PS) : Nd × PS :=
  if hasO s [40] st then (let b := B (d + 1) (nextP s st); withR s (ndK 7 [b.1], needP s (hasO s [41] b.2) b.2))
  else if hasW s [123] st then (let b := B (d + 1) (nextP s st); withR s (ndK 8 [b.1], needP s (hasW s [125] b.2) b.2))
  else if hasW s [105, 102] st then withR s (chP s B (d + 1) (nextP s st))
  else if hasW s [119, 104, 105, 108, 101] st || hasW s [117, 110, 116, 105, 108] st then withR s (loopP s B (peekP s st).text (d + 1) (nextP s st))
  else if hasW s [102, 111, 114] st then withR s (forP s B (d + 1) (nextP s st))
  else if hasW s [99, 97, 115, 101] st then withR s (caseP s B (d + 1) (nextP s st))
  else withR s (nd0, needP s false st)
def funP (name : ByteArray) (d : Int) (st : PS) : Nd × PS :=
  let st1 := nextP s st
  let st2 := newl s (needP s (hasO s [41] st1) st1)
  let r := compP s B (d + 1) (askD s (d + 1) st2)
  (.mk 14 false false name [] [] [r.1], r.2)
def simP (d : Int) : Nat → List ByteArray → List Rd → PS → Nd × PS
  | 0, ws, rs, st => (.mk 1 false false noB ws rs [], st)
  | f + 1, ws, rs, st =>
    if redT (peekP s st) then simP d f ws (rs ++ [(redP s st).1]) (redP s st).2
    else if (peekP s st).kind = 1 then
      let t := (peekP s st).text
      let st1 := needP s (!ws.isEmpty || !rsvW t) st
      if ws.isEmpty && rs.isEmpty && hasO s [40] st1 && W.isName t then funP s B t d st1
      else simP d f (ws ++ [t]) rs (if ws.isEmpty && rs.isEmpty then fill s st1 else st1)
    else (.mk 1 false false noB ws rs [], if ws.isEmpty && rs.isEmpty then needP s false st else fill s st)
def cmdP (d : Int) (st : PS) : Nd × PS :=
  if hasO s [40] st || ((peekP s st).kind == 1 && rsvW (peekP s st).text) then compP s B d (fill s st) else simP s B d (rem s (fill s st) + 1) [] [] (fill s st)
def pipeP (d : Int) (st : PS) : Nd × PS :=
  let st1 := askD s d st
  let neg := hasW s [33] st1
  let l := ser s (cmdP s B d) (fun _ st => (hasO s [124] st, if hasO s [124] st then newl s (nextP s st) else fill s st)) (tookP s 1 [33] st1)
  (match l.1 with
    | [x] => if neg then .mk 2 neg false noB [] [] [x] else x
    | k => .mk 2 neg false noB [] [] k, l.2)
def andP (d : Int) : Nat → Nd → PS → Nd × PS
  | 0, n, st => (n, st)
  | f + 1, n, st =>
    if hasO s [124, 124] st || hasO s [38, 38] st then
      let r := pipeP s B d (newl s (nextP s st))
      andP d f (ndK (if hasO s [124, 124] st then 4 else 3) [n, r.1]) r.2
    else (n, fill s st)
def aoP (d : Int) (st : PS) : Nd × PS :=
  let r := pipeP s B d st
  andP s B d (rem s r.2 + 1) r.1 r.2
def entP (d : Int) (st : PS) : (Nd × Bool) × PS :=
  let r := aoP s B d st
  if hasO s [38] r.2 then ((ndK 6 [r.1], true), nextP s r.2) else ((r.1, hasO s [59] r.2), tookP s 2 [59] r.2)
def bodP (d : Int) (st : PS) : Nd × PS :=
  let l := ser s (fun st => let e := entP s B d st
      ((e.1.1, e.1.2 || (peekP s e.2).kind == 3), newl s e.2)) (fun x st => (x.2 && !closes s st, if x.2 then fill s st else st)) (newl s st)
  (gather l.1, l.2)
end
/-- The body at whatever depth; k levels are left. -/
def body : Nat → Int → PS → Nd × PS
  | 0 => fun _ st => (nd0, st)
  | k + 1 => bodP s (body k)
def listP (st : PS) : Nd × PS :=
  let l := ser s (entP s (body s 26) 0) (fun x st => (x.2 && (peekP s st).kind != 3 && (peekP s st).kind != 0, fill s st)) st
  (gather l.1, l.2)
structure CP where
  tree : Nd
  there : Bool
  next : Int
  place : Int
  err : Int
def firstP (i : Nat) : CP :=
  let p := newl s ⟨[], i, false, 0, 0⟩
  if p.err = 0 ∧ (peekP s p).kind = 0 then ⟨nd0, false, s.size, 0, 0⟩ else
  let r := listP s p
  let q := if (peekP s r.2).kind ≠ 0 then needP s ((peekP s r.2).kind == 3) r.2 else fill s r.2
  if q.err ≠ 0 then ⟨nd0, false, 0, q.place, q.err⟩ else ⟨r.1, true, q.at_, 0, 0⟩
end
end Go.Proofs.YtnhbcmhinhncfaaGreatDoor
/- Each token stands in the text where it says. No condition. -/
namespace Go.Proofs.YtnhbcmhinhncfaaGreatDoor
open Go.RowKit Go.PlainAid

/-- What may stand between two tokens. -/
def blankB (c : Int) : Bool := c == 9 || c == 32 || c == 92 || c == 10
def Gap (s : ByteArray) (i j : Nat) : Prop := ∃ k, i ≤ k ∧ k ≤ j ∧ (∀ x, i ≤ x → x < k → blankB (bt s x) = true) ∧ (k < j → (bt s k == 35) = true)
theorem gap_refl (s : ByteArray) (i : Nat) : Gap s i i := ⟨i, Nat.le_refl _, Nat.le_refl _, fun x h1 h2 => absurd h2 (by omega), fun h => absurd h (by omega)⟩
theorem gap_blank {s : ByteArray} {i j : Nat} (h : Gap s i j) (hb : blankB (bt s j) = true) : Gap s i (j + 1) := by
  obtain ⟨k, h1, h2, h3, h4⟩ := h
  by_cases hk : k = j
  · subst hk
    refine ⟨k + 1, by omega, Nat.le_refl _, fun x hx1 hx2 => ?_, fun h => absurd h (by omega)⟩
    by_cases e : x = k
    · rw [e]; exact hb
    · exact h3 x hx1 (by omega)
  · exact ⟨k, h1, by omega, h3, fun _ => h4 (by omega)⟩
theorem gap_rem {s : ByteArray} {i j j' : Nat} (h : Gap s i j) (hb : (bt s j == 35) = true) (hj : j ≤ j') : Gap s i j' := by
  obtain ⟨k, h1, h2, h3, h4⟩ := h
  refine ⟨k, h1, by omega, h3, fun _ => ?_⟩
  by_cases hk : k = j
  · rw [hk]; exact hb
  · exact h4 (by omega)
theorem cont_bytes {s : ByteArray} {i : Nat} (hi : i ≤ s.size) (h : contM s i = true) : (bt s i == 92) = true ∧ (bt s (i + 1) == 10) = true := by
  have hlt := cont_lt hi h
  obtain ⟨t, ht⟩ := List.isPrefixOf_iff_prefix.1 h
  rw [Lib.extract_data] at ht
  have get : ∀ j, j < 2 → s.data.toList[i + j]? = ([92, 10] : List UInt8)[j]? := fun j hj => by
    have h1 : (List.take (s.size - i) (List.drop i s.data.toList))[j]? = s.data.toList[i + j]? := by
      rw [List.getElem?_take, if_pos (by omega), List.getElem?_drop]
    rw [← h1, ← ht]
    rw [List.getElem?_append_left (by simpa using hj)]
  have bb : ∀ j c, j < 2 → ([92, 10] : List UInt8)[j]? = some c → bt s (i + j) = (c.toNat : Int) := fun j c hj hc => by
    have h1 := get j hj
    rw [hc] at h1
    unfold bt
    rw [dif_pos (by omega)]
    obtain ⟨h2, h3⟩ := List.getElem?_eq_some_iff.1 h1
    have : s[i + j]'(by omega) = c := by rw [← h3]; rfl
    rw [this]
  have h0 := bb 0 92 (by omega) rfl
  have h1 := bb 1 10 (by omega) rfl
  rw [Nat.add_zero] at h0
  rw [h0, h1]
  exact ⟨rfl, rfl⟩

/-- A token but for its document. -/
abbrev Co := Int × ByteArray × Nat
def Tk.co (t : Tk) : Co := (t.kind, t.text, t.place)
def endC (cs : List Co) : Nat := match cs.getLast? with | some c => c.2.2 + c.2.1.size | none => 0
theorem endC_app (cs : List Co) (c : Co) : endC (cs ++ [c]) = c.2.2 + c.2.1.size := by unfold endC; simp
structure CoOk (s : ByteArray) (e : Nat) (c : Co) : Prop where
  text : c.2.1 = s.extract c.2.2 (c.2.2 + c.2.1.size)
  le : c.2.2 + c.2.1.size ≤ s.size
  pos : 0 < c.2.1.size
  kind : 1 ≤ c.1 ∧ c.1 ≤ 4
  from_ : e ≤ c.2.2
  gap : Gap s e c.2.2
structure Stand (s : ByteArray) (cs : List Co) (p : Nat) : Prop where
  all : ∀ k c, cs[k]? = some c → CoOk s (endC (cs.take k)) c
  end_ : endC cs ≤ p
  le : p ≤ s.size
  gap : Gap s (endC cs) p
theorem stand_tok {s : ByteArray} {cs : List Co} {p m : Nat} (kd : Int) (h : Stand s cs p) (h0 : 0 < m) (h1 : p + m ≤ s.size) (hk : 1 ≤ kd ∧ kd ≤ 4) : Stand s (cs ++ [(kd, s.extract p (p + m), p)]) (p + m) := by
  have hz : (s.extract p (p + m)).size = m := by rw [ByteArray.size_extract]; omega
  have he : endC (cs ++ [((kd, s.extract p (p + m), p) : Co)]) = p + m := by rw [endC_app]; show p + (s.extract p (p + m)).size = _; rw [hz]
  refine ⟨fun k c hc => ?_, by omega, h1, by rw [he]; exact gap_refl _ _⟩
  have hlt := (List.getElem?_eq_some_iff.1 hc).1
  rw [List.length_append, List.length_singleton] at hlt
  by_cases hk2 : k < cs.length
  · rw [List.getElem?_append_left hk2] at hc
    rw [List.take_append_of_le_length (by omega)]
    exact h.all k c hc
  · obtain rfl : k = cs.length := by omega
    rw [List.getElem?_append_right (Nat.le_refl _), Nat.sub_self] at hc
    obtain rfl : (kd, s.extract p (p + m), p) = c := by simpa using hc
    rw [List.take_append_of_le_length (Nat.le_refl _), List.take_length]
    refine ⟨?_, ?_, ?_, hk, h.end_, h.gap⟩
    · show s.extract p (p + m) = s.extract p (p + (s.extract p (p + m)).size)
      rw [hz]
    · show p + (s.extract p (p + m)).size ≤ s.size
      rw [hz]; exact h1
    · show 0 < (s.extract p (p + m)).size
      rw [hz]; exact h0
def Stands (s : ByteArray) (st : LS) : Prop := Stand s (st.toks.map Tk.co) st.place
theorem stands_tok {s : ByteArray} {st : LS} {m : Nat} (kd : Nat) (h : Stands s st) (h0 : 0 < m) (h1 : st.place + m ≤ s.size) (hk : 1 ≤ kd ∧ kd ≤ 4) : Stands s (st.tok s kd m) := by
  unfold Stands LS.tok
  simp only [List.map_append, List.map_cons, List.map_nil]
  exact stand_tok kd h h0 h1 (by omega)
theorem stands_del {s : ByteArray} {st : LS} (h : Stands s st) : Stands s st.del := by
  unfold Stands
  rw [del_toks, del_place]
  exact h
theorem line_stands {s : ByteArray} {f : Nat} {st : LS} (h : Stands s st) (he : (lineM s f st).2.1 = 0) : Stands s (lineM s f st).2.2 := by
  refine line_ind (Stands s) ?_ ?_ ?_ ?_ ?_ ?_ ?_ f st h he
  · intro st h hlt hb
    refine ⟨h.all, Nat.le_succ_of_le h.end_, hlt, gap_blank h.gap ?_⟩
    unfold blankB
    rcases Bool.or_eq_true_iff.1 hb with e | e
    · rw [e]; simp
    · rw [e]; simp
  · intro st h hlt hc
    obtain ⟨e1, e2⟩ := cont_bytes h.le hc
    refine ⟨h.all, Nat.le_trans h.end_ (Nat.le_add_right _ _), cont_lt h.le hc, gap_blank (gap_blank h.gap ?_) ?_⟩
    · unfold blankB; rw [e1]; simp
    · unfold blankB; rw [e2]; simp
  · intro st h hlt hc
    exact ⟨h.all, Nat.le_trans h.end_ (Nat.le_of_lt (rem_gt hlt hc).1), (rem_gt hlt hc).2, gap_rem h.gap hc (Nat.le_of_lt (rem_gt hlt hc).1)⟩
  · exact fun st h hlt _ => stands_tok 3 h (by omega) hlt (by omega)
  · exact fun st h hlt _ h5 => stands_tok 2 h h5 (op_le3 h.le) (by omega)
  · exact fun st m h hlt _ _ h0 _ h1 _ _ => stands_tok 4 h h0 h1 (by omega)
  · intro st m h hlt _ _ h0 _ h1 _ _
    exact stands_tok 1 (stands_del h) h0 (by rw [del_place]; exact h1) (by omega)
theorem docs_co {s : ByteArray} : ∀ (ds : List (Nat × Bool)) (ts : List Tk) (i : Nat), i ≤ s.size → (docsM s ds ts i).2.2.1.map Tk.co = ts.map Tk.co ∧ i ≤ (docsM s ds ts i).2.2.2 ∧ (docsM s ds ts i).2.2.2 ≤ s.size
  | [], ts, i, hi => ⟨rfl, Nat.le_refl _, hi⟩
  | d :: ds, ts, i, hi => by
    unfold docsM
    cases ht : ts[d.1]? with
    | none => exact ⟨rfl, Nat.le_refl _, hi⟩
    | some t =>
      have hle := doc_le (s := s) (e := ⟨(unqM t.text).1.toArray⟩) (tabs := d.2) s.size i [] hi
      simp only
      rcases hdoc : docM s ⟨(unqM t.text).1.toArray⟩ d.2 s.size i [] with ⟨_ | l, j⟩
      · rw [hdoc] at hle
        exact ⟨rfl, hle⟩
      · rw [hdoc] at hle
        have ih := docs_co (s := s) ds (ts.set d.1 (t.told ⟨l.toArray⟩ (unqM t.text).2)) j hle.2
        simp only
        refine ⟨?_, Nat.le_trans hle.1 ih.2.1, ih.2.2⟩
        rw [ih.1, List.map_set]
        have h1 : (t.told ⟨l.toArray⟩ (unqM t.text).2).co = t.co := rfl
        rw [h1]
        refine List.ext_getElem? fun k => ?_
        rw [List.getElem?_set]
        split
        · rename_i e
          subst e
          rw [List.getElem?_map, ht]
          have := (List.getElem?_eq_some_iff.1 ht).1
          rw [if_pos (by simpa using this)]
          rfl
        · rfl
/-- What Line answers from a text's beginning stands. -/
theorem top_stands {s : ByteArray} (h : (topM s 0).err = 0) : Stand s ((topM s 0).toks.map Tk.co) (endC ((topM s 0).toks.map Tk.co)) ∧ endC ((topM s 0).toks.map Tk.co) ≤ (topM s 0).next ∧ (topM s 0).next ≤ s.size ∧ s.size ≤ 65536 := by
  have hs : ¬ 65536 < s.size := fun hs => by unfold topM at h; rw [if_pos hs] at h; simp at h
  have ht : topM s 0 = atM s 0 := by unfold topM; rw [if_neg hs, if_neg (by omega)]; rfl
  rw [ht] at h ⊢
  have h0 : Stands s ⟨0, [], []⟩ := ⟨fun k c hc => by simp at hc, Nat.le_refl _, Nat.zero_le _, gap_refl _ _⟩
  have hl := line_stands (f := s.size) h0
  have hz := line_zero s.size ⟨0, [], []⟩ (Nat.zero_le s.size)
  rcases hln : lineM s s.size ⟨0, [], []⟩ with ⟨pl, er, st⟩
  rw [hln] at hl hz
  by_cases he : er = 0
  · subst he
    obtain rfl : pl = 0 := hz rfl
    have hst : Stands s st := hl rfl
    have hdz := docs_zero (s := s) st.dels st.toks st.place
    have hco := docs_co (s := s) st.dels st.toks st.place hst.le
    rcases hd : docsM s st.dels st.toks st.place with ⟨pl, er, ts, j⟩
    rw [hd] at hdz hco
    by_cases he : er = 0
    · subst he
      obtain rfl : pl = 0 := hdz rfl
      rw [at_ok hln hd]
      obtain ⟨c1, c2, c3⟩ := hco
      simp only at c1 c2 c3 ⊢
      rw [c1]
      exact ⟨⟨hst.all, Nat.le_refl _, Nat.le_trans hst.end_ hst.le, gap_refl _ _⟩, Nat.le_trans hst.end_ c2, c3, by omega⟩
    · rw [at_doc hln hd he] at h
      exact absurd h he
  · rw [at_bad hln he] at h
    exact absurd h he
theorem top_bad {s : ByteArray} {i : Int} (h : (topM s i).err ≠ 0) : (topM s i).toks = [] ∧ (topM s i).next = 0 := by
  unfold topM at h ⊢
  split
  · exact ⟨rfl, rfl⟩
  · split
    · exact ⟨rfl, rfl⟩
    · rename_i h1 h2
      rw [if_neg h1, if_neg h2] at h
      unfold atM at h ⊢
      split
      · exact ⟨rfl, rfl⟩
      · rename_i h3
        split
        · exact ⟨rfl, rfl⟩
        · rename_i h4
          rw [if_neg h3, if_neg h4] at h
          exact absurd rfl h
/-- How many tokens there are, and where Line goes on. -/
theorem top_len (s : ByteArray) (i : Int) : (topM s i).toks.length ≤ 65536 ∧ (topM s i).next ≤ 65536 := by
  by_cases hs : 65536 < s.size
  · unfold topM; rw [if_pos hs]; exact ⟨Nat.zero_le _, Nat.zero_le _⟩
  · by_cases hi : i < 0 ∨ (s.size : Int) < i
    · unfold topM; rw [if_neg hs, if_pos hi]; exact ⟨Nat.zero_le _, Nat.zero_le _⟩
    · have ht : topM s i = atM s i.toNat := by unfold topM; rw [if_neg hs, if_neg hi]
      rw [ht]
      have hwf : Wf s ⟨i.toNat, [], []⟩ := ⟨by show i.toNat ≤ s.size; omega, Nat.zero_le _, Nat.le_refl _, (fun d hd => by cases hd), (fun t ht => by cases ht)⟩
      have hl := line_wf (f := s.size) hwf
      have hz := line_zero s.size ⟨i.toNat, [], []⟩ hwf.le
      rcases hln : lineM s s.size ⟨i.toNat, [], []⟩ with ⟨pl, er, st⟩
      rw [hln] at hl hz
      by_cases he : er = 0
      · subst he
        obtain rfl : pl = 0 := hz rfl
        have hst : Wf s st := hl rfl
        have hdz := docs_zero (s := s) st.dels st.toks st.place
        have hco := docs_co (s := s) st.dels st.toks st.place hst.le
        rcases hd : docsM s st.dels st.toks st.place with ⟨pl, er, ts, j⟩
        rw [hd] at hdz hco
        by_cases he : er = 0
        · subst he
          obtain rfl : pl = 0 := hdz rfl
          rw [at_ok hln hd]
          have h1 := congrArg List.length hco.1
          simp only [List.length_map] at h1
          have h2 := hst.toks
          have h3 := hst.le
          have h4 := hco.2.2
          simp only at h1 h4 ⊢
          omega
        · rw [at_doc hln hd he]; exact ⟨Nat.zero_le _, Nat.zero_le _⟩
      · rw [at_bad hln he]; exact ⟨Nat.zero_le _, Nat.zero_le _⟩
end Go.Proofs.YtnhbcmhinhncfaaGreatDoor
/- How far a line goes, and what its tokens are. No condition. -/
namespace Go.Proofs.YtnhbcmhinhncfaaGreatDoor
open Go.RowKit Go.PlainAid
set_option linter.unusedVariables false

/-- A token that a line tells. -/
structure TkB (t : Tk) : Prop where
  pos : 0 < t.text.size
  le : t.text.size ≤ 65536
  kind : 1 ≤ t.kind ∧ t.kind ≤ 4
structure Pg (s : ByteArray) (i : Nat) (st : LS) : Prop where
  le : i ≤ st.place
  sz : st.place ≤ s.size
  len : st.toks.length + i ≤ st.place
  tk : ∀ t ∈ st.toks, TkB t
theorem pg_tok {s : ByteArray} {i : Nat} {st : LS} {m : Nat} (hs : s.size ≤ 65536) (k : Nat) (hk : 1 ≤ k ∧ k ≤ 4) (h : Pg s i st) (h0 : 0 < m) (h1 : st.place + m ≤ s.size) : Pg s i (st.tok s k m) := by
  refine ⟨Nat.le_trans h.le (Nat.le_add_right _ _), h1, ?_, fun t ht => ?_⟩
  · have := h.len
    simp [LS.tok]
    omega
  · rcases List.mem_append.1 ht with ht | ht
    · exact h.tk t ht
    · obtain rfl := List.mem_singleton.1 ht
      have hz : (s.extract st.place (st.place + m)).size = m := by rw [ByteArray.size_extract]; omega
      exact ⟨by show 0 < (s.extract st.place (st.place + m)).size; omega, by show (s.extract st.place (st.place + m)).size ≤ _; omega, by show (1 : Int) ≤ (k : Int) ∧ (k : Int) ≤ 4; omega⟩
theorem pg_del {s : ByteArray} {i : Nat} {st : LS} (h : Pg s i st) : Pg s i st.del := ⟨by rw [del_place]; exact h.le, by rw [del_place]; exact h.sz, by rw [del_place, del_toks]; exact h.len, by rw [del_toks]; exact h.tk⟩
theorem line_pg {s : ByteArray} {f i : Nat} {st : LS} (hs : s.size ≤ 65536) (h : Pg s i st) (he : (lineM s f st).2.1 = 0) : Pg s i (lineM s f st).2.2 := by
  refine line_ind (Pg s i) ?_ ?_ ?_ ?_ ?_ ?_ ?_ f st h he
  · intro st h hlt hb
    exact ⟨Nat.le_succ_of_le h.le, hlt, Nat.le_succ_of_le h.len, h.tk⟩
  · intro st h hlt hc
    exact ⟨Nat.le_trans h.le (Nat.le_add_right _ _), cont_lt h.sz hc, Nat.le_trans h.len (Nat.le_add_right _ _), h.tk⟩
  · intro st h hlt hc
    have := rem_gt hlt hc
    exact ⟨Nat.le_trans h.le (Nat.le_of_lt this.1), this.2, Nat.le_trans h.len (Nat.le_of_lt this.1), h.tk⟩
  · exact fun st h hlt _ => pg_tok hs 3 (by omega) h (by omega) hlt
  · exact fun st h hlt _ h5 => pg_tok hs 2 (by omega) h h5 (op_le3 h.sz)
  · exact fun st m h hlt _ _ h0 _ h1 _ _ => pg_tok hs 4 (by omega) h h0 h1
  · intro st m h hlt _ _ h0 _ h1 _ _
    exact pg_tok hs 1 (by omega) (pg_del h) h0 (by rw [del_place]; exact h1)
/-- A line that begins within the text goes on. -/
theorem line_on {s : ByteArray} {i f : Nat} (hs : s.size ≤ 65536) (hi : i < s.size) (he : (lineM s (f + 1) ⟨i, [], []⟩).2.1 = 0) : i < (lineM s (f + 1) ⟨i, [], []⟩).2.2.place := by
  have h0 : ∀ (st : LS) (f : Nat), i + 1 ≤ st.place → st.place ≤ s.size → (lineM s f st).2.1 = 0 → i < (lineM s f st).2.2.place := fun st f h1 h2 he => by
    have hP := line_ind (s := s) (fun st => i + 1 ≤ st.place ∧ st.place ≤ s.size) (fun st h hlt _ => ⟨by have := h.1; show i + 1 ≤ st.place + 1; omega, hlt⟩) (fun st h hlt hc => ⟨by have := h.1; show i + 1 ≤ st.place + 2; omega, cont_lt h.2 hc⟩)
      (fun st h hlt hc => by have := rem_gt hlt hc; exact ⟨by have := h.1; show i + 1 ≤ remN s st.place; omega, this.2⟩)
      (fun st h hlt _ => ⟨by have := h.1; show i + 1 ≤ st.place + 1; omega, hlt⟩) (fun st h hlt _ h5 => ⟨by have := h.1; show i + 1 ≤ st.place + _; omega, op_le3 h.2⟩)
      (fun st m h hlt _ _ h0 _ h1 _ _ => ⟨by have := h.1; show i + 1 ≤ st.place + m; omega, h1⟩)
      (fun st m h hlt _ _ h0 _ h1 _ _ => by
        have e : (st.del.tok s 1 m).place = st.place + m := by show st.del.place + m = _; rw [del_place]
        rw [e]
        exact ⟨by have := h.1; omega, h1⟩) f st ⟨h1, h2⟩ he
    exact hP.1
  cases h1 : (bt s i == 32 || bt s i == 9)
  · cases h2 : contM s i
    · cases h3 : (bt s i == 35)
      · cases h4 : (bt s i == 10)
        · by_cases h5 : 0 < opN (s.extract i s.size)
          · rw [line_op (st := ⟨i, [], []⟩) hi h1 h2 h3 h4 h5] at he ⊢
            exact h0 _ _ (Nat.add_le_add_left h5 i) (op_le3 (Nat.le_of_lt hi)) he
          · by_cases h6 : (wordM s ⟨i, [], []⟩).2.1 = 0
            · rw [line_word (st := ⟨i, [], []⟩) hi h1 h2 h3 h4 h5 h6] at he ⊢
              have hm := word_moves (st := ⟨i, [], []⟩) hi (ends_of hi h1 h4 h5) h6
              exact h0 _ _ hm.1 hm.2.1 he
            · rw [line_bad (st := ⟨i, [], []⟩) hi h1 h2 h3 h4 h5 h6] at he
              exact absurd he h6
        · rw [line_nl (st := ⟨i, [], []⟩) hi h1 h2 h3 h4]
          exact Nat.lt_succ_self i
      · rw [line_rem (st := ⟨i, [], []⟩) hi h1 h2 h3] at he ⊢
        have := rem_gt hi h3
        exact h0 _ _ this.1 this.2 he
    · rw [line_cont (st := ⟨i, [], []⟩) hi h1 h2] at he ⊢
      exact h0 _ _ (by show i + 1 ≤ i + 2; omega) (cont_lt (Nat.le_of_lt hi) h2) he
  · rw [line_blank (st := ⟨i, [], []⟩) hi h1] at he ⊢
    exact h0 _ _ (Nat.le_refl _) hi he
/-- What Line answers. -/
structure TopOk (s : ByteArray) (i : Nat) (r : LR) : Prop where
  le : i ≤ r.next
  sz : r.next ≤ s.size
  len : r.toks.length + i ≤ r.next
  tk : ∀ t ∈ r.toks, TkB t
  on : i < s.size → i < r.next
theorem co_tk {ts us : List Tk} (h : ts.map Tk.co = us.map Tk.co) (hu : ∀ t ∈ us, TkB t) : ∀ t ∈ ts, TkB t := fun t ht => by
  have h1 : t.co ∈ us.map Tk.co := by rw [← h]; exact List.mem_map.2 ⟨t, ht, rfl⟩
  obtain ⟨u, hu1, hu2⟩ := List.mem_map.1 h1
  have h2 := hu u hu1
  have e1 : u.kind = t.kind := congrArg (fun c : Co => c.1) hu2
  have e2 : u.text = t.text := congrArg (fun c : Co => c.2.1) hu2
  exact ⟨by rw [← e2]; exact h2.pos, by rw [← e2]; exact h2.le, by rw [← e1]; exact h2.kind⟩
theorem top_ok {s : ByteArray} {i : Nat} (hs : s.size ≤ 65536) (hi : i ≤ s.size) (h : (topM s i).err = 0) : TopOk s i (topM s i) := by
  have ht : topM s i = atM s i := by unfold topM; rw [if_neg (by omega), if_neg (by omega)]; rfl
  rw [ht] at h ⊢
  have h0 : Pg s i ⟨i, [], []⟩ := ⟨Nat.le_refl _, hi, by show 0 + i ≤ i; omega, fun t ht => by cases ht⟩
  have hl := line_pg (f := s.size) hs h0
  have hz := line_zero s.size ⟨i, [], []⟩ hi
  have hon := fun (h : i < s.size) => line_on (f := s.size - 1) hs h
  rcases hln : lineM s s.size ⟨i, [], []⟩ with ⟨pl, er, st⟩
  rw [hln] at hl hz
  by_cases he : er = 0
  · subst he
    obtain rfl : pl = 0 := hz rfl
    have hst : Pg s i st := hl rfl
    have hdz := docs_zero (s := s) st.dels st.toks st.place
    have hco := docs_co (s := s) st.dels st.toks st.place hst.sz
    rcases hd : docsM s st.dels st.toks st.place with ⟨pl, er, ts, j⟩
    rw [hd] at hdz hco
    by_cases he : er = 0
    · subst he
      obtain rfl : pl = 0 := hdz rfl
      rw [at_ok hln hd]
      obtain ⟨c1, c2, c3⟩ := hco
      simp only at c1 c2 c3 ⊢
      have hlen : ts.length = st.toks.length := by simpa using congrArg List.length c1
      refine ⟨Nat.le_trans hst.le c2, c3, by show ts.length + i ≤ j; have := hst.len; omega, co_tk c1 hst.tk, fun hlt => ?_⟩
      have h1 := hon hlt
      rw [show s.size - 1 + 1 = s.size by omega, hln] at h1
      exact Nat.lt_of_lt_of_le (h1 rfl) c2
    · rw [at_doc hln hd he] at h
      exact absurd h he
  · rw [at_bad hln he] at h
    exact absurd h he
end Go.Proofs.YtnhbcmhinhncfaaGreatDoor
/- The library's variables, and what Number answers. Condition: they lie as they were laid (Gl). -/
namespace Go.Proofs.YtnhbcmhinhncfaaGreatDoor
open Go.RowKit Go.PlainAid
attribute [local go_sem] Oper.semAt_some

/-- What the listed variables hold, as far as the contracts ask. -/
structure Gl (w : World) : Prop where
  c1 : ∃ t p, w.cell? ⟨3, 0, none⟩ = some (.iface t p)
  c2 : ∃ t p, w.cell? ⟨4, 0, none⟩ = some (.iface t p)
  c3 : ∃ m, w.cell? ⟨0, 0, none⟩ = some (.int .i64 m)
  tab : Lib.TabIs Tryz.prog w "internal/strconv.uint64pow10" .u64 Lib.pow10Tab
  sz : 8 ≤ w.heap.size
/-- Blocks that the variables lie in stay. -/
theorem Gl.keep {w w' : World} (h : Gl w) (hs : w.heap.size ≤ w'.heap.size) (hb : ∀ g, g < 8 → w'.heap[g]? = w.heap[g]?) : Gl w' := by
  refine ⟨?_, ?_, ?_, ?_, Nat.le_trans h.sz hs⟩
  · obtain ⟨t, p, e⟩ := h.c1
    exact ⟨t, p, (World.cell?_of_block (a := ⟨3, 0, none⟩) (hb _ (by decide))).trans e⟩
  · obtain ⟨t, p, e⟩ := h.c2
    exact ⟨t, p, (World.cell?_of_block (a := ⟨4, 0, none⟩) (hb _ (by decide))).trans e⟩
  · obtain ⟨m, e⟩ := h.c3
    exact ⟨m, (World.cell?_of_block (a := ⟨0, 0, none⟩) (hb _ (by decide))).trans e⟩
  · have hg : Tryz.prog.globalNamed "internal/strconv.uint64pow10" = some 5 := by kernel_rfl
    have h1 := h.tab
    unfold Lib.TabIs World.var? at h1 ⊢
    simp only [hg, Option.bind_some] at h1 ⊢
    rw [hb _ (by decide)]
    exact h1

set_option maxHeartbeats 400000 in
theorem number_any (s : ByteArray) (hs : s.size ≤ 281474976710656) (w : World) (h : Gl w) :
    Calls Tryz.prog 122 #[.string s] w fun e w' => e = .returned (.tuple #[.int .i64 (numV s.data.toList), .bool (numOk s.data.toList)]) ∧ Below w.heap.size w w' := by
  unfold numV numOk
  rcases hp : Lib.parseIntB 64 s.data.toList with v | _ | _
  · have hf : Hid (Calls Tryz.prog 127 #[.string s, .int .i64 10, .int .i64 64] w fun e w' => e = .returned (.tuple #[.int .i64 v, .nilIface]) ∧ Below w.heap.size w w') :=
      Lib.hid ((Tryz.strconv_ParseInt_10_at64_ok s (by omega) v hp w).mono fun e w' ⟨he, hw⟩ => ⟨he, by
        rcases hw with rfl | ⟨t, rfl⟩
        · exact Below.refl _ _
        · exact Lib.bytesWorld_below _ _ _⟩)
    clear h hp
    go_enter Tryz.func122, Tryz.ntmps122
    go_wp2_with fail
    refine hf.out.mono ?_
    rintro e w1 ⟨rfl, hb⟩
    have hbH := Lib.hid hb
    clear hb
    go_wp2
    go_ret2
    exact ⟨rfl, hbH.out⟩
  · obtain ⟨t, p, hc⟩ := h.c1
    have hf : Hid (Calls Tryz.prog 127 #[.string s, .int .i64 10, .int .i64 64] w fun e w' => ∃ N, e = .returned (.tuple #[.int .i64 0, .iface 160 (.pointer (some ⟨N, 0, none⟩))]) ∧ Below w.heap.size w w') :=
      Lib.hid ((Tryz.strconv_ParseInt_10_at64_syntax s hs hp _ w hc (.inr ⟨_, _, rfl⟩)).mono fun e w' ⟨N, he, _, _, hw⟩ => ⟨N, he, hw⟩)
    clear h hp hc
    go_enter Tryz.func122, Tryz.ntmps122
    go_wp2_with fail
    refine hf.out.mono ?_
    rintro e w1 ⟨N, rfl, hb⟩
    have hbH := Lib.hid hb
    clear hb
    go_wp2
    go_ret2
    exact ⟨rfl, hbH.out⟩
  · obtain ⟨t, p, hc⟩ := h.c2
    have hf : Hid (Calls Tryz.prog 127 #[.string s, .int .i64 10, .int .i64 64] w fun e w' => ∃ N x, e = .returned (.tuple #[.int .i64 x, .iface 160 (.pointer (some ⟨N, 0, none⟩))]) ∧ Below w.heap.size w w') :=
      Lib.hid ((Tryz.strconv_ParseInt_10_at64_range s hs hp _ w hc (.inr ⟨_, _, rfl⟩)).mono fun e w' ⟨N, he, _, _, hw⟩ => ⟨N, _, he, hw⟩)
    clear h hp hc
    go_enter Tryz.func122, Tryz.ntmps122
    go_wp2_with fail
    refine hf.out.mono ?_
    rintro e w1 ⟨N, x, rfl, hb⟩
    have hbH := Lib.hid hb
    clear hb
    go_wp2
    go_ret2
    exact ⟨rfl, hbH.out⟩

end Go.Proofs.YtnhbcmhinhncfaaGreatDoor
/- The parser in memory: its block, its tokens, trees; frames. No condition. -/
namespace Go.Proofs.YtnhbcmhinhncfaaGreatDoor
open Go.RowKit Go.PlainAid
set_option linter.unusedVariables false
attribute [local go_sem] Oper.semAt_some

/-- Of what was there only block b may have turned. -/
structure Fb (b : Nat) (w w' : World) : Prop where
  os : w'.os = w.os
  tape : w'.tape = w.tape
  output : w'.output = w.output
  size : w.heap.size ≤ w'.heap.size
  block : ∀ g, g < w.heap.size → g ≠ b → w'.heap[g]? = w.heap[g]?
theorem Fb.refl (b : Nat) (w : World) : Fb b w w := ⟨rfl, rfl, rfl, Nat.le_refl _, fun _ _ _ => rfl⟩
theorem Fb.trans {b : Nat} {u v w : World} (h : Fb b u v) (k : Fb b v w) : Fb b u w :=
  ⟨k.os.trans h.os, k.tape.trans h.tape, k.output.trans h.output, Nat.le_trans h.size k.size, fun g h1 h2 => (k.block g (Nat.lt_of_lt_of_le h1 h.size) h2).trans (h.block g h1 h2)⟩
theorem Fb.of_below {b : Nat} {w w' : World} (h : Below w.heap.size w w') : Fb b w w' := ⟨h.os, h.tape, h.output, h.size, fun g h1 _ => h.block g h1⟩
theorem Fb.below {b n : Nat} {w w' : World} (h : Fb b w w') (hn : n ≤ b) (hs : n ≤ w.heap.size) : Below n w w' := ⟨h.os, h.tape, h.output, h.size, fun g hg => h.block g (by omega) (by omega)⟩
theorem Fb.alloc {b : Nat} {w w' : World} (h : Fb b w w') (o : Obj) : Fb b w (w'.alloc o) := h.trans (Fb.of_below ((Below.refl _ _).alloc (Nat.le_refl _) o))
theorem Fb.set_ {b : Nat} {w w' : World} (h : Fb b w w') (i : Nat) (u : Value) : Fb b w (w'.setCell ⟨b, i, none⟩ u) :=
  ⟨h.os, h.tape, h.output, by rw [World.size_setCell]; exact h.size, fun g h1 h2 => (Below.heap_setCell _ _ _ _ h2).trans (h.block g h1 h2)⟩
theorem Fb.drewN {b : Nat} {w w' : World} (h : Fb b w w') (n : Nat) : Fb b w (w'.drewN n) := ⟨h.os, h.tape, h.output, h.size, h.block⟩
theorem Fb.cell {b : Nat} {w w' : World} (h : Fb b w w') {g o : Nat} (hg : g < w.heap.size) (hb : g ≠ b) : w'.cell? ⟨g, o, none⟩ = w.cell? ⟨g, o, none⟩ := World.cell?_of_block (a := ⟨g, o, none⟩) (h.block g hg hb)
theorem Fb.blk {b g : Nat} {t : TypeId} {cs : Array Value} {w w' : World} (h : Fb b w w') (hB : Blk w g t cs) (hg : g ≠ b) : Blk w' g t cs := (h.block g hB.lt hg).trans hB
theorem Fb.gl {b : Nat} {w w' : World} (h : Fb b w w') (hg : Gl w) (hb : 8 ≤ b) : Gl w' := hg.keep h.size (fun g h1 => h.block g (by have := hg.sz; omega) (by omega))

/-! ### The tokens at hand -/
abbrev tkV (t : Tk) : Value := .agg #[.int .i64 t.kind, .string t.text, .int .i64 t.place, .string t.doc, .bool t.raw]
abbrev tkC (t : Tk) : Array Value := #[.int .i64 t.kind, .string t.text, .int .i64 t.place, .string t.doc, .bool t.raw]
structure TksAt (b : Nat) (w : World) (a : Option Addr) (c : Nat) (l : List Tk) : Prop where
  cap : l.length ≤ c
  tk : ∀ t ∈ l, TkB t
  at_ : l ≠ [] → ∃ g o, a = some ⟨g, o, none⟩ ∧ g ≠ b ∧ g < w.heap.size ∧ ∀ i t, l[i]? = some t → ∀ j u, t.cells[j]? = some u → w.cell? ⟨g, o + i * 5 + j, none⟩ = some u
  ty : ∀ g o, a = some ⟨g, o, none⟩ → l ≠ [] → ∃ cs, Blk w g 58 cs
theorem TksAt.keep {b c : Nat} {w w' : World} {a : Option Addr} {l : List Tk} (h : TksAt b w a c l) (hf : Fb b w w') : TksAt b w' a c l :=
  ⟨h.cap, h.tk, fun hl => by
    obtain ⟨g, o, e, h1, h2, h3⟩ := h.at_ hl
    exact ⟨g, o, e, h1, Nat.lt_of_lt_of_le h2 hf.size, fun i t hi j u hj => (hf.cell h2 h1).trans (h3 i t hi j u hj)⟩, fun g o e hl => by
    obtain ⟨g', o', e', h1, h2, _⟩ := h.at_ hl
    rw [e] at e'
    obtain ⟨rfl, rfl⟩ : g = g' ∧ o = o' := by simpa using e'
    obtain ⟨cs, hB⟩ := h.ty g o e hl
    exact ⟨cs, hf.blk hB h1⟩⟩
theorem TksAt.nil (b : Nat) (w : World) (a : Option Addr) (c : Nat) : TksAt b w a c [] := ⟨Nat.zero_le _, (fun t h => nomatch h), fun h => absurd rfl h, fun g o e h => absurd rfl h⟩
theorem TksAt.head {b c : Nat} {w : World} {a : Option Addr} {t : Tk} {l : List Tk} (h : TksAt b w a c (t :: l)) :
    ∃ g o, a = some ⟨g, o, none⟩ ∧ g ≠ b ∧ g < w.heap.size ∧ w.cell? ⟨g, o, none⟩ = some (.int .i64 t.kind) ∧ w.cell? ⟨g, o + 1, none⟩ = some (.string t.text) ∧ w.cell? ⟨g, o + 2, none⟩ = some (.int .i64 t.place) ∧ w.cell? ⟨g, o + 3, none⟩ = some (.string t.doc) ∧ w.cell? ⟨g, o + 4, none⟩ = some (.bool t.raw) ∧
      (∀ c', l.length ≤ c' → TksAt b w (some ⟨g, o + 5, none⟩) c' l) := by
  obtain ⟨g, o, e, h1, h2, h3⟩ := h.at_ (by simp)
  have hc := h3 0 t rfl
  have k0 := hc 0 _ rfl
  have k1 := hc 1 _ rfl
  have k2 := hc 2 _ rfl
  have k3 := hc 3 _ rfl
  have k4 := hc 4 _ rfl
  simp only [Nat.zero_mul, Nat.add_zero] at k0 k1 k2 k3 k4
  refine ⟨g, o, e, h1, h2, k0, k1, k2, k3, k4, fun c' hc' => ⟨hc', fun u hu => h.tk u (List.mem_cons_of_mem _ hu), fun _ => ⟨g, o + 5, rfl, h1, h2, fun i u hi j v hj => ?_⟩, fun g' o' e' _ => by
    obtain ⟨rfl, _⟩ : g = g' ∧ o + 5 = o' := by simpa using e'
    exact h.ty g o e (by simp)⟩⟩
  have := h3 (i + 1) u (by simpa using hi) j v hj
  rwa [show o + (i + 1) * 5 + j = o + 5 + i * 5 + j by omega] at this
/-- What a line tells lies so. -/
theorem tks_of_row {b n₀ c : Nat} {w : World} {a : Option Addr} {l : List Tk} (h : w.ownsRow n₀ 58 5 (.slice a l.length c) l.length (tv l)) (hb : b < n₀) (ht : ∀ t ∈ l, TkB t) : TksAt b w a c l := by
  refine ⟨?_, ht, fun hl => ?_, fun g o e hl => ?_⟩
  · rcases h.2 with ⟨e, h0⟩ | ⟨g, cap, _, e, _, _, h1, _⟩
    · rw [h0]; exact Nat.zero_le _
    · obtain ⟨rfl, rfl⟩ : a = some ⟨g, 0, none⟩ ∧ c = cap := by simpa using e
      exact h1
  · have hp : 0 < l.length := Nat.pos_of_ne_zero fun e => hl (List.eq_nil_of_length_eq_zero e)
    obtain ⟨g, cap, hv, _, _⟩ := h.form hp
    obtain ⟨rfl, rfl⟩ : a = some ⟨g, 0, none⟩ ∧ c = cap := by simpa using hv
    refine ⟨g, 0, rfl, ?_, (h.lt g rfl).2, fun i t hi j u hj => ?_⟩
    · have := (h.lt g rfl).1; omega
    · have hk2 := (List.getElem?_eq_some_iff.1 hi).1
      have hj5 : j < 5 := by have := (List.getElem?_eq_some_iff.1 hj).1; exact this
      rw [Nat.zero_add, h.cellAt _ (by omega), tv_get l i j t hi hj5]
      exact hj
  · rcases h.2 with ⟨e2, h0⟩ | ⟨g2, cap, cur, e2, _, hB, _⟩
    · exact absurd (List.eq_nil_of_length_eq_zero h0) hl
    · obtain ⟨e3, _⟩ : a = some ⟨g2, 0, none⟩ ∧ c = cap := by simpa using e2
      rw [e] at e3
      obtain ⟨rfl, _⟩ : g = g2 ∧ o = 0 := by simpa using e3
      exact ⟨cur, hB⟩

/-! ### The parser -/
/-- What holds of the parser's state all along. -/
structure PW (s : ByteArray) (st : PS) : Prop where
  sz : s.size ≤ 65536
  at_ : st.at_ ≤ s.size
  cnt : st.toks.length ≤ st.at_
  err : st.err ≠ 0 → st.toks = [] ∧ st.ended = true
  tk : ∀ t ∈ st.toks, TkB t
abbrev psC (s : ByteArray) (st : PS) (a : Option Addr) (c : Nat) : Array Value := #[.string s, .int .i64 st.at_, .slice a st.toks.length c, .bool st.ended, .int .i64 st.place, .int .i64 st.err]
structure PA (b : Nat) (s : ByteArray) (w : World) (st : PS) (a : Option Addr) (c : Nat) : Prop where
  blk : Blk w b 56 (psC s st a c)
  tk : TksAt b w a c st.toks
  gl : Gl w
  b16 : 8 ≤ b
  ok : PW s st
def PAt (b : Nat) (s : ByteArray) (w : World) (st : PS) : Prop := ∃ a c, PA b s w st a c
theorem PA.below {b c : Nat} {s : ByteArray} {w w' : World} {st : PS} {a : Option Addr} (h : PA b s w st a c) (hb : Below w.heap.size w w') : PA b s w' st a c :=
  ⟨(hb.block b h.blk.lt).trans h.blk, h.tk.keep (Fb.of_below hb), (Fb.of_below (b := b) hb).gl h.gl h.b16, h.b16, h.ok⟩
theorem PAt.below {b : Nat} {s : ByteArray} {w w' : World} {st : PS} (h : PAt b s w st) (hb : Below w.heap.size w w') : PAt b s w' st := by
  obtain ⟨a, c, h⟩ := h
  exact ⟨a, c, h.below hb⟩
theorem PAt.lt {b : Nat} {s : ByteArray} {w : World} {st : PS} (h : PAt b s w st) : b < w.heap.size := by
  obtain ⟨a, c, h⟩ := h
  exact h.blk.lt
theorem PAt.ok {b : Nat} {s : ByteArray} {w : World} {st : PS} (h : PAt b s w st) : PW s st := by
  obtain ⟨a, c, h⟩ := h
  exact h.ok
/-- The parser's block alone has turned. -/
theorem PA.turn {b c c' : Nat} {s : ByteArray} {w w' : World} {st st' : PS} {a : Option Addr} {a2 : Option Addr} (h : PA b s w st a c) (hf : Fb b w w') (hB : Blk w' b 56 (psC s st' a2 c')) (ht : TksAt b w' a2 c' st'.toks) (ho : PW s st') : PA b s w' st' a2 c' :=
  ⟨hB, ht, hf.gl h.gl h.b16, h.b16, ho⟩
end Go.Proofs.YtnhbcmhinhncfaaGreatDoor
/- What reading keeps of the parser's state, and how much it leaves. No condition. -/
namespace Go.Proofs.YtnhbcmhinhncfaaGreatDoor
open Go.RowKit Go.PlainAid
set_option linter.unusedVariables false
section
variable {s : ByteArray}
/-- How much of the text is still to come. -/
def more (s : ByteArray) (st : PS) : Nat := if st.ended then 0 else s.size + 1 - st.at_
theorem rem_is (st : PS) : rem s st = st.toks.length + more s st := rfl
theorem fillP_done {f : Nat} {st : PS} (h : (st.toks.isEmpty && !st.ended) = false) : fillP s f st = st := by
  cases f with
  | zero => rfl
  | succ f => unfold fillP; rw [h, if_neg (by decide)]
theorem fill_done {st : PS} (h : (st.toks.isEmpty && !st.ended) = false) : fill s st = st := fillP_done h
theorem failP_dead (pl e : Int) (st : PS) : (failP pl e st).toks = [] ∧ (failP pl e st).ended = true := ⟨rfl, rfl⟩
theorem pw_fail {st : PS} (pl e : Int) (h : PW s st) : PW s (failP pl e st) := ⟨h.sz, h.at_, Nat.zero_le _, (fun _ => ⟨rfl, rfl⟩), fun t ht => nomatch ht⟩
theorem pw_line {st : PS} (h : PW s st) (h0 : (topM s st.at_).err = 0) (he : st.err = 0) : PW s ⟨(topM s st.at_).toks, (topM s st.at_).next, decide ((topM s st.at_).next = s.size), st.place, st.err⟩ := by
  have ht := top_ok h.sz h.at_ h0
  exact ⟨h.sz, ht.sz, by have := ht.len; show (topM s st.at_).toks.length ≤ (topM s st.at_).next; omega, (fun k => absurd he k), ht.tk⟩
theorem live {st : PS} (h : PW s st) (hf : (st.toks.isEmpty && !st.ended) = true) : st.err = 0 := Decidable.byContradiction fun k => by
  rw [(h.err k).2] at hf
  simp at hf
/-- A line's end: less is to come. -/
theorem more_line {st : PS} (h : PW s st) (h0 : (topM s st.at_).err = 0) (hf : (st.toks.isEmpty && !st.ended) = true) :
    (topM s st.at_).toks.length + more s ⟨(topM s st.at_).toks, (topM s st.at_).next, decide ((topM s st.at_).next = s.size), st.place, st.err⟩ ≤ more s st ∧ more s ⟨(topM s st.at_).toks, (topM s st.at_).next, decide ((topM s st.at_).next = s.size), st.place, st.err⟩ < more s st := by
  have ht := top_ok h.sz h.at_ h0
  obtain ⟨t1, t2, t3, t4, t5⟩ := ht
  have ha := h.at_
  have hen : st.ended = false := by
    cases he : st.ended with
    | false => rfl
    | true => rw [he] at hf; simp at hf
  unfold more
  rw [hen]
  simp only [Bool.false_eq_true, if_false]
  by_cases hx : (topM s st.at_).next = s.size
  · rw [decide_eq_true hx, if_pos rfl]; omega
  · rw [decide_eq_false hx, if_neg (by decide)]
    by_cases hlt : st.at_ < s.size
    · have := t5 hlt; omega
    · omega
/-- What filling does. -/
structure Fl (s : ByteArray) (st st' : PS) : Prop where
  ok : PW s st'
  done : (st'.toks.isEmpty && !st'.ended) = false
  rem : rem s st' ≤ rem s st
theorem fillP_fl : ∀ (f : Nat) (st : PS), PW s st → more s st < f → Fl s st (fillP s f st)
  | 0, st, _, h => by omega
  | f + 1, st, h, hm => by
    unfold fillP
    by_cases hf : (st.toks.isEmpty && !st.ended) = true
    · rw [if_pos hf]
      by_cases h0 : (topM s st.at_).err = 0
      · rw [if_neg (fun k => k h0)]
        have h1 := more_line h h0 hf
        have ih := fillP_fl f _ (pw_line h h0 (live h hf)) (by omega)
        refine ⟨ih.ok, ih.done, Nat.le_trans ih.rem ?_⟩
        rw [rem_is, rem_is]
        exact Nat.le_trans h1.1 (Nat.le_add_left _ _)
      · rw [if_pos h0]
        exact ⟨pw_fail _ _ h, rfl, by rw [rem_is]; show 0 + 0 ≤ _; exact Nat.zero_le _⟩
    · rw [if_neg hf]
      exact ⟨h, by simpa using hf, Nat.le_refl _⟩
theorem more_le (st : PS) : more s st < s.size + 2 := by unfold more; split <;> omega
theorem fill_fl {st : PS} (h : PW s st) : Fl s st (fill s st) := fillP_fl _ st h (more_le st)
theorem fillP_more : ∀ (f g : Nat) (st : PS), PW s st → more s st < f → f ≤ g → fillP s g st = fillP s f st
  | 0, g, st, _, h, _ => by omega
  | f + 1, 0, st, _, _, h => by omega
  | f + 1, g + 1, st, h, hm, hg => by
    unfold fillP
    by_cases hf : (st.toks.isEmpty && !st.ended) = true
    · rw [if_pos hf, if_pos hf]
      by_cases h0 : (topM s st.at_).err = 0
      · rw [if_neg (fun k => k h0), if_neg (fun k => k h0)]
        have h1 := more_line h h0 hf
        exact fillP_more f g _ (pw_line h h0 (live h hf)) (by omega) (by omega)
      · rw [if_pos h0, if_pos h0]
    · rw [if_neg hf, if_neg hf]
theorem fill_line {st : PS} (h : PW s st) (hf : (st.toks.isEmpty && !st.ended) = true) (h0 : (topM s st.at_).err = 0) : fill s st = fill s ⟨(topM s st.at_).toks, (topM s st.at_).next, decide ((topM s st.at_).next = s.size), st.place, st.err⟩ := by
  have h1 := more_line h h0 hf
  have h2 := more_le (s := s) st
  unfold fill
  conv => lhs; unfold fillP
  rw [if_pos hf, if_neg (fun k => k h0)]
  exact (fillP_more (s.size + 1) (s.size + 2) _ (pw_line h h0 (live h hf)) (by omega) (by omega)).symm
theorem fill_bad {st : PS} (hf : (st.toks.isEmpty && !st.ended) = true) (h0 : (topM s st.at_).err ≠ 0) : fill s st = failP (topM s st.at_).place (topM s st.at_).err st := by
  unfold fill
  conv => lhs; unfold fillP
  rw [if_pos hf, if_pos h0]
theorem fill_fill {st : PS} (h : PW s st) : fill s (fill s st) = fill s st := fill_done (fill_fl h).done
theorem peek_fill {st : PS} (h : PW s st) : peekP s (fill s st) = peekP s st := by unfold peekP; rw [fill_fill h]
theorem next_fill {st : PS} (h : PW s st) : nextP s (fill s st) = nextP s st := by unfold nextP; rw [fill_fill h]
theorem pw_next {st : PS} (h : PW s st) : PW s (nextP s st) := by
  have hf := (fill_fl h).ok
  refine ⟨hf.sz, hf.at_, ?_, fun k => ?_, fun t ht => hf.tk t (List.mem_of_mem_tail ht)⟩
  · have := hf.cnt
    show (fill s st).toks.tail.length ≤ (fill s st).at_
    rw [List.length_tail]; omega
  · have := hf.err k
    exact ⟨by show (fill s st).toks.tail = []; rw [this.1]; rfl, this.2⟩
theorem rem_next {st : PS} (h : PW s st) : rem s (nextP s st) ≤ rem s st := by
  have h1 := (fill_fl h).rem
  rw [rem_is] at h1 ⊢
  have : (nextP s st).toks.length = (fill s st).toks.length - 1 := by show (fill s st).toks.tail.length = _; rw [List.length_tail]
  have e : more s (nextP s st) = more s (fill s st) := rfl
  omega
theorem peek_none {st : PS} (h : (peekP s st).kind ≠ 0) : (fill s st).toks ≠ [] := fun e => h (by unfold peekP tokP; rw [e]; rfl)
theorem rem_taken {st : PS} (h : PW s st) (hp : (peekP s st).kind ≠ 0) : rem s (nextP s st) < rem s st := by
  have h1 := (fill_fl h).rem
  rw [rem_is] at h1 ⊢
  have h2 := peek_none hp
  have h3 : 0 < (fill s st).toks.length := Nat.pos_of_ne_zero fun e => h2 (List.eq_nil_of_length_eq_zero e)
  have : (nextP s st).toks.length = (fill s st).toks.length - 1 := by show (fill s st).toks.tail.length = _; rw [List.length_tail]
  have e : more s (nextP s st) = more s (fill s st) := rfl
  omega
theorem peek_tkb {st : PS} (h : PW s st) (hk : (peekP s st).kind ≠ 0) : TkB (peekP s st) := by
  have hne := peek_none hk
  unfold peekP tokP
  cases hl : (fill s st).toks with
  | nil => exact absurd hl hne
  | cons t l => exact (fill_fl h).ok.tk t (by rw [hl]; exact List.mem_cons_self ..)
theorem rem_fail (pl e : Int) (st : PS) : rem s (failP pl e st) = 0 := rfl
theorem fail_fill {pl e : Int} {st : PS} : fill s (failP pl e st) = failP pl e st := fill_done rfl
theorem rem_bd {st : PS} (h : PW s st) : rem s st ≤ 140000 := by
  have h1 := h.cnt
  have h2 := h.at_
  have h3 := h.sz
  rw [rem_is]
  unfold more
  split <;> omega
end
end Go.Proofs.YtnhbcmhinhncfaaGreatDoor
/- fail and peek. Condition: the parser lies as stated. -/
namespace Go.Proofs.YtnhbcmhinhncfaaGreatDoor
open Go.RowKit Go.Shelf Go.PlainAid
set_option linter.unusedVariables false
set_option linter.unusedSimpArgs false
attribute [local go_sem] Oper.semAt_some
abbrev ptr (b : Nat) : Value := .pointer (some ⟨b, 0, none⟩)
theorem mixed : Tryz.prog.follows .mixedOrders = true := by kernel_rfl
section
variable {b : Nat} {s : ByteArray} {w : World} {st : PS}
theorem fail_set2 {W : World} {v0 v1 v2 v3 v4 v5 x y : Value} (hB : Blk W b 56 #[v0, v1, v2, v3, v4, v5]) : Blk ((W.setCell ⟨b, 2, none⟩ x).setCell ⟨b, 3, none⟩ y) b 56 #[v0, v1, x, y, v4, v5] := (hB.set_ 2 _).set_ 3 _
theorem fail_set4 {W : World} {v0 v1 v2 v3 v4 v5 x y : Value} (hB : Blk W b 56 #[v0, v1, v2, v3, v4, v5]) : Blk ((W.setCell ⟨b, 4, none⟩ x).setCell ⟨b, 5, none⟩ y) b 56 #[v0, v1, v2, v3, x, y] := (hB.set_ 4 _).set_ 5 _
set_option maxRecDepth 100000 in
set_option maxHeartbeats 2000000 in
theorem fail_any (h : PAt b s w st) (pl e : Int) : Calls Tryz.prog 29 #[ptr b, .int .i64 pl, .int .i64 e] w fun r w' => r = .returned (.tuple #[]) ∧ PAt b s w' (failP pl e st) ∧ Fb b w w' := by
  obtain ⟨a, c, h⟩ := h
  have c5 : w.cell? ⟨b, 5, none⟩ = some (.int .i64 st.err) := h.blk.cell 5
  have c4 : w.cell? ⟨b, 4, none⟩ = some (.int .i64 st.place) := h.blk.cell 4
  have c2 : w.cell? ⟨b, 2, none⟩ = some (.slice a st.toks.length c) := h.blk.cell 2
  have c3 : w.cell? ⟨b, 3, none⟩ = some (.bool st.ended) := h.blk.cell 3
  have f2 := h.blk.frozen 2
  have f3 := h.blk.frozen 3
  have f4 := h.blk.frozen 4
  have f5 := h.blk.frozen 5
  have hH := Lib.hid h
  have hf := Lib.hid (show failP pl e st = ⟨[], st.at_, true, if st.err = 0 then pl else st.place, if st.err = 0 then e else st.err⟩ from rfl)
  clear h
  cases h1 : (st.err == 0)
  · have hr := Lib.hid (show failP pl e st = ⟨[], st.at_, true, st.place, st.err⟩ by rw [hf.out, if_neg (fun k => by rw [k] at h1; cases h1), if_neg (fun k => by rw [k] at h1; cases h1)])
    go_enter Tryz.func29, Tryz.ntmps29
    go_wp2
    go_end0
    have hB := hH.out.blk
    have hfr : Fb b w ((w.setCell ⟨b, 2, none⟩ (.slice none 0 0)).setCell ⟨b, 3, none⟩ (.bool true)) := ((Fb.refl b w).set_ _ _).set_ _ _
    have hp := pw_fail pl e hH.out.ok
    rw [hr.out] at hp ⊢
    exact ⟨rfl, ⟨none, 0, hH.out.turn (c' := 0) (a2 := none) hfr (fail_set2 hB) (TksAt.nil _ _ _ _) hp⟩, hfr⟩
  · have hr := Lib.hid (show failP pl e st = ⟨[], st.at_, true, pl, e⟩ by rw [hf.out, if_pos (eq_of_beq h1), if_pos (eq_of_beq h1)])
    go_enter Tryz.func29, Tryz.ntmps29
    go_wp2
    go_end0
    have hB := hH.out.blk
    have hfr : Fb b w ((((w.setCell ⟨b, 4, none⟩ (.int .i64 pl)).setCell ⟨b, 5, none⟩ (.int .i64 e)).setCell ⟨b, 2, none⟩ (.slice none 0 0)).setCell ⟨b, 3, none⟩ (.bool true)) := ((((Fb.refl b w).set_ _ _).set_ _ _).set_ _ _).set_ _ _
    have hp := pw_fail pl e hH.out.ok
    rw [hr.out] at hp ⊢
    exact ⟨rfl, ⟨none, 0, hH.out.turn (c' := 0) (a2 := none) hfr (fail_set2 (fail_set4 hB)) (TksAt.nil _ _ _ _) hp⟩, hfr⟩
/-- The zero token's cells. -/
abbrev Z5 : Array Value := #[.int .i64 0, .string ⟨#[]⟩, .int .i64 0, .string ⟨#[]⟩, .bool false]
def put5 (w : World) (q : Nat) (a1 a2 a3 a4 a5 : Value) : World := ((((w.setCell ⟨q, 0, none⟩ a1).setCell ⟨q, 1, none⟩ a2).setCell ⟨q, 2, none⟩ a3).setCell ⟨q, 3, none⟩ a4).setCell ⟨q, 4, none⟩ a5
theorem put5_blk {W : World} {q : Nat} {T : TypeId} {v1 v2 v3 v4 v5 : Value} (hB : Blk W q T #[v1, v2, v3, v4, v5]) (a1 a2 a3 a4 a5 : Value) : Blk (put5 W q a1 a2 a3 a4 a5) q T #[a1, a2, a3, a4, a5] := ((((hB.set_ 0 a1).set_ 1 a2).set_ 2 a3).set_ 3 a4).set_ 4 a5
theorem put5_far (W : World) (q : Nat) (a1 a2 a3 a4 a5 : Value) {g : Nat} (h : g ≠ q) : (put5 W q a1 a2 a3 a4 a5).heap[g]? = W.heap[g]? := by
  unfold put5
  rw [Below.heap_setCell _ _ _ _ h, Below.heap_setCell _ _ _ _ h, Below.heap_setCell _ _ _ _ h, Below.heap_setCell _ _ _ _ h, Below.heap_setCell _ _ _ _ h]
theorem put5_size (W : World) (q : Nat) (a1 a2 a3 a4 a5 : Value) : (put5 W q a1 a2 a3 a4 a5).heap.size = W.heap.size := by unfold put5; simp
/-- A block that is new since w is written: that shows nowhere. -/
theorem Fb.new_ {b : Nat} {w W : World} {q : Nat} (h : Fb b w W) (hq : w.heap.size ≤ q) (i : Nat) (u : Value) : Fb b w (W.setCell ⟨q, i, none⟩ u) :=
  ⟨h.os, h.tape, h.output, by rw [World.size_setCell]; exact h.size, fun g h1 h2 => (Below.heap_setCell _ _ _ _ (show g ≠ q by omega)).trans (h.block g h1 h2)⟩
theorem put5_fb {b : Nat} {w W : World} {q : Nat} (h : Fb b w W) (hq : w.heap.size ≤ q) (a1 a2 a3 a4 a5 : Value) : Fb b w (put5 W q a1 a2 a3 a4 a5) := ((((h.new_ hq _ _).new_ hq _ _).new_ hq _ _).new_ hq _ _).new_ hq _ _
theorem PA.put5 {b c q : Nat} {s : ByteArray} {W : World} {st : PS} {a : Option Addr} (h : PA b s W st a c) (hq : b ≠ q) (h16 : 8 ≤ q) (hg : ∀ g o, a = some ⟨g, o, none⟩ → st.toks ≠ [] → g ≠ q) (a1 a2 a3 a4 a5 : Value) : PA b s (put5 W q a1 a2 a3 a4 a5) st a c :=
  ⟨(put5_far _ _ _ _ _ _ _ hq).trans h.blk, ⟨h.tk.cap, h.tk.tk, fun hl => by
    obtain ⟨g, o, e, h1, h2, h3⟩ := h.tk.at_ hl
    exact ⟨g, o, e, h1, by rw [put5_size]; exact h2, fun i t hi j u hj => (World.cell?_of_block (a := ⟨g, o + i * 5 + j, none⟩) (put5_far _ _ _ _ _ _ _ (hg g o e hl))).trans (h3 i t hi j u hj)⟩, fun g o e hl => by
    obtain ⟨cs, hB⟩ := h.tk.ty g o e hl
    exact ⟨cs, (put5_far _ _ _ _ _ _ _ (hg g o e hl)).trans hB⟩⟩,
    h.gl.keep (by rw [put5_size]; exact Nat.le_refl _) (fun g h1 => put5_far _ _ _ _ _ _ _ (by omega)), h.b16, h.ok⟩
theorem line_c (s : ByteArray) (i : Nat) (w : World) : Calls Tryz.prog 28 #[.string s, .int .i64 i] w fun e w' => ∃ a c, e = .returned (.tuple #[.slice a (topM s i).toks.length c, .int .i64 (topM s i).next, .int .i64 (topM s i).place, .int .i64 (topM s i).err]) ∧ w'.ownsRow w.heap.size 58 5 (.slice a (topM s i).toks.length c) (topM s i).toks.length (tv (topM s i).toks) ∧ Below w.heap.size w w' :=
  (Line_any s i w).mono fun e w' h => by
    obtain ⟨a, c, h1, h2⟩ := h
    exact ⟨a, c, h1, h2.row, h2.below⟩
theorem line_set {W : World} {v0 v1 v2 v3 v4 v5 x y z : Value} (hB : Blk W b 56 #[v0, v1, v2, v3, v4, v5]) : Blk (((W.setCell ⟨b, 2, none⟩ x).setCell ⟨b, 1, none⟩ y).setCell ⟨b, 3, none⟩ z) b 56 #[v0, y, x, z, v4, v5] := ((hB.set_ 2 _).set_ 1 _).set_ 3 _
/-- What holds while peek asks for lines. -/
structure PkI (b q : Nat) (s : ByteArray) (w : World) (st st1 : PS) (a : Option Addr) (c : Nat) (wr : World) : Prop where
  pa : PA b s wr st1 a c
  fl : fill s st1 = fill s st
  nq : ∀ g o, a = some ⟨g, o, none⟩ → st1.toks ≠ [] → g ≠ q
  z5 : Blk wr q 58 Z5
  fb : Fb b w wr
set_option maxRecDepth 100000 in
set_option maxHeartbeats 4000000 in
theorem peek_any (h : PAt b s w st) : Calls Tryz.prog 20 #[ptr b] w fun r w' => r = .returned (tkV (peekP s st)) ∧ PAt b s w' (fill s st) ∧ Fb b w w' := by
  obtain ⟨a0, c0, h⟩ := h
  obtain ⟨q, hq⟩ : ∃ q, w.heap.size = q := ⟨_, rfl⟩
  have hbq : b ≠ q := by have := h.blk.lt; omega
  have h16 : 8 ≤ q := by have := h.blk.lt; have := h.b16; omega
  have hI0 : PkI b q s w st st a0 c0 (w.alloc (.cells Z5 58)) :=
    ⟨h.below ((Below.refl _ _).alloc (Nat.le_refl _) _), rfl, fun g o e hne => by
      obtain ⟨g', o', e', _, h2, _⟩ := h.tk.at_ hne
      rw [e] at e'
      obtain ⟨rfl, _⟩ : g = g' ∧ o = o' := by simpa using e'
      omega, by rw [← hq]; exact Blk.new _ _ _, (Fb.refl b w).alloc _⟩
  have hm0 := more_le (s := s) st
  have hI0H := Lib.hid hI0
  have hqH := Lib.hid hq
  have hokH := Lib.hid h.ok
  clear h hI0
  go_enter Tryz.func20, Tryz.ntmps20
  go_wp2_with fail
  clear hq
  go_loopg [3] (more s st) (fun g _ wr => ∃ (st1 : PS) (a : Option Addr) (c : Nat), g = more s st1 ∧ Hid (PkI b q s w st st1 a c wr))
  case atStart => exact ⟨st, a0, c0, rfl, hI0H⟩
  case round =>
    obtain ⟨st1, a, c, hg, hI⟩ := hrel
    have hB := hI.out.pa.blk
    have c0 : wr.cell? ⟨b, 0, none⟩ = some (.string s) := hB.cell 0
    have c1 : wr.cell? ⟨b, 1, none⟩ = some (.int .i64 st1.at_) := hB.cell 1
    have c2 : wr.cell? ⟨b, 2, none⟩ = some (.slice a st1.toks.length c) := hB.cell 2
    have c3 : wr.cell? ⟨b, 3, none⟩ = some (.bool st1.ended) := hB.cell 3
    have z0 : wr.cell? ⟨q, 0, none⟩ = some (.int .i64 0) := hI.out.z5.cell 0
    have z1 : wr.cell? ⟨q, 1, none⟩ = some (.string ⟨#[]⟩) := hI.out.z5.cell 1
    have z2 : wr.cell? ⟨q, 2, none⟩ = some (.int .i64 0) := hI.out.z5.cell 2
    have z3 : wr.cell? ⟨q, 3, none⟩ = some (.string ⟨#[]⟩) := hI.out.z5.cell 3
    have z4 : wr.cell? ⟨q, 4, none⟩ = some (.bool false) := hI.out.z5.cell 4
    have g0 := hI.out.z5.frozen 0
    have g1 := hI.out.z5.frozen 1
    have g2 := hI.out.z5.frozen 2
    have g3 := hI.out.z5.frozen 3
    have g4 := hI.out.z5.frozen 4
    have f1 := hB.frozen 1
    have f2 := hB.frozen 2
    have f3 := hB.frozen 3
    have hnb : ¬ b = q := hbq
    have hqb : ¬ q = b := fun e => hbq e.symm
    have hfb := Lib.hid (fun (a1 a2 a3 a4 a5 : Value) => put5_fb hI.out.fb (Nat.le_of_eq hqH.out) a1 a2 a3 a4 a5)
    have hpa := Lib.hid (fun (a1 a2 a3 a4 a5 : Value) => hI.out.pa.put5 hbq h16 hI.out.nq a1 a2 a3 a4 a5)
    clear hB
    obtain ⟨toks, at1, en, pl, er⟩ := st1
    cases toks with
    | cons t l =>
      obtain ⟨g, o, rfl, _, hgl, t0, t1, t2, t3, t4, _⟩ := hI.out.pa.tk.head
      have hgq : ¬ g = q := hI.out.nq g o rfl (by simp)
      have hd : fill s ⟨t :: l, at1, en, pl, er⟩ = ⟨t :: l, at1, en, pl, er⟩ := fill_done rfl
      have hfl := Lib.hid (hI.out.fl.symm.trans hd)
      have htk := Lib.hid (show peekP s st = t by unfold peekP; rw [hfl.out]; rfl)
      obtain ⟨n, hn⟩ : ∃ n, l.length = n := ⟨_, rfl⟩
      have hnb2 : n + 1 ≤ 65536 := by
        have h1 := hI.out.pa.ok.cnt
        have h2 := hI.out.pa.ok.at_
        have h3 := hI.out.pa.ok.sz
        have h1 : l.length + 1 ≤ at1 := h1
        have h2 : at1 ≤ s.size := h2
        omega
      replace c2 : wr.cell? ⟨b, 2, none⟩ = some (.slice (some ⟨g, o, none⟩) (n + 1) c) := by rw [← hn]; exact c2
      have z5H := Lib.hid hI.out.z5
      clear hI hd hn
      go_wp2_with fail
      refine bodyPost_ret (results_cell_row rfl _ _ q 58 (tkC t) (0, 0) _ rfl (put5_blk z5H.out _ _ _ _ _) Tryz.underlying58 rfl (by kernel_rfl)) rfl ?_
      rw [htk.out, hfl.out]
      exact ⟨rfl, ⟨_, _, hpa.out _ _ _ _ _⟩, hfb.out _ _ _ _ _⟩
    | nil =>
      cases en with
      | true =>
        have hd : fill s ⟨[], at1, true, pl, er⟩ = ⟨[], at1, true, pl, er⟩ := fill_done rfl
        have hfl := Lib.hid (hI.out.fl.symm.trans hd)
        have htk := Lib.hid (show peekP s st = endT s by unfold peekP; rw [hfl.out]; rfl)
        replace c2 : wr.cell? ⟨b, 2, none⟩ = some (.slice a 0 c) := c2
        have z5H := Lib.hid hI.out.z5
        have hsz := hI.out.pa.ok.sz
        clear hI hd
        go_wp2_with fail
        refine bodyPost_ret (results_cell_row rfl _ _ q 58 (tkC (endT s)) (0, 0) _ rfl (put5_blk z5H.out _ _ _ _ _) Tryz.underlying58 rfl (by kernel_rfl)) rfl ?_
        rw [htk.out, hfl.out]
        exact ⟨rfl, ⟨_, _, hpa.out _ _ _ _ _⟩, hfb.out _ _ _ _ _⟩
      | false =>
        replace c2 : wr.cell? ⟨b, 2, none⟩ = some (.slice a 0 c) := c2
        have hemp : ((⟨[], at1, false, pl, er⟩ : PS).toks.isEmpty && !(⟨[], at1, false, pl, er⟩ : PS).ended) = true := rfl
        have hpw := hI.out.pa.ok
        have hH := Lib.hid hI.out
        have hsl : (s.size : Int) ≤ 65536 := by have := hpw.sz; omega
        by_cases h0 : (topM s at1).err = 0
        · have hml := more_line hpw h0 hemp
          have hfn := fill_line hpw hemp h0
          have hpl := pw_line hpw h0 (live hpw hemp)
          have htop := top_ok hpw.sz hpw.at_ h0
          have hline := Lib.hid (fun W => line_c s at1 W)
          obtain ⟨R, hR⟩ : ∃ R, topM s at1 = R := ⟨_, rfl⟩
          have hml : R.toks.length + more s ⟨R.toks, R.next, decide (R.next = s.size), pl, er⟩ ≤ more s ⟨[], at1, false, pl, er⟩ ∧ more s ⟨R.toks, R.next, decide (R.next = s.size), pl, er⟩ < more s ⟨[], at1, false, pl, er⟩ := by rw [← hR]; exact hml
          have hfn : fill s ⟨[], at1, false, pl, er⟩ = fill s ⟨R.toks, R.next, decide (R.next = s.size), pl, er⟩ := by rw [← hR]; exact hfn
          have hpl : PW s ⟨R.toks, R.next, decide (R.next = s.size), pl, er⟩ := by rw [← hR]; exact hpl
          rw [hR] at h0 htop hline
          have hmlH := Lib.hid hml
          have hfnH := Lib.hid hfn
          have hplH := Lib.hid hpl
          have htopH := Lib.hid htop
          rw [h0] at hline
          clear hI hml hfn hpl htop hpw hR hemp h0
          have k0 : wr.drew.cell? ⟨b, 0, none⟩ = some (.string s) := c0
          have k1 : wr.drew.cell? ⟨b, 1, none⟩ = some (.int .i64 at1) := c1
          go_upto_region 2 with fail
          go_region_held3 (fun w' => w'.cell? ⟨b, 0, none⟩ = some (.string s) ∧ w'.cell? ⟨b, 1, none⟩ = some (.int .i64 at1))
            (first
              | with_reducible exact ⟨k0, k1⟩
              | (go_split_ands; with_reducible exact ⟨by assumption, by assumption⟩)
              | exact ⟨Blk.cell hB2H.out 0, Blk.cell hB2H.out 1⟩
              | fail)
            ((first | (go_at_call 28; refine (hline.out _).mono ?_; rintro r w2 ⟨a2, c2', rfl, hrow, hb2⟩; have hrowH := Lib.hid hrow; have hb2H := Lib.hid (drew_below (n := 1) hb2); have hB2H := Lib.hid ((hb2H.out.block b hH.out.pa.blk.lt).trans hH.out.pa.blk : Blk w2 b 56 #[.string s, .int .i64 at1, .slice a 0 c, .bool false, .int .i64 pl, .int .i64 er]); clear hrow hb2) | fail))
          have d0 : w2.cell? ⟨b, 0, none⟩ = some (.string s) := Blk.cell hB2H.out 0
          have d1 : w2.cell? ⟨b, 1, none⟩ = some (.int .i64 at1) := Blk.cell hB2H.out 1
          have d2 : w2.cell? ⟨b, 2, none⟩ = some (.slice a 0 c) := Blk.cell hB2H.out 2
          have d3 : w2.cell? ⟨b, 3, none⟩ = some (.bool false) := Blk.cell hB2H.out 3
          have e1 := Blk.frozen hB2H.out 1
          have e2 := Blk.frozen hB2H.out 2
          have e3 := Blk.frozen hB2H.out 3
          go_wp2_with fail
          have hbe : ((R.next : Int) == (s.size : Int)) = decide (R.next = s.size) := by
            by_cases e : R.next = s.size
            · rw [e, decide_eq_true rfl]; exact beq_iff_eq.2 rfl
            · rw [decide_eq_false e]; exact beq_eq_false_iff_ne.2 (by omega)
          rw [hbe]
          go_roundg (more s ⟨R.toks, R.next, decide (R.next = s.size), pl, er⟩)
          case measure => rw [hg]; exact hmlH.out.2
          case rel =>
            have hf2 : Fb b w2 (((w2.setCell ⟨b, 2, none⟩ (.slice a2 R.toks.length c2')).setCell ⟨b, 1, none⟩ (.int .i64 R.next)).setCell ⟨b, 3, none⟩ (.bool (decide (R.next = s.size)))) := (((Fb.refl b w2).set_ _ _).set_ _ _).set_ _ _
            have hf1 : Fb b wr w2 := Fb.of_below hb2H.out
            have hq2 : q < wr.heap.size := hH.out.z5.lt
            refine ⟨⟨R.toks, R.next, decide (R.next = s.size), pl, er⟩, a2, c2', rfl, Lib.hid ⟨hH.out.pa.turn (hf1.trans hf2) (line_set hB2H.out) ((tks_of_row hrowH.out (show b < wr.heap.size from hH.out.pa.blk.lt) htopH.out.tk).keep hf2) hplH.out, hfnH.out.symm.trans hH.out.fl, fun g o e hne => ?_, (hf1.trans hf2).blk hH.out.z5 hqb, hH.out.fb.trans (hf1.trans hf2)⟩⟩
            have h1 := (hrowH.out.lt g (by rw [e]; rfl)).1
            have h1 : wr.heap.size ≤ g := h1
            omega
        · have hfb0 := fill_bad hemp h0
          have hline := Lib.hid (fun W => line_c s at1 W)
          have hbad := top_bad h0
          obtain ⟨R, hR⟩ : ∃ R, topM s at1 = R := ⟨_, rfl⟩
          have hfb0 : fill s ⟨[], at1, false, pl, er⟩ = failP R.place R.err ⟨[], at1, false, pl, er⟩ := by rw [← hR]; exact hfb0
          rw [hR] at h0 hline hbad
          have hfl := Lib.hid (hI.out.fl.symm.trans hfb0)
          have htk := Lib.hid (show peekP s st = endT s by unfold peekP; rw [hfl.out]; rfl)
          have hne : ((R.err : Int) != 0) = true := bne_iff_ne.2 (by omega)
          have hb1H := Lib.hid hbad.1
          rw [hbad.1] at hline
          have hbadH := Lib.hid hbad
          clear hI hfb0 hpw hR hemp h0 hbad
          have k0 : wr.drew.cell? ⟨b, 0, none⟩ = some (.string s) := c0
          have k1 : wr.drew.cell? ⟨b, 1, none⟩ = some (.int .i64 at1) := c1
          go_upto_region 2 with fail
          go_region_held3 (fun w' => w'.cell? ⟨b, 0, none⟩ = some (.string s) ∧ w'.cell? ⟨b, 1, none⟩ = some (.int .i64 at1))
            (first
              | with_reducible exact ⟨k0, k1⟩
              | (go_split_ands; with_reducible exact ⟨by assumption, by assumption⟩)
              | exact ⟨Blk.cell hB2H.out 0, Blk.cell hB2H.out 1⟩
              | fail)
            ((first | (go_at_call 28; refine (hline.out _).mono ?_; rintro r w2 ⟨a2, c2', rfl, hrow, hb2⟩; have hb2H := Lib.hid (drew_below (n := 1) hb2); have hB2H := Lib.hid ((hb2H.out.block b hH.out.pa.blk.lt).trans hH.out.pa.blk : Blk w2 b 56 #[.string s, .int .i64 at1, .slice a 0 c, .bool false, .int .i64 pl, .int .i64 er]); clear hrow hb2) | fail))
          have hpa2 := Lib.hid (show PAt b s w2 ⟨[], at1, false, pl, er⟩ from ⟨a, c, hH.out.pa.below hb2H.out⟩)
          have hf1 := Lib.hid (show Fb b wr w2 from Fb.of_below hb2H.out)
          go_upto_region 8 with (go_at_call 29; refine (fail_any hpa2.out _ _).mono ?_; rintro r w3 ⟨rfl, ⟨a4, c4, hP3⟩, hF3⟩; have hF3H := Lib.hid (hf1.out.trans hF3); have hP3H := Lib.hid hP3; have d2 : w3.cell? ⟨b, 2, none⟩ = some (.slice a4 0 c4) := hP3.blk.cell 2; clear hP3 hF3)
          have z5H := Lib.hid (hF3H.out.blk hH.out.z5 hqb)
          have d0 : w3.cell? ⟨b, 0, none⟩ = some (.string s) := hP3H.out.blk.cell 0
          have y0 : w3.cell? ⟨q, 0, none⟩ = some (.int .i64 0) := z5H.out.cell 0
          have y1 : w3.cell? ⟨q, 1, none⟩ = some (.string ⟨#[]⟩) := z5H.out.cell 1
          have y2 : w3.cell? ⟨q, 2, none⟩ = some (.int .i64 0) := z5H.out.cell 2
          have y3 : w3.cell? ⟨q, 3, none⟩ = some (.string ⟨#[]⟩) := z5H.out.cell 3
          have y4 : w3.cell? ⟨q, 4, none⟩ = some (.bool false) := z5H.out.cell 4
          have x0 := z5H.out.frozen 0
          have x1 := z5H.out.frozen 1
          have x2 := z5H.out.frozen 2
          have x3 := z5H.out.frozen 3
          have x4 := z5H.out.frozen 4
          go_wp2_with fail
          refine bodyPost_ret (results_cell_row rfl _ _ q 58 (tkC (endT s)) (0, 0) _ rfl (put5_blk z5H.out _ _ _ _ _) Tryz.underlying58 rfl (by kernel_rfl)) rfl ?_
          rw [htk.out, hfl.out]
          exact ⟨rfl, ⟨_, _, hP3H.out.put5 hbq h16 (fun g o e hne => absurd rfl hne) _ _ _ _ _⟩, put5_fb (hH.out.fb.trans hF3H.out) (Nat.le_of_eq hqH.out) _ _ _ _ _⟩
end
end Go.Proofs.YtnhbcmhinhncfaaGreatDoor
/- next. Condition: the parser lies as stated. -/
namespace Go.Proofs.YtnhbcmhinhncfaaGreatDoor
open Go.RowKit Go.Shelf Go.PlainAid
set_option linter.unusedVariables false
set_option linter.unusedSimpArgs false
attribute [local go_sem] Oper.semAt_some
section
variable {b : Nat} {s : ByteArray} {w : World} {st : PS}
theorem tok_set {W : World} {v0 v1 v2 v3 v4 v5 x : Value} (hB : Blk W b 56 #[v0, v1, v2, v3, v4, v5]) : Blk (W.setCell ⟨b, 2, none⟩ x) b 56 #[v0, v1, x, v3, v4, v5] := hB.set_ 2 _
theorem tokV_of (t : Tk) : tkV t = .agg (tkC t) := rfl
/-- A block that holds the zero token isn't the tokens' own. -/
theorem not_zero {W : World} {a : Option Addr} {c q : Nat} {l : List Tk} (h : TksAt b W a c l) (hz : Blk W q 58 Z5) (hl : l ≠ []) : ∀ g o, a = some ⟨g, o, none⟩ → g ≠ q := fun g o e hgq => by
  obtain ⟨g', o', e', h1, h2, h3⟩ := h.at_ hl
  rw [e] at e'
  obtain ⟨rfl, rfl⟩ : g = g' ∧ o = o' := by simpa using e'
  subst hgq
  obtain ⟨t, ht⟩ : ∃ t, l[0]? = some t := ⟨_, List.getElem?_eq_getElem (Nat.pos_of_ne_zero fun e => hl (List.eq_nil_of_length_eq_zero e))⟩
  have k4 := h3 0 t ht 4 _ rfl
  have k0 := h3 0 t ht 0 _ rfl
  rw [hz.cell] at k4 k0
  have ho : o = 0 := by
    have h5 : o + 0 * 5 + 4 < Z5.size := by
      rcases Nat.lt_or_ge (o + 0 * 5 + 4) Z5.size with h | h
      · exact h
      · rw [Array.getElem?_eq_none h] at k4; cases k4
    have : Z5.size = 5 := rfl
    omega
  subst ho
  have hk : (0 : Int) = t.kind := by
    have : (Z5[0]? : Option Value) = some (.int .i64 0) := rfl
    have k0 : (Z5[0]? : Option Value) = some (.int .i64 t.kind) := k0
    rw [this] at k0
    simpa using k0
  have := (h.tk t (List.mem_of_getElem? ht)).kind
  omega
set_option maxRecDepth 100000 in
set_option maxHeartbeats 4000000 in
theorem next_any (h : PAt b s w st) : Calls Tryz.prog 27 #[ptr b] w fun r w' => r = .returned (tkV (peekP s st)) ∧ PAt b s w' (nextP s st) ∧ Fb b w w' := by
  obtain ⟨q, hq⟩ : ∃ q, w.heap.size = q := ⟨_, rfl⟩
  have hbq : b < q := by have := h.lt; omega
  have h16 : 8 ≤ q := by obtain ⟨_, _, h⟩ := h; have := h.b16; omega
  have hw1 : Below w.heap.size w (w.alloc (.cells Z5 58)) := (Below.refl _ _).alloc (Nat.le_refl _) _
  have hpk := Lib.hid (peek_any (h.below hw1))
  have hN := Lib.hid (show Blk (w.alloc (.cells Z5 58)) q 58 Z5 by rw [← hq]; exact Blk.new _ _ _)
  have hw1H := Lib.hid hw1
  have hqH := Lib.hid hq
  have hpn := Lib.hid (pw_next h.ok)
  obtain ⟨t, ht⟩ : ∃ t, peekP s st = t := ⟨_, rfl⟩
  rw [ht] at hpk
  obtain ⟨st1, hst⟩ : ∃ x, fill s st = x := ⟨_, rfl⟩
  have hnx := Lib.hid (show nextP s st = { st1 with toks := st1.toks.tail } by unfold nextP; rw [hst])
  rw [hst] at hpk
  rw [hnx.out] at hpn
  have htH := Lib.hid ht
  have hnb : ¬ b = q := by omega
  have hqb : ¬ q = b := by omega
  clear hw1 ht h hst
  go_enter Tryz.func27, Tryz.ntmps27
  go_upto_region 2 with (go_at_call 20; refine hpk.out.mono ?_; rintro r w2 ⟨rfl, ⟨a, c, hP2⟩, hF2⟩; have hP2H := Lib.hid hP2; have hF2H := Lib.hid ((Fb.of_below hw1H.out).trans hF2); have hN2 := Lib.hid (hF2.blk hN.out hqb); clear hP2 hF2; dsimp only [tkV])
  obtain ⟨q3, hq3⟩ : ∃ q, w2.heap.size = q := ⟨_, rfl⟩
  have hqq3 : q < q3 := by have := hN2.out.lt; omega
  have hT := Blk.new w2 58 (tkC t)
  have hb3 := (Below.refl w2.heap.size w2).alloc (Nat.le_refl _) (.cells (tkC t) 58)
  obtain ⟨W3, hW3⟩ : ∃ W, w2.alloc (.cells #[.int .i64 t.kind, .string t.text, .int .i64 t.place, .string t.doc, .bool t.raw] 58) = W := ⟨_, rfl⟩
  have hW3' : w2.alloc (.cells (tkC t) 58) = W3 := hW3
  rw [hW3'] at hT hb3
  rw [hq3] at hT
  rw [hW3, hq3]
  have hA := hP2H.out.below hb3
  have hF3 : Fb b w W3 := hF2H.out.trans (Fb.of_below hb3)
  have hZ3 := (hb3.block q hN2.out.lt).trans hN2.out
  have hZ3 : Blk W3 q 58 Z5 := hZ3
  have c2 : W3.cell? ⟨b, 2, none⟩ = some (.slice a st1.toks.length c) := hA.blk.cell 2
  have f2 := hA.blk.frozen 2
  have z0 : W3.cell? ⟨q, 0, none⟩ = some (.int .i64 0) := hZ3.cell 0
  have z1 : W3.cell? ⟨q, 1, none⟩ = some (.string ⟨#[]⟩) := hZ3.cell 1
  have z2 : W3.cell? ⟨q, 2, none⟩ = some (.int .i64 0) := hZ3.cell 2
  have z3 : W3.cell? ⟨q, 3, none⟩ = some (.string ⟨#[]⟩) := hZ3.cell 3
  have z4 : W3.cell? ⟨q, 4, none⟩ = some (.bool false) := hZ3.cell 4
  have g0 := hZ3.frozen 0
  have g1 := hZ3.frozen 1
  have g2 := hZ3.frozen 2
  have g3 := hZ3.frozen 3
  have g4 := hZ3.frozen 4
  have t0 : W3.cell? ⟨q3, 0, none⟩ = some (.int .i64 t.kind) := hT.cell 0
  have t1 : W3.cell? ⟨q3, 1, none⟩ = some (.string t.text) := hT.cell 1
  have t2 : W3.cell? ⟨q3, 2, none⟩ = some (.int .i64 t.place) := hT.cell 2
  have t3 : W3.cell? ⟨q3, 3, none⟩ = some (.string t.doc) := hT.cell 3
  have t4 : W3.cell? ⟨q3, 4, none⟩ = some (.bool t.raw) := hT.cell 4
  have hnb3 : ¬ b = q3 := by omega
  have hqq : ¬ q = q3 := by omega
  have hAH := Lib.hid hA
  have hF3H := Lib.hid hF3
  have hZH := Lib.hid hZ3
  have hsz := hA.ok.sz
  have hcnt := hA.ok.cnt
  have hat := hA.ok.at_
  have hnq := Lib.hid (fun (hl : st1.toks ≠ []) => not_zero hA.tk hZ3 hl)
  clear hb3 hT hW3 hW3' hZ3 hA hF3
  have hqw : w.heap.size ≤ q := Nat.le_of_eq hqH.out
  cases hl : st1.toks with
  | nil =>
    have hr := Lib.hid (show ({ st1 with toks := st1.toks.tail } : PS) = st1 by rw [hl]; cases st1; cases hl; rfl)
    rw [hl] at c2
    clear hl hq3 hcnt
    go_wp2
    refine bodyPost_ret (results_cell_row rfl _ _ q 58 (tkC t) (0, 0) _ rfl (put5_blk hZH.out _ _ _ _ _) Tryz.underlying58 rfl (by kernel_rfl)) rfl ?_
    rw [hnx.out, hr.out]
    exact ⟨by rw [htH.out], ⟨_, _, hAH.out.put5 hnb h16 (fun g o e hne => hnq.out hne g o e) _ _ _ _ _⟩, put5_fb hF3H.out hqw _ _ _ _ _⟩
  | cons t9 l =>
    have htk := hAH.out.tk
    rw [hl] at htk c2 hcnt
    obtain ⟨g, o, rfl, hgb, hgl, _, _, _, _, _, hrest⟩ := htk.head
    obtain ⟨n, hn⟩ : ∃ n, l.length = n := ⟨_, rfl⟩
    replace c2 : W3.cell? ⟨b, 2, none⟩ = some (.slice (some ⟨g, o, none⟩) (n + 1) c) := by rw [← hn]; exact c2
    have hnc : n + 1 ≤ c := by have := htk.cap; rw [List.length_cons, hn] at this; exact this
    have hnl : n + 1 ≤ 65536 := by rw [List.length_cons, hn] at hcnt; omega
    have hrestH := Lib.hid hrest
    have hlH := Lib.hid hl
    have hnH := Lib.hid hn
    have hgq := Lib.hid (hnq.out (by rw [hl]; simp) g o rfl)
    clear hl htk hrest hn hq3 hcnt hsz hat
    have fin : ∀ (a' : Option Addr) (c' : Nat), TksAt b W3 a' c' l → (∀ g' o', a' = some ⟨g', o', none⟩ → l ≠ [] → g' ≠ q) → Ending.returned (Value.agg (tkC t)) = .returned (tkV (peekP s st)) ∧ PAt b s (put5 (W3.setCell ⟨b, 2, none⟩ (.slice a' n c')) q (.int .i64 t.kind) (.string t.text) (.int .i64 t.place) (.string t.doc) (.bool t.raw)) (nextP s st) ∧ Fb b w (put5 (W3.setCell ⟨b, 2, none⟩ (.slice a' n c')) q (.int .i64 t.kind) (.string t.text) (.int .i64 t.place) (.string t.doc) (.bool t.raw)) := fun a' c' htk hq' => by
      have hA := hAH.out
      have hf : Fb b W3 (W3.setCell ⟨b, 2, none⟩ (.slice a' n c')) := (Fb.refl b W3).set_ _ _
      have hok : PW s { st1 with toks := l } := by have := hpn.out; rw [hlH.out] at this; exact this
      have hB : Blk (W3.setCell ⟨b, 2, none⟩ (.slice a' n c')) b 56 (psC s { st1 with toks := l } a' c') := by
        have := tok_set (x := .slice a' n c') hA.blk
        unfold psC
        rw [hnH.out]
        exact this
      have hA2 : PA b s (W3.setCell ⟨b, 2, none⟩ (.slice a' n c')) { st1 with toks := l } a' c' := hA.turn hf hB (htk.keep hf) hok
      have e9 : nextP s st = { st1 with toks := l } := by rw [hnx.out, hlH.out]; rfl
      rw [e9]
      exact ⟨by rw [htH.out], ⟨_, _, hA2.put5 hnb h16 (fun g' o' e hne => hq' g' o' e hne) _ _ _ _ _⟩, put5_fb (hF3H.out.trans hf) hqw _ _ _ _ _⟩
    have finH := Lib.hid fin
    clear fin
    by_cases hc : c = 1
    · subst hc
      obtain rfl : n = 0 := by omega
      obtain rfl : l = [] := List.eq_nil_of_length_eq_zero hnH.out
      go_wp2
      refine bodyPost_ret (results_cell_row rfl _ _ q 58 (tkC t) (0, 0) _ rfl (put5_blk (hZH.out.far (fun e => hqb e) _) _ _ _ _ _) Tryz.underlying58 rfl (by kernel_rfl)) rfl ?_
      exact finH.out (some ⟨g, o, none⟩) 0 (TksAt.nil _ _ _ _) (fun g' o' e hne => absurd rfl hne)
    · have hcc : ¬ 1 = c := fun e => hc e.symm
      go_wp2
      refine bodyPost_ret (results_cell_row rfl _ _ q 58 (tkC t) (0, 0) _ rfl (put5_blk (hZH.out.far (fun e => hqb e) _) _ _ _ _ _) Tryz.underlying58 rfl (by kernel_rfl)) rfl ?_
      exact finH.out (some ⟨g, o + 5, none⟩) (c - 1) (hrestH.out (c - 1) (by have := hnH.out; omega)) (fun g' o' e hne => by
        obtain ⟨rfl, _⟩ : g = g' ∧ o + 5 = o' := by simpa using e
        exact hgq.out)
end
end Go.Proofs.YtnhbcmhinhncfaaGreatDoor
