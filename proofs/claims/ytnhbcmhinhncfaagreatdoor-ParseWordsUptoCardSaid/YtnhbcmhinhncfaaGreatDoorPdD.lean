/- Quoted words in lines that end with |, read as a pipeline: First's answer. No condition. -/
import Derived.Test.YtnhbcmhinhncfaaGreatDoorPdC
namespace Go.Proofs.YtnhbcmhinhncfaaGreatDoor
open Go.RowKit Go.PlainAid
set_option linter.unusedVariables false
set_option linter.unusedSimpArgs false
/-- The text behind k lines more. -/
def allB (l : List ByteArray) : Nat → List UInt8
  | 0 => l.flatMap segW
  | k + 1 => l.flatMap segW ++ (124 :: 10 :: allB l k)
theorem allB_back (l : List ByteArray) : ∀ k, allB l (k + 1) = allB l k ++ (124 :: 10 :: l.flatMap segW)
  | 0 => rfl
  | k + 1 => by
    have h := allB_back l k
    show l.flatMap segW ++ (124 :: 10 :: allB l (k + 1)) = (l.flatMap segW ++ (124 :: 10 :: allB l k)) ++ (124 :: 10 :: l.flatMap segW)
    rw [h]
    simp
def wqB (t : ByteArray) : ByteArray := ⟨(wq t).toArray⟩
def simW (l : List ByteArray) : Nd := .mk 1 false false noB (l.map wqB) [] []
def treeW (l : List ByteArray) (k : Nat) : Nd := if k = 0 then simW l else .mk 2 false false noB [] [] (List.replicate (k + 1) (simW l))
section
variable {s : ByteArray}
/-- What is left on a line behind the words. -/
def barT (p : Nat) : List Tk := [⟨2, ⟨[(124 : UInt8)].toArray⟩, p, ⟨#[]⟩, false⟩, ⟨3, ⟨[(10 : UInt8)].toArray⟩, p + 1, ⟨#[]⟩, false⟩]
theorem toksW_ne {l : List ByteArray} (h : l ≠ []) (p : Nat) : toksW l p ≠ [] := by
  cases l with
  | nil => exact absurd rfl h
  | cons t l => simp [toksW]
theorem segs_pos {l : List ByteArray} (h : l ≠ []) : 2 * l.length ≤ (l.flatMap segW).length := by
  clear h
  induction l with
  | nil => simp
  | cons t l ih => simp [segW, wq] at ih ⊢; omega
theorem calm_nil : calm [] := ⟨by show (⟨#[]⟩ : ByteArray).toList ≠ _; rw [Lib.toList_data]; simp, by show (⟨#[]⟩ : ByteArray).toList ≠ _; rw [Lib.toList_data]; simp⟩
/-- The last line's tokens; another line's. -/
theorem top_last {l : List ByteArray} {p : Nat} (hs : s.size ≤ 65536) (hw : ∀ t ∈ l, (wq t).length ≤ 4096) (hp : p ≤ s.size) (hd : s.data.toList.drop p = l.flatMap segW) : topM s p = ⟨toksW l p, s.size, 0, 0⟩ := by
  have hlen := congrArg List.length hd
  rw [List.length_drop, ← Lib.size_eq] at hlen
  have hsz : 2 * l.length ≤ (l.flatMap segW).length := by
    clear hd hlen hw
    induction l with
    | nil => simp
    | cons t l ih => simp [segW, wq] at ih ⊢; omega
  obtain ⟨f, hf⟩ : ∃ f, s.size = f + 2 * l.length := ⟨s.size - 2 * l.length, by omega⟩
  obtain ⟨h1, h2, h3⟩ := line_words (s := s) l p [] f [] hw (by rw [hd, List.append_nil]) calm_nil
  have hl : lineM s s.size ⟨p, [], []⟩ = (0, 0, ⟨s.size, toksW l p, []⟩) := by
    rw [show lineM s s.size ⟨p, [], []⟩ = lineM s (f + 2 * l.length) ⟨p, [], []⟩ by rw [← hf], h1]
    have e : p + (l.flatMap segW).length = s.size := by omega
    rw [e, List.nil_append]
    cases f with
    | zero => rfl
    | succ f => rw [line_end (by show ¬ s.size < s.size; omega)]
  unfold topM
  rw [if_neg (by omega), if_neg (by omega)]
  exact at_ok hl rfl
theorem top_bar {l : List ByteArray} {p : Nat} {r : List UInt8} (hs : s.size ≤ 65536) (hw : ∀ t ∈ l, (wq t).length ≤ 4096) (hp : p ≤ s.size) (hd : s.data.toList.drop p = l.flatMap segW ++ (124 :: 10 :: r)) :
    topM s p = ⟨toksW l p ++ barT (p + (l.flatMap segW).length), p + (l.flatMap segW).length + 2, 0, 0⟩ := by
  have hlen := congrArg List.length hd
  rw [List.length_drop, ← Lib.size_eq, List.length_append, List.length_cons, List.length_cons] at hlen
  have hsz : 2 * l.length ≤ (l.flatMap segW).length := by
    clear hd hlen hw
    induction l with
    | nil => simp
    | cons t l ih => simp [segW, wq] at ih ⊢; omega
  obtain ⟨f, hf⟩ : ∃ f, s.size = f + 2 + 2 * l.length := ⟨s.size - 2 - 2 * l.length, by omega⟩
  obtain ⟨h1, h2, h3⟩ := line_words (s := s) l p [] (f + 2) _ hw hd calm_nil
  have hl : lineM s s.size ⟨p, [], []⟩ = (0, 0, ⟨p + (l.flatMap segW).length + 2, toksW l p ++ barT (p + (l.flatMap segW).length), []⟩) := by
    rw [show lineM s s.size ⟨p, [], []⟩ = lineM s (f + 2 + 2 * l.length) ⟨p, [], []⟩ by rw [← hf], h1, List.nil_append, line_bar f h3]
    rfl
  unfold topM
  rw [if_neg (by omega), if_neg (by omega)]
  exact at_ok hl rfl
/-! ### The reading -/
theorem fill_toks {t : Tk} {l : List Tk} {a : Nat} {en : Bool} : fill s ⟨t :: l, a, en, 0, 0⟩ = ⟨t :: l, a, en, 0, 0⟩ := fill_done (by simp)
theorem fill_ended {a : Nat} {l : List Tk} : fill s ⟨l, a, true, 0, 0⟩ = ⟨l, a, true, 0, 0⟩ := fill_done (by simp)
theorem peek_toks {t : Tk} {l : List Tk} {a : Nat} {en : Bool} : peekP s ⟨t :: l, a, en, 0, 0⟩ = t := by unfold peekP; rw [fill_toks]; rfl
theorem peek_ended {a : Nat} : peekP s ⟨[], a, true, 0, 0⟩ = endT s := by unfold peekP; rw [fill_ended]; rfl
theorem next_toks {t : Tk} {l : List Tk} {a : Nat} {en : Bool} : nextP s ⟨t :: l, a, en, 0, 0⟩ = ⟨l, a, en, 0, 0⟩ := by unfold nextP; rw [fill_toks]; rfl
/-- What may stand behind the words: nothing, at the end; or a | and a byte 10. -/
def Rest (R : List Tk) (en : Bool) : Prop := (R = [] ∧ en = true) ∨ (∃ p, R = barT p)
theorem rest_fill {R : List Tk} {a : Nat} {en : Bool} (h : Rest R en) : fill s ⟨R, a, en, 0, 0⟩ = ⟨R, a, en, 0, 0⟩ := by
  rcases h with ⟨rfl, rfl⟩ | ⟨p, rfl⟩
  · exact fill_ended
  · exact fill_toks
theorem rest_peek {R : List Tk} {a : Nat} {en : Bool} (h : Rest R en) : redT (peekP s ⟨R, a, en, 0, 0⟩) = false ∧ (peekP s ⟨R, a, en, 0, 0⟩).kind ≠ 1 ∧ hasO s [40] ⟨R, a, en, 0, 0⟩ = false := by
  unfold hasO
  rcases h with ⟨rfl, rfl⟩ | ⟨p, rfl⟩
  · rw [peek_ended]; exact ⟨rfl, by simp [endT], rfl⟩
  · unfold barT
    rw [peek_toks]
    refine ⟨rfl, by simp, ?_⟩
    unfold isT
    rw [toList_arr]
    rfl
def wtk (t : ByteArray) (p : Nat) : Tk := ⟨1, wqB t, p, ⟨#[]⟩, false⟩
theorem wqB_list (t : ByteArray) : (wqB t).toList = 39 :: 120 :: 39 :: (quoteM t).data.toList := by
  unfold wqB; rw [toList_arr]; rfl
theorem kept_no (t : ByteArray) : rsvW (wqB t) = false := by
  unfold rsvW begW rsvL begL
  rw [wqB_list]
  simp
theorem is_no (t : ByteArray) (p : Nat) (k : Int) (c : UInt8) (r : List UInt8) (h : c ≠ 39) : isT k (c :: r) (wtk t p) = false := by
  unfold isT
  have : ((wtk t p).text.toList == c :: r) = false := by
    show ((wqB t).toList == c :: r) = false
    rw [wqB_list]
    simp [Ne.symm h]
  rw [this, Bool.and_false]
theorem red_no (t : ByteArray) (p : Nat) : redT (wtk t p) = false := rfl
theorem cmd_word {R : List Tk} {a : Nat} {en : Bool} (hR : Rest R en) : ∀ (l : List ByteArray) (p : Nat), redT (peekP s ⟨toksW l p ++ R, a, en, 0, 0⟩) = false ∧ hasO s [40] ⟨toksW l p ++ R, a, en, 0, 0⟩ = false ∧ fill s ⟨toksW l p ++ R, a, en, 0, 0⟩ = ⟨toksW l p ++ R, a, en, 0, 0⟩
  | [], p => ⟨(rest_peek hR).1, (rest_peek hR).2.2, rest_fill hR⟩
  | t :: l, p => by
    show redT (peekP s ⟨wtk t p :: (toksW l (p + (wq t).length + 1) ++ R), a, en, 0, 0⟩) = false ∧ hasO s [40] ⟨wtk t p :: (toksW l (p + (wq t).length + 1) ++ R), a, en, 0, 0⟩ = false ∧ fill s ⟨wtk t p :: (toksW l (p + (wq t).length + 1) ++ R), a, en, 0, 0⟩ = ⟨wtk t p :: (toksW l (p + (wq t).length + 1) ++ R), a, en, 0, 0⟩
    unfold hasO
    rw [peek_toks]
    exact ⟨rfl, is_no t p 2 40 [] (by decide), fill_toks⟩
theorem sim_words {B : Int → PS → Nd × PS} {R : List Tk} {a : Nat} {en : Bool} (hR : Rest R en) : ∀ (l : List ByteArray) (p f : Nat) (ws : List ByteArray), l.length < f → (l ≠ [] ∨ ws ≠ []) →
    simP s B 0 f ws [] ⟨toksW l p ++ R, a, en, 0, 0⟩ = (.mk 1 false false noB (ws ++ l.map wqB) [] [], ⟨R, a, en, 0, 0⟩)
  | l, p, 0, ws, h, _ => absurd h (by omega)
  | [], p, f + 1, ws, _, h => by
    have hws : ws.isEmpty = false := by
      cases ws with
      | nil => exact absurd rfl (h.resolve_left (fun k => k rfl))
      | cons x y => rfl
    obtain ⟨h1, h2, h3⟩ := rest_peek (s := s) (a := a) hR
    unfold simP
    rw [show toksW [] p ++ R = R from rfl, h1, if_neg (by decide), if_neg h2, hws, Bool.false_and, if_neg (by decide), rest_fill hR]
    simp
  | t :: l, p, f + 1, ws, hf, _ => by
    have ht : toksW (t :: l) p ++ R = wtk t p :: (toksW l (p + (wq t).length + 1) ++ R) := rfl
    obtain ⟨h1, h2, h3⟩ := cmd_word (s := s) (a := a) hR l (p + (wq t).length + 1)
    have hn : needP s (!ws.isEmpty || !rsvW (wtk t p).text) ⟨wtk t p :: (toksW l (p + (wq t).length + 1) ++ R), a, en, 0, 0⟩ = ⟨toksW l (p + (wq t).length + 1) ++ R, a, en, 0, 0⟩ := by
      rw [show rsvW (wtk t p).text = false from kept_no t]
      unfold needP
      rw [show (!ws.isEmpty || !false) = true by simp, if_pos rfl, next_toks]
    unfold simP
    rw [ht, peek_toks, red_no, if_neg (by decide), if_pos (show (wtk t p).kind = 1 from rfl)]
    dsimp only
    rw [hn, h2, h3, Bool.and_false, Bool.false_and, if_neg (by decide), ite_self]
    rw [sim_words hR l _ f (ws ++ [(wtk t p).text]) (by simpa using hf) (.inr (by simp))]
    simp [wtk]
theorem cmd_words {B : Int → PS → Nd × PS} {R : List Tk} {a : Nat} {en : Bool} (hR : Rest R en) {l : List ByteArray} (hl : l ≠ []) (p : Nat) : cmdP s B 0 ⟨toksW l p ++ R, a, en, 0, 0⟩ = (simW l, ⟨R, a, en, 0, 0⟩) := by
  obtain ⟨h1, h2, h3⟩ := cmd_word (s := s) (a := a) hR l p
  have hk : rsvW (peekP s ⟨toksW l p ++ R, a, en, 0, 0⟩).text = false := by
    cases l with
    | nil => exact absurd rfl hl
    | cons t l =>
      show rsvW (peekP s ⟨wtk t p :: (toksW l (p + (wq t).length + 1) ++ R), a, en, 0, 0⟩).text = false
      rw [peek_toks]
      exact kept_no t
  unfold cmdP
  rw [h2, hk, Bool.and_false, Bool.or_false, if_neg (by decide), h3]
  rw [sim_words hR l p _ [] ?_ (.inl hl)]
  · rfl
  · have e : ∀ (l : List ByteArray) p, (toksW l p).length = l.length := by
      intro l
      induction l with
      | nil => intro p; rfl
      | cons t l ih => intro p; simp [toksW, ih]
    unfold rem
    have := e l p
    simp [List.length_append, this]
    omega
/-- A line at hand, k lines behind it. -/
def stW (s : ByteArray) (l : List ByteArray) (p : Nat) : Nat → PS
  | 0 => ⟨toksW l p ++ [], s.size, true, 0, 0⟩
  | _ + 1 => ⟨toksW l p ++ barT (p + (l.flatMap segW).length), p + (l.flatMap segW).length + 2, false, 0, 0⟩
theorem fill_line_at {l : List ByteArray} (hl : l ≠ []) (hs : s.size ≤ 65536) (hw : ∀ t ∈ l, (wq t).length ≤ 4096) (k p : Nat) (hp : p ≤ s.size) (hd : s.data.toList.drop p = allB l k) : fill s ⟨[], p, false, 0, 0⟩ = stW s l p k := by
  unfold fill
  show fillP s (s.size + 1 + 1) _ = _
  rw [fillP, if_pos (by rfl)]
  show (if (topM s p).err ≠ 0 then _ else fillP s (s.size + 1) ⟨(topM s p).toks, (topM s p).next, decide ((topM s p).next = s.size), 0, 0⟩) = _
  cases k with
  | zero =>
    rw [top_last hs hw hp hd, if_neg (by simp)]
    dsimp only
    rw [decide_eq_true rfl, fillP_done (by simp)]
    simp [stW]
  | succ k =>
    have hlen := congrArg List.length hd
    rw [List.length_drop, ← Lib.size_eq, allB, List.length_append, List.length_cons, List.length_cons] at hlen
    have hpos := segs_pos hl
    have hlp : 0 < l.length := by cases l with | nil => exact absurd rfl hl | cons _ _ => simp
    have hkp : 2 ≤ (allB l k).length := by
      cases k with
      | zero => show 2 ≤ (l.flatMap segW).length; omega
      | succ k => show 2 ≤ (l.flatMap segW ++ _).length; rw [List.length_append]; omega
    rw [top_bar hs hw hp hd, if_neg (by simp)]
    dsimp only
    rw [decide_eq_false (by omega), fillP_done ?_]
    · rfl
    · have := toksW_ne hl p
      cases h : toksW l p with
      | nil => exact absurd h this
      | cons x y => simp
theorem stW_peek {l : List ByteArray} (hl : l ≠ []) (p k : Nat) : ∃ t l', l = t :: l' ∧ peekP s (stW s l p k) = wtk t p ∧ fill s (stW s l p k) = stW s l p k := by
  cases l with
  | nil => exact absurd rfl hl
  | cons t l' =>
    refine ⟨t, l', rfl, ?_, ?_⟩
    · cases k <;> exact peek_toks
    · cases k <;> exact fill_toks
theorem newl_at {l : List ByteArray} (hl : l ≠ []) (hs : s.size ≤ 65536) (hw : ∀ t ∈ l, (wq t).length ≤ 4096) (k p f : Nat) (hp : p ≤ s.size) (hd : s.data.toList.drop p = allB l k) : newlP s (f + 1) ⟨[], p, false, 0, 0⟩ = stW s l p k := by
  have h1 := fill_line_at hl hs hw k p hp hd
  have h2 : peekP s ⟨[], p, false, 0, 0⟩ = peekP s (stW s l p k) := by
    obtain ⟨t, l', _, _, h3⟩ := stW_peek (s := s) hl p k
    unfold peekP
    rw [h1, h3]
  obtain ⟨t, l', _, h4, _⟩ := stW_peek (s := s) hl p k
  unfold newlP
  rw [h2, h4, if_neg (by simp [wtk]), h1]
theorem ser_words {B : Int → PS → Nd × PS} {l : List ByteArray} (hl : l ≠ []) (hs : s.size ≤ 65536) (hw : ∀ t ∈ l, (wq t).length ≤ 4096) : ∀ (k p f : Nat), p ≤ s.size → s.data.toList.drop p = allB l k → k < f →
    serP (cmdP s B 0) (fun _ st => (hasO s [124] st, if hasO s [124] st then newl s (nextP s st) else fill s st)) f (stW s l p k) = (List.replicate (k + 1) (simW l), ⟨[], s.size, true, 0, 0⟩)
  | k, p, 0, _, _, h => absurd h (by omega)
  | 0, p, f + 1, hp, hd, _ => by
    have h1 := cmd_words (s := s) (B := B) (R := []) (a := s.size) (en := true) (.inl ⟨rfl, rfl⟩) hl p
    have h2 : hasO s [124] ⟨[], s.size, true, 0, 0⟩ = false := by unfold hasO; rw [peek_ended]; rfl
    unfold serP
    show (if hasO s [124] (cmdP s B 0 ⟨toksW l p ++ [], s.size, true, 0, 0⟩).2 = true then _ else _) = _
    rw [h1]
    dsimp only
    rw [h2, if_neg (by decide)]
    show ([(cmdP s B 0 ⟨toksW l p ++ [], s.size, true, 0, 0⟩).1], if hasO s [124] (cmdP s B 0 ⟨toksW l p ++ [], s.size, true, 0, 0⟩).2 = true then _ else fill s (cmdP s B 0 ⟨toksW l p ++ [], s.size, true, 0, 0⟩).2) = _
    rw [h1]
    dsimp only
    rw [h2, if_neg (by decide), fill_ended]
    rfl
  | k + 1, p, f + 1, hp, hd, hf => by
    obtain ⟨q, hq⟩ : ∃ q, p + (l.flatMap segW).length = q := ⟨_, rfl⟩
    have h1 := cmd_words (s := s) (B := B) (R := barT q) (a := q + 2) (en := false) (.inr ⟨q, rfl⟩) hl p
    have h2 : hasO s [124] ⟨barT q, q + 2, false, 0, 0⟩ = true := by
      unfold hasO barT; rw [peek_toks]; unfold isT; rw [toList_arr]; rfl
    have hd2 : s.data.toList.drop (q + 2) = allB l k := by
      have h3 := drop_app (l := l.flatMap segW) (t := 124 :: 10 :: allB l k) hd
      rw [hq] at h3
      obtain ⟨_, _, h4⟩ := drop_bt h3
      exact (drop_bt h4).2.2
    have hp2 : q + 2 ≤ s.size := by
      have hlen := congrArg List.length hd
      rw [List.length_drop, ← Lib.size_eq, allB, List.length_append, List.length_cons, List.length_cons] at hlen
      omega
    have h5 : newl s (nextP s ⟨barT q, q + 2, false, 0, 0⟩) = stW s l (q + 2) k := by
      unfold barT
      rw [next_toks]
      unfold newl rem
      obtain ⟨m, hm⟩ : ∃ m, (s.size + 1 - (q + 2)) = m + 1 := ⟨s.size + 1 - (q + 2) - 1, by omega⟩
      show newlP s (([(⟨3, ⟨[(10 : UInt8)].toArray⟩, q + 1, ⟨#[]⟩, false⟩ : Tk)]).length + (s.size + 1 - (q + 2)) + 1) _ = _
      rw [hm]
      show newlP s (1 + (m + 1) + 1) _ = _
      rw [show 1 + (m + 1) + 1 = (m + 1 + 1) + 1 by omega]
      unfold newlP
      rw [peek_toks, if_pos rfl, next_toks]
      exact newl_at hl hs hw k (q + 2) (m + 1) hp2 hd2
    have ih := ser_words (B := B) hl hs hw k (q + 2) f hp2 hd2 (by omega)
    have hst : stW s l p (k + 1) = ⟨toksW l p ++ barT q, q + 2, false, 0, 0⟩ := by rw [← hq]; rfl
    unfold serP
    rw [hst, h1]
    dsimp only
    rw [h2, if_pos rfl, if_pos rfl, h5, ih]
    rfl
theorem pipe_words {B : Int → PS → Nd × PS} {l : List ByteArray} (hl : l ≠ []) (hs : s.size ≤ 65536) (hw : ∀ t ∈ l, (wq t).length ≤ 4096) (k p : Nat) (hp : p ≤ s.size) (hd : s.data.toList.drop p = allB l k) (hk : k ≤ 4) :
    pipeP s B 0 (stW s l p k) = (treeW l k, ⟨[], s.size, true, 0, 0⟩) := by
  obtain ⟨t, l', _, h1, h2⟩ := stW_peek (s := s) hl p k
  have h3 : askD s 0 (stW s l p k) = stW s l p k := by unfold askD; rw [if_neg (by decide), h2]
  have h4 : hasW s [33] (stW s l p k) = false := by unfold hasW; rw [h1]; exact is_no t p 1 33 [] (by decide)
  have h5 : tookP s 1 [33] (stW s l p k) = stW s l p k := by unfold tookP; rw [h1, is_no t p 1 33 [] (by decide), if_neg (by decide), h2]
  have hlen := congrArg List.length hd
  rw [List.length_drop, ← Lib.size_eq] at hlen
  have hge : ∀ k, 2 + 4 * k ≤ (allB l k).length := by
    have hpos := segs_pos hl
    have hlp : 0 < l.length := by cases l with | nil => exact absurd rfl hl | cons _ _ => simp
    intro k
    induction k with
    | zero => show _ ≤ (l.flatMap segW).length; omega
    | succ k ih => rw [allB, List.length_append, List.length_cons, List.length_cons]; omega
  have hf : k < rem s (stW s l p k) + 1 := by
    cases k with
    | zero => omega
    | succ k =>
      have := hge k
      rw [allB, List.length_append, List.length_cons, List.length_cons] at hlen
      unfold rem
      show k + 1 < _ + (if false = true then 0 else s.size + 1 - (p + (l.flatMap segW).length + 2)) + 1
      rw [if_neg (by decide)]
      omega
  have h6 := ser_words (B := B) hl hs hw k p _ hp hd hf
  unfold pipeP
  dsimp only
  rw [h3, h4, h5]
  unfold ser
  rw [h6]
  cases k with
  | zero => rfl
  | succ k =>
    have hr : List.replicate (k + 1 + 1) (simW l) = simW l :: simW l :: List.replicate k (simW l) := rfl
    unfold treeW
    rw [hr, if_neg (by omega)]
end
theorem list_words {s : ByteArray} {l : List ByteArray} (hl : l ≠ []) (hs : s.size ≤ 65536) (hw : ∀ t ∈ l, (wq t).length ≤ 4096) (k p : Nat) (hp : p ≤ s.size) (hd : s.data.toList.drop p = allB l k) (hk : k ≤ 4) :
    listP s (stW s l p k) = (treeW l k, ⟨[], s.size, true, 0, 0⟩) := by
  have h1 := pipe_words (B := body s 26) hl hs hw k p hp hd hk
  have ho : ∀ t, hasO s t ⟨[], s.size, true, 0, 0⟩ = false := fun t => by unfold hasO; rw [peek_ended]; rfl
  have ht : ∀ t, tookP s 2 t ⟨[], s.size, true, 0, 0⟩ = ⟨[], s.size, true, 0, 0⟩ := fun t => by
    unfold tookP; rw [peek_ended, show isT 2 t (endT s) = false from rfl, if_neg (by decide), fill_ended]
  have h2 : aoP s (body s 26) 0 (stW s l p k) = (treeW l k, ⟨[], s.size, true, 0, 0⟩) := by
    unfold aoP
    dsimp only
    rw [h1]
    dsimp only
    unfold andP
    rw [ho, ho, if_neg (by decide), fill_ended]
  have h3 : entP s (body s 26) 0 (stW s l p k) = ((treeW l k, false), ⟨[], s.size, true, 0, 0⟩) := by
    unfold entP
    dsimp only
    rw [h2]
    dsimp only
    rw [ho, if_neg (by decide), ho, ht]
  have hkind : (treeW l k).kind ≠ 6 := by
    unfold treeW
    split
    · simp [simW, Nd.kind]
    · simp [Nd.kind]
  unfold listP ser
  dsimp only
  unfold serP
  rw [h3]
  dsimp only
  rw [Bool.false_and, Bool.false_and, if_neg (by decide), fill_ended]
  unfold gather
  dsimp only
  rw [if_pos hkind]
/-- First's answer. -/
theorem first_words {l : List ByteArray} (hl : l ≠ []) (k : Nat) (hk : k ≤ 4) (hs : (allB l k).length ≤ 65536) (hw : ∀ t ∈ l, (wq t).length ≤ 4096) :
    firstP ⟨(allB l k).toArray⟩ 0 = ⟨treeW l k, true, ((allB l k).length : Int), 0, 0⟩ := by
  have hz : (⟨(allB l k).toArray⟩ : ByteArray).size = (allB l k).length := by show (allB l k).toArray.size = _; simp
  obtain ⟨s, hse⟩ : ∃ s : ByteArray, (⟨(allB l k).toArray⟩ : ByteArray) = s := ⟨_, rfl⟩
  have hd : s.data.toList.drop 0 = allB l k := by rw [← hse]; rfl
  rw [hse] at hz ⊢
  have hs' : s.size ≤ 65536 := by omega
  have h1 : newl s ⟨[], 0, false, 0, 0⟩ = stW s l 0 k := by
    unfold newl
    exact newl_at hl hs' hw k 0 _ (Nat.zero_le _) hd
  obtain ⟨t, l', _, h2, h3⟩ := stW_peek (s := s) hl 0 k
  have h4 := list_words hl hs' hw k 0 (Nat.zero_le _) hd hk
  unfold firstP
  dsimp only
  rw [h1, h2, if_neg (by simp [wtk]), h4]
  dsimp only
  simp only [peek_ended, fill_ended]
  simp [endT, hz]
end Go.Proofs.YtnhbcmhinhncfaaGreatDoor
