/- Readings over makers that map into one another. No condition. -/
import Derived.Test.YtjbmpockoicgmaaGreatDcM
import Derived.Test.YtjbmpockoicgmaaGreatEvC
namespace Go.Proofs.YtjbmpockoicgmaaGreat
open Go.RowKit Go.Shelf Go.PlainAid
set_option linter.unusedVariables false
set_option linter.unusedSimpArgs false

section
variable {T T' σ σ' : Type} {M : Mk T σ} {M' : Mk T' σ'} {h : T' → T} {g : σ' → σ}
structure Hom (M : Mk T σ) (M' : Mk T' σ') (h : T' → T) (g : σ' → σ) : Prop where
  number : ∀ n, M.number n = h (M'.number n)
  value : ∀ m nm, M.value (g m) nm = (h (M'.value m nm).1, (M'.value m nm).2)
  ahead : ∀ op x, M.ahead op (h x) = h (M'.ahead op x)
  between : ∀ op x y, M.between op (h x) (h y) = (h (M'.between op x y).1, (M'.between op x y).2)
  truth : ∀ x, M.truth (h x) = M'.truth x
  assign : ∀ m nm x, M.assign (g m) nm (h x) = g (M'.assign m nm x)
  zero : M.zero = h M'.zero
def ws (g : σ' → σ) (s : Ws σ') : Ws σ := ⟨s.toks, s.deep, s.idle, s.err, g s.ms⟩
def mp (h : T' → T) (g : σ' → σ) (r : T' × Ws σ') : T × Ws σ := (h r.1, ws g r.2)
def Lk (h : T' → T) (g : σ' → σ) (F : Ws σ → T × Ws σ) (F' : Ws σ' → T' × Ws σ') : Prop := ∀ s, F (ws g s) = mp h g (F' s)
theorem failM_ws (e : Int) (s : Ws σ') : failM e (ws g s) = ws g (failM e s) := by
  unfold failM
  show (if s.err = 0 ∧ e ≠ 0 then _ else _) = _
  split <;> rfl
theorem needM_ws (op : List UInt8) (s : Ws σ') : needM op (ws g s) = ws g (needM op s) := by
  unfold needM
  rw [failM_ws, show isM op (ws g s) = isM op s from rfl]
  split <;> rfl
theorem deepM_lk {F : Ws σ → T × Ws σ} {F' : Ws σ' → T' × Ws σ'} (hf : Lk h g F F') : Lk h g (deepM F) (deepM F') := fun s => by
  unfold deepM
  dsimp only
  have h1 : (if 24 < (ws g s).deep + 1 then failM 52 { ws g s with deep := (ws g s).deep + 1 } else { ws g s with deep := (ws g s).deep + 1 }) = ws g (if 24 < s.deep + 1 then failM 52 { s with deep := s.deep + 1 } else { s with deep := s.deep + 1 }) := by
    show (if 24 < s.deep + 1 then failM 52 (ws g { s with deep := s.deep + 1 }) else ws g { s with deep := s.deep + 1 }) = _
    rw [failM_ws]
    split <;> rfl
  rw [h1, hf]
  rfl
theorem asideM_lk {b : Bool} {F : Ws σ → T × Ws σ} {F' : Ws σ' → T' × Ws σ'} (hf : Lk h g F F') : Lk h g (asideM b F) (asideM b F') := fun s => by
  cases b with
  | true => exact hf s
  | false =>
    have h1 := hf { s with idle := s.idle + 1 }
    unfold asideM
    simp only [Bool.false_eq_true, if_false]
    rw [show ({ ws g s with idle := (ws g s).idle + 1 } : Ws σ) = ws g { s with idle := s.idle + 1 } from rfl, h1]
    rfl
theorem valueM_lk (H : Hom M M' h g) (nm : ByteArray) : Lk h g (valueM M nm) (valueM M' nm) := fun s => by
  unfold valueM
  rw [show worksM (ws g s) = worksM s from rfl, show (ws g s).ms = g s.ms from rfl, H.value, failM_ws, H.zero]
  split <;> rfl
theorem betwM_lk (H : Hom M M' h g) (op : ByteArray) (x y : T') : Lk h g (betwM M op (h x) (h y)) (betwM M' op x y) := fun s => by
  unfold betwM
  rw [show worksM (ws g s) = worksM s from rfl, H.between, failM_ws, H.zero]
  split <;> rfl
theorem setM_ws (H : Hom M M' h g) (nm : ByteArray) (x : T') (s : Ws σ') : setM M nm (h x) (ws g s) = ws g (setM M' nm x s) := by
  unfold setM
  rw [show worksM (ws g s) = worksM s from rfl, show (ws g s).ms = g s.ms from rfl, H.assign]
  split <;> rfl
theorem logic_hom (H : Hom M M' h g) (b : Bool) : logicM M b = h (logicM M' b) := by
  unfold logicM
  cases b
  · exact H.number 0
  · exact H.number 1
def lvm (h : T' → T) : Lv T' → Lv T
  | .asg => .asg
  | .cho => .cho
  | .bin r => .bin r
  | .lop r x => .lop r (h x)
  | .opd => .opd
theorem go_hom (H : Hom M M' h g) : ∀ f lv, Lk h g (go M f (lvm h lv)) (go M' f lv)
  | 0, lv => fun s => by unfold go; rw [H.zero]; rfl
  | f + 1, .opd => fun s => by
    have hv := valueM_lk H (peekM s).text (nextM s)
    have ha := deepM_lk (go_hom H f .asg) (nextM s)
    have ho := deepM_lk (go_hom H f .opd) (nextM s)
    show go M (f + 1) .opd _ = _
    unfold go
    dsimp only
    rw [show peekM (ws g s) = peekM s from rfl, show nextM (ws g s) = ws g (nextM s) from rfl, hv, show deepM (go M f .asg) (ws g (nextM s)) = _ from ha, show deepM (go M f .opd) (ws g (nextM s)) = _ from ho, H.number, H.zero, failM_ws]
    split
    · rfl
    · split
      · rfl
      · split
        · unfold mp
          dsimp only
          rw [needM_ws]
        · split
          · unfold mp
            dsimp only
            rw [H.ahead]
          · rfl
  | f + 1, .bin r => fun s => by
    have h1 := go_hom H f .opd s
    have h2 := go_hom H f (.lop r (go M' f .opd s).1) (go M' f .opd s).2
    show go M (f + 1) (.bin r) _ = _
    unfold go
    dsimp only
    rw [show go M f .opd (ws g s) = _ from h1]
    exact h2
  | f + 1, .cho => fun s => by
    have h1 := go_hom H f (.bin 3) s
    show go M (f + 1) .cho _ = _
    unfold go
    dsimp only
    rw [show go M f (.bin 3) (ws g s) = _ from h1]
    obtain ⟨r, hr⟩ : ∃ r, go M' f (.bin 3) s = r := ⟨_, rfl⟩
    rw [hr]
    have hy := deepM_lk (asideM_lk (b := M'.truth r.1) (go_hom H f .asg)) (nextM r.2)
    have hn := deepM_lk (asideM_lk (b := !M'.truth r.1) (go_hom H f .cho)) (needM [58] (deepM (asideM (M'.truth r.1) (go M' f .asg)) (nextM r.2)).2)
    rw [show isM [63] (mp h g r).2 = isM [63] r.2 from rfl, show (mp h g r).1 = h r.1 from rfl, H.truth, show nextM (mp h g r).2 = ws g (nextM r.2) from rfl, show deepM (asideM (M'.truth r.1) (go M f .asg)) (ws g (nextM r.2)) = _ from hy]
    obtain ⟨y, hyy⟩ : ∃ y, deepM (asideM (M'.truth r.1) (go M' f .asg)) (nextM r.2) = y := ⟨_, rfl⟩
    rw [hyy] at hn ⊢
    rw [show (mp h g y).2 = ws g y.2 from rfl, needM_ws, show deepM (asideM (!M'.truth r.1) (go M f .cho)) (ws g (needM [58] y.2)) = _ from hn]
    split
    · unfold mp
      dsimp only
      split <;> rfl
    · rfl
  | f + 1, .lop r x => fun s => by
    have hb := go_hom H f (.bin (rankL (peekM s).text.toList + 1))
    show go M (f + 1) (.lop r (h x)) _ = _
    unfold go
    dsimp only
    rw [show peekM (ws g s) = peekM s from rfl, show nextM (ws g s) = ws g (nextM s) from rfl, H.truth]
    have h2 := asideM_lk (b := M'.truth x) hb (nextM s)
    have h3 := asideM_lk (b := !M'.truth x) hb (nextM s)
    have h4 := hb (nextM s)
    rw [show asideM (M'.truth x) (go M f (.bin (rankL (peekM s).text.toList + 1))) (ws g (nextM s)) = _ from h2, show asideM (!M'.truth x) (go M f (.bin (rankL (peekM s).text.toList + 1))) (ws g (nextM s)) = _ from h3, show go M f (.bin (rankL (peekM s).text.toList + 1)) (ws g (nextM s)) = _ from h4]
    split
    · split
      · rw [show ∀ r : T' × Ws σ', (mp h g r).1 = h r.1 from fun _ => rfl, show ∀ r : T' × Ws σ', (mp h g r).2 = ws g r.2 from fun _ => rfl, H.truth, logic_hom H]
        exact go_hom H f (.lop r _) _
      · split
        · rw [show ∀ r : T' × Ws σ', (mp h g r).1 = h r.1 from fun _ => rfl, show ∀ r : T' × Ws σ', (mp h g r).2 = ws g r.2 from fun _ => rfl, H.truth, logic_hom H]
          exact go_hom H f (.lop r _) _
        · rw [show ∀ r : T' × Ws σ', (mp h g r).1 = h r.1 from fun _ => rfl, show ∀ r : T' × Ws σ', (mp h g r).2 = ws g r.2 from fun _ => rfl, betwM_lk H]
          exact go_hom H f (.lop r _) _
    · rfl
  | f + 1, .asg => fun s => by
    show go M (f + 1) .asg _ = _
    unfold go
    dsimp only
    rw [show asgs (ws g s) = asgs s from rfl, show peekM (ws g s) = peekM s from rfl, show nextM (ws g s) = ws g (nextM s) from rfl, show peekM (ws g (nextM s)) = peekM (nextM s) from rfl, show nextM (ws g (nextM s)) = ws g (nextM (nextM s)) from rfl]
    split
    · by_cases hz : ((peekM (nextM s)).text.extract 0 ((peekM (nextM s)).text.size - 1)).size = 0
      · simp only [hz, if_true]
        have h1 := deepM_lk (go_hom H f .asg) (nextM (nextM s))
        rw [show deepM (go M f .asg) (ws g (nextM (nextM s))) = _ from h1]
        unfold mp
        dsimp only
        rw [setM_ws H]
      · simp only [hz, if_false]
        have hv := valueM_lk H (peekM s).text (nextM (nextM s))
        have h1 := deepM_lk (go_hom H f .asg) (valueM M' (peekM s).text (nextM (nextM s))).2
        rw [hv, show (mp h g (valueM M' (peekM s).text (nextM (nextM s)))).2 = ws g (valueM M' (peekM s).text (nextM (nextM s))).2 from rfl, show deepM (go M f .asg) (ws g (valueM M' (peekM s).text (nextM (nextM s))).2) = _ from h1]
        rw [show ∀ r : T' × Ws σ', (mp h g r).1 = h r.1 from fun _ => rfl, show ∀ r : T' × Ws σ', (mp h g r).1 = h r.1 from fun _ => rfl, show ∀ r : T' × Ws σ', (mp h g r).2 = ws g r.2 from fun _ => rfl, betwM_lk H]
        unfold mp
        dsimp only
        rw [setM_ws H]
    · exact go_hom H f .cho s
theorem work_hom (H : Hom M M' h g) (l : List Tk) (m : σ') : workM M l (g m) = (h (workM M' l m).1, (workM M' l m).2.1, g (workM M' l m).2.2) := by
  have h1 := go_hom H (6 * l.length + 5) .asg ⟨l, 0, 0, 0, m⟩
  unfold workM
  rw [show go M (6 * l.length + 5) .asg ⟨l, 0, 0, 0, g m⟩ = _ from h1, H.number]
  obtain ⟨r, hr⟩ : ∃ r, go M' (6 * l.length + 5) .asg ⟨l, 0, 0, 0, m⟩ = r := ⟨_, rfl⟩
  rw [hr]
  dsimp only
  rw [show (mp h g r).2 = ws g r.2 from rfl, show peekM (ws g r.2) = peekM r.2 from rfl, failM_ws]
  split
  · rfl
  · split <;> rfl
end

/-! ### Numbers with their truth beside them -/
abbrev BI := { v : I64 × Bool // v.2 = (v.1.1 != 0) }
def bI (x : I64) : BI := ⟨(x, x.1 != 0), rfl⟩
def tI (x : I64) (h : x.1 ≠ 0) : BI := ⟨(x, true), (bne_iff_ne.2 h).symm⟩
def fI : BI := ⟨(zI, false), rfl⟩
structure NbS where
  vars : List Vr
  now : ByteArray → Option BI
  sets : List (ByteArray × BI)
def nbI (m : NbS) : Nm := ⟨m.vars, fun y => (m.now y).map (·.1.1), m.sets.map fun x => (x.1, x.2.1.1)⟩
def betB (l : List UInt8) (x y : BI) : BI × Int :=
  if l = [47] ∨ l = [37] then (if y.1.2 then (if l = [47] then (bI (mkI (x.1.1.1.tdiv y.1.1.1)), 0) else (bI (mkI (x.1.1.1.tmod y.1.1.1)), 0)) else (bI zI, 61))
  else (bI (betI l x.1.1 y.1.1).1, (betI l x.1.1 y.1.1).2)
def ahdB (l : List UInt8) (x : BI) : BI := if l = [33] then bI (oneI (!x.1.2)) else bI (ahdI l x.1.1)
def NBk (P : Nat → BI) : Mk BI NbS where
  number := fun n => bI (mkI n)
  value := fun m nm => match m.now nm with
    | some x => (x, 0)
    | none => match idxM m.vars nm with
      | none => (bI zI, 0)
      | some i => (P i, 0)
  ahead := fun op x => ahdB op.toList x
  between := fun op x y => betB op.toList x y
  truth := fun x => x.1.2
  assign := fun m nm x => { m with now := fun y => if y = nm then some x else m.now y, sets := m.sets ++ [(nm, x)] }
  zero := bI zI
theorem nb_hom (P : Nat → BI) : Hom (NK fun i => ((P i).1.1, 0)) (NBk P) (·.1.1) nbI where
  number := fun n => rfl
  value := fun m nm => by
    unfold NK nbI NBk
    dsimp only
    cases m.now nm with
    | some x => rfl
    | none =>
      dsimp only [Option.map_none]
      cases idxM m.vars nm with
      | none => rfl
      | some i => rfl
  ahead := fun op x => by
    show ahdI op.toList x.1.1 = (ahdB op.toList x).1.1
    unfold ahdB
    split
    · rename_i e
      rw [e, x.2]
      show oneI (x.1.1.1 == 0) = oneI (!(!(x.1.1.1 == 0)))
      rw [Bool.not_not]
    · rfl
  between := fun op x y => by
    show betI op.toList x.1.1 y.1.1 = ((betB op.toList x y).1.1.1, (betB op.toList x y).2)
    unfold betB
    by_cases e : op.toList = [47] ∨ op.toList = [37]
    · rw [if_pos e]
      unfold betI divI
      rw [if_pos e]
      by_cases hz : y.1.1.1 = 0
      · have h2 : y.1.2 = false := by rw [y.2, hz]; rfl
        rw [if_pos hz, h2]
        rfl
      · have h2 : y.1.2 = true := by rw [y.2]; exact bne_iff_ne.2 hz
        rw [if_neg hz, h2, if_pos rfl]
        split <;> rfl
    · rw [if_neg e]
      rfl
  truth := fun x => x.2.symm
  assign := fun m nm x => by
    show asnI (nbI m) nm x.1.1 = _
    unfold asnI nbI NBk
    dsimp only
    congr 1
    · funext y
      split <;> rfl
    · rw [List.map_append]; rfl
  zero := rfl
def wB (s : ByteArray) (L : List Vr) (P : Nat → BI) : BI × Int × NbS := workM (NBk P) (toksM s) ⟨L, fun _ => none, []⟩
theorem wK_B (s : ByteArray) (L : List Vr) (P : Nat → BI) : wK s L (fun i => ((P i).1.1, 0)) = ((wB s L P).1.1.1, (wB s L P).2.1, nbI (wB s L P).2.2) := by
  have h := fun l => work_hom (nb_hom P) l ⟨L, fun _ => none, []⟩
  have e : nbI ⟨L, fun _ => none, []⟩ = ⟨L, fun _ => none, []⟩ := rfl
  rw [e] at h
  unfold wK wB
  exact h (toksM s)
end Go.Proofs.YtjbmpockoicgmaaGreat
/- What the laws' texts are worth where a value is not zero. No condition. -/
namespace Go.Proofs.YtjbmpockoicgmaaGreat
open Go.RowKit Go.Shelf Go.PlainAid
set_option linter.unusedVariables false
set_option linter.unusedSimpArgs false
abbrev Q2 (p q : BI) : Nat → BI := fun i => if i = 0 then p else q
abbrev Q3 (p q r : BI) : Nat → BI := fun i => if i = 0 then p else if i = 1 then q else r
theorem wb_div (A B : ByteArray) (x y : I64) (h : y.1 ≠ 0) : (wB ⟨#[97, 47, 98, 42, 98, 43, 97, 37, 98]⟩ (two A B) (Q2 (bI x) (tI y h))).1.1.1 = mkI ((mkI ((mkI (x.1.tdiv y.1)).1 * y.1)).1 + (mkI (x.1.tmod y.1)).1) ∧ (wB ⟨#[97, 47, 98, 42, 98, 43, 97, 37, 98]⟩ (two A B) (Q2 (bI x) (tI y h))).2.1 = 0 := ⟨by kernel_rfl, by kernel_rfl⟩
theorem wb_cho (A B C : ByteArray) (x y z : I64) (h : x.1 ≠ 0) : (wB ⟨#[97, 63, 40, 120, 61, 98, 41, 58, 40, 121, 61, 99, 41]⟩ (three A B C) (Q3 (tI x h) (bI y) (bI z))).1.1.1 = y ∧ (wB ⟨#[97, 63, 40, 120, 61, 98, 41, 58, 40, 121, 61, 99, 41]⟩ (three A B C) (Q3 (tI x h) (bI y) (bI z))).2.1 = 0 ∧ (wB ⟨#[97, 63, 40, 120, 61, 98, 41, 58, 40, 121, 61, 99, 41]⟩ (three A B C) (Q3 (tI x h) (bI y) (bI z))).2.2.sets = [(⟨#[120]⟩, bI y)] := ⟨by kernel_rfl, by kernel_rfl, by kernel_rfl⟩
theorem wb_cho_f (A B C : ByteArray) (y z : I64) : (wB ⟨#[97, 63, 40, 120, 61, 98, 41, 58, 40, 121, 61, 99, 41]⟩ (three A B C) (Q3 fI (bI y) (bI z))).1.1.1 = z ∧ (wB ⟨#[97, 63, 40, 120, 61, 98, 41, 58, 40, 121, 61, 99, 41]⟩ (three A B C) (Q3 fI (bI y) (bI z))).2.1 = 0 ∧ (wB ⟨#[97, 63, 40, 120, 61, 98, 41, 58, 40, 121, 61, 99, 41]⟩ (three A B C) (Q3 fI (bI y) (bI z))).2.2.sets = [(⟨#[121]⟩, bI z)] := ⟨by kernel_rfl, by kernel_rfl, by kernel_rfl⟩
end Go.Proofs.YtjbmpockoicgmaaGreat
/- What the laws' texts are worth over numbers written as texts. No condition. -/
namespace Go.Proofs.YtjbmpockoicgmaaGreat
open Go.RowKit Go.Shelf Go.PlainAid
set_option linter.unusedVariables false
set_option linter.unusedSimpArgs false
set_option linter.unusedSectionVars false
theorem ev_b {s : ByteArray} {L : List Vr} {Q : Nat → BI} {n : I64} {S : List (ByteArray × I64)} (hc : chkM s = 0) (hQ : ∀ i v, L[i]? = some v → worthM v.val = ((Q i).1.1, 0)) (h1 : (wB s L Q).1.1.1 = n) (h2 : (wB s L Q).2.1 = 0) (h3 : (wB s L Q).2.2.sets.map (fun x => (x.1, x.2.1.1)) = S) : evalM s L = (n.1, S, 0) := by
  have h := (wrk_k (P := fun i => ((Q i).1.1, 0)) hQ s).trans (wK_B s L Q)
  obtain ⟨r, hr⟩ : ∃ r, wB s L Q = r := ⟨_, rfl⟩
  rw [hr] at h h1 h2 h3
  have h4 : (wrkM s L).2.1 = 0 := by rw [h]; exact h2
  rw [eval_ok hc h4, h]
  show (r.1.1.1.1, r.2.2.sets.map (fun x => (x.1, x.2.1.1)), (0 : Int)) = _
  rw [h1, h3]
theorem ev_bad {s : ByteArray} {L : List Vr} {Q : Nat → BI} {e : Int} (hc : chkM s = 0) (hQ : ∀ i v, L[i]? = some v → worthM v.val = ((Q i).1.1, 0)) (h2 : (wB s L Q).2.1 = e) (he : e ≠ 0) : evalM s L = (0, [], e) := by
  have h := (wrk_k (P := fun i => ((Q i).1.1, 0)) hQ s).trans (wK_B s L Q)
  have h4 : (wrkM s L).2.1 = e := by rw [h]; exact h2
  rw [eval_err hc (by rw [h4]; exact he), h4]
theorem ev_k {s : ByteArray} {L : List Vr} {P : Nat → I64 × Int} {n : I64} {S : List (ByteArray × I64)} (hc : chkM s = 0) (hP : ∀ i v, L[i]? = some v → worthM v.val = P i) (h : (wK s L P).1 = n ∧ (wK s L P).2.1 = 0 ∧ (wK s L P).2.2.sets = S) : evalM s L = (n.1, S, 0) := by
  have h0 := wrk_k hP s
  have h4 : (wrkM s L).2.1 = 0 := by rw [h0]; exact h.2.1
  rw [eval_ok hc h4, h0, h.1, h.2.2]
theorem two_p {A B : ByteArray} {p q : I64 × Int} (h1 : worthM A = p) (h2 : worthM B = q) : ∀ i v, (two A B)[i]? = some v → worthM v.val = P2 p q i := fun i v hv => by
  match i, hv with
  | 0, hv => obtain rfl : vA A = v := by simpa using hv
             exact h1
  | 1, hv => obtain rfl : vB B = v := by simpa using hv
             exact h2
  | i + 2, hv => simp at hv
theorem two_q {A B : ByteArray} {p q : BI} (h1 : worthM A = (p.1.1, 0)) (h2 : worthM B = (q.1.1, 0)) : ∀ i v, (two A B)[i]? = some v → worthM v.val = ((Q2 p q i).1.1, 0) := fun i v hv => by
  match i, hv with
  | 0, hv => obtain rfl : vA A = v := by simpa using hv
             exact h1
  | 1, hv => obtain rfl : vB B = v := by simpa using hv
             exact h2
  | i + 2, hv => simp at hv
theorem three_q {A B C : ByteArray} {p q r : BI} (h1 : worthM A = (p.1.1, 0)) (h2 : worthM B = (q.1.1, 0)) (h3 : worthM C = (r.1.1, 0)) : ∀ i v, (three A B C)[i]? = some v → worthM v.val = ((Q3 p q r i).1.1, 0) := fun i v hv => by
  match i, hv with
  | 0, hv => obtain rfl : vA A = v := by simpa using hv
             exact h1
  | 1, hv => obtain rfl : vB B = v := by simpa using hv
             exact h2
  | 2, hv => obtain rfl : vC C = v := by simpa using hv
             exact h3
  | i + 3, hv => simp at hv
theorem mk_of {a : Int} (h : Rg a) : (mkI a).1 = a := mkI_in h
theorem worth_z : worthM (decT 0) = (fI.1.1, 0) := by
  rw [worth_dec 0 (by omega)]
  exact congrArg (fun x => (x, (0 : Int))) (I64.ext (mk_of (by unfold Rg; omega)))
theorem wb_div3 (A B : ByteArray) (x y : I64) (h : y.1 ≠ 0) : (wB ⟨#[97, 47, 98, 42, 98, 43, 97, 37, 98]⟩ (two A B) (Q2 (bI x) (tI y h))).2.2.sets = [] := by kernel_rfl
theorem wb_ands_tt (A B C : ByteArray) (x : I64) (hx : x.1 ≠ 0) (y : I64) (hy : y.1 ≠ 0) (z : I64) : (wB ⟨#[97, 38, 38, 98]⟩ (three A B C) (Q3 (tI x hx) (tI y hy) (bI z))).1.1.1 = oneI true ∧ (wB ⟨#[97, 38, 38, 98]⟩ (three A B C) (Q3 (tI x hx) (tI y hy) (bI z))).2.1 = 0 ∧ (wB ⟨#[97, 38, 38, 98]⟩ (three A B C) (Q3 (tI x hx) (tI y hy) (bI z))).2.2.sets = [] := ⟨by kernel_rfl, by kernel_rfl, by kernel_rfl⟩
theorem wb_ands_tf (A B C : ByteArray) (x : I64) (hx : x.1 ≠ 0) (z : I64) : (wB ⟨#[97, 38, 38, 98]⟩ (three A B C) (Q3 (tI x hx) fI (bI z))).1.1.1 = oneI false ∧ (wB ⟨#[97, 38, 38, 98]⟩ (three A B C) (Q3 (tI x hx) fI (bI z))).2.1 = 0 ∧ (wB ⟨#[97, 38, 38, 98]⟩ (three A B C) (Q3 (tI x hx) fI (bI z))).2.2.sets = [] := ⟨by kernel_rfl, by kernel_rfl, by kernel_rfl⟩
theorem wb_ands_fb (A B C : ByteArray) (y : I64) (z : I64) : (wB ⟨#[97, 38, 38, 98]⟩ (three A B C) (Q3 fI (bI y) (bI z))).1.1.1 = oneI false ∧ (wB ⟨#[97, 38, 38, 98]⟩ (three A B C) (Q3 fI (bI y) (bI z))).2.1 = 0 ∧ (wB ⟨#[97, 38, 38, 98]⟩ (three A B C) (Q3 fI (bI y) (bI z))).2.2.sets = [] := ⟨by kernel_rfl, by kernel_rfl, by kernel_rfl⟩
theorem wb_ors_tb (A B C : ByteArray) (x : I64) (hx : x.1 ≠ 0) (y : I64) (z : I64) : (wB ⟨#[97, 124, 124, 98]⟩ (three A B C) (Q3 (tI x hx) (bI y) (bI z))).1.1.1 = oneI true ∧ (wB ⟨#[97, 124, 124, 98]⟩ (three A B C) (Q3 (tI x hx) (bI y) (bI z))).2.1 = 0 ∧ (wB ⟨#[97, 124, 124, 98]⟩ (three A B C) (Q3 (tI x hx) (bI y) (bI z))).2.2.sets = [] := ⟨by kernel_rfl, by kernel_rfl, by kernel_rfl⟩
theorem wb_ors_ft (A B C : ByteArray) (y : I64) (hy : y.1 ≠ 0) (z : I64) : (wB ⟨#[97, 124, 124, 98]⟩ (three A B C) (Q3 fI (tI y hy) (bI z))).1.1.1 = oneI true ∧ (wB ⟨#[97, 124, 124, 98]⟩ (three A B C) (Q3 fI (tI y hy) (bI z))).2.1 = 0 ∧ (wB ⟨#[97, 124, 124, 98]⟩ (three A B C) (Q3 fI (tI y hy) (bI z))).2.2.sets = [] := ⟨by kernel_rfl, by kernel_rfl, by kernel_rfl⟩
theorem wb_ors_ff (A B C : ByteArray) (z : I64) : (wB ⟨#[97, 124, 124, 98]⟩ (three A B C) (Q3 fI fI (bI z))).1.1.1 = oneI false ∧ (wB ⟨#[97, 124, 124, 98]⟩ (three A B C) (Q3 fI fI (bI z))).2.1 = 0 ∧ (wB ⟨#[97, 124, 124, 98]⟩ (three A B C) (Q3 fI fI (bI z))).2.2.sets = [] := ⟨by kernel_rfl, by kernel_rfl, by kernel_rfl⟩
theorem wb_nots_tb (A B C : ByteArray) (x : I64) (hx : x.1 ≠ 0) (y : I64) (z : I64) : (wB ⟨#[33, 97]⟩ (three A B C) (Q3 (tI x hx) (bI y) (bI z))).1.1.1 = oneI false ∧ (wB ⟨#[33, 97]⟩ (three A B C) (Q3 (tI x hx) (bI y) (bI z))).2.1 = 0 ∧ (wB ⟨#[33, 97]⟩ (three A B C) (Q3 (tI x hx) (bI y) (bI z))).2.2.sets = [] := ⟨by kernel_rfl, by kernel_rfl, by kernel_rfl⟩
theorem wb_nots_fb (A B C : ByteArray) (y : I64) (z : I64) : (wB ⟨#[33, 97]⟩ (three A B C) (Q3 fI (bI y) (bI z))).1.1.1 = oneI true ∧ (wB ⟨#[33, 97]⟩ (three A B C) (Q3 fI (bI y) (bI z))).2.1 = 0 ∧ (wB ⟨#[33, 97]⟩ (three A B C) (Q3 fI (bI y) (bI z))).2.2.sets = [] := ⟨by kernel_rfl, by kernel_rfl, by kernel_rfl⟩
section
variable {a b c : Int} (ha : Rg a) (hb : Rg b)
include ha hb
theorem hP2 : ∀ i v, (two (decT a) (decT b))[i]? = some v → worthM v.val = P2 (mkI a, 0) (mkI b, 0) i := two_p (worth_dec a ha) (worth_dec b hb)
theorem ev_add : evalM ⟨#[97, 43, 98]⟩ (two (decT a) (decT b)) = (wrap64 (a + b), [], 0) := by
  rw [ev_k chk_add (hP2 ha hb) (wk_add _ _ _ _), mk_of ha, mk_of hb]
  rfl
theorem ev_sub : evalM ⟨#[97, 45, 98]⟩ (two (decT a) (decT b)) = (wrap64 (a - b), [], 0) := by
  rw [ev_k chk_sub (hP2 ha hb) (wk_sub _ _ _ _), mk_of ha, mk_of hb]
  rfl
theorem ev_mul : evalM ⟨#[97, 42, 98]⟩ (two (decT a) (decT b)) = (wrap64 (a * b), [], 0) := by
  rw [ev_k chk_mul (hP2 ha hb) (wk_mul _ _ _ _), mk_of ha, mk_of hb]
  rfl
theorem ev_and : evalM ⟨#[97, 38, 98]⟩ (two (decT a) (decT b)) = (bits .and .i64 a b, [], 0) := by
  rw [ev_k chk_and (hP2 ha hb) (wk_and _ _ _ _), mk_of ha, mk_of hb, and_rng]
theorem ev_or : evalM ⟨#[97, 124, 98]⟩ (two (decT a) (decT b)) = (bits .or .i64 a b, [], 0) := by
  rw [ev_k chk_or (hP2 ha hb) (wk_or _ _ _ _), mk_of ha, mk_of hb, or_rng]
theorem ev_xor : evalM ⟨#[97, 94, 98]⟩ (two (decT a) (decT b)) = (bits .xor .i64 a b, [], 0) := by
  rw [ev_k chk_xor (hP2 ha hb) (wk_xor _ _ _ _), mk_of ha, mk_of hb, xor_rng]
theorem ev_inv : evalM ⟨#[126, 97]⟩ (two (decT a) (decT b)) = (bits .xor .i64 (-1) a, [], 0) := by
  rw [ev_k chk_inv (hP2 ha hb) (wk_inv _ _ _ _), mk_of ha, xor_rng]
theorem ev_neg : evalM ⟨#[45, 97]⟩ (two (decT a) (decT b)) = (wrap64 (-a), [], 0) := by
  rw [ev_k chk_neg (hP2 ha hb) (wk_neg _ _ _ _), mk_of ha]
  rfl
theorem ev_shl : evalM ⟨#[97, 60, 60, 98]⟩ (two (decT a) (decT b)) = (wrap64 (a * 2 ^ sh64 b), [], 0) := by
  rw [ev_k chk_shl (hP2 ha hb) (wk_shl _ _ _ _), mk_of ha, mk_of hb]
  rfl
theorem ev_shr : evalM ⟨#[97, 62, 62, 98]⟩ (two (decT a) (decT b)) = (a.fdiv (2 ^ sh64 b), [], 0) := by
  rw [ev_k chk_shr (hP2 ha hb) (wk_shr _ _ _ _), mkI_in (fdiv_rng (mkI a).2 _), mk_of ha, mk_of hb]
theorem ev_lss : evalM ⟨#[97, 60, 98]⟩ (two (decT a) (decT b)) = (if a < b then 1 else 0, [], 0) := by
  rw [ev_k chk_lss (hP2 ha hb) (wk_lss _ _ _ _), mk_of ha, mk_of hb]
  unfold oneI
  by_cases h : a < b
  · rw [if_pos h, decide_eq_true h]; rfl
  · rw [if_neg h, decide_eq_false h]; rfl
theorem ev_eql : evalM ⟨#[97, 61, 61, 98]⟩ (two (decT a) (decT b)) = (if a = b then 1 else 0, [], 0) := by
  rw [ev_k chk_eql (hP2 ha hb) (wk_eql _ _ _ _), mk_of ha, mk_of hb]
  unfold oneI
  by_cases h : a = b
  · rw [if_pos h, beq_iff_eq.2 h]; rfl
  · rw [if_neg h, beq_eq_false_iff_ne.2 h]; rfl
theorem ev_div_z (h0 : b = 0) : evalM ⟨#[97, 47, 98, 42, 98, 43, 97, 37, 98]⟩ (two (decT a) (decT b)) = (0, [], 61) := by
  have hc : (wrkM ⟨#[97, 47, 98, 42, 98, 43, 97, 37, 98]⟩ (two (decT a) (decT b))).2.1 = 61 := by
    subst h0
    rw [wrk_k (two_p (p := (mkI a, 0)) (q := (zI, 0)) (worth_dec a ha) worth_z)]
    exact wk_div_z _ _ _
  rw [eval_err chk_div (by rw [hc]; decide), hc]
theorem ev_div (h0 : b ≠ 0) : evalM ⟨#[97, 47, 98, 42, 98, 43, 97, 37, 98]⟩ (two (decT a) (decT b)) = (a, [], 0) := by
  have h1 : (mkI b).1 ≠ 0 := by rw [mk_of hb]; exact h0
  rw [ev_b (n := mkI ((mkI ((mkI ((mkI a).1.tdiv (mkI b).1)).1 * (mkI b).1)).1 + (mkI ((mkI a).1.tmod (mkI b).1)).1)) (S := []) chk_div (two_q (p := bI (mkI a)) (q := tI (mkI b) h1) (worth_dec a ha) (worth_dec b hb)) (wb_div _ _ _ _ _).1 (wb_div _ _ _ _ _).2 (by rw [wb_div3]; rfl)]
  rw [mk_of ha, mk_of hb]
  have hd := Int.tmod_add_mul_tdiv a b
  have hm : b * a.tdiv b = a.tdiv b * b := Int.mul_comm ..
  have e : (mkI ((mkI ((mkI (a.tdiv b)).1 * b)).1 + (mkI (a.tmod b)).1)).1 = wrap64 a := by
    show wrap64 (wrap64 (wrap64 (a.tdiv b) * b) + wrap64 (a.tmod b)) = wrap64 a
    obtain ⟨q, hq⟩ : ∃ q, a.tdiv b = q := ⟨_, rfl⟩
    obtain ⟨r, hr⟩ : ∃ r, a.tmod b = r := ⟨_, rfl⟩
    rw [hq, hr] at hd
    rw [hq] at hm
    rw [hm] at hd
    rw [hq, hr]
    obtain ⟨k1, k1e⟩ : ∃ k, wrap64 q = q + k * 18446744073709551616 := ⟨(wrap64 q - q) / 18446744073709551616, by unfold wrap64; omega⟩
    obtain ⟨m, hmm⟩ : ∃ m, wrap64 q * b = m := ⟨_, rfl⟩
    have hm2 : m = q * b + k1 * b * 18446744073709551616 := by rw [← hmm, k1e, Int.add_mul, Int.mul_right_comm]
    rw [hmm]
    obtain ⟨u, hu⟩ : ∃ u, k1 * b = u := ⟨_, rfl⟩
    obtain ⟨v, hv⟩ : ∃ v, q * b = v := ⟨_, rfl⟩
    rw [hu, hv] at hm2
    rw [hv] at hd
    subst hm2
    unfold wrap64
    omega
  rw [e]
  show (wrap64 a, _, _) = _
  rw [show wrap64 a = a from mk_of ha]
theorem ev_name (B : ByteArray) (hB : worthM B = (mkI b, 0)) : evalM ⟨#[97]⟩ (two (decT a) B) = (a, [], 0) := by
  rw [ev_k chk_name (two_p (worth_dec a ha) hB) (wk_name _ _ _ _), mk_of ha]
theorem ev_set (B : ByteArray) (hB : worthM B = (mkI b, 0)) : evalM ⟨#[40, 97, 61, 98, 41, 43, 40, 98, 61, 97, 41]⟩ (two (decT a) B) = (wrap64 (b + b), [(⟨#[97]⟩, mkI b), (⟨#[98]⟩, mkI b)], 0) := by
  rw [ev_k chk_set (two_p (worth_dec a ha) hB) (wk_set _ _ _ _), mk_of hb]
  rfl
theorem ev_less (B : ByteArray) (hB : worthM B = (mkI b, 0)) : evalM ⟨#[97, 45, 61, 98]⟩ (two (decT a) B) = (wrap64 (a - b), [(⟨#[97]⟩, mkI (a - b))], 0) := by
  rw [ev_k chk_less (two_p (worth_dec a ha) hB) (wk_less _ _ _ _), mk_of ha, mk_of hb]
  rfl
variable (hc : Rg c)
include hc
theorem ev_cho : evalM ⟨#[97, 63, 40, 120, 61, 98, 41, 58, 40, 121, 61, 99, 41]⟩ (three (decT a) (decT b) (decT c)) = if a ≠ 0 then (b, [(⟨#[120]⟩, mkI b)], 0) else (c, [(⟨#[121]⟩, mkI c)], 0) := by
  by_cases h0 : a ≠ 0
  · have h1 : (mkI a).1 ≠ 0 := by rw [mk_of ha]; exact h0
    rw [if_pos h0, ev_b (n := mkI b) (S := [(⟨#[120]⟩, mkI b)]) chk_cho (three_q (p := tI (mkI a) h1) (q := bI (mkI b)) (r := bI (mkI c)) (worth_dec a ha) (worth_dec b hb) (worth_dec c hc)) (wb_cho _ _ _ _ _ _ h1).1 (wb_cho _ _ _ _ _ _ h1).2.1 (by rw [(wb_cho _ _ _ _ _ _ h1).2.2]; rfl), mk_of hb]
  · have e : a = 0 := Decidable.byContradiction h0
    subst e
    rw [if_neg h0, ev_b (n := mkI c) (S := [(⟨#[121]⟩, mkI c)]) chk_cho (three_q (p := fI) (q := bI (mkI b)) (r := bI (mkI c)) worth_z (worth_dec b hb) (worth_dec c hc)) (wb_cho_f _ _ _ _ _).1 (wb_cho_f _ _ _ _ _).2.1 (by rw [(wb_cho_f _ _ _ _ _).2.2]; rfl), mk_of hc]
theorem ev_ands : evalM ⟨#[97, 38, 38, 98]⟩ (three (decT a) (decT b) (decT c)) = ((oneI (decide (a ≠ 0 ∧ b ≠ 0))).1, [], 0) := by
  by_cases h0 : a = 0
  · rw [decide_eq_false (fun e => e.1 h0)]
    subst h0
    exact ev_b (n := oneI false) (S := []) chk_ands (three_q (p := fI) (q := bI (mkI b)) (r := bI (mkI c)) worth_z (worth_dec _ hb) (worth_dec _ hc)) (wb_ands_fb _ _ _ _ _).1 (wb_ands_fb _ _ _ _ _).2.1 (by rw [(wb_ands_fb _ _ _ _ _).2.2]; rfl)
  · have h1 : (mkI a).1 ≠ 0 := by rw [mk_of ha]; exact h0
    by_cases k0 : b = 0
    · rw [decide_eq_false (fun e => e.2 k0)]
      subst k0
      exact ev_b (n := oneI false) (S := []) chk_ands (three_q (p := tI (mkI a) h1) (q := fI) (r := bI (mkI c)) (worth_dec _ ha) worth_z (worth_dec _ hc)) (wb_ands_tf _ _ _ _ h1 _).1 (wb_ands_tf _ _ _ _ h1 _).2.1 (by rw [(wb_ands_tf _ _ _ _ h1 _).2.2]; rfl)
    · have h2 : (mkI b).1 ≠ 0 := by rw [mk_of hb]; exact k0
      rw [decide_eq_true ⟨h0, k0⟩]
      exact ev_b (n := oneI true) (S := []) chk_ands (three_q (p := tI (mkI a) h1) (q := tI (mkI b) h2) (r := bI (mkI c)) (worth_dec _ ha) (worth_dec _ hb) (worth_dec _ hc)) (wb_ands_tt _ _ _ _ h1 _ h2 _).1 (wb_ands_tt _ _ _ _ h1 _ h2 _).2.1 (by rw [(wb_ands_tt _ _ _ _ h1 _ h2 _).2.2]; rfl)
theorem ev_ors : evalM ⟨#[97, 124, 124, 98]⟩ (three (decT a) (decT b) (decT c)) = ((oneI (decide (a ≠ 0 ∨ b ≠ 0))).1, [], 0) := by
  by_cases h0 : a = 0
  · by_cases k0 : b = 0
    · rw [decide_eq_false (fun e => e.elim (fun e => e h0) (fun e => e k0))]
      subst h0
      subst k0
      exact ev_b (n := oneI false) (S := []) chk_ors (three_q (p := fI) (q := fI) (r := bI (mkI c)) worth_z worth_z (worth_dec _ hc)) (wb_ors_ff _ _ _ _).1 (wb_ors_ff _ _ _ _).2.1 (by rw [(wb_ors_ff _ _ _ _).2.2]; rfl)
    · have h2 : (mkI b).1 ≠ 0 := by rw [mk_of hb]; exact k0
      rw [decide_eq_true (.inr k0)]
      subst h0
      exact ev_b (n := oneI true) (S := []) chk_ors (three_q (p := fI) (q := tI (mkI b) h2) (r := bI (mkI c)) worth_z (worth_dec _ hb) (worth_dec _ hc)) (wb_ors_ft _ _ _ _ h2 _).1 (wb_ors_ft _ _ _ _ h2 _).2.1 (by rw [(wb_ors_ft _ _ _ _ h2 _).2.2]; rfl)
  · have h1 : (mkI a).1 ≠ 0 := by rw [mk_of ha]; exact h0
    rw [decide_eq_true (.inl h0)]
    exact ev_b (n := oneI true) (S := []) chk_ors (three_q (p := tI (mkI a) h1) (q := bI (mkI b)) (r := bI (mkI c)) (worth_dec _ ha) (worth_dec _ hb) (worth_dec _ hc)) (wb_ors_tb _ _ _ _ h1 _ _).1 (wb_ors_tb _ _ _ _ h1 _ _).2.1 (by rw [(wb_ors_tb _ _ _ _ h1 _ _).2.2]; rfl)
theorem ev_nots : evalM ⟨#[33, 97]⟩ (three (decT a) (decT b) (decT c)) = ((oneI (decide (a = 0))).1, [], 0) := by
  by_cases h0 : a = 0
  · rw [decide_eq_true h0]
    subst h0
    exact ev_b (n := oneI true) (S := []) chk_nots (three_q (p := fI) (q := bI (mkI b)) (r := bI (mkI c)) worth_z (worth_dec _ hb) (worth_dec _ hc)) (wb_nots_fb _ _ _ _ _).1 (wb_nots_fb _ _ _ _ _).2.1 (by rw [(wb_nots_fb _ _ _ _ _).2.2]; rfl)
  · have h1 : (mkI a).1 ≠ 0 := by rw [mk_of ha]; exact h0
    rw [decide_eq_false h0]
    exact ev_b (n := oneI false) (S := []) chk_nots (three_q (p := tI (mkI a) h1) (q := bI (mkI b)) (r := bI (mkI c)) (worth_dec _ ha) (worth_dec _ hb) (worth_dec _ hc)) (wb_nots_tb _ _ _ _ h1 _ _).1 (wb_nots_tb _ _ _ _ h1 _ _).2.1 (by rw [(wb_nots_tb _ _ _ _ h1 _ _).2.2]; rfl)
end
end Go.Proofs.YtjbmpockoicgmaaGreat
/- The laws' variables: their texts' sizes, what a text between blanks is worth, how they lie. No condition. -/
namespace Go.Proofs.YtjbmpockoicgmaaGreat
open Go.RowKit Go.Shelf Go.PlainAid
set_option linter.unusedVariables false
set_option linter.unusedSimpArgs false
theorem dgs_len : ∀ (k f u : Nat) (acc : List UInt8), u < 10 ^ (k + 1) → (dgs f u acc).length ≤ acc.length + (k + 1)
  | k, 0, u, acc, h => by unfold dgs; omega
  | 0, f + 1, u, acc, h => by
    unfold dgs
    rw [if_pos (by omega)]
    simp
  | k + 1, f + 1, u, acc, h => by
    unfold dgs
    split
    · simp
    · have := dgs_len k f (u / 10) (UInt8.ofNat (48 + u % 10) :: acc) (by rw [Nat.pow_succ] at h; omega)
      simp only [List.length_cons] at this
      omega
theorem decT_size {a : Int} (h : Rg a) : (decT a).size ≤ 21 := by
  have hu : a.natAbs < 10 ^ (19 + 1) := by unfold Rg at h; omega
  have := dgs_len 19 (a.natAbs + 1) a.natAbs [] hu
  unfold decT
  split
  · rw [sz_l]
    show (dgs (a.natAbs + 1) a.natAbs []).length + 1 ≤ 21
    simp at this
    omega
  · rw [sz_l]
    show (dgs (a.natAbs + 1) a.natAbs []).length ≤ 21
    simp at this
    omega
/-- A number between a blank and a tab. -/
def spT (b : Int) : ByteArray := ⟨#[32]⟩ ++ decT b ++ ⟨#[9]⟩
theorem spT_size {b : Int} (h : Rg b) : (spT b).size ≤ 23 := by
  have := decT_size h
  unfold spT
  rw [ByteArray.size_append, ByteArray.size_append]
  show 1 + (decT b).size + 1 ≤ 23
  omega
theorem dec_list (b : Int) : ∃ l, decT b = ⟨l.toArray⟩ ∧ l ≠ [] ∧ ∀ c ∈ l, 45 ≤ c.toNat := by
  obtain ⟨h1, h2, _, _⟩ := digs_spec b.natAbs
  unfold decT
  split
  · refine ⟨_, rfl, by simp, fun c hc => ?_⟩
    rcases List.mem_cons.1 hc with rfl | hc
    · decide
    · have := (h2 c hc).1; omega
  · exact ⟨_, rfl, h1, fun c hc => by have := (h2 c hc).1; omega⟩
theorem drop_one (p : UInt8 → Bool) (b : UInt8) (l : List UInt8) (h : p b = true) : (b :: l).dropWhile p = l.dropWhile p := by rw [List.dropWhile_cons, if_pos h]
theorem trim_sp (b : Int) : trimT (spT b) = decT b := by
  obtain ⟨l, hl, hne, h⟩ := dec_list b
  have hp : ∀ c ∈ l, ([9, 10, 32] : List UInt8).contains c = false := fun c hc => by
    have := h c hc
    rw [List.contains_eq_mem, decide_eq_false]
    intro e
    simp at e
    rcases e with e | e | e <;> (rw [e] at this; revert this; decide)
  have hd : (spT b).data.toList = 32 :: (l ++ [9]) := by
    unfold spT
    rw [hl]
    simp [ByteArray.data_append]
  unfold trimT Lib.trimS Lib.trimLeftS Lib.trimRightS
  rw [hd, hl]
  show (⟨(List.dropWhile _ (List.reverse (List.dropWhile _ (32 :: (l ++ [9])).reverse))).toArray⟩ : ByteArray) = _
  have e1 : (32 :: (l ++ [9])).reverse = 9 :: (l.reverse ++ [32]) := by simp
  have hr : l.reverse ≠ [] := fun e => hne (by simpa using e)
  rw [e1, drop_one _ _ _ (by decide)]
  obtain ⟨c, l', hcl⟩ : ∃ c l', l.reverse = c :: l' := by
    cases hq : l.reverse with
    | nil => exact absurd hq hr
    | cons c l' => exact ⟨c, l', rfl⟩
  have hc : ([9, 10, 32] : List UInt8).contains c = false := hp c (List.mem_reverse.1 (by rw [hcl]; exact List.mem_cons_self ..))
  rw [hcl, List.cons_append, List.dropWhile_cons, hc, if_neg (by decide), ← List.cons_append, ← hcl, List.reverse_append, List.reverse_reverse]
  show (⟨(List.dropWhile _ (32 :: l)).toArray⟩ : ByteArray) = _
  rw [drop_one _ _ _ (by decide), drop_no _ l hp]
theorem worth_trim {s t : ByteArray} (h : trimT s = trimT t) : worthM s = worthM t := by unfold worthM; rw [h]
theorem trim_dec (b : Int) : trimT (decT b) = decT b := by
  obtain ⟨l, hl, hne, h⟩ := dec_list b
  rw [hl]
  exact trim_id l h
theorem worth_sp {b : Int} (h : Rg b) : worthM (spT b) = (mkI b, 0) := by
  rw [worth_trim ((trim_sp b).trans (trim_dec b).symm)]
  exact worth_dec b h
theorem vrcs_at : ∀ (L : List Vr) (i : Nat) (v : Vr), L[i]? = some v → ∀ (j : Nat) (u : Value), (vrcs v)[j]? = some u → (L.flatMap vrcs)[i * 5 + j]? = some u
  | [], i, v, h, j, u, hj => by simp at h
  | x :: L, 0, v, h, j, u, hj => by
    obtain rfl : x = v := by simpa using h
    have hj5 := (List.getElem?_eq_some_iff.1 hj).1
    rw [List.flatMap_cons, List.getElem?_append_left (by simpa using hj5)]
    simpa using hj
  | x :: L, i + 1, v, h, j, u, hj => by
    have e5 : (vrcs x).length = 5 := rfl
    rw [List.flatMap_cons, List.getElem?_append_right (by rw [e5]; omega), e5, show (i + 1) * 5 + j - 5 = i * 5 + j by omega]
    exact vrcs_at L i v (by simpa using h) j u hj
/-- Variables that lie in a block of their own. -/
theorem vat_blk {W : World} {g : Nat} {L : List Vr} (hb : Blk W g 32 (L.flatMap vrcs).toArray) (hl : L.length ≤ 1000) (hs : ∀ v ∈ L, v.name.size ≤ 1000 ∧ v.val.size ≤ 1000) : VAt (fun _ => False) W (some ⟨g, 0, none⟩) L :=
  ⟨by omega, fun v hv => by have := hs v hv; omega, fun _ => ⟨g, 0, rfl, hb.lt, fun h => h, fun i v hi j u hj => by
    have e := hb.cell (0 + i * 5 + j)
    rw [e, Nat.zero_add, List.getElem?_toArray]
    exact vrcs_at L i v hi j u hj⟩⟩
end Go.Proofs.YtjbmpockoicgmaaGreat
/- ArithNames' walk. Condition: the numbers are of 64 bits. -/
namespace Go.Proofs.YtjbmpockoicgmaaGreat
open Go.RowKit Go.Shelf Go.PlainAid
set_option linter.unusedVariables false
set_option linter.unusedSimpArgs false
attribute [local go_sem] Oper.semAt_some
/-- An evaluation whose answer is known, in whatever world behind. -/
theorem ev_in {w : World} {g : Nat} {L : List Vr} (hb : Blk w g 32 (L.flatMap vrcs).toArray) (hl : L.length ≤ 1000) (hz : ∀ v ∈ L, v.name.size ≤ 1000 ∧ v.val.size ≤ 1000) {s : ByteArray} {n e : Int} {S : List (ByteArray × I64)} (hs : s.size ≤ 100000) (hv : evalM s L = (n, S, e)) (W : World) (hbel : Below w.heap.size w W) :
    Calls Tryz.prog 8 #[.string s, .slice (some ⟨g, 0, none⟩) L.length L.length] W fun r w' => ∃ sv, r = .returned (.tuple #[.int .i64 n, sv, .int .i64 e]) ∧ w'.ownsRow 0 37 2 sv S.length (flat scs S) ∧ Below W.heap.size W w' := by
  have h := eval_c W s hs (some ⟨g, 0, none⟩) L.length L (Nat.le_refl _) (vat_blk ((hbel.block g hb.lt).trans hb) hl hz)
  rw [hv] at h
  exact h
theorem flat2 (A B : ByteArray) : (List.flatMap vrcs (two A B)).toArray = #[.string ⟨#[97]⟩, .string A, .bool false, .bool false, .bool false, .string ⟨#[98]⟩, .string B, .bool false, .bool false, .bool false] := rfl
set_option maxRecDepth 100000 in
set_option maxHeartbeats 400000 in
theorem arithNames_w (a b : Int) (w : World) (wa : (Lit.int .i64 a).wf = true) (wb : (Lit.int .i64 b).wf = true) :
    Calls Tryz.prog 5 #[.int .i64 a, .int .i64 b] w fun e w' => e = .returned (.bool true) ∧ Below w.heap.size w w' := by
  have ra := i64_of wa
  have rb := i64_of wb
  have haw := Lib.hid (awake_c w)
  have hdd := Lib.hid (fun (x : Int) (hx : Rg x) (W : World) => decimal_any x hx W)
  have e1 := ev_name ra rb (spT b) (worth_sp rb)
  have e2 := ev_set ra rb (spT b) (worth_sp rb)
  have e3 := ev_less ra rb (spT b) (worth_sp rb)
  have sa := decT_size ra
  have sb := decT_size rb
  have hz2 := spT_size rb
  have hev := Lib.hid (fun (L : List Vr) (hl : L.length ≤ 1000) (hz : ∀ v ∈ L, v.name.size ≤ 1000 ∧ v.val.size ≤ 1000) (w : World) (g : Nat) (hb : Blk w g 32 (L.flatMap vrcs).toArray) (s : ByteArray) (n e : Int) (S : List (ByteArray × I64)) (hv : evalM s L = (n, S, e)) (hs : s.size ≤ 100000) (W : World) (hbel : Below w.heap.size w W) => ev_in hb hl hz hs hv W hbel)
  obtain ⟨EV, hEV⟩ : ∃ EV, evalM = EV := ⟨_, rfl⟩
  rw [hEV] at e1 e2 e3 hev
  clear hEV
  unfold spT at hz2 e1 e2 e3
  obtain ⟨D, hD⟩ : ∃ D, decT = D := ⟨_, rfl⟩
  rw [hD] at sa sb hz2 e1 e2 e3 hdd
  clear hD
  have mb : (mkI b).1 = b := mk_of rb
  have mab : (mkI (a - b)).1 = wrap64 (a - b) := rfl
  obtain ⟨MB, hMB⟩ : ∃ M, mkI b = M := ⟨_, rfl⟩
  obtain ⟨MD, hMD⟩ : ∃ M, mkI (a - b) = M := ⟨_, rfl⟩
  rw [hMB] at mb e2
  rw [hMD] at mab e3
  have l1 : ¬ 9223372036854775807 < 1 + (D b).size := by omega
  have l2 : ¬ 9223372036854775807 < 1 + (D b).size + 1 := by omega
  have hz : ∀ v ∈ two (D a) (⟨#[32]⟩ ++ D b ++ ⟨#[9]⟩), v.name.size ≤ 1000 ∧ v.val.size ≤ 1000 := fun v hv => by
    rcases List.mem_cons.1 hv with rfl | hv
    · exact ⟨show 1 ≤ 1000 by omega, Nat.le_trans sa (by omega)⟩
    · obtain rfl := List.mem_singleton.1 hv
      exact ⟨show 1 ≤ 1000 by omega, Nat.le_trans hz2 (by omega)⟩
  have hzH := Lib.hid hz
  clear hz sa sb hz2
  go_enter Tryz.func5, Tryz.ntmps5
  go_upto_region 4 with (first | (go_at_call 7; refine haw.out.mono ?_; rintro e w1 ⟨rfl, hb1⟩; have hb1H := Lib.hid hb1; clear hb1) | (go_at_call 10; refine (hdd.out _ (by assumption) _).mono ?_; rintro e w2 ⟨rfl, hb2⟩; have hb2H := Lib.hid hb2; clear hb2))
  rename_i w2a hb2aH _ _
  obtain ⟨SB, hSB⟩ : ∃ SB, (⟨#[32]⟩ : ByteArray) ++ D b ++ ⟨#[9]⟩ = SB := ⟨_, rfl⟩
  rw [hSB] at e1 e2 e3 hzH
  rw [hSB]
  have hbl := Blk.new w2 32 #[.string ⟨#[97]⟩, .string (D a), .bool false, .bool false, .bool false, .string ⟨#[98]⟩, .string SB, .bool false, .bool false, .bool false]
  have hbn := Lib.hid ((hb1H.out.trans (hb2aH.out.mono hb1H.out.size)).trans ((hb2H.out.mono (Nat.le_trans hb1H.out.size hb2aH.out.size)).trans ((alB w2 (.cells #[.string ⟨#[97]⟩, .string (D a), .bool false, .bool false, .bool false, .string ⟨#[98]⟩, .string SB, .bool false, .bool false, .bool false] 32)).mono (Nat.le_trans hb1H.out.size (Nat.le_trans hb2aH.out.size hb2H.out.size)))))
  obtain ⟨G, hG⟩ : ∃ G, w2.heap.size = G := ⟨_, rfl⟩
  rw [hG] at hbl
  rw [hG]
  obtain ⟨w3, hw3⟩ : ∃ w3, w2.alloc (.cells #[.string ⟨#[97]⟩, .string (D a), .bool false, .bool false, .bool false, .string ⟨#[98]⟩, .string SB, .bool false, .bool false, .bool false] 32) = w3 := ⟨_, rfl⟩
  rw [hw3] at hbl hbn
  rw [hw3]
  have hE := Lib.hid (hev.out (two (D a) SB) (by show 2 ≤ 1000; omega) hzH.out w3 G (by rw [flat2]; exact hbl))
  clear hev hbl hw3 hG
  have hcur := Lib.hid (Below.refl w3.heap.size w3)
  go_wp2_with (first
    | (go_at_call 8; refine (hE.out _ _ _ _ e3 (by decide) _ hcur5.out).mono ?_; rintro r w6 ⟨sv, rfl, hrow, hb⟩; obtain ⟨a3, c3, rfl, _, hcell⟩ := set_of_row hrow; obtain ⟨g3, rfl, hg3⟩ := hcell (by simp); have hcur6 := Lib.hid (hcur5.out.trans (hb.mono hcur5.out.size));
       have q0 : w6.cell? ⟨g2, 0, none⟩ = some (.string ⟨#[97]⟩) := (hb.cell (block_of_cell (hg2H.out 0 _ rfl).1)).trans (hg2H.out 0 _ rfl).1; have q1 : w6.cell? ⟨g2, 1, none⟩ = some (.int .i64 MB.1) := (hb.cell (block_of_cell (hg2H.out 0 _ rfl).2)).trans (hg2H.out 0 _ rfl).2;
       have q2 : w6.cell? ⟨g2, 2, none⟩ = some (.string ⟨#[98]⟩) := (hb.cell (block_of_cell (hg2H.out 1 _ rfl).1)).trans (hg2H.out 1 _ rfl).1; have q3 : w6.cell? ⟨g2, 3, none⟩ = some (.int .i64 MB.1) := (hb.cell (block_of_cell (hg2H.out 1 _ rfl).2)).trans (hg2H.out 1 _ rfl).2;
       have r0 : w6.cell? ⟨g3, 0, none⟩ = some (.string ⟨#[97]⟩) := (hg3 0 _ rfl).1; have r1 : w6.cell? ⟨g3, 1, none⟩ = some (.int .i64 MD.1) := (hg3 0 _ rfl).2; rw [mb] at q1 q3; rw [mab] at r1;
       clear hrow hb hcell hg3)
    | (go_at_call 8; refine (hE.out _ _ _ _ e2 (by decide) _ hcur4.out).mono ?_; rintro r w5 ⟨sv, rfl, hrow, hb⟩; obtain ⟨a2, c2, rfl, _, hcell⟩ := set_of_row hrow; obtain ⟨g2, rfl, hg2⟩ := hcell (by simp); have hcur5 := Lib.hid (hcur4.out.trans (hb.mono hcur4.out.size)); have hg2H := Lib.hid hg2; clear hrow hb hcell hg2)
    | (go_at_call 8; refine (hE.out _ _ _ _ e1 (by decide) _ hcur.out).mono ?_; rintro r w4 ⟨sv, rfl, hrow, hb⟩; obtain ⟨a1, c1, rfl⟩ := row_ge0 hrow; have hcur4 := Lib.hid (hcur.out.trans (hb.mono hcur.out.size)); clear hrow hb))
  go_ret
  exact ⟨rfl, hbn.out.trans (hcur6.out.mono hbn.out.size)⟩
end Go.Proofs.YtjbmpockoicgmaaGreat
