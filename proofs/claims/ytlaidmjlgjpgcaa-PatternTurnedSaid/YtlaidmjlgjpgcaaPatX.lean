/- Literal patterns; a pattern that came in. No condition. -/
import Derived.Test.YtlaidmjlgjpgcaaPatU
import Derived.Test.YtlaidmjlgjpgcaaPatV
import Derived.Test.YtlaidmjlgjpgcaaSplP
namespace Go.Proofs.Ytlaidmjlgjpgcaa
open Go.ChangeShapes Go.WideShapes Go.RowKit Go.Deep

def pA : List Ch := [(97, false), (42, false), (91, false), (98, false), (45, false), (100, false), (93, false)]
def pB : List Ch := [(91, false), (33, false), (97, false), (93, false)]
def pC : List Ch := [(42, false), (46, false)]
theorem pA_of : ofL [97, 42, 91, 98, 45, 100, 93] = pA := by unfold pA; rw [ofL_plain (by decide), ofL_plain (by decide), ofL_plain (by decide), ofL_plain (by decide), ofL_plain (by decide), ofL_plain (by decide)]; rfl
theorem pB_of : ofL [91, 33, 97, 93] = pB := by unfold pB; rw [ofL_plain (by decide), ofL_plain (by decide), ofL_plain (by decide)]; rfl
theorem pC_of : ofL [42, 46] = pC := by unfold pC; rw [ofL_plain (by decide)]; rfl
theorem cls_not {p : List Ch} {i : Nat} (h : isAt p i 91 = false) : clsAt p i = none := find_none fun _ he => cls_open (.inl h) he
theorem brkA : brk pA 3 = (fun c => false || inMem (oneM ⟨98, 100⟩) c, 6) := by
  unfold brk
  rw [mems_cons (by decide) (.inl rfl), memP_span (x := (98, false)) (y := (100, false)) (cls_not (by decide)) (by decide) (by decide) (by decide) rfl rfl, mems_nil (.inr ⟨by decide, by decide⟩)]
  rfl
theorem brkB : brk pB 2 = (fun c => false || inMem (oneM ⟨97, 97⟩) c, 3) := by
  unfold brk
  rw [mems_cons (by decide) (.inl rfl), memP_one (x := (97, false)) (cls_not (by decide)) (by decide) rfl, mems_nil (.inr ⟨by decide, by decide⟩)]
  rfl
theorem brA_A : brAt pA 2 = some (fun c => (false || inMem (oneM ⟨98, 100⟩) c) != false, 7) := by
  unfold brAt
  rw [show brA pA 2 = 3 by decide, brkA]
  rfl
theorem brA_B : brAt pB 0 = some (fun c => (false || inMem (oneM ⟨97, 97⟩) c) != true, 4) := by
  unfold brAt
  rw [show brA pB 0 = 2 by decide, brkB]
  rfl
/-- a*[b-d] matches axxc. -/
theorem aw1 : Mat (els pA 0) [97, 120, 120, 99] := by
  rw [els_cons (by decide), elAt_plain (x := (97, false)) rfl rfl, els_cons (by decide), elAt_plain (x := (42, false)) rfl rfl, els_cons (by decide), elAt_br (by decide) (by decide) (by decide) brA_A, els_nil (by decide)]
  exact (mat_set rfl).2 ⟨97, _, rfl, rfl, (mat_star rfl).2 ⟨2, by decide, (mat_set rfl).2 ⟨99, [], rfl, rfl, rfl⟩⟩⟩
/-- [!a] doesn't match a. -/
theorem aw2 : ¬ Mat (els pB 0) [97] := by
  rw [els_cons (by decide), elAt_br (by decide) (by decide) (by decide) brA_B, els_nil (by decide), mat_set rfl]
  rintro ⟨c, t, e, h, _⟩
  obtain ⟨rfl, -⟩ := List.cons.inj e
  cases h
theorem elsC : els pC 0 = [el1 (42, false), el1 (46, false)] := by
  rw [els_cons (by decide), elAt_plain (x := (42, false)) rfl rfl, els_cons (by decide), elAt_plain (x := (46, false)) rfl rfl, els_nil (by decide)]
theorem matC {s : List UInt8} (h : Mat (els pC 0) s) : ∃ c, s[s.length - 1]? = some c ∧ c = 46 := by
  rw [elsC, mat_star rfl] at h
  obtain ⟨j, hj, h⟩ := h
  rw [mat_set rfl] at h
  obtain ⟨c, t, e, hS, ht⟩ := h
  rw [mat_nil] at ht
  subst ht
  have hl := congrArg List.length e
  rw [List.length_drop, List.length_singleton] at hl
  have h0 : (s.drop j)[0]? = some c := by rw [e]; rfl
  rw [List.getElem?_drop] at h0
  refine ⟨c, by rw [show s.length - 1 = j + 0 by omega]; exact h0, ?_⟩
  exact beq_iff_eq.1 hS
/-- *. taken from the beginning of a.b.c leaves b.c. -/
theorem aw3 : CutP (MatB pC) ⟨#[97, 46, 98, 46, 99]⟩ false false ⟨#[98, 46, 99]⟩ := by
  refine .inl ⟨2, by decide, ?_, fun i hi => ?_, by decide⟩
  · show Mat (els pC 0) _
    rw [elsC]
    rw [show (tak ⟨#[97, 46, 98, 46, 99]⟩ false (lenAt (⟨#[97, 46, 98, 46, 99]⟩ : ByteArray).size false 2)).data.toList = [97, 46] by decide]
    exact (mat_star rfl).2 ⟨1, by decide, (mat_set rfl).2 ⟨46, [], rfl, rfl, rfl⟩⟩
  · intro h
    obtain ⟨c, h1, rfl⟩ := matC h
    have : i = 0 ∨ i = 1 := by omega
    rcases this with rfl | rfl
    · revert h1; decide
    · revert h1; decide

theorem pair {α : Type} {l : List α} (h : l.length = 2) : ∃ a b, l = [a, b] := by
  match l, h with
  | [a, b], _ => exact ⟨a, b, rfl⟩
def ChCells (w : World) (a : Addr) (x : Ch) : Prop := w.cell? a = some (.int .u8 (x.1.toNat : Int)) ∧ w.cell? (a.add 1) = some (.bool x.2)
theorem open_ch {H : Type} {enc : TypeId × Value → H} {P : Program} {w : World} {base : Nat} {spare : Nat → Bool} {held : Bool} {e : TypeId} {f0 f1 : Field} (he : P.underlying e = some (.struct #[f0, f1])) (hone : oneCellFields P #[f0, f1] = true) (hC : P.cellsOf e = 2)
    (h0 : P.underlying f0.type = some (.int .u8)) (h1 : P.underlying f1.type = some .bool) {n : Nat} {a : Addr} {cs : List Value} {y : DataW H × List MemPlace}
    (hc : w.cells? base a 2 = some cs) (ht : DataW.trod enc P w base spare held n e cs = some y) : ∃ x : Ch, ChCells w a x := by
  obtain ⟨xs, m, _, rfl, hl, hxl, hf⟩ := DataW.trod_struct he ht
  obtain ⟨_, _, hat⟩ := World.cells?_some hc
  obtain ⟨v0, v1, rfl⟩ := pair (hl.trans hC)
  obtain ⟨y0, y1, rfl⟩ := pair (l := xs) hxl
  obtain ⟨o0, k0⟩ := hone_of hone 0 f0 rfl
  obtain ⟨o1, k1⟩ := hone_of hone 1 f1 rfl
  have g0 := hf 0 f0 rfl
  have g1 := hf 1 f1 rfl
  rw [o0, k0] at g0
  rw [o1, k1] at g1
  obtain ⟨z, e0, rfl, hz⟩ := DataW.trod_int h0 (g0 : DataW.trod enc P w base spare held m f0.type [v0] = some y0)
  obtain ⟨b1, e1, rfl⟩ := DataW.trod_bool h1 (g1 : DataW.trod enc P w base spare held m f1.type [v1] = some y1)
  obtain rfl : v0 = .int .u8 z := by simpa using e0
  obtain rfl : v1 = .bool b1 := by simpa using e1
  have a0 := hat 0 (by decide)
  have hz1 : (0 : Int) ≤ z ∧ z ≤ 255 := by
    rw [Lit.wf, Bool.and_eq_true, decide_eq_true_iff, decide_eq_true_iff] at hz
    exact hz
  have hz2 : 0 ≤ z ∧ z < 256 := by omega
  refine ⟨(UInt8.ofNat z.toNat, b1), ?_, hat 1 (by decide)⟩
  have hsp : a.spot = none := by simpa [Addr.add] using World.cell?_spot a0
  obtain ⟨b, o, sp⟩ := a
  obtain rfl : sp = none := hsp
  have e : (((UInt8.ofNat z.toNat).toNat : Nat) : Int) = z := by
    rw [UInt8.toNat_ofNat', Nat.mod_eq_of_lt (by omega)]; omega
  show _ = some (Value.int .u8 (((UInt8.ofNat z.toNat).toNat : Nat) : Int))
  rw [e]
  exact a0
theorem open_chs {H : Type} {enc : TypeId × Value → H} {P : Program} {w : World} {spare : Nat → Bool} {held : Bool} {t e : TypeId} {f0 f1 : Field} (ht : P.underlying t = some (.slice e)) (he : P.underlying e = some (.struct #[f0, f1])) (hone : oneCellFields P #[f0, f1] = true) (hC : P.cellsOf e = 2)
    (h0 : P.underlying f0.type = some (.int .u8)) (h1 : P.underlying f1.type = some .bool) {A : Option Addr} {len cap : Nat} {d : DataW H} {p : List MemPlace}
    (h : DataW.Trod enc P w 0 spare held t (.slice A len cap) d p) :
    ∃ ps : List Ch, ps.length = len ∧ ChsAt w.heap.size w A ps ∧ (A = none → cap = 0) ∧ len ≤ maxLen ∧ (len = 0 ∨ ∃ el sp, d = .slice el sp ∧ el.length = len) := by
  obtain ⟨fuel, hf⟩ := h
  rcases open_slice ht hf with ⟨hcs, _⟩ | ⟨a, l, c, m, n, D, Pl, hcs, _, hl, hm, hmm, hx, hi⟩
  · simp [Value.cells] at hcs
    obtain ⟨rfl, rfl, rfl⟩ := hcs
    exact ⟨[], rfl, fun i t hi => by simp at hi, fun _ => rfl, Nat.zero_le _, .inl rfl⟩
  · simp [Value.cells] at hcs
    obtain ⟨rfl, rfl, rfl⟩ := hcs
    have hlm : len ≤ m := by rw [hmm]; split <;> omega
    have hex : ∀ i, ∃ q : Ch, i < len → ChCells w (a.add (i * 2)) q := fun i => by
      by_cases hil : i < len
      · obtain ⟨cs', hc, hy⟩ := hi i (by omega)
        rw [hC] at hc
        obtain ⟨q, h3⟩ := open_ch he hone hC h0 h1 hc hy
        exact ⟨q, fun _ => h3⟩
      · exact ⟨(0, false), fun h => absurd h hil⟩
    refine ⟨(List.range len).map fun i => Classical.choose (hex i), by simp, fun i q hq => ?_, fun h => (by cases h), by omega, .inr ⟨_, _, (Prod.mk.inj hx).1, by simp⟩⟩
    have hil : i < len := by have := (List.getElem?_eq_some_iff.1 hq).1; simpa using this
    have hspec := Classical.choose_spec (hex i) hil
    rw [List.getElem?_map, List.getElem?_range hil] at hq
    have hqe : Classical.choose (hex i) = q := by simpa using hq
    rw [hqe] at hspec
    obtain ⟨k0, k1⟩ := hspec
    have hsp : a.spot = none := by
      have z := (Classical.choose_spec (hex 0) (by omega)).1
      simpa [Addr.add] using World.cell?_spot z
    rw [at_plain _ _ hsp] at k0 k1
    rw [Lib.add_plain] at k1
    refine ⟨a.block, a.off, ?_, blk_lt k0, k0, k1⟩
    obtain ⟨b, o, sp⟩ := a
    obtain rfl : sp = none := hsp
    rfl
theorem sized_chs {H : Type} {P : Program} {ts : List TypeId} {ds : List (DataW H)} (h : (DataW.weightsEach P ts ds).all (· ≤ reachBytes) = true) {j : Nat} {t e : TypeId} {len : Nat} {d : DataW H} (ht : ts[j]? = some t) (hd : ds[j]? = some d) (hu : P.underlying t = some (.slice e))
    (hd' : len = 0 ∨ ∃ el sp, d = .slice el sp ∧ el.length = len) : len * P.bytesOf e ≤ reachBytes := by
  rcases hd' with rfl | ⟨el, sp, rfl, rfl⟩
  · simp
  · exact Nat.le_trans (Nat.mul_le_mul_right _ (Nat.le_add_right _ _)) (sized_slice h ht hd hu)
end Go.Proofs.Ytlaidmjlgjpgcaa
