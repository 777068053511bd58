/- The maker of fields in memory; the contracts of tooMuch and end. No condition but lengths. -/
import Derived.Test.YtlaidmjlgjpgcaaSplM
import Derived.WalkSpells
import Derived.WalkLawsBesides
import Derived.Deep.Draws
import Derived.WalkSmall
import Derived.Deep.RegionHeld3
import Derived.Deep.AppendLies
import Derived.StillTactics
import Derived.OwnWalk
import Derived.Laws.Pointers
import Derived.RangeFuncBox
import Derived.RangeFuncNested
import Derived.Maps.AppendAt
namespace Go.Proofs.Ytlaidmjlgjpgcaa
open Go.RowKit

def chv (f : List Ch) : List Value := f.flatMap fun c => [.int .u8 (c.1.toNat : Int), .bool c.2]
theorem chv_len (f : List Ch) : (chv f).length = f.length * 2 := by
  unfold chv; induction f with
  | nil => rfl
  | cons c f ih => rw [List.flatMap_cons, List.length_append, ih, List.length_cons]; simp; omega
theorem chv_snoc (f : List Ch) (c : Ch) : chv (f ++ [c]) = chv f ++ [.int .u8 (c.1.toNat : Int), .bool c.2] := by unfold chv; simp

/-- Its fields' slices, each apart from the field at hand. -/
def SlAt (n₀ : Nat) (fs : List (List Ch)) (vc : Value) (sl : List Value) (w : World) : Prop :=
  sl.length = fs.length ∧ ∀ (j : Nat) (v : Value) (f : List Ch), sl[j]? = some v → fs[j]? = some f → w.ownsRow n₀ 33 2 v f.length (chv f) ∧ (∀ g, v.ownBlock = some g → vc.ownBlock ≠ some g)

structure MkAt (n₀ mb : Nat) (m : Mk) (vf vc : Value) (sl : List Value) (w : World) : Prop where
  c0 : w.cell? ⟨mb, 0, none⟩ = some vf
  c1 : w.cell? ⟨mb, 1, none⟩ = some vc
  c2 : w.cell? ⟨mb, 2, none⟩ = some (.bool m.b)
  c3 : w.cell? ⟨mb, 3, none⟩ = some (.bool m.s)
  fz : ∀ o, w.frozen? ⟨mb, o, none⟩ = false
  ty : ∃ cs fr, w.heap[mb]? = some (.cells cs 65 fr)
  hb : n₀ ≤ mb
  rf : w.ownsRow n₀ 22 1 vf m.fs.length sl
  rc : w.ownsRow n₀ 33 2 vc m.f.length (chv m.f)
  sls : SlAt n₀ m.fs vc sl w

/-- What a call of the maker's leaves. -/
structure Keep (n₀ mb : Nat) (w w' : World) : Prop where
  bel : Below n₀ w w'
  oth : KeepsOthers w w'
  far : ∀ B cs t fr, w.heap[B]? = some (.cells cs t fr) → t ≠ 33 → t ≠ 22 → B ≠ mb → w'.heap[B]? = w.heap[B]?
theorem Keep.refl {n₀ mb : Nat} (w : World) : Keep n₀ mb w w := ⟨Below.refl _ _, KeepsOthers.refl _, fun _ _ _ _ _ _ _ _ => rfl⟩
theorem Keep.trans {n₀ mb : Nat} {a b c : World} (h : Keep n₀ mb a b) (k : Keep n₀ mb b c) : Keep n₀ mb a c :=
  ⟨h.bel.trans k.bel, h.oth.trans k.oth, fun B cs t fr hB h1 h2 h3 => by
    have e := h.far B cs t fr hB h1 h2 h3
    exact (k.far B cs t fr (e.trans hB) h1 h2 h3).trans e⟩
theorem Keep.alloc {n₀ mb : Nat} (w : World) (hn : n₀ ≤ w.heap.size) (o : Obj) : Keep n₀ mb w (w.alloc o) :=
  ⟨(Below.refl _ _).alloc hn _, KeepsOthers.alloc _ _, fun _ _ _ _ hB _ _ _ => Below.heap_alloc _ _ _ (Array.getElem?_eq_some_iff.1 hB).1⟩
theorem Keep.drew {n₀ mb : Nat} (w : World) : Keep n₀ mb w w.drew := ⟨(Below.refl _ _).drew, KeepsOthers.drew _, fun _ _ _ _ _ _ _ _ => rfl⟩
theorem Keep.set {n₀ mb : Nat} (w : World) (hb : n₀ ≤ mb) (o : Nat) (v : Value) : Keep n₀ mb w (w.setCell ⟨mb, o, none⟩ v) :=
  ⟨(Below.refl _ _).setCell (p := ⟨mb, o, none⟩) hb _, KeepsOthers.setCell _ _ _, fun _ _ _ _ _ _ _ h => Below.heap_setCell _ _ _ _ (by simpa using h)⟩

theorem row_ne {W : World} {B : Nat} {cs : Array Value} {t e : TypeId} {fr : Nat × Nat} (h : W.heap[B]? = some (.cells cs t fr)) (hte : t ≠ e) {base size k : Nat} {v : Value} {xs : List Value} (hr : W.ownsRow base e size v k xs) : some B ≠ v.ownBlock := by
  rcases hr.2 with ⟨rfl, _⟩ | ⟨g, cap, cur, rfl, _, hg, _⟩
  · simp [Value.ownBlock]
  · intro e2
    obtain rfl : B = g := by simpa [Value.ownBlock] using e2
    rw [h] at hg
    simp at hg
    exact hte hg.2.1

theorem Keep.grown {n₀ mb : Nat} {w w' : World} {e : TypeId} {size k base : Nat} {v : Value} {xs : List Value} (hr : w.ownsRow base e size v k xs) (hn : n₀ ≤ base) (he : e = 33 ∨ e = 22) (hg : w.grownBy w' v.ownBlock) (hs : n₀ ≤ w.heap.size) : Keep n₀ mb w w' := by
  refine ⟨(Below.refl _ _).grown hg hs (fun j ej => Nat.le_trans hn (hr.lt j ej).1), KeepsOthers.of_grownBy hg (fun j o ej hj => ?_), fun B cs t fr hB h1 h2 _ => hg.block B (Array.getElem?_eq_some_iff.1 hB).1 (row_ne hB (by rcases he with rfl | rfl <;> assumption) hr)⟩
  rcases hr.2 with ⟨rfl, _⟩ | ⟨g, cap, cur, rfl, _, hgb, _⟩
  · simp [Value.ownBlock] at ej
  · obtain rfl : g = j := by simpa [Value.ownBlock] using ej
    rw [hgb] at hj; cases hj; rfl

theorem ownsRow_slice {w : World} {M : Nat} {e : TypeId} {size : Nat} {v : Value} {n : Nat} {xs : List Value} (h : w.ownsRow M e size v n xs) : ∃ a c, v = .slice a n c := by
  rcases h.2 with ⟨rfl, rfl⟩ | ⟨g, cap, _, rfl, _⟩
  · exact ⟨none, 0, rfl⟩
  · exact ⟨_, cap, rfl⟩

theorem ret_bool {a b : Bool} (h : a = b) : Ending.returned (.bool a) = .returned (.bool b) := by rw [h]

set_option maxHeartbeats 1000000 in
theorem tooMuch_any {n₀ mb : Nat} {m : Mk} {vf vc : Value} {sl : List Value} (w : World) (h : MkAt n₀ mb m vf vc sl w) :
    Calls Try.prog 42 #[.pointer (some ⟨mb, 0, none⟩)] w fun e w' => e = .returned (.bool m.big) ∧ w = w' := by
  obtain ⟨a, c, rfl⟩ := ownsRow_slice h.rf
  obtain ⟨a2, c2, rfl⟩ := ownsRow_slice h.rc
  have h0 := h.c0
  have h1 := h.c1
  have hbig : Hid (m.big = (decide (200 < m.fs.length) || decide (4096 < m.f.length))) := Lib.hid rfl
  clear h
  by_cases g1 : (200 : Int) < m.fs.length
  · have e1 : Hid (m.big = true) := Lib.hid (by rw [hbig.out, decide_eq_true (by omega)]; rfl)
    go_enter Try.func42, Try.ntmps42
    go_wp2
    go_ret
    exact ⟨ret_bool e1.out.symm, rfl⟩
  · by_cases g2 : (4096 : Int) < m.f.length
    · have e1 : Hid (m.big = true) := Lib.hid (by rw [hbig.out, decide_eq_true (p := 4096 < _) (by omega)]; simp)
      go_enter Try.func42, Try.ntmps42
      go_wp2
      go_ret
      exact ⟨ret_bool e1.out.symm, rfl⟩
    · have e1 : Hid (m.big = false) := Lib.hid (by rw [hbig.out, decide_eq_false (by omega), decide_eq_false (by omega)]; rfl)
      go_enter Try.func42, Try.ntmps42
      go_wp2
      go_ret
      exact ⟨ret_bool e1.out.symm, rfl⟩
end Go.Proofs.Ytlaidmjlgjpgcaa
