/- nothing, one, spansOf. No condition. -/
import Derived.Test.YtlaidmjlgjpgcaaPatA
namespace Go.Proofs.Ytlaidmjlgjpgcaa
open Go.RowKit
attribute [local go_sem] Oper.semAt_some

def spV (s : Sp) : Value := .agg #[.int .u8 (s.a.toNat : Int), .int .u8 (s.b.toNat : Int)]
def memC (m : Mem) : Array Value := #[.int .u8 (m.1.a.toNat : Int), .int .u8 (m.1.b.toNat : Int), .int .u8 (m.2.1.a.toNat : Int), .int .u8 (m.2.1.b.toNat : Int), .int .u8 (m.2.2.a.toNat : Int), .int .u8 (m.2.2.b.toNat : Int)]

def memV (m : Mem) : Value := .agg (memC m)
set_option maxHeartbeats 1000000 in
theorem nothing_any (w : World) : Calls Try.prog 67 #[] w fun e w' => e = .returned (.agg #[.int .u8 1, .int .u8 0]) ∧ Below w.heap.size w w' := by
  go_enter Try.func67, Try.ntmps67
  go_wp2_with fail
  exact bodyPost_ret (v := .agg #[.int .u8 1, .int .u8 0]) (by simp [results, Try.f67, go_sem]) rfl ⟨rfl, (Below.refl _ _).alloc (Nat.le_refl _) _⟩

theorem nothing_b {B : Nat} {W0 W : World} (h : Below B W0 W) (hB : B ≤ W0.heap.size) : Calls Try.prog 67 #[] W fun e w' => e = .returned (.agg #[.int .u8 1, .int .u8 0]) ∧ Below B W0 w' :=
  (nothing_any W).mono fun _ _ ⟨h1, h2⟩ => ⟨h1, h.trans (h2.mono (Nat.le_trans hB h.size))⟩

theorem six_cells {W : World} {g : Nat} {t : TypeId} {a b c d e f : Value} (h : Blk W g t #[a, b, c, d, e, f]) :
    (W.cell? ⟨g, 0, none⟩ = some a ∧ W.cell? ⟨g, 1, none⟩ = some b ∧ W.cell? ⟨g, 2, none⟩ = some c ∧ W.cell? ⟨g, 3, none⟩ = some d ∧ W.cell? ⟨g, 4, none⟩ = some e ∧ W.cell? ⟨g, 5, none⟩ = some f) ∧
    (W.frozen? ⟨g, 0, none⟩ = false ∧ W.frozen? ⟨g, 1, none⟩ = false ∧ W.frozen? ⟨g, 2, none⟩ = false ∧ W.frozen? ⟨g, 3, none⟩ = false ∧ W.frozen? ⟨g, 4, none⟩ = false ∧ W.frozen? ⟨g, 5, none⟩ = false) :=
  ⟨⟨h.cell 0, h.cell 1, h.cell 2, h.cell 3, h.cell 4, h.cell 5⟩, h.frozen 0, h.frozen 1, h.frozen 2, h.frozen 3, h.frozen 4, h.frozen 5⟩

def set6 (W : World) (g : Nat) (a b c d e f : Value) : World := (((((W.setCell ⟨g, 0, none⟩ a).setCell ⟨g, 1, none⟩ b).setCell ⟨g, 2, none⟩ c).setCell ⟨g, 3, none⟩ d).setCell ⟨g, 4, none⟩ e).setCell ⟨g, 5, none⟩ f
theorem set6_blk {W : World} {g : Nat} {t : TypeId} {a b c d e f a' b' c' d' e' f' : Value} (h : Blk W g t #[a', b', c', d', e', f']) : Blk (set6 W g a b c d e f) g t #[a, b, c, d, e, f] :=
  (((((h.set_ 0 a).set_ 1 b).set_ 2 c).set_ 3 d).set_ 4 e).set_ 5 f
theorem set6_below {B : Nat} {w W : World} {g : Nat} (h : Below B w W) (hg : B ≤ g) (a b c d e f : Value) : Below B w (set6 W g a b c d e f) :=
  (((((h.setCell (p := ⟨g, 0, none⟩) hg _).setCell (p := ⟨g, 1, none⟩) hg _).setCell (p := ⟨g, 2, none⟩) hg _).setCell (p := ⟨g, 3, none⟩) hg _).setCell (p := ⟨g, 4, none⟩) hg _).setCell (p := ⟨g, 5, none⟩) hg _
theorem set6_grown {w W : World} {g : Nat} (h : w.grownBy W (some g)) (a b c d e f : Value) : w.grownBy (set6 W g a b c d e f) (some g) :=
  only_setCell (only_setCell (only_setCell (only_setCell (only_setCell (only_setCell h 0 a) 1 b) 2 c) 3 d) 4 e) 5 f

def z6 : Array Value := #[.int .u8 0, .int .u8 0, .int .u8 0, .int .u8 0, .int .u8 0, .int .u8 0]
set_option maxHeartbeats 1000000 in
set_option maxRecDepth 100000 in
theorem one_any (s : Sp) (w : World) : Calls Try.prog 65 #[spV s] w fun e w' => e = .returned (memV (oneM s)) ∧ Below w.heap.size w w' := by
  obtain ⟨a, ha⟩ : ∃ a, s.a.toNat = a := ⟨_, rfl⟩
  obtain ⟨b, hb⟩ : ∃ b, s.b.toNat = b := ⟨_, rfl⟩
  have hv : Hid (memV (oneM s) = .agg #[.int .u8 (a : Int), .int .u8 (b : Int), .int .u8 1, .int .u8 0, .int .u8 1, .int .u8 0]) := Lib.hid (by rw [← ha, ← hb]; rfl)
  rw [hv.out]
  unfold spV
  rw [ha, hb]
  obtain ⟨W0, hW0⟩ : ∃ W0, (w.alloc (.cells #[.int .u8 (a : Int), .int .u8 (b : Int)] 87)).alloc (.cells z6 100) = W0 := ⟨_, rfl⟩
  have h1 : Hid (Blk W0 w.heap.size 87 #[.int .u8 (a : Int), .int .u8 (b : Int)]) := Lib.hid (by rw [← hW0]; exact (Blk.new _ _ _).alloc _)
  have h2 : Hid (Blk W0 (w.heap.size + 1) 100 #[.int .u8 0, .int .u8 0, .int .u8 0, .int .u8 0, .int .u8 0, .int .u8 0]) := Lib.hid (by
    rw [← hW0]
    have h := Blk.new (w.alloc (.cells #[.int .u8 (a : Int), .int .u8 (b : Int)] 87)) 100 z6
    rw [World.size_alloc] at h; exact h)
  have hsz : W0.heap.size ≤ w.heap.size + 2 := by rw [← hW0]; simp
  have hsz2 : w.heap.size + 2 ≤ W0.heap.size := by rw [← hW0]; simp
  have hB0 : Hid (Below w.heap.size w W0) := Lib.hid (by rw [← hW0]; exact ((Below.refl _ _).alloc (Nat.le_refl _) _).alloc (by simp) _)
  have hS : Hid (∀ W, Below W0.heap.size W0 W → W.cell? ⟨w.heap.size, 0, none⟩ = some (.int .u8 (a : Int)) ∧ W.cell? ⟨w.heap.size, 1, none⟩ = some (.int .u8 (b : Int))) := Lib.hid (fun W hW => by
    have hb : Blk W w.heap.size 87 #[.int .u8 (a : Int), .int .u8 (b : Int)] := (hW.block _ (by omega)).trans h1.out
    exact ⟨hb.cell 0, hb.cell 1⟩)
  have hQ : Hid (∀ W, Below W0.heap.size W0 W → Blk W (w.heap.size + 1) 100 #[.int .u8 0, .int .u8 0, .int .u8 0, .int .u8 0, .int .u8 0, .int .u8 0]) := Lib.hid (fun W hW => (hW.block _ (by omega)).trans h2.out)
  have hW0H := Lib.hid hW0
  clear ha hb hv hW0
  go_enter Try.func65, Try.ntmps65
  go_upto_region 1 with fail
  rw [show (w.alloc (.cells #[.int .u8 (a : Int), .int .u8 (b : Int)] 87)).alloc (.cells #[.int .u8 0, .int .u8 0, .int .u8 0, .int .u8 0, .int .u8 0, .int .u8 0] 100) = W0 from hW0H.out]
  obtain ⟨c0, c1⟩ := hS.out _ (Below.refl _ _)
  go_region_with ((first | (go_at_call 67; refine (nothing_b hb5 (Nat.le_refl _)).mono ?_; rintro e w6 ⟨rfl, hb6⟩; obtain ⟨⟨k0, k1, k2, k3, k4, k5⟩, f0, f1, f2, f3, f4, f5⟩ := six_cells (hQ.out _ hb6); obtain ⟨d2, d3⟩ := hS.out _ hb6) | (go_at_call 67; refine (nothing_b (Below.refl _ _).drew (Nat.le_refl _)).mono ?_; rintro e w5 ⟨rfl, hb5⟩; obtain ⟨d0, d1⟩ := hS.out _ hb5)))
  all_goals
    obtain ⟨X, hX⟩ : ∃ X, set6 w6 (w.heap.size + 1) (.int .u8 (a : Int)) (.int .u8 (b : Int)) (.int .u8 1) (.int .u8 0) (.int .u8 1) (.int .u8 0) = X := ⟨_, rfl⟩
    have hXb := set6_blk (a := .int .u8 (a : Int)) (b := .int .u8 (b : Int)) (c := .int .u8 1) (d := .int .u8 0) (e := .int .u8 1) (f := .int .u8 0) (hQ.out _ hb6)
    have hXB : Below w.heap.size w X := by rw [← hX]; exact set6_below (hB0.out.trans (hb6.mono (by omega))) (by omega) _ _ _ _ _ _
    rw [hX] at hXb
    unfold set6 at hX
    rw [hX]
    have hXBH := Lib.hid hXB
    obtain ⟨⟨q0, q1, q2, q3, q4, q5⟩, _⟩ := six_cells hXb
    clear hX hXb hXB
    go_wp2_with fail
    exact bodyPost_ret (v := .agg #[.int .u8 (a : Int), .int .u8 (b : Int), .int .u8 1, .int .u8 0, .int .u8 1, .int .u8 0]) (by simp [results, Try.f65, go_sem, q0, q1, q2, q3, q4, q5]) rfl ⟨rfl, hXBH.out⟩
end Go.Proofs.Ytlaidmjlgjpgcaa
