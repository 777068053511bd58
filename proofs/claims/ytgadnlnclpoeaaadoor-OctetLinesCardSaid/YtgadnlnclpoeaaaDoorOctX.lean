/- What the loops of the law OctetLines keep. No condition. -/
import Derived.Test.YtgadnlnclpoeaaaDoorOctU
namespace Go.Proofs.YtgadnlnclpoeaaaDoor
open Go.RowKit Go.Shelf Go.PlainAid

/-- The law's own cells, which its loops leave as they are. -/
structure Rst (n₀ b2 : Nat) (s : ByteArray) (stop : Int) (b5 : Nat) (vw : Value) (L : List Line) (W : World) : Prop where
  s2 : Boxed W b2 9 (.string s)
  s3 : Boxed W (b2 + 1) 3 (.int .i64 stop)
  s4 : Boxed W (b2 + 2) 4 (.bool false)
  s5 : Boxed W b5 33 vw
  sn : Boxed W (b5 + 1) 9 (.string s)
  rw : W.ownsRow n₀ 9 1 vw L.length (svals L)

theorem Rst.own {n₀ b2 : Nat} {s : ByteArray} {stop : Int} {b5 : Nat} {vw : Value} {L : List Line} : Own (fun (_ : List Line) W => Rst n₀ b2 s stop b5 vw L W) := by
  rintro q X Y row ⟨h1, h2, h3, h4, hn, h5⟩ hg hrow
  exact ⟨boxed_own (β := Unit) _ _ (fun _ => _) () X Y row h1 hg hrow, boxed_own (β := Unit) _ _ (fun _ => _) () X Y row h2 hg hrow, boxed_own (β := Unit) _ _ (fun _ => _) () X Y row h3 hg hrow, boxed_own (β := Unit) _ _ (fun _ => _) () X Y row h4 hg hrow, boxed_own (β := Unit) _ _ (fun _ => _) () X Y row hn hg hrow, ownsRow_own (β := Unit) n₀ 9 1 vw _ _ () X Y row h5 hg hrow⟩

theorem Rst.kept {n₀ b2 : Nat} {s : ByteArray} {stop : Int} {b5 : Nat} {vw : Value} {L : List Line} {W W' : World} {row : Option Nat} (h : Rst n₀ b2 s stop b5 vw L W) (hg : W.grownBy W' row)
    (h2 : some b2 ≠ row) (h3 : some (b2 + 1) ≠ row) (h4 : some (b2 + 2) ≠ row) (h5 : some b5 ≠ row) (hn : some (b5 + 1) ≠ row) (hv : vw.ownBlock = none ∨ vw.ownBlock ≠ row) : Rst n₀ b2 s stop b5 vw L W' :=
  ⟨h.s2.kept hg h2, h.s3.kept hg h3, h.s4.kept hg h4, h.s5.kept hg h5, h.sn.kept hg hn, h.rw.kept hg hv⟩

theorem Rst.alloc {n₀ b2 : Nat} {s : ByteArray} {stop : Int} {b5 : Nat} {vw : Value} {L : List Line} {W : World} (h : Rst n₀ b2 s stop b5 vw L W) (o : Obj) : Rst n₀ b2 s stop b5 vw L (W.alloc o) :=
  ⟨h.s2.alloc _, h.s3.alloc _, h.s4.alloc _, h.s5.alloc _, h.sn.alloc _, h.rw.alloc _⟩

theorem prefix_get {α : Type} {pre L : List α} {x : α} (h : pre ++ [x] <+: L) : L[pre.length]? = some x := by
  obtain ⟨t, rfl⟩ := h
  rw [List.append_assoc, List.getElem?_append_right (Nat.le_refl _)]; simp
theorem prefix_snoc {α : Type} {pre L : List α} {x : α} (h : pre <+: L) (hx : L[pre.length]? = some x) : pre ++ [x] <+: L := by
  obtain ⟨t, rfl⟩ := h
  rw [List.getElem?_append_right (Nat.le_refl _), Nat.sub_self] at hx
  cases t with
  | nil => simp at hx
  | cons y t =>
    obtain rfl : y = x := by simpa using hx
    exact ⟨t, by simp⟩
theorem prefix_len {α : Type} {pre L : List α} {x : α} (h : pre ++ [x] <+: L) : pre.length < L.length := by
  have := h.length_le; rw [List.length_append] at this; simp at this; omega

/-- A round of the first loop has left. -/
def Left1 (n₀ b2 : Nat) (s : ByteArray) (stop : Int) (b5 : Nat) (vw : Value) (L : List Line) (b7 : Nat) (w : World) (pre : List Line) (W : World) : Prop :=
  pre <+: L ∧ (pre.length : Int) = stop ∧ Boxed W b7 3 (.int .i64 (pre.length : Int)) ∧ Rst n₀ b2 s stop b5 vw L W ∧ Below w.heap.size w W

theorem left1_own {n₀ b2 : Nat} {s : ByteArray} {stop : Int} {b5 : Nat} {vw : Value} {L : List Line} {b7 : Nat} {w : World} {B : Nat} (hB : w.heap.size ≤ B) : OwnFrom B (Left1 n₀ b2 s stop b5 vw L b7 w) := by
  rintro pre X Y row ⟨h1, h2, h3, h4, h5⟩ hg hrow
  have hr : ∀ r, row = some r → ∃ o : Obj, X.heap[r]? = some o ∧ o.isCells = false := fun r e => (hrow r e).2
  exact ⟨h1, h2, boxed_own (β := Unit) _ _ (fun _ => _) () X Y row h3 hg hr, Rst.own pre X Y row h4 hg hr, ownFrom_below (β := Unit) (Nat.le_refl _) hB () X Y row h5 hg hrow⟩
theorem ownsRow_slice {w : World} {M : Nat} {e : TypeId} {size : Nat} {v : Value} {n : Nat} {xs : List Value} (h : w.ownsRow M e size v n xs) : ∃ a c, v = .slice a n c := by
  rcases h.2 with ⟨rfl, rfl⟩ | ⟨g, cap, _, rfl, _⟩
  · exact ⟨none, 0, rfl⟩
  · exact ⟨_, cap, rfl⟩
/-- The text so far. -/
def TxBox (b : Nat) (l : List Line) (W : World) : Prop := ∃ T : ByteArray, Boxed W b 9 (.string T) ∧ T.data.toList = joined l
theorem TxBox.own {b : Nat} : Own (fun (l : List Line) W => TxBox b l W) := by
  rintro l X Y row ⟨T, h1, h2⟩ hg hrow
  exact ⟨T, boxed_own (β := Unit) _ _ (fun _ => _) () X Y row h1 hg hrow, h2⟩

theorem step2 {n₀ : Nat} {s : ByteArray} {stop : Int} {b5 : Nat} {vw : Value} {L : List Line} {W w1 : World} {b9 M2 k : Nat} {v v' : Value} {T : ByteArray} {l : List Line} {x : Line} {tmp : Obj}
    (hv : Boxed W b9 33 v) (hT : Boxed W (b9 + 1) 9 (.string T)) (hrow : W.ownsRow M2 9 1 v l.length (svals l)) (hr : Rst n₀ n₀ s stop b5 vw L W) (hvw : ∀ g, vw.ownBlock = some g → g < b5)
    (h5 : n₀ + 3 ≤ b5) (h9 : b5 + 3 ≤ b9) (hM : M2 = b9 + 2) (hMs : M2 ≤ W.heap.size)
    (hown' : w1.ownsRow M2 9 1 v' k (svals (l ++ [x]))) (hgrow : (W.alloc tmp).grownBy w1 v.ownBlock) :
    Boxed w1 b9 33 v ∧ Boxed w1 (b9 + 1) 9 (.string T) ∧ Rst n₀ n₀ s stop b5 vw L w1 ∧
    (∀ u, Boxed ((w1.setCell ⟨b9, 0, none⟩ v').setCell ⟨b9 + 1, 0, none⟩ u) b9 33 v' ∧ Boxed ((w1.setCell ⟨b9, 0, none⟩ v').setCell ⟨b9 + 1, 0, none⟩ u) (b9 + 1) 9 u ∧
      ((w1.setCell ⟨b9, 0, none⟩ v').setCell ⟨b9 + 1, 0, none⟩ u).ownsRow M2 9 1 v' k (svals (l ++ [x])) ∧ Rst n₀ n₀ s stop b5 vw L ((w1.setCell ⟨b9, 0, none⟩ v').setCell ⟨b9 + 1, 0, none⟩ u) ∧
      KeepsOthers W ((w1.setCell ⟨b9, 0, none⟩ v').setCell ⟨b9 + 1, 0, none⟩ u) ∧ Below n₀ W ((w1.setCell ⟨b9, 0, none⟩ v').setCell ⟨b9 + 1, 0, none⟩ u)) := by
  subst hM
  have hne : ∀ b, b < b9 + 2 → some b ≠ v.ownBlock := fun b hb e => by have := (hrow.lt b e.symm).1; omega
  have hvne : ∀ r : Option Nat, (∀ g, r = some g → b5 ≤ g) → vw.ownBlock = none ∨ vw.ownBlock ≠ r := by
    intro r hg
    cases e : vw.ownBlock with
    | none => exact .inl rfl
    | some g => exact .inr (fun e2 => by have := hvw g e; have := hg g e2.symm; omega)
  have g1 : Boxed w1 b9 33 v := (hv.alloc tmp).kept hgrow (hne _ (by omega))
  have g2 : Boxed w1 (b9 + 1) 9 (.string T) := (hT.alloc tmp).kept hgrow (hne _ (by omega))
  have g3 : Rst n₀ n₀ s stop b5 vw L w1 := (hr.alloc tmp).kept hgrow (hne _ (by omega)) (hne _ (by omega)) (hne _ (by omega)) (hne _ (by omega)) (hne _ (by omega)) (hvne _ (fun g e => by have := (hrow.lt g e).1; omega))
  refine ⟨g1, g2, g3, fun u => ?_⟩
  have hb : ∀ b, b < b9 + 2 → v'.ownBlock ≠ some b := fun b hb e => by have := (hown'.lt b e).1; omega
  refine ⟨(g1.set v').other (by omega) u, (g2.other (by omega) v').set u, ?_, ?_, ?_, ?_⟩
  · exact (hown'.kept (grownBy_setCell' w1 b9 v') (.inr (hb _ (by omega)))).kept (grownBy_setCell' _ (b9 + 1) u) (.inr (hb _ (by omega)))
  · refine (g3.kept (grownBy_setCell' w1 b9 v') ?_ ?_ ?_ ?_ ?_ (hvne _ (fun g e => by cases e; omega))).kept (grownBy_setCell' _ (b9 + 1) u) ?_ ?_ ?_ ?_ ?_ (hvne _ (fun g e => by cases e; omega)) <;> (simp; omega)
  · refine (((KeepsOthers.alloc W tmp).trans (KeepsOthers.of_grownBy hgrow fun j o ej hj => ?_)).trans (KeepsOthers.setCell _ _ _)).trans (KeepsOthers.setCell _ _ _)
    rcases (hrow.alloc tmp).2 with ⟨rfl, _⟩ | ⟨g, cap, cur, rfl, _, hgb, _⟩
    · simp [Value.ownBlock] at ej
    · obtain rfl : g = j := by simpa [Value.ownBlock] using ej
      rw [hgb] at hj; cases hj; rfl
  · refine ((((Below.refl n₀ W).alloc (by omega) tmp).grown hgrow (by simp; omega) fun j ej => ?_).setCell (p := ⟨b9, 0, none⟩) (by simp; omega) v').setCell (p := ⟨b9 + 1, 0, none⟩) (by simp; omega) u
    have := (hrow.lt j ej).1; omega
/-- No length so far is the one at which to stop. -/
def NotYet (stop : Int) (n : Nat) : Prop := ∀ j : Nat, 1 ≤ j → j ≤ n → (j : Int) ≠ stop
end Go.Proofs.YtgadnlnclpoeaaaDoor
