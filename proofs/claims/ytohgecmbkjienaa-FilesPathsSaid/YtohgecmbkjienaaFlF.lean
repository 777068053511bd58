/- What writes an inode: its fields, entries, bytes. Condition: the inode lies as stated. -/
import Derived.Test.YtohgecmbkjienaaFlE
namespace Go.Proofs.Ytohgecmbkjienaa
open Go.RowKit Go.PlainAid
attribute [local go_sem] Oper.semAt_some

theorem rows_off {W : World} {b b' : Nat} {e e' : TypeId} {s s' n n' : Nat} {v v' : Value} {xs xs' : List Value} (hte : e ≠ e') (h : W.ownsRow b e s v n xs) (k : W.ownsRow b' e' s' v' n' xs') {g : Nat} (hg : v.ownBlock = some g) : v'.ownBlock ≠ some g := by
  rcases h.2 with ⟨rfl, _⟩ | ⟨g1, cap, cur, rfl, _, hb, _⟩
  · simp [Value.ownBlock] at hg
  · obtain rfl : g1 = g := by simpa [Value.ownBlock] using hg
    have hB : Blk W g1 e cur := hb
    exact fun e' => row_off hB hte k e'.symm
theorem row_set {w : World} {b : Nat} {e : TypeId} {s n : Nat} {v : Value} {xs : List Value} (h : w.ownsRow b e s v n xs) {q o : Nat} {t : TypeId} {cs : Array Value} (hB : Blk w q t cs) (hte : t ≠ e) (u : Value) : (w.setCell ⟨q, o, none⟩ u).ownsRow b e s v n xs :=
  row_keep h (fun g hg => Below.heap_setCell _ _ _ _ (fun e' => row_off hB hte h (by rw [hg, show g = q from e'])))
theorem blk_grown {w w1 : World} {q : Nat} {t : TypeId} {cs : Array Value} {v : Option Nat} (h : Blk w q t cs) (hg : w.grownBy w1 v) (hne : some q ≠ v) : Blk w1 q t cs := (hg.block q h.lt hne).trans h
theorem row_grown {w w1 : World} {b : Nat} {e : TypeId} {s n : Nat} {v : Value} {xs : List Value} {r : Option Nat} (h : w.ownsRow b e s v n xs) (hg : w.grownBy w1 r) (hne : ∀ g, v.ownBlock = some g → r ≠ some g) : w1.ownsRow b e s v n xs :=
  row_keep h (fun g hg2 => hg.block g (row_lt h hg2) (fun e' => hne g hg2 e'.symm))
theorem ends_ne : (73 : TypeId) ≠ 105 ∧ (73 : TypeId) ≠ 5 ∧ (5 : TypeId) ≠ 105 ∧ (68 : TypeId) ≠ 77 := by decide

section
variable {w : World} {S : Nat → Prop} {q : Nat} {I : Ino} {dv ev : Value}
/-- New entries. -/
theorem InoAt.newEnt (h : InoAt w S q I dv ev) {w1 w2 : World} (hb : Below w.heap.size w w1) (hg : w1.grownBy w2 ev.ownBlock) {v' : Value} {l : Ents} (hrow : w2.ownsRow 0 105 2 v' l.length (flat ecs l)) (hat : ∀ g, v'.ownBlock = some g → ev.ownBlock = some g ∨ w.heap.size ≤ g) :
    InoP S w (w2.setCell ⟨q, 5, none⟩ v') q { I with ents := l } := by
  have h1 := h.below hb
  have hB : Blk w2 q 73 (icells I dv ev) := blk_grown h1.blk hg (row_off h1.blk ends_ne.1 h1.ent)
  have hD := row_grown h1.dat hg (fun g hg2 => rows_off ends_ne.2.2.1 h1.dat h1.ent hg2)
  have hs2 : w.heap.size ≤ w2.heap.size := Nat.le_trans hb.size hg.size
  have hse : ∀ g, ev.ownBlock = some g → S g := h.se
  refine ⟨fun g => S g ∨ (w.heap.size ≤ g ∧ g < w2.heap.size), ⟨dv, v', ?_, row_set hD hB ends_ne.2.1 _, row_set hrow hB ends_ne.1 _, .inl h.sq, fun g hg2 => .inl (h.sd g hg2), fun g hg2 => ?_, fun g hg2 => ?_⟩, fun g hg2 => hg2.imp id (fun x => x.1), ?_⟩
  · exact hB.set_ 5 v'
  · rcases hat g hg2 with h3 | h3
    · exact .inl (hse g h3)
    · exact .inr ⟨h3, row_lt hrow hg2⟩
  · rw [World.size_setCell]
    rcases hg2 with h3 | h3
    · exact Nat.lt_of_lt_of_le (h.lt g h3) hs2
    · exact h3.2
  · exact ((Frm.of_below hb).grown hg (fun g hg2 => .inl (hse g hg2))).setCell (.inl h.sq) _
/-- New bytes. -/
theorem InoAt.newDat (h : InoAt w S q I dv ev) {w1 w2 : World} (hb : Below w.heap.size w w1) (hg : w1.grownBy w2 dv.ownBlock) {v' : Value} {l : List UInt8} (hrow : w2.ownsRow 0 5 1 v' l.length (Lib.byteCells l)) (hat : ∀ g, v'.ownBlock = some g → dv.ownBlock = some g ∨ w.heap.size ≤ g) :
    InoP S w (w2.setCell ⟨q, 4, none⟩ v') q { I with data := l } := by
  have h1 := h.below hb
  have hB : Blk w2 q 73 (icells I dv ev) := blk_grown h1.blk hg (row_off h1.blk ends_ne.2.1 h1.dat)
  have hD := row_grown h1.ent hg (fun g hg2 => rows_off ends_ne.2.2.1.symm h1.ent h1.dat hg2)
  have hs2 : w.heap.size ≤ w2.heap.size := Nat.le_trans hb.size hg.size
  have hse : ∀ g, dv.ownBlock = some g → S g := h.sd
  refine ⟨fun g => S g ∨ (w.heap.size ≤ g ∧ g < w2.heap.size), ⟨v', ev, ?_, row_set hrow hB ends_ne.2.1 _, row_set hD hB ends_ne.1 _, .inl h.sq, fun g hg2 => ?_, fun g hg2 => .inl (h.se g hg2), fun g hg2 => ?_⟩, fun g hg2 => hg2.imp id (fun x => x.1), ?_⟩
  · exact hB.set_ 4 v'
  · rcases hat g hg2 with h3 | h3
    · exact .inl (hse g h3)
    · exact .inr ⟨h3, row_lt hrow hg2⟩
  · rw [World.size_setCell]
    rcases hg2 with h3 | h3
    · exact Nat.lt_of_lt_of_le (h.lt g h3) hs2
    · exact h3.2
  · exact ((Frm.of_below hb).grown hg (fun g hg2 => .inl (hse g hg2))).setCell (.inl h.sq) _
/-- A field of one number. -/
theorem InoAt.field (h : InoAt w S q I dv ev) {w1 : World} (hb : Below w.heap.size w w1) (o : Nat) (u : Value) (I' : Ino) (he : (icells I dv ev).setIfInBounds o u = icells I' dv ev) (h1 : I'.data = I.data) (h2 : I'.ents = I.ents) : InoP S w (w1.setCell ⟨q, o, none⟩ u) q I' := by
  have k := h.below hb
  refine ⟨S, ⟨dv, ev, ?_, ?_, ?_, h.sq, h.sd, h.se, fun g hg => ?_⟩, fun g hg => .inl hg, (Frm.of_below hb).setCell (.inl h.sq) _⟩
  · rw [← he]; exact k.blk.set_ o u
  · rw [h1]; exact row_set k.dat k.blk ends_ne.2.1 _
  · rw [h2]; exact row_set k.ent k.blk ends_ne.1 _
  · rw [World.size_setCell]; exact Nat.lt_of_lt_of_le (h.lt g hg) hb.size

theorem add_any (h : InoAt w S q I dv ev) (hf : Fine I) (x : ByteArray) (n : Nat) : Calls Try.prog 59 #[.pointer (some ⟨q, 0, none⟩), .string x, .int .i64 n] w fun e w' => e = .returned (.tuple #[]) ∧ InoP S w w' q { I with ents := addM I.ents x n } := by
  have hfi := Lib.hid (find_any h hf x)
  have hpl : pos (nms I.ents) x ≤ I.ents.length := by have := pos_le (nms I.ents) x; rw [show (nms I.ents).length = I.ents.length from List.length_map ..] at this; exact this
  obtain ⟨a, c, rfl⟩ := ownsRow_slice h.ent
  have hel := hf.el
  have hH := Lib.hid h
  clear hf
  obtain ⟨i, hi⟩ : ∃ i, pos (nms I.ents) x = i := ⟨_, rfl⟩
  rw [hi] at hfi hpl
  have haM : Hid (addM I.ents x n = ins I.ents i (x, n)) := Lib.hid (by unfold addM; rw [hi])
  rw [haM.out]
  obtain ⟨m, hm⟩ : ∃ m, I.ents.length = m := ⟨_, rfl⟩
  have hmH := Lib.hid hm
  have c5 : w.cell? ⟨q, 5, none⟩ = some (.slice a m c) := by rw [← hm]; exact h.blk.cell 5
  have hq := h.lt q h.sq
  have c5H := Lib.hid c5
  clear h hi hm c5
  go_enter Try.func59, Try.ntmps59
  go_wp2_with (go_at_call 69; refine hfi.out.mono ?_; rintro e w1 ⟨rfl, hb⟩; have k1 := Lib.hid (hH.out.below hb); have d5 : w1.cell? ⟨q, 5, none⟩ = some (.slice a m c) := (hb.cell hq).trans c5H.out; have hbH := Lib.hid hb; clear hb)
  have k2 := k1.out.ent
  rw [hmH.out] at k2
  refine (insert_e 0 I.ents (x, n) i (.slice a m c) w1.heap.size 105 _ (by omega) (by rw [hmH.out]; exact k2.alloc _) (Blk.new _ _ _) (fun e => by have := row_lt k2 e; omega) (Nat.zero_le _) (by omega)).mono ?_
  rintro e w2 ⟨gg, cc, rfl, hown, hgr, hat⟩
  have hP := Lib.hid (fun (v' : Value) (hv : v' = .slice (some ⟨gg, 0, none⟩) (I.ents.length + 1) cc) => (hH.out.newEnt (hbH.out.alloc hbH.out.size (.cells #[.string x, .int .i64 n] 105)) (by rw [hmH.out]; exact hgr) (v' := v') (l := ins I.ents i (x, n)) (by rw [ins_len _ _ _ hpl, hv]; exact hown) (fun g hg => by
    rw [hv] at hg
    obtain rfl : gg = g := by simpa [Value.ownBlock] using hg
    rcases hat with h3 | h3
    · exact .inl (by rw [hmH.out]; exact h3)
    · refine .inr ?_
      rw [World.size_alloc] at h3
      have := hbH.out.size
      omega)))
  have B2 := blk_grown (k1.out.blk.alloc (.cells #[.string x, .int .i64 n] 105)) hgr (by rw [← hmH.out]; exact row_off k1.out.blk ends_ne.1 k1.out.ent)
  have e5 : w2.cell? ⟨q, 5, none⟩ = some (.slice a m c) := by rw [← hmH.out]; exact B2.cell 5
  have f5 : w2.frozen? ⟨q, 5, none⟩ = false := B2.frozen 5
  clear hown hgr hat k2 B2
  go_wp2
  go_end0
  exact ⟨rfl, hP.out _ rfl⟩

theorem remM_no {l : Ents} {x : ByteArray} (h : has (nms l) x = false) : remM l x = l := by unfold remM; rw [if_neg (by rw [h]; decide)]
theorem remM_yes {l : Ents} {x : ByteArray} (h : has (nms l) x = true) : remM l x = l.eraseIdx (pos (nms l) x) := by unfold remM; rw [if_pos h]
theorem InoAt.same (h : InoAt w S q I dv ev) {w1 : World} (hb : Below w.heap.size w w1) : InoP S w w1 q I := ⟨S, ⟨dv, ev, h.below hb⟩, fun _ hg => .inl hg, Frm.of_below hb⟩
theorem remove_any (h : InoAt w S q I dv ev) (hf : Fine I) (x : ByteArray) : Calls Try.prog 58 #[.pointer (some ⟨q, 0, none⟩), .string x] w fun e w' => e = .returned (.tuple #[]) ∧ InoP S w w' q { I with ents := remM I.ents x } := by
  have hfi := Lib.hid (find_any h hf x)
  cases hh : has (nms I.ents) x with
  | false =>
    have hhH := Lib.hid hh
    have hH := Lib.hid h
    have hr : Hid (({ I with ents := remM I.ents x } : Ino) = I) := Lib.hid (by rw [remM_no hh])
    rw [hr.out]
    clear h hf hh
    go_enter Try.func58, Try.ntmps58
    go_wp2_with (go_at_call 69; refine hfi.out.mono ?_; rintro e w1 ⟨rfl, hb⟩; rw [hhH.out]; have hbH := Lib.hid hb; clear hb)
    go_end0
    exact ⟨rfl, hH.out.same hbH.out⟩
  | true =>
    obtain ⟨y, hy, _, _⟩ := lookM_yes hh
    have hpl := (List.getElem?_eq_some_iff.1 hy).1
    obtain ⟨a, c, rfl⟩ := ownsRow_slice h.ent
    have hel := hf.el
    have hH := Lib.hid h
    have hhH := Lib.hid hh
    obtain ⟨i, hi⟩ : ∃ i, pos (nms I.ents) x = i := ⟨_, rfl⟩
    have hrM : Hid (remM I.ents x = I.ents.eraseIdx i) := Lib.hid (by rw [remM_yes hh, hi])
    rw [hi] at hpl
    have hiH := Lib.hid hi
    rw [hrM.out]
    obtain ⟨m, hm⟩ : ∃ m, I.ents.length = m := ⟨_, rfl⟩
    have hmH := Lib.hid hm
    have c5 : w.cell? ⟨q, 5, none⟩ = some (.slice a m c) := by rw [← hm]; exact h.blk.cell 5
    have hq := h.lt q h.sq
    have c5H := Lib.hid c5
    have hpl' := Lib.hid hpl
    rw [hm] at hpl hel
    clear h hi hm c5 hy hf hh
    go_enter Try.func58, Try.ntmps58
    go_wp2_with (go_at_call 69; refine hfi.out.mono ?_; rintro e w1 ⟨rfl, hb⟩; rw [hhH.out, hiH.out]; have k1 := Lib.hid (hH.out.below hb); have d5 : w1.cell? ⟨q, 5, none⟩ = some (.slice a m c) := (hb.cell hq).trans c5H.out; have hbH := Lib.hid hb; clear hb)
    have k2 := k1.out.ent
    rw [hmH.out] at k2
    refine (delete_e 0 I.ents i (.slice a m c) w1 hpl'.out (by rw [hmH.out]; exact k2) (by rw [hmH.out]; omega)).mono ?_
    rintro e w2 ⟨gg, cc, e1, rfl, hown, hgr⟩
    obtain ⟨rfl, rfl⟩ : a = some ⟨gg, 0, none⟩ ∧ c = cc := by simpa [hmH.out] using e1
    have hP := Lib.hid (fun (v' : Value) (hv : v' = .slice (some ⟨gg, 0, none⟩) (I.ents.length - 1) c) => (hH.out.newEnt hbH.out (by rw [hmH.out]; exact hgr) (v' := v') (l := I.ents.eraseIdx i) (by rw [List.length_eraseIdx_of_lt hpl'.out, hv]; exact hown) (fun g hg => by
      rw [hv] at hg
      obtain rfl : gg = g := by simpa [Value.ownBlock] using hg
      exact .inl rfl)))
    have B2 := blk_grown k1.out.blk hgr (by have h9 := row_off k1.out.blk ends_ne.1 k1.out.ent; rw [hmH.out] at h9; exact h9)
    have e5 : w2.cell? ⟨q, 5, none⟩ = some (.slice (some ⟨gg, 0, none⟩) m c) := by rw [← hmH.out]; exact B2.cell 5
    have f5 : w2.frozen? ⟨q, 5, none⟩ = false := B2.frozen 5
    clear hown hgr k2 B2 e1
    go_wp2
    go_end0
    exact ⟨rfl, hP.out _ rfl⟩
end
end Go.Proofs.Ytohgecmbkjienaa
