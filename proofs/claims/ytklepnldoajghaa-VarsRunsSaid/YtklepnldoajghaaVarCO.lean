/- The reference's Mark, over its put. Condition: the rows lie as stated. -/
import Derived.Test.YtklepnldoajghaaVarCN
namespace Go.Proofs.Ytklepnldoajghaa
open Go.RowKit Go.PlainAid
attribute [local go_sem] Oper.semAt_some

theorem set5_marks {W : World} {m : Nat} {a b c d e c' d' : Value} {t : TypeId} (h : Blk W m t #[a, b, c, d, e]) : Blk ((W.setCell ⟨m, 2, none⟩ c').setCell ⟨m, 3, none⟩ d') m t #[a, b, c', d', e] := (h.set_ 2 _).set_ 3 _

set_option maxHeartbeats 16000000 in
theorem markR_call (hput : PutOk) {n₀ q : Nat} {L : Vl} {A : List ByteArray} {lv av : Value} (x : ByteArray) (ma mb : Bool) (w : World) (h : RefAt n₀ w q L A lv av) (hn0 : n₀ ≤ w.heap.size) (hx : x.size ≤ maxLen) :
    Calls Try.prog 15 #[.pointer (some ⟨q, 0, none⟩), .string x, .bool ma, .bool mb] w fun e w' => e = .returned (.int .i64 (markE L x ma mb)) ∧ REnds n₀ q (markR L x ma mb) A w w' := by
  have hH := Lib.hid h
  have hn0H := Lib.hid hn0
  have hatcall := Lib.hid (at_any x w h)
  have hfcall := Lib.hid (find_any x w h)
  cases hnm : isName x with
  | false =>
    have hE : Hid (markE L x ma mb = 22) := Lib.hid (by unfold markE; rw [if_pos hnm])
    have hR : Hid (markR L x ma mb = L) := Lib.hid (by unfold markR; rw [if_pos hnm])
    have hnmH := Lib.hid hnm
    clear h hn0 hnm
    go_enter Try.func15, Try.ntmps15
    go_wp2_with (go_at_call 34; refine (nameR_any x _ hx).mono ?_; rintro e w' ⟨rfl, rfl⟩; rw [hnmH.out])
    go_ret
    exact ⟨by rw [hE.out]; rfl, by rw [hR.out]; exact .same hH.out (Below.refl _ _)⟩
  | true =>
    have hnmH := Lib.hid hnm
    by_cases hno : ma = false ∧ mb = false
    · have hE : Hid (markE L x ma mb = 0) := Lib.hid (by unfold markE; rw [if_neg (by rw [hnm]; simp), if_pos hno])
      have hR : Hid (markR L x ma mb = L) := Lib.hid (by unfold markR; rw [if_neg (by rw [hnm]; simp), if_pos hno])
      obtain ⟨rfl, rfl⟩ := hno
      clear h hn0 hnm
      go_enter Try.func15, Try.ntmps15
      go_wp2_with (go_at_call 34; refine (nameR_any x _ hx).mono ?_; rintro e w' ⟨rfl, rfl⟩; rw [hnmH.out])
      go_ret
      exact ⟨by rw [hE.out]; rfl, by rw [hR.out]; exact .same hH.out (Below.refl _ _)⟩
    · have hE0 : markE L x ma mb = if has (ks L) x = false ∧ 64 ≤ L.length then 64 else 0 := by unfold markE; rw [if_neg (by rw [hnm]; simp), if_neg hno]
      have hR0 : markR L x ma mb = if has (ks L) x = false ∧ 64 ≤ L.length then L else setL L x ⟨(got L x).val, (got L x).st, (got L x).ex || ma, (got L x).ro || mb⟩ := by unfold markR; rw [if_neg (by rw [hnm]; simp), if_neg hno]
      obtain ⟨⟨yv, ys, ye, yr⟩, hy⟩ : ∃ y, got L x = y := ⟨_, rfl⟩
      have hyH := Lib.hid hy
      rw [hy] at hR0
      by_cases hfull : has (ks L) x = false ∧ 64 ≤ L.length
      · rw [if_pos hfull] at hE0 hR0
        have hE := Lib.hid hE0
        have hR := Lib.hid hR0
        have hf := Lib.hid (fnd_not hfull.1)
        have hlen : (64 : Int) ≤ (L.length : Int) := by omega
        obtain ⟨a0, c0, e0⟩ := ownsRow_slice h.list
        have p0 : w.cell? ⟨q, 0, none⟩ = some (.slice a0 L.length c0) := by rw [h.blk.cell 0, ← e0]; rfl
        clear h hn0 hnm hy hE0 hR0 hfull e0
        cases ma <;> cases mb
        all_goals first | exact absurd ⟨rfl, rfl⟩ hno | skip
        all_goals
          clear hno
          go_enter Try.func15, Try.ntmps15
          go_wp2_with (first | (go_at_call 34; refine (nameR_any x _ hx).mono ?_; rintro e w' ⟨rfl, rfl⟩; rw [hnmH.out]) | (go_at_call 35; refine hfcall.out.mono ?_; rintro e w' ⟨rfl, rfl⟩; rw [hf.out]))
          go_ret
          exact ⟨by rw [hE.out]; rfl, by rw [hR.out]; exact .same hH.out (Below.refl _ _)⟩
      · rw [if_neg hfull] at hE0 hR0
        have hE := Lib.hid hE0
        have hR := Lib.hid hR0
        have hroom : has (ks L) x = false → L.length < 64 := fun e => by
          have : ¬ 64 ≤ L.length := fun g => hfull ⟨e, g⟩
          omega
        have hroomH := Lib.hid hroom
        cases hh : has (ks L) x with
        | false =>
          have hf := Lib.hid (fnd_not hh)
          have hlen : ¬ (64 : Int) ≤ (L.length : Int) := by have := hroom hh; omega
          obtain ⟨a0, c0, e0⟩ := ownsRow_slice h.list
          have p0 : w.cell? ⟨q, 0, none⟩ = some (.slice a0 L.length c0) := by rw [h.blk.cell 0, ← e0]; rfl
          clear h hn0 hnm hy hE0 hR0 hfull e0 hroom hh
          cases ma <;> cases mb
          · exact absurd ⟨rfl, rfl⟩ hno
          · clear hno
            cases ye <;> cases yr
            · go_enter Try.func15, Try.ntmps15
              go_wp2_with (first | (go_at_call 34; refine (nameR_any x _ hx).mono ?_; rintro e w' ⟨rfl, rfl⟩; rw [hnmH.out]) | (go_at_call 35; refine hfcall.out.mono ?_; rintro e w' ⟨rfl, rfl⟩; rw [hf.out]))
              refine hatcall.out.mono ?_
              rintro e W ⟨rfl, hB⟩
              rw [hyH.out]
              unfold rcs
              dsimp only
              obtain ⟨m, hm⟩ : ∃ m, W.heap.size = m := ⟨_, rfl⟩
              have hwm : w'.heap.size ≤ m := by have := hB.size; omega
              have hbx := Blk.new W 73 #[.string x, .string yv, .bool false, .bool false, .bool (!ys)]
              obtain ⟨W1, hW1⟩ : ∃ W1, W.alloc (Obj.cells #[.string x, .string yv, .bool false, .bool false, .bool (!ys)] 73) = W1 := ⟨_, rfl⟩
              rw [hW1, hm] at hbx
              obtain ⟨⟨m0, m1, m2, m3, m4⟩, f0, f1, f2, f3, f4⟩ := blk5 hbx
              have hb2 := set5_marks (c' := .bool false) (d' := .bool true) hbx
              obtain ⟨W2, hW2⟩ : ∃ W2, (W1.setCell ⟨m, 2, none⟩ (.bool false)).setCell ⟨m, 3, none⟩ (.bool true) = W2 := ⟨_, rfl⟩
              rw [hW2] at hb2
              obtain ⟨⟨k0, k1, k2, k3, k4⟩, _⟩ := blk5 hb2
              have hb2w : Below w'.heap.size w' W2 := by rw [← hW2, ← hW1]; exact ((hB.alloc hB.size _).setCell (p := ⟨m, 2, none⟩) hwm _).setCell (p := ⟨m, 3, none⟩) hwm _
              have hput' := Lib.hid (hput x ⟨yv, ys, false, true⟩ W2 (hH.out.beneath hb2w) (Nat.le_trans hn0H.out hb2w.size) hroomH.out)
              have hb2H := Lib.hid hb2w
              have hW1H := Lib.hid hW1
              have hW2H := Lib.hid hW2
              have hmH := Lib.hid hm
              clear hB hm hwm hbx hW1 hW2 hb2 hb2w
              go_wp2_with (first | rw [hW1H.out, hmH.out] | rw [hW1H.out] | rw [hW2H.out])
              refine hput'.out.mono ?_
              rintro e W3 ⟨rfl, hE3⟩
              have hE3H := Lib.hid hE3
              clear hE3
              go_wp2_with fail
              go_ret
              exact ⟨by rw [hE.out]; rfl, by rw [hR.out]; exact .pre hb2H.out hE3H.out⟩
            · go_enter Try.func15, Try.ntmps15
              go_wp2_with (first | (go_at_call 34; refine (nameR_any x _ hx).mono ?_; rintro e w' ⟨rfl, rfl⟩; rw [hnmH.out]) | (go_at_call 35; refine hfcall.out.mono ?_; rintro e w' ⟨rfl, rfl⟩; rw [hf.out]))
              refine hatcall.out.mono ?_
              rintro e W ⟨rfl, hB⟩
              rw [hyH.out]
              unfold rcs
              dsimp only
              obtain ⟨m, hm⟩ : ∃ m, W.heap.size = m := ⟨_, rfl⟩
              have hwm : w'.heap.size ≤ m := by have := hB.size; omega
              have hbx := Blk.new W 73 #[.string x, .string yv, .bool false, .bool true, .bool (!ys)]
              obtain ⟨W1, hW1⟩ : ∃ W1, W.alloc (Obj.cells #[.string x, .string yv, .bool false, .bool true, .bool (!ys)] 73) = W1 := ⟨_, rfl⟩
              rw [hW1, hm] at hbx
              obtain ⟨⟨m0, m1, m2, m3, m4⟩, f0, f1, f2, f3, f4⟩ := blk5 hbx
              have hb2 := set5_marks (c' := .bool false) (d' := .bool true) hbx
              obtain ⟨W2, hW2⟩ : ∃ W2, (W1.setCell ⟨m, 2, none⟩ (.bool false)).setCell ⟨m, 3, none⟩ (.bool true) = W2 := ⟨_, rfl⟩
              rw [hW2] at hb2
              obtain ⟨⟨k0, k1, k2, k3, k4⟩, _⟩ := blk5 hb2
              have hb2w : Below w'.heap.size w' W2 := by rw [← hW2, ← hW1]; exact ((hB.alloc hB.size _).setCell (p := ⟨m, 2, none⟩) hwm _).setCell (p := ⟨m, 3, none⟩) hwm _
              have hput' := Lib.hid (hput x ⟨yv, ys, false, true⟩ W2 (hH.out.beneath hb2w) (Nat.le_trans hn0H.out hb2w.size) hroomH.out)
              have hb2H := Lib.hid hb2w
              have hW1H := Lib.hid hW1
              have hW2H := Lib.hid hW2
              have hmH := Lib.hid hm
              clear hB hm hwm hbx hW1 hW2 hb2 hb2w
              go_wp2_with (first | rw [hW1H.out, hmH.out] | rw [hW1H.out] | rw [hW2H.out])
              refine hput'.out.mono ?_
              rintro e W3 ⟨rfl, hE3⟩
              have hE3H := Lib.hid hE3
              clear hE3
              go_wp2_with fail
              go_ret
              exact ⟨by rw [hE.out]; rfl, by rw [hR.out]; exact .pre hb2H.out hE3H.out⟩
            · go_enter Try.func15, Try.ntmps15
              go_wp2_with (first | (go_at_call 34; refine (nameR_any x _ hx).mono ?_; rintro e w' ⟨rfl, rfl⟩; rw [hnmH.out]) | (go_at_call 35; refine hfcall.out.mono ?_; rintro e w' ⟨rfl, rfl⟩; rw [hf.out]))
              refine hatcall.out.mono ?_
              rintro e W ⟨rfl, hB⟩
              rw [hyH.out]
              unfold rcs
              dsimp only
              obtain ⟨m, hm⟩ : ∃ m, W.heap.size = m := ⟨_, rfl⟩
              have hwm : w'.heap.size ≤ m := by have := hB.size; omega
              have hbx := Blk.new W 73 #[.string x, .string yv, .bool true, .bool false, .bool (!ys)]
              obtain ⟨W1, hW1⟩ : ∃ W1, W.alloc (Obj.cells #[.string x, .string yv, .bool true, .bool false, .bool (!ys)] 73) = W1 := ⟨_, rfl⟩
              rw [hW1, hm] at hbx
              obtain ⟨⟨m0, m1, m2, m3, m4⟩, f0, f1, f2, f3, f4⟩ := blk5 hbx
              have hb2 := set5_marks (c' := .bool true) (d' := .bool true) hbx
              obtain ⟨W2, hW2⟩ : ∃ W2, (W1.setCell ⟨m, 2, none⟩ (.bool true)).setCell ⟨m, 3, none⟩ (.bool true) = W2 := ⟨_, rfl⟩
              rw [hW2] at hb2
              obtain ⟨⟨k0, k1, k2, k3, k4⟩, _⟩ := blk5 hb2
              have hb2w : Below w'.heap.size w' W2 := by rw [← hW2, ← hW1]; exact ((hB.alloc hB.size _).setCell (p := ⟨m, 2, none⟩) hwm _).setCell (p := ⟨m, 3, none⟩) hwm _
              have hput' := Lib.hid (hput x ⟨yv, ys, true, true⟩ W2 (hH.out.beneath hb2w) (Nat.le_trans hn0H.out hb2w.size) hroomH.out)
              have hb2H := Lib.hid hb2w
              have hW1H := Lib.hid hW1
              have hW2H := Lib.hid hW2
              have hmH := Lib.hid hm
              clear hB hm hwm hbx hW1 hW2 hb2 hb2w
              go_wp2_with (first | rw [hW1H.out, hmH.out] | rw [hW1H.out] | rw [hW2H.out])
              refine hput'.out.mono ?_
              rintro e W3 ⟨rfl, hE3⟩
              have hE3H := Lib.hid hE3
              clear hE3
              go_wp2_with fail
              go_ret
              exact ⟨by rw [hE.out]; rfl, by rw [hR.out]; exact .pre hb2H.out hE3H.out⟩
            · go_enter Try.func15, Try.ntmps15
              go_wp2_with (first | (go_at_call 34; refine (nameR_any x _ hx).mono ?_; rintro e w' ⟨rfl, rfl⟩; rw [hnmH.out]) | (go_at_call 35; refine hfcall.out.mono ?_; rintro e w' ⟨rfl, rfl⟩; rw [hf.out]))
              refine hatcall.out.mono ?_
              rintro e W ⟨rfl, hB⟩
              rw [hyH.out]
              unfold rcs
              dsimp only
              obtain ⟨m, hm⟩ : ∃ m, W.heap.size = m := ⟨_, rfl⟩
              have hwm : w'.heap.size ≤ m := by have := hB.size; omega
              have hbx := Blk.new W 73 #[.string x, .string yv, .bool true, .bool true, .bool (!ys)]
              obtain ⟨W1, hW1⟩ : ∃ W1, W.alloc (Obj.cells #[.string x, .string yv, .bool true, .bool true, .bool (!ys)] 73) = W1 := ⟨_, rfl⟩
              rw [hW1, hm] at hbx
              obtain ⟨⟨m0, m1, m2, m3, m4⟩, f0, f1, f2, f3, f4⟩ := blk5 hbx
              have hb2 := set5_marks (c' := .bool true) (d' := .bool true) hbx
              obtain ⟨W2, hW2⟩ : ∃ W2, (W1.setCell ⟨m, 2, none⟩ (.bool true)).setCell ⟨m, 3, none⟩ (.bool true) = W2 := ⟨_, rfl⟩
              rw [hW2] at hb2
              obtain ⟨⟨k0, k1, k2, k3, k4⟩, _⟩ := blk5 hb2
              have hb2w : Below w'.heap.size w' W2 := by rw [← hW2, ← hW1]; exact ((hB.alloc hB.size _).setCell (p := ⟨m, 2, none⟩) hwm _).setCell (p := ⟨m, 3, none⟩) hwm _
              have hput' := Lib.hid (hput x ⟨yv, ys, true, true⟩ W2 (hH.out.beneath hb2w) (Nat.le_trans hn0H.out hb2w.size) hroomH.out)
              have hb2H := Lib.hid hb2w
              have hW1H := Lib.hid hW1
              have hW2H := Lib.hid hW2
              have hmH := Lib.hid hm
              clear hB hm hwm hbx hW1 hW2 hb2 hb2w
              go_wp2_with (first | rw [hW1H.out, hmH.out] | rw [hW1H.out] | rw [hW2H.out])
              refine hput'.out.mono ?_
              rintro e W3 ⟨rfl, hE3⟩
              have hE3H := Lib.hid hE3
              clear hE3
              go_wp2_with fail
              go_ret
              exact ⟨by rw [hE.out]; rfl, by rw [hR.out]; exact .pre hb2H.out hE3H.out⟩
          · clear hno
            cases ye <;> cases yr
            · go_enter Try.func15, Try.ntmps15
              go_wp2_with (first | (go_at_call 34; refine (nameR_any x _ hx).mono ?_; rintro e w' ⟨rfl, rfl⟩; rw [hnmH.out]) | (go_at_call 35; refine hfcall.out.mono ?_; rintro e w' ⟨rfl, rfl⟩; rw [hf.out]))
              refine hatcall.out.mono ?_
              rintro e W ⟨rfl, hB⟩
              rw [hyH.out]
              unfold rcs
              dsimp only
              obtain ⟨m, hm⟩ : ∃ m, W.heap.size = m := ⟨_, rfl⟩
              have hwm : w'.heap.size ≤ m := by have := hB.size; omega
              have hbx := Blk.new W 73 #[.string x, .string yv, .bool false, .bool false, .bool (!ys)]
              obtain ⟨W1, hW1⟩ : ∃ W1, W.alloc (Obj.cells #[.string x, .string yv, .bool false, .bool false, .bool (!ys)] 73) = W1 := ⟨_, rfl⟩
              rw [hW1, hm] at hbx
              obtain ⟨⟨m0, m1, m2, m3, m4⟩, f0, f1, f2, f3, f4⟩ := blk5 hbx
              have hb2 := set5_marks (c' := .bool true) (d' := .bool false) hbx
              obtain ⟨W2, hW2⟩ : ∃ W2, (W1.setCell ⟨m, 2, none⟩ (.bool true)).setCell ⟨m, 3, none⟩ (.bool false) = W2 := ⟨_, rfl⟩
              rw [hW2] at hb2
              obtain ⟨⟨k0, k1, k2, k3, k4⟩, _⟩ := blk5 hb2
              have hb2w : Below w'.heap.size w' W2 := by rw [← hW2, ← hW1]; exact ((hB.alloc hB.size _).setCell (p := ⟨m, 2, none⟩) hwm _).setCell (p := ⟨m, 3, none⟩) hwm _
              have hput' := Lib.hid (hput x ⟨yv, ys, true, false⟩ W2 (hH.out.beneath hb2w) (Nat.le_trans hn0H.out hb2w.size) hroomH.out)
              have hb2H := Lib.hid hb2w
              have hW1H := Lib.hid hW1
              have hW2H := Lib.hid hW2
              have hmH := Lib.hid hm
              clear hB hm hwm hbx hW1 hW2 hb2 hb2w
              go_wp2_with (first | rw [hW1H.out, hmH.out] | rw [hW1H.out] | rw [hW2H.out])
              refine hput'.out.mono ?_
              rintro e W3 ⟨rfl, hE3⟩
              have hE3H := Lib.hid hE3
              clear hE3
              go_wp2_with fail
              go_ret
              exact ⟨by rw [hE.out]; rfl, by rw [hR.out]; exact .pre hb2H.out hE3H.out⟩
            · go_enter Try.func15, Try.ntmps15
              go_wp2_with (first | (go_at_call 34; refine (nameR_any x _ hx).mono ?_; rintro e w' ⟨rfl, rfl⟩; rw [hnmH.out]) | (go_at_call 35; refine hfcall.out.mono ?_; rintro e w' ⟨rfl, rfl⟩; rw [hf.out]))
              refine hatcall.out.mono ?_
              rintro e W ⟨rfl, hB⟩
              rw [hyH.out]
              unfold rcs
              dsimp only
              obtain ⟨m, hm⟩ : ∃ m, W.heap.size = m := ⟨_, rfl⟩
              have hwm : w'.heap.size ≤ m := by have := hB.size; omega
              have hbx := Blk.new W 73 #[.string x, .string yv, .bool false, .bool true, .bool (!ys)]
              obtain ⟨W1, hW1⟩ : ∃ W1, W.alloc (Obj.cells #[.string x, .string yv, .bool false, .bool true, .bool (!ys)] 73) = W1 := ⟨_, rfl⟩
              rw [hW1, hm] at hbx
              obtain ⟨⟨m0, m1, m2, m3, m4⟩, f0, f1, f2, f3, f4⟩ := blk5 hbx
              have hb2 := set5_marks (c' := .bool true) (d' := .bool true) hbx
              obtain ⟨W2, hW2⟩ : ∃ W2, (W1.setCell ⟨m, 2, none⟩ (.bool true)).setCell ⟨m, 3, none⟩ (.bool true) = W2 := ⟨_, rfl⟩
              rw [hW2] at hb2
              obtain ⟨⟨k0, k1, k2, k3, k4⟩, _⟩ := blk5 hb2
              have hb2w : Below w'.heap.size w' W2 := by rw [← hW2, ← hW1]; exact ((hB.alloc hB.size _).setCell (p := ⟨m, 2, none⟩) hwm _).setCell (p := ⟨m, 3, none⟩) hwm _
              have hput' := Lib.hid (hput x ⟨yv, ys, true, true⟩ W2 (hH.out.beneath hb2w) (Nat.le_trans hn0H.out hb2w.size) hroomH.out)
              have hb2H := Lib.hid hb2w
              have hW1H := Lib.hid hW1
              have hW2H := Lib.hid hW2
              have hmH := Lib.hid hm
              clear hB hm hwm hbx hW1 hW2 hb2 hb2w
              go_wp2_with (first | rw [hW1H.out, hmH.out] | rw [hW1H.out] | rw [hW2H.out])
              refine hput'.out.mono ?_
              rintro e W3 ⟨rfl, hE3⟩
              have hE3H := Lib.hid hE3
              clear hE3
              go_wp2_with fail
              go_ret
              exact ⟨by rw [hE.out]; rfl, by rw [hR.out]; exact .pre hb2H.out hE3H.out⟩
            · go_enter Try.func15, Try.ntmps15
              go_wp2_with (first | (go_at_call 34; refine (nameR_any x _ hx).mono ?_; rintro e w' ⟨rfl, rfl⟩; rw [hnmH.out]) | (go_at_call 35; refine hfcall.out.mono ?_; rintro e w' ⟨rfl, rfl⟩; rw [hf.out]))
              refine hatcall.out.mono ?_
              rintro e W ⟨rfl, hB⟩
              rw [hyH.out]
              unfold rcs
              dsimp only
              obtain ⟨m, hm⟩ : ∃ m, W.heap.size = m := ⟨_, rfl⟩
              have hwm : w'.heap.size ≤ m := by have := hB.size; omega
              have hbx := Blk.new W 73 #[.string x, .string yv, .bool true, .bool false, .bool (!ys)]
              obtain ⟨W1, hW1⟩ : ∃ W1, W.alloc (Obj.cells #[.string x, .string yv, .bool true, .bool false, .bool (!ys)] 73) = W1 := ⟨_, rfl⟩
              rw [hW1, hm] at hbx
              obtain ⟨⟨m0, m1, m2, m3, m4⟩, f0, f1, f2, f3, f4⟩ := blk5 hbx
              have hb2 := set5_marks (c' := .bool true) (d' := .bool false) hbx
              obtain ⟨W2, hW2⟩ : ∃ W2, (W1.setCell ⟨m, 2, none⟩ (.bool true)).setCell ⟨m, 3, none⟩ (.bool false) = W2 := ⟨_, rfl⟩
              rw [hW2] at hb2
              obtain ⟨⟨k0, k1, k2, k3, k4⟩, _⟩ := blk5 hb2
              have hb2w : Below w'.heap.size w' W2 := by rw [← hW2, ← hW1]; exact ((hB.alloc hB.size _).setCell (p := ⟨m, 2, none⟩) hwm _).setCell (p := ⟨m, 3, none⟩) hwm _
              have hput' := Lib.hid (hput x ⟨yv, ys, true, false⟩ W2 (hH.out.beneath hb2w) (Nat.le_trans hn0H.out hb2w.size) hroomH.out)
              have hb2H := Lib.hid hb2w
              have hW1H := Lib.hid hW1
              have hW2H := Lib.hid hW2
              have hmH := Lib.hid hm
              clear hB hm hwm hbx hW1 hW2 hb2 hb2w
              go_wp2_with (first | rw [hW1H.out, hmH.out] | rw [hW1H.out] | rw [hW2H.out])
              refine hput'.out.mono ?_
              rintro e W3 ⟨rfl, hE3⟩
              have hE3H := Lib.hid hE3
              clear hE3
              go_wp2_with fail
              go_ret
              exact ⟨by rw [hE.out]; rfl, by rw [hR.out]; exact .pre hb2H.out hE3H.out⟩
            · go_enter Try.func15, Try.ntmps15
              go_wp2_with (first | (go_at_call 34; refine (nameR_any x _ hx).mono ?_; rintro e w' ⟨rfl, rfl⟩; rw [hnmH.out]) | (go_at_call 35; refine hfcall.out.mono ?_; rintro e w' ⟨rfl, rfl⟩; rw [hf.out]))
              refine hatcall.out.mono ?_
              rintro e W ⟨rfl, hB⟩
              rw [hyH.out]
              unfold rcs
              dsimp only
              obtain ⟨m, hm⟩ : ∃ m, W.heap.size = m := ⟨_, rfl⟩
              have hwm : w'.heap.size ≤ m := by have := hB.size; omega
              have hbx := Blk.new W 73 #[.string x, .string yv, .bool true, .bool true, .bool (!ys)]
              obtain ⟨W1, hW1⟩ : ∃ W1, W.alloc (Obj.cells #[.string x, .string yv, .bool true, .bool true, .bool (!ys)] 73) = W1 := ⟨_, rfl⟩
              rw [hW1, hm] at hbx
              obtain ⟨⟨m0, m1, m2, m3, m4⟩, f0, f1, f2, f3, f4⟩ := blk5 hbx
              have hb2 := set5_marks (c' := .bool true) (d' := .bool true) hbx
              obtain ⟨W2, hW2⟩ : ∃ W2, (W1.setCell ⟨m, 2, none⟩ (.bool true)).setCell ⟨m, 3, none⟩ (.bool true) = W2 := ⟨_, rfl⟩
              rw [hW2] at hb2
              obtain ⟨⟨k0, k1, k2, k3, k4⟩, _⟩ := blk5 hb2
              have hb2w : Below w'.heap.size w' W2 := by rw [← hW2, ← hW1]; exact ((hB.alloc hB.size _).setCell (p := ⟨m, 2, none⟩) hwm _).setCell (p := ⟨m, 3, none⟩) hwm _
              have hput' := Lib.hid (hput x ⟨yv, ys, true, true⟩ W2 (hH.out.beneath hb2w) (Nat.le_trans hn0H.out hb2w.size) hroomH.out)
              have hb2H := Lib.hid hb2w
              have hW1H := Lib.hid hW1
              have hW2H := Lib.hid hW2
              have hmH := Lib.hid hm
              clear hB hm hwm hbx hW1 hW2 hb2 hb2w
              go_wp2_with (first | rw [hW1H.out, hmH.out] | rw [hW1H.out] | rw [hW2H.out])
              refine hput'.out.mono ?_
              rintro e W3 ⟨rfl, hE3⟩
              have hE3H := Lib.hid hE3
              clear hE3
              go_wp2_with fail
              go_ret
              exact ⟨by rw [hE.out]; rfl, by rw [hR.out]; exact .pre hb2H.out hE3H.out⟩
          · clear hno
            cases ye <;> cases yr
            · go_enter Try.func15, Try.ntmps15
              go_wp2_with (first | (go_at_call 34; refine (nameR_any x _ hx).mono ?_; rintro e w' ⟨rfl, rfl⟩; rw [hnmH.out]) | (go_at_call 35; refine hfcall.out.mono ?_; rintro e w' ⟨rfl, rfl⟩; rw [hf.out]))
              refine hatcall.out.mono ?_
              rintro e W ⟨rfl, hB⟩
              rw [hyH.out]
              unfold rcs
              dsimp only
              obtain ⟨m, hm⟩ : ∃ m, W.heap.size = m := ⟨_, rfl⟩
              have hwm : w'.heap.size ≤ m := by have := hB.size; omega
              have hbx := Blk.new W 73 #[.string x, .string yv, .bool false, .bool false, .bool (!ys)]
              obtain ⟨W1, hW1⟩ : ∃ W1, W.alloc (Obj.cells #[.string x, .string yv, .bool false, .bool false, .bool (!ys)] 73) = W1 := ⟨_, rfl⟩
              rw [hW1, hm] at hbx
              obtain ⟨⟨m0, m1, m2, m3, m4⟩, f0, f1, f2, f3, f4⟩ := blk5 hbx
              have hb2 := set5_marks (c' := .bool true) (d' := .bool true) hbx
              obtain ⟨W2, hW2⟩ : ∃ W2, (W1.setCell ⟨m, 2, none⟩ (.bool true)).setCell ⟨m, 3, none⟩ (.bool true) = W2 := ⟨_, rfl⟩
              rw [hW2] at hb2
              obtain ⟨⟨k0, k1, k2, k3, k4⟩, _⟩ := blk5 hb2
              have hb2w : Below w'.heap.size w' W2 := by rw [← hW2, ← hW1]; exact ((hB.alloc hB.size _).setCell (p := ⟨m, 2, none⟩) hwm _).setCell (p := ⟨m, 3, none⟩) hwm _
              have hput' := Lib.hid (hput x ⟨yv, ys, true, true⟩ W2 (hH.out.beneath hb2w) (Nat.le_trans hn0H.out hb2w.size) hroomH.out)
              have hb2H := Lib.hid hb2w
              have hW1H := Lib.hid hW1
              have hW2H := Lib.hid hW2
              have hmH := Lib.hid hm
              clear hB hm hwm hbx hW1 hW2 hb2 hb2w
              go_wp2_with (first | rw [hW1H.out, hmH.out] | rw [hW1H.out] | rw [hW2H.out])
              refine hput'.out.mono ?_
              rintro e W3 ⟨rfl, hE3⟩
              have hE3H := Lib.hid hE3
              clear hE3
              go_wp2_with fail
              go_ret
              exact ⟨by rw [hE.out]; rfl, by rw [hR.out]; exact .pre hb2H.out hE3H.out⟩
            · go_enter Try.func15, Try.ntmps15
              go_wp2_with (first | (go_at_call 34; refine (nameR_any x _ hx).mono ?_; rintro e w' ⟨rfl, rfl⟩; rw [hnmH.out]) | (go_at_call 35; refine hfcall.out.mono ?_; rintro e w' ⟨rfl, rfl⟩; rw [hf.out]))
              refine hatcall.out.mono ?_
              rintro e W ⟨rfl, hB⟩
              rw [hyH.out]
              unfold rcs
              dsimp only
              obtain ⟨m, hm⟩ : ∃ m, W.heap.size = m := ⟨_, rfl⟩
              have hwm : w'.heap.size ≤ m := by have := hB.size; omega
              have hbx := Blk.new W 73 #[.string x, .string yv, .bool false, .bool true, .bool (!ys)]
              obtain ⟨W1, hW1⟩ : ∃ W1, W.alloc (Obj.cells #[.string x, .string yv, .bool false, .bool true, .bool (!ys)] 73) = W1 := ⟨_, rfl⟩
              rw [hW1, hm] at hbx
              obtain ⟨⟨m0, m1, m2, m3, m4⟩, f0, f1, f2, f3, f4⟩ := blk5 hbx
              have hb2 := set5_marks (c' := .bool true) (d' := .bool true) hbx
              obtain ⟨W2, hW2⟩ : ∃ W2, (W1.setCell ⟨m, 2, none⟩ (.bool true)).setCell ⟨m, 3, none⟩ (.bool true) = W2 := ⟨_, rfl⟩
              rw [hW2] at hb2
              obtain ⟨⟨k0, k1, k2, k3, k4⟩, _⟩ := blk5 hb2
              have hb2w : Below w'.heap.size w' W2 := by rw [← hW2, ← hW1]; exact ((hB.alloc hB.size _).setCell (p := ⟨m, 2, none⟩) hwm _).setCell (p := ⟨m, 3, none⟩) hwm _
              have hput' := Lib.hid (hput x ⟨yv, ys, true, true⟩ W2 (hH.out.beneath hb2w) (Nat.le_trans hn0H.out hb2w.size) hroomH.out)
              have hb2H := Lib.hid hb2w
              have hW1H := Lib.hid hW1
              have hW2H := Lib.hid hW2
              have hmH := Lib.hid hm
              clear hB hm hwm hbx hW1 hW2 hb2 hb2w
              go_wp2_with (first | rw [hW1H.out, hmH.out] | rw [hW1H.out] | rw [hW2H.out])
              refine hput'.out.mono ?_
              rintro e W3 ⟨rfl, hE3⟩
              have hE3H := Lib.hid hE3
              clear hE3
              go_wp2_with fail
              go_ret
              exact ⟨by rw [hE.out]; rfl, by rw [hR.out]; exact .pre hb2H.out hE3H.out⟩
            · go_enter Try.func15, Try.ntmps15
              go_wp2_with (first | (go_at_call 34; refine (nameR_any x _ hx).mono ?_; rintro e w' ⟨rfl, rfl⟩; rw [hnmH.out]) | (go_at_call 35; refine hfcall.out.mono ?_; rintro e w' ⟨rfl, rfl⟩; rw [hf.out]))
              refine hatcall.out.mono ?_
              rintro e W ⟨rfl, hB⟩
              rw [hyH.out]
              unfold rcs
              dsimp only
              obtain ⟨m, hm⟩ : ∃ m, W.heap.size = m := ⟨_, rfl⟩
              have hwm : w'.heap.size ≤ m := by have := hB.size; omega
              have hbx := Blk.new W 73 #[.string x, .string yv, .bool true, .bool false, .bool (!ys)]
              obtain ⟨W1, hW1⟩ : ∃ W1, W.alloc (Obj.cells #[.string x, .string yv, .bool true, .bool false, .bool (!ys)] 73) = W1 := ⟨_, rfl⟩
              rw [hW1, hm] at hbx
              obtain ⟨⟨m0, m1, m2, m3, m4⟩, f0, f1, f2, f3, f4⟩ := blk5 hbx
              have hb2 := set5_marks (c' := .bool true) (d' := .bool true) hbx
              obtain ⟨W2, hW2⟩ : ∃ W2, (W1.setCell ⟨m, 2, none⟩ (.bool true)).setCell ⟨m, 3, none⟩ (.bool true) = W2 := ⟨_, rfl⟩
              rw [hW2] at hb2
              obtain ⟨⟨k0, k1, k2, k3, k4⟩, _⟩ := blk5 hb2
              have hb2w : Below w'.heap.size w' W2 := by rw [← hW2, ← hW1]; exact ((hB.alloc hB.size _).setCell (p := ⟨m, 2, none⟩) hwm _).setCell (p := ⟨m, 3, none⟩) hwm _
              have hput' := Lib.hid (hput x ⟨yv, ys, true, true⟩ W2 (hH.out.beneath hb2w) (Nat.le_trans hn0H.out hb2w.size) hroomH.out)
              have hb2H := Lib.hid hb2w
              have hW1H := Lib.hid hW1
              have hW2H := Lib.hid hW2
              have hmH := Lib.hid hm
              clear hB hm hwm hbx hW1 hW2 hb2 hb2w
              go_wp2_with (first | rw [hW1H.out, hmH.out] | rw [hW1H.out] | rw [hW2H.out])
              refine hput'.out.mono ?_
              rintro e W3 ⟨rfl, hE3⟩
              have hE3H := Lib.hid hE3
              clear hE3
              go_wp2_with fail
              go_ret
              exact ⟨by rw [hE.out]; rfl, by rw [hR.out]; exact .pre hb2H.out hE3H.out⟩
            · go_enter Try.func15, Try.ntmps15
              go_wp2_with (first | (go_at_call 34; refine (nameR_any x _ hx).mono ?_; rintro e w' ⟨rfl, rfl⟩; rw [hnmH.out]) | (go_at_call 35; refine hfcall.out.mono ?_; rintro e w' ⟨rfl, rfl⟩; rw [hf.out]))
              refine hatcall.out.mono ?_
              rintro e W ⟨rfl, hB⟩
              rw [hyH.out]
              unfold rcs
              dsimp only
              obtain ⟨m, hm⟩ : ∃ m, W.heap.size = m := ⟨_, rfl⟩
              have hwm : w'.heap.size ≤ m := by have := hB.size; omega
              have hbx := Blk.new W 73 #[.string x, .string yv, .bool true, .bool true, .bool (!ys)]
              obtain ⟨W1, hW1⟩ : ∃ W1, W.alloc (Obj.cells #[.string x, .string yv, .bool true, .bool true, .bool (!ys)] 73) = W1 := ⟨_, rfl⟩
              rw [hW1, hm] at hbx
              obtain ⟨⟨m0, m1, m2, m3, m4⟩, f0, f1, f2, f3, f4⟩ := blk5 hbx
              have hb2 := set5_marks (c' := .bool true) (d' := .bool true) hbx
              obtain ⟨W2, hW2⟩ : ∃ W2, (W1.setCell ⟨m, 2, none⟩ (.bool true)).setCell ⟨m, 3, none⟩ (.bool true) = W2 := ⟨_, rfl⟩
              rw [hW2] at hb2
              obtain ⟨⟨k0, k1, k2, k3, k4⟩, _⟩ := blk5 hb2
              have hb2w : Below w'.heap.size w' W2 := by rw [← hW2, ← hW1]; exact ((hB.alloc hB.size _).setCell (p := ⟨m, 2, none⟩) hwm _).setCell (p := ⟨m, 3, none⟩) hwm _
              have hput' := Lib.hid (hput x ⟨yv, ys, true, true⟩ W2 (hH.out.beneath hb2w) (Nat.le_trans hn0H.out hb2w.size) hroomH.out)
              have hb2H := Lib.hid hb2w
              have hW1H := Lib.hid hW1
              have hW2H := Lib.hid hW2
              have hmH := Lib.hid hm
              clear hB hm hwm hbx hW1 hW2 hb2 hb2w
              go_wp2_with (first | rw [hW1H.out, hmH.out] | rw [hW1H.out] | rw [hW2H.out])
              refine hput'.out.mono ?_
              rintro e W3 ⟨rfl, hE3⟩
              have hE3H := Lib.hid hE3
              clear hE3
              go_wp2_with fail
              go_ret
              exact ⟨by rw [hE.out]; rfl, by rw [hR.out]; exact .pre hb2H.out hE3H.out⟩
        | true =>
          obtain ⟨i, hi⟩ : ∃ i, pos (ks L) x = i := ⟨_, rfl⟩
          have hf0 := fnd_has hh
          rw [hi] at hf0
          have hf := Lib.hid hf0
          have hi0 : ¬ ((i : Int) < 0) := by omega
          clear h hn0 hnm hy hE0 hR0 hfull hroom hh hf0 hi
          cases ma <;> cases mb
          · exact absurd ⟨rfl, rfl⟩ hno
          · clear hno
            cases ye <;> cases yr
            · go_enter Try.func15, Try.ntmps15
              go_wp2_with (first | (go_at_call 34; refine (nameR_any x _ hx).mono ?_; rintro e w' ⟨rfl, rfl⟩; rw [hnmH.out]) | (go_at_call 35; refine hfcall.out.mono ?_; rintro e w' ⟨rfl, rfl⟩; rw [hf.out]))
              refine hatcall.out.mono ?_
              rintro e W ⟨rfl, hB⟩
              rw [hyH.out]
              unfold rcs
              dsimp only
              obtain ⟨m, hm⟩ : ∃ m, W.heap.size = m := ⟨_, rfl⟩
              have hwm : w'.heap.size ≤ m := by have := hB.size; omega
              have hbx := Blk.new W 73 #[.string x, .string yv, .bool false, .bool false, .bool (!ys)]
              obtain ⟨W1, hW1⟩ : ∃ W1, W.alloc (Obj.cells #[.string x, .string yv, .bool false, .bool false, .bool (!ys)] 73) = W1 := ⟨_, rfl⟩
              rw [hW1, hm] at hbx
              obtain ⟨⟨m0, m1, m2, m3, m4⟩, f0, f1, f2, f3, f4⟩ := blk5 hbx
              have hb2 := set5_marks (c' := .bool false) (d' := .bool true) hbx
              obtain ⟨W2, hW2⟩ : ∃ W2, (W1.setCell ⟨m, 2, none⟩ (.bool false)).setCell ⟨m, 3, none⟩ (.bool true) = W2 := ⟨_, rfl⟩
              rw [hW2] at hb2
              obtain ⟨⟨k0, k1, k2, k3, k4⟩, _⟩ := blk5 hb2
              have hb2w : Below w'.heap.size w' W2 := by rw [← hW2, ← hW1]; exact ((hB.alloc hB.size _).setCell (p := ⟨m, 2, none⟩) hwm _).setCell (p := ⟨m, 3, none⟩) hwm _
              have hput' := Lib.hid (hput x ⟨yv, ys, false, true⟩ W2 (hH.out.beneath hb2w) (Nat.le_trans hn0H.out hb2w.size) hroomH.out)
              have hb2H := Lib.hid hb2w
              have hW1H := Lib.hid hW1
              have hW2H := Lib.hid hW2
              have hmH := Lib.hid hm
              clear hB hm hwm hbx hW1 hW2 hb2 hb2w
              go_wp2_with (first | rw [hW1H.out, hmH.out] | rw [hW1H.out] | rw [hW2H.out])
              refine hput'.out.mono ?_
              rintro e W3 ⟨rfl, hE3⟩
              have hE3H := Lib.hid hE3
              clear hE3
              go_wp2_with fail
              go_ret
              exact ⟨by rw [hE.out]; rfl, by rw [hR.out]; exact .pre hb2H.out hE3H.out⟩
            · go_enter Try.func15, Try.ntmps15
              go_wp2_with (first | (go_at_call 34; refine (nameR_any x _ hx).mono ?_; rintro e w' ⟨rfl, rfl⟩; rw [hnmH.out]) | (go_at_call 35; refine hfcall.out.mono ?_; rintro e w' ⟨rfl, rfl⟩; rw [hf.out]))
              refine hatcall.out.mono ?_
              rintro e W ⟨rfl, hB⟩
              rw [hyH.out]
              unfold rcs
              dsimp only
              obtain ⟨m, hm⟩ : ∃ m, W.heap.size = m := ⟨_, rfl⟩
              have hwm : w'.heap.size ≤ m := by have := hB.size; omega
              have hbx := Blk.new W 73 #[.string x, .string yv, .bool false, .bool true, .bool (!ys)]
              obtain ⟨W1, hW1⟩ : ∃ W1, W.alloc (Obj.cells #[.string x, .string yv, .bool false, .bool true, .bool (!ys)] 73) = W1 := ⟨_, rfl⟩
              rw [hW1, hm] at hbx
              obtain ⟨⟨m0, m1, m2, m3, m4⟩, f0, f1, f2, f3, f4⟩ := blk5 hbx
              have hb2 := set5_marks (c' := .bool false) (d' := .bool true) hbx
              obtain ⟨W2, hW2⟩ : ∃ W2, (W1.setCell ⟨m, 2, none⟩ (.bool false)).setCell ⟨m, 3, none⟩ (.bool true) = W2 := ⟨_, rfl⟩
              rw [hW2] at hb2
              obtain ⟨⟨k0, k1, k2, k3, k4⟩, _⟩ := blk5 hb2
              have hb2w : Below w'.heap.size w' W2 := by rw [← hW2, ← hW1]; exact ((hB.alloc hB.size _).setCell (p := ⟨m, 2, none⟩) hwm _).setCell (p := ⟨m, 3, none⟩) hwm _
              have hput' := Lib.hid (hput x ⟨yv, ys, false, true⟩ W2 (hH.out.beneath hb2w) (Nat.le_trans hn0H.out hb2w.size) hroomH.out)
              have hb2H := Lib.hid hb2w
              have hW1H := Lib.hid hW1
              have hW2H := Lib.hid hW2
              have hmH := Lib.hid hm
              clear hB hm hwm hbx hW1 hW2 hb2 hb2w
              go_wp2_with (first | rw [hW1H.out, hmH.out] | rw [hW1H.out] | rw [hW2H.out])
              refine hput'.out.mono ?_
              rintro e W3 ⟨rfl, hE3⟩
              have hE3H := Lib.hid hE3
              clear hE3
              go_wp2_with fail
              go_ret
              exact ⟨by rw [hE.out]; rfl, by rw [hR.out]; exact .pre hb2H.out hE3H.out⟩
            · go_enter Try.func15, Try.ntmps15
              go_wp2_with (first | (go_at_call 34; refine (nameR_any x _ hx).mono ?_; rintro e w' ⟨rfl, rfl⟩; rw [hnmH.out]) | (go_at_call 35; refine hfcall.out.mono ?_; rintro e w' ⟨rfl, rfl⟩; rw [hf.out]))
              refine hatcall.out.mono ?_
              rintro e W ⟨rfl, hB⟩
              rw [hyH.out]
              unfold rcs
              dsimp only
              obtain ⟨m, hm⟩ : ∃ m, W.heap.size = m := ⟨_, rfl⟩
              have hwm : w'.heap.size ≤ m := by have := hB.size; omega
              have hbx := Blk.new W 73 #[.string x, .string yv, .bool true, .bool false, .bool (!ys)]
              obtain ⟨W1, hW1⟩ : ∃ W1, W.alloc (Obj.cells #[.string x, .string yv, .bool true, .bool false, .bool (!ys)] 73) = W1 := ⟨_, rfl⟩
              rw [hW1, hm] at hbx
              obtain ⟨⟨m0, m1, m2, m3, m4⟩, f0, f1, f2, f3, f4⟩ := blk5 hbx
              have hb2 := set5_marks (c' := .bool true) (d' := .bool true) hbx
              obtain ⟨W2, hW2⟩ : ∃ W2, (W1.setCell ⟨m, 2, none⟩ (.bool true)).setCell ⟨m, 3, none⟩ (.bool true) = W2 := ⟨_, rfl⟩
              rw [hW2] at hb2
              obtain ⟨⟨k0, k1, k2, k3, k4⟩, _⟩ := blk5 hb2
              have hb2w : Below w'.heap.size w' W2 := by rw [← hW2, ← hW1]; exact ((hB.alloc hB.size _).setCell (p := ⟨m, 2, none⟩) hwm _).setCell (p := ⟨m, 3, none⟩) hwm _
              have hput' := Lib.hid (hput x ⟨yv, ys, true, true⟩ W2 (hH.out.beneath hb2w) (Nat.le_trans hn0H.out hb2w.size) hroomH.out)
              have hb2H := Lib.hid hb2w
              have hW1H := Lib.hid hW1
              have hW2H := Lib.hid hW2
              have hmH := Lib.hid hm
              clear hB hm hwm hbx hW1 hW2 hb2 hb2w
              go_wp2_with (first | rw [hW1H.out, hmH.out] | rw [hW1H.out] | rw [hW2H.out])
              refine hput'.out.mono ?_
              rintro e W3 ⟨rfl, hE3⟩
              have hE3H := Lib.hid hE3
              clear hE3
              go_wp2_with fail
              go_ret
              exact ⟨by rw [hE.out]; rfl, by rw [hR.out]; exact .pre hb2H.out hE3H.out⟩
            · go_enter Try.func15, Try.ntmps15
              go_wp2_with (first | (go_at_call 34; refine (nameR_any x _ hx).mono ?_; rintro e w' ⟨rfl, rfl⟩; rw [hnmH.out]) | (go_at_call 35; refine hfcall.out.mono ?_; rintro e w' ⟨rfl, rfl⟩; rw [hf.out]))
              refine hatcall.out.mono ?_
              rintro e W ⟨rfl, hB⟩
              rw [hyH.out]
              unfold rcs
              dsimp only
              obtain ⟨m, hm⟩ : ∃ m, W.heap.size = m := ⟨_, rfl⟩
              have hwm : w'.heap.size ≤ m := by have := hB.size; omega
              have hbx := Blk.new W 73 #[.string x, .string yv, .bool true, .bool true, .bool (!ys)]
              obtain ⟨W1, hW1⟩ : ∃ W1, W.alloc (Obj.cells #[.string x, .string yv, .bool true, .bool true, .bool (!ys)] 73) = W1 := ⟨_, rfl⟩
              rw [hW1, hm] at hbx
              obtain ⟨⟨m0, m1, m2, m3, m4⟩, f0, f1, f2, f3, f4⟩ := blk5 hbx
              have hb2 := set5_marks (c' := .bool true) (d' := .bool true) hbx
              obtain ⟨W2, hW2⟩ : ∃ W2, (W1.setCell ⟨m, 2, none⟩ (.bool true)).setCell ⟨m, 3, none⟩ (.bool true) = W2 := ⟨_, rfl⟩
              rw [hW2] at hb2
              obtain ⟨⟨k0, k1, k2, k3, k4⟩, _⟩ := blk5 hb2
              have hb2w : Below w'.heap.size w' W2 := by rw [← hW2, ← hW1]; exact ((hB.alloc hB.size _).setCell (p := ⟨m, 2, none⟩) hwm _).setCell (p := ⟨m, 3, none⟩) hwm _
              have hput' := Lib.hid (hput x ⟨yv, ys, true, true⟩ W2 (hH.out.beneath hb2w) (Nat.le_trans hn0H.out hb2w.size) hroomH.out)
              have hb2H := Lib.hid hb2w
              have hW1H := Lib.hid hW1
              have hW2H := Lib.hid hW2
              have hmH := Lib.hid hm
              clear hB hm hwm hbx hW1 hW2 hb2 hb2w
              go_wp2_with (first | rw [hW1H.out, hmH.out] | rw [hW1H.out] | rw [hW2H.out])
              refine hput'.out.mono ?_
              rintro e W3 ⟨rfl, hE3⟩
              have hE3H := Lib.hid hE3
              clear hE3
              go_wp2_with fail
              go_ret
              exact ⟨by rw [hE.out]; rfl, by rw [hR.out]; exact .pre hb2H.out hE3H.out⟩
          · clear hno
            cases ye <;> cases yr
            · go_enter Try.func15, Try.ntmps15
              go_wp2_with (first | (go_at_call 34; refine (nameR_any x _ hx).mono ?_; rintro e w' ⟨rfl, rfl⟩; rw [hnmH.out]) | (go_at_call 35; refine hfcall.out.mono ?_; rintro e w' ⟨rfl, rfl⟩; rw [hf.out]))
              refine hatcall.out.mono ?_
              rintro e W ⟨rfl, hB⟩
              rw [hyH.out]
              unfold rcs
              dsimp only
              obtain ⟨m, hm⟩ : ∃ m, W.heap.size = m := ⟨_, rfl⟩
              have hwm : w'.heap.size ≤ m := by have := hB.size; omega
              have hbx := Blk.new W 73 #[.string x, .string yv, .bool false, .bool false, .bool (!ys)]
              obtain ⟨W1, hW1⟩ : ∃ W1, W.alloc (Obj.cells #[.string x, .string yv, .bool false, .bool false, .bool (!ys)] 73) = W1 := ⟨_, rfl⟩
              rw [hW1, hm] at hbx
              obtain ⟨⟨m0, m1, m2, m3, m4⟩, f0, f1, f2, f3, f4⟩ := blk5 hbx
              have hb2 := set5_marks (c' := .bool true) (d' := .bool false) hbx
              obtain ⟨W2, hW2⟩ : ∃ W2, (W1.setCell ⟨m, 2, none⟩ (.bool true)).setCell ⟨m, 3, none⟩ (.bool false) = W2 := ⟨_, rfl⟩
              rw [hW2] at hb2
              obtain ⟨⟨k0, k1, k2, k3, k4⟩, _⟩ := blk5 hb2
              have hb2w : Below w'.heap.size w' W2 := by rw [← hW2, ← hW1]; exact ((hB.alloc hB.size _).setCell (p := ⟨m, 2, none⟩) hwm _).setCell (p := ⟨m, 3, none⟩) hwm _
              have hput' := Lib.hid (hput x ⟨yv, ys, true, false⟩ W2 (hH.out.beneath hb2w) (Nat.le_trans hn0H.out hb2w.size) hroomH.out)
              have hb2H := Lib.hid hb2w
              have hW1H := Lib.hid hW1
              have hW2H := Lib.hid hW2
              have hmH := Lib.hid hm
              clear hB hm hwm hbx hW1 hW2 hb2 hb2w
              go_wp2_with (first | rw [hW1H.out, hmH.out] | rw [hW1H.out] | rw [hW2H.out])
              refine hput'.out.mono ?_
              rintro e W3 ⟨rfl, hE3⟩
              have hE3H := Lib.hid hE3
              clear hE3
              go_wp2_with fail
              go_ret
              exact ⟨by rw [hE.out]; rfl, by rw [hR.out]; exact .pre hb2H.out hE3H.out⟩
            · go_enter Try.func15, Try.ntmps15
              go_wp2_with (first | (go_at_call 34; refine (nameR_any x _ hx).mono ?_; rintro e w' ⟨rfl, rfl⟩; rw [hnmH.out]) | (go_at_call 35; refine hfcall.out.mono ?_; rintro e w' ⟨rfl, rfl⟩; rw [hf.out]))
              refine hatcall.out.mono ?_
              rintro e W ⟨rfl, hB⟩
              rw [hyH.out]
              unfold rcs
              dsimp only
              obtain ⟨m, hm⟩ : ∃ m, W.heap.size = m := ⟨_, rfl⟩
              have hwm : w'.heap.size ≤ m := by have := hB.size; omega
              have hbx := Blk.new W 73 #[.string x, .string yv, .bool false, .bool true, .bool (!ys)]
              obtain ⟨W1, hW1⟩ : ∃ W1, W.alloc (Obj.cells #[.string x, .string yv, .bool false, .bool true, .bool (!ys)] 73) = W1 := ⟨_, rfl⟩
              rw [hW1, hm] at hbx
              obtain ⟨⟨m0, m1, m2, m3, m4⟩, f0, f1, f2, f3, f4⟩ := blk5 hbx
              have hb2 := set5_marks (c' := .bool true) (d' := .bool true) hbx
              obtain ⟨W2, hW2⟩ : ∃ W2, (W1.setCell ⟨m, 2, none⟩ (.bool true)).setCell ⟨m, 3, none⟩ (.bool true) = W2 := ⟨_, rfl⟩
              rw [hW2] at hb2
              obtain ⟨⟨k0, k1, k2, k3, k4⟩, _⟩ := blk5 hb2
              have hb2w : Below w'.heap.size w' W2 := by rw [← hW2, ← hW1]; exact ((hB.alloc hB.size _).setCell (p := ⟨m, 2, none⟩) hwm _).setCell (p := ⟨m, 3, none⟩) hwm _
              have hput' := Lib.hid (hput x ⟨yv, ys, true, true⟩ W2 (hH.out.beneath hb2w) (Nat.le_trans hn0H.out hb2w.size) hroomH.out)
              have hb2H := Lib.hid hb2w
              have hW1H := Lib.hid hW1
              have hW2H := Lib.hid hW2
              have hmH := Lib.hid hm
              clear hB hm hwm hbx hW1 hW2 hb2 hb2w
              go_wp2_with (first | rw [hW1H.out, hmH.out] | rw [hW1H.out] | rw [hW2H.out])
              refine hput'.out.mono ?_
              rintro e W3 ⟨rfl, hE3⟩
              have hE3H := Lib.hid hE3
              clear hE3
              go_wp2_with fail
              go_ret
              exact ⟨by rw [hE.out]; rfl, by rw [hR.out]; exact .pre hb2H.out hE3H.out⟩
            · go_enter Try.func15, Try.ntmps15
              go_wp2_with (first | (go_at_call 34; refine (nameR_any x _ hx).mono ?_; rintro e w' ⟨rfl, rfl⟩; rw [hnmH.out]) | (go_at_call 35; refine hfcall.out.mono ?_; rintro e w' ⟨rfl, rfl⟩; rw [hf.out]))
              refine hatcall.out.mono ?_
              rintro e W ⟨rfl, hB⟩
              rw [hyH.out]
              unfold rcs
              dsimp only
              obtain ⟨m, hm⟩ : ∃ m, W.heap.size = m := ⟨_, rfl⟩
              have hwm : w'.heap.size ≤ m := by have := hB.size; omega
              have hbx := Blk.new W 73 #[.string x, .string yv, .bool true, .bool false, .bool (!ys)]
              obtain ⟨W1, hW1⟩ : ∃ W1, W.alloc (Obj.cells #[.string x, .string yv, .bool true, .bool false, .bool (!ys)] 73) = W1 := ⟨_, rfl⟩
              rw [hW1, hm] at hbx
              obtain ⟨⟨m0, m1, m2, m3, m4⟩, f0, f1, f2, f3, f4⟩ := blk5 hbx
              have hb2 := set5_marks (c' := .bool true) (d' := .bool false) hbx
              obtain ⟨W2, hW2⟩ : ∃ W2, (W1.setCell ⟨m, 2, none⟩ (.bool true)).setCell ⟨m, 3, none⟩ (.bool false) = W2 := ⟨_, rfl⟩
              rw [hW2] at hb2
              obtain ⟨⟨k0, k1, k2, k3, k4⟩, _⟩ := blk5 hb2
              have hb2w : Below w'.heap.size w' W2 := by rw [← hW2, ← hW1]; exact ((hB.alloc hB.size _).setCell (p := ⟨m, 2, none⟩) hwm _).setCell (p := ⟨m, 3, none⟩) hwm _
              have hput' := Lib.hid (hput x ⟨yv, ys, true, false⟩ W2 (hH.out.beneath hb2w) (Nat.le_trans hn0H.out hb2w.size) hroomH.out)
              have hb2H := Lib.hid hb2w
              have hW1H := Lib.hid hW1
              have hW2H := Lib.hid hW2
              have hmH := Lib.hid hm
              clear hB hm hwm hbx hW1 hW2 hb2 hb2w
              go_wp2_with (first | rw [hW1H.out, hmH.out] | rw [hW1H.out] | rw [hW2H.out])
              refine hput'.out.mono ?_
              rintro e W3 ⟨rfl, hE3⟩
              have hE3H := Lib.hid hE3
              clear hE3
              go_wp2_with fail
              go_ret
              exact ⟨by rw [hE.out]; rfl, by rw [hR.out]; exact .pre hb2H.out hE3H.out⟩
            · go_enter Try.func15, Try.ntmps15
              go_wp2_with (first | (go_at_call 34; refine (nameR_any x _ hx).mono ?_; rintro e w' ⟨rfl, rfl⟩; rw [hnmH.out]) | (go_at_call 35; refine hfcall.out.mono ?_; rintro e w' ⟨rfl, rfl⟩; rw [hf.out]))
              refine hatcall.out.mono ?_
              rintro e W ⟨rfl, hB⟩
              rw [hyH.out]
              unfold rcs
              dsimp only
              obtain ⟨m, hm⟩ : ∃ m, W.heap.size = m := ⟨_, rfl⟩
              have hwm : w'.heap.size ≤ m := by have := hB.size; omega
              have hbx := Blk.new W 73 #[.string x, .string yv, .bool true, .bool true, .bool (!ys)]
              obtain ⟨W1, hW1⟩ : ∃ W1, W.alloc (Obj.cells #[.string x, .string yv, .bool true, .bool true, .bool (!ys)] 73) = W1 := ⟨_, rfl⟩
              rw [hW1, hm] at hbx
              obtain ⟨⟨m0, m1, m2, m3, m4⟩, f0, f1, f2, f3, f4⟩ := blk5 hbx
              have hb2 := set5_marks (c' := .bool true) (d' := .bool true) hbx
              obtain ⟨W2, hW2⟩ : ∃ W2, (W1.setCell ⟨m, 2, none⟩ (.bool true)).setCell ⟨m, 3, none⟩ (.bool true) = W2 := ⟨_, rfl⟩
              rw [hW2] at hb2
              obtain ⟨⟨k0, k1, k2, k3, k4⟩, _⟩ := blk5 hb2
              have hb2w : Below w'.heap.size w' W2 := by rw [← hW2, ← hW1]; exact ((hB.alloc hB.size _).setCell (p := ⟨m, 2, none⟩) hwm _).setCell (p := ⟨m, 3, none⟩) hwm _
              have hput' := Lib.hid (hput x ⟨yv, ys, true, true⟩ W2 (hH.out.beneath hb2w) (Nat.le_trans hn0H.out hb2w.size) hroomH.out)
              have hb2H := Lib.hid hb2w
              have hW1H := Lib.hid hW1
              have hW2H := Lib.hid hW2
              have hmH := Lib.hid hm
              clear hB hm hwm hbx hW1 hW2 hb2 hb2w
              go_wp2_with (first | rw [hW1H.out, hmH.out] | rw [hW1H.out] | rw [hW2H.out])
              refine hput'.out.mono ?_
              rintro e W3 ⟨rfl, hE3⟩
              have hE3H := Lib.hid hE3
              clear hE3
              go_wp2_with fail
              go_ret
              exact ⟨by rw [hE.out]; rfl, by rw [hR.out]; exact .pre hb2H.out hE3H.out⟩
          · clear hno
            cases ye <;> cases yr
            · go_enter Try.func15, Try.ntmps15
              go_wp2_with (first | (go_at_call 34; refine (nameR_any x _ hx).mono ?_; rintro e w' ⟨rfl, rfl⟩; rw [hnmH.out]) | (go_at_call 35; refine hfcall.out.mono ?_; rintro e w' ⟨rfl, rfl⟩; rw [hf.out]))
              refine hatcall.out.mono ?_
              rintro e W ⟨rfl, hB⟩
              rw [hyH.out]
              unfold rcs
              dsimp only
              obtain ⟨m, hm⟩ : ∃ m, W.heap.size = m := ⟨_, rfl⟩
              have hwm : w'.heap.size ≤ m := by have := hB.size; omega
              have hbx := Blk.new W 73 #[.string x, .string yv, .bool false, .bool false, .bool (!ys)]
              obtain ⟨W1, hW1⟩ : ∃ W1, W.alloc (Obj.cells #[.string x, .string yv, .bool false, .bool false, .bool (!ys)] 73) = W1 := ⟨_, rfl⟩
              rw [hW1, hm] at hbx
              obtain ⟨⟨m0, m1, m2, m3, m4⟩, f0, f1, f2, f3, f4⟩ := blk5 hbx
              have hb2 := set5_marks (c' := .bool true) (d' := .bool true) hbx
              obtain ⟨W2, hW2⟩ : ∃ W2, (W1.setCell ⟨m, 2, none⟩ (.bool true)).setCell ⟨m, 3, none⟩ (.bool true) = W2 := ⟨_, rfl⟩
              rw [hW2] at hb2
              obtain ⟨⟨k0, k1, k2, k3, k4⟩, _⟩ := blk5 hb2
              have hb2w : Below w'.heap.size w' W2 := by rw [← hW2, ← hW1]; exact ((hB.alloc hB.size _).setCell (p := ⟨m, 2, none⟩) hwm _).setCell (p := ⟨m, 3, none⟩) hwm _
              have hput' := Lib.hid (hput x ⟨yv, ys, true, true⟩ W2 (hH.out.beneath hb2w) (Nat.le_trans hn0H.out hb2w.size) hroomH.out)
              have hb2H := Lib.hid hb2w
              have hW1H := Lib.hid hW1
              have hW2H := Lib.hid hW2
              have hmH := Lib.hid hm
              clear hB hm hwm hbx hW1 hW2 hb2 hb2w
              go_wp2_with (first | rw [hW1H.out, hmH.out] | rw [hW1H.out] | rw [hW2H.out])
              refine hput'.out.mono ?_
              rintro e W3 ⟨rfl, hE3⟩
              have hE3H := Lib.hid hE3
              clear hE3
              go_wp2_with fail
              go_ret
              exact ⟨by rw [hE.out]; rfl, by rw [hR.out]; exact .pre hb2H.out hE3H.out⟩
            · go_enter Try.func15, Try.ntmps15
              go_wp2_with (first | (go_at_call 34; refine (nameR_any x _ hx).mono ?_; rintro e w' ⟨rfl, rfl⟩; rw [hnmH.out]) | (go_at_call 35; refine hfcall.out.mono ?_; rintro e w' ⟨rfl, rfl⟩; rw [hf.out]))
              refine hatcall.out.mono ?_
              rintro e W ⟨rfl, hB⟩
              rw [hyH.out]
              unfold rcs
              dsimp only
              obtain ⟨m, hm⟩ : ∃ m, W.heap.size = m := ⟨_, rfl⟩
              have hwm : w'.heap.size ≤ m := by have := hB.size; omega
              have hbx := Blk.new W 73 #[.string x, .string yv, .bool false, .bool true, .bool (!ys)]
              obtain ⟨W1, hW1⟩ : ∃ W1, W.alloc (Obj.cells #[.string x, .string yv, .bool false, .bool true, .bool (!ys)] 73) = W1 := ⟨_, rfl⟩
              rw [hW1, hm] at hbx
              obtain ⟨⟨m0, m1, m2, m3, m4⟩, f0, f1, f2, f3, f4⟩ := blk5 hbx
              have hb2 := set5_marks (c' := .bool true) (d' := .bool true) hbx
              obtain ⟨W2, hW2⟩ : ∃ W2, (W1.setCell ⟨m, 2, none⟩ (.bool true)).setCell ⟨m, 3, none⟩ (.bool true) = W2 := ⟨_, rfl⟩
              rw [hW2] at hb2
              obtain ⟨⟨k0, k1, k2, k3, k4⟩, _⟩ := blk5 hb2
              have hb2w : Below w'.heap.size w' W2 := by rw [← hW2, ← hW1]; exact ((hB.alloc hB.size _).setCell (p := ⟨m, 2, none⟩) hwm _).setCell (p := ⟨m, 3, none⟩) hwm _
              have hput' := Lib.hid (hput x ⟨yv, ys, true, true⟩ W2 (hH.out.beneath hb2w) (Nat.le_trans hn0H.out hb2w.size) hroomH.out)
              have hb2H := Lib.hid hb2w
              have hW1H := Lib.hid hW1
              have hW2H := Lib.hid hW2
              have hmH := Lib.hid hm
              clear hB hm hwm hbx hW1 hW2 hb2 hb2w
              go_wp2_with (first | rw [hW1H.out, hmH.out] | rw [hW1H.out] | rw [hW2H.out])
              refine hput'.out.mono ?_
              rintro e W3 ⟨rfl, hE3⟩
              have hE3H := Lib.hid hE3
              clear hE3
              go_wp2_with fail
              go_ret
              exact ⟨by rw [hE.out]; rfl, by rw [hR.out]; exact .pre hb2H.out hE3H.out⟩
            · go_enter Try.func15, Try.ntmps15
              go_wp2_with (first | (go_at_call 34; refine (nameR_any x _ hx).mono ?_; rintro e w' ⟨rfl, rfl⟩; rw [hnmH.out]) | (go_at_call 35; refine hfcall.out.mono ?_; rintro e w' ⟨rfl, rfl⟩; rw [hf.out]))
              refine hatcall.out.mono ?_
              rintro e W ⟨rfl, hB⟩
              rw [hyH.out]
              unfold rcs
              dsimp only
              obtain ⟨m, hm⟩ : ∃ m, W.heap.size = m := ⟨_, rfl⟩
              have hwm : w'.heap.size ≤ m := by have := hB.size; omega
              have hbx := Blk.new W 73 #[.string x, .string yv, .bool true, .bool false, .bool (!ys)]
              obtain ⟨W1, hW1⟩ : ∃ W1, W.alloc (Obj.cells #[.string x, .string yv, .bool true, .bool false, .bool (!ys)] 73) = W1 := ⟨_, rfl⟩
              rw [hW1, hm] at hbx
              obtain ⟨⟨m0, m1, m2, m3, m4⟩, f0, f1, f2, f3, f4⟩ := blk5 hbx
              have hb2 := set5_marks (c' := .bool true) (d' := .bool true) hbx
              obtain ⟨W2, hW2⟩ : ∃ W2, (W1.setCell ⟨m, 2, none⟩ (.bool true)).setCell ⟨m, 3, none⟩ (.bool true) = W2 := ⟨_, rfl⟩
              rw [hW2] at hb2
              obtain ⟨⟨k0, k1, k2, k3, k4⟩, _⟩ := blk5 hb2
              have hb2w : Below w'.heap.size w' W2 := by rw [← hW2, ← hW1]; exact ((hB.alloc hB.size _).setCell (p := ⟨m, 2, none⟩) hwm _).setCell (p := ⟨m, 3, none⟩) hwm _
              have hput' := Lib.hid (hput x ⟨yv, ys, true, true⟩ W2 (hH.out.beneath hb2w) (Nat.le_trans hn0H.out hb2w.size) hroomH.out)
              have hb2H := Lib.hid hb2w
              have hW1H := Lib.hid hW1
              have hW2H := Lib.hid hW2
              have hmH := Lib.hid hm
              clear hB hm hwm hbx hW1 hW2 hb2 hb2w
              go_wp2_with (first | rw [hW1H.out, hmH.out] | rw [hW1H.out] | rw [hW2H.out])
              refine hput'.out.mono ?_
              rintro e W3 ⟨rfl, hE3⟩
              have hE3H := Lib.hid hE3
              clear hE3
              go_wp2_with fail
              go_ret
              exact ⟨by rw [hE.out]; rfl, by rw [hR.out]; exact .pre hb2H.out hE3H.out⟩
            · go_enter Try.func15, Try.ntmps15
              go_wp2_with (first | (go_at_call 34; refine (nameR_any x _ hx).mono ?_; rintro e w' ⟨rfl, rfl⟩; rw [hnmH.out]) | (go_at_call 35; refine hfcall.out.mono ?_; rintro e w' ⟨rfl, rfl⟩; rw [hf.out]))
              refine hatcall.out.mono ?_
              rintro e W ⟨rfl, hB⟩
              rw [hyH.out]
              unfold rcs
              dsimp only
              obtain ⟨m, hm⟩ : ∃ m, W.heap.size = m := ⟨_, rfl⟩
              have hwm : w'.heap.size ≤ m := by have := hB.size; omega
              have hbx := Blk.new W 73 #[.string x, .string yv, .bool true, .bool true, .bool (!ys)]
              obtain ⟨W1, hW1⟩ : ∃ W1, W.alloc (Obj.cells #[.string x, .string yv, .bool true, .bool true, .bool (!ys)] 73) = W1 := ⟨_, rfl⟩
              rw [hW1, hm] at hbx
              obtain ⟨⟨m0, m1, m2, m3, m4⟩, f0, f1, f2, f3, f4⟩ := blk5 hbx
              have hb2 := set5_marks (c' := .bool true) (d' := .bool true) hbx
              obtain ⟨W2, hW2⟩ : ∃ W2, (W1.setCell ⟨m, 2, none⟩ (.bool true)).setCell ⟨m, 3, none⟩ (.bool true) = W2 := ⟨_, rfl⟩
              rw [hW2] at hb2
              obtain ⟨⟨k0, k1, k2, k3, k4⟩, _⟩ := blk5 hb2
              have hb2w : Below w'.heap.size w' W2 := by rw [← hW2, ← hW1]; exact ((hB.alloc hB.size _).setCell (p := ⟨m, 2, none⟩) hwm _).setCell (p := ⟨m, 3, none⟩) hwm _
              have hput' := Lib.hid (hput x ⟨yv, ys, true, true⟩ W2 (hH.out.beneath hb2w) (Nat.le_trans hn0H.out hb2w.size) hroomH.out)
              have hb2H := Lib.hid hb2w
              have hW1H := Lib.hid hW1
              have hW2H := Lib.hid hW2
              have hmH := Lib.hid hm
              clear hB hm hwm hbx hW1 hW2 hb2 hb2w
              go_wp2_with (first | rw [hW1H.out, hmH.out] | rw [hW1H.out] | rw [hW2H.out])
              refine hput'.out.mono ?_
              rintro e W3 ⟨rfl, hE3⟩
              have hE3H := Lib.hid hE3
              clear hE3
              go_wp2_with fail
              go_ret
              exact ⟨by rw [hE.out]; rfl, by rw [hR.out]; exact .pre hb2H.out hE3H.out⟩
end Go.Proofs.Ytklepnldoajghaa
