/- The reference's Set and Mark, over its put. Condition: the rows lie as stated. -/
import Derived.Test.YtklepnldoajghaaVarCI
namespace Go.Proofs.Ytklepnldoajghaa
open Go.RowKit Go.PlainAid
attribute [local go_sem] Oper.semAt_some

/-- What put is to do. -/
def PutOk : Prop := ∀ {n₀ q : Nat} {L : Vl} {A : List ByteArray} {lv av : Value} (x : ByteArray) (y : Vb) (w : World), RefAt n₀ w q L A lv av → n₀ ≤ w.heap.size → (has (ks L) x = false → L.length < 64) →
    Calls Try.prog 36 #[.pointer (some ⟨q, 0, none⟩), .agg (rcs (x, y)).toArray] w fun e w' => e = .returned (.tuple #[]) ∧ REnds n₀ q (setL L x y) A w w'

theorem set5_blk {W : World} {m : Nat} {a b c d e b' e' : Value} {t : TypeId} (h : Blk W m t #[a, b, c, d, e]) : Blk ((W.setCell ⟨m, 1, none⟩ b').setCell ⟨m, 4, none⟩ e') m t #[a, b', c, d, e'] := (h.set_ 1 _).set_ 4 _

set_option maxHeartbeats 4000000 in
theorem setR_call (hput : PutOk) {n₀ q : Nat} {L : Vl} {A : List ByteArray} {lv av : Value} (x v : ByteArray) (w : World) (h : RefAt n₀ w q L A lv av) (hn0 : n₀ ≤ w.heap.size) (hx : x.size ≤ maxLen) (hv : v.size ≤ maxLen) :
    Calls Try.prog 11 #[.pointer (some ⟨q, 0, none⟩), .string x, .string v] w fun e w' => e = .returned (.int .i64 (setE L x v)) ∧ REnds n₀ q (setR L x v) A w w' := by
  have hH := Lib.hid h
  have hn0H := Lib.hid hn0
  have hatcall := Lib.hid (at_any x w h)
  obtain ⟨y, hy⟩ : ∃ y, got L x = y := ⟨_, rfl⟩
  have hyH := Lib.hid hy
  have hvm : (v.size : Int) ≤ 9223372036854775807 := by unfold maxLen at hv; omega
  obtain ⟨B1, hB1⟩ : ∃ B1 : World → World, B1 = fun W => W.alloc (.cells #[.string x, .string y.val, .bool y.ex, .bool y.ro, .bool (!y.st)] 73) := ⟨_, rfl⟩
  cases hnm : isName x with
  | false =>
    have hE : Hid (setE L x v = 22) := Lib.hid (by unfold setE; rw [if_pos hnm])
    have hR : Hid (setR L x v = L) := Lib.hid (by unfold setR; rw [hE.out]; rfl)
    have hnmH := Lib.hid hnm
    clear h hn0 hnm hy hB1
    go_enter Try.func11, Try.ntmps11
    go_wp2_with fail
    refine hatcall.out.mono ?_
    rintro e W ⟨rfl, hB⟩
    rw [hyH.out]
    unfold rcs
    have hBH := Lib.hid hB
    clear hB
    go_wp2_with (go_at_call 34; refine (nameR_any x _ hx).mono ?_; rintro e w' ⟨rfl, rfl⟩; rw [hnmH.out])
    go_ret
    exact ⟨by rw [hE.out]; rfl, by rw [hR.out]; exact .same hH.out (hBH.out.alloc hBH.out.size _)⟩
  | true =>
    have hnmH := Lib.hid hnm
    cases hro : y.ro with
    | true =>
      have hE : Hid (setE L x v = 63) := Lib.hid (by unfold setE; rw [if_neg (by rw [hnm]; simp), if_pos (by rw [hy]; exact hro)])
      have hR : Hid (setR L x v = L) := Lib.hid (by unfold setR; rw [hE.out]; rfl)
      have hroH := Lib.hid hro
      clear h hn0 hnm hy hB1 hro
      go_enter Try.func11, Try.ntmps11
      go_wp2_with fail
      refine hatcall.out.mono ?_
      rintro e W ⟨rfl, hB⟩
      rw [hyH.out]
      unfold rcs
      rw [hroH.out]
      have hBH := Lib.hid hB
      clear hB
      go_wp2_with (go_at_call 34; refine (nameR_any x _ hx).mono ?_; rintro e w' ⟨rfl, rfl⟩; rw [hnmH.out])
      go_ret
      exact ⟨by rw [hE.out]; rfl, by rw [hR.out]; exact .same hH.out (hBH.out.alloc hBH.out.size _)⟩
    | false =>
      have hroH := Lib.hid hro
      by_cases hsz : 65536 < v.size
      · have hE : Hid (setE L x v = 66) := Lib.hid (by unfold setE; rw [if_neg (by rw [hnm]; simp), if_neg (by rw [hy, hro]; simp), if_pos hsz])
        have hR : Hid (setR L x v = L) := Lib.hid (by unfold setR; rw [hE.out]; rfl)
        have hsz' : (65536 : Int) < v.size := by omega
        clear h hn0 hnm hy hB1 hro hsz
        go_enter Try.func11, Try.ntmps11
        go_wp2_with fail
        refine hatcall.out.mono ?_
        rintro e W ⟨rfl, hB⟩
        rw [hyH.out]
        unfold rcs
        rw [hroH.out]
        have hBH := Lib.hid hB
        clear hB
        go_wp2_with (go_at_call 34; refine (nameR_any x _ hx).mono ?_; rintro e w' ⟨rfl, rfl⟩; rw [hnmH.out])
        go_ret
        exact ⟨by rw [hE.out]; rfl, by rw [hR.out]; exact .same hH.out (hBH.out.alloc hBH.out.size _)⟩
      · have hsz' : ¬ (65536 : Int) < v.size := by omega
        by_cases hfull : has (ks L) x = false ∧ 64 ≤ L.length
        · have hE : Hid (setE L x v = 64) := Lib.hid (by unfold setE; rw [if_neg (by rw [hnm]; simp), if_neg (by rw [hy, hro]; simp), if_neg hsz, if_pos hfull])
          have hR : Hid (setR L x v = L) := Lib.hid (by unfold setR; rw [hE.out]; rfl)
          have hf := Lib.hid (fnd_not hfull.1)
          have hlen : (64 : Int) ≤ (L.length : Int) := by omega
          obtain ⟨a0, c0, e0⟩ := ownsRow_slice h.list
          have e0H := Lib.hid e0
          clear h hn0 hnm hy hB1 hro hsz hfull e0
          go_enter Try.func11, Try.ntmps11
          go_wp2_with fail
          refine hatcall.out.mono ?_
          rintro e W ⟨rfl, hB⟩
          rw [hyH.out]
          unfold rcs
          rw [hroH.out]
          have hB' := hB.alloc hB.size (Obj.cells #[.string x, .string y.val, .bool y.ex, .bool false, .bool (!y.st)] 73)
          have hBH := Lib.hid hB'
          have hVW := hH.out.beneath hB'
          have hcall := Lib.hid (find_any x _ hVW)
          have p0 := hVW.blk.cell 0
          rw [e0H.out] at p0
          have p0' : (W.alloc (Obj.cells #[.string x, .string y.val, .bool y.ex, .bool false, .bool (!y.st)] 73)).cell? ⟨q, 0, none⟩ = some (.slice a0 L.length c0) := p0
          clear hB hB' hVW p0
          go_wp2_with (first | (go_at_call 34; refine (nameR_any x _ hx).mono ?_; rintro e w' ⟨rfl, rfl⟩; rw [hnmH.out]) | (go_at_call 35; refine hcall.out.mono ?_; rintro e w' ⟨rfl, rfl⟩; rw [hf.out]))
          go_ret
          exact ⟨by rw [hE.out]; rfl, by rw [hR.out]; exact .same hH.out hBH.out⟩
        · have hE : Hid (setE L x v = 0) := Lib.hid (by unfold setE; rw [if_neg (by rw [hnm]; simp), if_neg (by rw [hy, hro]; simp), if_neg hsz, if_neg hfull])
          have hR : Hid (setR L x v = setL L x ⟨v, true, y.ex, false⟩) := Lib.hid (by unfold setR; rw [hE.out, hy, if_pos rfl]; show setL L x ⟨v, true, y.ex, y.ro⟩ = _; rw [hro])
          have hroom : has (ks L) x = false → L.length < 64 := fun e => by
            have : ¬ 64 ≤ L.length := fun g => hfull ⟨e, g⟩
            omega
          have hroomH := Lib.hid hroom
          cases hh : has (ks L) x with
          | false =>
            have hf := Lib.hid (fnd_not hh)
            have hlen : ¬ (64 : Int) ≤ (L.length : Int) := by have := hroom hh; omega
            obtain ⟨a0, c0, e0⟩ := ownsRow_slice h.list
            have e0H := Lib.hid e0
            clear h hn0 hnm hy hB1 hro hsz hfull e0 hroom hh
            go_enter Try.func11, Try.ntmps11
            go_wp2_with fail
            refine hatcall.out.mono ?_
            rintro e W ⟨rfl, hB⟩
            rw [hyH.out]
            unfold rcs
            rw [hroH.out]
            have hB' := hB.alloc hB.size (Obj.cells #[.string x, .string y.val, .bool y.ex, .bool false, .bool (!y.st)] 73)
            have hBH := Lib.hid hB'
            have hVW := hH.out.beneath hB'
            have hcall := Lib.hid (find_any x _ hVW)
            have p0 := hVW.blk.cell 0
            rw [e0H.out] at p0
            have p0' : (W.alloc (Obj.cells #[.string x, .string y.val, .bool y.ex, .bool false, .bool (!y.st)] 73)).cell? ⟨q, 0, none⟩ = some (.slice a0 L.length c0) := p0
            clear p0
            have hbx := Blk.new W 73 #[.string x, .string y.val, .bool y.ex, .bool false, .bool (!y.st)]
            obtain ⟨m, hm⟩ : ∃ m, W.heap.size = m := ⟨_, rfl⟩
            obtain ⟨W1, hW1⟩ : ∃ W1, W.alloc (Obj.cells #[.string x, .string y.val, .bool y.ex, .bool false, .bool (!y.st)] 73) = W1 := ⟨_, rfl⟩
            have hsz1 : m < W1.heap.size := by rw [← hW1, ← hm]; simp
            rw [hW1] at hbx hVW hBH hcall
            rw [hm] at hbx
            have hb2 := set5_blk (b' := .string v) (e' := .bool false) hbx
            obtain ⟨⟨m0, m1, m2, m3, m4⟩, f0, f1, f2, f3, f4⟩ := blk5 hbx
            obtain ⟨W2, hW2⟩ : ∃ W2, (W1.setCell ⟨m, 1, none⟩ (.string v)).setCell ⟨m, 4, none⟩ (.bool false) = W2 := ⟨_, rfl⟩
            rw [hW2] at hb2
            have hwm : w.heap.size ≤ m := by have := hB.size; omega
            have hb2w : Below w.heap.size w W2 := by rw [← hW2]; exact (hBH.out.setCell hwm _).setCell hwm _
            obtain ⟨⟨k0, k1, k2, k3, k4⟩, _⟩ := blk5 hb2
            have hput' := Lib.hid (hput x ⟨v, true, y.ex, false⟩ W2 (hH.out.beneath hb2w) (Nat.le_trans hn0H.out hb2w.size) hroomH.out)
            have hb2H := Lib.hid hb2w
            have hW1H := Lib.hid hW1
            have hmH := Lib.hid hm
            have hW2H := Lib.hid hW2
            rw [hW1] at p0'
            clear hB hB' hVW hbx hW1 hm hb2 hW2 hb2w hsz1 hwm
            go_wp2_with (first | rw [hW1H.out, hmH.out] | rw [hW1H.out] | (go_at_call 34; refine (nameR_any x _ hx).mono ?_; rintro e w' ⟨rfl, rfl⟩; rw [hnmH.out]) | (go_at_call 35; refine hcall.out.mono ?_; rintro e w' ⟨rfl, rfl⟩; rw [hf.out]) | rw [hW2H.out])
            refine hput'.out.mono ?_
            rintro e W3 ⟨rfl, hE3⟩
            have hE3H := Lib.hid hE3
            clear hE3
            go_wp2_with fail
            go_ret
            exact ⟨by rw [hE.out]; rfl, by rw [hR.out]; exact .pre hb2H.out hE3H.out⟩
          | true =>
            obtain ⟨i, hi⟩ : ∃ i, pos (ks L) x = i := ⟨_, rfl⟩
            have hf0 := fnd_has hh
            rw [hi] at hf0
            have hf := Lib.hid hf0
            have hi0 : ¬ ((i : Int) < 0) := by omega
            clear h hn0 hnm hy hB1 hro hsz hfull hroom hh hf0 hi
            go_enter Try.func11, Try.ntmps11
            go_wp2_with fail
            refine hatcall.out.mono ?_
            rintro e W ⟨rfl, hB⟩
            rw [hyH.out]
            unfold rcs
            rw [hroH.out]
            have hB' := hB.alloc hB.size (Obj.cells #[.string x, .string y.val, .bool y.ex, .bool false, .bool (!y.st)] 73)
            have hBH := Lib.hid hB'
            have hVW := hH.out.beneath hB'
            have hcall := Lib.hid (find_any x _ hVW)
            have hbx := Blk.new W 73 #[.string x, .string y.val, .bool y.ex, .bool false, .bool (!y.st)]
            obtain ⟨m, hm⟩ : ∃ m, W.heap.size = m := ⟨_, rfl⟩
            obtain ⟨W1, hW1⟩ : ∃ W1, W.alloc (Obj.cells #[.string x, .string y.val, .bool y.ex, .bool false, .bool (!y.st)] 73) = W1 := ⟨_, rfl⟩
            have hsz1 : m < W1.heap.size := by rw [← hW1, ← hm]; simp
            rw [hW1] at hbx hVW hBH hcall
            rw [hm] at hbx
            have hb2 := set5_blk (b' := .string v) (e' := .bool false) hbx
            obtain ⟨⟨m0, m1, m2, m3, m4⟩, f0, f1, f2, f3, f4⟩ := blk5 hbx
            obtain ⟨W2, hW2⟩ : ∃ W2, (W1.setCell ⟨m, 1, none⟩ (.string v)).setCell ⟨m, 4, none⟩ (.bool false) = W2 := ⟨_, rfl⟩
            rw [hW2] at hb2
            have hwm : w.heap.size ≤ m := by have := hB.size; omega
            have hb2w : Below w.heap.size w W2 := by rw [← hW2]; exact (hBH.out.setCell hwm _).setCell hwm _
            obtain ⟨⟨k0, k1, k2, k3, k4⟩, _⟩ := blk5 hb2
            have hput' := Lib.hid (hput x ⟨v, true, y.ex, false⟩ W2 (hH.out.beneath hb2w) (Nat.le_trans hn0H.out hb2w.size) hroomH.out)
            have hb2H := Lib.hid hb2w
            have hW1H := Lib.hid hW1
            have hmH := Lib.hid hm
            have hW2H := Lib.hid hW2
            clear hB hB' hVW hbx hW1 hm hb2 hW2 hb2w hsz1 hwm
            go_wp2_with (first | rw [hW1H.out, hmH.out] | rw [hW1H.out] | (go_at_call 34; refine (nameR_any x _ hx).mono ?_; rintro e w' ⟨rfl, rfl⟩; rw [hnmH.out]) | (go_at_call 35; refine hcall.out.mono ?_; rintro e w' ⟨rfl, rfl⟩; rw [hf.out]) | rw [hW2H.out])
            refine hput'.out.mono ?_
            rintro e W3 ⟨rfl, hE3⟩
            have hE3H := Lib.hid hE3
            clear hE3
            go_wp2_with fail
            go_ret
            exact ⟨by rw [hE.out]; rfl, by rw [hR.out]; exact .pre hb2H.out hE3H.out⟩
end Go.Proofs.Ytklepnldoajghaa
