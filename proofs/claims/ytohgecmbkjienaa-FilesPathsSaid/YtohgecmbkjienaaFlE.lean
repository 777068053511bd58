/- What reads an inode: find, lookup, nameOf, isDir, may, size. Condition: the inode lies as stated. -/
import Derived.Test.YtohgecmbkjienaaFlC
namespace Go.Proofs.Ytohgecmbkjienaa
open Go.RowKit Go.PlainAid
attribute [local go_sem] Oper.semAt_some

structure Fine (I : Ino) : Prop where
  srt : Sorted (nms I.ents)
  el : I.ents.length ≤ 10000
  dl : I.data.length ≤ 70000
  ll : I.links ≤ 10000
  hl : I.holds ≤ 10000
section
variable {w : World} {S : Nat → Prop} {q : Nat} {I : Ino} {dv ev : Value}

theorem find_any (h : InoAt w S q I dv ev) (hf : Fine I) (x : ByteArray) : Calls Try.prog 69 #[.pointer (some ⟨q, 0, none⟩), .string x] w fun e w' => e = .returned (.tuple #[.int .i64 (pos (nms I.ents) x : Nat), .bool (has (nms I.ents) x)]) ∧ Below w.heap.size w w' := by
  have c5 : w.cell? ⟨q, 5, none⟩ = some ev := h.blk.cell 5
  have hs := Lib.hid (search_any I.ents x ev w h.ent (by have := hf.el; omega) hf.srt)
  clear h hf
  go_enter Try.func69, Try.ntmps69
  go_wp2_with (go_at_call 76; refine hs.out.mono ?_; rintro e w' ⟨rfl, hb⟩)
  go_ret2
  exact ⟨rfl, hb⟩
theorem lookM_no {l : Ents} {x : ByteArray} (h : has (nms l) x = false) : lookM l x = 0 := by unfold lookM; rw [if_neg (by rw [h]; decide)]
theorem lookM_yes {l : Ents} {x : ByteArray} (h : has (nms l) x = true) : ∃ y, l[pos (nms l) x]? = some y ∧ y.1 = x ∧ lookM l x = y.2 := by
  have h1 : (nms l)[pos (nms l) x]? = some x := of_decide_eq_true h
  obtain ⟨y, hy, he⟩ := nms_at h1
  refine ⟨y, hy, he, ?_⟩
  unfold lookM
  rw [if_pos h, hy]
  rfl
theorem lookup_any (h : InoAt w S q I dv ev) (hf : Fine I) (x : ByteArray) : Calls Try.prog 55 #[.pointer (some ⟨q, 0, none⟩), .string x] w fun e w' => e = .returned (.int .i64 (lookM I.ents x : Nat)) ∧ Below w.heap.size w w' := by
  have hfi := Lib.hid (find_any h hf x)
  have hq := h.lt q h.sq
  have c5 : w.cell? ⟨q, 5, none⟩ = some ev := h.blk.cell 5
  cases hh : has (nms I.ents) x with
  | false =>
    have hL := Lib.hid (lookM_no hh)
    rw [hL.out]
    have hhH := Lib.hid hh
    clear h hf hh
    go_enter Try.func55, Try.ntmps55
    go_wp2_with (go_at_call 69; refine hfi.out.mono ?_; rintro e w' ⟨rfl, hb⟩; rw [hhH.out])
    go_ret
    exact ⟨rfl, hb⟩
  | true =>
    obtain ⟨y, hy, _, hL⟩ := lookM_yes hh
    obtain ⟨g, cap, rfl, _, h1, _⟩ := row_at ecs_len h.ent hy
    have c1 : w.cell? ⟨g, pos (nms I.ents) x * 2 + 1, none⟩ = some (.int .i64 y.2) := h1 1 _ rfl
    have hg := block_of_cell c1
    have hl := (List.getElem?_eq_some_iff.1 hy).1
    have hel := hf.el
    obtain ⟨n, hn⟩ : ∃ n, I.ents.length = n := ⟨_, rfl⟩
    obtain ⟨i, hi⟩ : ∃ i, pos (nms I.ents) x = i := ⟨_, rfl⟩
    rw [hn] at c5 hl hel
    rw [hi] at c1 hl
    have hhH := Lib.hid hh
    have hLH := Lib.hid hL
    have hiH := Lib.hid hi
    have k1 := Lib.hid c1
    have k5 := Lib.hid c5
    rw [hLH.out]
    clear h hf hh hL hy h1 c1 c5 hn hi
    go_enter Try.func55, Try.ntmps55
    go_wp2_with (go_at_call 69; refine hfi.out.mono ?_; rintro e w' ⟨rfl, hb⟩; rw [hhH.out, hiH.out]; have d1 : w'.cell? ⟨g, i * 2 + 1, none⟩ = some (.int .i64 y.2) := (hb.cell hg).trans k1.out; have d5 : w'.cell? ⟨q, 5, none⟩ = some (.slice (some ⟨g, 0, none⟩) n cap) := (hb.cell hq).trans k5.out)
    go_ret
    exact ⟨rfl, hb⟩
theorem isDir_any (h : InoAt w S q I dv ev) : Calls Try.prog 49 #[.pointer (some ⟨q, 0, none⟩)] w fun e w' => e = .returned (.bool I.isDir) ∧ w' = w := by
  have c0 : w.cell? ⟨q, 0, none⟩ = some (.int .i64 I.kind) := h.blk.cell 0
  have hk : Hid (((I.kind : Int) == 2) = I.isDir) := Lib.hid (by
    unfold Ino.isDir
    rw [Bool.eq_iff_iff]
    simp only [beq_iff_eq]
    omega)
  clear h
  go_enter Try.func49, Try.ntmps49
  go_wp2
  go_ret
  exact ⟨by rw [hk.out]; rfl, rfl⟩
theorem may_any (h : InoAt w S q I dv ev) (want : Int) : Calls Try.prog 48 #[.pointer (some ⟨q, 0, none⟩), .int .i64 want] w fun e w' => e = .returned (.bool (I.may want)) ∧ w' = w := by
  have c1 : w.cell? ⟨q, 1, none⟩ = some (.int .i64 I.mode) := h.blk.cell 1
  clear h
  go_enter Try.func48, Try.ntmps48
  go_wp2
  go_ret
  exact ⟨rfl, rfl⟩
theorem size_any (h : InoAt w S q I dv ev) : Calls Try.prog 39 #[.pointer (some ⟨q, 0, none⟩)] w fun e w' => e = .returned (.int .i64 (I.size : Nat)) ∧ w' = w := by
  obtain ⟨a, c, rfl⟩ := ownsRow_slice h.dat
  obtain ⟨a2, c2, rfl⟩ := ownsRow_slice h.ent
  have c4 : w.cell? ⟨q, 4, none⟩ = some (.slice a I.data.length c) := h.blk.cell 4
  have c5 : w.cell? ⟨q, 5, none⟩ = some (.slice a2 I.ents.length c2) := h.blk.cell 5
  have hd := Lib.hid (isDir_any h)
  cases hk : I.isDir with
  | true =>
    have hs : Hid (I.size = I.ents.length) := Lib.hid (by unfold Ino.size; rw [if_pos hk])
    rw [hs.out]
    have hkH := Lib.hid hk
    clear h hk
    go_enter Try.func39, Try.ntmps39
    go_wp2_with (go_at_call 49; refine hd.out.mono ?_; rintro e w' ⟨rfl, rfl⟩; rw [hkH.out])
    go_ret
    exact ⟨rfl, rfl⟩
  | false =>
    have hs : Hid (I.size = I.data.length) := Lib.hid (by unfold Ino.size; rw [if_neg (by rw [hk]; decide)])
    rw [hs.out]
    have hkH := Lib.hid hk
    clear h hk
    go_enter Try.func39, Try.ntmps39
    go_wp2_with (go_at_call 49; refine hd.out.mono ?_; rintro e w' ⟨rfl, rfl⟩; rw [hkH.out])
    go_ret
    exact ⟨rfl, rfl⟩

set_option maxHeartbeats 1000000 in
theorem nameOf_any (h : InoAt w S q I dv ev) (hf : Fine I) (k : Nat) : Calls Try.prog 50 #[.pointer (some ⟨q, 0, none⟩), .int .i64 k] w fun e w' => e = .returned (.string (nameM I.ents k)) ∧ Below w.heap.size w w' := by
  obtain ⟨a2, c2, rfl⟩ := ownsRow_slice h.ent
  have c5 : w.cell? ⟨q, 5, none⟩ = some (.slice a2 I.ents.length c2) := h.blk.cell 5
  have hat : ∀ (i : Nat) (y : En), I.ents[i]? = some y → ∃ g, a2 = some ⟨g, 0, none⟩ ∧ g < w.heap.size ∧ w.cell? ⟨g, i * 2, none⟩ = some (.string y.1) ∧ w.cell? ⟨g, i * 2 + 1, none⟩ = some (.int .i64 y.2) := fun i y hy => by
    obtain ⟨g, cap, e, _, h1, _⟩ := row_at ecs_len h.ent hy
    obtain ⟨rfl, rfl⟩ : a2 = some ⟨g, 0, none⟩ ∧ c2 = cap := by simpa using e
    have c0 := h1 0 _ rfl
    exact ⟨g, rfl, block_of_cell c0, c0, h1 1 _ rfl⟩
  have hel := hf.el
  obtain ⟨L, hL⟩ : ∃ L, I.ents = L := ⟨_, rfl⟩
  rw [hL] at c5 hat hel ⊢
  obtain ⟨n, hn⟩ : ∃ n, L.length = n := ⟨_, rfl⟩
  have hatH := Lib.hid hat
  have hnH := Lib.hid hn
  rw [hn] at c5 hel
  clear h hf hat hL hn
  go_enter Try.func50, Try.ntmps50
  go_wp2
  go_loopw [12] (fun s12 wr => ∃ i : Nat, i ≤ n ∧ s12 = .int .i64 i ∧ Hid (Below w.heap.size w wr) ∧ Hid (nameM (L.drop i) k = nameM L k)) (fun s12 _ => n - (intOf s12).toNat)
  case atStart => exact ⟨0, Nat.zero_le _, by go_num, Lib.hid (Below.refl _ _), Lib.hid rfl⟩
  case round =>
    obtain ⟨i, hi, rfl, hb, hN⟩ := hrel
    by_cases hlt : i < n
    · obtain ⟨y, hy⟩ : ∃ y, L[i]? = some y := ⟨_, List.getElem?_eq_getElem (by have := hnH.out; omega)⟩
      obtain ⟨g, rfl, hgl, c0, c1⟩ := hatH.out _ _ hy
      have d0 := (World.cell?_of_block (a := ⟨g, i * 2, none⟩) (hb.out.block g hgl)).trans c0
      have d1 := (World.cell?_of_block (a := ⟨g, i * 2 + 1, none⟩) (hb.out.block g hgl)).trans c1
      have hdr : L.drop i = y :: L.drop (i + 1) := by
        obtain ⟨h1, h2⟩ := List.getElem?_eq_some_iff.1 hy
        rw [← h2, List.getElem_cons_drop]
      have hN2 := hN.out
      rw [hdr, nameM] at hN2
      obtain ⟨ya, yn⟩ := y
      dsimp only at d0 d1 hN2
      clear c0 c1 hy hdr
      by_cases hk : yn = k
      · rw [if_pos hk] at hN2
        have e1 : ((yn : Int) == (k : Int)) = true := by simp [hk]
        have hNH := Lib.hid hN2
        clear hk hN2
        go_wp2
        go_ret
        exact ⟨by rw [← hNH.out]; rfl, hb.out.alloc hb.out.size _⟩
      · rw [if_neg hk] at hN2
        have e1 : ((yn : Int) == (k : Int)) = false := beq_eq_false_iff_ne.2 (by omega)
        have hNH := Lib.hid hN2
        clear hk hN2
        go_wp2
        go_roundw
        case rel => exact ⟨i + 1, by omega, by go_num, Lib.hid (hb.out.alloc hb.out.size _), hNH⟩
        case measure => simp [intOf]; omega
    · have hN2 := hN.out
      rw [List.drop_eq_nil_of_le (by have := hnH.out; omega), nameM] at hN2
      have hNH := Lib.hid hN2
      clear hN2
      obtain rfl : i = n := by omega
      go_wp2
      go_ret
      exact ⟨by rw [← hNH.out]; rfl, hb.out⟩
end
end Go.Proofs.Ytohgecmbkjienaa
