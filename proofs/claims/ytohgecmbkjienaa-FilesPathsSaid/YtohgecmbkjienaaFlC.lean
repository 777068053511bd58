/- The search among a directory's entries. Condition: the row is owned and in order. -/
import Derived.Test.YtohgecmbkjienaaFlB
namespace Go.Proofs.Ytohgecmbkjienaa
open Go.RowKit Go.PlainAid
attribute [local go_sem] Oper.semAt_some

theorem cmp_any (a x : ByteArray) (n : Nat) (w : World) : Calls Try.prog 77 #[.agg #[.string a, .int .i64 n], .string x] w fun e w' => e = .returned (.int .i64 (cmpT a x)) ∧ Below w.heap.size w w' := by
  go_enter Try.func77, Try.ntmps77
  go_wp2_with (go_at_call 78; refine (Try.strings_Compare _ _ _).mono ?_; rintro e w' ⟨rfl, rfl⟩)
  go_ret
  exact ⟨rfl, (Below.refl _ _).alloc (Nat.le_refl _) _⟩

theorem pos_is {K : List ByteArray} {x : ByteArray} {i : Nat} (hi : i ≤ K.length) (h1 : ∀ t y, t < i → K[t]? = some y → lt y x = true) (h2 : ∀ t y, i ≤ t → K[t]? = some y → lt y x = false) : pos K x = i := by
  rcases Nat.lt_trichotomy (pos K x) i with h | h | h
  · have hl : pos K x < K.length := by omega
    have h3 := h1 (pos K x) _ h (List.getElem?_eq_getElem hl)
    have h4 : ∀ (L : List ByteArray) (hl : pos L x < L.length), lt L[pos L x] x = false := by
      intro L
      induction L with
      | nil => intro hl; simp at hl
      | cons k L ih =>
        intro hl
        by_cases hk : lt k x = true
        · have e : pos (k :: L) x = pos L x + 1 := by simp [pos, hk]
          simp only [e, List.getElem_cons_succ]
          exact ih (by rw [e] at hl; simp at hl; omega)
        · have e : pos (k :: L) x = 0 := by simp [pos, hk]
          simp only [e, List.getElem_cons_zero]
          simpa using hk
    rw [h4 K hl] at h3
    cases h3
  · exact h
  · have hl : i < K.length := by have := pos_le K x; omega
    have h3 := pos_below K x i _ h (List.getElem?_eq_getElem hl)
    rw [h2 i _ (Nat.le_refl _) (List.getElem?_eq_getElem hl)] at h3
    cases h3
theorem has_is {K : List ByteArray} {x : ByteArray} {y : ByteArray} (h : K[pos K x]? = some y) : has K x = decide (cmpT y x = 0) := by
  unfold has
  rw [h]
  simp [cmpT_eq]
theorem nms_at {l : Ents} {t : Nat} {y : ByteArray} (h : (nms l)[t]? = some y) : ∃ e, l[t]? = some e ∧ e.1 = y := by
  unfold nms at h
  rw [List.getElem?_map] at h
  cases he : l[t]? with
  | none => rw [he] at h; cases h
  | some e => rw [he] at h; exact ⟨e, rfl, Option.some.inj h⟩
theorem nms_of {l : Ents} {t : Nat} {e : En} (h : l[t]? = some e) : (nms l)[t]? = some e.1 := by unfold nms; rw [List.getElem?_map, h]; rfl

set_option maxHeartbeats 4000000 in
set_option maxRecDepth 100000 in
theorem search_any (l : Ents) (x : ByteArray) (ev : Value) (w : World) (hrow : w.ownsRow 0 105 2 ev l.length (flat ecs l)) (hlen : l.length ≤ 100000) (hs : Sorted (nms l)) :
    Calls Try.prog 76 #[ev, .string x, .func (.func 77) #[] #[]] w fun e w' => e = .returned (.tuple #[.int .i64 (pos (nms l) x : Nat), .bool (has (nms l) x)]) ∧ Below w.heap.size w w' := by
  obtain ⟨n, hn⟩ : ∃ n, l.length = n := ⟨_, rfl⟩
  have hnl : (nms l).length = n := by rw [← hn]; exact List.length_map ..
  obtain ⟨a, c, rfl⟩ := ownsRow_slice hrow
  have hat : ∀ (i : Nat) (y : En), l[i]? = some y → ∃ g, a = some ⟨g, 0, none⟩ ∧ g < w.heap.size ∧ w.cell? ⟨g, i * 2, none⟩ = some (.string y.1) ∧ w.cell? ⟨g, i * 2 + 1, none⟩ = some (.int .i64 y.2) := fun i y hy => by
    obtain ⟨g, cap, e, _, h1, _⟩ := row_at ecs_len hrow hy
    obtain ⟨rfl, rfl⟩ : a = some ⟨g, 0, none⟩ ∧ c = cap := by simpa using e
    have c0 := h1 0 _ rfl
    exact ⟨g, rfl, block_of_cell c0, c0, h1 1 _ rfl⟩
  have hatH := Lib.hid hat
  have hsH := Lib.hid hs
  have hnH := Lib.hid hn
  have hnlH := Lib.hid hnl
  rw [hn] at hlen ⊢
  clear hat hrow hs hn hnl
  go_enter Try.func76, Try.ntmps76
  go_wp2
  go_loopw [9, 10] (fun s9 s10 wr => ∃ lo hi : Nat, s9 = .int .i64 lo ∧ s10 = .int .i64 hi ∧ lo ≤ hi ∧ hi ≤ n ∧ Hid (Below w.heap.size w wr) ∧ Hid ((∀ t y, t < lo → (nms l)[t]? = some y → lt y x = true) ∧ (∀ t y, hi ≤ t → (nms l)[t]? = some y → lt y x = false))) (fun s9 s10 _ => (intOf s10).toNat - (intOf s9).toNat)
  case atStart => exact ⟨0, n, rfl, rfl, Nat.zero_le _, Nat.le_refl _, Lib.hid (Below.refl _ _), Lib.hid ⟨fun t y h => absurd h (Nat.not_lt_zero _), fun t y h1 h2 => by have := (List.getElem?_eq_some_iff.1 h2).1; have := hnlH.out; omega⟩⟩
  case round =>
    obtain ⟨lo, hi, rfl, rfl, hlh, hin, hb, hI⟩ := hrel
    by_cases hlt : lo < hi
    · obtain ⟨y, hy⟩ : ∃ y, l[(lo + hi) / 2]? = some y := ⟨_, List.getElem?_eq_getElem (by have := hnH.out; omega)⟩
      obtain ⟨g, rfl, hgl, c0, c1⟩ := hatH.out _ _ hy
      have d0 := (World.cell?_of_block (a := ⟨g, (lo + hi) / 2 * 2, none⟩) (hb.out.block g hgl)).trans c0
      have d1 := (World.cell?_of_block (a := ⟨g, (lo + hi) / 2 * 2 + 1, none⟩) (hb.out.block g hgl)).trans c1
      have hyN := Lib.hid (nms_of hy)
      obtain ⟨ya, yn⟩ := y
      dsimp only at d0 d1 hyN
      clear c0 c1 hy
      by_cases hc : cmpT ya x < 0
      · have hI2 : Hid ((∀ t y, t < (lo + hi) / 2 + 1 → (nms l)[t]? = some y → lt y x = true) ∧ (∀ t y, hi ≤ t → (nms l)[t]? = some y → lt y x = false)) := Lib.hid ⟨fun t y h1 h2 => by
          by_cases e : t = (lo + hi) / 2
          · rw [e, hyN.out] at h2; cases h2; exact (cmpT_lt _ _).1 hc
          · exact lt_trans (List.pairwise_iff_getElem.1 hsH.out t ((lo + hi) / 2) (List.getElem?_eq_some_iff.1 h2).1 (List.getElem?_eq_some_iff.1 hyN.out).1 (by omega) |> fun h => by rw [(List.getElem?_eq_some_iff.1 h2).2, (List.getElem?_eq_some_iff.1 hyN.out).2] at h; exact h) ((cmpT_lt _ _).1 hc), hI.out.2⟩
        go_wp2_with (go_at_call 77; refine (cmp_any ya x yn _).mono ?_; rintro e w' ⟨rfl, hb2⟩; have hb3 := Lib.hid (hb.out.trans (hb2.mono hb.out.size)); clear hb2)
        go_roundw
        case rel => exact ⟨(lo + hi) / 2 + 1, hi, by go_num, rfl, by omega, hin, hb3, hI2⟩
        case measure => simp [intOf]; omega
      · have hnlt : lt ya x = false := by
          cases h : lt ya x with
          | false => rfl
          | true => exact absurd ((cmpT_lt _ _).2 h) hc
        have hI2 : Hid ((∀ t y, t < lo → (nms l)[t]? = some y → lt y x = true) ∧ (∀ t y, (lo + hi) / 2 ≤ t → (nms l)[t]? = some y → lt y x = false)) := Lib.hid ⟨hI.out.1, fun t y h1 h2 => by
          by_cases e : t = (lo + hi) / 2
          · rw [e, hyN.out] at h2; cases h2; exact hnlt
          · cases h : lt y x with
            | false => rfl
            | true =>
              have h5 := List.pairwise_iff_getElem.1 hsH.out ((lo + hi) / 2) t (List.getElem?_eq_some_iff.1 hyN.out).1 (List.getElem?_eq_some_iff.1 h2).1 (by omega)
              rw [(List.getElem?_eq_some_iff.1 h2).2, (List.getElem?_eq_some_iff.1 hyN.out).2] at h5
              rw [lt_trans h5 h] at hnlt
              cases hnlt⟩
        go_wp2_with (go_at_call 77; refine (cmp_any ya x yn _).mono ?_; rintro e w' ⟨rfl, hb2⟩; have hb3 := Lib.hid (hb.out.trans (hb2.mono hb.out.size)); clear hb2)
        go_roundw
        case rel => exact ⟨lo, (lo + hi) / 2, rfl, by go_num, by omega, by omega, hb3, hI2⟩
        case measure => simp [intOf]; omega
    · obtain rfl : hi = lo := by omega
      have hpos : Hid (pos (nms l) x = hi) := Lib.hid (pos_is (by rw [hnlH.out]; exact hin) hI.out.1 hI.out.2)
      by_cases hin2 : hi < n
      · obtain ⟨y, hy⟩ : ∃ y, l[hi]? = some y := ⟨_, List.getElem?_eq_getElem (by have := hnH.out; omega)⟩
        obtain ⟨g, rfl, hgl, c0, c1⟩ := hatH.out _ _ hy
        have d0 := (World.cell?_of_block (a := ⟨g, hi * 2, none⟩) (hb.out.block g hgl)).trans c0
        have d1 := (World.cell?_of_block (a := ⟨g, hi * 2 + 1, none⟩) (hb.out.block g hgl)).trans c1
        have hhas : Hid (has (nms l) x = decide (cmpT y.1 x = 0)) := Lib.hid (has_is (by rw [hpos.out]; exact nms_of hy))
        obtain ⟨ya, yn⟩ := y
        dsimp only at d0 d1 hhas
        clear c0 c1 hy
        go_wp2_with (go_at_call 77; refine (cmp_any ya x yn _).mono ?_; rintro e w' ⟨rfl, hb2⟩; have hb3 := Lib.hid (hb.out.trans (hb2.mono hb.out.size)); clear hb2)
        go_ret2
        refine ⟨?_, hb3.out⟩
        rw [hpos.out, hhas.out]
        rfl
      · have hhas : Hid (has (nms l) x = false) := Lib.hid (by
          unfold has
          rw [List.getElem?_eq_none (by rw [hpos.out, hnlH.out]; omega)]
          rfl)
        go_wp2
        go_ret2
        exact ⟨by rw [hpos.out, hhas.out]; rfl, hb.out⟩
end Go.Proofs.Ytohgecmbkjienaa
