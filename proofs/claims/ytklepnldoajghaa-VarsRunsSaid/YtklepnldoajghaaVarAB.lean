/- What a name has behind each change: plain. No condition. -/
import Derived.Test.YtklepnldoajghaaVarAA
namespace Go.Proofs.Ytklepnldoajghaa

theorem idx_pos {K : List ByteArray} {x : ByteArray} {t : Nat} (hs : Sorted K) (h : K[t]? = some x) : t = pos K x := by
  obtain ⟨ht, hx⟩ := List.getElem?_eq_some_iff.1 h
  rcases Nat.lt_trichotomy t (pos K x) with g | g | g
  · have := pos_below K x t x g h
    rw [lt_irrefl] at this
    cases this
  · exact g
  · have hp : pos K x < K.length := by omega
    have a := pos_above K x hs (pos K x) K[pos K x] (Nat.le_refl _) (List.getElem?_eq_getElem hp)
    have b := (List.pairwise_iff_getElem.1 hs) (pos K x) t hp ht g
    rw [hx, a] at b
    cases b
theorem has_iff {K : List ByteArray} {x : ByteArray} (hs : Sorted K) : has K x = true ↔ x ∈ K := by
  constructor
  · intro h; exact List.mem_of_getElem? (has_at h)
  · intro h
    obtain ⟨t, ht⟩ := List.mem_iff_getElem?.1 h
    unfold has
    rw [← idx_pos hs ht]
    exact decide_eq_true ht
theorem mem_ks {L : Vl} {x : ByteArray} {y : Vb} (h : (x, y) ∈ L) : x ∈ ks L := List.mem_map.2 ⟨_, h, rfl⟩
theorem of_ks {L : Vl} {x : ByteArray} (h : x ∈ ks L) : ∃ y, (x, y) ∈ L := by
  obtain ⟨⟨a, b⟩, h1, rfl⟩ := List.mem_map.1 h
  exact ⟨b, h1⟩
theorem got_of {L : Vl} {x : ByteArray} {y : Vb} (hs : Sorted (ks L)) (h : (x, y) ∈ L) : got L x = y := by
  obtain ⟨t, ht⟩ := List.mem_iff_getElem?.1 h
  have hk := ks_at ht
  have hv := vs_at ht
  unfold got
  rw [if_pos ((has_iff hs).2 (mem_ks h)), ← idx_pos hs hk, hv]
  rfl
theorem got_not {L : Vl} {x : ByteArray} (hs : Sorted (ks L)) (h : ∀ y, (x, y) ∉ L) : got L x = Vb.no := by
  apply got_no
  cases e : has (ks L) x with
  | false => rfl
  | true =>
    obtain ⟨y, hy⟩ := of_ks ((has_iff hs).1 e)
    exact absurd hy (h y)
theorem got_same {L L' : Vl} {z : ByteArray} (hs : Sorted (ks L)) (hs' : Sorted (ks L')) (h : ∀ u, (z, u) ∈ L' ↔ (z, u) ∈ L) : got L' z = got L z := by
  by_cases g : ∃ u, (z, u) ∈ L
  · obtain ⟨u, hu⟩ := g
    rw [got_of hs hu, got_of hs' ((h u).2 hu)]
  · have g' : ∀ u, (z, u) ∉ L := fun u hu => g ⟨u, hu⟩
    rw [got_not hs g', got_not hs' (fun u hu => g' u ((h u).1 hu))]
theorem mem_ins {α : Type} {l : List α} {i : Nat} {a b : α} : b ∈ ins l i a ↔ b = a ∨ b ∈ l := by
  unfold ins
  rw [List.mem_append, List.mem_cons]
  constructor
  · rintro (h | h | h)
    · exact .inr (List.mem_of_mem_take h)
    · exact .inl h
    · exact .inr (List.mem_of_mem_drop h)
  · rintro (h | h)
    · exact .inr (.inl h)
    · rw [← List.take_append_drop i l] at h
      rcases List.mem_append.1 h with h | h
      · exact .inl h
      · exact .inr (.inr h)
theorem mem_setL {L : Vl} {x z : ByteArray} {y u : Vb} (hs : Sorted (ks L)) : (z, u) ∈ setL L x y ↔ (z = x ∧ u = y) ∨ (z ≠ x ∧ (z, u) ∈ L) := by
  unfold setL
  cases hh : has (ks L) x with
  | false =>
    have hno : ∀ u, (x, u) ∉ L := fun u hu => by
      have := (has_iff hs).2 (mem_ks hu)
      rw [hh] at this
      cases this
    simp only [Bool.false_eq_true, if_false]
    rw [mem_ins]
    constructor
    · rintro (h | h)
      · exact .inl (by simpa using h)
      · exact .inr ⟨fun e => hno u (e ▸ h), h⟩
    · rintro (⟨rfl, rfl⟩ | ⟨_, h⟩)
      · exact .inl rfl
      · exact .inr h
  | true =>
    simp only [if_true]
    have hlt := has_lt hh
    rw [ks_len] at hlt
    have hat := has_at hh
    constructor
    · intro h
      obtain ⟨t, ht⟩ := List.mem_iff_getElem?.1 h
      rw [List.getElem?_set] at ht
      by_cases e : pos (ks L) x = t
      · rw [if_pos e, if_pos (by omega)] at ht
        exact .inl (by simpa [eq_comm] using ht)
      · rw [if_neg e] at ht
        refine .inr ⟨fun e2 => ?_, List.mem_of_getElem? ht⟩
        subst e2
        exact e (idx_pos hs (ks_at ht)).symm
    · rintro (⟨rfl, rfl⟩ | ⟨hne, h⟩)
      · exact List.mem_iff_getElem?.2 ⟨_, List.getElem?_set_self hlt⟩
      · obtain ⟨t, ht⟩ := List.mem_iff_getElem?.1 h
        refine List.mem_iff_getElem?.2 ⟨t, ?_⟩
        rw [List.getElem?_set_ne (fun e => ?_)]
        · exact ht
        · have := ks_at ht
          rw [← e, hat] at this
          exact hne (Option.some.inj this).symm
theorem got_setL {L : Vl} {x z : ByteArray} {y : Vb} (hs : Sorted (ks L)) (hs' : Sorted (ks (setL L x y))) : got (setL L x y) z = if z = x then y else got L z := by
  by_cases e : z = x
  · rw [if_pos e]
    exact got_of hs' ((mem_setL hs).2 (.inl ⟨e, rfl⟩))
  · rw [if_neg e]
    refine got_same hs hs' (fun u => ?_)
    rw [mem_setL hs]
    constructor
    · rintro (⟨h, _⟩ | ⟨_, h⟩)
      · exact absurd h e
      · exact h
    · exact fun h => .inr ⟨e, h⟩
theorem mem_cutL {L : Vl} {x z : ByteArray} {u : Vb} (hs : Sorted (ks L)) : (z, u) ∈ cutL L x ↔ z ≠ x ∧ (z, u) ∈ L := by
  unfold cutL
  cases hh : has (ks L) x with
  | false =>
    simp only [Bool.false_eq_true, if_false]
    refine ⟨fun h => ⟨fun e => ?_, h⟩, fun h => h.2⟩
    have := (has_iff hs).2 (mem_ks (e ▸ h))
    rw [hh] at this
    cases this
  | true =>
    simp only [if_true]
    have hat := has_at hh
    rw [List.mem_eraseIdx_iff_getElem?]
    constructor
    · rintro ⟨t, hne, ht⟩
      refine ⟨fun e => ?_, List.mem_of_getElem? ht⟩
      subst e
      exact hne (idx_pos hs (ks_at ht))
    · rintro ⟨hne, h⟩
      obtain ⟨t, ht⟩ := List.mem_iff_getElem?.1 h
      refine ⟨t, fun e => ?_, ht⟩
      have := ks_at ht
      rw [e, hat] at this
      exact hne (Option.some.inj this).symm
theorem got_cutL {L : Vl} {x z : ByteArray} (hs : Sorted (ks L)) (hs' : Sorted (ks (cutL L x))) : got (cutL L x) z = if z = x then Vb.no else got L z := by
  by_cases e : z = x
  · rw [if_pos e]
    exact got_not hs' (fun u hu => ((mem_cutL hs).1 hu).1 e)
  · rw [if_neg e]
    refine got_same hs hs' (fun u => ?_)
    rw [mem_cutL hs]
    exact ⟨fun h => h.2, fun h => ⟨e, h⟩⟩
end Go.Proofs.Ytklepnldoajghaa
