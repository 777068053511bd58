/- The calls of VarsExports beside its map. Condition: the variables lie as stated; each has the one value. -/
import Derived.Test.YtklepnldoajghaaVarBB
import Derived.Test.YtklepnldoajghaaVarAC
namespace Go.Proofs.Ytklepnldoajghaa
open Go.RowKit

theorem map_blk {w : World} {b n c : Nat} {S : ByteArray → Bool} (h : MapIs w b n S c) {p : Nat} {t : TypeId} {cs : Array Value} (hb : Blk w p t cs) : b ≠ p := fun e => by
  subst e
  exact h.not_cells hb
theorem map_row {w : World} {b n c : Nat} {S : ByteArray → Bool} (h : MapIs w b n S c) {n₀ k m : Nat} {t : TypeId} {v : Value} {xs : List Value} (hr : w.ownsRow n₀ t k v m xs) : some b ≠ v.ownBlock := fun e => by
  rcases hr.2 with ⟨rfl, _⟩ | ⟨g, cap, cur, rfl, _, hg, _⟩
  · cases e
  · obtain rfl : b = g := by simpa [Value.ownBlock] using e
    exact h.not_cells hg

/-- The variables and the map. -/
def X (n₀ : Nat) (w0 w : World) (p m : Nat) (v : ByteArray) (L : Vl) (nm : Nat) (S : ByteArray → Bool) (c : Nat) : Prop :=
  ∃ A kv vv av, VarsAt n₀ w p L A kv vv av ∧ MapIs w m nm S c ∧ VL v L ∧ Below n₀ w0 w ∧ n₀ ≤ w.heap.size ∧ n₀ ≤ m

section
variable {n₀ p m nm c : Nat} {w0 w : World} {v : ByteArray} {L : Vl} {S : ByteArray → Bool}
theorem X.below (h : X n₀ w0 w p m v L nm S c) : Below n₀ w0 w := by
  obtain ⟨_, _, _, _, _, _, _, hb, _⟩ := h
  exact hb
theorem X.srt (h : X n₀ w0 w p m v L nm S c) : Sorted (ks L) := by
  obtain ⟨_, _, _, _, hV, _⟩ := h
  exact hV.srt
theorem X.of {L' : Vl} {A : List ByteArray} {kv vv av : Value} {w' : World} (hV : VarsAt n₀ w p L A kv vv av) (hm : MapIs w m nm S c) (hb : Below n₀ w0 w) (hn : n₀ ≤ w.heap.size) (hnm : n₀ ≤ m) (hE : Ends n₀ p L' A kv vv av w w') (hvl : VL v L') : X n₀ w0 w' p m v L' nm S c := by
  obtain ⟨kv', vv', h1, h2, _⟩ := id hE
  obtain ⟨_, _, _, _, hB⟩ := hE.b hV hn
  exact ⟨A, kv', vv', av, h1, hm.heap (h2.block m hm.lt (map_blk hm hV.blk) (map_row hm hV.keys) (map_row hm hV.vals)), hvl, hb.trans hB, Nat.le_trans hn h2.size, hnm⟩

theorem x_set (n : ByteArray) (h : X n₀ w0 w p m v L nm S c) (hL : L.length < 64) (hn : n.size ≤ 140737488355328) (hv : v.size ≤ 1000) :
    Calls Try.prog 10 #[.pointer (some ⟨p, 0, none⟩), .string n, .string v] w fun e w' => e = .returned (.int .i64 (if isName n then 0 else 22)) ∧
      ∃ L', X n₀ w0 w' p m v L' nm S c ∧ exN L' = exN L ∧ L'.length ≤ L.length + 1 ∧ (isName n = true → has (ks L') n = true) := by
  obtain ⟨A, kv, vv, av, hV, hm, hvl, hb, hnn, hnm⟩ := h
  refine (Set_any n v w hV hnn (by unfold maxLen; omega)).mono ?_
  rintro e w' ⟨he, hE⟩
  have hro := got_ro (x := n) hV.srt hvl
  cases hnm' : isName n with
  | false =>
    have h1 : setE L n v = 22 := by unfold setE; rw [if_pos hnm']
    have h2 : setR L n v = L := by unfold setR; rw [h1]; rfl
    rw [h1] at he
    rw [h2] at hE
    exact ⟨he, L, .of hV hm hb hnn hnm hE hvl, rfl, by omega, fun e => by cases e⟩
  | true =>
    have h1 : setE L n v = 0 := by unfold setE; rw [if_neg (by rw [hnm']; simp), if_neg (by rw [hro]; simp), if_neg (by omega), if_neg (by omega)]
    have h2 : setR L n v = setL L n ⟨v, true, (got L n).ex, false⟩ := by unfold setR; rw [if_pos h1, ← hro]
    rw [h1] at he
    rw [h2] at hE
    have hs' : Sorted (ks (setL L n ⟨v, true, (got L n).ex, false⟩)) := by obtain ⟨_, _, h1, _⟩ := hE; exact h1.srt
    refine ⟨he, _, .of hV hm hb hnn hnm hE (hvl.setL hV.srt n _ hn), sorted_ext (exN_sorted hs') (exN_sorted hV.srt) (fun z => ?_), setL_len _ _ _, fun _ => (has_iff hs').2 (mem_ks ((mem_setL hV.srt).2 (.inl ⟨rfl, rfl⟩)))⟩
    rw [exN_setL hV.srt]
    show (z = n ∧ (got L n).ex = true) ∨ (z ≠ n ∧ z ∈ exN L) ↔ z ∈ exN L
    rw [got_ex hV.srt]
    constructor
    · rintro (⟨rfl, g⟩ | ⟨_, g⟩)
      · exact g
      · exact g
    · intro g
      by_cases q : z = n
      · exact .inl ⟨q, q ▸ g⟩
      · exact .inr ⟨q, g⟩

theorem x_mark (n : ByteArray) (h : X n₀ w0 w p m v L nm S c) (hn : n.size ≤ 140737488355328) (hnm' : isName n = true) (hh : has (ks L) n = true) :
    Calls Try.prog 14 #[.pointer (some ⟨p, 0, none⟩), .string n, .bool true, .bool false] w fun e w' => ∃ E, e = .returned (.int .i64 E) ∧
      ∃ L', X n₀ w0 w' p m v L' nm S c ∧ (∀ x, has (exN L') x = (decide (x = n) || has (exN L) x)) ∧ (exN L').length = (if has (exN L) n then (exN L).length else (exN L).length + 1) ∧ L'.length = L.length := by
  obtain ⟨A, kv, vv, av, hV, hm, hvl, hb, hnn, hnm⟩ := h
  refine (Mark_any n true false w hV hnn (by unfold maxLen; omega)).mono ?_
  rintro e w' ⟨he, hE⟩
  obtain ⟨ee, hg⟩ := got_VL hV.srt hvl hh
  have h2 : markR L n true false = setL L n ⟨v, true, true, false⟩ := by
    unfold markR
    rw [if_neg (by rw [hnm']; simp), if_neg (by simp), if_neg (by rw [hh]; simp), hg]
    cases ee <;> rfl
  rw [h2] at hE
  have hs' : Sorted (ks (setL L n ⟨v, true, true, false⟩)) := by obtain ⟨_, _, h1, _⟩ := hE; exact h1.srt
  have hmem : ∀ x, x ∈ exN (setL L n ⟨v, true, true, false⟩) ↔ x = n ∨ x ∈ exN L := fun x => by
    rw [exN_setL hV.srt]
    constructor
    · rintro (⟨e, _⟩ | ⟨_, g⟩)
      · exact .inl e
      · exact .inr g
    · rintro (e | g)
      · exact .inl ⟨e, rfl⟩
      · by_cases q : x = n
        · exact .inl ⟨q, rfl⟩
        · exact .inr ⟨q, g⟩
  exact ⟨_, he, _, .of hV hm hb hnn hnm hE (hvl.setL hV.srt n _ hn), has_more (exN_sorted hV.srt) (exN_sorted hs') hmem, len_more (exN_sorted hV.srt) (exN_sorted hs') hmem, setL_len_has _ hh⟩

theorem x_unset (n : ByteArray) (h : X n₀ w0 w p m v L nm S c) (hn : n.size ≤ 140737488355328) (hnm' : isName n = true) :
    Calls Try.prog 12 #[.pointer (some ⟨p, 0, none⟩), .string n] w fun e w' => ∃ E, e = .returned (.int .i64 E) ∧
      ∃ L', X n₀ w0 w' p m v L' nm S c ∧ (∀ x, has (exN L') x = (!decide (x = n) && has (exN L) x)) ∧ (exN L').length + (if has (exN L) n then 1 else 0) = (exN L).length ∧ L'.length ≤ L.length := by
  obtain ⟨A, kv, vv, av, hV, hm, hvl, hb, hnn, hnm⟩ := h
  refine (Unset_any n w hV (by unfold maxLen; omega)).mono ?_
  rintro e w' ⟨he, hE⟩
  have h1 : unsetE L n = 0 := by unfold unsetE; rw [if_neg (by rw [hnm']; simp), if_neg (by rw [got_ro hV.srt hvl]; simp)]
  have h2 : unsetR L n = cutL L n := by unfold unsetR; rw [if_pos h1]
  rw [h2] at hE
  have hs' : Sorted (ks (cutL L n)) := by obtain ⟨_, _, h1, _⟩ := hE; exact h1.srt
  exact ⟨_, he, _, .of hV hm hb hnn hnm hE (hvl.cutL hV.srt n), has_less (exN_sorted hV.srt) (exN_sorted hs') (exN_cutL hV.srt), len_less (exN_sorted hV.srt) (exN_sorted hs') (exN_cutL hV.srt), cutL_len _ _⟩

theorem x_env (h : X n₀ w0 w p m v L nm S c) (hv : v.size ≤ 1000) :
    Calls Try.prog 27 #[.pointer (some ⟨p, 0, none⟩)] w fun e w' => ∃ v', e = .returned v' ∧ w'.ownsRow w.heap.size 9 1 v' (exN L).length (flat kcs ((exN L).map (fun n => n ++ ⟨#[61]⟩ ++ v))) ∧ X n₀ w0 w' p m v L nm S c := by
  obtain ⟨A, kv, vv, av, hV, hm, hvl, hb, hnn, hnm⟩ := h
  refine (Environ_any w hV (fun x hx => by obtain ⟨h1, _, _, h4⟩ := hvl x hx; rw [h1]; omega)).mono ?_
  rintro e w' ⟨v', he, hr, hB⟩
  rw [envL_exN hvl, List.length_map] at hr
  exact ⟨v', he, hr, A, kv, vv, av, hV.beneath hB, hm.heap (hB.block m hm.lt), hvl, hb.trans (hB.mono hnn), Nat.le_trans hnn hB.size, hnm⟩

/-- The map's own store. -/
theorem X.mapped {w' : World} {nm' c' : Nat} {S' : ByteArray → Bool} (h : X n₀ w0 w p m v L nm S c) (hm' : MapIs w' m nm' S' c') (hg : w.grownBy w' (some m)) : X n₀ w0 w' p m v L nm' S' c' := by
  obtain ⟨A, kv, vv, av, hV, hm, hvl, hb, hnn, hnm⟩ := h
  have hk : ∀ {n k : Nat} {t : TypeId} {v : Value} {xs : List Value}, w.ownsRow n₀ t k v n xs → w'.ownsRow n₀ t k v n xs := fun hr => row_keep hr (fun g hgg => hg.block g (row_lt hr hgg) (fun e => map_row hm hr (by rw [hgg]; exact e.symm)))
  have hbel : Below n₀ w w' := ⟨hg.os, hg.tape, hg.output, hg.size, fun k hk => hg.block k (by omega) (fun e => by have := Option.some.inj e; omega)⟩
  exact ⟨A, kv, vv, av, ⟨(hg.block p hV.blk.lt (fun e => map_blk hm hV.blk (Option.some.inj e).symm)).trans hV.blk, hV.base, hk hV.keys, hk hV.vals, hk hV.args, hV.apart, hV.srt, hV.len, hV.alen⟩, hm', hvl, hb.trans hbel, Nat.le_trans hnn hg.size, hnm⟩
theorem X.map (h : X n₀ w0 w p m v L nm S c) : MapIs w m nm S c := by
  obtain ⟨A, kv, vv, av, hV, hm, _⟩ := h
  exact hm
theorem x_begin (hV : Vs n₀ w p [] []) (hb : Below n₀ w0 w) (hn : n₀ ≤ w.heap.size) : X n₀ w0 (w.alloc (.map #[] 0)) p w.heap.size v [] 0 (fun _ => false) 0 := by
  obtain ⟨kv, vv, av, hV⟩ := hV
  have hB : Below w.heap.size w (w.alloc (.map #[] 0)) := (Below.refl _ _).alloc (Nat.le_refl _) _
  exact ⟨[], kv, vv, av, hV.beneath hB, .made w, fun x hx => (by cases hx), hb.trans (hB.mono hn), by simp; omega, hn⟩
end
end Go.Proofs.Ytklepnldoajghaa
