/- What is read only stays: the contracts of each call. Condition: the variables lie as stated. -/
import Derived.Test.YtklepnldoajghaaVarAB
namespace Go.Proofs.Ytklepnldoajghaa
open Go.RowKit Go.PlainAid

theorem VarsAt.weak {n₀ n₁ p : Nat} {L : Vl} {A : List ByteArray} {kv vv av : Value} {w : World} (h : VarsAt n₁ w p L A kv vv av) (hn : n₀ ≤ n₁) : VarsAt n₀ w p L A kv vv av :=
  ⟨h.blk, Nat.le_trans hn h.base, row_weak h.keys hn, row_weak h.vals hn, row_weak h.args hn, h.apart, h.srt, h.len, h.alen⟩

/-- Variables whose blocks all lie above a place. -/
def Vs (n₀ : Nat) (w : World) (p : Nat) (L : Vl) (A : List ByteArray) : Prop := ∃ kv vv av, VarsAt n₀ w p L A kv vv av

def fixedN : ByteArray := ⟨#[102, 105, 120, 101, 100]⟩
def fx (L : Vl) (v : ByteArray) : Prop := (got L fixedN).val = v ∧ (got L fixedN).st = true ∧ (got L fixedN).ro = true
theorem isName_fixed : isName fixedN = true := by decide +kernel

/-- The fixed variable stands. -/
def Fixed (n₀ : Nat) (w0 w : World) (p : Nat) (v : ByteArray) : Prop := ∃ L A, Vs n₀ w p L A ∧ fx L v ∧ Below n₀ w0 w ∧ n₀ ≤ w.heap.size

theorem fx_set {L : Vl} {v x u : ByteArray} (h : fx L v) (hs : Sorted (ks L)) (hs' : Sorted (ks (setR L x u))) : fx (setR L x u) v ∧ (x = fixedN → setE L x u = 63) := by
  have hE : x = fixedN → setE L x u = 63 := fun e => by
    subst e
    unfold setE
    rw [if_neg (by rw [isName_fixed]; simp), if_pos h.2.2]
  refine ⟨?_, hE⟩
  unfold setR at hs' ⊢
  by_cases h0 : setE L x u = 0
  · have hne : fixedN ≠ x := fun e => by rw [hE e.symm] at h0; cases h0
    rw [if_pos h0] at hs' ⊢
    unfold fx
    rw [got_setL hs hs', if_neg hne]
    exact h
  · rw [if_neg h0]
    exact h
theorem fx_mark {L : Vl} {v x : ByteArray} {a b : Bool} (h : fx L v) (hs : Sorted (ks L)) (hs' : Sorted (ks (markR L x a b))) : fx (markR L x a b) v := by
  unfold markR at hs' ⊢
  split
  · exact h
  · rename_i h1
    rw [if_neg h1] at hs'
    split
    · exact h
    · rename_i h2
      rw [if_neg h2] at hs'
      split
      · exact h
      · rename_i h3
        rw [if_neg h3] at hs'
        unfold fx
        rw [got_setL hs hs']
        by_cases e : fixedN = x
        · rw [if_pos e, ← e]
          exact ⟨h.1, h.2.1, by rw [h.2.2]; rfl⟩
        · rw [if_neg e]
          exact h
theorem fx_unset {L : Vl} {v x : ByteArray} (h : fx L v) (hs : Sorted (ks L)) (hs' : Sorted (ks (unsetR L x))) : fx (unsetR L x) v ∧ (x = fixedN → unsetE L x = 63) := by
  have hE : x = fixedN → unsetE L x = 63 := fun e => by
    subst e
    unfold unsetE
    rw [if_neg (by rw [isName_fixed]; simp), if_pos h.2.2]
  refine ⟨?_, hE⟩
  unfold unsetR at hs' ⊢
  by_cases h0 : unsetE L x = 0
  · have hne : fixedN ≠ x := fun e => by rw [hE e.symm] at h0; cases h0
    rw [if_pos h0] at hs' ⊢
    unfold fx
    rw [got_cutL hs hs', if_neg hne]
    exact h
  · rw [if_neg h0]
    exact h

section
variable {n₀ p : Nat} {w0 w : World} {v : ByteArray}
theorem fixed_get (h : Fixed n₀ w0 w p v) : Calls Try.prog 22 #[.pointer (some ⟨p, 0, none⟩), .string fixedN] w fun e w' => e = .returned (.tuple #[.string v, .bool true]) ∧ Fixed n₀ w0 w' p v := by
  obtain ⟨L, A, ⟨kv, vv, av, hV⟩, hf, hb, hn⟩ := h
  refine (Get_any fixedN w hV).mono ?_
  rintro e w' ⟨he, hB⟩
  rw [hf.1, hf.2.1] at he
  exact ⟨he, L, A, ⟨kv, vv, av, hV.beneath hB⟩, hf, hb.trans (hB.mono hn), Nat.le_trans hn hB.size⟩
theorem fixed_of {L' : Vl} {A : List ByteArray} {kv vv av : Value} {w' : World} {L : Vl} (hV : VarsAt n₀ w p L A kv vv av) (hb : Below n₀ w0 w) (hn : n₀ ≤ w.heap.size) (hE : Ends n₀ p L' A kv vv av w w') (hf : Sorted (ks L') → fx L' v) : Fixed n₀ w0 w' p v := by
  have hsz : w.heap.size ≤ w'.heap.size := by
    obtain ⟨_, _, _, h2, _⟩ := hE
    exact h2.size
  obtain ⟨kv', vv', av', h1, h2⟩ := hE.b hV hn
  exact ⟨L', A, ⟨_, _, _, h1⟩, hf h1.srt, hb.trans h2, Nat.le_trans hn hsz⟩
theorem fixed_set (x u : ByteArray) (h : Fixed n₀ w0 w p v) (hx : x.size ≤ maxLen) : Calls Try.prog 10 #[.pointer (some ⟨p, 0, none⟩), .string x, .string u] w fun e w' => ∃ E, e = .returned (.int .i64 E) ∧ (x = fixedN → E = 63) ∧ Fixed n₀ w0 w' p v := by
  obtain ⟨L, A, ⟨kv, vv, av, hV⟩, hf, hb, hn⟩ := h
  refine (Set_any x u w hV hn hx).mono ?_
  rintro e w' ⟨he, hE⟩
  refine ⟨_, he, ?_, fixed_of hV hb hn hE (fun hs' => (fx_set hf hV.srt hs').1)⟩
  obtain ⟨_, _, h1, _⟩ := hE
  exact (fx_set hf hV.srt h1.srt).2
theorem fixed_unset (x : ByteArray) (h : Fixed n₀ w0 w p v) (hx : x.size ≤ maxLen) : Calls Try.prog 12 #[.pointer (some ⟨p, 0, none⟩), .string x] w fun e w' => ∃ E, e = .returned (.int .i64 E) ∧ (x = fixedN → E = 63) ∧ Fixed n₀ w0 w' p v := by
  obtain ⟨L, A, ⟨kv, vv, av, hV⟩, hf, hb, hn⟩ := h
  refine (Unset_any x w hV hx).mono ?_
  rintro e w' ⟨he, hE⟩
  refine ⟨_, he, ?_, fixed_of hV hb hn hE (fun hs' => (fx_unset hf hV.srt hs').1)⟩
  obtain ⟨_, _, h1, _⟩ := hE
  exact (fx_unset hf hV.srt h1.srt).2
theorem fixed_mark (x : ByteArray) (a b : Bool) (h : Fixed n₀ w0 w p v) (hx : x.size ≤ maxLen) : Calls Try.prog 14 #[.pointer (some ⟨p, 0, none⟩), .string x, .bool a, .bool b] w fun e w' => ∃ E, e = .returned (.int .i64 E) ∧ Fixed n₀ w0 w' p v := by
  obtain ⟨L, A, ⟨kv, vv, av, hV⟩, hf, hb, hn⟩ := h
  refine (Mark_any x a b w hV hn hx).mono ?_
  rintro e w' ⟨he, hE⟩
  exact ⟨_, he, fixed_of hV hb hn hE (fun hs' => fx_mark hf hV.srt hs')⟩
theorem fixed_copy (h : Fixed n₀ w0 w p v) : Calls Try.prog 20 #[.pointer (some ⟨p, 0, none⟩)] w fun e w' => ∃ q, e = .returned (.pointer (some ⟨q, 0, none⟩)) ∧ Fixed n₀ w0 w' q v := by
  obtain ⟨L, A, ⟨kv, vv, av, hV⟩, hf, hb, hn⟩ := h
  refine (Copy_any w hV).mono ?_
  rintro e w' ⟨q, kv', vv', av', he, _, hV', hB⟩
  exact ⟨q, he, L, A, ⟨kv', vv', av', hV'.weak hn⟩, hf, hb.trans (hB.mono hn), Nat.le_trans hn hB.size⟩
end

theorem fixed_new (n₀ : Nat) (w0 w : World) (hb : Below n₀ w0 w) (hn : n₀ ≤ w.heap.size) : Calls Try.prog 9 #[] w fun e w' => ∃ p, e = .returned (.pointer (some ⟨p, 0, none⟩)) ∧ Vs n₀ w' p [] [] ∧ Below n₀ w0 w' ∧ n₀ ≤ w'.heap.size := by
  refine (new_any n₀ w hn).mono ?_
  rintro e w' ⟨he, hB, hV⟩
  exact ⟨_, he, ⟨_, _, _, hV⟩, hb.trans (hB.mono hn), Nat.le_trans hn hB.size⟩
def F1 (v : ByteArray) : Vl := [(fixedN, ⟨v, true, false, false⟩)]
def F2 (v : ByteArray) : Vl := [(fixedN, ⟨v, true, false, true⟩)]
theorem setE_F (v : ByteArray) (hv : v.size ≤ 65536) : setE [] fixedN v = 0 := by
  unfold setE
  rw [if_neg (by rw [isName_fixed]; simp), if_neg (by simp [got, ks, has, pos, Vb.no]), if_neg (by omega), if_neg (by simp)]
theorem fixed_first (n₀ : Nat) (w0 w : World) (p : Nat) (v : ByteArray) (hV : Vs n₀ w p [] []) (hb : Below n₀ w0 w) (hn : n₀ ≤ w.heap.size) (hv : v.size ≤ 65536) :
    Calls Try.prog 10 #[.pointer (some ⟨p, 0, none⟩), .string fixedN, .string v] w fun e w' => e = .returned (.int .i64 0) ∧ Vs n₀ w' p (F1 v) [] ∧ Below n₀ w0 w' ∧ n₀ ≤ w'.heap.size := by
  obtain ⟨kv, vv, av, hV⟩ := hV
  refine (Set_any fixedN v w hV hn (by decide)).mono ?_
  rintro e w' ⟨he, hE⟩
  rw [setE_F v hv] at he
  have hR : setR [] fixedN v = F1 v := by unfold setR; rw [if_pos (setE_F v hv)]; rfl
  rw [hR] at hE
  have hsz : w.heap.size ≤ w'.heap.size := by
    obtain ⟨_, _, _, h2, _⟩ := hE
    exact h2.size
  obtain ⟨kv', vv', av', h1, h2⟩ := hE.b hV hn
  exact ⟨he, ⟨_, _, _, h1⟩, hb.trans h2, Nat.le_trans hn hsz⟩
theorem fixed_second (n₀ : Nat) (w0 w : World) (p : Nat) (v : ByteArray) (hV : Vs n₀ w p (F1 v) []) (hb : Below n₀ w0 w) (hn : n₀ ≤ w.heap.size) :
    Calls Try.prog 14 #[.pointer (some ⟨p, 0, none⟩), .string fixedN, .bool false, .bool true] w fun e w' => e = .returned (.int .i64 0) ∧ Fixed n₀ w0 w' p v := by
  obtain ⟨kv, vv, av, hV⟩ := hV
  refine (Mark_any fixedN false true w hV hn (by decide)).mono ?_
  rintro e w' ⟨he, hE⟩
  have hh : has (ks (F1 v)) fixedN = true := (has_iff hV.srt).2 (List.mem_singleton.2 rfl)
  have hg : got (F1 v) fixedN = ⟨v, true, false, false⟩ := got_of hV.srt (List.mem_singleton.2 rfl)
  have hE0 : markE (F1 v) fixedN false true = 0 := by unfold markE; rw [if_neg (by rw [isName_fixed]; simp), if_neg (by simp), if_neg (by rw [hh]; simp)]
  rw [hE0] at he
  refine ⟨he, fixed_of hV hb hn hE (fun hs' => ?_)⟩
  have hR : markR (F1 v) fixedN false true = setL (F1 v) fixedN ⟨v, true, false, true⟩ := by
    unfold markR
    rw [if_neg (by rw [isName_fixed]; simp), if_neg (by simp), if_neg (by rw [hh]; simp), hg]
    rfl
  rw [hR] at hs' ⊢
  unfold fx
  rw [got_setL hV.srt hs', if_pos rfl]
  exact ⟨rfl, rfl, rfl⟩
end Go.Proofs.Ytklepnldoajghaa
