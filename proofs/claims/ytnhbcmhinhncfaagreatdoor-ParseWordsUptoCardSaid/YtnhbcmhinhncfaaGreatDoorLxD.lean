/- A line's reader in memory: text, place, tokens, delimiters. No condition. -/
import Derived.Test.YtnhbcmhinhncfaaGreatDoorLxC
namespace Go.Proofs.YtnhbcmhinhncfaaGreatDoor
open Go.RowKit Go.PlainAid
attribute [local go_sem] Oper.semAt_some

/-- What a line's reader holds. -/
structure LS where
  place : Nat
  toks : List Tk
  dels : List (Nat × Bool)
def dv (ds : List (Nat × Bool)) : List Value := ds.flatMap (fun d => [.int .i64 d.1, .bool d.2])
theorem dv_len (ds : List (Nat × Bool)) : (dv ds).length = ds.length * 2 := by
  induction ds with
  | nil => rfl
  | cons p ps ih => simp only [dv, List.flatMap_cons, List.length_append, List.length_cons] at ih ⊢; rw [ih]; simp; omega
theorem dv_app (ds : List (Nat × Bool)) (d : Nat × Bool) : dv (ds ++ [d]) = dv ds ++ [.int .i64 d.1, .bool d.2] := by simp [dv]
/-- The reader in memory: all its blocks lie behind n₀. -/
structure LAt (w : World) (b n₀ : Nat) (s : ByteArray) (st : LS) : Prop where
  ex : ∃ a0 c0 a1 c1, Blk w b 92 (rdC s st.place a0 st.toks.length c0 a1 st.dels.length c1) ∧ w.ownsRow n₀ 58 5 (.slice a0 st.toks.length c0) st.toks.length (tv st.toks) ∧ w.ownsRow n₀ 101 2 (.slice a1 st.dels.length c1) st.dels.length (dv st.dels)
  base : n₀ ≤ b
  size : n₀ ≤ w.heap.size

theorem Fr.below {b n₀ : Nat} {v : Option Nat} {w w' : World} (h : Fr b v w w') (hb : n₀ ≤ b) (hn : n₀ ≤ w.heap.size) (hv : ∀ g, v = some g → n₀ ≤ g) : Below n₀ w w' :=
  ⟨h.os, h.tape, h.output, h.size, fun k hk => h.block k (by omega) (by omega) (fun e => by have := hv k e.symm; omega)⟩
theorem infoDl : (Tryz.prog.info? 101).map (fun i => (i.zero, i.size, i.bytes)) = some (some (.agg #[.int .i64 0, .bool false]), 2, 16) := by kernel_rfl
theorem row_row {W : World} {e e' : TypeId} (hee : e ≠ e') {base size k base' size' k' : Nat} {v v' : Value} {xs xs' : List Value} (h : W.ownsRow base e size v k xs) (h' : W.ownsRow base' e' size' v' k' xs') {g : Nat} (hg : v.ownBlock = some g) : some g ≠ v'.ownBlock := by
  rcases h.2 with ⟨rfl, _⟩ | ⟨g1, cap, cur, rfl, _, hb, _⟩
  · simp [Value.ownBlock] at hg
  · obtain rfl : g1 = g := by simpa [Value.ownBlock] using hg
    exact row_off hb hee h'
/-- A token more. -/
def LS.tok (st : LS) (s : ByteArray) (kind size : Nat) : LS := ⟨st.place + size, st.toks ++ [⟨kind, s.extract st.place (st.place + size), st.place, ⟨#[]⟩, false⟩], st.dels⟩

theorem tok_at {w : World} {b n₀ : Nat} {s : ByteArray} {st : LS} (kind size : Nat) (h : LAt w b n₀ s st) (hs : s.size ≤ 100000) (hi : st.place + size ≤ s.size) (hlen : st.toks.length < 100000) :
    Calls Tryz.prog 55 #[.pointer (some ⟨b, 0, none⟩), .int .i64 kind, .int .i64 size] w fun e w' => e = .returned (.tuple #[]) ∧ LAt w' b n₀ s (st.tok s kind size) ∧ Below n₀ w w' := by
  obtain ⟨a0, c0, a1, c1, hB, hr, hd⟩ := h.ex
  refine (token_any s st.place kind size b n₀ a0 a1 c0 st.dels.length c1 st.toks w hB hr hlen hs hi h.size).mono ?_
  rintro e w' ⟨rfl, a2, c2, hat, hB2, hr2, hF⟩
  have hlen2 : (st.toks ++ [(⟨kind, s.extract st.place (st.place + size), st.place, ⟨#[]⟩, false⟩ : Tk)]).length = st.toks.length + 1 := by simp
  have hbel := hF.below h.base h.size (fun g hg => (hr.lt g hg).1)
  refine ⟨rfl, ⟨⟨a2, c2, a1, c1, ?_, ?_, ?_⟩, h.base, Nat.le_trans h.size hF.size⟩, hbel⟩
  · show Blk w' b _ (rdC s _ a2 (st.toks ++ [(⟨kind, s.extract st.place (st.place + size), st.place, ⟨#[]⟩, false⟩ : Tk)]).length c2 a1 _ c1)
    rw [hlen2]; exact hB2
  · show w'.ownsRow _ _ _ (.slice a2 (st.toks ++ [(⟨kind, s.extract st.place (st.place + size), st.place, ⟨#[]⟩, false⟩ : Tk)]).length c2) (st.toks ++ [(⟨kind, s.extract st.place (st.place + size), st.place, ⟨#[]⟩, false⟩ : Tk)]).length _
    rw [hlen2]; exact hr2
  · exact row_keep hd (fun g (hg : Value.ownBlock (.slice a1 st.dels.length c1) = some g) => hF.block g (row_lt hd hg) (fun e => row_off hB (by decide) hd (by rw [hg, e])) (row_row (by decide) hd hr hg))
theorem rem_at {w : World} {b n₀ : Nat} {s : ByteArray} {st : LS} (h : LAt w b n₀ s st) (hs : s.size ≤ 100000) (hi : st.place ≤ s.size) :
    Calls Tryz.prog 54 #[.pointer (some ⟨b, 0, none⟩)] w fun e w' => e = .returned (.tuple #[]) ∧ LAt w' b n₀ s ⟨remN s st.place, st.toks, st.dels⟩ ∧ Below n₀ w w' := by
  obtain ⟨a0, c0, a1, c1, hB, hr, hd⟩ := h.ex
  refine (remark_any s st.place b a0 a1 _ c0 _ c1 w hB hs hi).mono ?_
  rintro e w' ⟨rfl, hB2, hF⟩
  refine ⟨rfl, ⟨⟨a0, c0, a1, c1, hB2, ?_, ?_⟩, h.base, Nat.le_trans h.size hF.size⟩, hF.below h.base h.size (fun g hg => by cases hg)⟩
  · exact row_keep hr (fun g hg => hF.block g (row_lt hr hg) (fun e => row_off hB (by decide) hr (by rw [hg, e])) (by simp))
  · exact row_keep hd (fun g hg => hF.block g (row_lt hd hg) (fun e => row_off hB (by decide) hd (by rw [hg, e])) (by simp))
theorem last_at {w : World} {b n₀ : Nat} {s : ByteArray} {st : LS} (h : LAt w b n₀ s st) (hlen : st.toks.length ≤ 100000) :
    Calls Tryz.prog 71 #[.pointer (some ⟨b, 0, none⟩)] w fun e w' => e = .returned (.string (lastM st.toks)) ∧ w = w' := by
  obtain ⟨a0, c0, a1, c1, hB, hr, hd⟩ := h.ex
  exact last_any s st.place b n₀ a0 a1 _ c0 _ c1 st.toks w rfl hB hr hlen
end Go.Proofs.YtnhbcmhinhncfaaGreatDoor
