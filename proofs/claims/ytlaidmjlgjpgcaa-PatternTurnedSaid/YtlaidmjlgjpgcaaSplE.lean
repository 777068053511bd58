/- The contracts of take and separator. No condition but lengths. -/
import Derived.Test.YtlaidmjlgjpgcaaSplD
namespace Go.Proofs.Ytlaidmjlgjpgcaa
open Go.RowKit

theorem MkAt.alloc {n₀ mb : Nat} {m : Mk} {vf vc : Value} {sl : List Value} {w : World} (h : MkAt n₀ mb m vf vc sl w) (o : Obj) : MkAt n₀ mb m vf vc sl (w.alloc o) := by
  obtain ⟨cs, fr, ht⟩ := h.ty
  have hlt : mb < w.heap.size := (Array.getElem?_eq_some_iff.1 ht).1
  have hm := Below.heap_alloc w o mb hlt
  have cc : ∀ i, (w.alloc o).cell? ⟨mb, i, none⟩ = w.cell? ⟨mb, i, none⟩ := fun i => by simp only [World.cell?, hm]
  refine ⟨(cc 0).trans h.c0, (cc 1).trans h.c1, (cc 2).trans h.c2, (cc 3).trans h.c3, fun i => by rw [frozen_alloc_lt o hlt]; exact h.fz i, ⟨cs, fr, hm.trans ht⟩, h.hb, h.rf.alloc _, h.rc.alloc _, h.sls.1, fun j v f h1 h2 => ?_⟩
  have := h.sls.2 j v f h1 h2
  exact ⟨this.1.alloc _, this.2⟩

/-- A byte more of the field at hand. -/
theorem MkAt.taken {n₀ mb : Nat} {m : Mk} {vf vc : Value} {sl : List Value} {w w1 : World} {g cap : Nat} {c : Ch} (h : MkAt n₀ mb m vf vc sl w) (hg : Grown w w1 vc) (own' : w1.ownsRow n₀ 33 2 (.slice (some ⟨g, 0, none⟩) (m.f.length + 1) cap) (m.f.length + 1) (chv (m.f ++ [c])))
    (hat : vc.ownBlock = some g ∨ w.heap.size ≤ g) :
    MkAt n₀ mb { m with f := m.f ++ [c] } vf (.slice (some ⟨g, 0, none⟩) (m.f.length + 1) cap) sl (w1.setCell ⟨mb, 1, none⟩ (.slice (some ⟨g, 0, none⟩) (m.f.length + 1) cap)) := by
  obtain ⟨cs, fr, ht⟩ := h.ty
  have hlt : mb < w.heap.size := (Array.getElem?_eq_some_iff.1 ht).1
  have hne : some mb ≠ vc.ownBlock := row_ne ht (by decide) h.rc
  have hm := hg mb hlt hne
  have ht1 : w1.heap[mb]? = some (.cells cs 65 fr) := hm.trans ht
  have cc : ∀ o, w1.cell? ⟨mb, o, none⟩ = w.cell? ⟨mb, o, none⟩ := fun o => by simp only [World.cell?, hm]
  have cf : ∀ o, w1.frozen? ⟨mb, o, none⟩ = w.frozen? ⟨mb, o, none⟩ := fun o => by simp only [World.frozen?, hm]
  refine ⟨by rw [cell_set_ne (by omega), cc]; exact h.c0, cell_set_same ((cc 1).trans h.c1) _, by rw [cell_set_ne (by omega), cc]; exact h.c2, by rw [cell_set_ne (by omega), cc]; exact h.c3, fun o => by rw [World.frozen?_setCell, cf]; exact h.fz o, ty_set ⟨cs, fr, ht1⟩, h.hb, ?_, ?_, h.sls.1, fun j v f h1 h2 => ?_⟩
  · exact row_set ht1 (by decide) (own_blk h.rf (fun q e => hg q (own_lt h.rf e) (row_row (by decide) h.rf h.rc e)))
  · rw [List.length_append]
    exact row_set ht1 (by decide) own'
  · obtain ⟨a1, a2⟩ := h.sls.2 j v f h1 h2
    refine ⟨row_set ht1 (by decide) (own_blk a1 (fun q e => hg q (own_lt a1 e) (fun e2 => a2 q e e2.symm))), fun q e => ?_⟩
    show some g ≠ some q
    intro e2
    obtain rfl : g = q := by simpa using e2
    rcases hat with hat | hat
    · exact a2 g e hat
    · have := own_lt a1 e; omega

set_option maxRecDepth 100000 in
set_option maxHeartbeats 3000000 in
theorem take_any {n₀ mb : Nat} {m : Mk} {vf vc : Value} {sl : List Value} (c : Ch) (w : World) (h : MkAt n₀ mb m vf vc sl w) (hl : m.f.length ≤ 10000) (hn : n₀ ≤ w.heap.size) :
    Calls Try.prog 39 #[.pointer (some ⟨mb, 0, none⟩), .agg #[.int .u8 (c.1.toNat : Int), .bool c.2]] w (Stands n₀ mb (m.step (.it c)) w (.tuple #[])) := by
  obtain ⟨i0, hi, hz0, hz1, hz2⟩ := info_parts info33
  have hA := (h.alloc (.cells #[.int .u8 (c.1.toNat : Int), .bool c.2] 33)).set2 true
  obtain ⟨w0, hw0⟩ : ∃ w0, (w.alloc (.cells #[.int .u8 (c.1.toNat : Int), .bool c.2] 33)).setCell ⟨mb, 2, none⟩ (.bool true) = w0 := ⟨_, rfl⟩
  have h1a := (h.alloc (.cells #[.int .u8 (c.1.toNat : Int), .bool c.2] 33)).c2
  have f1a := (h.alloc (.cells #[.int .u8 (c.1.toNat : Int), .bool c.2] 33)).fz 2
  obtain ⟨cs, fr, hty0⟩ := h.ty
  have hltw : mb < w.heap.size := (Array.getElem?_eq_some_iff.1 hty0).1
  have hkw : Hid (Keep n₀ mb w w0) := Lib.hid (by rw [← hw0]; exact (Keep.alloc w hn _).trans (Keep.set _ h.hb 2 _))
  have hbx : w0.cell? ⟨w.heap.size, 0, none⟩ = some (.int .u8 (c.1.toNat : Int)) ∧ w0.cell? ⟨w.heap.size, 1, none⟩ = some (.bool c.2) := by
    rw [← hw0]
    have hB : ((w.alloc (.cells #[.int .u8 (c.1.toNat : Int), .bool c.2] 33)).setCell ⟨mb, 2, none⟩ (.bool true)).heap[w.heap.size]? = some (.cells #[.int .u8 (c.1.toNat : Int), .bool c.2] 33 (0, 0)) :=
      (Below.heap_setCell _ _ _ _ (by simp; omega)).trans (World.alloc_heap_new w _)
    exact ⟨by rw [cell_of_row _ _ 0 _ _ _ hB]; rfl, by rw [cell_of_row _ _ 1 _ _ _ hB]; rfl⟩
  have hsz1 : w0.heap.size ≤ w.heap.size + 1 := by rw [← hw0]; simp
  have hsz0 : w.heap.size + 1 ≤ w0.heap.size := by rw [← hw0]; simp
  rw [hw0] at hA
  obtain ⟨m1, hm1⟩ : ∃ m1 : Mk, { m with b := true } = m1 := ⟨_, rfl⟩
  have hf1 : m1.f = m.f := by rw [← hm1]
  have hs : Hid (m.step (.it c) = { m1 with f := m1.f ++ [c] }) := Lib.hid (by rw [← hm1]; rfl)
  rw [hm1] at hA
  clear h hm1 hty0
  have c1 := hA.c1
  have fz1 := hA.fz 1
  obtain ⟨cs, fr, hty⟩ := hA.ty
  have hlt : mb < w0.heap.size := (Array.getElem?_eq_some_iff.1 hty).1
  have hne := Lib.hid (row_ne hty (e := 33) (by decide) hA.rc)
  have hown := hA.rc
  rw [← hf1] at hl
  have hnb := hA.hb
  have hH := Lib.hid hA
  have hn0 : n₀ ≤ w0.heap.size := by omega
  have fa : (w0.alloc (.cells #[.int .u8 (c.1.toNat : Int), .bool c.2] 33)).frozen? ⟨mb, 1, none⟩ = false := (frozen_alloc_lt _ hlt 1).trans fz1
  clear hA hty hf1
  obtain ⟨k, hkk⟩ : ∃ k, m1.f.length = k := ⟨_, rfl⟩
  rw [hkk] at hl hown
  have hkkH := Lib.hid hkk
  clear hkk
  go_enter Try.func39, Try.ntmps39
  go_wp2
  clear hw0 h1a f1a
  go_region_law (refine step_append_lies _ (by rfl) _ _ _ (by rfl) n₀ 33 i0 _ 2 2 Try.underlying22 hi hz0 hz1 hz2 rfl (by omega) vc k (chv m1.f) (by rfl) ((hown.alloc _).drew) ⟨w0.heap.size, 0, none⟩ 1 1 [.int .u8 (c.1.toNat : Int), .bool c.2] (by rfl) (by rfl) (World.news_of_block (cs := #[.int .u8 (c.1.toNat : Int), .bool c.2]) (t := 33) (fr := (0, 0)) (heap_alloc_new w0 _)) (by simp [Value.oneCell']) (by omega) (by unfold maxLen; omega) (by omega) (by simp; omega) (w0.heap.size + 1) (by simp) ?_; intro gg cap w1 hown1 hgrow hat hlt1; have hc : w1.cell? ⟨mb, 1, none⟩ = some vc := (hgrow.cell_far ⟨mb, 1, none⟩ (by simp; omega) hne.out).trans (by go_simp); have hf : w1.frozen? ⟨mb, 1, none⟩ = false := (World.frozen?_of_block (a := ⟨mb, 1, none⟩) (hgrow.block mb (by simp; omega) hne.out)).trans fa)
  all_goals
    have hG : Hid (Grown w0 w1 vc) := Lib.hid (fun q hq hqn => (hgrow.block q (by simp; omega) hqn).trans (Below.heap_alloc _ _ _ hq))
    have hgH := Lib.hid hgrow
    have hoH := Lib.hid hown1
    have howH := Lib.hid hown
    have hatH : Hid (vc.ownBlock = some gg ∨ w0.heap.size ≤ gg) := Lib.hid (hat.imp id (fun h => by omega))
    clear hgrow hown1 hown hat hlt1 c1 fz1 fa hc hf hbx
    go_wp2
    go_end0
    refine ⟨rfl, hkw.out.trans ((((Keep.alloc w0 hn0 _).trans (Keep.drew _)).trans (Keep.grown ((howH.out.alloc _).drew) (Nat.le_refl _) (.inl rfl) hgH.out (by simp; omega))).trans (Keep.set _ hnb 1 _)), ?_⟩
    rw [hs.out]
    have := hH.out.taken (c := c) (g := gg) (cap := cap) hG.out (by rw [hkkH.out, chv_snoc]; exact hoH.out) hatH.out
    rw [hkkH.out] at this
    exact ⟨_, _, _, this⟩

def sepV (b : UInt8) : Pt := if b.toNat = 9 ∨ b.toNat = 10 ∨ b.toNat = 32 then .sf else .hd
def sepN (b : UInt8) : Int := if b.toNat = 9 ∨ b.toNat = 10 ∨ b.toNat = 32 then 2 else 3
set_option maxHeartbeats 1000000 in
theorem separator_any (b : UInt8) (w : World) : Calls Try.prog 55 #[.int .u8 (b.toNat : Int)] w fun e w' => e = .returned (.int .i64 (sepN b)) ∧ w = w' := by
  unfold sepN
  obtain ⟨c, hc⟩ : ∃ c : Nat, b.toNat = c := ⟨_, rfl⟩
  rw [hc]
  clear hc
  by_cases h9 : c = 9
  · subst h9
    go_enter Try.func55, Try.ntmps55
    go_wp2
    go_ret
    exact ⟨rfl, rfl⟩
  · by_cases h10 : c = 10
    · subst h10
      go_enter Try.func55, Try.ntmps55
      go_wp2
      go_ret
      exact ⟨rfl, rfl⟩
    · by_cases h32 : c = 32
      · subst h32
        go_enter Try.func55, Try.ntmps55
        go_wp2
        go_ret
        exact ⟨rfl, rfl⟩
      · have e1 : ((c : Int) == 9) = false := by simp; omega
        have e2 : ((c : Int) == 10) = false := by simp; omega
        have e3 : ((c : Int) == 32) = false := by simp; omega
        rw [if_neg (by omega)]
        clear h9 h10 h32
        go_enter Try.func55, Try.ntmps55
        go_wp2
        go_ret
        exact ⟨rfl, rfl⟩
end Go.Proofs.Ytlaidmjlgjpgcaa
