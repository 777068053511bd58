/- The maker's end at a field that is begun; an empty field more. No condition but lengths. -/
import Derived.Test.YtlaidmjlgjpgcaaSplB
import Derived.Deep.RegionLaw
namespace Go.Proofs.Ytlaidmjlgjpgcaa
open Go.RowKit

theorem own_blk {w w1 : World} {base : Nat} {e : TypeId} {size : Nat} {v : Value} {n : Nat} {xs : List Value} (h : w.ownsRow base e size v n xs) (hb : ∀ g, v.ownBlock = some g → w1.heap[g]? = w.heap[g]?) : w1.ownsRow base e size v n xs := by
  refine ⟨h.1, ?_⟩
  rcases h.2 with h | ⟨g, cap, cur, e1, e2, e3, e4⟩
  · exact .inl h
  · refine .inr ⟨g, cap, cur, e1, e2, ?_, e4⟩
    rw [hb g (by rw [e1]; rfl)]; exact e3
theorem own_lt {w : World} {base : Nat} {e : TypeId} {size : Nat} {v : Value} {n : Nat} {xs : List Value} (h : w.ownsRow base e size v n xs) {g : Nat} (hg : v.ownBlock = some g) : g < w.heap.size := (h.lt g hg).2
/-- Rows of two types lie apart. -/
theorem row_row {W : World} {e e' : TypeId} (hee : e ≠ e') {base size k base' size' k' : Nat} {v v' : Value} {xs xs' : List Value} (h : W.ownsRow base e size v k xs) (h' : W.ownsRow base' e' size' v' k' xs') {g : Nat} (hg : v.ownBlock = some g) : some g ≠ v'.ownBlock := by
  rcases h.2 with ⟨rfl, _⟩ | ⟨g1, cap, cur, rfl, _, hb, _⟩
  · simp [Value.ownBlock] at hg
  · obtain rfl : g1 = g := by simpa [Value.ownBlock] using hg
    exact row_ne hb hee h'

/-- What lay lies, but for the fields' own row. -/
def Grown (w w1 : World) (vf : Value) : Prop := ∀ k, k < w.heap.size → some k ≠ vf.ownBlock → w1.heap[k]? = w.heap[k]?

theorem push_core {n₀ mb : Nat} {m : Mk} {vf vc : Value} {sl : List Value} {w w1 : World} {v' u : Value} (h : MkAt n₀ mb m vf vc sl w) (hg : Grown w w1 vf) (own' : w1.ownsRow n₀ 22 1 v' (m.fs.length + 1) (sl ++ [u])) :
    ((w1.setCell ⟨mb, 0, none⟩ v').cell? ⟨mb, 0, none⟩ = some v' ∧ (w1.setCell ⟨mb, 0, none⟩ v').cell? ⟨mb, 1, none⟩ = some vc ∧ (w1.setCell ⟨mb, 0, none⟩ v').cell? ⟨mb, 2, none⟩ = some (.bool m.b) ∧ (w1.setCell ⟨mb, 0, none⟩ v').cell? ⟨mb, 3, none⟩ = some (.bool m.s)) ∧
    (∀ o, (w1.setCell ⟨mb, 0, none⟩ v').frozen? ⟨mb, o, none⟩ = false) ∧ (∃ cs fr, (w1.setCell ⟨mb, 0, none⟩ v').heap[mb]? = some (.cells cs 65 fr)) ∧
    (w1.setCell ⟨mb, 0, none⟩ v').ownsRow n₀ 22 1 v' (m.fs.length + 1) (sl ++ [u]) ∧
    (∀ (v : Value) (f : List Ch), w.ownsRow n₀ 33 2 v f.length (chv f) → (w1.setCell ⟨mb, 0, none⟩ v').ownsRow n₀ 33 2 v f.length (chv f)) := by
  obtain ⟨cs, fr, ht⟩ := h.ty
  have hlt : mb < w.heap.size := (Array.getElem?_eq_some_iff.1 ht).1
  have hne : some mb ≠ vf.ownBlock := row_ne ht (by decide) h.rf
  have hm := hg mb hlt hne
  have ht1 : w1.heap[mb]? = some (.cells cs 65 fr) := hm.trans ht
  have cc : ∀ o, w1.cell? ⟨mb, o, none⟩ = w.cell? ⟨mb, o, none⟩ := fun o => by simp only [World.cell?, hm]
  have cf : ∀ o, w1.frozen? ⟨mb, o, none⟩ = w.frozen? ⟨mb, o, none⟩ := fun o => by simp only [World.frozen?, hm]
  refine ⟨⟨cell_set_same ((cc 0).trans h.c0) _, by rw [cell_set_ne (by omega), cc]; exact h.c1, by rw [cell_set_ne (by omega), cc]; exact h.c2, by rw [cell_set_ne (by omega), cc]; exact h.c3⟩, fun o => by rw [World.frozen?_setCell, cf]; exact h.fz o, ty_set ⟨cs, fr, ht1⟩, row_set ht1 (by decide) own', fun v f hv => row_set ht1 (by decide) (own_blk hv (fun g e => ?_))⟩
  exact hg g (own_lt hv e) (row_row (by decide) hv h.rf e)

theorem sl_push {n₀ : Nat} {fs : List (List Ch)} {vc vc' u : Value} {sl : List Value} {w W : World} {x : List Ch} (h : SlAt n₀ fs vc sl w) (hk : ∀ (v : Value) (f : List Ch), w.ownsRow n₀ 33 2 v f.length (chv f) → W.ownsRow n₀ 33 2 v f.length (chv f))
    (hu : w.ownsRow n₀ 33 2 u x.length (chv x)) (ha : ∀ g, u.ownBlock = some g → vc'.ownBlock ≠ some g) (ho : ∀ g, vc.ownBlock ≠ some g → g < w.heap.size → vc'.ownBlock ≠ some g) : SlAt n₀ (fs ++ [x]) vc' (sl ++ [u]) W := by
  refine ⟨by rw [List.length_append, List.length_append, h.1]; rfl, fun j v f h1 h2 => ?_⟩
  rcases Nat.lt_or_ge j sl.length with hj | hj
  · rw [List.getElem?_append_left hj] at h1
    rw [List.getElem?_append_left (by rw [← h.1]; exact hj)] at h2
    exact ⟨hk _ _ (h.2 j v f h1 h2).1, fun g e => ho g ((h.2 j v f h1 h2).2 g e) (own_lt (h.2 j v f h1 h2).1 e)⟩
  · rw [List.getElem?_append_right hj] at h1
    rw [List.getElem?_append_right (by rw [← h.1]; exact hj), ← h.1] at h2
    obtain ⟨i, hi⟩ : ∃ i, j - sl.length = i := ⟨_, rfl⟩
    rw [hi] at h1 h2
    cases i with
    | zero =>
      obtain rfl : u = v := by simpa using h1
      obtain rfl : x = f := by simpa using h2
      exact ⟨hk _ _ hu, fun g e => ha g e⟩
    | succ i => simp at h1

/-- The field at hand is put behind the others; none is begun. -/
theorem MkAt.ended {n₀ mb : Nat} {m : Mk} {vf vc : Value} {sl : List Value} {w w1 : World} {v' : Value} (h : MkAt n₀ mb m vf vc sl w) (hg : Grown w w1 vf) (own' : w1.ownsRow n₀ 22 1 v' (m.fs.length + 1) (sl ++ [vc])) :
    MkAt n₀ mb ⟨m.fs ++ [m.f], [], false, m.s⟩ v' (.slice none 0 0) (sl ++ [vc]) (((w1.setCell ⟨mb, 0, none⟩ v').setCell ⟨mb, 1, none⟩ (.slice none 0 0)).setCell ⟨mb, 2, none⟩ (.bool false)) := by
  obtain ⟨⟨a0, a1, a2, a3⟩, b1, ⟨cs, fr, hty⟩, b2, b3⟩ := push_core h hg own'
  have hty2 := ty_set (o := 1) (u := .slice none 0 0) ⟨cs, fr, hty⟩
  obtain ⟨cs2, fr2, ht2⟩ := hty2
  refine ⟨by rw [cell_set_ne (by omega), cell_set_ne (by omega)]; exact a0, by rw [cell_set_ne (by omega)]; exact cell_set_same a1 _, cell_set_same (by rw [cell_set_ne (by omega)]; exact a2) _, by rw [cell_set_ne (by omega), cell_set_ne (by omega)]; exact a3,
    fun o => by rw [World.frozen?_setCell, World.frozen?_setCell]; exact b1 o, ty_set ⟨cs2, fr2, ht2⟩, h.hb, ?_, World.ownsRow_nil _ _ _ _, ?_⟩
  · rw [List.length_append]
    exact row_set ht2 (by decide) (row_set hty (by decide) b2)
  · exact sl_push h.sls (fun v f hv => row_set ht2 (by decide) (row_set hty (by decide) (b3 v f hv))) h.rc (fun _ _ => by simp [Value.ownBlock]) (fun _ _ _ => by simp [Value.ownBlock])

/-- An empty field more; none is begun. -/
theorem MkAt.empty {n₀ mb : Nat} {m : Mk} {vf vc : Value} {sl : List Value} {w w1 : World} {v' : Value} (h : MkAt n₀ mb m vf vc sl w) (hg : Grown w w1 vf) (own' : w1.ownsRow n₀ 22 1 v' (m.fs.length + 1) (sl ++ [.slice none 0 0])) :
    MkAt n₀ mb { m with fs := m.fs ++ [[]] } v' vc (sl ++ [.slice none 0 0]) (w1.setCell ⟨mb, 0, none⟩ v') := by
  obtain ⟨⟨a0, a1, a2, a3⟩, b1, hty, b2, b3⟩ := push_core h hg own'
  refine ⟨a0, a1, a2, a3, b1, hty, h.hb, ?_, ?_, ?_⟩
  · rw [List.length_append]; exact b2
  · exact b3 vc m.f h.rc
  · exact sl_push h.sls b3 (x := []) (World.ownsRow_nil _ _ _ _) (fun _ e => by simp [Value.ownBlock] at e) (fun _ h _ => h)

theorem frozen_alloc_lt {w : World} (o : Obj) {b : Nat} (h : b < w.heap.size) (i : Nat) : (w.alloc o).frozen? ⟨b, i, none⟩ = w.frozen? ⟨b, i, none⟩ := by
  simp only [World.frozen?, Below.heap_alloc w o b h]
theorem info22 : (Try.prog.info? 22).map (fun i => (i.zero, i.size, i.bytes)) = some (some (.slice none 0 0), 1, 24) := by kernel_rfl
theorem info33 : (Try.prog.info? 33).map (fun i => (i.zero, i.size, i.bytes)) = some (some (.agg #[.int .u8 0, .bool false]), 2, 2) := by kernel_rfl

set_option maxRecDepth 100000 in
set_option maxHeartbeats 3000000 in
theorem end_yes {n₀ mb : Nat} {m : Mk} {vf vc : Value} {sl : List Value} (w : World) (h : MkAt n₀ mb m vf vc sl w) (hb : m.b = true) (hl : m.fs.length ≤ 1000) (hn : n₀ ≤ w.heap.size) :
    Calls Try.prog 43 #[.pointer (some ⟨mb, 0, none⟩)] w (Stands n₀ mb m.fin w (.bool true)) := by
  obtain ⟨i0, hi, hz0, hz1, hz2⟩ := info_parts info22
  obtain ⟨av, cv, rfl⟩ := ownsRow_slice h.rc
  have hfin : Hid (m.fin = ⟨m.fs ++ [m.f], [], false, m.s⟩) := Lib.hid (by unfold Mk.fin; rw [hb]; rfl)
  have h2 := h.c2
  rw [hb] at h2
  have h0 := h.c0
  have h1 := h.c1
  have f0 := h.fz 0
  have f1 := h.fz 1
  have f2 := h.fz 2
  obtain ⟨cs, fr, hty⟩ := h.ty
  have hlt : mb < w.heap.size := (Array.getElem?_eq_some_iff.1 hty).1
  have hne := Lib.hid (row_ne hty (e := 22) (by decide) h.rf)
  have hown := h.rf
  have hH := Lib.hid h
  have hnb := h.hb
  have fa : (w.alloc (.cells #[.slice av m.f.length cv] 22)).frozen? ⟨mb, 0, none⟩ = false := (frozen_alloc_lt _ hlt 0).trans f0
  clear h hb hty
  obtain ⟨k, hk⟩ : ∃ k, m.fs.length = k := ⟨_, rfl⟩
  rw [hk] at hl hown
  have hkH := Lib.hid hk
  clear hk
  go_enter Try.func43, Try.ntmps43
  go_wp2
  go_region_law (refine step_append_lies _ (by rfl) _ _ _ (by rfl) n₀ 22 i0 _ 1 24 Try.underlying40 hi hz0 hz1 hz2 rfl (by omega) vf k sl (by rfl) ((hown.alloc _).drew) ⟨w.heap.size, 0, none⟩ 1 1 [.slice av m.f.length cv] (by rfl) (by rfl) (World.news_of_block (cs := #[.slice av m.f.length cv]) (t := 22) (fr := (0, 0)) (heap_alloc_new w _)) (by simp [Value.oneCell']) (by omega) (by unfold maxLen; omega) (by omega) (by simp; omega) (w.heap.size + 1) (by simp) ?_; intro gg cap w1 hown1 hgrow hat hlt1; have hc : w1.cell? ⟨mb, 0, none⟩ = some vf := (hgrow.cell_far ⟨mb, 0, none⟩ (by simp; omega) hne.out).trans (by go_simp); have hf : w1.frozen? ⟨mb, 0, none⟩ = false := (World.frozen?_of_block (a := ⟨mb, 0, none⟩) (hgrow.block mb (by simp; omega) hne.out)).trans fa)
  all_goals
    have hm : w1.heap[mb]? = w.heap[mb]? := (hgrow.block mb (by simp; omega) hne.out).trans (Below.heap_alloc _ _ _ hlt)
    have hc1 : w1.cell? ⟨mb, 1, none⟩ = some (.slice av m.f.length cv) := (World.cell?_of_block (a := ⟨mb, 1, none⟩) hm).trans h1
    have hc2 : w1.cell? ⟨mb, 2, none⟩ = some (.bool true) := (World.cell?_of_block (a := ⟨mb, 2, none⟩) hm).trans h2
    have hf1 : w1.frozen? ⟨mb, 1, none⟩ = false := (World.frozen?_of_block (a := ⟨mb, 1, none⟩) hm).trans f1
    have hf2 : w1.frozen? ⟨mb, 2, none⟩ = false := (World.frozen?_of_block (a := ⟨mb, 2, none⟩) hm).trans f2
    have hG : Hid (Grown w w1 vf) := Lib.hid (fun q hq hqn => (hgrow.block q (by simp; omega) hqn).trans (Below.heap_alloc _ _ _ hq))
    have hgH := Lib.hid hgrow
    have hoH := Lib.hid hown1
    have howH := Lib.hid hown
    clear hgrow hown1 hown hm h0 h1 h2 f0 f1 f2 fa hat hlt1
    go_wp2
    go_ret
    refine ⟨rfl, (((((Keep.alloc w hn _).trans (Keep.drew _)).trans (Keep.grown ((howH.out.alloc _).drew) (Nat.le_refl _) (.inr rfl) hgH.out (by simp; omega))).trans (Keep.set _ hnb 0 _)).trans (Keep.set _ hnb 1 _)).trans (Keep.set _ hnb 2 _), ?_⟩
    rw [hfin.out]
    exact ⟨_, _, _, hH.out.ended hG.out (by rw [hkH.out]; exact hoH.out)⟩
end Go.Proofs.Ytlaidmjlgjpgcaa
