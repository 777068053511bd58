/- The tree's entries, without a tree; joined at none. No condition. -/
import Derived.Test.YtohgecmbkjienaaFlAJ
namespace Go.Proofs.Ytohgecmbkjienaa
open Go.RowKit Go.Shelf Go.PlainAid
attribute [local go_sem] Oper.semAt_some
theorem Tree_any (o : Option Nat) (w : World) : Calls Try.prog 25 #[ptrV o] w fun e w' => e = .returned (.func (.func 52) #[] #[.pointer (some ⟨w.heap.size, 0, none⟩)]) ∧ w' = w.alloc (.cells #[ptrV o] 24) := by
  go_enter Try.func25, Try.ntmps25
  go_wp2
  go_ret
  exact ⟨rfl, rfl⟩
set_option maxRecDepth 100000 in
theorem Tree1_nil (d b : Nat) (w : World) (hB : Blk w b 24 #[.pointer none]) :
    SeqT (α := Empty) Fence.wide d Try.prog 52 #[.pointer (some ⟨b, 0, none⟩)] (fun x => x.elim) (fun _ _ _ _ => True) (fun xs => xs = []) (fun _ => False) [] w := by
  intro l J Jx W hW hJ _ _ h0
  have c0 : W.cell? ⟨b, 0, none⟩ = some (.pointer none) := (blk_beneath hB hW).cell 0
  have h0H := Lib.hid h0
  clear hB hW h0
  show CallsIn Fence.wide d Try.prog 52 #[.func (.yield l) #[] #[], .pointer (some ⟨b, 0, none⟩)] W _
  refine callsIn_of_wp Try.func52 rfl trivial ?_ rfl
  simp only [Try.ntmps52, List.size_toArray, List.length_cons, List.length_nil, Nat.reduceAdd, Nat.reduceSub, Array.replicate_succ, Array.replicate_zero, List.push_toArray, List.append_toArray, List.nil_append, List.cons_append]
  gi_wp2
  go_end0
  exact ⟨⟨_, rfl⟩, _, h0H.out⟩
set_option maxRecDepth 100000 in
theorem tree_nil_in (n : Nat) (hn : 3 ≤ n) (w : World) : CallsIn Fence.wide n Try.prog 11 #[.pointer none] w fun e w' => e = .returned (.slice none 0 0) ∧ Below w.heap.size w w' := by
  have h1 : 1 ≤ n := by omega
  obtain ⟨c, hc⟩ : ∃ c, w.heap.size = c := ⟨_, rfl⟩
  obtain ⟨w0, hw0⟩ : ∃ x, (w.alloc (.cells #[.slice none 0 0] 28)).alloc (.cells #[.pointer none] 24) = x := ⟨_, rfl⟩
  have hb0 : Below w.heap.size w w0 := by rw [← hw0]; exact (alB _ _).alloc (by simp) _
  have hs0 : w0.heap.size = c + 2 := by rw [← hw0]; simp [hc]
  have kc : Blk w0 c 28 #[.slice none 0 0] := by rw [← hw0, ← hc]; exact (Blk.new _ _ _).alloc _
  have kb : Blk w0 (c + 1) 24 #[.pointer none] := by rw [← hw0]; exact newB _ _ _ (by simp [hc])
  have hw0H := Lib.hid hw0
  have hb0H := Lib.hid hb0
  have hcH := Lib.hid hc
  clear hw0 hb0
  refine callsIn_of_wp_marks Try.func11 rfl trivial ?_ rfl
  simp only [Try.ntmps11, List.size_toArray, List.length_cons, List.length_nil, Nat.reduceAdd, Nat.reduceSub, Array.replicate_succ, Array.replicate_zero, List.push_toArray, List.append_toArray, List.nil_append, List.cons_append]
  gi_wp2_with (refine ⟨trivial, ?_⟩; gi_at_call 25; refine (callsIn_wide.2 (Tree_any none _)).mono ?_; rintro e w' ⟨rfl, rfl⟩)
  rw [show ptrV none = Value.pointer none from rfl, hw0H.out]
  apply range_law (α := Empty) rfl h1 (gf := 52) (lb := #[.pointer (some ⟨c + 1, 0, none⟩)]) rfl trivial (enters_of Try.func52 (by kernel_rfl) rfl)
    (Tree1_nil (n - 1) (c + 1) w0 kb) (fun k hk => by cases hk) (fun _ _ _ _ _ _ _ _ h => h) (Below.refl _ _) (fun x => x.elim)
    (fun T _ W => InvG w0.heap.size (fun _ => False) (fun _ => False) w0 T W ∧ Blk W c 28 #[.slice none 0 0]) (fun _ _ _ _ => False) (fun T T' pre A B hi he => ⟨hi.1.ext (fun _ h => h.elim) he, blk_ext hi.2 hi.1.ts (by omega) (fun h => h) he⟩) (fun _ _ _ _ _ _ h _ => h) ⟨InvG.start (fun k hk => by cases hk) (Nat.le_refl _), kc⟩
    (fun x _ => x.elim) (fun x _ => x.elim) (fun x _ => x.elim) (fun _ x => x.elim) ?assign ?body ?done ?stop
  case assign => exact fun _ x => x.elim
  case body => exact fun _ _ _ x => x.elim
  case done =>
    rintro D T xs W hD _ rfl ⟨hI, hC⟩ hK
    have y0 : W.cell? ⟨c, 0, none⟩ = some (.slice none 0 0) := hC.cell 0
    have hIH := Lib.hid hI
    have hKH := Lib.hid hK
    clear hI hK hC
    gi_wp2
    refine ⟨by simp, .inl ⟨_, _, rfl, run_takeDeferred hKH.out, ?_⟩⟩
    refine ⟨_, results_tmp rfl _ _ _, rfl, ?_⟩
    have h9 := (hIH.out.toBelow hb0H.out (fun g hg => hg.elim) (Nat.le_refl _)).trans (belowK_b (w := w) (Nat.le_refl _) W D _ (.deferred none) (by rw [hs0] at hD; have := hcH.out; omega) hKH.out rfl rfl)
    rw [hcH.out] at h9
    exact h9
  case stop =>
    rintro D c T pre W _ _ _ h _
    exact h.elim
theorem tree_nil (w : World) : Calls Try.prog 11 #[.pointer none] w fun e w' => e = .returned (.slice none 0 0) ∧ Below w.heap.size w w' := callsIn_wide.1 (tree_nil_in 3 (Nat.le_refl _) w)
theorem joined_nil (w : World) : Calls Try.prog 37 #[.slice none 0 0] w fun e w' => e = .returned (.string ⟨#[]⟩) ∧ Below w.heap.size w w' := by
  go_enter Try.func37, Try.ntmps37
  go_wp2
  go_loopw [3, 8] (fun s3 s8 wr => s3 = .string ⟨#[]⟩ ∧ s8 = .int .i64 0 ∧ w = wr) (fun _ _ _ => 0)
  case atStart => exact ⟨rfl, rfl, rfl⟩
  case round =>
    obtain ⟨rfl, rfl, rfl⟩ := hrel
    go_wp2
    go_ret
    exact ⟨rfl, Below.refl _ _⟩
end Go.Proofs.Ytohgecmbkjienaa
