/- ask, without a tree. No condition. -/
import Derived.Test.YtohgecmbkjienaaFlAK
namespace Go.Proofs.Ytohgecmbkjienaa
open Go.RowKit Go.Shelf Go.PlainAid
theorem lean_nil (w : World) : Lean8 w (fun W w' => Below W.heap.size W w') (fun w' => Below w.heap.size w w') :=
  ⟨fun W w' h hs => ⟨h.size, fun g _ hg => h.block g (by omega)⟩, fun W w' w'' h hb hs st => ⟨st.os.trans (h.os.trans hb.os), st.tape.trans (h.tape.trans hb.tape), st.output.trans (h.output.trans hb.output), by have := hb.size; have := h.size; have := st.size; omega, fun g hg => (st.block g (by omega)).trans ((h.block g (by have := hb.size; omega)).trans (hb.block g hg))⟩⟩
def nilE (q : Int) : Int := if q < 0 ∨ 15 < q then 0 else 9
theorem same_below {F : Nat} {args : Array Value} {W : World} {R : Ending} (h : Calls Try.prog F args W fun e w' => e = R ∧ w' = W) : Calls Try.prog F args W fun e w' => e = R ∧ Below W.heap.size W w' := h.mono fun e w' h9 => ⟨h9.1, by rw [h9.2]; exact Below.refl _ _⟩
theorem ask_nil (q N M K : Int) (s t : ByteArray) (w : World) : Calls Try.prog 14 #[.pointer none, .agg #[.int .i64 q, .int .i64 N, .int .i64 M, .int .i64 K, .string s, .string t]] w fun E w' => E = .returned (.agg #[.int .i64 0, .string ⟨#[]⟩, .int .i64 0, .int .i64 0, .int .i64 0, .int .i64 0, .int .i64 0, .string ⟨#[]⟩, .int .i64 (nilE q)]) ∧ Below w.heap.size w w' := by
  by_cases hq : q < 0 ∨ 15 < q
  · rw [show nilE q = 0 by unfold nilE; rw [if_pos hq]]
    exact ask_no hq (fun w' h => h)
  · rw [show nilE q = 9 by unfold nilE; rw [if_neg hq]]
    have hL := lean_nil w
    have hk : q = 0 ∨ q = 1 ∨ q = 2 ∨ q = 3 ∨ q = 4 ∨ q = 5 ∨ q = 6 ∨ q = 7 ∨ q = 8 ∨ q = 9 ∨ q = 10 ∨ q = 11 ∨ q = 12 ∨ q = 13 ∨ q = 14 ∨ q = 15 := by omega
    rcases hk with rfl | rfl | rfl | rfl | rfl | rfl | rfl | rfl | rfl | rfl | rfl | rfl | rfl | rfl | rfl | rfl
    · exact ask_0 hL (fun W _ _ => same_below (Walk_nil _ _ _))
    · exact ask_1 hL (fun W _ _ => same_below (create_nil _ _ _ _))
    · exact ask_2 hL (fun W _ _ => same_below (mkdir_nil _ _ _ _))
    · exact ask_3 hL (fun W _ _ => same_below (Unlink_nil _ _ _))
    · exact ask_4 hL (fun W _ _ => same_below (Rmdir_nil _ _ _))
    · exact ask_5 hL (fun W _ _ => same_below (Link_nil _ _ _ _))
    · exact ask_6 hL (fun W _ _ => same_below (Rename_nil _ _ _ _))
    · exact ask_7 hL (fun W _ _ => same_below (read_nil _ _ _ _))
    · exact ask_8 hL (fun W _ _ => same_below (write_nil _ _ _ _))
    · exact ask_9 hL (fun W _ _ => same_below (truncate_nil _ _ _))
    · exact ask_10 hL (fun W _ _ => same_below (Chmod_nil _ _ _))
    · exact ask_11 hL (fun W _ _ => Stat_nil _ _)
    · exact ask_12 hL (fun W _ _ => (List_nil _ _).mono fun e w' h9 => ⟨h9.1, by rw [h9.2]; exact joined_nil _⟩)
    · exact ask_13 hL (fun W _ _ => same_below (Hold_nil _ _))
    · exact ask_14 hL (fun W _ _ => same_below (Drop_nil _ _))
    · exact ask_15 hL (fun W _ _ => same_below (Path_nil _ _))
end Go.Proofs.Ytohgecmbkjienaa
