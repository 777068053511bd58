/- Truncate. Condition: the tree lies as stated. -/
import Derived.Test.YtohgecmbkjienaaFlAA
namespace Go.Proofs.Ytohgecmbkjienaa
open Go.RowKit Go.Shelf Go.PlainAid
attribute [local go_sem] Oper.semAt_some
section
variable {w : World} {B : Nat → Nat → Prop} {p : Nat} {f : Fs} {sv : Value} {ps : List (Option Nat)}
set_option maxHeartbeats 1000000 in
theorem truncate_any (h : FsAt w B p f sv ps) (hf : FineF f) (n k : Int) : Calls Try.prog 30 #[.pointer (some ⟨p, 0, none⟩), .int .i64 n, .int .i64 k] w fun e w' => e = .returned (.int .i64 (TruncM f n k).1) ∧ FsP (All B) w w' p (TruncM f n k).2 := by
  have hlen : f.length ≤ 100000 := by have := hf.1; omega
  cases hn : node f n with
  | none =>
    have hfi := Lib.hid (file_no h hn hlen)
    have hM : Hid (TruncM f n k = (9, f)) := Lib.hid (by unfold TruncM; rw [hn])
    have hP := Lib.hid h.same
    rw [hM.out]
    clear h hf hn hM
    go_enter Try.func30, Try.ntmps30
    go_wp2_with (go_at_call 44; refine hfi.out.mono ?_; rintro e w' ⟨rfl, rfl⟩)
    go_ret
    exact ⟨rfl, hP.out⟩
  | some I =>
    obtain ⟨i, q, rfl, hil, hi, hq, hI⟩ := node_where h hn
    have hfi := Lib.hid (file_yes h hq hI hlen)
    have hP := Lib.hid h.same
    have hM : TruncM f ((i : Int) + 1) k = if I.isDir then (21, f) else if k < 0 then (22, f) else if 65536 < k ∨ roomM f I k.toNat = false then (28, f) else (0, modN f ((i : Int) + 1) (fun I => { I with data := resM I.data k.toNat })) := by unfold TruncM; rw [hn]
    rw [hM]
    clear hM
    cases hd : I.isDir with
    | true =>
      rw [if_pos rfl]
      have hfi2 := Lib.hid (by have h9 := hfi.out; rw [hd, if_pos rfl] at h9; exact h9)
      clear h hf hn hI hq hi hfi hd
      go_enter Try.func30, Try.ntmps30
      go_wp2_with (go_at_call 44; refine hfi2.out.mono ?_; rintro e w' ⟨rfl, rfl⟩)
      go_ret
      exact ⟨rfl, hP.out⟩
    | false =>
      rw [if_neg (by decide)]
      have hfi2 := Lib.hid (by have h9 := hfi.out; rw [hd, if_neg (by decide)] at h9; exact h9)
      by_cases h1 : k < 0
      · rw [if_pos h1]
        clear h hf hn hI hq hi hfi hd
        go_enter Try.func30, Try.ntmps30
        go_wp2_with (go_at_call 44; refine hfi2.out.mono ?_; rintro e w' ⟨rfl, rfl⟩)
        go_ret
        exact ⟨rfl, hP.out⟩
      · rw [if_neg h1]
        by_cases h2 : 65536 < k
        · rw [if_pos (.inl h2)]
          clear h hf hn hI hq hi hfi hd
          go_enter Try.func30, Try.ntmps30
          go_wp2_with (go_at_call 44; refine hfi2.out.mono ?_; rintro e w' ⟨rfl, rfl⟩)
          go_ret
          exact ⟨rfl, hP.out⟩
        · obtain ⟨k, rfl⟩ : ∃ m : Nat, k = m := ⟨k.toNat, by omega⟩
          have hfine := hf.2 i I hi
          have hr := Lib.hid (room_any h hf hI hfine k (by omega))
          rw [Int.toNat_natCast]
          obtain ⟨dv, ev, hA⟩ := hI
          have hG := Lib.hid (fun (w1 : World) (hb : Below w.heap.size w w1) => (resize_any (hA.below hb) hfine k (by omega)).mono fun e w' h9 => And.intro h9.1 (h.turnP hil hq (h9.2.below hb)))
          have hS := Lib.hid (fun (w1 : World) (hb : Below w.heap.size w w1) => FsP.of (show FsIs w B p f from ⟨sv, ps, h⟩) hb)
          have hmod := Lib.hid (modN_at hi (fun I => { I with data := resM I.data k }))
          cases h3 : roomM f I k with
          | false =>
            rw [if_pos (.inr rfl)]
            have hr2 := Lib.hid (by have h9 := hr.out; rw [h3] at h9; exact h9)
            clear h hf hn hA hq hi hfi hd hr hG hfine h3 hmod
            go_enter Try.func30, Try.ntmps30
            go_wp2_with (first | (go_at_call 44; refine hfi2.out.mono ?_; rintro e w' ⟨rfl, rfl⟩) | (go_at_call 45; refine hr2.out.mono ?_; rintro e w1 ⟨rfl, hb1⟩))
            go_ret
            exact ⟨rfl, hS.out _ hb1⟩
          | true =>
            rw [if_neg (fun h => h.elim h2 (by simp)), hmod.out]
            have hr2 := Lib.hid (by have h9 := hr.out; rw [h3] at h9; exact h9)
            clear h hf hn hA hq hi hfi hd hr hS hfine h3 hmod
            go_enter Try.func30, Try.ntmps30
            go_wp2_with (first | (go_at_call 44; refine hfi2.out.mono ?_; rintro e w' ⟨rfl, rfl⟩) | (go_at_call 45; refine hr2.out.mono ?_; rintro e w1 ⟨rfl, hb1⟩) | (go_at_call 46; refine (hG.out _ hb1).mono ?_; rintro e w2 ⟨rfl, hP2⟩))
            go_ret
            exact ⟨rfl, hP2⟩
theorem truncate_nil (n k : Int) (w : World) : Calls Try.prog 30 #[.pointer none, .int .i64 n, .int .i64 k] w fun e w' => e = .returned (.int .i64 9) ∧ w' = w := by
  go_enter Try.func30, Try.ntmps30
  go_wp2_with (go_at_call 44; refine (file_nil n _).mono ?_; rintro e w' ⟨rfl, rfl⟩)
  go_ret
  exact ⟨rfl, rfl⟩
end
end Go.Proofs.Ytohgecmbkjienaa
