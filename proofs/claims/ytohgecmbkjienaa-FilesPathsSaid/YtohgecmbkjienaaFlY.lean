/- A file's inode; is there room. Condition: the tree lies as stated. -/
import Derived.Test.YtohgecmbkjienaaFlX
import Derived.Stop.RegionWithIn
namespace Go.Proofs.Ytohgecmbkjienaa
open Go.RowKit Go.Shelf Go.PlainAid
attribute [local go_sem] Oper.semAt_some

section
variable {w : World} {B : Nat → Nat → Prop} {p : Nat} {f : Fs} {sv : Value} {ps : List (Option Nat)}
theorem file_no (h : FsAt w B p f sv ps) {n : Int} (hn : node f n = none) (hlen : f.length ≤ 100000) : Calls Try.prog 44 #[.pointer (some ⟨p, 0, none⟩), .int .i64 n] w fun e w' => e = .returned (.tuple #[.pointer none, .int .i64 9]) ∧ w' = w := by
  have hc := Lib.hid (node_no h hn hlen)
  clear h hn
  go_enter Try.func44, Try.ntmps44
  go_wp2_with (go_at_call 38; refine hc.out.mono ?_; rintro e w' ⟨rfl, rfl⟩)
  go_ret2
  exact ⟨rfl, rfl⟩
theorem file_nil (n : Int) (w : World) : Calls Try.prog 44 #[.pointer none, .int .i64 n] w fun e w' => e = .returned (.tuple #[.pointer none, .int .i64 9]) ∧ w' = w := by
  go_enter Try.func44, Try.ntmps44
  go_wp2_with (go_at_call 38; refine (node_nil n _).mono ?_; rintro e w' ⟨rfl, rfl⟩)
  go_ret2
  exact ⟨rfl, rfl⟩
theorem file_yes (h : FsAt w B p f sv ps) {i q : Nat} {I : Ino} (hq : ps[i]? = some (some q)) (hI : InoIs w (B (i + 1)) q I) (hlen : f.length ≤ 100000) : Calls Try.prog 44 #[.pointer (some ⟨p, 0, none⟩), .int .i64 ((i : Int) + 1)] w fun e w' => e = .returned (if I.isDir then .tuple #[.pointer none, .int .i64 21] else .tuple #[.pointer (some ⟨q, 0, none⟩), .int .i64 0]) ∧ w' = w := by
  obtain ⟨dv, ev, h5⟩ := hI
  have hc := Lib.hid (node_yes h hq hlen)
  have hi := Lib.hid (isDir_any h5)
  clear h hq h5
  cases hd : I.isDir with
  | true =>
    rw [if_pos rfl]
    have hdH := Lib.hid hd
    clear hd
    go_enter Try.func44, Try.ntmps44
    go_wp2_with (first | (go_at_call 38; refine hc.out.mono ?_; rintro e w' ⟨rfl, rfl⟩) | (go_at_call 49; refine hi.out.mono ?_; rintro e w' ⟨rfl, rfl⟩; rw [hdH.out]))
    go_ret2
    exact ⟨rfl, rfl⟩
  | false =>
    rw [if_neg (by decide)]
    have hdH := Lib.hid hd
    clear hd
    go_enter Try.func44, Try.ntmps44
    go_wp2_with (first | (go_at_call 38; refine hc.out.mono ?_; rintro e w' ⟨rfl, rfl⟩) | (go_at_call 49; refine hi.out.mono ?_; rintro e w' ⟨rfl, rfl⟩; rw [hdH.out]))
    go_ret2
    exact ⟨rfl, rfl⟩
/-- Is there room for a file of a size? -/
def roomM (f : Fs) (I : Ino) (n : Nat) : Bool := decide (bytesM f + n ≤ 65536 + I.data.length)
set_option maxHeartbeats 1000000 in
theorem room_any (h : FsAt w B p f sv ps) (hf : FineF f) {i q : Nat} {I : Ino} (hI : InoIs w (B (i + 1)) q I) (hfi : Fine I) (n : Nat) (hn : n ≤ 9100000000000000000) : Calls Try.prog 45 #[.pointer (some ⟨p, 0, none⟩), .pointer (some ⟨q, 0, none⟩), .int .i64 n] w fun e w' => e = .returned (.bool (roomM f I n)) ∧ Below w.heap.size w w' := by
  obtain ⟨dv, ev, h5⟩ := hI
  obtain ⟨a, c, rfl⟩ := ownsRow_slice h5.dat
  have hql := h5.lt q h5.sq
  obtain ⟨m, hm⟩ : ∃ m, I.data.length = m := ⟨_, rfl⟩
  have c4 : w.cell? ⟨q, 4, none⟩ = some (.slice a m c) := by rw [← hm]; exact h5.blk.cell 4
  have hml : m ≤ 70000 := by rw [← hm]; exact hfi.dl
  have hbl := bytes_le 70000 f (fun i I hi => (hf.2 i I hi).dl)
  have hbl2 := Nat.mul_le_mul_right 70000 hf.1
  have hb := Lib.hid (fun (W : World) (hk : Below w.heap.size w W) => bytes_any (h.keep hk.size (fun i g hg => hk.block g (h.lt i g hg))) hf)
  have hrm : Hid (roomM f I n = decide (bytesM f + n ≤ 65536 + m)) := Lib.hid (by unfold roomM; rw [hm])
  rw [hrm.out]
  obtain ⟨b, hbb⟩ : ∃ b, bytesM f = b := ⟨_, rfl⟩
  rw [hbb] at hb hbl ⊢
  have hbl3 : b ≤ 700000000 := by omega
  have c4H := Lib.hid c4
  have mixed : Try.prog.follows .mixedOrders = true := by kernel_rfl
  have hbd : Below w.heap.size w w.drew := ⟨rfl, rfl, rfl, Nat.le_refl _, fun _ _ => rfl⟩
  have hdec : decide ((b : Int) - (m : Int) + (n : Int) ≤ 65536) = decide (b + n ≤ 65536 + m) := by
    by_cases h : b + n ≤ 65536 + m
    · rw [decide_eq_true h, decide_eq_true (by omega)]
    · rw [decide_eq_false h, decide_eq_false (by omega)]
  have hdecH := Lib.hid hdec
  clear h hf h5 hfi hm hbb hbl hbl2 hrm hdec
  go_enter Try.func45, Try.ntmps45
  go_wp2_with fail
  go_region_with (go_at_call 12; refine (hb.out _ hbd).mono ?_; rintro e w1 ⟨rfl, hb1⟩; have d4 : w1.cell? ⟨q, 4, none⟩ = some (.slice a m c) := (hb1.cell hql).trans c4H.out)
  all_goals
    have hw1 : IntKind.i64.wrap ((b : Int) - (m : Int)) = (b : Int) - (m : Int) := by rw [IntKind.wrap_i64]; omega
    have hw2 : IntKind.i64.wrap ((b : Int) - (m : Int) + (n : Int)) = (b : Int) - (m : Int) + (n : Int) := by rw [IntKind.wrap_i64]; omega
    rw [hw1, hw2]
    go_wp2
    go_ret
    refine ⟨?_, ?_⟩
    · rw [← hdecH.out]; rfl
    · exact ⟨hb1.os, hb1.tape, hb1.output, hb1.size, hb1.block⟩
end
end Go.Proofs.Ytohgecmbkjienaa
