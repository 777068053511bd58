/- A remark is let go; the operator right ahead. No condition. -/
import Derived.Test.YtnhbcmhinhncfaaGreatDoorLxB
namespace Go.Proofs.YtnhbcmhinhncfaaGreatDoor
open Go.RowKit Go.PlainAid
attribute [local go_sem] Oper.semAt_some

def lnM (s : ByteArray) (i : Nat) : Int := Lib.indexByte (s.extract i s.size).data.toList 10
/-- The place of the next byte 10, or the text's end. -/
def remN (s : ByteArray) (i : Nat) : Nat := if 0 ≤ lnM s i then i + (lnM s i).toNat else s.size
theorem lnM_lt {s : ByteArray} {i : Nat} (h : 0 ≤ lnM s i) : i + (lnM s i).toNat < s.size := by
  have key : (lnM s i).toNat < (s.extract i s.size).data.toList.length := indexByte_lt h
  have len : (s.extract i s.size).data.toList.length = s.size - i := by
    rw [← Lib.size_eq, ByteArray.size_extract]; omega
  omega

theorem Fr.drewN {b : Nat} {v : Option Nat} {w w1 : World} (h : Fr b v w w1) (n : Nat) : Fr b v w (w1.drewN n) := ⟨h.os, h.tape, h.output, h.size, h.block⟩
theorem Blk.drewN {w : World} {g : Nat} {t : TypeId} {cs : Array Value} (h : Blk w g t cs) (n : Nat) : Blk (w.drewN n) g t cs := h
theorem idx_q (t : ByteArray) (c : Int) (n : Int) (w : World) (h : Hid (Lib.indexByte t.data.toList (Int.toNat c).toUInt8 = n)) : Calls Tryz.prog 25 #[.string t, .int .u8 c] w fun e w' => e = .returned (.int .i64 n) ∧ ∃ m, w' = w.drewN m :=
  (Tryz.strings_IndexByte _ _ _).mono (by rintro e w' ⟨rfl, rfl⟩; rw [h.out]; exact ⟨rfl, 0, rfl⟩)

set_option maxHeartbeats 1000000 in
theorem remark_any (s : ByteArray) (i b : Nat) (a0 a1 : Option Addr) (n0 c0 n1 c1 : Nat) (w : World)
    (hB : Blk w b 92 (rdC s i a0 n0 c0 a1 n1 c1)) (hs : s.size ≤ 100000) (hi : i ≤ s.size) :
    Calls Tryz.prog 54 #[.pointer (some ⟨b, 0, none⟩)] w fun e w' => e = .returned (.tuple #[]) ∧ Blk w' b 92 (rdC s (remN s i) a0 n0 c0 a1 n1 c1) ∧ Fr b none w w' := by
  have hq : Hid (Lib.indexByte (ByteArray.extract s i s.size).data.toList (Int.toNat 10).toUInt8 = lnM s i) := Lib.hid rfl
  have x0 : w.cell? ⟨b, 0, none⟩ = some (.string s) := hB.cell 0
  have x1 : w.cell? ⟨b, 1, none⟩ = some (.int .i64 i) := hB.cell 1
  have f1 : w.frozen? ⟨b, 1, none⟩ = false := hB.frozen 1
  have hH := Lib.hid hB
  clear hB
  by_cases h0 : 0 ≤ lnM s i
  · have hlt := lnM_lt h0
    obtain ⟨n, hn⟩ : ∃ n : Nat, lnM s i = n := ⟨(lnM s i).toNat, by omega⟩
    have hr : Hid (remN s i = i + n) := Lib.hid (by unfold remN; rw [if_pos h0, hn]; rfl)
    rw [hn] at hlt hq
    have hlt2 : i + n < s.size := hlt
    clear h0 hn hlt
    go_enter Tryz.func54, Tryz.ntmps54
    go_wp2_with fail
    go_quiet ((first | (go_at_call 25; exact Calls.quiet_of (idx_q _ _ _ _ hq))))
    go_wp2
    go_end0
    rw [hr.out]
    exact ⟨rfl, (hH.out.drewN _).set_ 1 _, ((Fr.refl b none w).drewN _).set_ _⟩
  · have hn := idx_neg h0
    have hr : Hid (remN s i = s.size) := Lib.hid (by unfold remN; rw [if_neg h0])
    have hq' : Hid (Lib.indexByte (ByteArray.extract s i s.size).data.toList (Int.toNat 10).toUInt8 = -1) := Lib.hid (hq.out.trans hn)
    clear h0 hn hq
    go_enter Tryz.func54, Tryz.ntmps54
    go_wp2_with fail
    go_quiet ((first | (go_at_call 25; exact Calls.quiet_of (idx_q _ _ _ _ hq'))))
    go_wp2_with fail
    go_quiet (fail)
    go_wp2
    go_end0
    have e9 : (i : Int) + ((s.size : Int) - (i : Int)) = (s.size : Int) := by omega
    rw [hr.out, e9]
    exact ⟨rfl, (hH.out.drewN _).set_ 1 _, ((Fr.refl b none w).drewN _).set_ _⟩

/-- The operator right ahead, or nothing. -/
def lastM (ts : List Tk) : ByteArray := match ts.getLast? with | some t => (if t.kind == 2 then t.text else ⟨#[]⟩) | none => ⟨#[]⟩
theorem last_app (ts : List Tk) (t : Tk) : lastM (ts ++ [t]) = if t.kind == 2 then t.text else ⟨#[]⟩ := by unfold lastM; simp
theorem tok_cells {w : World} {n₀ n c : Nat} {a : Option Addr} {ts : List Tk} {t : Tk} (hn : n = ts.length + 1) (h : w.ownsRow n₀ 58 5 (.slice a n c) n (tv (ts ++ [t]))) : ∃ g, a = some ⟨g, 0, none⟩ ∧ w.cell? ⟨g, ts.length * 5, none⟩ = some (.int .i64 t.kind) ∧ w.cell? ⟨g, ts.length * 5 + 1, none⟩ = some (.string t.text) := by
  subst hn
  have hlen : (tv ts).length = ts.length * 5 := tv_len ts
  rw [tv_app] at h
  have h2 := h.2
  rcases h2 with ⟨_, e⟩ | ⟨g, cap, cur, e1, _⟩
  · simp at e
  · injection e1 with e1 e2 e3
    subst e1
    refine ⟨g, rfl, ?_, ?_⟩
    · rw [h.cellAt _ (by omega), List.getElem?_append_right (by omega), hlen, show ts.length * 5 - ts.length * 5 = 0 by omega]; rfl
    · rw [h.cellAt _ (by omega), List.getElem?_append_right (by omega), hlen, show ts.length * 5 + 1 - ts.length * 5 = 1 by omega]; rfl

set_option maxHeartbeats 1000000 in
theorem last_any (s : ByteArray) (i b n₀ : Nat) (a0 a1 : Option Addr) (n0 c0 n1 c1 : Nat) (ts : List Tk) (w : World) (hn0 : n0 = ts.length)
    (hB : Blk w b 92 (rdC s i a0 n0 c0 a1 n1 c1)) (hrow : w.ownsRow n₀ 58 5 (.slice a0 n0 c0) n0 (tv ts)) (hlen : n0 ≤ 100000) :
    Calls Tryz.prog 71 #[.pointer (some ⟨b, 0, none⟩)] w fun e w' => e = .returned (.string (lastM ts)) ∧ w = w' := by
  have x2 : w.cell? ⟨b, 2, none⟩ = some (.slice a0 n0 c0) := hB.cell 2
  clear hB
  rcases List.eq_nil_or_concat ts with rfl | ⟨ps, p, rfl⟩
  · obtain rfl : n0 = 0 := hn0
    clear hrow
    go_enter Tryz.func71, Tryz.ntmps71
    go_wp2
    go_ret
    exact ⟨rfl, rfl⟩
  · rw [List.concat_eq_append] at hn0 hrow
    rw [List.concat_eq_append]
    obtain ⟨g, rfl, k0, k1⟩ := tok_cells (by simpa using hn0) hrow
    obtain rfl : n0 = ps.length + 1 := by simpa using hn0
    have hr : Hid (lastM (ps ++ [p]) = if p.kind == 2 then p.text else ⟨#[]⟩) := Lib.hid (last_app ps p)
    have hl : ps.length ≤ 100000 := by omega
    clear hrow hn0 hlen
    cases hk : (p.kind == 2)
    all_goals
      rw [hk] at hr
      go_enter Tryz.func71, Tryz.ntmps71
      go_wp2
      go_ret
      rw [hr.out]
      exact ⟨rfl, rfl⟩
end Go.Proofs.YtnhbcmhinhncfaaGreatDoor
