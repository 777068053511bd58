/- The slots: get, cut, put; node, isDir, release. Condition: the tree lies as stated. -/
import Derived.Test.YtohgecmbkjienaaFlG
namespace Go.Proofs.Ytohgecmbkjienaa
open Go.RowKit Go.PlainAid
attribute [local go_sem] Oper.semAt_some

section
variable {w : World} {B : Nat → Nat → Prop} {p : Nat} {f : Fs} {sv : Value} {ps : List (Option Nat)}

/-- What lies in a slot's cell. -/
theorem slot_cell (h : FsAt w B p f sv ps) {i : Nat} {o : Option Nat} (hi : ps[i]? = some o) : ∃ g c, sv = .slice (some ⟨g, 0, none⟩) ps.length c ∧ w.cell? ⟨g, i, none⟩ = some (ptrV o) ∧ w.frozen? ⟨g, i, none⟩ = false := by
  have hl := (List.getElem?_eq_some_iff.1 hi).1
  obtain ⟨g, cap, e, _, _⟩ := h.row.form (by omega)
  refine ⟨g, cap, e, ?_, ?_⟩
  · have h9 := h.row
    rw [e] at h9
    rw [h9.cellAt _ (by omega)]
    simp [ptrs, hi]
  · have h9 := h.row
    rw [e] at h9
    exact h9.frozenAt i
theorem get_no (h : FsAt w B p f sv ps) {n : Int} (hn : node f n = none) (hlen : f.length ≤ 100000) : Calls Try.prog 62 #[.pointer (some ⟨p, 0, none⟩), .int .i64 n] w fun e w' => e = .returned (.pointer none) ∧ w' = w := by
  obtain ⟨a, c, rfl⟩ := ownsRow_slice h.row
  obtain ⟨m, hm⟩ : ∃ m, ps.length = m := ⟨_, rfl⟩
  have c0 : w.cell? ⟨p, 0, none⟩ = some (.slice a m c) := by rw [← hm]; exact h.blk.cell 0
  have hml : m ≤ 100000 := by rw [← hm, h.len]; exact hlen
  by_cases h1 : n < 1
  · clear h hn hm
    go_enter Try.func62, Try.ntmps62
    go_wp2
    go_ret
    exact ⟨rfl, rfl⟩
  · by_cases h2 : (m : Int) < n
    · clear h hn hm
      go_enter Try.func62, Try.ntmps62
      go_wp2
      go_ret
      exact ⟨rfl, rfl⟩
    · obtain ⟨i, rfl⟩ : ∃ i : Nat, n = i + 1 := ⟨(n - 1).toNat, by omega⟩
      have hil : i < f.length := by rw [← h.len, hm]; omega
      have hf : f[i]? = some none := by
        cases hk : f[i]? with
        | none => rw [List.getElem?_eq_none_iff] at hk; omega
        | some o =>
          cases o with
          | none => rfl
          | some I => rw [node_at hk] at hn; cases hn
      obtain ⟨g, c', e, hc, _⟩ := slot_cell h (h.none_ i hf)
      obtain ⟨rfl, rfl⟩ : a = some ⟨g, 0, none⟩ ∧ c = c' := by simpa using e
      have hc2 : w.cell? ⟨g, i, none⟩ = some (.pointer none) := hc
      have hi2 : i < m := by omega
      have hi3 : ¬ m < i + 1 := by omega
      clear h hn hm e hf hc
      go_enter Try.func62, Try.ntmps62
      go_wp2
      go_ret
      exact ⟨rfl, rfl⟩
theorem get_yes (h : FsAt w B p f sv ps) {i q : Nat} (hi : ps[i]? = some (some q)) (hlen : f.length ≤ 100000) : Calls Try.prog 62 #[.pointer (some ⟨p, 0, none⟩), .int .i64 ((i : Int) + 1)] w fun e w' => e = .returned (.pointer (some ⟨q, 0, none⟩)) ∧ w' = w := by
  obtain ⟨m, hm⟩ : ∃ m, ps.length = m := ⟨_, rfl⟩
  have hml : m ≤ 100000 := by rw [← hm, h.len]; exact hlen
  have hil : i < m := by rw [← hm]; exact (List.getElem?_eq_some_iff.1 hi).1
  obtain ⟨g, c, rfl, hc, _⟩ := slot_cell h hi
  have c0 : w.cell? ⟨p, 0, none⟩ = some (.slice (some ⟨g, 0, none⟩) m c) := by rw [← hm]; exact h.blk.cell 0
  have hc2 : w.cell? ⟨g, i, none⟩ = some (.pointer (some ⟨q, 0, none⟩)) := hc
  have hi3 : ¬ m < i + 1 := by omega
  clear h hm hi hc
  go_enter Try.func62, Try.ntmps62
  go_wp2
  go_ret
  exact ⟨rfl, rfl⟩
theorem node_no (h : FsAt w B p f sv ps) {n : Int} (hn : node f n = none) (hlen : f.length ≤ 100000) : Calls Try.prog 38 #[.pointer (some ⟨p, 0, none⟩), .int .i64 n] w fun e w' => e = .returned (.pointer none) ∧ w' = w := by
  have hg := Lib.hid (get_no h hn hlen)
  have c0 : w.cell? ⟨p, 0, none⟩ = some sv := h.blk.cell 0
  clear h hn
  go_enter Try.func38, Try.ntmps38
  go_wp2_with (go_at_call 62; refine hg.out.mono ?_; rintro e w' ⟨rfl, rfl⟩)
  go_ret
  exact ⟨rfl, rfl⟩
theorem node_yes (h : FsAt w B p f sv ps) {i q : Nat} (hi : ps[i]? = some (some q)) (hlen : f.length ≤ 100000) : Calls Try.prog 38 #[.pointer (some ⟨p, 0, none⟩), .int .i64 ((i : Int) + 1)] w fun e w' => e = .returned (.pointer (some ⟨q, 0, none⟩)) ∧ w' = w := by
  have hg := Lib.hid (get_yes h hi hlen)
  have c0 : w.cell? ⟨p, 0, none⟩ = some sv := h.blk.cell 0
  clear h hi
  go_enter Try.func38, Try.ntmps38
  go_wp2_with (go_at_call 62; refine hg.out.mono ?_; rintro e w' ⟨rfl, rfl⟩)
  go_ret
  exact ⟨rfl, rfl⟩
theorem node_nil (n : Int) (w : World) : Calls Try.prog 38 #[.pointer none, .int .i64 n] w fun e w' => e = .returned (.pointer none) ∧ w' = w := by
  go_enter Try.func38, Try.ntmps38
  go_wp2
  go_ret
  exact ⟨rfl, rfl⟩
/-- Where an inode is. -/
theorem node_where (h : FsAt w B p f sv ps) {n : Int} {I : Ino} (hn : node f n = some I) : ∃ i q : Nat, n = i + 1 ∧ i < f.length ∧ f[i]? = some (some I) ∧ ps[i]? = some (some q) ∧ InoIs w (B (i + 1)) q I := by
  obtain ⟨i, h1, h2, h3⟩ := node_some hn
  obtain ⟨q, h4, h5⟩ := h.some_ i I h3
  exact ⟨i, q, h1, h2, h3, h4, h5⟩
theorem isDir_fs (h : FsAt w B p f sv ps) (n : Int) (hlen : f.length ≤ 100000) : Calls Try.prog 40 #[.pointer (some ⟨p, 0, none⟩), .int .i64 n] w fun e w' => e = .returned (.bool (isDir f n)) ∧ w' = w := by
  cases hn : node f n with
  | none =>
    have hc := Lib.hid (node_no h hn hlen)
    have hd : Hid (isDir f n = false) := Lib.hid (by unfold isDir; rw [hn])
    rw [hd.out]
    clear h hn
    go_enter Try.func40, Try.ntmps40
    go_wp2_with (go_at_call 38; refine hc.out.mono ?_; rintro e w' ⟨rfl, rfl⟩)
    go_ret
    exact ⟨rfl, rfl⟩
  | some I =>
    have hd : Hid (isDir f n = I.isDir) := Lib.hid (by unfold isDir; rw [hn])
    obtain ⟨i, q, rfl, _, _, h4, dv, ev, h5⟩ := node_where h hn
    have hc := Lib.hid (node_yes h h4 hlen)
    have hi := Lib.hid (isDir_any h5)
    rw [hd.out]
    clear h hn h4 h5
    go_enter Try.func40, Try.ntmps40
    go_wp2_with (first | (go_at_call 38; refine hc.out.mono ?_; rintro e w' ⟨rfl, rfl⟩) | (go_at_call 49; refine hi.out.mono ?_; rintro e w' ⟨rfl, rfl⟩))
    go_ret
    exact ⟨rfl, rfl⟩
theorem isDir_nil (n : Int) (w : World) : Calls Try.prog 40 #[.pointer none, .int .i64 n] w fun e w' => e = .returned (.bool false) ∧ w' = w := by
  go_enter Try.func40, Try.ntmps40
  go_wp2_with (go_at_call 38; refine (node_nil n _).mono ?_; rintro e w' ⟨rfl, rfl⟩)
  go_ret
  exact ⟨rfl, rfl⟩
end
end Go.Proofs.Ytohgecmbkjienaa
