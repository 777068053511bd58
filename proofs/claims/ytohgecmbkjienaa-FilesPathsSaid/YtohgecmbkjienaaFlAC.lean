/- Write. Condition: the tree lies as stated; the text's size. -/
import Derived.Test.YtohgecmbkjienaaFlAB
namespace Go.Proofs.Ytohgecmbkjienaa
open Go.RowKit Go.Shelf Go.PlainAid
attribute [local go_sem] Oper.semAt_some
theorem InoP.join {S S' : Nat → Prop} {w w1 w2 : World} {q : Nat} {I' : Ino} (h2 : ∀ g, S' g → S g ∨ w.heap.size ≤ g) (h3 : Frm S w w1) (k : InoP S' w1 w2 q I') : InoP S w w2 q I' := by
  obtain ⟨S2, k1, k2, k3⟩ := k
  exact ⟨S2, k1, fun g hg => (k2 g hg).elim (h2 g) (fun h => .inr (Nat.le_trans h3.size h)), h3.trans h2 k3⟩
theorem resM_same (l : List UInt8) : resM l l.length = l := by unfold resM; rw [if_pos (Nat.le_refl _), List.take_length]
theorem resM_len (l : List UInt8) (n : Nat) : (resM l n).length = n := by unfold resM; split <;> simp <;> omega
theorem set_same {f : Fs} {i : Nat} {x : Option Ino} (h : f[i]? = some x) : f.set i x = f := by
  obtain ⟨h1, h2⟩ := List.getElem?_eq_some_iff.1 h
  rw [← h2]
  exact List.set_getElem_self ..
section
variable {w : World} {B : Nat → Nat → Prop} {p : Nat} {f : Fs} {sv : Value} {ps : List (Option Nat)}
/-- What stands behind the resizing: the bytes are laid. -/
theorem write_end {w : World} {S : Nat → Prop} {q : Nat} {I : Ino} {dv ev : Value} (hA : InoAt w S q I dv ev) (s : ByteArray) (a : Nat) (h0 : s.size ≠ 0) (ha : a + s.size ≤ I.data.length) :
    ∃ g c, dv = .slice (some ⟨g, 0, none⟩) I.data.length c ∧ a < c ∧ I.data.length ≤ c ∧ c ≤ maxLen ∧ ∃ w', (∀ ty, (Builtin.copy_ #[70, 9] ty #[.slice (some ⟨g, a, none⟩) (I.data.length - a) (c - a), .string s]).run Try.prog w = .ok (goInt s.size) w') ∧ InoP S w w' q { I with data := putL I.data a s.data.toList } := by
  have hsz : s.data.toList.length = s.size := (Lib.size_eq s).symm
  have hrow := hA.dat
  rcases hA.dat.2 with ⟨_, e⟩ | ⟨g, cap, cur, e, _, hgb, hcap, hcm, hcs, htk⟩
  · omega
  · subst e
    rw [Nat.mul_one] at htk hcs
    refine ⟨g, cap, rfl, by omega, hcap, hcm, _, fun ty => Lib.run_copy_row_string (P := Try.prog) w 70 9 ty 5 g a (I.data.length - a) (cap - a) s cur 5 Try.underlying70 (by kernel_rfl) hgb (by omega) (by omega), ?_⟩
    have h9 := hA.over hgb hcs hcap hcm htk s.data.toList (a := a) (by rw [hsz]; exact ha)
    rw [hsz] at h9
    exact h9
theorem copy_none (w : World) (ty : TypeId) (d : Option Addr) (l c : Nat) : (Builtin.copy_ #[70, 9] ty #[.slice d l c, .string ⟨#[]⟩]).run Try.prog w = .ok (goInt 0) w :=
  Lib.run_copy_empty_string (P := Try.prog) w 70 9 ty 5 d l c ⟨#[]⟩ Try.underlying70 (by kernel_rfl) rfl
set_option maxRecDepth 100000 in
set_option maxHeartbeats 2000000 in
theorem write_any (h : FsAt w B p f sv ps) (hf : FineF f) (n a : Int) (s : ByteArray) (hs : s.size ≤ 9000000000000000000) : Calls Try.prog 18 #[.pointer (some ⟨p, 0, none⟩), .int .i64 n, .int .i64 a, .string s] w fun e w' => e = .returned (.tuple #[.int .i64 (WriteM f n a s).1, .int .i64 (WriteM f n a s).2.1]) ∧ FsP (All B) w w' p (WriteM f n a s).2.2 := by
  have hlen : f.length ≤ 100000 := by have := hf.1; omega
  cases hn : node f n with
  | none =>
    have hfi := Lib.hid (file_no h hn hlen)
    have hM : Hid (WriteM f n a s = (0, 9, f)) := Lib.hid (by unfold WriteM; rw [hn])
    have hP := Lib.hid h.same
    rw [hM.out]
    clear h hf hn hM
    go_enter Try.func18, Try.ntmps18
    go_wp2_with (go_at_call 44; refine hfi.out.mono ?_; rintro e w' ⟨rfl, rfl⟩)
    go_ret2
    exact ⟨rfl, hP.out⟩
  | some I =>
    obtain ⟨i, q, rfl, hil, hi, hq, hI⟩ := node_where h hn
    have hfi := Lib.hid (file_yes h hq hI hlen)
    have hP := Lib.hid h.same
    have hM : WriteM f ((i : Int) + 1) a s = if I.isDir then (0, 21, f) else if a < 0 then (0, 22, f) else if 65536 < a ∨ roomM f I (sizM I a.toNat s) = false then (0, 28, f)
      else if s.size = 0 then (0, 0, f) else (s.size, 0, modN f ((i : Int) + 1) (fun I => { I with data := putL (resM I.data (sizM I a.toNat s)) a.toNat s.data.toList })) := by unfold WriteM; rw [hn]
    rw [hM]
    clear hM
    cases hd : I.isDir with
    | true =>
      rw [if_pos rfl]
      have hfi2 := Lib.hid (by have h9 := hfi.out; rw [hd, if_pos rfl] at h9; exact h9)
      clear h hf hn hI hq hi hfi hd
      go_enter Try.func18, Try.ntmps18
      go_wp2_with (go_at_call 44; refine hfi2.out.mono ?_; rintro e w' ⟨rfl, rfl⟩)
      go_ret2
      exact ⟨rfl, hP.out⟩
    | false =>
      rw [if_neg (by decide)]
      have hfi2 := Lib.hid (by have h9 := hfi.out; rw [hd, if_neg (by decide)] at h9; exact h9)
      by_cases h1 : a < 0
      · rw [if_pos h1]
        clear h hf hn hI hq hi hfi hd
        go_enter Try.func18, Try.ntmps18
        go_wp2_with (go_at_call 44; refine hfi2.out.mono ?_; rintro e w' ⟨rfl, rfl⟩)
        go_ret2
        exact ⟨rfl, hP.out⟩
      · rw [if_neg h1]
        obtain ⟨a, rfl⟩ : ∃ m : Nat, a = m := ⟨a.toNat, by omega⟩
        rw [Int.toNat_natCast]
        have hfine := hf.2 i I hi
        obtain ⟨dv, ev, hA⟩ := hI
        obtain ⟨da, c, rfl⟩ := ownsRow_slice hA.dat
        obtain ⟨m, hm⟩ : ∃ m, I.data.length = m := ⟨_, rfl⟩
        have c4 : w.cell? ⟨q, 4, none⟩ = some (.slice da m c) := by rw [← hm]; exact hA.blk.cell 4
        have hml : m ≤ 70000 := by rw [← hm]; exact hfine.dl
        by_cases h0 : s.size = 0
        · obtain rfl : s = ⟨#[]⟩ := ba_ext (by rw [ba_nil.2 h0])
          have hsz : sizM I a ⟨#[]⟩ = m := by unfold sizM; rw [if_pos h0, hm]
          rw [hsz]
          by_cases h2 : 65536 < (a : Int)
          · rw [if_pos (.inl h2)]
            clear h hf hn hA hq hi hfi hd hm hsz hfine
            go_enter Try.func18, Try.ntmps18
            go_wp2_with (go_at_call 44; refine hfi2.out.mono ?_; rintro e w' ⟨rfl, rfl⟩)
            go_ret2
            exact ⟨rfl, hP.out⟩
          · have hr := Lib.hid (room_any h hf ⟨_, _, hA⟩ hfine m (by omega))
            have hS := Lib.hid (fun (w1 : World) (hb : Below w.heap.size w w1) => FsP.of (show FsIs w B p f from ⟨sv, ps, h⟩) hb)
            cases h3 : roomM f I m with
            | false =>
              rw [if_pos (.inr rfl)]
              have hr2 := Lib.hid (by have h9 := hr.out; rw [h3] at h9; exact h9)
              clear h hf hn hA hq hi hfi hd hr hfine h3 hm hsz
              go_enter Try.func18, Try.ntmps18
              go_wp2_with (first | (go_at_call 44; refine hfi2.out.mono ?_; rintro e w' ⟨rfl, rfl⟩) | (go_at_call 45; refine hr2.out.mono ?_; rintro e w1 ⟨rfl, hb1⟩))
              go_ret2
              exact ⟨rfl, hS.out _ hb1⟩
            | true =>
              rw [if_neg (fun h => h.elim h2 (by simp)), if_pos h0]
              have hr2 := Lib.hid (by have h9 := hr.out; rw [h3] at h9; exact h9)
              have hsame : ({ I with data := resM I.data m } : Ino) = I := by rw [← hm, resM_same]
              have hG := Lib.hid (fun (w1 : World) (hb : Below w.heap.size w w1) => (resize_any (hA.below hb) hfine m (by omega)).mono fun e w' h9 => And.intro h9.1 (show (∃ dv2 c2 lo, w'.cell? ⟨q, 4, none⟩ = some (.slice dv2 m c2) ∧ lo = min a m ∧ lo ≤ m ∧ m ≤ c2 ∧ (dv2 = none → c2 = 0)) ∧ FsP (All B) w w' p f by
                have h10 := h9.2
                rw [hsame] at h10
                refine ⟨?_, ?_⟩
                · obtain ⟨S', ⟨dv2, ev2, hA2⟩, _⟩ := h10
                  obtain ⟨d2, c2, rfl⟩ := ownsRow_slice hA2.dat
                  have k1 := hA2.blk.cell 4
                  have k2 : w'.cell? ⟨q, 4, none⟩ = some (.slice d2 m c2) := by rw [← hm]; exact k1
                  rcases hA2.dat.2 with ⟨e, _⟩ | ⟨g, cap, cur, e, _, _, hcap, _⟩
                  · obtain ⟨rfl, e2, rfl⟩ : d2 = none ∧ I.data.length = 0 ∧ c2 = 0 := by simpa using e
                    exact ⟨none, 0, _, k2, rfl, by omega, by omega, fun _ => rfl⟩
                  · obtain ⟨rfl, rfl⟩ : d2 = some ⟨g, 0, none⟩ ∧ c2 = cap := by simpa using e
                    exact ⟨_, c2, _, k2, rfl, by omega, by omega, fun h => by cases h⟩
                · have h11 := h.turnP hil hq (h10.below hb)
                  rw [set_same hi] at h11
                  exact h11))
              clear h hf hn hA hq hi hfi hd hr hfine h3 hm hsz hsame hS
              go_enter Try.func18, Try.ntmps18
              go_wp2_with (first | (go_at_call 44; refine hfi2.out.mono ?_; rintro e w' ⟨rfl, rfl⟩) | (go_at_call 45; refine hr2.out.mono ?_; rintro e w1 ⟨rfl, hb1⟩) | (go_at_call 46; refine (hG.out _ hb1).mono ?_; rintro e w2 ⟨rfl, ⟨dv2, c2, lo, e4, hlo, hlm, hmc, hnn⟩, hP2⟩; have hmin1 : min (a : Int) (m : Int) = (lo : Int) := (by omega)) | simp only [copy_none, Result.andThen_ok])
              all_goals
                go_ret2
                exact ⟨rfl, hP2⟩
        · have hne : (s.toList.isEmpty) = false := by
            rw [Lib.toList_data]
            cases h : s.data.toList with
            | nil => exact absurd (ba_nil.1 h) h0
            | cons a l => rfl
          obtain ⟨mn, hmn⟩ : ∃ x, min a 65536 = x := ⟨_, rfl⟩
          obtain ⟨N, hN⟩ : ∃ x, sizM I a s = x := ⟨_, rfl⟩
          have hNe : N = max m (mn + s.size) := by rw [← hN]; unfold sizM; rw [if_neg h0, hm, hmn]
          have hmin0 : min (a : Int) 65536 = (mn : Int) := by omega
          have hmn2 : mn ≤ 65536 := by omega
          have hwr : IntKind.i64.wrap ((mn : Int) + (s.size : Int)) = (mn : Int) + (s.size : Int) := by rw [IntKind.wrap_i64]; omega
          have hmax : max (m : Int) ((mn : Int) + (s.size : Int)) = (N : Int) := by omega
          rw [hN]
          by_cases h2 : 65536 < (a : Int)
          · rw [if_pos (.inl h2)]
            clear h hf hn hA hq hi hfi hd hm hN hfine hNe
            go_enter Try.func18, Try.ntmps18
            go_wp2_with (go_at_call 44; refine hfi2.out.mono ?_; rintro e w' ⟨rfl, rfl⟩)
            go_ret2
            exact ⟨rfl, hP.out⟩
          · have hr := Lib.hid (room_any h hf ⟨_, _, hA⟩ hfine N (by omega))
            have hS := Lib.hid (fun (w1 : World) (hb : Below w.heap.size w w1) => FsP.of (show FsIs w B p f from ⟨sv, ps, h⟩) hb)
            cases h3 : roomM f I N with
            | false =>
              rw [if_pos (.inr rfl)]
              have hr2 := Lib.hid (by have h9 := hr.out; rw [h3] at h9; exact h9)
              clear h hf hn hA hq hi hfi hd hr hfine h3 hm hN hNe
              go_enter Try.func18, Try.ntmps18
              go_wp2_with (first | (go_at_call 44; refine hfi2.out.mono ?_; rintro e w' ⟨rfl, rfl⟩) | (go_at_call 45; refine hr2.out.mono ?_; rintro e w1 ⟨rfl, hb1⟩))
              go_ret2
              exact ⟨rfl, hS.out _ hb1⟩
            | true =>
              rw [if_neg (fun h => h.elim h2 (by simp)), if_neg h0]
              have hr2 := Lib.hid (by have h9 := hr.out; rw [h3] at h9; exact h9)
              have hN6 : N ≤ 65536 := by
                unfold roomM at h3
                have h9 := bytes_ge f i I hi
                have h10 := of_decide_eq_true h3
                omega
              have hmod := Lib.hid (modN_at hi (fun I => { I with data := putL (resM I.data (sizM I a s)) a s.data.toList }))
              have hG := Lib.hid (fun (w1 : World) (hb : Below w.heap.size w w1) => (resize_any (hA.below hb) hfine N (by omega)).mono fun e w' h9 => And.intro h9.1 (show (∃ g c2 w3, w'.cell? ⟨q, 4, none⟩ = some (.slice (some ⟨g, 0, none⟩) N c2) ∧ a < c2 ∧ N ≤ c2 ∧ c2 ≤ maxLen ∧ Hid (∀ ty, (Builtin.copy_ #[70, 9] ty #[.slice (some ⟨g, a, none⟩) (N - a) (c2 - a), .string s]).run Try.prog w' = .ok (goInt s.size) w3) ∧ FsP (All B) w w3 p (f.set i (some { I with data := putL (resM I.data N) a s.data.toList }))) by
                obtain ⟨S', ⟨dv2, ev2, hA2⟩, h10, h11⟩ := h9.2
                have hl2 : (resM I.data N).length = N := resM_len _ _
                obtain ⟨g, c2, rfl, h12, h13, h14, w3, h15, h16⟩ := write_end hA2 s a h0 (show a + s.size ≤ (resM I.data N).length by rw [hl2]; omega)
                have k1 := hA2.blk.cell 4
                have h13' : (resM I.data N).length ≤ c2 := h13
                have h15' : ∀ ty, (Builtin.copy_ #[70, 9] ty #[.slice (some ⟨g, a, none⟩) ((resM I.data N).length - a) (c2 - a), .string s]).run Try.prog w' = .ok (goInt s.size) w3 := h15
                have k2 : w'.cell? ⟨q, 4, none⟩ = some (.slice (some ⟨g, 0, none⟩) (resM I.data N).length c2) := k1
                rw [hl2] at h13' h15' k2
                exact ⟨g, c2, w3, k2, h12, h13', h14, Lib.hid h15', h.turnP hil hq ((InoP.join h10 h11 h16).below hb)⟩))
              have haN : a ≤ N := by omega
              have hmin1 : min (a : Int) (N : Int) = (a : Int) := by omega
              rw [hmod.out, hN]
              clear h hf hn hA hq hi hfi hd hr hfine h3 hm hN hS hNe hmod
              go_enter Try.func18, Try.ntmps18
              go_wp2_with (first | (go_at_call 44; refine hfi2.out.mono ?_; rintro e w' ⟨rfl, rfl⟩) | (go_at_call 45; refine hr2.out.mono ?_; rintro e w1 ⟨rfl, hb1⟩) | (go_at_call 46; refine (hG.out _ hb1).mono ?_; rintro e w2 ⟨rfl, g, c2, w3, e4, hac, hNc, hcm, hcp, hP2⟩; have hcp' := Lib.hid (hcp.out 3)) | simp only [hcp'.out, Result.andThen_ok])
              all_goals
                go_ret2
                exact ⟨rfl, hP2⟩
theorem write_nil (n a : Int) (s : ByteArray) (w : World) : Calls Try.prog 18 #[.pointer none, .int .i64 n, .int .i64 a, .string s] w fun e w' => e = .returned (.tuple #[.int .i64 0, .int .i64 9]) ∧ w' = w := by
  go_enter Try.func18, Try.ntmps18
  go_wp2_with (go_at_call 44; refine (file_nil n _).mono ?_; rintro e w' ⟨rfl, rfl⟩)
  go_ret2
  exact ⟨rfl, rfl⟩
end
end Go.Proofs.Ytohgecmbkjienaa
