/- Read. Condition: the tree lies as stated. -/
import Derived.Test.YtohgecmbkjienaaFlY
import Derived.Laws.IdiomStrings
namespace Go.Proofs.Ytohgecmbkjienaa
open Go.RowKit Go.Shelf Go.PlainAid
attribute [local go_sem] Oper.semAt_some

/-- What Read gives. -/
def readL (l : List UInt8) (at_ k : Int) : List UInt8 := (l.drop at_.toNat).take k.toNat
def ReadM (f : Fs) (n at_ k : Int) : ByteArray × Nat := match node f n with
  | none => (⟨#[]⟩, 9)
  | some I => if I.isDir then (⟨#[]⟩, 21) else if at_ < 0 ∨ k < 0 then (⟨#[]⟩, 22) else (⟨(readL I.data at_ k).toArray⟩, 0)
theorem conv_nil (W : World) : (convert 70 9 (.slice none 0 0)).run Try.prog W = .ok (.string ⟨#[]⟩) W := by
  rw [run_convert_bytes_string W _ _ 5 none 0 0 Try.underlying70 Try.underlying5 Try.underlying9]
  simp [Conv.bytesToString]
  rfl
theorem conv_zero (W : World) (a : Addr) (c : Nat) : (convert 70 9 (.slice (some a) 0 c)).run Try.prog W = .ok (.string ⟨#[]⟩) W :=
  run_convert_bytes_back (P := Try.prog) W 70 9 5 a c [] Try.underlying70 Try.underlying5 Try.underlying9 (fun j hj => by simp at hj)
section
variable {w : World} {B : Nat → Nat → Prop} {p : Nat} {f : Fs} {sv : Value} {ps : List (Option Nat)}
set_option maxRecDepth 100000 in
set_option maxHeartbeats 2000000 in
theorem read_any (h : FsAt w B p f sv ps) (hf : FineF f) (n at_ k : Int) : Calls Try.prog 20 #[.pointer (some ⟨p, 0, none⟩), .int .i64 n, .int .i64 at_, .int .i64 k] w fun e w' => e = .returned (.tuple #[.string (ReadM f n at_ k).1, .int .i64 (ReadM f n at_ k).2]) ∧ Below w.heap.size w w' := by
  have hlen : f.length ≤ 100000 := by have := hf.1; omega
  cases hn : node f n with
  | none =>
    have hM : Hid (ReadM f n at_ k = (⟨#[]⟩, 9)) := Lib.hid (by unfold ReadM; rw [hn])
    have hfi := Lib.hid (file_no h hn hlen)
    rw [hM.out]
    clear h hf hn hM
    go_enter Try.func20, Try.ntmps20
    go_wp2_with (go_at_call 44; refine hfi.out.mono ?_; rintro e w' ⟨rfl, rfl⟩)
    go_ret2
    exact ⟨rfl, Below.refl _ _⟩
  | some I =>
    have hM : Hid (ReadM f n at_ k = if I.isDir then (⟨#[]⟩, 21) else if at_ < 0 ∨ k < 0 then (⟨#[]⟩, 22) else (⟨(readL I.data at_ k).toArray⟩, 0)) := Lib.hid (by unfold ReadM; rw [hn])
    rw [hM.out]
    obtain ⟨i, q, rfl, _, hi, hq, hI⟩ := node_where h hn
    have hfi := file_yes h hq hI hlen
    have hfine := hf.2 i I hi
    cases hd : I.isDir with
    | true =>
      rw [hd, if_pos rfl] at hfi
      have hfiH := Lib.hid hfi
      rw [if_pos rfl]
      clear h hf hn hM hI hq hi hfi hfine hd
      go_enter Try.func20, Try.ntmps20
      go_wp2_with (go_at_call 44; refine hfiH.out.mono ?_; rintro e w' ⟨rfl, rfl⟩)
      go_ret2
      exact ⟨rfl, Below.refl _ _⟩
    | false =>
      rw [hd, if_neg (by decide)] at hfi
      have hfiH := Lib.hid hfi
      rw [if_neg (by decide)]
      obtain ⟨dv, ev, hA⟩ := hI
      by_cases h1 : at_ < 0
      · rw [if_pos (.inl h1)]
        clear h hf hn hM hA hq hi hfi hfine hd
        go_enter Try.func20, Try.ntmps20
        go_wp2_with (go_at_call 44; refine hfiH.out.mono ?_; rintro e w' ⟨rfl, rfl⟩)
        go_ret2
        exact ⟨rfl, Below.refl _ _⟩
      · by_cases h2 : k < 0
        · rw [if_pos (.inr h2)]
          clear h hf hn hM hA hq hi hfi hfine hd
          go_enter Try.func20, Try.ntmps20
          go_wp2_with (go_at_call 44; refine hfiH.out.mono ?_; rintro e w' ⟨rfl, rfl⟩)
          go_ret2
          exact ⟨rfl, Below.refl _ _⟩
        · rw [if_neg (by omega)]
          obtain ⟨at', rfl⟩ : ∃ a : Nat, at_ = a := ⟨at_.toNat, by omega⟩
          obtain ⟨k', rfl⟩ : ∃ a : Nat, k = a := ⟨k.toNat, by omega⟩
          obtain ⟨a, c, rfl⟩ := ownsRow_slice hA.dat
          obtain ⟨m, hm⟩ : ∃ m, I.data.length = m := ⟨_, rfl⟩
          have c4 : w.cell? ⟨q, 4, none⟩ = some (.slice a m c) := by rw [← hm]; exact hA.blk.cell 4
          have hml : m ≤ 70000 := by rw [← hm]; exact hfine.dl
          have hrow := hA.dat
          have mixed : Try.prog.follows .mixedOrders = true := by kernel_rfl
          rw [hm] at hrow
          rcases hrow.2 with ⟨e, hm0⟩ | ⟨g, cap, cur, e, _, hgb, hmc, hcm, hcs, htk⟩
          · obtain ⟨rfl, rfl, rfl⟩ : a = none ∧ m = 0 ∧ c = 0 := by simpa using e
            have hres : Hid ((⟨(readL I.data (at' : Int) (k' : Int)).toArray⟩ : ByteArray) = ⟨#[]⟩) := Lib.hid (by
              rw [List.length_eq_zero_iff.1 hm]
              unfold readL
              simp)
            rw [hres.out]
            clear h hf hn hM hA hq hi hfi hfine hd hrow hm e hres
            have hmin1 : min (at' : Int) 0 = 0 := by omega
            have hmin2 : min (k' : Int) 0 = 0 := by omega
            go_enter Try.func20, Try.ntmps20
            go_wp2_with (go_at_call 44; refine hfiH.out.mono ?_; rintro e w' ⟨rfl, rfl⟩)
            go_quiet (fail)
            go_wp2_with (simp only [conv_nil, Result.andThen_ok])
            go_ret2
            exact ⟨rfl, ⟨rfl, rfl, rfl, Nat.le_refl _, fun _ _ => rfl⟩⟩
          · obtain ⟨rfl, rfl⟩ : a = some ⟨g, 0, none⟩ ∧ c = cap := by simpa using e
            obtain ⟨lo, hlo⟩ : ∃ lo, min at' m = lo := ⟨_, rfl⟩
            have hlm : lo ≤ m := by omega
            obtain ⟨d, hd9⟩ : ∃ d, m - lo = d := ⟨_, rfl⟩
            obtain ⟨k2, hk2⟩ : ∃ x, min k' d = x := ⟨_, rfl⟩
            have hk2d : k2 ≤ d := by omega
            have hmin1 : min (at' : Int) (m : Int) = (lo : Int) := by omega
            have hmin2 : min (k' : Int) (d : Int) = (k2 : Int) := by omega
            have hsub : (m : Int) - (lo : Int) = (d : Int) := by omega
            have hLl : (readL I.data (at' : Int) (k' : Int)).length = k2 := by unfold readL; simp [hm]; omega
            by_cases hcl : c = lo
            · obtain rfl : d = 0 := by omega
              obtain rfl : k2 = 0 := by omega
              have hres : Hid ((⟨(readL I.data (at' : Int) (k' : Int)).toArray⟩ : ByteArray) = ⟨#[]⟩) := Lib.hid (by rw [List.length_eq_zero_iff.1 hLl])
              rw [hres.out]
              subst hcl
              have hmin3 : min (k' : Int) 0 = 0 := by omega
              clear h hf hn hM hA hq hi hfi hfine hd hrow hm hLl hres htk hgb hcs e hlo
              go_enter Try.func20, Try.ntmps20
              go_wp2_with (go_at_call 44; refine hfiH.out.mono ?_; rintro e w' ⟨rfl, rfl⟩)
              go_quiet (fail)
              go_wp2_with (simp only [conv_zero, Result.andThen_ok])
              go_ret2
              exact ⟨rfl, ⟨rfl, rfl, rfl, Nat.le_refl _, fun _ _ => rfl⟩⟩
            · obtain ⟨L, hL⟩ : ∃ L, readL I.data (at' : Int) (k' : Int) = L := ⟨_, rfl⟩
              rw [hL] at hLl ⊢
              have hcv : Hid (∀ nq, (convert 70 9 (.slice (some ⟨g, lo, none⟩) k2 (c - lo))).run Try.prog (w.drewN nq) = .ok (.string ⟨L.toArray⟩) (w.drewN nq)) := Lib.hid (fun nq => by
                have h9 := run_convert_bytes_back (P := Try.prog) (w.drewN nq) 70 9 5 ⟨g, lo, none⟩ (c - lo) L Try.underlying70 Try.underlying5 Try.underlying9 (fun j hj => by
                  rw [Addr.add_lit]
                  have hjm : lo + j < m := by omega
                  have hlo2 : lo = at' := by omega
                  have hget : (Lib.byteCells I.data)[lo + j]? = some (.int .u8 (L[j].toNat : Int)) := by
                    have e1 : L[j]? = I.data[lo + j]? := by
                      rw [← hL, hlo2]
                      unfold readL
                      rw [List.getElem?_take_of_lt (by simp; omega), List.getElem?_drop]
                      simp
                    rw [List.getElem?_eq_getElem hj] at e1
                    unfold Lib.byteCells
                    rw [List.getElem?_map, ← e1]
                    rfl
                  rw [← htk, List.getElem?_take_of_lt (by omega), Array.getElem?_toList] at hget
                  exact (cell_of_row w g (lo + j) cur 5 (0, 0) hgb).trans hget)
                rw [hLl] at h9
                exact h9)
              clear h hf hn hM hA hq hi hfi hfine hd hrow hm hLl htk hgb hcs e hlo hL
              go_enter Try.func20, Try.ntmps20
              go_wp2_with (go_at_call 44; refine hfiH.out.mono ?_; rintro e w' ⟨rfl, rfl⟩)
              go_quiet (fail)
              go_wp2_with (simp only [hcv.out, Result.andThen_ok])
              go_ret2
              exact ⟨rfl, ⟨rfl, rfl, rfl, Nat.le_refl _, fun _ _ => rfl⟩⟩
theorem read_nil (n at_ k : Int) (w : World) : Calls Try.prog 20 #[.pointer none, .int .i64 n, .int .i64 at_, .int .i64 k] w fun e w' => e = .returned (.tuple #[.string ⟨#[]⟩, .int .i64 9]) ∧ w' = w := by
  go_enter Try.func20, Try.ntmps20
  go_wp2_with (go_at_call 44; refine (file_nil n _).mono ?_; rintro e w' ⟨rfl, rfl⟩)
  go_ret2
  exact ⟨rfl, rfl⟩
end
end Go.Proofs.Ytohgecmbkjienaa
