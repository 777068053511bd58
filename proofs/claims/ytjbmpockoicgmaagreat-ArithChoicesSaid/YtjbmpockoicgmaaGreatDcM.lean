/- The laws' decimal: a number as a text. No condition. -/
import Derived.Test.YtjbmpockoicgmaaGreatEvB
import Derived.Laws.IdiomStrings
import Derived.Deep.LoopGhost
namespace Go.Proofs.YtjbmpockoicgmaaGreat
open Go.RowKit Go.Shelf Go.PlainAid
set_option linter.unusedVariables false
set_option linter.unusedSimpArgs false
attribute [local go_sem] Oper.semAt_some

def dgs : Nat → Nat → List UInt8 → List UInt8
  | 0, _, acc => acc
  | f + 1, u, acc => if u / 10 = 0 then UInt8.ofNat (48 + u % 10) :: acc else dgs f (u / 10) (UInt8.ofNat (48 + u % 10) :: acc)
/-- A number's digits; a number as a text. -/
def digs (u : Nat) : List UInt8 := dgs (u + 1) u []
def decT (a : Int) : ByteArray := if a < 0 then ⟨(45 :: digs a.natAbs).toArray⟩ else ⟨(digs a.natAbs).toArray⟩
theorem app1 (d : UInt8) (l : List UInt8) : (⟨#[d]⟩ ++ ⟨l.toArray⟩ : ByteArray) = ⟨(d :: l).toArray⟩ := by
  apply ByteArray.ext
  simp [ByteArray.data_append]
set_option maxRecDepth 100000 in
set_option maxHeartbeats 4000000 in
theorem decimal_any (a : Int) (ha : -9223372036854775808 ≤ a ∧ a ≤ 9223372036854775807) (w : World) : Calls Tryz.prog 10 #[.int .i64 a] w fun e w' => e = .returned (.string (decT a)) ∧ Below w.heap.size w w' := by
  have hu : (a.natAbs : Int) ≤ 9223372036854775808 := by omega
  obtain ⟨U, hU⟩ : ∃ U, a.natAbs = U := ⟨_, rfl⟩
  rw [hU] at hu
  have hUH := Lib.hid hU
  have hloop : ∀ neg : Bool, True := fun _ => trivial
  clear hloop
  rcases (show a < 0 ∨ ¬ a < 0 by omega) with hn | hn
  · have q1 : decide (a < 0) = true := decide_eq_true hn
    have hw : IntKind.u64.wrap (-(IntKind.u64.wrap a)) = (U : Int) := by
      simp only [IntKind.wrap, IntKind.bits, IntKind.signed]
      simp
      omega
    go_enter Tryz.func10, Tryz.ntmps10
    go_wp2_with fail
    go_loopg [3, 4] U (fun g s3 s4 wr => ∃ (u f : Nat) (acc : List UInt8), s3 = .int .u64 (u : Int) ∧ s4 = .string ⟨acc.toArray⟩ ∧ g = u ∧ 9 * acc.length + u ≤ 9223372036854775808 ∧ Hid (u < f ∧ dgs f u acc = digs U ∧ Below w.heap.size w wr))
    case atStart =>
      exact ⟨U, U + 1, [], rfl, rfl, rfl, by simp; omega, Lib.hid ⟨by omega, rfl, Below.refl _ _⟩⟩
    case round =>
      obtain ⟨u, f, acc, rfl, rfl, hg, hu2, hI⟩ := hrel
      have hq : (u : Int).tmod 10 = ((u % 10 : Nat) : Int) := by rw [Int.tmod_eq_emod_of_nonneg (by omega)]; omega
      have hd : (u : Int).tdiv 10 = ((u / 10 : Nat) : Int) := by rw [Int.tdiv_eq_ediv_of_nonneg (by omega)]; omega
      obtain ⟨d, hd8⟩ : ∃ d, UInt8.ofNat (48 + u % 10) = d := ⟨_, rfl⟩
      have hdn : (d.toNat : Int) = 48 + (u : Int) % 10 := by
        rw [← hd8, UInt8.toNat_ofNat']
        omega
      have hcv : (convert 48 9 (.slice (some ⟨wr.heap.size, 0, none⟩) 1 1)).run Tryz.prog (wr.alloc (.cells #[.int .u8 (48 + (u : Int) % 10)] 5)) = .ok (.string ⟨#[d]⟩) (wr.alloc (.cells #[.int .u8 (48 + (u : Int) % 10)] 5)) :=
        run_convert_bytes_back _ 48 9 5 ⟨wr.heap.size, 0, none⟩ 1 [d] Tryz.underlying48 Tryz.underlying5 Tryz.underlying9 (fun j hj => by
          obtain rfl : j = 0 := by simp at hj; exact hj
          rw [Addr.add_lit, ← hdn]
          exact (Blk.new wr 5 #[.int .u8 (d.toNat : Int)]).cell 0)
      have hIH := Lib.hid hI.out
      have happ := app1 d acc
      have hl1 : ¬ (9223372036854775807 < 1 + acc.length) := by omega
      have hl2 : ¬ (9223372036854775807 < 1 + (acc.length + 1)) := by omega
      have hstep : Hid (∃ f', u ≤ f' ∧ (if u / 10 = 0 then d :: acc else dgs f' (u / 10) (d :: acc)) = digs U) := Lib.hid (by
        obtain ⟨g1, g2, _⟩ := hI.out
        cases f with
        | zero => omega
        | succ f' =>
          refine ⟨f', by omega, ?_⟩
          rw [← g2]
          show _ = if u / 10 = 0 then UInt8.ofNat (48 + u % 10) :: acc else dgs f' (u / 10) (UInt8.ofNat (48 + u % 10) :: acc)
          rw [hd8])
      clear hI hdn hd8
      by_cases hz : u / 10 = 0
      · have hz1 : ((u : Int) / 10 == 0) = true := by rw [beq_iff_eq]; omega
        go_wp2
        go_ret
        obtain ⟨f', _, h9⟩ := hstep.out
        rw [if_pos hz] at h9
        have hD : decT a = ⟨(45 :: (d :: acc)).toArray⟩ := by unfold decT; rw [if_pos hn, hUH.out, ← h9]
        refine ⟨?_, hIH.out.2.2.trans ((alB wr _).mono hIH.out.2.2.size)⟩
        rw [hD]
        show Ending.returned (.string (⟨#[45]⟩ ++ ⟨(d :: acc).toArray⟩)) = _
        rw [app1]
      · have hz1 : ((u : Int) / 10 == 0) = false := by rw [beq_eq_false_iff_ne]; omega
        go_wp2
        go_roundg (u / 10)
        case measure => omega
        case rel =>
          obtain ⟨f', h8, h9⟩ := hstep.out
          rw [if_neg hz] at h9
          exact ⟨u / 10, f', d :: acc, by push_cast; rfl, rfl, rfl, by rw [List.length_cons]; omega, Lib.hid ⟨by omega, h9, hIH.out.2.2.trans ((alB wr _).mono hIH.out.2.2.size)⟩⟩
  · have q1 : decide (a < 0) = false := decide_eq_false hn
    have hw : IntKind.u64.wrap a = (U : Int) := by
      simp only [IntKind.wrap, IntKind.bits, IntKind.signed]
      simp
      omega
    go_enter Tryz.func10, Tryz.ntmps10
    go_wp2_with fail
    go_loopg [3, 4] U (fun g s3 s4 wr => ∃ (u f : Nat) (acc : List UInt8), s3 = .int .u64 (u : Int) ∧ s4 = .string ⟨acc.toArray⟩ ∧ g = u ∧ 9 * acc.length + u ≤ 9223372036854775808 ∧ Hid (u < f ∧ dgs f u acc = digs U ∧ Below w.heap.size w wr))
    case atStart =>
      exact ⟨U, U + 1, [], rfl, rfl, rfl, by simp; omega, Lib.hid ⟨by omega, rfl, Below.refl _ _⟩⟩
    case round =>
      obtain ⟨u, f, acc, rfl, rfl, hg, hu2, hI⟩ := hrel
      have hq : (u : Int).tmod 10 = ((u % 10 : Nat) : Int) := by rw [Int.tmod_eq_emod_of_nonneg (by omega)]; omega
      have hd : (u : Int).tdiv 10 = ((u / 10 : Nat) : Int) := by rw [Int.tdiv_eq_ediv_of_nonneg (by omega)]; omega
      obtain ⟨d, hd8⟩ : ∃ d, UInt8.ofNat (48 + u % 10) = d := ⟨_, rfl⟩
      have hdn : (d.toNat : Int) = 48 + (u : Int) % 10 := by
        rw [← hd8, UInt8.toNat_ofNat']
        omega
      have hcv : (convert 48 9 (.slice (some ⟨wr.heap.size, 0, none⟩) 1 1)).run Tryz.prog (wr.alloc (.cells #[.int .u8 (48 + (u : Int) % 10)] 5)) = .ok (.string ⟨#[d]⟩) (wr.alloc (.cells #[.int .u8 (48 + (u : Int) % 10)] 5)) :=
        run_convert_bytes_back _ 48 9 5 ⟨wr.heap.size, 0, none⟩ 1 [d] Tryz.underlying48 Tryz.underlying5 Tryz.underlying9 (fun j hj => by
          obtain rfl : j = 0 := by simp at hj; exact hj
          rw [Addr.add_lit, ← hdn]
          exact (Blk.new wr 5 #[.int .u8 (d.toNat : Int)]).cell 0)
      have hIH := Lib.hid hI.out
      have happ := app1 d acc
      have hl1 : ¬ (9223372036854775807 < 1 + acc.length) := by omega
      have hl2 : ¬ (9223372036854775807 < 1 + (acc.length + 1)) := by omega
      have hstep : Hid (∃ f', u ≤ f' ∧ (if u / 10 = 0 then d :: acc else dgs f' (u / 10) (d :: acc)) = digs U) := Lib.hid (by
        obtain ⟨g1, g2, _⟩ := hI.out
        cases f with
        | zero => omega
        | succ f' =>
          refine ⟨f', by omega, ?_⟩
          rw [← g2]
          show _ = if u / 10 = 0 then UInt8.ofNat (48 + u % 10) :: acc else dgs f' (u / 10) (UInt8.ofNat (48 + u % 10) :: acc)
          rw [hd8])
      clear hI hdn hd8
      by_cases hz : u / 10 = 0
      · have hz1 : ((u : Int) / 10 == 0) = true := by rw [beq_iff_eq]; omega
        go_wp2
        go_ret
        obtain ⟨f', _, h9⟩ := hstep.out
        rw [if_pos hz] at h9
        have hD : decT a = ⟨(d :: acc).toArray⟩ := by unfold decT; rw [if_neg (show ¬ a < 0 by omega), hUH.out, ← h9]
        refine ⟨?_, hIH.out.2.2.trans ((alB wr _).mono hIH.out.2.2.size)⟩
        rw [hD]
        rfl
      · have hz1 : ((u : Int) / 10 == 0) = false := by rw [beq_eq_false_iff_ne]; omega
        go_wp2
        go_roundg (u / 10)
        case measure => omega
        case rel =>
          obtain ⟨f', h8, h9⟩ := hstep.out
          rw [if_neg hz] at h9
          exact ⟨u / 10, f', d :: acc, by push_cast; rfl, rfl, rfl, by rw [List.length_cons]; omega, Lib.hid ⟨by omega, h9, hIH.out.2.2.trans ((alB wr _).mono hIH.out.2.2.size)⟩⟩
end Go.Proofs.YtjbmpockoicgmaaGreat
/- A number's text is worth that number. No condition. -/
namespace Go.Proofs.YtjbmpockoicgmaaGreat
open Go.RowKit Go.Shelf Go.PlainAid
set_option linter.unusedVariables false
set_option linter.unusedSimpArgs false

def dig (b : UInt8) : Prop := 48 ≤ b.toNat ∧ b.toNat ≤ 57
def val (n : Nat) (l : List UInt8) : Nat := l.foldl (fun n b => n * 10 + (b.toNat - 48)) n
theorem val_cons (n : Nat) (b : UInt8) (l : List UInt8) : val n (b :: l) = val (n * 10 + (b.toNat - 48)) l := by unfold val; rw [List.foldl_cons]
theorem val_snoc (n : Nat) (b : UInt8) (l : List UInt8) : val n (l ++ [b]) = val n l * 10 + (b.toNat - 48) := by unfold val; rw [List.foldl_append, List.foldl_cons, List.foldl_nil]
theorem val_ge : ∀ (l : List UInt8) (n : Nat), n ≤ val n l
  | [], n => Nat.le_refl _
  | b :: l, n => by rw [val_cons]; exact Nat.le_trans (by omega) (val_ge l _)
theorem dig_of (u : Nat) : (UInt8.ofNat (48 + u % 10)).toNat = 48 + u % 10 := by rw [UInt8.toNat_ofNat']; omega
theorem dgs_spec : ∀ (f u : Nat) (acc : List UInt8), u < f → ∃ D, dgs f u acc = D ++ acc ∧ D ≠ [] ∧ (∀ b ∈ D, dig b) ∧ val 0 D = u ∧ (0 < u → D.head? ≠ some 48)
  | 0, u, acc, h => by omega
  | f + 1, u, acc, h => by
    have hd := dig_of u
    have hdd : dig (UInt8.ofNat (48 + u % 10)) := by unfold dig; omega
    unfold dgs
    by_cases hz : u / 10 = 0
    · rw [if_pos hz]
      refine ⟨[UInt8.ofNat (48 + u % 10)], rfl, by simp, fun b hb => by rw [List.mem_singleton] at hb; rw [hb]; exact hdd, ?_, fun h0 e => ?_⟩
      · show 0 * 10 + ((UInt8.ofNat (48 + u % 10)).toNat - 48) = u
        omega
      · have e2 : UInt8.ofNat (48 + u % 10) = 48 := by simpa using e
        rw [e2] at hd
        have : (48 : UInt8).toNat = 48 := rfl
        omega
    · rw [if_neg hz]
      obtain ⟨D, h1, h2, h3, h4, h5⟩ := dgs_spec f (u / 10) (UInt8.ofNat (48 + u % 10) :: acc) (by omega)
      refine ⟨D ++ [UInt8.ofNat (48 + u % 10)], by rw [h1]; simp, by simp, fun b hb => ?_, ?_, fun h0 => ?_⟩
      · rcases List.mem_append.1 hb with hb | hb
        · exact h3 b hb
        · rw [List.mem_singleton] at hb; rw [hb]; exact hdd
      · rw [val_snoc, h4]; omega
      · have h6 := h5 (by omega)
        cases D with
        | nil => exact absurd rfl h2
        | cons d D' => simpa using h6
theorem digs_spec (u : Nat) : digs u ≠ [] ∧ (∀ b ∈ digs u, dig b) ∧ val 0 (digs u) = u ∧ (0 < u → (digs u).head? ≠ some 48) := by
  obtain ⟨D, h1, h2, h3, h4, h5⟩ := dgs_spec (u + 1) u [] (by omega)
  rw [List.append_nil] at h1
  have e : digs u = D := h1
  rw [e]
  exact ⟨h2, h3, h4, h5⟩
theorem sz_l (l : List UInt8) : (⟨l.toArray⟩ : ByteArray).size = l.length := by show l.toArray.size = _; simp
theorem bt_list (l : List UInt8) (k : Nat) (b : UInt8) (h : l[k]? = some b) : bt ⟨l.toArray⟩ k = (b.toNat : Int) := by
  obtain ⟨hk, hb⟩ := List.getElem?_eq_some_iff.1 h
  unfold bt
  rw [dif_pos (show k < (⟨l.toArray⟩ : ByteArray).size by rw [sz_l]; exact hk)]
  show ((l.toArray[k]'(by simpa using hk)).toNat : Int) = _
  rw [List.getElem_toArray, hb]
theorem run_digs (l : List UInt8) (hl : ∀ b ∈ l, dig b) : ∀ (f k n : Nat), l.length - k ≤ f → k ≤ l.length → val n (l.drop k) ≤ 9223372036854775808 → numRun ⟨l.toArray⟩ 10 f k (n : Int) = (l.length, (val n (l.drop k) : Int))
  | 0, k, n, h1, h2, _ => by
    have e : k = l.length := by omega
    subst e
    rw [List.drop_length]
    rfl
  | f + 1, k, n, h1, h2, h3 => by
    unfold numRun
    by_cases hk : k < l.length
    · have hd : l.drop k = l[k] :: l.drop (k + 1) := List.drop_eq_getElem_cons hk
      have hb := hl l[k] (List.getElem_mem hk)
      have hbt := bt_list l k l[k] (List.getElem?_eq_getElem hk)
      rw [hd, val_cons] at h3
      have hge := val_ge (l.drop (k + 1)) (n * 10 + (l[k].toNat - 48))
      have hv : digV (bt ⟨l.toArray⟩ k) = ((l[k].toNat - 48 : Nat) : Int) := by
        rw [hbt]
        unfold digV
        rw [if_pos (by have := hb.1; have := hb.2; omega)]
        have := hb.1
        omega
      have hw : IntKind.u64.wrap ((n : Int) * 10 + digV (bt ⟨l.toArray⟩ k)) = ((n * 10 + (l[k].toNat - 48) : Nat) : Int) := by
        rw [hv]
        simp only [IntKind.wrap, IntKind.bits, IntKind.signed]
        simp
        omega
      rw [if_pos ⟨by show k < l.toArray.size; simpa using hk, by rw [hv]; have := hb.1; have := hb.2; omega⟩, hw, run_digs l hl f (k + 1) _ (by omega) (by omega) h3, hd, val_cons]
    · have e : k = l.length := by omega
      subst e
      rw [if_neg (fun h => by have : l.length < l.toArray.size := h.1; simp at this), List.drop_length]
      rfl
theorem bt_out (l : List UInt8) (k : Nat) (h : l.length ≤ k) : bt ⟨l.toArray⟩ k = 0 := by
  unfold bt
  rw [dif_neg (show ¬ k < (⟨l.toArray⟩ : ByteArray).size by rw [sz_l]; omega)]
theorem bt_dig (l : List UInt8) (hl : ∀ b ∈ l, dig b) (k : Nat) : bt ⟨l.toArray⟩ k ≤ 57 := by
  by_cases hk : k < l.length
  · rw [bt_list l k l[k] (List.getElem?_eq_getElem hk)]
    have := (hl l[k] (List.getElem_mem hk)).2
    omega
  · rw [bt_out l k (by omega)]; omega
theorem num_digs (u : Nat) (hu : u ≤ 9223372036854775808) : numM ⟨(digs u).toArray⟩ = (IntKind.i64.wrap u, (digs u).length) := by
  by_cases h0 : u = 0
  · subst h0; decide
  · obtain ⟨h1, h2, h3, h4⟩ := digs_spec u
    have h4 := h4 (by omega)
    obtain ⟨l, hl⟩ : ∃ l, digs u = l := ⟨_, rfl⟩
    rw [hl] at h1 h2 h3 h4 ⊢
    have hx : hexB ⟨l.toArray⟩ = false := by
      unfold hexB
      apply decide_eq_false
      rintro ⟨_, _, h, _⟩
      have := bt_dig l h2 1
      omega
    have hb : baseOf ⟨l.toArray⟩ = 10 := by
      unfold baseOf
      rw [hx, if_neg (by decide), if_neg]
      rintro ⟨_, h⟩
      cases l with
      | nil => exact h1 rfl
      | cons b l =>
        rw [bt_list (b :: l) 0 b rfl] at h
        apply h4
        have : b.toNat = (48 : UInt8).toNat := by show b.toNat = 48; omega
        rw [UInt8.toNat_inj.1 this]
        rfl
    have hf : firstOf ⟨l.toArray⟩ = 0 := by unfold firstOf; rw [hx]; rfl
    have hr : numR ⟨l.toArray⟩ = (l.length, (u : Int)) := by
      unfold numR
      rw [hb, hf]
      have h := run_digs l h2 l.toArray.size 0 0 (by simp) (Nat.zero_le _) (by rw [List.drop_zero, h3]; exact hu)
      rw [List.drop_zero, h3] at h
      exact h
    have hbad : numBad ⟨l.toArray⟩ = false := by
      unfold numBad
      rw [hr, hf]
      have e1 : l.length ≠ 0 := fun e => h1 (List.eq_nil_of_length_eq_zero e)
      have e2 : ¬ l.length < (⟨l.toArray⟩ : ByteArray).size := by rw [sz_l]; omega
      simp only [decide_eq_false e1, decide_eq_false e2, Bool.false_and, Bool.or_false]
    unfold numM
    rw [hbad, hr]
    rfl
theorem drop_no (p : UInt8 → Bool) (l : List UInt8) (h : ∀ b ∈ l, p b = false) : l.dropWhile p = l := by
  cases l with
  | nil => rfl
  | cons b l => rw [List.dropWhile_cons, if_neg (by rw [h b (List.mem_cons_self ..)]; decide)]
theorem trim_id (l : List UInt8) (h : ∀ b ∈ l, 45 ≤ b.toNat) : trimT ⟨l.toArray⟩ = ⟨l.toArray⟩ := by
  have hp : ∀ b ∈ l, ([9, 10, 32] : List UInt8).contains b = false := fun b hb => by
    have := h b hb
    rw [List.contains_eq_mem, decide_eq_false]
    intro e
    simp at e
    rcases e with e | e | e <;> (rw [e] at this; revert this; decide)
  unfold trimT Lib.trimS Lib.trimLeftS Lib.trimRightS
  show (⟨(List.dropWhile _ (List.reverse (List.dropWhile _ l.reverse))).toArray⟩ : ByteArray) = _
  rw [drop_no _ l.reverse (fun b hb => hp b (List.mem_reverse.1 hb)), List.reverse_reverse, drop_no _ l hp]
/-- A number's text is worth that number. -/
theorem worth_dec (a : Int) (ha : -9223372036854775808 ≤ a ∧ a ≤ 9223372036854775807) : worthM (decT a) = (mkI a, 0) := by
  have hn := num_digs a.natAbs (by omega)
  obtain ⟨h1, h2, _, _⟩ := digs_spec a.natAbs
  obtain ⟨l, hl⟩ : ∃ l, digs a.natAbs = l := ⟨_, rfl⟩
  have hne : l.length ≠ 0 := fun e => h1 (by rw [hl]; exact List.eq_nil_of_length_eq_zero e)
  unfold decT
  rw [hl] at hn h1 h2 ⊢
  have hl0 : ∀ b ∈ l, 45 ≤ b.toNat := fun b hb => by have := (h2 b hb).1; omega
  by_cases h : a < 0
  · rw [if_pos h]
    have ht := trim_id (45 :: l) (fun b hb => by
      rcases List.mem_cons.1 hb with rfl | hb
      · decide
      · exact hl0 b hb)
    have hb0 : bt ⟨(45 :: l).toArray⟩ 0 = 45 := bt_list (45 :: l) 0 45 rfl
    have hdt : digT ⟨(45 :: l).toArray⟩ = ⟨l.toArray⟩ := by
      unfold digT signB
      rw [hb0]
      show (⟨(45 :: l).toArray⟩ : ByteArray).extract 1 _ = _
      apply ByteArray.ext
      simp [ByteArray.data_extract, sz_l]
    unfold worthM
    rw [ht, hdt, hn, hb0]
    have e1 : ¬ ((IntKind.i64.wrap ↑a.natAbs, l.length).2 = 0 ∨ (IntKind.i64.wrap ↑a.natAbs, l.length).2 < (⟨l.toArray⟩ : ByteArray).size) := fun e => by
      rcases e with e | e
      · exact hne e
      · rw [sz_l] at e; exact absurd e (Nat.lt_irrefl _)
    rw [if_neg (show ¬ (⟨(45 :: l).toArray⟩ : ByteArray).size = 0 by rw [sz_l]; simp), if_neg e1, if_pos rfl]
    refine congrArg (fun x => (x, (0 : Int))) (I64.ext ?_)
    unfold mkI wrap64
    simp only [IntKind.wrap, IntKind.bits, IntKind.signed]
    simp
    omega
  · rw [if_neg h]
    have ht := trim_id l hl0
    obtain ⟨b, l', rfl⟩ : ∃ b l', l = b :: l' := by
      cases l with
      | nil => exact absurd rfl hne
      | cons b l' => exact ⟨b, l', rfl⟩
    have hb := h2 b (List.mem_cons_self ..)
    have hb0 : bt ⟨(b :: l').toArray⟩ 0 = (b.toNat : Int) := bt_list (b :: l') 0 b rfl
    have hb1 := hb.1
    have hdt : digT ⟨(b :: l').toArray⟩ = ⟨(b :: l').toArray⟩ := by
      unfold digT signB
      rw [hb0]
      have e1 : ((b.toNat : Int) == 43) = false := by rw [beq_eq_false_iff_ne]; omega
      have e2 : ((b.toNat : Int) == 45) = false := by rw [beq_eq_false_iff_ne]; omega
      rw [e1, e2]
      rfl
    unfold worthM
    rw [ht, hdt, hn, hb0]
    have e1 : ¬ ((IntKind.i64.wrap ↑a.natAbs, (b :: l').length).2 = 0 ∨ (IntKind.i64.wrap ↑a.natAbs, (b :: l').length).2 < (⟨(b :: l').toArray⟩ : ByteArray).size) := fun e => by
      rcases e with e | e
      · exact hne e
      · rw [sz_l] at e; exact absurd e (Nat.lt_irrefl _)
    rw [if_neg (show ¬ (⟨(b :: l').toArray⟩ : ByteArray).size = 0 by rw [sz_l]; simp), if_neg e1, if_neg (by omega)]
    refine congrArg (fun x => (x, (0 : Int))) (I64.ext ?_)
    unfold mkI wrap64
    simp only [IntKind.wrap, IntKind.bits, IntKind.signed]
    simp
    omega
end Go.Proofs.YtjbmpockoicgmaaGreat
/- What the laws' texts are worth, over two or three variables. No condition. -/
namespace Go.Proofs.YtjbmpockoicgmaaGreat
open Go.RowKit Go.Shelf Go.PlainAid
set_option linter.unusedVariables false
set_option linter.unusedSimpArgs false

/-- The maker whose variables' worths are given. -/
def NK (P : Nat → I64 × Int) : Mk I64 Nm := { NM with value := fun m nm => match m.now nm with
  | some x => (x, 0)
  | none => match idxM m.vars nm with
    | none => (zI, 0)
    | some i => P i }
def wK (s : ByteArray) (L : List Vr) (P : Nat → I64 × Int) : I64 × Int × Nm := workM (NK P) (toksM s) ⟨L, fun _ => none, []⟩
abbrev vA (A : ByteArray) : Vr := ⟨⟨#[97]⟩, A, false, false, false⟩
abbrev vB (B : ByteArray) : Vr := ⟨⟨#[98]⟩, B, false, false, false⟩
abbrev P2 (p q : I64 × Int) : Nat → I64 × Int := fun i => if i = 0 then p else q
theorem v_sum (A B : ByteArray) (x y : I64) : (wK ⟨#[97, 43, 98]⟩ [vA A, vB B] (P2 (x, 0) (y, 0))).1 = mkI (x.1 + y.1) := by kernel_rfl
theorem e_sum (A B : ByteArray) (x y : I64) : (wK ⟨#[97, 43, 98]⟩ [vA A, vB B] (P2 (x, 0) (y, 0))).2.1 = 0 := by kernel_rfl
end Go.Proofs.YtjbmpockoicgmaaGreat
/- Reading with the variables' worths given. No condition. -/
namespace Go.Proofs.YtjbmpockoicgmaaGreat
open Go.RowKit Go.Shelf Go.PlainAid
set_option linter.unusedVariables false
set_option linter.unusedSimpArgs false

section
variable {L : List Vr} {P : Nat → I64 × Int}
/-- Two readings agree where the variables are L, and keep them. -/
def Sm (L : List Vr) (f g : Ws Nm → I64 × Ws Nm) : Prop := ∀ s, s.ms.vars = L → f s = g s ∧ (f s).2.ms.vars = L
theorem failM_ms (e : Int) (s : Ws Nm) : (failM e s).ms = s.ms := by unfold failM; split <;> rfl
theorem needM_ms (op : List UInt8) (s : Ws Nm) : (needM op s).ms = s.ms := by
  unfold needM
  split
  · rfl
  · exact failM_ms 60 s
theorem deep_sm {f g : Ws Nm → I64 × Ws Nm} (h : Sm L f g) : Sm L (deepM f) (deepM g) := fun s hs => by
  have h1 := h (if 24 < s.deep + 1 then failM 52 { s with deep := s.deep + 1 } else { s with deep := s.deep + 1 }) (by
    split
    · rw [failM_ms]; exact hs
    · exact hs)
  unfold deepM
  dsimp only
  rw [← h1.1]
  exact ⟨rfl, h1.2⟩
theorem aside_sm {b : Bool} {f g : Ws Nm → I64 × Ws Nm} (h : Sm L f g) : Sm L (asideM b f) (asideM b g) := fun s hs => by
  cases b with
  | true => exact h s hs
  | false =>
    have h1 := h { s with idle := s.idle + 1 } hs
    show (_ : I64 × Ws Nm) = _ ∧ _
    unfold asideM
    simp only [Bool.false_eq_true, if_false]
    rw [← h1.1]
    exact ⟨rfl, h1.2⟩
theorem val_eq (hP : ∀ i v, L[i]? = some v → worthM v.val = P i) (m : Nm) (hm : m.vars = L) (nm : ByteArray) : valI m nm = (NK P).value m nm := by
  unfold valI
  show _ = match m.now nm with | some x => (x, 0) | none => match idxM m.vars nm with | none => (zI, 0) | some i => P i
  cases m.now nm with
  | some x => rfl
  | none =>
    dsimp only
    cases hi : idxM m.vars nm with
    | none => rfl
    | some i =>
      dsimp only
      obtain ⟨v, hv⟩ := idx_lt hi
      rw [← hP i v (by rw [← hm]; exact hv), hv]
      rfl
theorem value_sm (hP : ∀ i v, L[i]? = some v → worthM v.val = P i) (nm : ByteArray) : Sm L (valueM NM nm) (valueM (NK P) nm) := fun s hs => by
  have h1 : NM.value s.ms nm = (NK P).value s.ms nm := val_eq hP s.ms hs nm
  unfold valueM
  rw [← h1]
  refine ⟨rfl, ?_⟩
  split
  · show (failM _ s).ms.vars = L; rw [failM_ms]; exact hs
  · exact hs
theorem betw_sm (op : ByteArray) (x y : I64) : Sm L (betwM NM op x y) (betwM (NK P) op x y) := fun s hs => by
  refine ⟨rfl, ?_⟩
  unfold betwM
  split
  · show (failM _ s).ms.vars = L; rw [failM_ms]; exact hs
  · exact hs
theorem setM_vars (nm : ByteArray) (x : I64) (s : Ws Nm) : (setM NM nm x s).ms.vars = s.ms.vars := by unfold setM; split <;> rfl
theorem go_nk (hP : ∀ i v, L[i]? = some v → worthM v.val = P i) : ∀ f lv, Sm L (go NM f lv) (go (NK P) f lv)
  | 0, lv => fun s hs => by unfold go; exact ⟨rfl, hs⟩
  | f + 1, .opd => fun s hs => by
    have hn : (nextM s).ms.vars = L := hs
    have hv := value_sm hP (peekM s).text (nextM s) hn
    have ha := deep_sm (go_nk hP f .asg) (nextM s) hn
    have ho := deep_sm (go_nk hP f .opd) (nextM s) hn
    unfold go
    dsimp only
    rw [← hv.1, ← ha.1, ← ho.1]
    refine ⟨rfl, ?_⟩
    split
    · exact hs
    · split
      · exact hv.2
      · split
        · exact (congrArg Nm.vars (needM_ms [41] (deepM (go NM f .asg) (nextM s)).2)).trans ha.2
        · split
          · exact ho.2
          · exact (congrArg Nm.vars (failM_ms 60 (nextM s))).trans hs
  | f + 1, .bin r => fun s hs => by
    have h1 := go_nk hP f .opd s hs
    have h2 := go_nk hP f (.lop r (go NM f .opd s).1) (go NM f .opd s).2 h1.2
    unfold go
    dsimp only
    rw [← h1.1]
    exact h2
  | f + 1, .cho => fun s hs => by
    have h1 := go_nk hP f (.bin 3) s hs
    unfold go
    dsimp only
    rw [← h1.1]
    obtain ⟨r, hr⟩ : ∃ r, go NM f (.bin 3) s = r := ⟨_, rfl⟩
    rw [hr] at h1 ⊢
    by_cases hI : isM [63] r.2 = true
    · have hy := deep_sm (aside_sm (b := NM.truth r.1) (go_nk hP f .asg)) (nextM r.2) h1.2
      have hn := deep_sm (aside_sm (b := !NM.truth r.1) (go_nk hP f .cho)) (needM [58] (deepM (asideM (NM.truth r.1) (go NM f .asg)) (nextM r.2)).2) (by rw [needM_ms]; exact hy.2)
      rw [if_pos hI, if_pos hI, show (NK P).truth = NM.truth from rfl, ← hy.1, ← hn.1]
      exact ⟨rfl, hn.2⟩
    · rw [if_neg hI, if_neg hI]
      exact ⟨rfl, h1.2⟩
  | f + 1, .lop r x => fun s hs => by
    have hb := go_nk hP f (.bin (rankL (peekM s).text.toList + 1))
    have hn : (nextM s).ms.vars = L := hs
    unfold go
    dsimp only
    by_cases h : (peekM s).kind = 3 ∧ r ≤ rankL (peekM s).text.toList
    · rw [if_pos h, if_pos h, show (NK P).truth = NM.truth from rfl, show logicM (NK P) = logicM NM from rfl]
      by_cases h1 : (peekM s).text.toList = [38, 38]
      · rw [if_pos h1, if_pos h1]
        have h2 := aside_sm (b := NM.truth x) hb (nextM s) hn
        rw [← h2.1]
        exact go_nk hP f _ _ h2.2
      · rw [if_neg h1, if_neg h1]
        by_cases h3 : (peekM s).text.toList = [124, 124]
        · rw [if_pos h3, if_pos h3]
          have h2 := aside_sm (b := !NM.truth x) hb (nextM s) hn
          rw [← h2.1]
          exact go_nk hP f _ _ h2.2
        · rw [if_neg h3, if_neg h3]
          have h2 := hb (nextM s) hn
          have h4 := betw_sm (P := P) (peekM s).text x (go NM f (.bin (rankL (peekM s).text.toList + 1)) (nextM s)).1 (go NM f (.bin (rankL (peekM s).text.toList + 1)) (nextM s)).2 h2.2
          rw [← h2.1, ← h4.1]
          exact go_nk hP f _ _ h4.2
    · rw [if_neg h, if_neg h]
      exact ⟨rfl, hs⟩
  | f + 1, .asg => fun s hs => by
    have hn : (nextM (nextM s)).ms.vars = L := hs
    by_cases h : asgs s = true
    · have hv := value_sm hP (peekM s).text (nextM (nextM s)) hn
      unfold go
      rw [if_pos h, if_pos h]
      dsimp only
      by_cases hz : ((peekM (nextM s)).text.extract 0 ((peekM (nextM s)).text.size - 1)).size = 0
      · simp only [hz, if_true]
        have h1 := deep_sm (go_nk hP f .asg) (nextM (nextM s)) hn
        rw [← h1.1]
        refine ⟨rfl, ?_⟩
        rw [setM_vars]
        exact h1.2
      · simp only [hz, if_false]
        rw [← hv.1]
        have h1 := deep_sm (go_nk hP f .asg) (valueM NM (peekM s).text (nextM (nextM s))).2 hv.2
        rw [← h1.1]
        refine ⟨rfl, ?_⟩
        rw [setM_vars]
        exact (betw_sm (P := P) _ _ _ _ h1.2).2
    · have h1 := go_nk hP f .cho s hs
      unfold go
      rw [if_neg h, if_neg h]
      exact h1
theorem wrk_k (hP : ∀ i v, L[i]? = some v → worthM v.val = P i) (s : ByteArray) : wrkM s L = wK s L P := by
  unfold wrkM wK workM
  rw [← (go_nk hP _ .asg ⟨toksM s, 0, 0, 0, ⟨L, fun _ => none, []⟩⟩ rfl).1]
  rfl
end
end Go.Proofs.YtjbmpockoicgmaaGreat
/- What the laws' texts are worth, over variables that are worth given numbers. No condition. -/
namespace Go.Proofs.YtjbmpockoicgmaaGreat
open Go.RowKit Go.Shelf Go.PlainAid
set_option linter.unusedVariables false
set_option linter.unusedSimpArgs false
abbrev two (A B : ByteArray) : List Vr := [vA A, vB B]
theorem chk_add : chkM ⟨#[97, 43, 98]⟩ = 0 := by kernel_rfl
theorem wk_add (A B : ByteArray) (x y : I64) : (wK ⟨#[97, 43, 98]⟩ (two A B) (P2 (x, 0) (y, 0))).1 = mkI (x.1 + y.1) ∧ (wK ⟨#[97, 43, 98]⟩ (two A B) (P2 (x, 0) (y, 0))).2.1 = 0 ∧ (wK ⟨#[97, 43, 98]⟩ (two A B) (P2 (x, 0) (y, 0))).2.2.sets = [] := ⟨by kernel_rfl, by kernel_rfl, by kernel_rfl⟩
theorem chk_sub : chkM ⟨#[97, 45, 98]⟩ = 0 := by kernel_rfl
theorem wk_sub (A B : ByteArray) (x y : I64) : (wK ⟨#[97, 45, 98]⟩ (two A B) (P2 (x, 0) (y, 0))).1 = mkI (x.1 - y.1) ∧ (wK ⟨#[97, 45, 98]⟩ (two A B) (P2 (x, 0) (y, 0))).2.1 = 0 ∧ (wK ⟨#[97, 45, 98]⟩ (two A B) (P2 (x, 0) (y, 0))).2.2.sets = [] := ⟨by kernel_rfl, by kernel_rfl, by kernel_rfl⟩
theorem chk_mul : chkM ⟨#[97, 42, 98]⟩ = 0 := by kernel_rfl
theorem wk_mul (A B : ByteArray) (x y : I64) : (wK ⟨#[97, 42, 98]⟩ (two A B) (P2 (x, 0) (y, 0))).1 = mkI (x.1 * y.1) ∧ (wK ⟨#[97, 42, 98]⟩ (two A B) (P2 (x, 0) (y, 0))).2.1 = 0 ∧ (wK ⟨#[97, 42, 98]⟩ (two A B) (P2 (x, 0) (y, 0))).2.2.sets = [] := ⟨by kernel_rfl, by kernel_rfl, by kernel_rfl⟩
theorem chk_and : chkM ⟨#[97, 38, 98]⟩ = 0 := by kernel_rfl
theorem wk_and (A B : ByteArray) (x y : I64) : (wK ⟨#[97, 38, 98]⟩ (two A B) (P2 (x, 0) (y, 0))).1 = mkI (bits .and .i64 x.1 y.1) ∧ (wK ⟨#[97, 38, 98]⟩ (two A B) (P2 (x, 0) (y, 0))).2.1 = 0 ∧ (wK ⟨#[97, 38, 98]⟩ (two A B) (P2 (x, 0) (y, 0))).2.2.sets = [] := ⟨by kernel_rfl, by kernel_rfl, by kernel_rfl⟩
theorem chk_or : chkM ⟨#[97, 124, 98]⟩ = 0 := by kernel_rfl
theorem wk_or (A B : ByteArray) (x y : I64) : (wK ⟨#[97, 124, 98]⟩ (two A B) (P2 (x, 0) (y, 0))).1 = mkI (bits .or .i64 x.1 y.1) ∧ (wK ⟨#[97, 124, 98]⟩ (two A B) (P2 (x, 0) (y, 0))).2.1 = 0 ∧ (wK ⟨#[97, 124, 98]⟩ (two A B) (P2 (x, 0) (y, 0))).2.2.sets = [] := ⟨by kernel_rfl, by kernel_rfl, by kernel_rfl⟩
theorem chk_xor : chkM ⟨#[97, 94, 98]⟩ = 0 := by kernel_rfl
theorem wk_xor (A B : ByteArray) (x y : I64) : (wK ⟨#[97, 94, 98]⟩ (two A B) (P2 (x, 0) (y, 0))).1 = mkI (bits .xor .i64 x.1 y.1) ∧ (wK ⟨#[97, 94, 98]⟩ (two A B) (P2 (x, 0) (y, 0))).2.1 = 0 ∧ (wK ⟨#[97, 94, 98]⟩ (two A B) (P2 (x, 0) (y, 0))).2.2.sets = [] := ⟨by kernel_rfl, by kernel_rfl, by kernel_rfl⟩
theorem chk_inv : chkM ⟨#[126, 97]⟩ = 0 := by kernel_rfl
theorem wk_inv (A B : ByteArray) (x y : I64) : (wK ⟨#[126, 97]⟩ (two A B) (P2 (x, 0) (y, 0))).1 = mkI (bits .xor .i64 (-1) x.1) ∧ (wK ⟨#[126, 97]⟩ (two A B) (P2 (x, 0) (y, 0))).2.1 = 0 ∧ (wK ⟨#[126, 97]⟩ (two A B) (P2 (x, 0) (y, 0))).2.2.sets = [] := ⟨by kernel_rfl, by kernel_rfl, by kernel_rfl⟩
theorem chk_neg : chkM ⟨#[45, 97]⟩ = 0 := by kernel_rfl
theorem wk_neg (A B : ByteArray) (x y : I64) : (wK ⟨#[45, 97]⟩ (two A B) (P2 (x, 0) (y, 0))).1 = mkI (-x.1) ∧ (wK ⟨#[45, 97]⟩ (two A B) (P2 (x, 0) (y, 0))).2.1 = 0 ∧ (wK ⟨#[45, 97]⟩ (two A B) (P2 (x, 0) (y, 0))).2.2.sets = [] := ⟨by kernel_rfl, by kernel_rfl, by kernel_rfl⟩
theorem chk_shl : chkM ⟨#[97, 60, 60, 98]⟩ = 0 := by kernel_rfl
theorem wk_shl (A B : ByteArray) (x y : I64) : (wK ⟨#[97, 60, 60, 98]⟩ (two A B) (P2 (x, 0) (y, 0))).1 = mkI (x.1 * 2 ^ sh64 y.1) ∧ (wK ⟨#[97, 60, 60, 98]⟩ (two A B) (P2 (x, 0) (y, 0))).2.1 = 0 ∧ (wK ⟨#[97, 60, 60, 98]⟩ (two A B) (P2 (x, 0) (y, 0))).2.2.sets = [] := ⟨by kernel_rfl, by kernel_rfl, by kernel_rfl⟩
theorem chk_shr : chkM ⟨#[97, 62, 62, 98]⟩ = 0 := by kernel_rfl
theorem wk_shr (A B : ByteArray) (x y : I64) : (wK ⟨#[97, 62, 62, 98]⟩ (two A B) (P2 (x, 0) (y, 0))).1 = mkI (x.1.fdiv (2 ^ sh64 y.1)) ∧ (wK ⟨#[97, 62, 62, 98]⟩ (two A B) (P2 (x, 0) (y, 0))).2.1 = 0 ∧ (wK ⟨#[97, 62, 62, 98]⟩ (two A B) (P2 (x, 0) (y, 0))).2.2.sets = [] := ⟨by kernel_rfl, by kernel_rfl, by kernel_rfl⟩
theorem chk_lss : chkM ⟨#[97, 60, 98]⟩ = 0 := by kernel_rfl
theorem wk_lss (A B : ByteArray) (x y : I64) : (wK ⟨#[97, 60, 98]⟩ (two A B) (P2 (x, 0) (y, 0))).1 = oneI (decide (x.1 < y.1)) ∧ (wK ⟨#[97, 60, 98]⟩ (two A B) (P2 (x, 0) (y, 0))).2.1 = 0 ∧ (wK ⟨#[97, 60, 98]⟩ (two A B) (P2 (x, 0) (y, 0))).2.2.sets = [] := ⟨by kernel_rfl, by kernel_rfl, by kernel_rfl⟩
theorem chk_eql : chkM ⟨#[97, 61, 61, 98]⟩ = 0 := by kernel_rfl
theorem wk_eql (A B : ByteArray) (x y : I64) : (wK ⟨#[97, 61, 61, 98]⟩ (two A B) (P2 (x, 0) (y, 0))).1 = oneI (x.1 == y.1) ∧ (wK ⟨#[97, 61, 61, 98]⟩ (two A B) (P2 (x, 0) (y, 0))).2.1 = 0 ∧ (wK ⟨#[97, 61, 61, 98]⟩ (two A B) (P2 (x, 0) (y, 0))).2.2.sets = [] := ⟨by kernel_rfl, by kernel_rfl, by kernel_rfl⟩
theorem chk_name : chkM ⟨#[97]⟩ = 0 := by kernel_rfl
theorem wk_name (A B : ByteArray) (x y : I64) : (wK ⟨#[97]⟩ (two A B) (P2 (x, 0) (y, 0))).1 = x ∧ (wK ⟨#[97]⟩ (two A B) (P2 (x, 0) (y, 0))).2.1 = 0 ∧ (wK ⟨#[97]⟩ (two A B) (P2 (x, 0) (y, 0))).2.2.sets = [] := ⟨by kernel_rfl, by kernel_rfl, by kernel_rfl⟩
theorem chk_set : chkM ⟨#[40, 97, 61, 98, 41, 43, 40, 98, 61, 97, 41]⟩ = 0 := by kernel_rfl
theorem wk_set (A B : ByteArray) (x y : I64) : (wK ⟨#[40, 97, 61, 98, 41, 43, 40, 98, 61, 97, 41]⟩ (two A B) (P2 (x, 0) (y, 0))).1 = mkI (y.1 + y.1) ∧ (wK ⟨#[40, 97, 61, 98, 41, 43, 40, 98, 61, 97, 41]⟩ (two A B) (P2 (x, 0) (y, 0))).2.1 = 0 ∧ (wK ⟨#[40, 97, 61, 98, 41, 43, 40, 98, 61, 97, 41]⟩ (two A B) (P2 (x, 0) (y, 0))).2.2.sets = [(⟨#[97]⟩, y), (⟨#[98]⟩, y)] := ⟨by kernel_rfl, by kernel_rfl, by kernel_rfl⟩
theorem chk_less : chkM ⟨#[97, 45, 61, 98]⟩ = 0 := by kernel_rfl
theorem wk_less (A B : ByteArray) (x y : I64) : (wK ⟨#[97, 45, 61, 98]⟩ (two A B) (P2 (x, 0) (y, 0))).1 = mkI (x.1 - y.1) ∧ (wK ⟨#[97, 45, 61, 98]⟩ (two A B) (P2 (x, 0) (y, 0))).2.1 = 0 ∧ (wK ⟨#[97, 45, 61, 98]⟩ (two A B) (P2 (x, 0) (y, 0))).2.2.sets = [(⟨#[97]⟩, mkI (x.1 - y.1))] := ⟨by kernel_rfl, by kernel_rfl, by kernel_rfl⟩
end Go.Proofs.YtjbmpockoicgmaaGreat
/- What the laws' texts are worth where a value parts the ways: zero or not. No condition. -/
namespace Go.Proofs.YtjbmpockoicgmaaGreat
open Go.RowKit Go.Shelf Go.PlainAid
set_option linter.unusedVariables false
set_option linter.unusedSimpArgs false
abbrev vC (C : ByteArray) : Vr := ⟨⟨#[99]⟩, C, false, false, false⟩
abbrev P3 (p q r : I64 × Int) : Nat → I64 × Int := fun i => if i = 0 then p else if i = 1 then q else r
abbrev three (A B C : ByteArray) : List Vr := [vA A, vB B, vC C]
theorem chk_div : chkM ⟨#[97, 47, 98, 42, 98, 43, 97, 37, 98]⟩ = 0 := by kernel_rfl
theorem wk_div_z (A B : ByteArray) (x : I64) : (wK ⟨#[97, 47, 98, 42, 98, 43, 97, 37, 98]⟩ (two A B) (P2 (x, 0) (zI, 0))).2.1 = 61 := by kernel_rfl
theorem chk_cho : chkM ⟨#[97, 63, 40, 120, 61, 98, 41, 58, 40, 121, 61, 99, 41]⟩ = 0 := by kernel_rfl
theorem wk_cho_z (A B C : ByteArray) (y z : I64)  : (wK ⟨#[97, 63, 40, 120, 61, 98, 41, 58, 40, 121, 61, 99, 41]⟩ (three A B C) (P3 (zI, 0) (y, 0) (z, 0))).1 = z ∧ (wK ⟨#[97, 63, 40, 120, 61, 98, 41, 58, 40, 121, 61, 99, 41]⟩ (three A B C) (P3 (zI, 0) (y, 0) (z, 0))).2.1 = 0 ∧ (wK ⟨#[97, 63, 40, 120, 61, 98, 41, 58, 40, 121, 61, 99, 41]⟩ (three A B C) (P3 (zI, 0) (y, 0) (z, 0))).2.2.sets = [(⟨#[121]⟩, z)] := ⟨by kernel_rfl, by kernel_rfl, by kernel_rfl⟩
theorem chk_ands : chkM ⟨#[97, 38, 38, 98]⟩ = 0 := by kernel_rfl
theorem wk_ands_z (A B C : ByteArray) (y z : I64)  : (wK ⟨#[97, 38, 38, 98]⟩ (three A B C) (P3 (zI, 0) (y, 0) (z, 0))).1 = oneI false ∧ (wK ⟨#[97, 38, 38, 98]⟩ (three A B C) (P3 (zI, 0) (y, 0) (z, 0))).2.1 = 0 ∧ (wK ⟨#[97, 38, 38, 98]⟩ (three A B C) (P3 (zI, 0) (y, 0) (z, 0))).2.2.sets = [] := ⟨by kernel_rfl, by kernel_rfl, by kernel_rfl⟩
theorem chk_ors : chkM ⟨#[97, 124, 124, 98]⟩ = 0 := by kernel_rfl
theorem wk_ors_zz (A B C : ByteArray) (z : I64)   : (wK ⟨#[97, 124, 124, 98]⟩ (three A B C) (P3 (zI, 0) (zI, 0) (z, 0))).1 = oneI false ∧ (wK ⟨#[97, 124, 124, 98]⟩ (three A B C) (P3 (zI, 0) (zI, 0) (z, 0))).2.1 = 0 := ⟨by kernel_rfl, by kernel_rfl⟩
theorem chk_nots : chkM ⟨#[33, 97]⟩ = 0 := by kernel_rfl
theorem wk_nots_z (A B C : ByteArray) (y z : I64)  : (wK ⟨#[33, 97]⟩ (three A B C) (P3 (zI, 0) (y, 0) (z, 0))).1 = oneI true ∧ (wK ⟨#[33, 97]⟩ (three A B C) (P3 (zI, 0) (y, 0) (z, 0))).2.1 = 0 ∧ (wK ⟨#[33, 97]⟩ (three A B C) (P3 (zI, 0) (y, 0) (z, 0))).2.2.sets = [] := ⟨by kernel_rfl, by kernel_rfl, by kernel_rfl⟩
end Go.Proofs.YtjbmpockoicgmaaGreat
