/- The walk of the law OctetNames: true at every input. Condition: the library's tables and sentinels lie as they were laid (Gl); the text is no longer than 2^62. -/
import Derived.Test.YtgadnlnclpoeaaaDoorOctC
import Derived.Laws.IdiomStrings
namespace Go.Proofs.YtgadnlnclpoeaaaDoor
open Go.RowKit Go.PlainAid

theorem bt_data (s : ByteArray) (k : Nat) : bt s k = match s.data.toList[k]? with | some b => (b.toNat : Int) | none => 0 := by
  unfold bt
  by_cases h : k < s.size
  · rw [dif_pos h, List.getElem?_eq_getElem (by rw [← Lib.size_eq]; exact h)]; rfl
  · rw [dif_neg h, List.getElem?_eq_none (by rw [← Lib.size_eq]; omega)]
theorem app_data (a b : ByteArray) : (a ++ b).data.toList = a.data.toList ++ b.data.toList := by
  rw [ByteArray.data_append]; simp
theorem app_size (a b : ByteArray) : (a ++ b).size = a.size + b.size := by simp
theorem bt_left {a : ByteArray} (b : ByteArray) {k : Nat} (h : k < a.size) : bt (a ++ b) k = bt a k := by
  rw [bt_data, bt_data, app_data, List.getElem?_append_left (by rw [← Lib.size_eq]; exact h)]
theorem bt_right (a b : ByteArray) (k : Nat) : bt (a ++ b) (a.size + k) = bt b k := by
  rw [bt_data, bt_data, app_data, List.getElem?_append_right (by rw [← Lib.size_eq]; omega), ← Lib.size_eq]
  simp

/-- What may stand behind a name. -/
def partB (c : Int) : Bool := letB c || digB c || c == 95

theorem isName_iff (s : ByteArray) : isName s = true ↔ s.size ≠ 0 ∧ ∀ k, k < s.size → nmOk s k = true := by
  unfold isName; simp

theorem name_snoc {s : ByteArray} (b : UInt8) (h : isName s = true) : isName (s ++ ⟨#[b]⟩) = partB (b.toNat : Int) := by
  obtain ⟨h0, hk⟩ := (isName_iff s).1 h
  have hz : (s ++ (⟨#[b]⟩ : ByteArray)).size = s.size + 1 := by rw [app_size]; rfl
  have hb : bt (s ++ ⟨#[b]⟩) s.size = (b.toNat : Int) := by
    have := bt_right s ⟨#[b]⟩ 0
    rw [Nat.add_zero] at this
    rw [this]; rfl
  have hn : nmOk (s ++ ⟨#[b]⟩) s.size = partB (b.toNat : Int) := by
    unfold nmOk partB
    rw [hb]
    have : (s.size != 0) = true := by simpa using h0
    rw [this]
    cases letB (b.toNat : Int) <;> cases digB (b.toNat : Int) <;> cases ((b.toNat : Int) == 95) <;> rfl
  cases hp : partB (b.toNat : Int)
  · exact isName_bad (k := s.size) (by omega) (by rw [hn, hp])
  · refine isName_yes (by omega) (fun k hlt => ?_)
    by_cases e : k = s.size
    · subst e; rw [hn, hp]
    · have hlt' : k < s.size := by omega
      have := hk k hlt'
      unfold nmOk at this ⊢
      rw [bt_left _ hlt']; exact this

theorem name_one (s : ByteArray) : isName (⟨#[49]⟩ ++ s) = false := by
  have hz : ((⟨#[49]⟩ : ByteArray) ++ s).size = 1 + s.size := by rw [app_size]; rfl
  refine isName_bad (k := 0) (by omega) ?_
  unfold nmOk
  rw [bt_left s (a := ⟨#[49]⟩) (k := 0) (by decide)]
  decide

theorem name_low {s : ByteArray} (h : isName s = true) : isName (⟨#[95]⟩ ++ s) = true := by
  obtain ⟨h0, hk⟩ := (isName_iff s).1 h
  have hz : ((⟨#[95]⟩ : ByteArray) ++ s).size = 1 + s.size := by rw [app_size]; rfl
  refine isName_yes (by omega) (fun k hlt => ?_)
  cases k with
  | zero =>
    unfold nmOk
    rw [bt_left s (a := ⟨#[95]⟩) (k := 0) (by decide)]
    decide
  | succ k =>
    have := hk k (by omega)
    unfold nmOk at this ⊢
    have e : bt (⟨#[95]⟩ ++ s) (k + 1) = bt s k := by
      have := bt_right ⟨#[95]⟩ s k
      rw [← this]; congr 1
      exact Nat.add_comm _ _
    rw [e]
    revert this
    cases letB (bt s k) <;> cases digB (bt s k) <;> cases (bt s k == 95) <;> simp

theorem conv1 (b : UInt8) (w : World) : (convert 42 9 (.slice (some ⟨w.heap.size, 0, none⟩) 1 1)).run Tryd.prog (w.alloc (.cells #[.int .u8 (b.toNat : Int)] 5)) = .ok (.string ⟨#[b]⟩) (w.alloc (.cells #[.int .u8 (b.toNat : Int)] 5)) :=
  run_convert_bytes_back _ 42 9 5 ⟨w.heap.size, 0, none⟩ 1 [b] Tryd.underlying42 Tryd.underlying5 Tryd.underlying9 (fun j hj => by
    obtain rfl : j = 0 := by simpa using hj
    rw [show (Addr.add ⟨w.heap.size, 0, none⟩ 0) = ⟨w.heap.size, 0, none⟩ from rfl, World.cell?_alloc_mark]; rfl)

theorem partB_of {c : Int} {p : Bool} (h : ((65 ≤ c ∧ c ≤ 90) ∨ (97 ≤ c ∧ c ≤ 122) ∨ (48 ≤ c ∧ c ≤ 57) ∨ c = 95) ↔ p = true) : partB c = p := by
  unfold partB letB digB
  rw [Bool.eq_iff_iff, ← h]
  simp
  omega

set_option maxRecDepth 100000 in
set_option maxHeartbeats 1000000 in
theorem octetNames_walk (s : ByteArray) (b : UInt8) (w : World) (hs : s.size ≤ 4611686018427387904) (hg : Gl w) :
    Calls Tryd.prog 9 #[.string s, .int .u8 (b.toNat : Int)] w fun e w' => e = .returned (.bool true) ∧ Below w.heap.size w w' := by
  have hg' := Lib.hid hg
  clear hg
  have hsm : s.size ≤ maxLen := by unfold maxLen; omega
  cases hn : isName s
  · have hna := Lib.hid (fun w => name_any s w hsm)
    rw [hn] at hna
    clear hn
    go_enter Tryd.func9, Tryd.ntmps9
    go_wp2_with fail
    refine (awake_any _ hg'.out).mono ?_
    rintro e w1 ⟨rfl, hb⟩
    have hbH := Lib.hid hb
    clear hb
    go_wp2_with fail
    refine (hna.out _).mono ?_
    rintro e w2 ⟨rfl, rfl⟩
    go_wp2
    go_ret
    exact ⟨rfl, hbH.out⟩
  · have hna := Lib.hid (fun w => name_any s w hsm)
    rw [hn] at hna
    have hn1 : Hid (∀ w, Calls Tryd.prog 19 #[.string (s ++ ⟨#[b]⟩)] w fun e w' => e = .returned (.bool (partB (b.toNat : Int))) ∧ w = w') := Lib.hid (fun w => by
      rw [← name_snoc b hn]; exact name_any _ w (by rw [app_size]; unfold maxLen; show s.size + 1 ≤ _; omega))
    have hn2 : Hid (∀ w, Calls Tryd.prog 19 #[.string (⟨#[49]⟩ ++ s)] w fun e w' => e = .returned (.bool false) ∧ w = w') := Lib.hid (fun w => by
      rw [← name_one s]; exact name_any _ w (by rw [app_size]; unfold maxLen; show 1 + s.size ≤ _; omega))
    have hn3 : Hid (∀ w, Calls Tryd.prog 19 #[.string (⟨#[95]⟩ ++ s)] w fun e w' => e = .returned (.bool true) ∧ w = w') := Lib.hid (fun w => by
      rw [← name_low hn]; exact name_any _ w (by rw [app_size]; unfold maxLen; show 1 + s.size ≤ _; omega))
    clear hn
    have z1 : ¬ 9223372036854775807 < s.size + 1 := by omega
    have z2 : ¬ 9223372036854775807 < 1 + s.size := by omega
    have hcv := conv1 b
    obtain ⟨c, hc⟩ : ∃ c : Int, (b.toNat : Int) = c := ⟨_, rfl⟩
    have hb0 : 0 ≤ c := by omega
    have hb1 : c ≤ 255 := by
      have := b.toNat_lt
      omega
    rw [hc] at hn1 ⊢
    simp only [hc] at hcv
    clear hc
    go_enter Tryd.func9, Tryd.ntmps9
    go_wp2_with fail
    refine (awake_any _ hg'.out).mono ?_
    rintro e w1 ⟨rfl, hb⟩
    have hbH := Lib.hid hb
    clear hb
    go_wp2_with fail
    refine (hna.out _).mono ?_
    rintro e w2 ⟨rfl, rfl⟩
    go_upto_region 5 with fail
    go_cut [5] (fun s5 wx => s5 = .bool (partB c) ∧ w1 = wx)
    case first =>
      have hp : Hid (partB c = true ↔ ((65 ≤ c ∧ c ≤ 90) ∨ (97 ≤ c ∧ c ≤ 122) ∨ (48 ≤ c ∧ c ≤ 57) ∨ c = 95)) := Lib.hid (by rw [partB_of (p := decide ((65 ≤ c ∧ c ≤ 90) ∨ (97 ≤ c ∧ c ≤ 122) ∨ (48 ≤ c ∧ c ≤ 57) ∨ c = 95)) (by simp)]; simp)
      by_cases h1 : 48 ≤ c <;> by_cases h2 : c ≤ 57 <;> by_cases h3 : 97 ≤ c <;> by_cases h4 : c ≤ 122 <;> by_cases h5 : 65 ≤ c <;> by_cases h6 : c ≤ 90
      all_goals
        first
        | (exfalso; omega)
        | (go_wp2
           go_meet
           refine ⟨congrArg Value.bool ?_, rfl⟩
           rw [Bool.eq_iff_iff, hp.out]
           simp
           try omega)
    case rest =>
      obtain ⟨rfl, rfl⟩ := hcut
      go_wp2_with fail
      refine (hn1.out _).mono ?_
      rintro e w2 ⟨rfl, rfl⟩
      go_wp2_with fail
      refine (hn2.out _).mono ?_
      rintro e w2 ⟨rfl, rfl⟩
      go_wp2_with fail
      refine (hn3.out _).mono ?_
      rintro e w2 ⟨rfl, rfl⟩
      go_wp2
      go_ret
      exact ⟨rfl, hbH.out.alloc hbH.out.size _⟩
end Go.Proofs.YtgadnlnclpoeaaaDoor
