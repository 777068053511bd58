/- The document's Octal. No condition. -/
import Derived.Test.YtgadnlnclpoeaaaDoorOctAC
import Derived.Deep.RegionWith
import Derived.IntWalk
import Derived.Test.YtgadnlnclpoeaaaDoorOctI
namespace Go.Proofs.YtgadnlnclpoeaaaDoor
open Go.RowKit Go.PlainAid

theorem bcell {W w1 : World} (hb : Below W.heap.size W w1) : (∀ b o, b < W.heap.size → w1.cell? ⟨b, o, none⟩ = W.cell? ⟨b, o, none⟩) ∧ (∀ b o, b < W.heap.size → w1.frozen? ⟨b, o, none⟩ = W.frozen? ⟨b, o, none⟩) :=
  ⟨fun b o h => hb.cell (p := ⟨b, o, none⟩) h, fun b o h => hb.frozen (p := ⟨b, o, none⟩) h⟩

/-- One byte as a text. -/
theorem conv_one {w : World} {B : Nat} {d : Nat} (hd : d < 8) (h : w.cell? ⟨B, 0, none⟩ = some (.int .u8 (48 + (d : Int)))) :
    (convert 42 9 (.slice (some ⟨B, 0, none⟩) 1 1)).run Tryd.prog w = .ok (.string ⟨#[UInt8.ofNat (48 + d)]⟩) w := by
  have hn : (UInt8.ofNat (48 + d)).toNat = 48 + d := UInt8.toNat_ofNat_of_lt' (by show 48 + d < 256; omega)
  exact run_convert_bytes_back (P := Tryd.prog) w 42 9 5 ⟨B, 0, none⟩ 1 [UInt8.ofNat (48 + d)] Tryd.underlying42 Tryd.underlying5 Tryd.underlying9 (fun j hj => by
    obtain rfl : j = 0 := by simpa using hj
    rw [Lib.add_plain]
    simp only [List.getElem_cons_zero, hn]
    rw [h]; rfl)

def OctR (u : Nat) (w : World) (e : Ending) (w' : World) : Prop := e = .returned (.string ⟨(oct u).toArray⟩) ∧ Below w.heap.size w w'

set_option maxRecDepth 100000 in
set_option maxHeartbeats 1000000 in
theorem refOct_small (u : Nat) (h8 : u < 8) (w : World) : Calls Tryd.prog 18 #[.int .i64 u] w (OctR u w) := by
  have h8' : (u : Int) < 8 := by omega
  have hcv := conv_one (w := w.alloc (.cells #[.int .u8 (48 + (u : Int))] 5)) (B := w.heap.size) h8 (by rw [World.cell?_alloc_new]; rfl)
  obtain ⟨X, hX⟩ : ∃ X : ByteArray, (⟨#[UInt8.ofNat (48 + u)]⟩ : ByteArray) = X := ⟨_, rfl⟩
  rw [hX] at hcv
  have ho : Hid ((⟨(oct u).toArray⟩ : ByteArray) = X) := Lib.hid (by rw [oct_lt h8, ← hX])
  clear hX h8
  go_enter Tryd.func18, Tryd.ntmps18
  go_wp2
  go_ret
  exact ⟨by rw [ho.out]; rfl, (Below.refl _ _).alloc (Nat.le_refl _) _⟩

theorem oct_len (n : Nat) : ∀ u : Nat, u < 8 ^ (n + 1) → (oct u).length ≤ n + 1 ∧ 1 ≤ (oct u).length := by
  induction n with
  | zero => intro u h; rw [oct_lt (by simpa using h)]; simp
  | succ n ih =>
    intro u h
    by_cases h8 : u < 8
    · rw [oct_lt h8]; simp
    · rw [oct_ge h8]
      have := ih (u / 8) (by rw [Nat.pow_succ] at h; omega)
      simp; omega

set_option maxRecDepth 100000 in
set_option maxHeartbeats 2000000 in
theorem refOct_big (u : Nat) (h8 : ¬ u < 8) (hu : u < 9223372036854775808) (w : World) (ih : ∀ w, Calls Tryd.prog 18 #[.int .i64 ((u / 8 : Nat) : Int)] w (OctR (u / 8) w)) :
    Calls Tryd.prog 18 #[.int .i64 u] w (OctR u w) := by
  have h8' : (8 : Int) ≤ (u : Int) := by omega
  obtain ⟨q, hq⟩ : ∃ q : Nat, u / 8 = q := ⟨_, rfl⟩
  obtain ⟨d, hd⟩ : ∃ d : Nat, u % 8 = d := ⟨_, rfl⟩
  have hd8 : d < 8 := by omega
  have ho : Hid (oct u = oct q ++ [UInt8.ofNat (48 + d)]) := Lib.hid (by rw [oct_ge h8, hq, hd])
  rw [hq] at ih
  have hl := (oct_len 20 q (by omega)).1
  obtain ⟨X, hX⟩ : ∃ X : ByteArray, (⟨(oct q).toArray⟩ : ByteArray) = X := ⟨_, rfl⟩
  obtain ⟨Y, hY⟩ : ∃ Y : ByteArray, (⟨#[UInt8.ofNat (48 + d)]⟩ : ByteArray) = Y := ⟨_, rfl⟩
  have hXs : X.size ≤ 100 := by rw [← hX]; show (oct q).toArray.size ≤ 100; simp; omega
  have hYs : Y.size ≤ 1 := by rw [← hY]; exact Nat.le_refl _
  have hoX : Hid ((⟨(oct u).toArray⟩ : ByteArray) = X ++ Y) := Lib.hid (ba_ext' (by rw [app_data, ← hX, ← hY, ho.out]))
  have ihH : Hid (∀ w, Calls Tryd.prog 18 #[.int .i64 (q : Int)] w fun e w' => e = .returned (.string X) ∧ Below w.heap.size w w') := Lib.hid (by rw [← hX]; exact ih)
  clear ih h8 hl
  have e1 : (u : Int).tdiv 8 = (q : Int) := by rw [Int.tdiv_eq_ediv_of_nonneg (by omega)]; omega
  have e2 : (u : Int).tmod 8 = (d : Int) := by rw [Int.tmod_eq_emod_of_nonneg (by omega)]; omega
  have e3 : IntKind.i64.wrap (q : Int) = (q : Int) := IntWalk.i64_in _ (by omega)
  have e4 : IntKind.i64.wrap (48 + (d : Int)) = 48 + (d : Int) := IntWalk.i64_in _ (by omega)
  have e5 : IntKind.u8.wrap (48 + (d : Int)) = 48 + (d : Int) := by rw [IntKind.wrap_u8]; omega
  have e6 : IntKind.i64.wrap (d : Int) = (d : Int) := IntWalk.i64_in _ (by omega)
  clear hq hd
  have hcv : ∀ W B, W.cell? ⟨B, 0, none⟩ = some (.int .u8 (48 + (d : Int))) → (convert 42 9 (.slice (some ⟨B, 0, none⟩) 1 1)).run Tryd.prog W = .ok (.string Y) W := fun W B h => by rw [← hY]; exact conv_one hd8 h
  clear hX hY
  go_enter Tryd.func18, Tryd.ntmps18
  go_wp2
  go_region_with (go_at_call 18; refine (ihH.out _).mono ?_; rintro e w1 ⟨rfl, hb⟩; obtain ⟨hc, hf⟩ := bcell hb; have hbH := Lib.hid hb; clear hb)
  all_goals
    clear e1 e2 e3 e4 e5 e6 hcv hc hf
    go_wp2
    go_ret
    refine ⟨by rw [hoX.out]; rfl, ?_⟩
    first
    | exact hbH.out.alloc hbH.out.size _
    | exact ((Below.refl _ _).alloc (Nat.le_refl _) _).trans (hbH.out.mono (by simp))
    | exact (((Below.refl _ _).drew).trans hbH.out).alloc hbH.out.size _
    | exact ((Below.refl _ _).drew.alloc (Nat.le_refl _) _).trans (hbH.out.mono (by simp))

theorem refOct_any (f : Nat) : ∀ (u : Nat) (w : World), u ≤ f → u < 9223372036854775808 → Calls Tryd.prog 18 #[.int .i64 u] w (OctR u w) := by
  induction f with
  | zero =>
    intro u w h hu
    exact refOct_small u (by omega) w
  | succ f ih =>
    intro u w h hu
    by_cases h8 : u < 8
    · exact refOct_small u h8 w
    · exact refOct_big u h8 hu w (fun w => ih (u / 8) w (by omega) (by omega))

set_option maxHeartbeats 1000000 in
theorem refOctal_any (n : Int) (h1 : n ≤ 9223372036854775807) (w : World) :
    Calls Tryd.prog 18 #[.int .i64 n] w fun e w' => e = .returned (.string (octT n)) ∧ Below w.heap.size w w' := by
  unfold octT
  by_cases h0 : n < 0
  · rw [if_pos h0]
    go_enter Tryd.func18, Tryd.ntmps18
    go_wp2
    go_ret
    exact ⟨rfl, Below.refl _ _⟩
  · obtain ⟨u, rfl⟩ := Int.eq_ofNat_of_zero_le (show 0 ≤ n by omega)
    rw [if_neg h0]
    exact refOct_any u u w (Nat.le_refl _) (by omega)

/-- What is written is read. -/
theorem v8_oct (n : Nat) : ∀ u : Nat, u < 8 ^ (n + 1) → v8 (oct u) = u ∧ (oct u).all dO = true := by
  have hd : ∀ d : Nat, d < 8 → (UInt8.ofNat (48 + d)).toNat = 48 + d := fun d h => UInt8.toNat_ofNat_of_lt' (by show 48 + d < 256; omega)
  induction n with
  | zero =>
    intro u h
    have h8 : u < 8 := by simpa using h
    rw [oct_lt h8]
    refine ⟨?_, ?_⟩
    · show 0 * 8 + ((UInt8.ofNat (48 + u)).toNat - 48) = u
      rw [hd u h8]; omega
    · rw [List.all_cons, List.all_nil, Bool.and_true]; exact (dO_iff _).2 (by rw [hd u h8]; omega)
  | succ n ih =>
    intro u h
    by_cases h8 : u < 8
    · exact ih u (Nat.lt_of_lt_of_le h8 (by have := Nat.pow_le_pow_right (show 1 ≤ 8 by omega) (show 1 ≤ n + 1 by omega); simpa using this))
    · rw [oct_ge h8]
      have := ih (u / 8) (by rw [Nat.pow_succ] at h; omega)
      refine ⟨?_, ?_⟩
      · rw [v8_snoc, this.1, hd (u % 8) (by omega)]; omega
      · rw [List.all_append, this.2, Bool.true_and, List.all_cons, List.all_nil, Bool.and_true]; exact (dO_iff _).2 (by rw [hd (u % 8) (by omega)]; omega)

theorem octT_size (n : Int) (h : n ≤ 9223372036854775807) : (octT n).size ≤ 100 := by
  unfold octT
  split
  · exact Nat.zero_le _
  · have := (oct_len 20 n.toNat (by omega)).1
    show (oct n.toNat).toArray.size ≤ 100
    simp; omega
theorem back_ok (n : Int) (h0 : 0 ≤ n) (h1 : n < 262144) : okO (octT n).data.toList = true ∧ (valO (octT n).data.toList : Int) = n := by
  have e : (octT n).data.toList = oct n.toNat := by unfold octT; rw [if_neg (by omega)]
  rw [e]
  have hl := oct_len 5 n.toNat (by omega)
  have hv := v8_oct 5 n.toNat (by omega)
  obtain ⟨h, h2⟩ := okO_good hl.2 (by omega) hv.2
  exact ⟨h, by rw [h2, hv.1]; omega⟩

set_option maxRecDepth 100000 in
set_option maxHeartbeats 1000000 in
theorem octetOctals_w (n : Int) (s : ByteArray) (w : World) (wn : (Lit.int .i64 n).wf = true) (z : s.data.toList.length ≤ reachBytes) (hg : Gl w ∧ Bit8 w) :
    Calls Tryd.prog 4 #[.int .i64 n, .string s] w fun e w' => e = .returned (.bool true) ∧ Below w.heap.size w w' := by
  obtain ⟨h0, h1⟩ := i64_of wn
  have hz : s.size ≤ 140737488351232 := by rw [Lib.size_eq]; exact z
  have h8 := hg.2.size
  have hgH := Lib.hid hg
  obtain ⟨T, hT⟩ : ∃ T, octT n = T := ⟨_, rfl⟩
  have hTs : T.size ≤ 100 := by rw [← hT]; exact octT_size n h1
  have hTH := Lib.hid hT
  obtain ⟨V, hV⟩ : ∃ V : Nat, valO s.data.toList = V := ⟨_, rfl⟩
  obtain ⟨O, hO⟩ : ∃ O, okO s.data.toList = O := ⟨_, rfl⟩
  obtain ⟨M, hM⟩ : ∃ M : Nat, valO T.data.toList = M := ⟨_, rfl⟩
  obtain ⟨K, hK⟩ : ∃ K, okO T.data.toList = K := ⟨_, rfl⟩
  have hback : Hid (0 ≤ n → n < 262144 → K = true ∧ (M : Int) = n) := Lib.hid (fun a b => by rw [← hM, ← hK, ← hT]; exact back_ok n a b)
  have c1 : Hid (∀ w, Bit8 w → Calls Tryd.prog 15 #[.int .i64 n] w fun e w' => e = .returned (.string T) ∧ Below w.heap.size w w') := Lib.hid (fun w g => by rw [← hT]; exact octal_any n h1 w g)
  have c2 : Hid (∀ w, Calls Tryd.prog 16 #[.string s] w fun e w' => e = .returned (.tuple #[.int .i64 (V : Int), .bool O]) ∧ w = w') := Lib.hid (fun w => by rw [← hV, ← hO]; exact fromOctal_any s w (by unfold maxLen; omega))
  have c3 : Hid (∀ w, Calls Tryd.prog 17 #[.string s] w fun e w' => e = .returned (.tuple #[.int .i64 (V : Int), .bool O]) ∧ w = w') := Lib.hid (fun w => by rw [← hV, ← hO]; exact refFromOctal_any s w (by unfold maxLen; omega))
  have c4 : Hid (∀ w, Calls Tryd.prog 18 #[.int .i64 n] w fun e w' => e = .returned (.string T) ∧ Below w.heap.size w w') := Lib.hid (fun w => by rw [← hT]; exact refOctal_any n h1 w)
  have c5 : Hid (∀ w, Calls Tryd.prog 16 #[.string T] w fun e w' => e = .returned (.tuple #[.int .i64 (M : Int), .bool K]) ∧ w = w') := Lib.hid (fun w => by rw [← hM, ← hK]; exact fromOctal_any T w (by unfold maxLen; omega))
  clear hT hV hO hM hK hg z wn
  go_enter Tryd.func4, Tryd.ntmps4
  go_wp2_with fail
  refine (awake_any _ hgH.out.1).mono ?_
  rintro e w1 ⟨rfl, hb⟩
  have B1 := Lib.hid hb
  clear hb
  go_wp2_with fail
  refine (c1.out _ (hgH.out.2.below B1.out h8)).mono ?_
  rintro e w2 ⟨rfl, hb⟩
  have B2 := Lib.hid (B1.out.trans (hb.mono B1.out.size))
  clear hb
  go_wp2_with fail
  refine (c2.out _).mono ?_
  rintro e w3 ⟨rfl, rfl⟩
  go_wp2_with fail
  refine (c3.out _).mono ?_
  rintro e w3 ⟨rfl, rfl⟩
  go_wp2_with fail
  refine (c4.out _).mono ?_
  rintro e w3 ⟨rfl, hb⟩
  have B3 := Lib.hid (B2.out.trans (hb.mono B2.out.size))
  clear hb
  go_wp2_with fail
  refine (c5.out _).mono ?_
  rintro e w4 ⟨rfl, rfl⟩
  by_cases g0 : n < 0
  · go_wp2
    go_ret
    exact ⟨rfl, B3.out⟩
  · by_cases g1 : 262144 ≤ n
    · go_wp2
      go_ret
      exact ⟨rfl, B3.out⟩
    · obtain ⟨rfl, hm⟩ := hback.out (by omega) (by omega)
      have hmb : ((M : Int) == n) = true := by simpa using hm
      clear hm
      go_wp2
      go_ret
      exact ⟨rfl, B3.out⟩
end Go.Proofs.YtgadnlnclpoeaaaDoor
