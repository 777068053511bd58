/- The walk of the law VarsExports: true at every input whose texts can be. No condition but the texts' sizes. -/
import Derived.Test.YtklepnldoajghaaVarBC
import Derived.Test.YtklepnldoajghaaVarAD
namespace Go.Proofs.Ytklepnldoajghaa
open Go.RowKit Go.PlainAid
attribute [local go_sem] Oper.semAt_some

theorem name_cut (n v : ByteArray) : (n ++ (⟨#[61]⟩ : ByteArray) ++ v).extract 0 ((n ++ (⟨#[61]⟩ : ByteArray) ++ v).size - v.size - 1) = n := by
  have hs : (n ++ (⟨#[61]⟩ : ByteArray) ++ v).size - v.size - 1 = n.size := by rw [ByteArray.size_append, ByteArray.size_append]; show n.size + 1 + v.size - v.size - 1 = _; omega
  rw [hs]
  apply ByteArray.ext
  apply Array.toList_inj.1
  rw [Lib.extract_data, List.drop_zero, Nat.sub_zero, ByteArray.data_append, ByteArray.data_append, Array.toList_append, Array.toList_append, List.append_assoc, List.take_left']
  rfl

set_option maxRecDepth 100000 in
set_option maxHeartbeats 1000000 in
theorem exports_out (A : Option Addr) (n c : Nat) (v : ByteArray) (w : World) (hn : n ≤ maxLen) (hv : v.size ≤ maxLen) (h : (40 : Int) < n ∨ (1000 : Int) < v.size) :
    Calls Try.prog 7 #[.slice A n c, .string v] w fun e w' => e = .returned (.bool true) ∧ Below w.heap.size w w' := by
  unfold maxLen at hn hv
  by_cases h1 : (40 : Int) < n
  · clear h
    go_enter Try.func7, Try.ntmps7
    go_wp2_with (go_at_call 8; refine (awake_any _).mono ?_; rintro e w1 ⟨rfl, hB1⟩)
    go_ret
    exact ⟨rfl, hB1⟩
  · have h2 : (1000 : Int) < v.size := by omega
    clear h
    go_enter Try.func7, Try.ntmps7
    go_wp2_with (go_at_call 8; refine (awake_any _).mono ?_; rintro e w1 ⟨rfl, hB1⟩)
    go_ret
    exact ⟨rfl, hB1⟩

set_option maxRecDepth 100000 in
set_option maxHeartbeats 4000000 in
theorem exports_walk (A : Option Addr) (len cap : Nat) (v : ByteArray) (K : List ByteArray) (w : World) (hK : K.length = len) (hL : LsAt w A K) (hlen : len ≤ 40) (hv : v.size ≤ 1000) (hz : ∀ x ∈ K, x.size ≤ 140737488355328) :
    Calls Try.prog 7 #[.slice A len cap, .string v] w fun e w' => e = .returned (.bool true) ∧ Below w.heap.size w w' := by
  obtain ⟨n₀, hn₀⟩ : ∃ n₀, w.heap.size = n₀ := ⟨_, rfl⟩
  rw [hn₀]
  have hnH := Lib.hid hn₀
  have hKH := Lib.hid hK
  have hLH := Lib.hid hL
  have hzH := Lib.hid hz
  have h1 : ¬ (40 : Int) < len := by omega
  have h2 : ¬ (1000 : Int) < v.size := by omega
  have hmm := @run_makeMap Try.prog
  clear hn₀ hK hL hz
  go_enter Try.func7, Try.ntmps7
  go_wp2_with (go_at_call 8; refine (awake_any _).mono ?_; rintro e w1 ⟨rfl, hB1⟩; rw [hnH.out] at hB1; have hz1 := hB1.size; rw [hnH.out] at hz1; have hB1H := Lib.hid hB1; clear hB1)
  refine (fixed_new n₀ w w1 hB1H.out hz1).mono ?_
  rintro e w2 ⟨p, rfl, hV2, hB2, hz2⟩
  have hX2 := Lib.hid (x_begin (v := v) hV2 hB2 hz2)
  clear hV2 hB2
  go_wp2_with fail
  obtain ⟨m, hm⟩ : ∃ m, w2.heap.size = m := ⟨_, rfl⟩
  rw [hm] at hX2 ⊢
  clear hm
  go_loopw [28] (fun i wr => ∃ k : Nat, k ≤ len ∧ i = .int .i64 k ∧ Hid (∃ L nm, X n₀ w wr p m v L nm (has (exN L)) (exN L).length ∧ L.length ≤ k ∧ nm ≤ k)) (fun i _ => len - (intOf i).toNat)
  case atStart => exact ⟨0, Nat.zero_le _, rfl, Lib.hid ⟨[], 0, hX2.out, Nat.le_refl _, Nat.le_refl _⟩⟩
  case round =>
    obtain ⟨k, hk, rfl, hR⟩ := hrel
    obtain ⟨L, nm, hX, hLk, hnk⟩ := hR.out
    have hX0 := Lib.hid hX
    clear hR hX hX2 hB1H
    by_cases hlt : k < len
    · obtain ⟨n, hn⟩ : ∃ n, K[k]? = some n := ⟨_, List.getElem?_eq_getElem (by rw [hKH.out]; exact hlt)⟩
      obtain ⟨b, off, rfl, hbl, c0⟩ := (hLH.out.below (by rw [hnH.out]; exact hX0.out.below)) k n hn
      have hns := hzH.out n (List.mem_of_getElem? hn)
      have hnmax : n.size ≤ maxLen := by unfold maxLen; omega
      have hi : (k : Int) < (len : Int) := by omega
      clear hn
      go_wp2_with fail
      refine (x_set n hX0.out (by omega) hns hv).mono ?_
      rintro e w4 ⟨rfl, L1, hX1', he1, hl1, hh1⟩
      rw [← he1] at hX1'
      have hX1 := Lib.hid hX1'
      clear hX1' he1 hX0
      cases hnm : isName n with
      | false =>
        have hnmH := Lib.hid hnm
        clear hnm hh1
        rw [if_neg (by simp)]
        clear c0
        go_wp2_with fail
        go_roundw
        case rel => exact ⟨k + 1, by omega, by go_num, Lib.hid ⟨L1, nm, hX1.out, by omega, by omega⟩⟩
        case measure => simp [intOf]; omega
      | true =>
        have hh1H := Lib.hid (hh1 hnm)
        have hnmH := Lib.hid hnm
        clear hnm hh1
        rw [if_pos rfl]
        clear c0
        obtain e2 | e2 : ((k : Int) % 2 == 0) = true ∨ ((k : Int) % 2 == 0) = false := by cases (k : Int) % 2 == 0 <;> simp
        · obtain e5 | e5 : ((k : Int) % 5 == 4) = true ∨ ((k : Int) % 5 == 4) = false := by cases (k : Int) % 5 == 4 <;> simp
          · go_wp2_with fail
            refine (x_mark n hX1.out hns hnmH.out hh1H.out).mono ?_
            rintro e w5 ⟨E, rfl, L2, hX2, hS2, hc2, hl2⟩
            obtain ⟨w6, hrun6, hM6, hg6⟩ := hX2.map.put n hnmax (by unfold maxLen; omega)
            have hX6 : X n₀ w w6 p m v L2 (nm + 1) (has (exN L2)) (exN L2).length := hX2.mapped ((by rw [hc2]; exact hM6.congr hS2)) hg6
            have hrunH := Lib.hid hrun6
            have hXa := Lib.hid hX6
            clear hX2 hS2 hc2 hrun6 hM6 hg6 hX6
            go_wp2_with (simp only [hrunH.out, Result.andThen_ok])
            refine (x_unset n hXa.out hns hnmH.out).mono ?_
            rintro e w7 ⟨E, rfl, L3, hX3, hS3, hc3, hl3⟩
            obtain ⟨w8, c8, hrun8, hM8, hcc8, hg8⟩ := hX3.map.del n hnmax 0
            have hX8 : X n₀ w w8 p m v L3 (nm + 1) (has (exN L3)) (exN L3).length := hX3.mapped ((by rw [show (exN L3).length = c8 by omega]; exact hM8.congr hS3)) hg8
            have hrun8H := Lib.hid hrun8
            have hXb := Lib.hid hX8
            clear hX3 hS3 hc3 hrun8 hM8 hcc8 hg8 hX8
            go_wp2_with (simp only [hrun8H.out, Result.andThen_ok])
            go_roundw
            case rel => exact ⟨k + 1, by omega, by go_num, Lib.hid ⟨L3, (nm + 1), hXb.out, by omega, by omega⟩⟩
            case measure => simp [intOf]; omega
          · go_wp2_with fail
            refine (x_mark n hX1.out hns hnmH.out hh1H.out).mono ?_
            rintro e w5 ⟨E, rfl, L2, hX2, hS2, hc2, hl2⟩
            obtain ⟨w6, hrun6, hM6, hg6⟩ := hX2.map.put n hnmax (by unfold maxLen; omega)
            have hX6 : X n₀ w w6 p m v L2 (nm + 1) (has (exN L2)) (exN L2).length := hX2.mapped ((by rw [hc2]; exact hM6.congr hS2)) hg6
            have hrunH := Lib.hid hrun6
            have hXa := Lib.hid hX6
            clear hX2 hS2 hc2 hrun6 hM6 hg6 hX6
            go_wp2_with (simp only [hrunH.out, Result.andThen_ok])
            go_roundw
            case rel => exact ⟨k + 1, by omega, by go_num, Lib.hid ⟨L2, (nm + 1), hXa.out, by omega, by omega⟩⟩
            case measure => simp [intOf]; omega
        · obtain e5 | e5 : ((k : Int) % 5 == 4) = true ∨ ((k : Int) % 5 == 4) = false := by cases (k : Int) % 5 == 4 <;> simp
          · go_wp2_with fail
            refine (x_unset n hX1.out hns hnmH.out).mono ?_
            rintro e w7 ⟨E, rfl, L3, hX3, hS3, hc3, hl3⟩
            obtain ⟨w8, c8, hrun8, hM8, hcc8, hg8⟩ := hX3.map.del n hnmax 0
            have hX8 : X n₀ w w8 p m v L3 nm (has (exN L3)) (exN L3).length := hX3.mapped ((by rw [show (exN L3).length = c8 by omega]; exact hM8.congr hS3)) hg8
            have hrun8H := Lib.hid hrun8
            have hXb := Lib.hid hX8
            clear hX3 hS3 hc3 hrun8 hM8 hcc8 hg8 hX8
            go_wp2_with (simp only [hrun8H.out, Result.andThen_ok])
            go_roundw
            case rel => exact ⟨k + 1, by omega, by go_num, Lib.hid ⟨L3, nm, hXb.out, by omega, by omega⟩⟩
            case measure => simp [intOf]; omega
          · go_wp2_with fail
            go_roundw
            case rel => exact ⟨k + 1, by omega, by go_num, Lib.hid ⟨L1, nm, hX1.out, by omega, by omega⟩⟩
            case measure => simp [intOf]; omega
    · obtain rfl : k = len := by omega
      have hXm := hX0.out.map
      go_wp2_with fail
      refine (x_env hX0.out hv).mono ?_
      rintro e w5 ⟨v', rfl, hr5, hX5⟩
      have hsN := hX5.srt
      have hNl := exN_len L
      obtain ⟨N, hN⟩ : ∃ N, exN L = N := ⟨_, rfl⟩
      have hNs : Sorted N := by rw [← hN]; exact exN_sorted hsN
      have hsz : ∀ x ∈ N, x.size ≤ 140737488355328 := fun x hx => by
        rw [← hN] at hx
        obtain ⟨y, hy, _⟩ := mem_exN.1 hx
        obtain ⟨_, _, _, _, _, _, hvl, _⟩ := hX5
        exact (hvl _ hy).2.2.2
      rw [hN] at hr5 hX5 hNl
      obtain ⟨nl, hnl⟩ : ∃ nl, N.length = nl := ⟨_, rfl⟩
      rw [hnl] at hr5 hX5 hNl
      obtain ⟨av, cv, rfl⟩ := ownsRow_slice hr5
      have hr5H := Lib.hid hr5
      have hX5H := Lib.hid hX5
      have hNsH := Lib.hid hNs
      have hszH := Lib.hid hsz
      have hnlH := Lib.hid hnl
      clear hr5 hX5 hsN hNs hsz hN hXm hnl hX0
      go_wp2_with fail
      go_loop [9, 10, 58] (fun s9 s10 s58 => ∃ (j : Nat) (last : ByteArray), j ≤ nl ∧ s9 = .string last ∧ s10 = .int .i64 j ∧ s58 = .int .i64 j ∧ Hid (∀ i, j = i + 1 → N[i]? = some last)) (fun _ _ s58 => nl - (intOf s58).toNat)
      case atStart => exact ⟨0, _, Nat.zero_le _, rfl, rfl, rfl, Lib.hid (fun i hi => by omega)⟩
      case round =>
        obtain ⟨j, last, hj, rfl, rfl, rfl, hla⟩ := hrel
        by_cases hlt2 : j < nl
        · obtain ⟨n, hn⟩ : ∃ n, N[j]? = some n := ⟨_, List.getElem?_eq_getElem (by rw [hnlH.out]; exact hlt2)⟩
          have hr := hr5H.out
          rw [← hnlH.out, ← List.length_map (f := fun n => n ++ (⟨#[61]⟩ : ByteArray) ++ v)] at hr
          obtain ⟨g, cap', e1, _, hc, _, _⟩ := row_at kcs_len hr (i := j) (x := n ++ ⟨#[61]⟩ ++ v) (by rw [List.getElem?_map, hn]; rfl)
          rw [List.length_map, hnlH.out] at e1
          obtain rfl : av = some ⟨g, 0, none⟩ := by simp at e1; exact e1.1
          have c0 : w5.cell? ⟨g, j, none⟩ = some (.string (n ++ ⟨#[61]⟩ ++ v)) := by
            have := hc 0 _ rfl
            rwa [Nat.mul_one, Nat.add_zero] at this
          have hji : (j : Int) < (nl : Int) := by omega
          have hns := hszH.out n (List.mem_of_getElem? hn)
          have hx1 : (n ++ (⟨#[61]⟩ : ByteArray) ++ v).size = n.size + 1 + v.size := by rw [ByteArray.size_append, ByteArray.size_append]; rfl
          obtain ⟨x, hx⟩ : ∃ x, n ++ (⟨#[61]⟩ : ByteArray) ++ v = x := ⟨_, rfl⟩
          rw [hx] at c0 hx1
          have hxa : ¬ (x.size : Int) < (v.size : Int) + 1 := by omega
          have hxb : (x.size : Int) - v.size - 1 = n.size := by omega
          have hxc : (0 : Int) ≤ (x.size : Int) - v.size - 1 := by omega
          have hxd : (x.size : Int) ≤ 281474976800000 := by omega
          have hxH := Lib.hid hx
          have hx1H := Lib.hid hx1
          have hnH' := Lib.hid hn
          have hxbH := Lib.hid hxb
          have hex : x.extract 0 (x.size - v.size - 1) = n := by rw [← hx]; exact name_cut n v
          have hlook : (Instr.lookup 59 (.map (some m)) (.string n) false).run Try.prog w5 = .ok (.bool true) w5 := by
            have h := hX5H.out.map.look n (by unfold maxLen; omega)
            rwa [(has_iff hNsH.out).2 (List.mem_of_getElem? hn)] at h
          clear hx1 hn hr hc e1 hxb
          by_cases hj0 : j = 0
          · subst hj0
            go_wp2_with fail
            go_round
            case rel => exact ⟨1, n, by omega, rfl, rfl, rfl, Lib.hid (fun i hi => by obtain rfl : i = 0 := (by omega); exact hnH'.out)⟩
            case measure => simp [intOf]; omega
          · obtain ⟨i, rfl⟩ : ∃ i, j = i + 1 := ⟨j - 1, by omega⟩
            have hll := hla.out i rfl
            have hless : lt last n = true := by
              obtain ⟨i1, i2⟩ := List.getElem?_eq_some_iff.1 hll
              obtain ⟨i3, i4⟩ := List.getElem?_eq_some_iff.1 hnH'.out
              have := (List.pairwise_iff_getElem.1 hNsH.out) i (i + 1) i1 i3 (by omega)
              rw [i2, i4] at this
              exact this
            have hq1 : Op.bytesLess n.toList last.toList = false := by
              cases g : Op.bytesLess n.toList last.toList with
              | false => rfl
              | true =>
                have := lt_trans (a := last) (b := n) (c := last) hless g
                rw [lt_irrefl] at this
                cases this
            have hq2 : (n.toList == last.toList) = false := by
              cases g : n.toList == last.toList with
              | false => rfl
              | true =>
                have := toList_inj (eq_of_beq g)
                rw [this, lt_irrefl] at hless
                cases hless
            clear hll hless
            go_wp2_with fail
            go_round
            case rel => exact ⟨i + 1 + 1, n, by omega, rfl, by go_num, by go_num, Lib.hid (fun i' hi => by obtain rfl : i' = i + 1 := (by omega); exact hnH'.out)⟩
            case measure => simp [intOf]; omega
        · obtain rfl : j = nl := by omega
          have hlen' := hX5H.out.map.len
          go_wp2_with fail
          go_ret
          exact ⟨rfl, hX5H.out.below⟩
end Go.Proofs.Ytklepnldoajghaa
