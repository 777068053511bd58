/- SplitBack's walk. Condition: lengths. -/
import Derived.Test.YtlaidmjlgjpgcaaSplJ
import Derived.Deep.DeepCutAuto
import Derived.Deep.CutBlock
import Derived.BigQuiet
import Derived.Laws.IdiomStrings
import Derived.Deep.RegionHeld3
namespace Go.Proofs.Ytlaidmjlgjpgcaa
open Go.RowKit
attribute [local go_sem] Oper.semAt_some

theorem PcsAt.mono {n₀ m : Nat} {W : World} {av : Option Addr} {ps : List Pc} (h : PcsAt n₀ W av ps) (hm : n₀ ≤ m) : PcsAt m W av ps := fun i p hp => by
  obtain ⟨b, off, e, hlt, h⟩ := h i p hp
  exact ⟨b, off, e, Nat.lt_of_lt_of_le hlt hm, h⟩
/-- Texts that came in. -/
def StrsAt (n₀ : Nat) (W : World) (av : Option Addr) (ts : List ByteArray) : Prop :=
  ∀ i t, ts[i]? = some t → ∃ b off, av = some ⟨b, off, none⟩ ∧ b < n₀ ∧ W.cell? ⟨b, off + i, none⟩ = some (.string t) ∧ t.size ≤ 140737488355328
theorem StrsAt.below {n₀ : Nat} {W W' : World} {av : Option Addr} {ts : List ByteArray} (h : StrsAt n₀ W av ts) (hb : Below n₀ W W') : StrsAt n₀ W' av ts := fun i t hp => by
  obtain ⟨b, off, e, hlt, c0, hs⟩ := h i t hp
  exact ⟨b, off, e, hlt, (hb.cell (p := ⟨b, off + i, none⟩) hlt).trans c0, hs⟩

theorem run_one (W : World) (g : Nat) (b : UInt8) (h : W.cell? ⟨g, 0, none⟩ = some (.int .u8 (b.toNat : Int))) : (convert 35 9 (.slice (some ⟨g, 0, none⟩) 1 1)).run Try.prog W = .ok (.string ⟨#[b]⟩) W :=
  run_convert_bytes_back W 35 9 5 ⟨g, 0, none⟩ 1 [b] Try.underlying35 Try.underlying5 Try.underlying9 (fun j hj => by
    obtain rfl : j = 0 := by simpa using hj
    exact h)

set_option maxHeartbeats 4000000 in
set_option maxRecDepth 100000 in
theorem splitBack_walk (av : Option Addr) (n cv : Nat) (ts : List ByteArray) (b : UInt8) (w : World) (hn : ts.length = n) (hS : StrsAt w.heap.size w av ts) :
    Calls Try.prog 12 #[.slice av n cv, .int .u8 (b.toNat : Int)] w fun e w' => e = .returned (.bool true) ∧ Below w.heap.size w w' := by
  have hnH := Lib.hid hn
  have hSH := Lib.hid hS
  clear hn hS
  obtain ⟨n₀, hn₀⟩ : ∃ n₀, w.heap.size = n₀ := ⟨_, rfl⟩
  rw [hn₀] at hSH ⊢
  have hn₀H := Lib.hid hn₀
  go_enter Try.func12, Try.ntmps12
  go_wp2_with fail
  refine (awake_any w).mono ?_
  rintro e w1 ⟨rfl, hB1⟩
  rw [hn₀] at hB1
  have hB1H := Lib.hid hB1
  clear hB1 hn₀
  have hB0 : Hid (StrsAt n₀ w1 av ts) := Lib.hid (hSH.out.below hB1H.out)
  go_wp2_with fail
  all_goals first | (go_ret; exact ⟨rfl, hB1H.out⟩; done) | skip
  · rename_i g1 g2 g3 g4 _ _
    have h100 : n ≤ 100 := by omega
    have hbl : Hid (isBlank b = false) := Lib.hid (by
      have g5 : ¬ (b.toNat : Int) = 32 := fun e => by have := g4.2; rw [e] at this; cases this
      unfold isBlank; exact decide_eq_false (by omega))
    clear g1 g2 g3 g4
    obtain ⟨o, ho⟩ : ∃ o : ByteArray, ⟨#[b]⟩ = o := ⟨_, rfl⟩
    have hoz : o.size = 1 := by rw [← ho]; rfl
    have hol : Hid (o.data.toList = [b]) := Lib.hid (by rw [← ho])
    have hone : Hid (∀ (W : World) (g : Nat), W.cell? ⟨g, 0, none⟩ = some (.int .u8 (b.toNat : Int)) → (convert 35 9 (.slice (some ⟨g, 0, none⟩) 1 1)).run Try.prog W = .ok (.string o) W) := Lib.hid (fun W g h => by rw [← ho]; exact run_one W g b h)
    have hoH := Lib.hid ho
    clear ho
    go_loopw [31, 5] (fun s31 s5 wr => ∃ (k : Nat) (S : ByteArray), k ≤ n ∧ s31 = .int .i64 k ∧ s5 = .string S ∧ S.data.toList = catOf b (ts.take k) ∧ (∀ t ∈ ts.take k, ∀ c ∈ t.data.toList, c ≠ b) ∧ Below n₀ w wr) (fun s31 _ _ => n - (intOf s31).toNat)
    case atStart => exact ⟨0, ⟨#[]⟩, Nat.zero_le _, rfl, rfl, rfl, by simp, hB1H.out⟩
    case round =>
      obtain ⟨k, S, hk, rfl, rfl, hS, hno, hbel⟩ := hrel
      have hSz : S.size ≤ 100 * (140737488355328 + 1) := by
        have h1 := catOf_len b (ts.take k) 140737488355328 (fun t ht => by
          obtain ⟨i, hi⟩ := List.getElem?_of_mem (List.mem_of_mem_take ht)
          obtain ⟨_, _, _, _, _, h⟩ := hSH.out i t hi
          exact h)
        rw [← hS, Array.length_toList] at h1
        have h2 : (ts.take k).length ≤ 100 := by rw [List.length_take, hnH.out]; omega
        have h3 := Nat.mul_le_mul_right (140737488355328 + 1) h2
        exact Nat.le_trans h1 h3
      have hwr := hbel.size
      by_cases hlt : k < n
      · obtain ⟨t, ht⟩ : ∃ t, ts[k]? = some t := ⟨_, List.getElem?_eq_getElem (by rw [hnH.out]; exact hlt)⟩
        obtain ⟨g, off, rfl, hg, c0, hts⟩ := hSH.out k t ht
        have d0 := (hbel.cell (p := ⟨g, off + k, none⟩) hg).trans c0
        have hlt' : (k : Int) < (n : Int) := by omega
        have hbelH := Lib.hid hbel
        have hnoH := Lib.hid hno
        have htH := Lib.hid ht
        have hSHd := Lib.hid hS
        clear hbel hno ht c0 hS
        go_wp2_with fail
        go_loopw [8] (fun s8 wx => ∃ i : Nat, i ≤ t.size ∧ s8 = .int .i64 i ∧ (∀ j c, j < i → t.data.toList[j]? = some c → c ≠ b) ∧ wr = wx) (fun s8 _ => t.size - (intOf s8).toNat)
        case atStart => exact ⟨0, Nat.zero_le _, rfl, fun j c hj => absurd hj (by omega), rfl⟩
        case round =>
          obtain ⟨i, hi, rfl, hne, rfl⟩ := hrel
          by_cases hil : i < t.size
          · have hil' : (i : Int) < (t.size : Int) := by omega
            have hneH := Lib.hid hne
            clear hne
            by_cases heq : (t[i].toNat : Int) = (b.toNat : Int)
            · go_wp2_with fail
              go_ret
              exact ⟨rfl, hbelH.out⟩
            · go_wp2_with fail
              go_roundw
              case rel => exact ⟨i + 1, by omega, by go_num, fun j c hj hc => by
                by_cases e : j < i
                · exact hneH.out j c e hc
                · obtain rfl : j = i := by omega
                  intro e2
                  subst e2
                  refine heq ?_
                  obtain ⟨h1, h2⟩ := List.getElem?_eq_some_iff.1 hc
                  have h3 : t[j] = t.data.toList[j] := by simp; rfl
                  rw [h3, h2], trivial⟩
              case measure => simp [intOf]; omega
          · have hil' : ¬ (i : Int) < (t.size : Int) := by omega
            have hneH := Lib.hid hne
            clear hne
            have z1 : ¬ 9223372036854775807 < t.size + o.size := by omega
            have z2 : ¬ 9223372036854775807 < S.size + (t.size + o.size) := by omega
            go_wp2_with fail
            rw [hone.out _ _ (Boxed.new _ _ _).cell]
            simp only [Result.andThen]
            rw [Oper.upon_value]
            go_wp2_with fail
            go_roundw
            case rel =>
              have htk : ts.take (k + 1) = ts.take k ++ [t] := by
                obtain ⟨h1, h2⟩ := List.getElem?_eq_some_iff.1 htH.out
                rw [List.take_succ_eq_append_getElem h1, h2]
              refine ⟨k + 1, S ++ (t ++ o), by omega, by go_num, rfl, ?_, ?_, hbelH.out.alloc (by have := hn₀H.out; omega) _⟩
              · rw [htk, catOf_snoc, ← hSHd.out, ByteArray.data_append, ByteArray.data_append, Array.toList_append, Array.toList_append, hol.out]
              · intro u hu c hc
                rw [htk] at hu
                rcases List.mem_append.1 hu with hu | hu
                · exact hnoH.out u hu c hc
                · rw [List.mem_singleton.1 hu] at hc
                  obtain ⟨j, hj⟩ := List.getElem?_of_mem hc
                  have hjl := (List.getElem?_eq_some_iff.1 hj).1
                  rw [Array.length_toList] at hjl
                  exact hneH.out j c (by have e : t.size = t.data.size := rfl; omega) hj
            case measure => simp [intOf]; omega
      · have hlt' : ¬ (k : Int) < (n : Int) := by omega
        obtain rfl : k = n := by omega
        rw [← hnH.out, List.take_length] at hno hS
        have hbelH := Lib.hid hbel
        by_cases hbig : (2000 : Int) < (S.size : Int)
        · clear hno hS hbel
          go_wp2_with fail
          go_ret
          exact ⟨rfl, hbelH.out⟩
        · have hSl : (catOf b ts).length ≤ 2000 := by
            rw [← hS, Array.length_toList]
            have e : S.size = S.data.size := rfl
            omega
          have hF := back_fields b hbl.out ts hno (by rw [hnH.out]; exact h100) hSl S hS
          obtain ⟨W0, hW0⟩ : ∃ W0, (wr.alloc (.cells #[.string S, .bool false, .bool true] 39)).alloc (.cells #[.int .u8 (b.toNat : Int)] 5) = W0 := ⟨_, rfl⟩
          have hP : PcsAt W0.heap.size W0 (some ⟨wr.heap.size, 0, none⟩) [⟨S, false, true⟩] := by
            rw [← hW0]
            exact ((pcs_one wr ⟨S, false, true⟩ (by show S.size ≤ _; omega)).below ((Below.refl _ _).alloc (by simp) _)).mono (by simp)
          have hone0 : W0.cell? ⟨wr.heap.size + 1, 0, none⟩ = some (.int .u8 (b.toNat : Int)) := by
            have x := (Boxed.new (wr.alloc (.cells #[.string S, .bool false, .bool true] 39)) 5 (.int .u8 (b.toNat : Int))).cell
            rw [World.size_alloc, hW0] at x
            exact x
          have hBW : Below n₀ w W0 := by rw [← hW0]; exact (hbel.alloc (by have := hn₀H.out; omega) _).alloc (by have := hn₀H.out; simp; omega) _
          have hf := fields_any o (some ⟨wr.heap.size, 0, none⟩) 1 [⟨S, false, true⟩] (by simp) W0 hP
          rw [← hoH.out, hF, hoH.out] at hf
          have hfH := Lib.hid hf
          have hBWH := Lib.hid hBW
          clear hf hP hF hno hS hbel hBW
          go_wp2_with fail
          rw [hone.out W0 (wr.heap.size + 1) hone0]
          simp only [Result.andThen]
          rw [Oper.upon_value]
          clear hW0 hone0
          go_wp2_with fail
          refine hfH.out.mono ?_
          rintro e w4 ⟨hB4, ⟨L, v, hL, rfl, hv⟩ | ⟨hL, rfl⟩⟩
          · have hL' := Option.some.inj hL
            have hLl : L.length = k := by rw [← hL', List.length_map, hnH.out]
            obtain ⟨av', cv', rfl, hcv, hget⟩ := hv.get
            rw [hLl] at hcv ⊢
            have hBn : Below n₀ w w4 := hBWH.out.trans (hB4.mono (by have := hBWH.out.size; have := hn₀H.out; omega))
            have hn4 : n₀ ≤ w4.heap.size := by have := hBn.size; have := hn₀H.out; omega
            have hT : Hid (∀ j t, ts[j]? = some t → ∃ g u, av' = some ⟨g, 0, none⟩ ∧ g < w4.heap.size ∧ w4.cell? ⟨g, j, none⟩ = some u ∧
                ∀ W, Below w4.heap.size w4 W → Calls Try.prog 29 #[u] W fun e w' => e = .returned (.string t) ∧ Below w4.heap.size w4 w') := Lib.hid (fun j t ht => by
              have hj : L[j]? = some (fld t.data.toList) := by rw [← hL', List.getElem?_map, ht]; rfl
              obtain ⟨g, u, hg, hgl, _, hc, hown⟩ := hget j _ hj
              refine ⟨g, u, hg, hgl, hc, fun W hW => (text_any u _ W (own_blk hown (fun q hq => hW.block q (hown.lt q hq).2)) ?_).mono ?_⟩
              · rw [fld_len, Array.length_toList]
                have := catOf_mem b ts t (List.mem_of_getElem? ht)
                have e : t.size = t.data.size := rfl
                omega
              · rintro e w' ⟨rfl, hb⟩
                rw [txt_fld]
                exact ⟨rfl, hW.trans (hb.mono hW.size)⟩)
            have hBnH := Lib.hid hBn
            clear hv hget hB4 hBn hfH hL' hL hLl
            go_wp2_with fail
            go_loopw [78] (fun s78 wx => ∃ j : Nat, j ≤ k ∧ s78 = .int .i64 j ∧ Below w4.heap.size w4 wx) (fun s78 _ => k - (intOf s78).toNat)
            case atStart => exact ⟨0, Nat.zero_le _, rfl, Below.refl _ _⟩
            case round =>
              obtain ⟨j, hj, rfl, hbx⟩ := hrel
              by_cases hjl : j < k
              · obtain ⟨t, ht⟩ : ∃ t, ts[j]? = some t := ⟨_, List.getElem?_eq_getElem (by rw [hnH.out]; exact hjl)⟩
                obtain ⟨g, off, rfl, hg, c0, hts⟩ := hSH.out j t ht
                obtain ⟨g', u, rfl, hg', c1, hcall⟩ := hT.out j t ht
                have c2 := (hBnH.out.cell (p := ⟨g, off + j, none⟩) hg).trans c0
                have hjl' : (j : Int) < (k : Int) := by omega
                have hS : Hid (∀ W, Below w4.heap.size w4 W → W.cell? ⟨g', j, none⟩ = some u ∧ W.cell? ⟨g, off + j, none⟩ = some (.string t)) := Lib.hid (fun W hW =>
                  ⟨(hW.cell (p := ⟨g', j, none⟩) hg').trans c1, (hW.cell (p := ⟨g, off + j, none⟩) (Nat.lt_of_lt_of_le hg hn4)).trans c2⟩)
                have hcH := Lib.hid hcall
                have hbxH := Lib.hid hbx
                clear c0 c1 c2 hcall hbx
                go_upto_region 24 with fail
                go_region_held3 (fun W => W.cell? ⟨g', j, none⟩ = some u ∧ W.cell? ⟨g, off + j, none⟩ = some (.string t)) (first | exact hS.out _ hbxH.out.drew | exact hS.out _ hb5) (first | (go_at_call 29; refine (hcH.out _ hbxH.out.drew).mono ?_; rintro e w5 ⟨rfl, hb5⟩))
                have hb5H := Lib.hid hb5
                clear hb5
                go_wp2_with fail
                go_roundw
                case rel => exact ⟨j + 1, by omega, by go_num, hb5H.out⟩
                case measure => simp [intOf]; omega
              · have hjl' : ¬ (j : Int) < (k : Int) := by omega
                have hbxH := Lib.hid hbx
                clear hbx
                go_wp2_with fail
                go_ret
                exact ⟨rfl, hBnH.out.trans (hbxH.out.mono hn4)⟩
          · cases hL
end Go.Proofs.Ytlaidmjlgjpgcaa
