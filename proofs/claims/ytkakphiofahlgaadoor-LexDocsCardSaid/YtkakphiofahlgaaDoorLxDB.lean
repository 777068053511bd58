/- The walk of LexDocs. Condition: the text is within reach. -/
import Derived.Test.YtkakphiofahlgaaDoorLxDA
import Derived.Test.YtkakphiofahlgaaDoorLxQR
namespace Go.Proofs.YtkakphiofahlgaaDoor
open Go.RowKit Go.Shelf Go.PlainAid
attribute [local go_sem] Oper.semAt_some

/-- Ahead of the loop: the body is closed. -/
def CutD (w : World) (s0 : Value) (wx : World) : Prop := ∃ B : ByteArray, s0 = .string B ∧ Closed B ∧ B.size ≤ 4001 ∧ w = wx
theorem closed_app (a : ByteArray) : Closed (a ++ ⟨#[10]⟩) := by
  right
  have hz : (a ++ ⟨#[10]⟩ : ByteArray).size = a.size + 1 := by rw [ByteArray.size_append]; rfl
  obtain ⟨c, c1, c2⟩ := bt_at (s := a ++ ⟨#[10]⟩) (i := a.size) (by omega)
  rw [hz, Nat.add_sub_cancel, c2]
  rw [ByteArray.data_append, Array.toList_append, List.getElem?_append_right (by rw [← Lib.size_eq]; exact Nat.le_refl _), ← Lib.size_eq, Nat.sub_self] at c1
  obtain rfl : (10 : UInt8) = c := by simpa using c1
  rfl
theorem str_em {a : ByteArray} (h : a.size ≠ 0) : a.toList.isEmpty = false := by
  have := str_ne h
  simpa using this
theorem str_em0 {a : ByteArray} (h : a.size = 0) : a.toList.isEmpty = true := by
  rw [size0 h, ByteArray.toList_eq]; rfl
/-- What a round finds; what a round that ends it all leaves. -/
def InvD (w0 : World) (pre : List Line) (W : World) : Prop := Below w0.heap.size w0 W ∧ ∀ x ∈ pre, x.1 ≠ tnC
def EndD (n₀ c : Nat) (w : World) (k : Code) (_ : List Line) (W : World) : Prop := k = .ret ∧ Below n₀ w W ∧ Blk W c 4 #[.bool true]
theorem invD_own {w0 : World} : OwnFrom w0.heap.size (InvD w0) := fun _ X Y row hs hg hr =>
  ⟨ownFrom_below (β := Unit) (n₀ := w0.heap.size) (Nat.le_refl _) (Nat.le_refl _) () X Y row hs.1 hg hr, hs.2⟩
theorem endD_own {n₀ c B : Nat} {w : World} (k : Code) (h1 : n₀ ≤ w.heap.size) (h2 : n₀ ≤ B) : OwnFrom B (EndD n₀ c w k) := fun _ X Y row hs hg hr =>
  ⟨hs.1, ownFrom_below (β := Unit) h1 h2 () X Y row hs.2.1 hg hr, blk_own B c _ _ () X Y row hs.2.2 hg hr⟩

set_option maxRecDepth 100000 in
set_option maxHeartbeats 4000000 in
theorem docs_in (b : ByteArray) (w : World) (hbz : b.size ≤ 150000000000000) : CallsIn Fence.wide 6 Tryd.prog 7 #[.string b] w fun e w' => e = .returned (.bool true) ∧ Below w.heap.size w w' := by
  refine callsIn_of_wp_marks Tryd.func7 rfl trivial ?_ rfl
  simp only [Tryd.ntmps7, List.size_toArray, List.length_cons, List.length_nil, Nat.reduceAdd, Nat.reduceSub, Array.replicate_succ, Array.replicate_zero, List.push_toArray, List.append_toArray, List.nil_append, List.cons_append]
  have hbt := get_bt b
  have hawH := Lib.hid (fun w => awake_any w)
  obtain ⟨c, hc⟩ : ∃ x, w.heap.size = x := ⟨_, rfl⟩
  obtain ⟨wA, hwA⟩ : ∃ x, w.alloc (.cells #[.bool false] 4) = x := ⟨_, rfl⟩
  have kc : Hid (Blk wA c 4 #[.bool false]) := Lib.hid (by rw [← hwA]; exact newB _ _ _ hc)
  have hbA : Hid (Below c w wA) := Lib.hid (by rw [← hwA]; exact (Below.refl _ _).alloc (by omega) _)
  have hsA : wA.heap.size = c + 1 := by rw [← hwA]; simp [hc]
  have hwH := Lib.hid hwA
  have hcH := Lib.hid hc
  clear hwA
  gi_upto_region 1 with fail
  rw [hwH.out]
  by_cases hbig : 4000 < b.size
  · have d1 : (4000 : Int) < (b.size : Int) := by omega
    gi_wp2_with (refine ⟨trivial, ?_⟩; gi_at_call 8; refine (callsIn_wide.2 (hawH.out _)).mono ?_; rintro e wB ⟨rfl, hbB⟩; have kB := blk_beneath kc.out hbB; have kBH := Lib.hid kB; have yB : wB.cell? ⟨c, 0, none⟩ = some (.bool false) := kB.cell 0; have fB : wB.frozen? ⟨c, 0, none⟩ = false := kB.frozen 0; have hbBH := Lib.hid (hbA.out.trans (below_of hbB (by omega))); clear kB hbB)
    have q : (wB.setCell ⟨c, 0, none⟩ (.bool true)).cell? ⟨c, 0, none⟩ = some (.bool true) := (kBH.out.set_ 0 _).cell 0
    exact ⟨.bool true, by simp [results, Tryd.results7, go_sem, q], rfl, by rw [hcH.out]; exact hbBH.out.setCell (p := ⟨c, 0, none⟩) (Nat.le_refl _) _⟩
  · have d1 : ¬ (4000 : Int) < (b.size : Int) := by omega
    gi_upto_region 5 with (refine ⟨trivial, ?_⟩; gi_at_call 8; refine (callsIn_wide.2 (hawH.out _)).mono ?_; rintro e wB ⟨rfl, hbB⟩; have kB := blk_beneath kc.out hbB; have kBH := Lib.hid kB; have hbBH := Lib.hid (hbA.out.trans (below_of hbB (by omega))); have hsB := hbB.size; clear kB hbB)
    gi_cut [23] from 14 (fun s23 wx => s23 = .bool (!(b.size == 0) && (bt b (b.size - 1) != 10)) ∧ wB = wx)
    case first =>
      by_cases h0 : b.size = 0
      · have hem := str_em0 h0
        have h0H := Lib.hid h0
        clear h0
        gi_wp2
        gi_meet
        exact ⟨by rw [h0H.out]; rfl, rfl⟩
      · have hne := str_ne h0
        have hne2 := str_em h0
        have h0H : Hid ((b.size == 0) = false) := Lib.hid (by simpa using h0)
        have hpos : 0 < b.size := by omega
        clear h0
        cases hE : bt b (b.size - 1) != 10
        all_goals
          have hE' := Lib.hid hE
          gi_wp2
          gi_meet
          refine ⟨?_, rfl⟩
          rw [h0H.out, hE'.out]; rfl
    case rest =>
      obtain ⟨rfl, rfl⟩ := hcut
      gi_upto_if 23 with fail
      gi_cut [0] from 14 (CutD wB)
      case first =>
        have hc1 : Hid ((!(b.size == 0) && (bt b (b.size - 1) != 10)) = false → CutD wB (.string b) wB) := Lib.hid (fun h => ⟨b, rfl, by
          unfold Closed
          by_cases h0 : b.size = 0
          · exact .inl h0
          · right
            simpa [h0] using h, by omega, rfl⟩)
        have hc2 : Hid (CutD wB (.string (b ++ ⟨#[10]⟩)) wB) := Lib.hid ⟨_, rfl, closed_app b, by rw [ByteArray.size_append]; show b.size + 1 ≤ _; omega, rfl⟩
        cases hE : (!(b.size == 0) && (bt b (b.size - 1) != 10))
        · have := Lib.hid (hc1.out hE)
          gi_wp2
          gi_meet
          exact this.out
        · gi_wp2
          gi_meet
          exact hc2.out
      case rest =>
        obtain ⟨B, rfl, hcl, hBz, rfl⟩ := hcut
        have hB1 : B.size ≤ 1000000 := by omega
        have htop := Lib.hid (top_docs hB1 (by omega) hcl)
        clear hcl hbt d1 hbig
        gi_wp2_with (refine ⟨trivial, ?_⟩; gi_at_call 12; refine (callsIn_wide.2 (lines_any B _)).mono ?_; rintro e w7 ⟨rfl, rfl⟩)
        obtain ⟨sB, hsBe⟩ : ∃ x, wB.heap.size = x := ⟨_, rfl⟩
        obtain ⟨W0, hW0⟩ : ∃ x, wB.alloc (.cells #[.string B] 9) = x := ⟨_, rfl⟩
        have kS : Blk W0 sB 9 #[.string B] := by rw [← hW0]; exact newB _ _ _ hsBe
        have hs0 : W0.heap.size = sB + 1 := by rw [← hW0]; simp [hsBe]
        have hb0 : Hid (Below c w W0) := Lib.hid (by rw [← hW0]; exact hbBH.out.alloc (by omega) _)
        have k0 : Hid (Blk W0 c 4 #[.bool false]) := Lib.hid (by rw [← hW0]; exact kBH.out.alloc _)
        have hcs : c < sB := by omega
        rw [hW0, hsBe]
        have hW0H := Lib.hid hW0
        clear hW0 hsBe hsB hsA
        apply wpIn_rangeFunc_ownF (n := 6) rfl (by omega) (gf := 18) (lb := #[.pointer (some ⟨sB, 0, none⟩)]) rfl trivial (enters_of Tryd.func18 (by kernel_rfl) rfl)
          (lines_stops 5 (by omega) sB c 1000000 B hB1 hB1 W0 (by omega) (kS.cell 0)) keepT_t (keepT_b (w := W0) (by omega) (by omega)) (Below.refl _ _) (fun _ => rfl)
          (InvD W0) (EndD c c w) invD_own (fun k => endD_own k (by omega) (by omega)) ⟨Below.refl _ _, by simp⟩ ?_ ?assign ?body ?done ?stop
        case assign =>
          intro l x W K hK
          gi_wp2
          exact hK
        case body =>
          rintro l pre x W ⟨hB, hno⟩ hlt
          have kW := (hB.block c (by omega)).trans k0.out
          have yW : W.cell? ⟨c, 0, none⟩ = some (.bool false) := Blk.cell kW 0
          have fW : W.frozen? ⟨c, 0, none⟩ = false := Blk.frozen kW 0
          have kWH := Lib.hid kW
          have hBH := Lib.hid hB
          have hnoH := Lib.hid hno
          clear kW hB hno hlt
          cases hE : (x.1.toList == [84, 72, 69, 32, 69, 78, 68, 10])
          · have hnx : Hid (∀ y ∈ pre ++ [x], y.1 ≠ tnC) := Lib.hid (fun y hy => by
              rcases List.mem_append.1 hy with h | h
              · exact hnoH.out y h
              · rw [List.mem_singleton.1 h]
                intro e
                rw [e, ByteArray.toList_eq] at hE
                exact absurd hE (by decide))
            gi_wp2
            exact ⟨KeepsOthers.refl _, ⟨Below.refl _ _, rfl⟩, hBH.out, hnx.out⟩
          · gi_wp2
            exact ⟨KeepsOthers.setCell _ _ _, rfl, (hb0.out.trans (below_of hBH.out (by omega))).setCell (p := ⟨c, 0, none⟩) (Nat.le_refl _) _, Blk.set_ kWH.out 0 _⟩
        case stop =>
          rintro D c2 pre W hD _ ⟨rfl, hbW, kW⟩ hK
          have z2 : Blk (W.putObj D (.deferred none)) c 4 #[.bool true] := (World.putObj_heap_other (by omega)).trans kW
          have q3 : (W.putObj D (.deferred none)).cell? ⟨c, 0, none⟩ = some (.bool true) := z2.cell 0
          have hKH := Lib.hid hK
          have hbH := Lib.hid hbW
          clear hbW kW hK z2
          gi_wp2
          refine ⟨by simp, .inl ⟨_, _, rfl, run_takeDeferred hKH.out, ?_⟩⟩
          refine ⟨.bool true, ?_, ?_⟩
          · simp [results, Tryd.results7, go_sem, q3]
          · exact ⟨rfl, by rw [hcH.out]; exact hbH.out.trans (belowK_b (w := w) (by rw [hcH.out]; exact Nat.le_refl _) _ D _ _ (by rw [hcH.out]; omega) hKH.out rfl rfl)⟩
        case done =>
          rintro D xs W hD rfl ⟨hB, hno⟩ hK
          have hres := htop.out hno
          have hln := fun W => Line_any (hdC ++ B ++ tlC) 0 W
          rw [hres] at hln
          obtain ⟨Z, hZ⟩ : ∃ Z, hdC ++ B ++ tlC = Z := ⟨_, rfl⟩
          obtain ⟨n, hn⟩ : ∃ n, Z.size = n := ⟨_, rfl⟩
          have hn30 : n = 30 + B.size := by rw [← hn, ← hZ]; exact z_size
          have hnx : ((26 + B.size : Nat) : Int) = (n : Int) - 4 := by omega
          rw [hZ] at hln
          simp only [hnx, show (dtks (dtk2.told B true)).length = 5 from rfl] at hln
          have hlnH := Lib.hid hln
          have hn1 : n ≤ 10000 := by omega
          have hn2 : 30 ≤ n := by omega
          have hadd1 : ∀ w : World, (Op.stringOp .add ⟨#[99, 97, 116, 32, 60, 60, 39, 84, 72, 69, 32, 69, 78, 68, 39, 32, 120, 10]⟩ B).run Tryd.prog w = .ok (.string (hdC ++ B)) w := fun w => run_string_add_sum w _ _ (by show 18 + B.size ≤ _; omega)
          have hadd2 : ∀ w : World, (Op.stringOp .add (hdC ++ B) ⟨#[84, 72, 69, 32, 69, 78, 68, 10, 114, 101, 115, 116]⟩).run Tryd.prog w = .ok (.string Z) w := fun w => by rw [← hZ]; exact run_string_add_sum w _ _ (by rw [ByteArray.size_append]; show 18 + B.size + 12 ≤ _; omega)
          have kW := (hB.block c (by omega)).trans k0.out
          have hKH := Lib.hid hK
          have hbW := hb0.out.trans (below_of hB (by omega))
          have hbH := Lib.hid hbW
          have kWH := Lib.hid kW
          clear hB hno hK hres hln hZ hnx kW hbW hn30
          gi_wp2_with (refine ⟨trivial, ?_⟩; gi_at_call 9; refine (callsIn_wide.2 (hlnH.out _)).mono ?_; rintro e w2 ⟨al, cl, rfl, hrow, hbel⟩; obtain ⟨g, rfl, _, _, hcell⟩ := row_form rfl hrow (by show 0 < 5; omega); have t2 := hcell 2 (dtk2.told B true) rfl; have t3 := hcell 3 dtk3 rfl; have v1 : w2.cell? ⟨g, 13, none⟩ = some (.string B) := t2.doc; have v2 : w2.cell? ⟨g, 14, none⟩ = some (.bool true) := t2.raw; have v3 : w2.cell? ⟨g, 18, none⟩ = some (.string ⟨#[]⟩) := t3.doc; have hb2 := Lib.hid hbel; have k2 := blk_beneath kWH.out hbel; have y2 : w2.cell? ⟨c, 0, none⟩ = some (.bool false) := k2.cell 0; have f2 : w2.frozen? ⟨c, 0, none⟩ = false := k2.frozen 0; have k2H := Lib.hid k2; clear hrow hbel hcell t2 t3 k2)
          have hD2 : w2.heap[D]? = some (.deferred (some [])) := (hb2.out.block D (Array.getElem?_eq_some_iff.1 hKH.out).1).trans hKH.out
          have k5 := (KeepsOthers.setCell w2 ⟨c, 0, none⟩ (.bool true)).same D _ hD2 rfl
          have z2 : Blk ((w2.setCell ⟨c, 0, none⟩ (.bool true)).putObj D (.deferred none)) c 4 #[.bool true] := (World.putObj_heap_other (by omega)).trans (k2H.out.set_ 0 _)
          have q3 : ((w2.setCell ⟨c, 0, none⟩ (.bool true)).putObj D (.deferred none)).cell? ⟨c, 0, none⟩ = some (.bool true) := z2.cell 0
          refine ⟨by simp, .inl ⟨_, _, rfl, run_takeDeferred k5, ?_⟩⟩
          refine ⟨.bool true, ?_, ?_⟩
          · simp [results, Tryd.results7, go_sem, q3]
          · exact ⟨rfl, by rw [hcH.out]; exact ((hbH.out.trans (below_of hb2.out (by have := hbH.out.size; have := hcH.out; omega))).setCell (p := ⟨c, 0, none⟩) (Nat.le_refl _) _).trans (belowK_b (w := w) (by rw [hcH.out]; exact Nat.le_refl _) _ D _ _ (by rw [hcH.out]; omega) k5 rfl rfl)⟩
theorem docs_law (b : ByteArray) (w : World) (z0 : b.data.toList.length ≤ reachBytes) : Calls Tryd.prog 7 #[.string b] w fun e w' => e = .returned (.bool true) ∧ Below w.heap.size w w' :=
  callsIn_wide.1 (docs_in b w (by rw [Lib.size_eq]; unfold reachBytes at z0; omega))
end Go.Proofs.YtkakphiofahlgaaDoor
