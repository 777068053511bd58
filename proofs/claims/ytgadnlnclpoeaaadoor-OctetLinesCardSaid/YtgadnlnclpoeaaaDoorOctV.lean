/- The walk of the law OctetJoined: true at every input. Condition: the library's tables and sentinels lie as they were laid (Gl). -/
import Derived.Test.YtgadnlnclpoeaaaDoorOctU
import Derived.Sort.CutIn
namespace Go.Proofs.YtgadnlnclpoeaaaDoor
open Go.RowKit Go.Shelf Go.PlainAid
attribute [local go_sem] Oper.semAt_some

theorem lines_in (n : Nat) (s : ByteArray) (w : World) : CallsIn Fence.wide n Tryd.prog 24 #[.string s] w fun e w' => e = .returned (.func (.func 34) #[] #[.pointer (some ⟨w.heap.size, 0, none⟩)]) ∧ w' = w.alloc (.cells #[.string s] 9) :=
  callsIn_wide.2 (lines_any s w)

/-- Ahead of the loops: the first text is closed. -/
def Cut0 (b : ByteArray) (w : World) (s0 : Value) (wx : World) : Prop := ∃ a : ByteArray, s0 = .string a ∧ Closed a ∧ a.size + b.size ≤ 100001 ∧ w = wx

theorem closed_app (a : ByteArray) : Closed (a ++ ⟨#[10]⟩) := by
  right
  have : (a ++ ⟨#[10]⟩ : ByteArray).size - 1 = a.size + 0 := by rw [app_size]; show a.size + 1 - 1 = _; omega
  rw [this, bt_app_r]; rfl

set_option maxRecDepth 100000 in
set_option maxHeartbeats 4000000 in
theorem octetJoined_in (a b : ByteArray) (w : World) (ha : a.size ≤ 140737488351232) (hb : b.size ≤ 140737488351232) (hg : Gl w) :
    CallsIn Fence.wide 6 Tryd.prog 8 #[.string a, .string b] w fun e w' => e = .returned (.bool true) ∧ Below w.heap.size w w' := by
  have hgb := get_bt a
  have hgH := Lib.hid hg
  clear hg
  refine callsIn_of_wp_marks Tryd.func8 rfl trivial ?_ rfl
  simp only [Tryd.ntmps8, List.size_toArray, List.length_cons, List.length_nil, Nat.reduceAdd, Nat.reduceSub, Array.replicate_succ, Array.replicate_zero, List.push_toArray, List.append_toArray, List.nil_append, List.cons_append]
  by_cases hbig : (100000 : Int) < (a.size : Int) + b.size
  · gi_wp2_with (refine ⟨trivial, ?_⟩; gi_at_call 10; refine (callsIn_wide.2 (awake_any _ hgH.out)).mono ?_; rintro e w1 ⟨rfl, hB1⟩)
    exact ⟨_, results_tmp rfl _ _ _, rfl, hB1⟩
  · have hsz : a.size + b.size ≤ 100000 := by omega
    gi_upto_region 5 with (refine ⟨trivial, ?_⟩; gi_at_call 10; refine (callsIn_wide.2 (awake_any _ hgH.out)).mono ?_; rintro e w1 ⟨rfl, hB1⟩)
    have hB1H := Lib.hid hB1
    clear hB1
    gi_cut [27] from 18 (fun s27 wx => s27 = .bool (!(a.size == 0) && (bt a (a.size - 1) != 10)) ∧ w1 = wx)
    case first =>
      by_cases h0 : a.size = 0
      · have hem : (!a.toList.isEmpty) = false := by rw [size0 h0]; simp [Lib.toList_data]
        have h0H := Lib.hid h0
        clear h0
        gi_wp2
        gi_meet
        exact ⟨by rw [h0H.out]; rfl, rfl⟩
      · have hne := str_ne h0
        have h0H : Hid ((a.size == 0) = false) := Lib.hid (by simpa using h0)
        have hpos : 0 < a.size := by omega
        clear h0
        cases hE : bt a (a.size - 1) != 10
        all_goals
          have hE' := Lib.hid hE
          gi_wp2
          gi_meet
          refine ⟨?_, rfl⟩
          rw [h0H.out, hE'.out]; rfl
    case rest =>
      obtain ⟨rfl, rfl⟩ := hcut
      gi_upto_if 27 with fail
      gi_cut [0] from 18 (Cut0 b w1)
      case first =>
        have hc1 : Hid ((!(a.size == 0) && (bt a (a.size - 1) != 10)) = false → Cut0 b w1 (.string a) w1) := Lib.hid (fun h => ⟨a, rfl, by
          unfold Closed
          by_cases h0 : a.size = 0
          · exact .inl h0
          · right
            simpa [h0] using h, by omega, rfl⟩)
        have hc2 : Hid (Cut0 b w1 (.string (a ++ ⟨#[10]⟩)) w1) := Lib.hid ⟨_, rfl, closed_app a, by rw [app_size]; show a.size + 1 + _ ≤ _; omega, rfl⟩
        cases hE : (!(a.size == 0) && (bt a (a.size - 1) != 10))
        · have := Lib.hid (hc1.out hE)
          gi_wp2
          gi_meet
          exact this.out
        · gi_wp2
          gi_meet
          exact hc2.out
      case rest =>
        obtain ⟨A, rfl, hcl, hsz', rfl⟩ := hcut
        clear hgb hgH ha hbig hsz
        have hA : A.size ≤ 1000000 := by omega
        have hb' : b.size ≤ 1000000 := by omega
        have hAb : (A ++ b).size ≤ 1000000 := by rw [app_size]; omega
        gi_wp2_with (refine ⟨trivial, ?_⟩; gi_at_call 24; refine (lines_in _ _ _).mono ?_; rintro e w2 ⟨rfl, rfl⟩)
        obtain ⟨i0, hi, hz0, hz1, hz2⟩ := info_parts info9
        obtain ⟨W0, hW0⟩ : ∃ W0, ((w1.alloc (.cells #[.slice none 0 0] 33)).alloc (.cells #[.slice none 0 0] 33)).alloc (.cells #[.string (A ++ b)] 9) = W0 := ⟨_, rfl⟩
        have hs0 : W0.heap.size = w1.heap.size + 3 := by rw [← hW0]; simp
        have b5 : Boxed W0 w1.heap.size 33 (.slice none 0 0) := by rw [← hW0]; exact ((Boxed.new w1 33 _).alloc _).alloc _
        have b6 : Boxed W0 (w1.heap.size + 1) 33 (.slice none 0 0) := by
          rw [← hW0]; have := (Boxed.new (w1.alloc (.cells #[.slice none 0 0] 33)) 33 (.slice none 0 0)).alloc (.cells #[.string (A ++ b)] 9); rwa [World.size_alloc] at this
        have bn : Boxed W0 (w1.heap.size + 2) 9 (.string (A ++ b)) := by
          rw [← hW0]; have := Boxed.new ((w1.alloc (.cells #[.slice none 0 0] 33)).alloc (.cells #[.slice none 0 0] 33)) 9 (.string (A ++ b)); rwa [World.size_alloc, World.size_alloc] at this
        have hB0 : Below w.heap.size w W0 := by
          have := hB1H.out.size
          rw [← hW0]; exact ((hB1H.out.alloc this _).alloc (by simp; omega) _).alloc (by simp; omega) _
        have hn1 : w.heap.size ≤ w1.heap.size := hB1H.out.size
        rw [hW0]
        clear hW0 hB1H
        obtain ⟨sz, hsz⟩ : ∃ sz, w1.heap.size = sz := ⟨_, rfl⟩
        rw [hsz] at hs0 b5 b6 bn hn1 ⊢
        clear hsz
        apply wpIn_rangeFunc_ownF (n := 6) rfl (by omega) (gf := 34) (lb := #[.pointer (some ⟨sz + 2, 0, none⟩)]) rfl trivial (enters_of Tryd.func34 (by kernel_rfl) rfl)
          (lines_stops 5 (by omega) (sz + 2) w.heap.size 1000000 (A ++ b) hAb hAb W0 (by omega) bn.cell) keepT_t (keepT_b (w := W0) (by omega) (by omega)) (Below.refl _ _) (fun _ => rfl)
          (fun pre W => (Coll w.heap.size sz (sz + 2) ([] ++ pre) W ∧ Boxed W (sz + 2) 9 (.string (A ++ b)) ∧ Boxed W (sz + 1) 33 (.slice none 0 0)) ∧ Below w.heap.size w W)
          (fun _ _ _ => False)
          (OwnFrom.and (OwnFrom.and ((coll_own w.heap.size sz (sz + 2) []).from _) (OwnFrom.and ((boxed_own _ _ _).from _) ((boxed_own _ _ _).from _))) (ownFrom_below (Nat.le_refl _) (by omega)))
          (fun _ _ _ _ _ hs _ _ => hs)
          ⟨⟨Coll.nil b5, bn, b6⟩, hB0⟩ ?_ ?assign ?body ?done ?stop
        case assign =>
          intro l x W K hK
          gi_wp2
          exact hK
        case body =>
          rintro l pre x W ⟨⟨⟨v, hv, hrow, hnil, hnb⟩, hbn, hb6⟩, hB⟩ hlt
          rw [List.nil_append] at hrow hnil
          have hsW := hB.size
          have hx := x.2
          obtain ⟨M', hrow', hM, hMs, hor⟩ := coll_base (Bn := sz + 2) hrow hnil hB.size hbn.lt
          have hc := hv.cell
          have hrH := Lib.hid hrow'
          have hvH := Lib.hid hv
          have hnbH := Lib.hid hnb
          have hbnH := Lib.hid hbn
          have hb6H := Lib.hid hb6
          have hBH := Lib.hid hB
          clear hrow hrow' hv hnil hnb hbn hb6 hB
          gi_wp2_with (gi_at_builtin; refine wpListIn_append_own _ rfl _ _ 33 rfl M' 9 i0 (.string ByteArray.empty) 1 16 Tryd.underlying33 hi hz0 hz1 hz2 rfl (by decide) _ pre.length (svals pre) rfl (hrH.out.alloc _) ⟨W.heap.size, 0, none⟩ 1 1 [.string x.1] rfl rfl (cell_one_new _ _ _) (by simp [Value.oneCell']) (by unfold maxLen; omega) (by omega) (by simp; omega) ?_; intro v' w1 hown' hgrow _; obtain ⟨g', cap', rfl⟩ := ownsRow_succ hown'; obtain ⟨q1, q2, q3, q4, q5⟩ := coll_step (n₀ := w.heap.size) (k := pre.length + 1) hvH.out hrH.out hnbH.out hM (Nat.le_refl _) hMs (by omega) hbnH.out hor (by simp) (by rw [← svals_snoc]; exact hown') hgrow; have hv1 : Boxed w1 sz 33 v := (hvH.out.alloc _).kept hgrow (hvH.out.not_row (by decide) hrH.out); have hc1 := hv1.cell; have hf1 := hv1.frozen; have Q1 := Lib.hid q1; have Q2 := Lib.hid q2; have Q3 := Lib.hid q3; have Q4 := Lib.hid q4; clear q1 q2 q3 q4 q5 hown' hgrow)
          exact ⟨Q2.out, Q3.out, ⟨by rw [List.nil_append]; exact Q1.out, Q3.out.2.trans hbnH.out, Q4.out _ _ (by omega) hb6H.out⟩, hBH.out.trans Q3.out.1⟩
        case stop =>
          rintro D c pre W _ _ h _
          exact h.elim
        case done =>
          rintro D ys W hD hys ⟨⟨hC, -, hb6⟩, hB⟩ hK
          rw [List.nil_append] at hC
          obtain ⟨v5, hv5, hrow5, -, -⟩ := hC
          have hF0 : Fix w.heap.size sz v5 ys [D] W := ⟨hv5, hrow5, fun D' hm => by obtain rfl := List.mem_singleton.1 hm; exact hK⟩
          have hDW : D < W.heap.size := (Array.getElem?_eq_some_iff.1 hK).1
          clear hv5 hrow5 hK b5 b6 bn hB0
          obtain ⟨s2, hs2⟩ : ∃ s2, W.heap.size = s2 := ⟨_, rfl⟩
          have hv5lt : ∀ g, v5.ownBlock = some g → g < s2 + 1 := fun g e => by have := (hF0.row.lt g e).2; omega
          have hF := Lib.hid hF0
          have hb6H := Lib.hid hb6
          have hBH := Lib.hid hB
          have hysH := Lib.hid hys
          have hv5H := Lib.hid hv5lt
          clear hF0 hb6 hB hys hv5lt
          gi_wp2_with (refine ⟨trivial, ?_⟩; gi_at_call 24; refine (lines_in _ _ _).mono ?_; rintro e w2 ⟨rfl, rfl⟩)
          obtain ⟨W2, hW2⟩ : ∃ W2, W.alloc (.cells #[.string A] 9) = W2 := ⟨_, rfl⟩
          have hz2' : W2.heap.size = s2 + 1 := by rw [← hW2]; simp [hs2]
          have bA : Boxed W2 s2 9 (.string A) := by rw [← hW2, ← hs2]; exact Boxed.new _ _ _
          have b6' : Boxed W2 (sz + 1) 33 (.slice none 0 0) := by rw [← hW2]; exact hb6H.out.alloc _
          have hF2 : Fix w.heap.size sz v5 ys [D] W2 := by rw [← hW2]; exact hF.out.alloc _
          have hB2 : Below w.heap.size w W2 := by rw [← hW2]; exact hBH.out.alloc (by omega) _
          rw [hW2]
          have hs2' : sz + 3 ≤ s2 := by omega
          have hDs2 : D < s2 := by omega
          clear hW2 hF hb6H hBH hs2
          apply wpIn_rangeFunc_ownF (n := 6) rfl (by omega) (gf := 34) (lb := #[.pointer (some ⟨s2, 0, none⟩)]) rfl trivial (enters_of Tryd.func34 (by kernel_rfl) rfl)
            (lines_stops 5 (by omega) s2 w.heap.size 1000000 A hA hA W2 (by omega) bA.cell) keepT_t (keepT_b (w := W2) (by omega) (by omega)) (Below.refl _ _) (fun _ => rfl)
            (fun pre W => (Coll (s2 + 1) (sz + 1) s2 ([] ++ pre) W ∧ Boxed W s2 9 (.string A) ∧ Fix w.heap.size sz v5 ys [D] W) ∧ Below w.heap.size w W)
            (fun _ _ _ => False)
            (OwnFrom.and (OwnFrom.and ((coll_own (s2 + 1) (sz + 1) s2 []).from _) (OwnFrom.and ((boxed_own _ _ _).from _) (Fix.own (fun D' hm => by obtain rfl := List.mem_singleton.1 hm; omega)))) (ownFrom_below (Nat.le_refl _) (by omega)))
            (fun _ _ _ _ _ hs _ _ => hs)
            ⟨⟨Coll.nil b6', bA, hF2⟩, hB2⟩ ?_ ?assign2 ?body2 ?done2 ?stop2
          case assign2 =>
            intro l x W K hK
            gi_wp2
            exact hK
          case stop2 =>
            rintro D c pre W _ _ h _
            exact h.elim
          case body2 =>
            clear hF2 hB2 b6' bA
            rintro l pre x W ⟨⟨⟨v, hv, hrow, hnil, hnb⟩, hbn, hF⟩, hB⟩ hlt
            rw [List.nil_append] at hrow hnil
            have hx := x.2
            obtain ⟨M', hrow', hM, hMs, hor⟩ := coll_base (Bn := s2) hrow hnil (by have := hbn.lt; omega) hbn.lt
            have hc := hv.cell
            have hrH := Lib.hid hrow'
            have hvH := Lib.hid hv
            have hnbH := Lib.hid hnb
            have hbnH := Lib.hid hbn
            have hFH := Lib.hid hF
            have hBH := Lib.hid hB
            clear hrow hrow' hv hnil hnb hbn hF hB
            gi_wp2_with (gi_at_builtin; refine wpListIn_append_own _ rfl _ _ 33 rfl M' 9 i0 (.string ByteArray.empty) 1 16 Tryd.underlying33 hi hz0 hz1 hz2 rfl (by decide) _ pre.length (svals pre) rfl (hrH.out.alloc _) ⟨W.heap.size, 0, none⟩ 1 1 [.string x.1] rfl rfl (cell_one_new _ _ _) (by simp [Value.oneCell']) (by unfold maxLen; omega) (by omega) (by simp; omega) ?_; intro v' w1 hown' hgrow _; obtain ⟨g', cap', rfl⟩ := ownsRow_succ hown'; obtain ⟨q1, q2, q3, q4, q5⟩ := coll_step (n₀ := w.heap.size) (k := pre.length + 1) hvH.out hrH.out hnbH.out hM (by omega) hMs (by omega) hbnH.out hor (by simp) (by rw [← svals_snoc]; exact hown') hgrow; have hv1 : Boxed w1 (sz + 1) 33 v := (hvH.out.alloc _).kept hgrow (hvH.out.not_row (by decide) hrH.out); have hc1 := hv1.cell; have hf1 := hv1.frozen; have Q1 := Lib.hid q1; have Q2 := Lib.hid q2; have Q3 := Lib.hid q3; have Q4 := Lib.hid q4; have Q5 := Lib.hid q5; clear q1 q2 q3 q4 q5 hown' hgrow)
            exact ⟨Q2.out, Q3.out, ⟨by rw [List.nil_append]; exact Q1.out, Q3.out.2.trans hbnH.out, ⟨Q4.out _ _ (by omega) hFH.out.bx, Q5.out _ _ hFH.out.row hv5H.out, fun D' hm => Q2.out.same D' _ (hFH.out.df D' hm) rfl⟩⟩, hBH.out.trans Q3.out.1⟩
          case done2 =>
            clear hF2 hB2 b6' bA
            rintro D2 zs W hD2 hzs ⟨⟨hC, -, hF0⟩, hB⟩ hK
            rw [List.nil_append] at hC
            have hF1 : Fix w.heap.size sz v5 ys [D2, D] W := ⟨hF0.bx, hF0.row, fun D' hm => by
              rcases List.mem_cons.1 hm with rfl | hm
              · exact hK
              · exact hF0.df D' hm⟩
            have hDW2 : D2 < W.heap.size := (Array.getElem?_eq_some_iff.1 hK).1
            have hs3 : s2 + 1 ≤ W.heap.size := by omega
            clear hK hF0
            obtain ⟨s3, hs3e⟩ : ∃ s3, W.heap.size = s3 := ⟨_, rfl⟩
            have hF := Lib.hid hF1
            have hBH := Lib.hid hB
            have hzsH := Lib.hid hzs
            have hC3 : Hid (Coll (s2 + 1) (sz + 1) s3 zs (W.alloc (.cells #[.string b] 9))) := Lib.hid (by rw [← hs3e]; exact hC.move _)
            clear hF1 hB hzs hC
            gi_wp2_with (refine ⟨trivial, ?_⟩; gi_at_call 24; refine (lines_in _ _ _).mono ?_; rintro e w2 ⟨rfl, rfl⟩)
            obtain ⟨W3, hW3⟩ : ∃ W3, W.alloc (.cells #[.string b] 9) = W3 := ⟨_, rfl⟩
            have hz3' : W3.heap.size = s3 + 1 := by rw [← hW3]; simp [hs3e]
            have bA : Boxed W3 s3 9 (.string b) := by rw [← hW3, ← hs3e]; exact Boxed.new _ _ _
            have hF2 : Fix w.heap.size sz v5 ys [D2, D] W3 := by rw [← hW3]; exact hF.out.alloc _
            have hB2 : Below w.heap.size w W3 := by rw [← hW3]; exact hBH.out.alloc (by omega) _
            have hC4 : Coll (s2 + 1) (sz + 1) s3 (zs ++ []) W3 := by rw [List.append_nil, ← hW3]; exact hC3.out
            have hzl : zs.length ≤ 1000000 := by rw [hzsH.out]; exact Nat.le_trans (lines_len A hA) hA
            rw [hW3]
            have hs3' : s2 + 1 ≤ s3 := by omega
            have hDlt : D < s3 ∧ D2 < s3 ∧ D < D2 := by omega
            clear hW3 hF hBH hC3 hs3e hs3
            apply wpIn_rangeFunc_ownF (n := 6) rfl (by omega) (gf := 34) (lb := #[.pointer (some ⟨s3, 0, none⟩)]) rfl trivial (enters_of Tryd.func34 (by kernel_rfl) rfl)
              (lines_stops 5 (by omega) s3 w.heap.size 1000000 b hb' hb' W3 (by omega) bA.cell) keepT_t (keepT_b (w := W3) (by omega) (by omega)) (Below.refl _ _) (fun _ => rfl)
              (fun pre W => (Coll (s2 + 1) (sz + 1) s3 (zs ++ pre) W ∧ Boxed W s3 9 (.string b) ∧ Fix w.heap.size sz v5 ys [D2, D] W) ∧ Below w.heap.size w W)
              (fun _ _ _ => False)
              (OwnFrom.and (OwnFrom.and ((coll_own (s2 + 1) (sz + 1) s3 zs).from _) (OwnFrom.and ((boxed_own _ _ _).from _) (Fix.own (fun D' hm => by
                rcases List.mem_cons.1 hm with rfl | hm
                · omega
                · obtain rfl := List.mem_singleton.1 hm; omega)))) (ownFrom_below (Nat.le_refl _) (by omega)))
              (fun _ _ _ _ _ hs _ _ => hs)
              ⟨⟨hC4, bA, hF2⟩, hB2⟩ ?_ ?assign3 ?body3 ?done3 ?stop3
            case assign3 =>
              intro l x W K hK
              gi_wp2
              exact hK
            case stop3 =>
              rintro D c pre W _ _ h _
              exact h.elim
            case body3 =>
              clear hF2 hB2 hC4 bA
              rintro l pre x W ⟨⟨⟨v, hv, hrow, hnil, hnb⟩, hbn, hF⟩, hB⟩ hlt
              have hx := x.2
              have hpl : (zs ++ pre).length < 2000001 := by rw [List.length_append]; omega
              obtain ⟨M', hrow', hM, hMs, hor⟩ := coll_base (Bn := s3) hrow hnil (by have := hbn.lt; omega) hbn.lt
              obtain ⟨P, hP⟩ : ∃ P, zs ++ pre = P := ⟨_, rfl⟩
              rw [hP] at hrow' hor hpl
              have hPH : Hid (zs ++ (pre ++ [x]) = P ++ [x]) := Lib.hid (by rw [← hP, List.append_assoc])
              have hc := hv.cell
              have hrH := Lib.hid hrow'
              have hvH := Lib.hid hv
              have hnbH := Lib.hid hnb
              have hbnH := Lib.hid hbn
              have hFH := Lib.hid hF
              have hBH := Lib.hid hB
              clear hrow hrow' hv hnil hnb hbn hF hB hP
              gi_wp2_with (gi_at_builtin; refine wpListIn_append_own _ rfl _ _ 33 rfl M' 9 i0 (.string ByteArray.empty) 1 16 Tryd.underlying33 hi hz0 hz1 hz2 rfl (by decide) _ P.length (svals P) rfl (hrH.out.alloc _) ⟨W.heap.size, 0, none⟩ 1 1 [.string x.1] rfl rfl (cell_one_new _ _ _) (by simp [Value.oneCell']) (by unfold maxLen; omega) (by omega) (by simp; omega) ?_; intro v' w1 hown' hgrow _; obtain ⟨g', cap', rfl⟩ := ownsRow_succ hown'; obtain ⟨q1, q2, q3, q4, q5⟩ := coll_step (n₀ := w.heap.size) (k := P.length + 1) hvH.out hrH.out hnbH.out hM (by omega) hMs (by omega) hbnH.out hor (by simp) (by rw [← svals_snoc]; exact hown') hgrow; have hv1 : Boxed w1 (sz + 1) 33 v := (hvH.out.alloc _).kept hgrow (hvH.out.not_row (by decide) hrH.out); have hc1 := hv1.cell; have hf1 := hv1.frozen; have Q1 := Lib.hid q1; have Q2 := Lib.hid q2; have Q3 := Lib.hid q3; have Q4 := Lib.hid q4; have Q5 := Lib.hid q5; clear q1 q2 q3 q4 q5 hown' hgrow)
              exact ⟨Q2.out, Q3.out, ⟨by rw [hPH.out]; exact Q1.out, Q3.out.2.trans hbnH.out, ⟨Q4.out _ _ (by omega) hFH.out.bx, Q5.out _ _ hFH.out.row hv5H.out, fun D' hm => Q2.out.same D' _ (hFH.out.df D' hm) rfl⟩⟩, hBH.out.trans Q3.out.1⟩
            case done3 =>
              clear hF2 hB2 hC4 bA
              rintro D3 ks W hD3 hks ⟨⟨⟨v6, hv6, hrow6, -⟩, -, hF⟩, hB⟩ hK
              have hlist : zs ++ ks = ys := by rw [hzsH.out, hks, hysH.out]; exact (lines_app A b hA hb' hAb hcl).symm
              have hT := Lib.hid (texts_same v5 v6 ys W (txt_of hF.row) (by rw [← hlist]; exact txt_of hrow6))
              have c5 := hF.bx.cell
              have c6 := hv6.cell
              have hKH := Lib.hid hK
              have hK2 := Lib.hid (hF.df D2 (by simp))
              have hK1 := Lib.hid (hF.df D (by simp))
              have hBH := Lib.hid hB
              clear hlist hrow6 hv6 hF hB hK hks hysH hzsH
              gi_wp2_with (refine ⟨trivial, ?_⟩; gi_at_call 25; refine (callsIn_wide.2 hT.out).mono ?_; rintro e w2 ⟨rfl, m, rfl⟩)
              have k2 : ((W.drewN m).putObj D3 (.deferred none)).heap[D2]? = some (.deferred (some [])) := (World.putObj_heap_other (by omega)).trans hK2.out
              have k1 : (((W.drewN m).putObj D3 (.deferred none)).putObj D2 (.deferred none)).heap[D]? = some (.deferred (some [])) := (World.putObj_heap_other (by omega)).trans ((World.putObj_heap_other (by omega)).trans hK1.out)
              refine ⟨by simp, .inl ⟨_, _, rfl, run_takeDeferred hKH.out, ⟨by simp, .inl ⟨_, _, rfl, run_takeDeferred k2, ⟨by simp, .inl ⟨_, _, rfl, run_takeDeferred k1, ?_⟩⟩⟩⟩⟩⟩
              exact ⟨_, results_tmp rfl _ _ _, rfl, (((below_drewN hBH.out m).trans (belowK_b (w := w) (Nat.le_refl _) _ D3 _ _ (by omega) hKH.out rfl rfl)).trans (belowK_b (w := w) (Nat.le_refl _) _ D2 _ _ (by omega) k2 rfl rfl)).trans (belowK_b (w := w) (Nat.le_refl _) _ D _ _ (by omega) k1 rfl rfl)⟩
end Go.Proofs.YtgadnlnclpoeaaaDoor
