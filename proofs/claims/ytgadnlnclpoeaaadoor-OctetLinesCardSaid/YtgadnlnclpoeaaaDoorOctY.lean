/- The walk of the law OctetLines: true at every input. Condition: the library's tables and sentinels lie as they were laid (Gl). -/
import Derived.Test.YtgadnlnclpoeaaaDoorOctX
import Derived.Test.YtgadnlnclpoeaaaDoorOctV
import Derived.Test.YtgadnlnclpoeaaaDoorOctG
import Derived.Test.YtgadnlnclpoeaaaDoorOctI
namespace Go.Proofs.YtgadnlnclpoeaaaDoor
open Go.RowKit Go.Shelf Go.PlainAid
attribute [local go_sem] Oper.semAt_some

theorem eql_nilfunc (p : Option Addr) (w : World) : (binOp BinOp.eql 36 (.func (.func 34) #[] #[.pointer p]) .nilFunc).run Tryd.prog w = .ok (.bool false) w := by kernel_rfl

set_option maxRecDepth 100000 in
set_option maxHeartbeats 4000000 in
theorem octetLines_in (s : ByteArray) (stop : Int) (w : World) (hs : s.size ≤ 140737488351232) (hst0 : -9223372036854775808 ≤ stop) (hst1 : stop ≤ 9223372036854775807) (hg : Gl w) :
    CallsIn Fence.wide 6 Tryd.prog 6 #[.string s, .int .i64 stop] w fun e w' => e = .returned (.bool true) ∧ Below w.heap.size w w' := by
  have h4 := hg.size
  have hgA : Hid (Gl (((w.alloc (.cells #[.string s] 9)).alloc (.cells #[.int .i64 stop] 3)).alloc (.cells #[.bool false] 4))) :=
    Lib.hid (hg.below ((((Below.refl w.heap.size w).alloc (Nat.le_refl _) _).alloc (by simp) _).alloc (by simp; omega) _) h4)
  clear hg
  refine callsIn_of_wp_marks Tryd.func6 rfl trivial ?_ rfl
  simp only [Tryd.ntmps6, List.size_toArray, List.length_cons, List.length_nil, Nat.reduceAdd, Nat.reduceSub, Array.replicate_succ, Array.replicate_zero, List.push_toArray, List.append_toArray, List.nil_append, List.cons_append]
  have a2 : Boxed (((w.alloc (.cells #[.string s] 9)).alloc (.cells #[.int .i64 stop] 3)).alloc (.cells #[.bool false] 4)) w.heap.size 9 (.string s) := ((Boxed.new w 9 _).alloc _).alloc _
  have a3 : Boxed (((w.alloc (.cells #[.string s] 9)).alloc (.cells #[.int .i64 stop] 3)).alloc (.cells #[.bool false] 4)) (w.heap.size + 1) 3 (.int .i64 stop) := by
    have := (Boxed.new (w.alloc (.cells #[.string s] 9)) 3 (.int .i64 stop)).alloc (.cells #[.bool false] 4); rwa [World.size_alloc] at this
  have a4 : Boxed (((w.alloc (.cells #[.string s] 9)).alloc (.cells #[.int .i64 stop] 3)).alloc (.cells #[.bool false] 4)) (w.heap.size + 2) 4 (.bool false) := by
    have := Boxed.new ((w.alloc (.cells #[.string s] 9)).alloc (.cells #[.int .i64 stop] 3)) 4 (.bool false); rwa [World.size_alloc, World.size_alloc] at this
  have hA := Lib.hid (And.intro a2 (And.intro a3 a4))
  have hB0 := Lib.hid ((((Below.refl w.heap.size w).alloc (Nat.le_refl _) (.cells #[.string s] 9)).alloc (by simp) (.cells #[.int .i64 stop] 3)).alloc (by simp; omega) (.cells #[.bool false] 4))
  clear a2 a3 a4
  gi_upto_if 13 with (refine ⟨trivial, ?_⟩; gi_at_call 10; refine (callsIn_wide.2 (awake_any _ hgA.out)).mono ?_; rintro e w1 ⟨rfl, hB1⟩)
  have hB1' : Below (w.heap.size + 3) (((w.alloc (.cells #[.string s] 9)).alloc (.cells #[.int .i64 stop] 3)).alloc (.cells #[.bool false] 4)) w1 := by have := hB1; simpa [World.size_alloc, Nat.add_assoc] using this
  have c2 : Boxed w1 w.heap.size 9 (.string s) := (hB1'.block _ (by omega)).trans hA.out.1
  have c3 : Boxed w1 (w.heap.size + 1) 3 (.int .i64 stop) := (hB1'.block _ (by omega)).trans hA.out.2.1
  have c4 : Boxed w1 (w.heap.size + 2) 4 (.bool false) := (hB1'.block _ (by omega)).trans hA.out.2.2
  have hBw1 : Below w.heap.size w w1 := hB0.out.trans (hB1'.mono (by omega))
  have hz1 : w.heap.size + 3 ≤ w1.heap.size := c4.lt
  clear hB1 hB1' hA hB0 hgA
  have H1 := Lib.hid (And.intro c2 (And.intro c3 (And.intro c4 hBw1)))
  have d2 := c2.cell
  have d4 := c4.cell
  have e4 := c4.frozen
  clear c2 c3 c4 hBw1
  by_cases hbig : (65536 : Int) < s.size
  · gi_wp2
    have q4 := H1.out.2.2.1.set (.bool true)
    have q5 := q4.cell
    refine ⟨.bool true, ?_, rfl, H1.out.2.2.2.setCell (p := ⟨w.heap.size + 2, 0, none⟩) (by simp) _⟩
    simp [results, Tryd.f6, go_sem, q5]
  · have hs1 : s.size ≤ 1000000 := by omega
    obtain ⟨L, hL⟩ : ∃ L, linesOf s hs1 = L := ⟨_, rfl⟩
    have hR : Hid (∀ w, Calls Tryd.prog 23 #[.string s] w (OwnLines w.heap.size L w)) := Lib.hid (by rw [← hL]; exact refLines_any s hs1)
    have hLlen : L.length ≤ s.size := by rw [← hL]; exact lines_len s hs1
    have hLH := Lib.hid hL
    clear hL
    gi_wp2_with fail
    refine ⟨trivial, ?_⟩
    refine (callsIn_wide.2 (hR.out _)).mono ?_
    rintro e w2 ⟨vw, rfl, hrow, hB2⟩
    obtain ⟨av, cv, rfl⟩ := ownsRow_slice hrow
    obtain ⟨n₀, hn₀⟩ : ∃ n₀, w.heap.size = n₀ := ⟨_, rfl⟩
    have hz2 : w1.heap.size ≤ w2.heap.size := hB2.size
    have hr2 : (Boxed (w2.alloc (.cells #[.slice av L.length cv] 33)) n₀ 9 (.string s) ∧ Boxed (w2.alloc (.cells #[.slice av L.length cv] 33)) (n₀ + 1) 3 (.int .i64 stop) ∧ Boxed (w2.alloc (.cells #[.slice av L.length cv] 33)) (n₀ + 2) 4 (.bool false)) ∧
        Boxed (w2.alloc (.cells #[.slice av L.length cv] 33)) w2.heap.size 33 (.slice av L.length cv) ∧ (w2.alloc (.cells #[.slice av L.length cv] 33)).ownsRow n₀ 9 1 (.slice av L.length cv) L.length (svals L) := by
      rw [← hn₀]
      exact ⟨⟨Boxed.alloc ((hB2.block _ (by omega)).trans H1.out.1) _, Boxed.alloc ((hB2.block _ (by omega)).trans H1.out.2.1) _, Boxed.alloc ((hB2.block _ (by omega)).trans H1.out.2.2.1) _⟩, Boxed.new _ _ _, (ownsRow_weak hrow (by omega)).alloc _⟩
    have hv2 : ∀ g, (Value.slice av L.length cv).ownBlock = some g → g < w2.heap.size := fun g e => (hrow.lt g e).2
    have hB2' : Below n₀ w (w2.alloc (.cells #[.slice av L.length cv] 33)) := by rw [← hn₀]; exact (H1.out.2.2.2.trans (hB2.mono (by omega))).alloc (by omega) _
    have m2 : (w2.alloc (.cells #[.slice av L.length cv] 33)).cell? ⟨w.heap.size, 0, none⟩ = some (.string s) := by rw [hn₀]; exact hr2.1.1.cell
    have hr2H := Lib.hid hr2
    have hv2H := Lib.hid hv2
    have hB2H := Lib.hid hB2'
    have hnH := Lib.hid hn₀
    clear hr2 hv2 hB2' hn₀ hrow hB2 H1 d2 d4 e4 hR
    have hnf := eql_nilfunc
    gi_wp2_with (refine ⟨trivial, ?_⟩; gi_at_call 24; refine (lines_in _ _ _).mono ?_; rintro e w3 ⟨rfl, rfl⟩)
    clear hnf m2
    obtain ⟨b5, hb5⟩ : ∃ b5, w2.heap.size = b5 := ⟨_, rfl⟩
    obtain ⟨W0, hW0⟩ : ∃ W0, ((w2.alloc (.cells #[.slice av L.length cv] 33)).alloc (.cells #[.string s] 9)).alloc (.cells #[.int .i64 0] 3) = W0 := ⟨_, rfl⟩
    obtain ⟨vw, hvw⟩ : ∃ vw, Value.slice av L.length cv = vw := ⟨_, rfl⟩
    have hs0 : W0.heap.size = b5 + 3 := by rw [← hW0, ← hb5]; simp
    have bn : Boxed W0 (b5 + 1) 9 (.string s) := by
      rw [← hW0, ← hb5]; have := (Boxed.new (w2.alloc (.cells #[.slice av L.length cv] 33)) 9 (.string s)).alloc (.cells #[.int .i64 0] 3); rwa [World.size_alloc] at this
    have hr0 : Rst n₀ n₀ s stop b5 vw L W0 := by
      obtain ⟨⟨q1, q2, q3⟩, q4, q5⟩ := hr2H.out
      rw [← hvw, ← hb5]
      rw [← hb5] at bn
      rw [← hW0] at bn ⊢
      exact ⟨(q1.alloc _).alloc _, (q2.alloc _).alloc _, (q3.alloc _).alloc _, (q4.alloc _).alloc _, bn, (q5.alloc _).alloc _⟩
    have b7 : Boxed W0 (b5 + 2) 3 (.int .i64 (([] : List Line).length : Int)) := by
      rw [← hW0, ← hb5]; have := Boxed.new ((w2.alloc (.cells #[.slice av L.length cv] 33)).alloc (.cells #[.string s] 9)) 3 (.int .i64 0); rwa [World.size_alloc, World.size_alloc] at this
    have hnw := hnH.out
    have hB0 : Below n₀ w W0 := by rw [← hW0]; exact (hB2H.out.alloc (by simp; omega) _).alloc (by simp; omega) _
    have hn5 : n₀ + 3 ≤ b5 := by omega
    have hle1 : n₀ ≤ w.heap.size := by omega
    have hle2 : w.heap.size ≤ n₀ := by omega
    have hv5 : Hid (∀ g, vw.ownBlock = some g → g < b5) := by rw [← hvw, ← hb5]; exact hv2H
    have hTx : Hid (∀ W, Rst n₀ n₀ s stop b5 vw L W → TxtAt W (.slice av L.length cv) L) := Lib.hid (fun W h => by rw [hvw]; exact txt_of h.rw)
    have hvwH := Lib.hid hvw
    rw [hW0, hb5, hnw]
    clear hW0 hr2H hv2H hB2H hvw hb5 hz1 hz2 hnw
    apply wpIn_rangeFunc_ownF (n := 6) rfl (by omega) (gf := 34) (lb := #[.pointer (some ⟨b5 + 1, 0, none⟩)]) rfl trivial (enters_of Tryd.func34 (by kernel_rfl) rfl)
      (lines_stops 5 (by omega) (b5 + 1) n₀ 1000000 s hs1 hs1 W0 (by omega) bn.cell) keepT_t (keepT_b (w := W0) (by omega) (by omega)) (Below.refl _ _) (fun _ => rfl)
      (fun pre W => (Boxed W (b5 + 2) 3 (.int .i64 (pre.length : Int)) ∧ Rst n₀ n₀ s stop b5 vw L W ∧ (pre <+: L ∧ NotYet stop pre.length)) ∧ Below n₀ w W)
      (fun c pre W => (c = .ret ∧ ¬ pre <+: L) ∨ (c = .exit 0 ∧ Left1 n₀ n₀ s stop b5 vw L (b5 + 2) w pre W))
      (OwnFrom.and (OwnFrom.and ((boxed_own _ _ (fun pre : List Line => .int .i64 (pre.length : Int))).from _) (OwnFrom.and (Rst.own.from _) (fun _ _ _ _ h _ _ => h))) (ownFrom_below (by omega) (by omega)))
      (fun c pre X Y row h hg hr => h.imp id (fun ⟨e, h⟩ => ⟨e, left1_own (by omega) pre X Y row h hg hr⟩))
      ⟨⟨b7, hr0, ⟨L, rfl⟩, fun j h1 h2 => absurd h2 (by simp; omega)⟩, hB0⟩ ?_ ?assign ?body ?done ?stop
    case assign =>
      intro l x W K hK
      gi_wp2
      exact hK
    case body =>
      clear hr0 hB0 b7 bn
      rintro l pre x W ⟨⟨hb7, hr, hpre, hny⟩, hB⟩ hlt
      have c7 := hb7.cell
      have f7 := hb7.frozen
      have c5 := hr.s5.cell
      have c3 := hr.s3.cell
      have c4 := hr.s4.cell
      have f4 := hr.s4.frozen
      rw [← hvwH.out] at c5
      have hrH := Lib.hid hr
      have hb7H := Lib.hid hb7
      have hBH := Lib.hid hB
      have hpreH := Lib.hid hpre
      have hnyH := Lib.hid hny
      have hple := hpre.length_le
      have hLm : L.length ≤ 1000000 := by omega
      clear hr hb7 hB hpre hny
      by_cases hge : L.length ≤ pre.length
      · have hge' : (L.length : Int) ≤ (pre.length : Int) := by omega
        gi_wp2
        exact ⟨KeepsOthers.setCell _ _ _, .inl ⟨rfl, fun h => by have := prefix_len h; omega⟩⟩
      · obtain ⟨y, hy⟩ : ∃ y, L[pre.length]? = some y := ⟨_, List.getElem?_eq_getElem (by omega)⟩
        rcases hTx.out W hrH.out with ⟨_, h0⟩ | ⟨g, cap, hsl, _, hcell⟩
        · rw [h0] at hge; simp at hge
        · have cy := hcell _ _ hy
          obtain ⟨rfl, rfl⟩ : av = some ⟨g, 0, none⟩ ∧ cv = cap := by simpa using hsl
          have hlt' : (pre.length : Int) < (L.length : Int) := by omega
          have hyH := Lib.hid hy
          clear hcell hsl hy hge
          by_cases hxy : x.1 = y.1
          · obtain rfl : x = y := Subtype.ext hxy
            clear hxy
            have hpx : Hid (pre ++ [x] <+: L) := Lib.hid (prefix_snoc hpreH.out hyH.out)
            have hlx : Hid (((pre ++ [x]).length : Int) = (pre.length : Int) + 1) := Lib.hid (by simp)
            have hrx : Hid (∀ u, Rst n₀ n₀ s stop b5 vw L (W.setCell ⟨b5 + 2, 0, none⟩ u)) := Lib.hid (fun u => hrH.out.kept (grownBy_setCell' W (b5 + 2) u) (by simp; omega) (by simp; omega) (by simp; omega) (by simp) (by simp) (.inr (hb7H.out.not_row (by decide) hrH.out.rw).symm))
            by_cases hst : (pre.length : Int) + 1 = stop
            · have hsb : ((pre.length : Int) + 1 == stop) = true := by simpa using hst
              have hstH := Lib.hid hst
              clear hst
              gi_wp2
              exact ⟨KeepsOthers.setCell _ _ _, .inr ⟨rfl, hpx.out, by rw [hlx.out]; exact hstH.out, by rw [hlx.out]; exact hb7H.out.set _, hrx.out _, (hBH.out.setCell (p := ⟨b5 + 2, 0, none⟩) (by simp; omega) _).mono hle2⟩⟩
            · have hsb : ((pre.length : Int) + 1 == stop) = false := by simpa using hst
              have hstH := Lib.hid hst
              clear hst
              gi_wp2
              exact ⟨KeepsOthers.setCell _ _ _, ⟨(Below.refl n₀ W).setCell (p := ⟨b5 + 2, 0, none⟩) (by simp; omega) _, Below.heap_setCell _ _ _ _ (by simp)⟩, ⟨by rw [hlx.out]; exact hb7H.out.set _, hrx.out _, hpx.out, fun j h1 h2 => by
                by_cases e : j = pre.length + 1
                · subst e; exact hstH.out
                · exact hnyH.out j h1 (by rw [List.length_append] at h2; simp at h2; omega)⟩, hBH.out.setCell (p := ⟨b5 + 2, 0, none⟩) (by simp; omega) _⟩
          · have hxb : (x.1.toList == y.1.toList) = false := by
              rw [Lib.toList_data, Lib.toList_data]
              simp only [beq_eq_false_iff_ne, ne_eq]
              intro h
              exact hxy (by cases hx : x.1; cases hy : y.1; rw [hx, hy] at h; congr 1; exact Array.toList_inj.1 h)
            have hxyH := Lib.hid hxy
            clear hxy
            gi_wp2
            exact ⟨KeepsOthers.setCell _ _ _, .inl ⟨rfl, fun h => hxyH.out (by have := (prefix_get h).symm.trans hyH.out; simp at this; rw [this])⟩⟩
    case' done =>
      rintro D xs W hD hxs ⟨⟨hb7, hr, hpre, hny⟩, hB⟩ hK
      have hxl : xs = L := by rw [hxs]; exact hLH.out
      have hfin : 0 < stop → (xs.length : Int) = min stop (L.length : Int) := by
        intro h0
        have : ¬ stop ≤ (L.length : Int) := fun h1 => by
          obtain ⟨j, rfl⟩ := Int.eq_ofNat_of_zero_le (show 0 ≤ stop by omega)
          exact hny j (by omega) (by rw [hxl]; omega) rfl
        rw [hxl]; omega
      clear hxs hpre hny hxl hr0 hB0 b7 bn
      generalize xs.length = k at hb7 hfin
    case' stop =>
      rintro D c xs W hD hxs hx hK
      rcases hx with ⟨_, h⟩ | ⟨rfl, hpre, hst, hb7, hr, hB⟩
      · exact absurd (by rw [hLH.out] at hxs; exact hxs) h
      have hfin : 0 < stop → (xs.length : Int) = min stop (L.length : Int) := by
        intro h0
        have := hpre.length_le
        omega
      have hB : Below n₀ w W := hB.mono hle1
      clear hxs hpre hst hr0 hB0 b7 bn
      generalize xs.length = k at hb7 hfin
    all_goals
      have hDW : D < W.heap.size := (Array.getElem?_eq_some_iff.1 hK).1
      have c7 := hb7.cell
      have c5 := hr.s5.cell
      have c3 := hr.s3.cell
      rw [← hvwH.out] at c5
      have hrH := Lib.hid hr
      have hBH := Lib.hid hB
      have hKH := Lib.hid hK
      have hfinH := Lib.hid hfin
      clear hr hB hK hfin hb7
      gi_upto_region 16 with fail
      gi_cut [51] from 42 (fun s51 wx => s51 = .bool false ∧ W = wx)
      case' first =>
        by_cases hsp : 0 < stop
        · have hk := hfinH.out hsp
          have hkH := Lib.hid hk
          clear hk
          gi_wp2
          gi_meet
          exact ⟨by rw [hkH.out]; simp, rfl⟩
        · gi_wp2
          gi_meet
          exact ⟨rfl, rfl⟩
      obtain ⟨rfl, rfl⟩ := hcut
      have hDs : W0.heap.size ≤ D := hD
      clear hfinH c7 c5 c3 hD
      gi_wp2
      obtain ⟨b9, hb9⟩ : ∃ b9, W.heap.size = b9 := ⟨_, rfl⟩
      obtain ⟨V, hV⟩ : ∃ V, (W.alloc (.cells #[.slice none 0 0] 33)).alloc (.cells #[.string ⟨#[]⟩] 9) = V := ⟨_, rfl⟩
      have hzV : V.heap.size = b9 + 2 := by rw [← hV, ← hb9]; simp
      have v9 : Boxed V b9 33 (.slice none 0 0) := by rw [← hV, ← hb9]; exact (Boxed.new _ _ _).alloc _
      have v10 : Boxed V (b9 + 1) 9 (.string ⟨#[]⟩) := by
        rw [← hV, ← hb9]; have := Boxed.new (W.alloc (.cells #[.slice none 0 0] 33)) 9 (.string ⟨#[]⟩); rwa [World.size_alloc] at this
      have hrV : Rst n₀ n₀ s stop b5 vw L V := by rw [← hV]; exact (hrH.out.alloc _).alloc _
      have hKV : V.heap[D]? = some (.deferred (some [])) := by
        rw [← hV]
        exact (Below.heap_alloc _ _ _ (by simp; omega)).trans ((Below.heap_alloc _ _ _ hDW).trans hKH.out)
      have hBV : Below n₀ w V := by rw [← hV]; exact (hBH.out.alloc (by omega) _).alloc (by simp; omega) _
      have hD9 : D < b9 := by omega
      have h59 : b5 + 3 ≤ b9 := by omega
      rw [hV, hb9]
      clear hV hrH hKH hBH hb9 hDW
      apply wpIn_rangeFunc_ownF (n := 6) rfl (by omega) (gf := 34) (lb := #[.pointer (some ⟨b5 + 1, 0, none⟩)]) rfl trivial (enters_of Tryd.func34 (by kernel_rfl) rfl)
        (lines_stops 5 (by omega) (b5 + 1) n₀ 1000000 s hs1 hs1 V (by omega) hrV.sn.cell) keepT_t (keepT_b (w := V) (by omega) (by omega)) (Below.refl _ _) (fun _ => rfl)
        (fun pre W => ((∃ v, Boxed W b9 33 v ∧ W.ownsRow (b9 + 2) 9 1 v pre.length (svals pre) ∧ True) ∧ TxBox (b9 + 1) pre W ∧ Rst n₀ n₀ s stop b5 vw L W ∧ (W.heap[D]? = some (.deferred (some [])) ∧ pre.length ≤ s.size)) ∧ Below n₀ w W)
        (fun c pre _ => c = .ret ∧ s.size < pre.length)
        (OwnFrom.and (OwnFrom.and ((holdsRow_own (b9 + 2) b9 33 9 1 List.length svals (fun _ _ => True)).from _) (OwnFrom.and (TxBox.own.from _) (OwnFrom.and (Rst.own.from _) (fun pre X Y row h hg hr => ⟨(hg.block D (Array.getElem?_eq_some_iff.1 h.1).1 (fun e => by have := (hr D e.symm).1; omega)).trans h.1, h.2⟩)))) (ownFrom_below (by omega) (by omega)))
        (fun _ _ _ _ _ h _ _ => h)
        ⟨⟨⟨_, v9, World.ownsRow_nil _ _ _ _, trivial⟩, ⟨_, v10, rfl⟩, hrV, hKV, by simp⟩, hBV⟩ ?_ ?_ ?_ ?_ ?_
      rotate_left
      · intro l x W K hK
        gi_wp2
        exact hK
      · clear hrV hKV hBV v9 v10
        rintro l pre x W ⟨⟨⟨v, hv, hrow, -⟩, ⟨T, hT, hTj⟩, hr, hK, hple⟩, hB⟩ hlt
        have hx := x.2
        have hTs : T.size ≤ 1000000 * pre.length := by rw [Lib.size_eq, hTj]; exact joined_len pre
        have hMs : b9 + 2 ≤ W.heap.size := hT.lt
        obtain ⟨i0, hi, hz0, hz1, hz2⟩ := info_parts info9
        have hc := hv.cell
        have hvH := Lib.hid hv
        have hrowH := Lib.hid hrow
        have hTH := Lib.hid hT
        have hTjH := Lib.hid hTj
        have hrH := Lib.hid hr
        have hKH := Lib.hid hK
        have hBH := Lib.hid hB
        clear hv hrow hT hTj hr hK hB
        by_cases hfull : (s.size : Int) < (pre.length : Int) + 1
        all_goals
          gi_wp2_with (gi_at_builtin; refine wpListIn_append_own _ rfl (.tmp 54) (.tmp 56) 33 rfl (b9 + 2) 9 i0 (.string ByteArray.empty) 1 16 Tryd.underlying33 hi hz0 hz1 hz2 rfl (by decide) _ pre.length (svals pre) rfl (hrowH.out.alloc _) ⟨W.heap.size, 0, none⟩ 1 1 [.string x.1] rfl rfl (cell_one_new _ _ _) (by simp [Value.oneCell']) (by unfold maxLen; omega) (by omega) (by simp; omega) ?_; intro v' w1 hown' hgrow _; obtain ⟨g', cap', rfl⟩ := ownsRow_succ hown'; obtain ⟨q1, q2, q3, q4⟩ := step2 hvH.out hTH.out hrowH.out hrH.out hv5.out (by omega) h59 rfl hMs (by rw [← svals_snoc]; exact hown') hgrow; have hc1 := q1.cell; have hf1 := q1.frozen; have hc2 := q2.cell; have hf2 := q2.frozen; have hc3 := q3.s2.cell; have hc4 := q3.s4.cell; have hf4 := q3.s4.frozen; have Q4 := Lib.hid q4; clear q1 q2 q3 q4 hown' hgrow)
        · refine ⟨Q4.out (.string (T ++ x.1)) |>.2.2.2.2.1.trans (KeepsOthers.setCell _ _ _), rfl, ?_⟩
          rw [List.length_append]; simp; omega
        · obtain ⟨z1, z2, z3, z4, z5, z6⟩ := Q4.out (.string (T ++ x.1))
          refine ⟨z5, ⟨z6, z4.sn.trans hrH.out.sn.symm⟩, ⟨⟨_, z1, ?_⟩, ⟨_, z2, ?_⟩, z4, z5.same D _ hKH.out rfl, ?_⟩, hBH.out.trans z6⟩
          · rw [List.length_append]; exact z3
          · rw [app_data, hTjH.out, joined_snoc]
          · rw [List.length_append]; simp; omega
      · clear hrV hKV hBV v9 v10
        rintro D2 zs W hD2 hzs ⟨⟨⟨v, hv, hrow, -⟩, ⟨T, hT, hTj⟩, hr, hK1, -⟩, hB⟩ hK2
        have hzL : zs = L := by rw [hzs]; exact hLH.out
        have hTs : T = s := by
          have : T.data.toList = s.data.toList := by rw [hTj, hzs, joined_lines]
          cases T; cases s; congr 1; exact Array.toList_inj.1 this
        subst hTs
        have hTx2 := Lib.hid (texts_same v vw L W (by rw [← hzL]; exact txt_of hrow) (txt_of hr.rw))
        have c9 := hv.cell
        have c10 := hT.cell
        have c2 := hr.s2.cell
        have c5 := hr.s5.cell
        have c4 := hr.s4.cell
        have f4 := hr.s4.frozen
        have hD2W : D2 < W.heap.size := (Array.getElem?_eq_some_iff.1 hK2).1
        have hrH := Lib.hid hr
        have hBH := Lib.hid hB
        have hK1H := Lib.hid hK1
        have hK2H := Lib.hid hK2
        clear hzs hzL hTj hT hv hrow hr hB hK1 hK2 hTx
        gi_wp2_with (refine ⟨trivial, ?_⟩; gi_at_call 25; refine (callsIn_wide.2 hTx2.out).mono ?_; rintro e w2 ⟨rfl, m, rfl⟩)
        have k2 := (KeepsOthers.setCell (W.drewN m) ⟨n₀ + 2, 0, none⟩ (.bool true)).same D2 _ hK2H.out rfl
        have k1 : (((W.drewN m).setCell ⟨n₀ + 2, 0, none⟩ (.bool true)).putObj D2 (.deferred none)).heap[D]? = some (.deferred (some [])) := (World.putObj_heap_other (by omega)).trans ((KeepsOthers.setCell (W.drewN m) ⟨n₀ + 2, 0, none⟩ (.bool true)).same D _ hK1H.out rfl)
        have q4 : Boxed ((W.drewN m).setCell ⟨n₀ + 2, 0, none⟩ (.bool true)) (n₀ + 2) 4 (.bool true) := Boxed.set (W := W.drewN m) _ hrH.out.s4
        have q5 : Boxed (((((W.drewN m).setCell ⟨n₀ + 2, 0, none⟩ (.bool true)).putObj D2 (.deferred none))).putObj D (.deferred none)) (n₀ + 2) 4 (.bool true) :=
          (World.putObj_heap_other (by omega)).trans ((World.putObj_heap_other (by omega)).trans q4)
        have q6 := q5.cell
        refine ⟨by simp, .inl ⟨_, _, rfl, run_takeDeferred k2, ⟨by simp, .inl ⟨_, _, rfl, run_takeDeferred k1, ?_⟩⟩⟩⟩
        refine ⟨.bool true, ?_, rfl, ?_⟩
        · simp [results, Tryd.f6, go_sem, q6]
        · exact (((below_drewN (hBH.out.mono hle2) m).setCell (p := ⟨n₀ + 2, 0, none⟩) (by simp; omega) _).trans (belowK_b (w := w) (Nat.le_refl _) _ D2 _ _ (by omega) k2 rfl rfl)).trans (belowK_b (w := w) (Nat.le_refl _) _ D _ _ (by omega) k1 rfl rfl)
      · rintro D2 c pre W _ hpre ⟨_, hx⟩ _
        have := hpre.length_le
        have := lines_len s hs1
        omega

theorem octetLines_w (s : ByteArray) (stop : Int) (W : World) (z : s.data.toList.length ≤ reachBytes) (wn : (Lit.int .i64 stop).wf = true) (g : Gl W) :
    Calls Tryd.prog 6 #[.string s, .int .i64 stop] W fun e w' => e = .returned (.bool true) ∧ Below W.heap.size W w' :=
  callsIn_wide.1 (octetLines_in s stop W (reach_size z) (i64_of wn).1 (i64_of wn).2 g)
end Go.Proofs.YtgadnlnclpoeaaaDoor
