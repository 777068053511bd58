/- The reference's bracket. Condition: lengths. -/
import Derived.Test.YtlaidmjlgjpgcaaPatS
namespace Go.Proofs.Ytlaidmjlgjpgcaa
open Go.RowKit
attribute [local go_sem] Oper.semAt_some

def RefBrR (r : Option ((UInt8 → Bool) × Nat)) (q : Nat) (c : UInt8) (w : World) (e : Ending) (w' : World) : Prop :=
  Below w.heap.size w w' ∧ ((∃ S x, r = some (S, x) ∧ e = .returned (.tuple #[.int .i64 (((x : Nat) : Int) - (q : Int)), .bool (S c)])) ∨ (r = none ∧ e = .returned (.tuple #[.int .i64 0, .bool false])))
theorem lies_below {n₀ : Nat} {av : Option Addr} {n : Nat} {p : List Ch} {w w' : World} (hn : p.length = n) (hP : ChsAt n₀ w av p) (hn2 : n ≤ 1000000) (hb : Below n₀ w w') : Lies av n p w' :=
  ⟨hn, ⟨n₀, hP.below hb⟩, hn2⟩
theorem brF_go {p : List Ch} {a i : Nat} {S : UInt8 → Bool} {m : Mem} {nx : Nat} (hi : i < p.length) (hg : i = a ∨ isAt p i 93 = false) (hm : memP p i = (m, nx)) (h : brk p a = brF (mems p a i) (S, i)) : brk p a = brF (mems p a nx) (fun c => S c || inMem m c, nx) := by
  rw [h, mems_cons hi hg, brF_cons, hm]
theorem memP_cls {p : List Ch} {i : Nat} {e : List UInt8 × Mem} (h : clsAt p i = some e) : memP p i = (e.2, i + 9) := by unfold memP; rw [h]
theorem memP_span {p : List Ch} {i : Nat} {x y : Ch} (h : clsAt p i = none) (h1 : isAt p (i + 1) 45 = true) (h2 : i + 2 < p.length) (h3 : isAt p (i + 2) 93 = false) (hx : p[i]? = some x) (hy : p[i + 2]? = some y) : memP p i = (oneM ⟨x.1, y.1⟩, i + 3) := by
  unfold memP; rw [h]; dsimp only; rw [if_pos ⟨h1, h2, h3⟩, chAt_some hx, chAt_some hy]
theorem memP_one {p : List Ch} {i : Nat} {x : Ch} (h : clsAt p i = none) (h1 : ¬ (isAt p (i + 1) 45 = true ∧ i + 2 < p.length ∧ isAt p (i + 2) 93 = false)) (hx : p[i]? = some x) : memP p i = (oneM ⟨x.1, x.1⟩, i + 1) := by
  unfold memP; rw [h]; dsimp only; rw [if_neg h1, chAt_some hx]

set_option maxHeartbeats 3000000 in
set_option maxRecDepth 100000 in
theorem refBracket_any (av : Option Addr) (n cv : Nat) (p : List Ch) (q : Nat) (c : UInt8) (w : World) (hn : p.length = n) (hP : ChsAt w.heap.size w av p) (hn2 : n ≤ 1000000) (hq : q < n) :
    Calls Try.prog 35 #[.slice av n cv, .int .i64 (q : Int), .int .u8 (c.toNat : Int)] w (RefBrR (brAt p q) q c w) := by
  have hnH := Lib.hid hn
  have hPH := Lib.hid hP
  obtain ⟨n₀, hn₀⟩ : ∃ n₀, w.heap.size = n₀ := ⟨_, rfl⟩
  rw [hn₀] at hPH
  have hn₀H := Lib.hid hn₀
  have hLw : Hid (∀ W, Below n₀ w W → Lies av n p W) := Lib.hid (fun W hW => lies_below hnH.out hPH.out hn2 hW)
  obtain ⟨tb, htb⟩ : ∃ tb, isAt p (q + 1) 33 = tb := ⟨_, rfl⟩
  obtain ⟨a, ha⟩ : ∃ a, brA p q = a := ⟨_, rfl⟩
  have hav : Hid (a = if tb = true then q + 2 else q + 1) := Lib.hid (by rw [← ha, ← htb]; rfl)
  have han : q < a ∧ a ≤ n := by
    constructor
    · rw [← ha]; exact brA_gt p q
    · rw [hav.out]
      cases tb
      · show q + 1 ≤ n; omega
      · have := isAt_lt htb; rw [hn] at this; show q + 2 ≤ n; omega
  have hbr : Hid (brAt p q = if (brk p a).2 < n then some (fun c => (brk p a).1 c != tb, (brk p a).2 + 1) else none) := Lib.hid (by unfold brAt; rw [ha, htb, hn])
  have h33 := Lib.hid (is33 cv (q + 1) (hLw.out w (Below.refl _ _)) (by omega))
  rw [htb] at h33
  obtain ⟨cn, hcn⟩ : ∃ cn, c.toNat = cn := ⟨_, rfl⟩
  have hcnH := Lib.hid hcn
  rw [hcn]
  have e1 : Hid (((q : Int) + 1) = ((q + 1 : Nat) : Int)) := Lib.hid (by omega)
  rw [← e1.out] at h33
  clear hn hP hn₀ htb ha hcn
  go_enter Try.func35, Try.ntmps35
  go_upto_if 19 with ((go_at_call 34; (with_reducible refine h33.out.mono ?_); rintro e w1 ⟨rfl, rfl⟩))
  go_cut [8] (fun s8 wx => s8 = .int .i64 a ∧ w = wx)
  case first =>
    cases tb
    · go_wp2_with fail
      go_meet
      exact ⟨by rw [hav.out]; go_num, rfl⟩
    · go_wp2_with fail
      go_meet
      exact ⟨by rw [hav.out]; simp; omega, rfl⟩
  case rest =>
    obtain ⟨rfl, rfl⟩ := hcut
    clear h33
    go_wp2_with fail
    go_loopw [8, 10, 11] (fun s8 s10 s11 wr => ∃ (i : Nat) (S : UInt8 → Bool), a ≤ i ∧ i ≤ n ∧ s8 = .int .i64 i ∧ s10 = .bool (S c) ∧ s11 = .bool (decide (i = a)) ∧ Hid (brk p a = brF (mems p a i) (S, i)) ∧ Hid (Below n₀ w wr)) (fun s8 _ _ _ => n - (intOf s8).toNat)
    case atStart => exact ⟨a, fun _ => false, Nat.le_refl _, han.2, rfl, rfl, by rw [decide_eq_true rfl], Lib.hid rfl, Lib.hid (Below.refl _ _)⟩
    case round =>
      obtain ⟨i, S, hai, hin, rfl, rfl, rfl, hbk, hB⟩ := hrel
      obtain ⟨fd, hfd⟩ : ∃ fd, S c = fd := ⟨_, rfl⟩
      have hfdH := Lib.hid hfd
      obtain ⟨fs, hfs⟩ : ∃ fs, decide (i = a) = fs := ⟨_, rfl⟩
      have hfsH := Lib.hid hfs
      rw [hfd, hfs]
      clear hfd hfs
      by_cases hlt : i < n
      · have hlt' : (i : Int) < (n : Int) := by omega
        obtain ⟨v93, hv93⟩ : ∃ v, isAt p i 93 = v := ⟨_, rfl⟩
        have h93 := Lib.hid (is93 cv i (hLw.out wr hB.out) (by omega))
        rw [hv93] at h93
        have hv93H := Lib.hid hv93
        clear hv93
        go_upto_region 9 with fail
        go_cut [32] (fun s32 wx => s32 = .bool (v93 && !fs) ∧ wr = wx)
        case first =>
          cases v93
          · go_wp2_with ((go_at_call 34; (with_reducible refine h93.out.mono ?_); rintro e w1 ⟨rfl, rfl⟩))
            go_meet
            exact ⟨rfl, rfl⟩
          · go_wp2_with ((go_at_call 34; (with_reducible refine h93.out.mono ?_); rintro e w1 ⟨rfl, rfl⟩))
            go_meet
            exact ⟨by rw [Bool.true_and], rfl⟩
        case rest =>
          obtain ⟨rfl, rfl⟩ := hcut
          obtain ⟨st, hst⟩ : ∃ st, (v93 && !fs) = st := ⟨_, rfl⟩
          rw [hst]
          have hstH := Lib.hid hst
          clear hst h93
          cases st
          · have hgo : Hid (i = a ∨ isAt p i 93 = false) := Lib.hid (by
              have h := hstH.out
              cases hv : v93
              · exact .inr (by rw [hv93H.out, hv])
              · rw [hv, Bool.true_and] at h
                left
                have h2 := hfsH.out
                cases fs
                · cases h
                · exact of_decide_eq_true h2)
            have hcl := Lib.hid (refClass_any av n cv p i c wr (fun W hW => hLw.out W (hB.out.trans (hW.mono (by have := hB.out.size; have := hn₀H.out; omega)))) (by omega))
            rw [hcnH.out] at hcl
            have hpi : i < p.length := by rw [hnH.out]; exact hlt
            obtain ⟨x, hx⟩ : ∃ x, p[i]? = some x := ⟨_, List.getElem?_eq_getElem hpi⟩
            have hxH := Lib.hid hx
            have hpiH := Lib.hid hpi
            clear hpi hx
            go_wp2_with fail
            refine hcl.out.mono ?_
            rintro e w2 ⟨hb2, ⟨y, hy, rfl⟩ | ⟨hy, rfl⟩⟩
            · have hyH := Lib.hid hy
              have hB2 := Lib.hid (hB.out.trans (hb2.mono (by have := hB.out.size; have := hn₀H.out; omega)))
              have h9 := (clsAt_len hy).1
              rw [hnH.out] at h9
              obtain ⟨im, him⟩ : ∃ im, inMem y.2 c = im := ⟨_, rfl⟩
              rw [him]
              have himH := Lib.hid him
              have hnext := Lib.hid (brF_go hpiH.out hgo.out (memP_cls hy) hbk.out)
              clear hy hb2 him hcl
              cases fd
              all_goals
                go_wp2_with fail
                go_roundw
                case rel => exact ⟨i + 9, _, by omega, h9, by go_num, by rw [hfdH.out, himH.out]; rfl, by rw [decide_eq_false (by omega)], hnext, hB2⟩
                case measure => simp [intOf]; omega
            · have hyH := Lib.hid hy
              have hB2 := Lib.hid (hB.out.trans (hb2.mono (by have := hB.out.size; have := hn₀H.out; omega)))
              clear hy hb2 hcl
              obtain ⟨v45, hv45⟩ : ∃ v, isAt p (i + 1) 45 = v := ⟨_, rfl⟩
              have h45 := Lib.hid (is45 cv (i + 1) (hLw.out w2 hB2.out) (by omega))
              rw [hv45] at h45
              have hv45H := Lib.hid hv45
              obtain ⟨v3, hv3⟩ : ∃ v, isAt p (i + 2) 93 = v := ⟨_, rfl⟩
              have h3 := Lib.hid (is93 cv (i + 2) (hLw.out w2 hB2.out) (by omega))
              rw [hv3] at h3
              have hv3H := Lib.hid hv3
              have i1 : Hid (((i : Int) + 1) = ((i + 1 : Nat) : Int)) := Lib.hid (by omega)
              have i2 : Hid (((i : Int) + 2) = ((i + 2 : Nat) : Int)) := Lib.hid (by omega)
              rw [← i1.out] at h45
              rw [← i2.out] at h3
              clear hv45 hv3
              go_upto_region 17 with fail
              go_cut [69] (fun s69 wx => s69 = .bool (v45 && decide (i + 2 < n) && !v3) ∧ w2 = wx)
              case first =>
                cases v45
                · go_wp2_with ((go_at_call 34; (with_reducible refine h45.out.mono ?_); rintro e w1 ⟨rfl, rfl⟩))
                  go_meet
                  exact ⟨rfl, rfl⟩
                · by_cases h2 : i + 2 < n
                  · have h2' : (i : Int) + 2 < (n : Int) := by omega
                    have hd := Lib.hid (decide_eq_true h2)
                    clear h2
                    go_wp2_with (first | (go_at_call 34; (with_reducible refine h45.out.mono ?_); rintro e w1 ⟨rfl, rfl⟩) | (go_at_call 34; (with_reducible refine h3.out.mono ?_); rintro e w1 ⟨rfl, rfl⟩))
                    go_meet
                    exact ⟨by rw [hd.out]; rfl, rfl⟩
                  · have h2' : ¬ (i : Int) + 2 < (n : Int) := by omega
                    have hd := Lib.hid (decide_eq_false h2)
                    clear h2
                    go_wp2_with (first | (go_at_call 34; (with_reducible refine h45.out.mono ?_); rintro e w1 ⟨rfl, rfl⟩) | (go_at_call 34; (with_reducible refine h3.out.mono ?_); rintro e w1 ⟨rfl, rfl⟩))
                    go_meet
                    exact ⟨by rw [hd.out]; rfl, rfl⟩
              case rest =>
                obtain ⟨rfl, rfl⟩ := hcut
                obtain ⟨hy2, hhy2⟩ : ∃ b, (v45 && decide (i + 2 < n) && !v3) = b := ⟨_, rfl⟩
                rw [hhy2]
                have hhyH := Lib.hid hhy2
                clear hhy2 h45 h3
                obtain ⟨_, hA⟩ := (hLw.out w2 hB2.out).at_
                obtain ⟨g, off, rfl, _, c0, _⟩ := hA i x hxH.out
                have hAH := Lib.hid hA
                clear hA
                obtain ⟨xn, hxn⟩ : ∃ xn, x.1.toNat = xn := ⟨_, rfl⟩
                rw [hxn] at c0
                have hxnH := Lib.hid hxn
                clear hxn
                cases hy2
                · have hnot : Hid (¬ (isAt p (i + 1) 45 = true ∧ i + 2 < p.length ∧ isAt p (i + 2) 93 = false)) := Lib.hid (by
                    rintro ⟨g1, g2, g3⟩
                    have h := hhyH.out
                    rw [← hv45H.out, ← hv3H.out, g1, g3, ← hnH.out, decide_eq_true g2] at h
                    cases h)
                  have hnext := Lib.hid (brF_go hpiH.out hgo.out (memP_one hyH.out hnot.out hxH.out) hbk.out)
                  have him : Hid (inMem (oneM ⟨x.1, x.1⟩) c = decide (xn = cn)) := Lib.hid (by
                    rw [inMem_one, inSp_iff, ← hxnH.out, ← hcnH.out]
                    exact decide_eq_decide.2 ⟨fun h => by omega, fun h => by omega⟩)
                  cases fd
                  · by_cases hxc : xn = cn
                    · have e2 : ((xn : Int) == (cn : Int)) = true := by rw [hxc]; simp
                      have hd := Lib.hid (decide_eq_true hxc)
                      clear hxc
                      go_wp2_with fail
                      go_roundw
                      case rel => exact ⟨i + 1, _, by omega, by omega, by go_num, by rw [hfdH.out, him.out, hd.out]; rfl, by rw [decide_eq_false (by omega)], hnext, hB2⟩
                      case measure => simp [intOf]; omega
                    · have e2 : ((xn : Int) == (cn : Int)) = false := beq_eq_false_iff_ne.2 (by omega)
                      have hd := Lib.hid (decide_eq_false hxc)
                      clear hxc
                      go_wp2_with fail
                      go_roundw
                      case rel => exact ⟨i + 1, _, by omega, by omega, by go_num, by rw [hfdH.out, him.out, hd.out]; rfl, by rw [decide_eq_false (by omega)], hnext, hB2⟩
                      case measure => simp [intOf]; omega
                  · go_wp2_with fail
                    go_roundw
                    case rel => exact ⟨i + 1, _, by omega, by omega, by go_num, by rw [hfdH.out]; rfl, by rw [decide_eq_false (by omega)], hnext, hB2⟩
                    case measure => simp [intOf]; omega
                · have hyes : Hid (isAt p (i + 1) 45 = true ∧ i + 2 < p.length ∧ isAt p (i + 2) 93 = false) := Lib.hid (by
                    have h := hhyH.out
                    rw [Bool.and_eq_true, Bool.and_eq_true, decide_eq_true_iff] at h
                    refine ⟨by rw [hv45H.out, h.1.1], by rw [hnH.out]; exact h.1.2, ?_⟩
                    rw [hv3H.out]
                    cases v3
                    · rfl
                    · cases h.2)
                  have hi2 : i + 2 < n := by have := hyes.out.2.1; have := hnH.out; omega
                  obtain ⟨y, hyy⟩ : ∃ y, p[i + 2]? = some y := ⟨_, List.getElem?_eq_getElem hyes.out.2.1⟩
                  obtain ⟨g', off', e', _, d0, _⟩ := hAH.out (i + 2) y hyy
                  obtain ⟨rfl, rfl, -⟩ := Addr.mk.inj (Option.some.inj e')
                  have hnext := Lib.hid (brF_go hpiH.out hgo.out (memP_span hyH.out hyes.out.1 hyes.out.2.1 hyes.out.2.2 hxH.out hyy) hbk.out)
                  obtain ⟨yn, hyn⟩ : ∃ yn, y.1.toNat = yn := ⟨_, rfl⟩
                  rw [hyn] at d0
                  have him : Hid (inMem (oneM ⟨x.1, y.1⟩) c = decide (xn ≤ cn ∧ cn ≤ yn)) := Lib.hid (by
                    rw [inMem_one, inSp_iff, ← hxnH.out, ← hcnH.out, ← hyn])
                  have hi2' : (i : Int) + 2 < (n : Int) := by omega
                  clear hyy hyn e'
                  cases fd
                  · by_cases h1 : xn ≤ cn
                    · have h1' : (xn : Int) ≤ (cn : Int) := by omega
                      by_cases h2 : cn ≤ yn
                      · have h2' : (cn : Int) ≤ (yn : Int) := by omega
                        have hd := Lib.hid (decide_eq_true (And.intro h1 h2))
                        clear h1 h2
                        go_wp2_with fail
                        go_roundw
                        case rel => exact ⟨i + 3, _, by omega, by omega, by go_num, by rw [hfdH.out, him.out, hd.out]; rfl, by rw [decide_eq_false (by omega)], hnext, hB2⟩
                        case measure => simp [intOf]; omega
                      · have h2' : ¬ (cn : Int) ≤ (yn : Int) := by omega
                        have hd := Lib.hid (decide_eq_false (p := xn ≤ cn ∧ cn ≤ yn) (fun h => h2 h.2))
                        clear h1 h2
                        go_wp2_with fail
                        go_roundw
                        case rel => exact ⟨i + 3, _, by omega, by omega, by go_num, by rw [hfdH.out, him.out, hd.out]; rfl, by rw [decide_eq_false (by omega)], hnext, hB2⟩
                        case measure => simp [intOf]; omega
                    · have h1' : ¬ (xn : Int) ≤ (cn : Int) := by omega
                      have hd := Lib.hid (decide_eq_false (p := xn ≤ cn ∧ cn ≤ yn) (fun h => h1 h.1))
                      clear h1
                      go_wp2_with fail
                      go_roundw
                      case rel => exact ⟨i + 3, _, by omega, by omega, by go_num, by rw [hfdH.out, him.out, hd.out]; rfl, by rw [decide_eq_false (by omega)], hnext, hB2⟩
                      case measure => simp [intOf]; omega
                  · go_wp2_with fail
                    go_roundw
                    case rel => exact ⟨i + 3, _, by omega, by omega, by go_num, by rw [hfdH.out]; rfl, by rw [decide_eq_false (by omega)], hnext, hB2⟩
                    case measure => simp [intOf]; omega
          · have h := hstH.out
            rw [Bool.and_eq_true] at h
            have hne : Hid (i ≠ a ∧ isAt p i 93 = true) := Lib.hid (by
              constructor
              · have h2 := hfsH.out
                cases fs
                · exact of_decide_eq_false h2
                · cases h.2
              · rw [hv93H.out, h.1])
            have hend : Hid (brk p a = (S, i)) := Lib.hid (by rw [hbk.out, mems_nil (.inr hne.out)]; rfl)
            clear h
            go_wp2_with fail
            go_ret2
            refine ⟨by rw [hn₀H.out]; exact hB.out, .inl ⟨fun c => S c != tb, i + 1, ?_, ?_⟩⟩
            · rw [hbr.out, hend.out, if_pos hlt]
            · have e : (S c != tb) = (!fd == tb) := by rw [hfdH.out]; cases fd <;> cases tb <;> rfl
              show Ending.returned (.tuple #[.int .i64 ((i : Int) + 1 - (q : Int)), .bool (!fd == tb)]) = .returned (.tuple #[.int .i64 (((i + 1 : Nat) : Int) - (q : Int)), .bool (S c != tb)])
              rw [e, show (((i + 1 : Nat) : Int)) = (i : Int) + 1 by omega]
      · have hlt' : ¬ (i : Int) < (n : Int) := by omega
        have hend : Hid (brk p a = (S, i)) := Lib.hid (by rw [hbk.out, mems_nil (.inl (by rw [hnH.out]; omega))]; rfl)
        go_wp2_with fail
        go_ret2
        exact ⟨by rw [hn₀H.out]; exact hB.out, .inr ⟨by rw [hbr.out, hend.out, if_neg hlt], rfl⟩⟩
end Go.Proofs.Ytlaidmjlgjpgcaa
