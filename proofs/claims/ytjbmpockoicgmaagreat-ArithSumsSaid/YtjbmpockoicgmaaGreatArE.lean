/- The iterator over a text's tokens. No condition but that the text is short. -/
import Derived.Test.YtjbmpockoicgmaaGreatArD
import Derived.Test.YtjbmpockoicgmaaGreatArR
import Derived.RangeFuncNested
import Derived.RangeFuncBound
import Derived.RangeFuncCalls
import Derived.RangeFuncLeaves
import Derived.RangeFuncFrom
import Derived.RangeFuncBox
import Derived.Shelf.Abstract
import Derived.Shelf.RegionOpen
import Derived.OwnWalk
import Derived.OwnWalkIn
import Derived.TacticsInMore
import Derived.LoopNIn
import Derived.LoopIn
import Derived.Sort.CutIn
import Derived.Sort.QuietIn
namespace Go.Proofs.YtjbmpockoicgmaaGreat
open Go.RowKit Go.Shelf Go.PlainAid
set_option linter.unusedVariables false
set_option linter.unusedSimpArgs false
attribute [local go_sem] Oper.semAt_some

theorem alB (w : World) (o : Obj) : Below w.heap.size w (w.alloc o) := (Below.refl _ _).alloc (Nat.le_refl _) _
theorem below_of {k n₀ : Nat} {w w1 : World} (h : Below k w w1) (hk : n₀ ≤ k) : Below n₀ w w1 := ⟨h.os, h.tape, h.output, h.size, fun g hg => h.block g (by omega)⟩
theorem newB (w : World) (cs : Array Value) {t : TypeId} (g : Nat) (hg : w.heap.size = g) : Blk (w.alloc (.cells cs t)) g t cs := by rw [← hg]; exact Blk.new _ _ _
def encTk (t : Tk) : Array Value := #[.agg #[.int .i64 t.kind, .string t.text, .int .i64 t.num]]
theorem Keeps.blk {T : List Nat} {A B : World} (h : Keeps T A B) {g : Nat} {t : TypeId} {cs : Array Value} (hb : Blk A g t cs) (hg : g ∈ T) : Blk B g t cs := (h.block g hg hb.lt).trans hb
theorem blanks_on {s : ByteArray} {f n : Nat} (h : n < s.size) (hn : blankB (bt s n) = true) : blanks s (f + 1) n = blanks s f (n + 1) := by rw [blanks, if_pos ⟨h, hn⟩]
theorem blanks_no {s : ByteArray} {f n : Nat} (h : ¬ (n < s.size ∧ blankB (bt s n) = true)) : blanks s f n = n := by
  cases f with
  | zero => rfl
  | succ f => rw [blanks, if_neg h]
theorem toks_last {s : ByteArray} {f k : Nat} (h : lastTk (tokAt s k) = true) : toksF s (f + 1) k = [tokAt s k] := by rw [toksF, if_pos h]
theorem toks_more {s : ByteArray} {f k : Nat} (h : lastTk (tokAt s k) = false) : toksF s (f + 1) k = tokAt s k :: toksF s f (blanks s s.size k + (tokAt s k).text.size) := by rw [toksF, if_neg (by rw [h]; exact Bool.false_ne_true)]

set_option maxRecDepth 100000 in
set_option maxHeartbeats 4000000 in
theorem tokens1_in (d : Nat) (hd : 1 ≤ d) (l B : Nat) (s : ByteArray) (hs : s.size ≤ 100000) (J Jx : List Nat → List Tk → World → Prop) (hJ : Abide J) (hJx : Abide Jx)
    (hY : ∀ T pre x W1, pre ++ [x] <+: toksM s → J T pre W1 → YieldAt Fence.wide (d - 1) Tryz.prog l (encTk x) W1 fun e W' =>
      (e = .returned (.bool true) ∧ J T (pre ++ [x]) W' ∧ Keeps T W1 W') ∨ (e = .returned (.bool false) ∧ Jx T (pre ++ [x]) W' ∧ Keeps T W1 W'))
    (W : World) (hB : Blk W B 9 #[.string s]) (h0 : J [B] [] W) :
    CallsIn Fence.wide d Tryz.prog 23 #[.func (.yield l) #[] #[], .pointer (some ⟨B, 0, none⟩)] W fun e W' => (∃ v, e = .returned v) ∧
      ((∃ T xs, xs = toksM s ∧ J T xs W') ∨ (∃ T pre, pre <+: toksM s ∧ Jx T pre W')) := by
  refine callsIn_of_wp Tryz.func23 rfl trivial ?_ rfl
  simp only [Tryz.ntmps23, List.size_toArray, List.length_cons, List.length_nil, Nat.reduceAdd, Nat.reduceSub, Array.replicate_succ, Array.replicate_zero, List.push_toArray, List.append_toArray, List.nil_append, List.cons_append]
  have hBH := Lib.hid hB
  have h0H := Lib.hid h0
  have hJH := Lib.hid hJ
  have hYH := Lib.hid hY
  have hb := get_bt s
  clear hB h0 hJ hY hJx
  gi_wp2
  gi_loopw [3] (fun s3 wr => ∃ (k f : Nat) (pre : List Tk), k ≤ s.size ∧ s.size + 1 ≤ k + f ∧ s3 = .int .i64 k ∧ Hid (pre ++ toksF s f k = toksM s) ∧ Hid (Blk wr B 9 #[.string s]) ∧ Hid (J [B] pre wr)) (fun s3 _ => s.size - (intOf s3).toNat)
  case atStart => exact ⟨0, s.size + 1, [], Nat.zero_le _, by omega, by go_num, Lib.hid rfl, hBH, h0H⟩
  case round =>
    obtain ⟨k, f, pre, hk, hf, rfl, hpre, hBr, hJr⟩ := hrel
    have x0 : wr.cell? ⟨B, 0, none⟩ = some (.string s) := hBr.out.cell 0
    obtain ⟨f, rfl⟩ : ∃ g, f = g + 1 := ⟨f - 1, by omega⟩
    have hbl := blanks_le s s.size k hk
    obtain ⟨wo, rfl⟩ : ∃ wo : World, wo = wr := ⟨_, rfl⟩
    have hts : Hid (∀ b, blanks s s.size k = b → tokAt s k = tokM (s.extract b s.size)) := Lib.hid (fun b e => by unfold tokAt; rw [e])
    have hmore := Lib.hid (toks_more (s := s) (f := f) (k := k))
    have hlast := Lib.hid (toks_last (s := s) (f := f) (k := k))
    obtain ⟨b, hbe⟩ : ∃ b, blanks s s.size k = b := ⟨_, rfl⟩
    rw [hbe] at hbl hmore
    obtain ⟨hbl0, hbl1⟩ := hbl
    have hbeH := Lib.hid hbe
    clear hbe
    gi_wp2
    gi_loopw [3] (fun s3 wr => ∃ (n g : Nat), n ≤ b ∧ s.size ≤ n + g ∧ s3 = .int .i64 n ∧ Hid (blanks s g n = b) ∧ wo = wr) (fun s3 _ => b - (intOf s3).toNat)
    case atStart => exact ⟨k, s.size, hbl0, by omega, by go_num, hbeH, rfl⟩
    case round =>
      obtain ⟨n, g, hn, hg, rfl, hbn, rfl⟩ := hrel
      have hns : n ≤ s.size := by omega
      by_cases hgo : n < s.size ∧ blankB (bt s n) = true
      · obtain ⟨hlt, hbb⟩ := hgo
        obtain ⟨g, rfl⟩ : ∃ q, g = q + 1 := ⟨g - 1, by omega⟩
        have hbn2 := Lib.hid ((blanks_on hlt hbb).symm.trans hbn.out)
        have hnb : n + 1 ≤ b := by rw [← hbn2.out]; exact (blanks_le s g (n + 1) hlt).1
        have hbH := Lib.hid hbb
        clear hbb
        gi_wp2_with (refine ⟨trivial, ?_⟩; gi_at_call 24; refine (callsIn_wide.2 (isBlank_any _ _)).mono ?_; rintro e w' ⟨rfl, rfl⟩; rw [hbH.out])
        go_roundw
        case rel => exact ⟨n + 1, g, hnb, by omega, by go_num, hbn2, trivial⟩
        case measure => simp [intOf]; omega
      · have hnb : n = b := (blanks_no hgo).symm.trans hbn.out
        subst hnb
        have hts2 := Lib.hid (hts.out n hbeH.out)
        have htk := Lib.hid (fun W => tokenOf_any (s.extract n s.size) W (by rw [ByteArray.size_extract]; omega))
        have htz : (tokM (s.extract n s.size)).text.size ≤ s.size - n := by have := tok_text (s.extract n s.size); rw [ByteArray.size_extract] at this; omega
        have htp := Lib.hid (tok_pos (s := s.extract n s.size))
        rw [← hts2.out] at htk htz htp
        obtain ⟨t, ht⟩ : ∃ t, tokAt s k = t := ⟨_, rfl⟩
        rw [ht] at htk htz htp hmore hlast
        clear ht hts2
        have hpx : Hid (pre ++ [t] <+: toksM s) := Lib.hid (by
          rw [← hpre.out]
          by_cases hl : lastTk t = true
          · rw [hlast.out hl]; exact List.prefix_refl _
          · rw [hmore.out (by simpa using hl)]
            exact ⟨_, by rw [List.append_assoc]; rfl⟩)
        rcases Nat.lt_or_ge n s.size with hlt | hlt
        case' inl =>
          have hnbb : blankB (bt s n) = false := by cases h9 : blankB (bt s n) with | false => rfl | true => exact absurd ⟨hlt, h9⟩ hgo
          have hbH := Lib.hid hnbb
          clear hnbb hgo
          gi_upto_region 3 with (refine ⟨trivial, ?_⟩; gi_at_call 24; refine (callsIn_wide.2 (isBlank_any _ _)).mono ?_; rintro e w' ⟨rfl, rfl⟩; rw [hbH.out])
        case' inr =>
          clear hgo
          gi_upto_region 3 with (refine ⟨trivial, ?_⟩)
        all_goals
          clear hlt
          gi_upto_region 4 with (refine ⟨trivial, ?_⟩; gi_at_call 25; refine (callsIn_wide.2 (htk.out _)).mono ?_; rintro e w2 ⟨rfl, hb2⟩; dsimp only [tkV])
          obtain ⟨q, hq⟩ : ∃ q, w2.heap.size = q := ⟨_, rfl⟩
          have hb8 : Below wo.heap.size wo (w2.alloc (.cells #[.int .i64 t.kind, .string t.text, .int .i64 t.num] 64)) := hb2.alloc hb2.size _
          have hT := Blk.new w2 64 #[.int .i64 t.kind, .string t.text, .int .i64 t.num]
          have hq0 := hb2.size
          rw [hq] at hT hq0
          obtain ⟨W8, hW8⟩ : ∃ W8, w2.alloc (.cells #[.int .i64 t.kind, .string t.text, .int .i64 t.num] 64) = W8 := ⟨_, rfl⟩
          rw [hW8, hq]
          rw [hW8] at hb8 hT
          have t0 : W8.cell? ⟨q, 0, none⟩ = some (.int .i64 t.kind) := hT.cell 0
          have t1 : W8.cell? ⟨q, 1, none⟩ = some (.string t.text) := hT.cell 1
          have t2 : W8.cell? ⟨q, 2, none⟩ = some (.int .i64 t.num) := hT.cell 2
          have hql := hT.lt
          have hJ8 := hJH.out [B] [q, B] pre wo W8 hJr.out ⟨hb8.os, hb8.tape, hb8.output, hb8.size, fun k hk _ => hb8.block k hk, fun k hk => by
            rcases List.mem_cons.1 hk with rfl | hk
            · exact .inr ⟨hq0, hql⟩
            · exact .inl hk⟩
          have hTH := Lib.hid hT
          have hB8 : Hid (Blk W8 B 9 #[.string s]) := Lib.hid (blk_beneath hBr.out hb8)
          obtain ⟨fn, tmps, assign, body, hy, hYR⟩ := hYH.out _ pre t W8 hpx.out hJ8
          have hYRH := Lib.hid hYR
          dsimp only [encTk] at hy
          clear hJ8 hYR hW8 hb8 hT hb2 hq
          gi_wp2
          refine hYRH.out.mono ?_
          rintro e W3 (⟨rfl, hJ3, hk3⟩ | ⟨rfl, hJx3, hk3⟩)
          · have hJ3H := Lib.hid hJ3
            have hT3 := hk3.blk hTH.out (List.mem_cons_self ..)
            have hB3 : Hid (Blk W3 B 9 #[.string s]) := Lib.hid (hk3.blk hB8.out (List.mem_cons_of_mem _ (List.mem_cons_self ..)))
            have u0 : W3.cell? ⟨q, 0, none⟩ = some (.int .i64 t.kind) := hT3.cell 0
            have u1 : W3.cell? ⟨q, 1, none⟩ = some (.string t.text) := hT3.cell 1
            have u2 : W3.cell? ⟨q, 2, none⟩ = some (.int .i64 t.num) := hT3.cell 2
            have us : W3.shape? q = some (64, 3) := hT3.shape
            have hJ4 := Lib.hid (hJH.out [q, B] [B] (pre ++ [t]) W3 W3 hJ3H.out ⟨rfl, rfl, rfl, Nat.le_refl _, fun _ _ _ => rfl, fun k hk => .inl (List.mem_cons_of_mem _ hk)⟩)
            clear hJ3 hk3 hT3
            cases c0 : ((t.kind : Int) == 0)
            · cases c4 : ((t.kind : Int) == 4)
              · have hl : lastTk t = false := decide_eq_false (fun h => h.elim (fun e => by rw [e] at c0; cases c0) (fun e => by rw [e] at c4; cases c4))
                have hp2 := Lib.hid (hpre.out.symm.trans (by rw [hmore.out hl]))
                have htp2 := Lib.hid (htp.out hl)
                have hsum : n + t.text.size ≤ s.size := by omega
                clear hl
                gi_wp2
                have htp3 := htp2.out
                go_roundw
                case rel => exact ⟨n + t.text.size, f, pre ++ [t], hsum, by omega, by go_num, Lib.hid (by rw [hp2.out, List.append_assoc]; rfl), hB3, hJ4⟩
                case measure => simp [intOf]; omega
              · have hl : lastTk t = true := decide_eq_true (.inr (by have := eq_of_beq c4; omega))
                have hp2 := Lib.hid (hpre.out.symm.trans (by rw [hlast.out hl]))
                clear hl
                gi_wp2
                refine bodyPost_ret (results_none rfl _ _ _) rfl ?_
                exact ⟨⟨_, rfl⟩, .inl ⟨_, _, hp2.out.symm, hJ3H.out⟩⟩
            · have hl : lastTk t = true := decide_eq_true (.inl (by have := eq_of_beq c0; omega))
              have hp2 := Lib.hid (hpre.out.symm.trans (by rw [hlast.out hl]))
              clear hl
              gi_wp2
              refine bodyPost_ret (results_none rfl _ _ _) rfl ?_
              exact ⟨⟨_, rfl⟩, .inl ⟨_, _, hp2.out.symm, hJ3H.out⟩⟩
          · have hJxH := Lib.hid hJx3
            clear hJx3 hk3
            gi_wp2
            refine bodyPost_ret (results_none rfl _ _ _) rfl ?_
            exact ⟨⟨_, rfl⟩, .inr ⟨_, _, hpx.out, hJxH.out⟩⟩
theorem tokens_any (s : ByteArray) (w : World) : Calls Tryz.prog 16 #[.string s] w fun e w' => e = .returned (.func (.func 23) #[] #[.pointer (some ⟨w.heap.size, 0, none⟩)]) ∧ w.alloc (.cells #[.string s] 9) = w' := by
  go_enter Tryz.func16, Tryz.ntmps16
  go_wp2
  go_ret
  exact ⟨rfl, rfl⟩
theorem tokens_stops (d : Nat) (hd : 1 ≤ d) (B : Nat) (s : ByteArray) (hs : s.size ≤ 100000) (w : World) (hB : Blk w B 9 #[.string s]) :
    SeqT Fence.wide d Tryz.prog 23 #[.pointer (some ⟨B, 0, none⟩)] encTk (fun _ _ _ _ => True) (fun xs => xs = toksM s) (fun pre => pre <+: toksM s) [B] w := by
  intro l J Jx W hW hJ hJx hY h0
  exact tokens1_in d hd l B s hs J Jx hJ hJx (fun T pre x W1 hsp hj => by
    obtain ⟨fn, tmps, assign, body, h1, h2, h3⟩ := hY T pre x W1 hsp hj
    exact ⟨fn, tmps, assign, body, h1, RoundIn.mono ⟨h2, h3⟩ (fun e w' h9 => h9.imp (fun h9 => ⟨h9.1, h9.2.1, h9.2.2.1⟩) id)⟩) W (blk_beneath hB hW) h0
end Go.Proofs.YtjbmpockoicgmaaGreat
