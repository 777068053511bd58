/- The iterator over a path's pieces; begin, endsWithSlash, enter, step. Condition: the tree lies as stated. -/
import Derived.Test.YtohgecmbkjienaaFlS
namespace Go.Proofs.Ytohgecmbkjienaa
open Go.RowKit Go.Shelf Go.PlainAid
attribute [local go_sem] Oper.semAt_some

theorem pieces_any (s : ByteArray) (w : World) : Calls Try.prog 64 #[.string s] w fun e w' => e = .returned (.func (.func 73) #[] #[.pointer (some ⟨w.heap.size, 0, none⟩)]) ∧ w' = w.alloc (.cells #[.string s] 9) := by
  go_enter Try.func64, Try.ntmps64
  go_wp2
  go_ret
  exact ⟨rfl, rfl⟩
def strSize (W : World) (b : Nat) : Nat := match W.cell? ⟨b, 0, none⟩ with
  | some (.string s) => s.size
  | _ => 0
theorem strSize_of {W : World} {b : Nat} {t : ByteArray} (h : Blk W b 9 #[.string t]) : strSize W b = t.size := by
  unfold strSize
  rw [h.cell 0]
  rfl
def encS (x : ByteArray) : Array Value := #[.string x]
theorem Ext.setIn {T : List Nat} {A : World} {c o : Nat} (hc : c ∈ T) (u : Value) : Ext T A T (A.setCell ⟨c, o, none⟩ u) :=
  ⟨rfl, rfl, rfl, by simp, fun k _ hk => Below.heap_setCell _ _ _ _ (fun e => hk (by rw [show k = c from e]; exact hc)), fun _ h => .inl h⟩
theorem Ext.drewN (T : List Nat) (A : World) (n : Nat) : Ext T A T (A.drewN n) := ⟨rfl, rfl, rfl, Nat.le_refl _, fun _ _ _ => rfl, fun _ h => .inl h⟩
section
variable (l b : Nat) (s : ByteArray) (Kp : List ByteArray → ByteArray → World → World → Prop) (J Jx : List Nat → List ByteArray → World → Prop) (hJ : Abide J)
  (hY : ∀ T pre x W, pre ++ [x] <+: pieces s → J T pre W → YieldAt Fence.wide 0 Try.prog l (encS x) W fun e W' => (e = .returned (.bool true) ∧ J T (pre ++ [x]) W' ∧ Keeps T W W' ∧ Kp pre x W W') ∨ (e = .returned (.bool false) ∧ Jx T (pre ++ [x]) W' ∧ Keeps T W W'))
include hJ hY
set_option maxRecDepth 100000 in
set_option maxHeartbeats 3000000 in
theorem pieces1_in (d : Nat) (hd : 1 ≤ d) (hs : s.size ≤ maxLen) (W : World) (hb : Blk W b 9 #[.string s]) (h0 : J [b] [] W) :
    CallsIn Fence.wide d Try.prog 73 #[.func (.yield l) #[] #[], .pointer (some ⟨b, 0, none⟩)] W fun e W' => (∃ v, e = .returned v) ∧ ((∃ T ys, ys = pieces s ∧ J T ys W') ∨ (∃ T pre, pre <+: pieces s ∧ Jx T pre W')) := by
  have hbH := Lib.hid hb
  have h0H := Lib.hid h0
  have hYH := Lib.hid hY
  have hJH := Lib.hid hJ
  clear hb h0 hY hJ
  refine callsIn_of_wp Try.func73 rfl trivial ?_ rfl
  simp only [Try.ntmps73, List.size_toArray, List.length_cons, List.length_nil, Nat.reduceAdd, Nat.reduceSub, Array.replicate_succ, Array.replicate_zero, List.push_toArray, List.append_toArray, List.nil_append, List.cons_append]
  gi_wp2
  gi_loopw [4] (fun _ wr => ∃ (t : ByteArray) (xs : List ByteArray), t.size ≤ maxLen ∧ Hid (Blk wr b 9 #[.string t]) ∧ Hid (xs ++ pieces t = pieces s) ∧ Hid (J [b] xs wr)) (fun _ wr => strSize wr b)
  case atStart => exact ⟨s, [], hs, hbH, Lib.hid rfl, h0H⟩
  case round =>
    obtain ⟨t, xs, ht, hB, hX, hJ⟩ := hrel
    have y0 : wr.cell? ⟨b, 0, none⟩ = some (.string t) := hB.out.cell 0
    by_cases hz : t.size = 0
    · obtain rfl : t = ⟨#[]⟩ := ba_ext (by rw [ba_nil.2 hz])
      gi_wp2
      go_end0
      refine ⟨⟨_, rfl⟩, .inl ⟨[b], _, rfl, ?_⟩⟩
      have h9 := hX.out
      rw [pieces_nil rfl, List.append_nil] at h9
      rw [← h9]
      exact hJ.out
    · have hne : (t.toList.isEmpty) = false := by
        rw [Lib.toList_data]
        cases h : t.data.toList with
        | nil => exact absurd (ba_nil.1 h) hz
        | cons a l => rfl
      have hcut := Lib.hid (fun w => cut_any' t w ht)
      have hst := Lib.hid (pieces_step t)
      have htl := Lib.hid (tail_lt hz)
      have hts : (tailP t).size ≤ maxLen := by have := htl.out; unfold maxLen at *; omega
      have hszr : Hid (strSize wr b = t.size) := Lib.hid (strSize_of hB.out)
      have f0 : wr.frozen? ⟨b, 0, none⟩ = false := hB.out.frozen 0
      by_cases hh : (headP t).size = 0
      · have hhe : headP t = ⟨#[]⟩ := ba_ext (by rw [ba_nil.2 hh])
        have hX2 : Hid (xs ++ pieces (tailP t) = pieces s) := Lib.hid (by have h9 := hX.out; rw [hst.out, if_pos hh] at h9; exact h9)
        have hheH := Lib.hid hhe
        clear hhe hh
        gi_wp2_with (refine ⟨trivial, ?_⟩; gi_at_call 74; refine (callsIn_wide.2 (hcut.out _)).mono ?_; rintro e w' ⟨rfl, m, rfl⟩; rw [hheH.out])
        have hB8 := Lib.hid (show Blk (wr.drewN m) b 9 #[.string t] from hB.out)
        have hJ8 := Lib.hid (hJH.out _ _ _ _ _ hJ.out (Ext.drewN [b] wr m))
        obtain ⟨W8, hW8⟩ : ∃ W8, wr.drewN m = W8 := ⟨_, rfl⟩
        rw [hW8] at hB8 hJ8 ⊢
        clear hW8
        have y8 : W8.cell? ⟨b, 0, none⟩ = some (.string t) := hB8.out.cell 0
        have f8 : W8.frozen? ⟨b, 0, none⟩ = false := hB8.out.frozen 0
        have hB9 := Lib.hid (hB8.out.set_ 0 (.string (tailP t)))
        have hs9 : Hid (strSize (W8.setCell ⟨b, 0, none⟩ (.string (tailP t))) b = (tailP t).size) := Lib.hid (strSize_of hB9.out)
        refine ⟨fun _ h => (by cases h), ?_⟩
        gi_wp2
        go_roundw
        case rel => exact ⟨tailP t, xs, hts, hB9, hX2, Lib.hid (hJH.out _ _ _ _ _ hJ8.out (Ext.setIn (List.mem_singleton.2 rfl) _))⟩
        case measure => rw [hs9.out, hszr.out]; exact htl.out
      · have hh2 : ((headP t).toList.isEmpty) = false := by
          rw [Lib.toList_data]
          cases h : (headP t).data.toList with
          | nil => exact absurd (ba_nil.1 h) hh
          | cons a l => rfl
        have hX2 : Hid (xs ++ [headP t] ++ pieces (tailP t) = pieces s) := Lib.hid (by have h9 := hX.out; rw [hst.out, if_neg hh, ← List.append_assoc] at h9; exact h9)
        have hpre : Hid (xs ++ [headP t] <+: pieces s) := Lib.hid ⟨_, hX2.out⟩
        have hhH := Lib.hid hh
        clear hh
        gi_wp2_with (refine ⟨trivial, ?_⟩; gi_at_call 74; refine (callsIn_wide.2 (hcut.out _)).mono ?_; rintro e w' ⟨rfl, m, rfl⟩; have hB8 := Lib.hid (show Blk (wr.drewN m) b 9 #[.string t] from hB.out); have hJ8 := Lib.hid (hJH.out _ _ _ _ _ hJ.out (Ext.drewN [b] wr m)); obtain ⟨fn, tmps, assign, body, hy, hYR⟩ := yield_wide (m' := d - 1) (hYH.out [b] _ (headP t) _ hpre.out hJ8.out); have hYRH := Lib.hid hYR; dsimp only [encS] at hy; clear hYR)
        refine hYRH.out.mono ?_
        rintro e W3 (⟨rfl, hJ3, hk3, _⟩ | ⟨rfl, hJx3, _⟩)
        · have hJ3H := Lib.hid hJ3
          have hB3 : Hid (Blk W3 b 9 #[.string t]) := Lib.hid ((hk3.block b (List.mem_singleton.2 rfl) hB8.out.lt).trans hB8.out)
          have y8 : W3.cell? ⟨b, 0, none⟩ = some (.string t) := hB3.out.cell 0
          have f8 : W3.frozen? ⟨b, 0, none⟩ = false := hB3.out.frozen 0
          have hB9 := Lib.hid (hB3.out.set_ 0 (.string (tailP t)))
          have hs9 : Hid (strSize (W3.setCell ⟨b, 0, none⟩ (.string (tailP t))) b = (tailP t).size) := Lib.hid (strSize_of hB9.out)
          clear hJ3 hk3 hy
          gi_wp2
          go_roundw
          case rel => exact ⟨tailP t, xs ++ [headP t], hts, hB9, hX2, Lib.hid (hJH.out _ _ _ _ _ hJ3H.out (Ext.setIn (List.mem_singleton.2 rfl) _))⟩
          case measure => rw [hs9.out, hszr.out]; exact htl.out
        · have hJxH := Lib.hid hJx3
          clear hJx3
          gi_wp2
          refine bodyPost_ret (results_none rfl _ _ _) rfl ?_
          exact ⟨⟨_, rfl⟩, .inr ⟨[b], _, hpre.out, hJxH.out⟩⟩
end
theorem pieces_stops (d : Nat) (hd : 1 ≤ d) (b : Nat) (s : ByteArray) (Kp : List ByteArray → ByteArray → World → World → Prop) (w : World) (hs : s.size ≤ maxLen) (hb : Blk w b 9 #[.string s]) :
    SeqT Fence.wide d Try.prog 73 #[.pointer (some ⟨b, 0, none⟩)] encS Kp (fun xs => xs = pieces s) (fun pre => pre <+: pieces s) [b] w := by
  intro l J Jx W hW hJ _ hY h0
  exact pieces1_in l b s Kp J Jx hJ (fun T pre x W h1 h2 => yield_wide (hY T pre x W h1 h2)) d hd hs W (blk_beneath hb hW) h0
theorem begin_any (dir : Int) (s : ByteArray) (w : World) (hs : s.size ≤ maxLen) : Calls Try.prog 63 #[.int .i64 dir, .string s] w fun e w' => e = .returned (.tuple #[.int .i64 (beginM dir s).1, .int .i64 (beginM dir s).2]) ∧ w' = w := by
  unfold maxLen at hs
  have hM : Hid (beginM dir s = if s.size = 0 then (0, 2) else if 256 < s.size then (0, 36) else if s.data.toList.head? = some 47 then (1, 0) else (dir, 0)) := Lib.hid rfl
  rw [hM.out]
  by_cases h0 : s.size = 0
  · rw [if_pos h0]
    obtain rfl : s = ⟨#[]⟩ := ba_ext (by rw [ba_nil.2 h0])
    clear hM
    go_enter Try.func63, Try.ntmps63
    go_wp2
    go_ret2
    exact ⟨rfl, rfl⟩
  · rw [if_neg h0]
    have hne : (s.toList.isEmpty) = false := by
      rw [Lib.toList_data]
      cases h : s.data.toList with
      | nil => exact absurd (ba_nil.1 h) h0
      | cons a l => rfl
    by_cases h1 : 256 < s.size
    · rw [if_pos h1]
      clear hM
      go_enter Try.func63, Try.ntmps63
      go_wp2
      go_ret2
      exact ⟨rfl, rfl⟩
    · rw [if_neg h1]
      have hp : 0 < s.size := by omega
      have hd : s.data.toList.head? = some s[0] := by rw [List.head?_eq_getElem?, Lib.data_getElem? s 0 hp]
      have hdH := Lib.hid hd
      clear hM hd
      by_cases h2 : s[0] = 47
      · rw [if_pos (by rw [hdH.out, h2])]
        have h2' : s[0].toNat = 47 := by rw [h2]; rfl
        have h2'' : ((s[0].toNat : Int) == 47) = true := by rw [h2']; rfl
        go_enter Try.func63, Try.ntmps63
        go_wp2
        go_ret2
        exact ⟨rfl, rfl⟩
      · rw [if_neg (by rw [hdH.out]; intro e; exact h2 (Option.some.inj e))]
        have h2' : ¬ s[0].toNat = 47 := fun e => h2 (UInt8.toNat_inj.1 e)
        have h2'' : ((s[0].toNat : Int) == 47) = false := beq_eq_false_iff_ne.2 (by omega)
        go_enter Try.func63, Try.ntmps63
        go_wp2
        go_ret2
        exact ⟨rfl, rfl⟩
theorem suf47 (l : List UInt8) : Lib.hasSuffix l [47] = (l.getLast? == some 47) := by
  rcases List.eq_nil_or_concat l with rfl | ⟨l', b, rfl⟩
  · rfl
  · rw [List.concat_eq_append, List.getLast?_append]
    simp only [Lib.hasSuffix, List.isSuffixOf, List.reverse_append, List.reverse_cons, List.reverse_nil, List.nil_append, List.singleton_append, List.isPrefixOf, Bool.and_true]
    rw [Bool.eq_iff_iff]
    simp
    exact eq_comm
theorem slashed_any (s : ByteArray) (w : World) (hs : s.size ≤ maxLen) : Calls Try.prog 42 #[.string s] w fun e w' => e = .returned (.bool (slashed s)) ∧ w' = w := by
  unfold maxLen at hs
  have hc := Lib.hid (Try.strings_HasSuffix s ⟨#[47]⟩ w (by omega))
  have hsf : Hid (Lib.hasSuffix s.data.toList [47] = slashed s) := Lib.hid (suf47 _)
  go_enter Try.func42, Try.ntmps42
  go_wp2_with (go_at_call 67; refine hc.out.mono ?_; rintro e w' ⟨rfl, rfl⟩; rw [hsf.out])
  go_ret
  exact ⟨rfl, rfl⟩
section
variable {w : World} {B : Nat → Nat → Prop} {p : Nat} {f : Fs} {sv : Value} {ps : List (Option Nat)}
theorem enter_any (h : FsAt w B p f sv ps) {n : Int} {I : Ino} (hn : node f n = some I) (hlen : f.length ≤ 100000) : Calls Try.prog 66 #[.pointer (some ⟨p, 0, none⟩), .int .i64 n] w fun e w' => e = .returned (.int .i64 (enterM f n : Nat)) ∧ w' = w := by
  have hM : Hid (enterM f n = if I.isDir then (if I.may 1 then 0 else 13) else 20) := Lib.hid (by unfold enterM; rw [hn])
  obtain ⟨i, q, rfl, _, _, h4, dv, ev, h5⟩ := node_where h hn
  have hc := Lib.hid (node_yes h h4 hlen)
  have hi := Lib.hid (isDir_any h5)
  have hm := Lib.hid (may_any h5 1)
  rw [hM.out]
  clear h hn h4 h5 hM
  cases h1 : I.isDir with
  | false =>
    rw [if_neg (by decide)]
    have h1H := Lib.hid h1
    clear h1
    go_enter Try.func66, Try.ntmps66
    go_wp2_with (first | (go_at_call 38; refine hc.out.mono ?_; rintro e w' ⟨rfl, rfl⟩) | (go_at_call 49; refine hi.out.mono ?_; rintro e w' ⟨rfl, rfl⟩; rw [h1H.out]))
    go_ret
    exact ⟨rfl, rfl⟩
  | true =>
    rw [if_pos rfl]
    have h1H := Lib.hid h1
    clear h1
    cases h2 : I.may 1 with
    | false =>
      rw [if_neg (by decide)]
      have h2H := Lib.hid h2
      clear h2
      go_enter Try.func66, Try.ntmps66
      go_wp2_with (first | (go_at_call 38; refine hc.out.mono ?_; rintro e w' ⟨rfl, rfl⟩) | (go_at_call 49; refine hi.out.mono ?_; rintro e w' ⟨rfl, rfl⟩; rw [h1H.out]) | (go_at_call 48; refine hm.out.mono ?_; rintro e w' ⟨rfl, rfl⟩; rw [h2H.out]))
      go_ret
      exact ⟨rfl, rfl⟩
    | true =>
      rw [if_pos rfl]
      have h2H := Lib.hid h2
      clear h2
      go_enter Try.func66, Try.ntmps66
      go_wp2_with (first | (go_at_call 38; refine hc.out.mono ?_; rintro e w' ⟨rfl, rfl⟩) | (go_at_call 49; refine hi.out.mono ?_; rintro e w' ⟨rfl, rfl⟩; rw [h1H.out]) | (go_at_call 48; refine hm.out.mono ?_; rintro e w' ⟨rfl, rfl⟩; rw [h2H.out]))
      go_ret
      exact ⟨rfl, rfl⟩
end
end Go.Proofs.Ytohgecmbkjienaa
