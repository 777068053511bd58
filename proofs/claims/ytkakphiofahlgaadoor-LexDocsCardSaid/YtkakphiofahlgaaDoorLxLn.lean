/- The lines of a text, plainly; the iterator Lines. Condition: the text has a million bytes at most. -/
import Derived.Test.YtkakphiofahlgaaDoorLxAD
import Derived.Test.YtkakphiofahlgaaDoorLxX
namespace Go.Proofs.YtkakphiofahlgaaDoor
open Go.RowKit Go.Shelf Go.PlainAid
attribute [local go_sem] Oper.semAt_some

theorem cell_heap {w w' : World} {a : Addr} (h : w'.heap[a.block]? = w.heap[a.block]?) : w'.cell? a = w.cell? a := by simp only [World.cell?, h]

/-- A line: of a million bytes at most. -/
abbrev Line := { x : ByteArray // x.size ≤ 1000000 }

/-- Where the first 10 stands behind a place; -1: nowhere. -/
def nl (s : ByteArray) (k : Nat) : Int := Lib.indexByte (s.extract k s.size).data.toList 10
def lineEnd (s : ByteArray) (k : Nat) : Nat := if 0 ≤ nl s k then k + (nl s k).toNat + 1 else s.size

theorem nl_lt (s : ByteArray) (k : Nat) (h : 0 ≤ nl s k) : k + (nl s k).toNat < s.size := by
  obtain ⟨o, ho⟩ : ∃ o : Nat, nl s k = o := ⟨(nl s k).toNat, by omega⟩
  have h1 := (Lib.indexByte_some ho).1
  have h2 := (List.getElem?_eq_some_iff.1 h1).1
  rw [Lib.extract_data] at h2
  simp at h2
  rw [ho, Lib.size_eq]
  simp; omega
theorem nl_le (s : ByteArray) (k : Nat) : nl s k ≤ s.size := by
  by_cases h : 0 ≤ nl s k
  · have := nl_lt s k h; omega
  · omega
theorem lineEnd_gt (s : ByteArray) (k : Nat) (h : k < s.size) : k < lineEnd s k ∧ lineEnd s k ≤ s.size := by
  unfold lineEnd
  split
  · rename_i h0
    have := nl_lt s k h0; omega
  · omega

theorem ex_size (s : ByteArray) (a b : Nat) : (s.extract a b).size ≤ s.size := by
  rw [ByteArray.size_extract]; omega

theorem ex_le (s : ByteArray) (hs : s.size ≤ 1000000) (a b : Nat) : (s.extract a b).size ≤ 1000000 := Nat.le_trans (ex_size s a b) hs

/-- The lines from a place on. -/
def linesF (s : ByteArray) (hs : s.size ≤ 1000000) : Nat → Nat → List Line
  | 0, _ => []
  | f + 1, k => if k < s.size then ⟨s.extract k (lineEnd s k), ex_le s hs _ _⟩ :: linesF s hs f (lineEnd s k) else []
theorem linesF_end (s : ByteArray) (hs : s.size ≤ 1000000) (f k : Nat) (h : s.size ≤ k) : linesF s hs f k = [] := by
  cases f with
  | zero => rw [linesF]
  | succ f => rw [linesF, if_neg (by omega)]
theorem linesF_fuel (s : ByteArray) (hs : s.size ≤ 1000000) : ∀ (f f' k : Nat), s.size - k ≤ f → s.size - k ≤ f' → linesF s hs f k = linesF s hs f' k := by
  intro f
  induction f with
  | zero => intro f' k h _; rw [linesF_end s hs 0 k (by omega), linesF_end s hs f' k (by omega)]
  | succ f ih =>
    intro f' k h h'
    by_cases hk : k < s.size
    · cases f' with
      | zero => omega
      | succ f' =>
        have := lineEnd_gt s k hk
        rw [linesF, linesF, if_pos hk, if_pos hk, ih f' _ (by omega) (by omega)]
    · rw [linesF_end s hs _ k (by omega), linesF_end s hs f' k (by omega)]
def linesAt (s : ByteArray) (hs : s.size ≤ 1000000) (k : Nat) : List Line := linesF s hs s.size k
theorem linesAt_end (s : ByteArray) (hs : s.size ≤ 1000000) (k : Nat) (h : s.size ≤ k) : linesAt s hs k = [] := linesF_end s hs _ k h
theorem linesAt_step (s : ByteArray) (hs : s.size ≤ 1000000) (k : Nat) (h : k < s.size) :
    linesAt s hs k = ⟨s.extract k (lineEnd s k), ex_le s hs _ _⟩ :: linesAt s hs (lineEnd s k) := by
  have := lineEnd_gt s k h
  unfold linesAt
  rw [linesF_fuel s hs s.size (s.size - 1 + 1) k (by omega) (by omega), linesF, if_pos h, linesF_fuel s hs (s.size - 1) s.size _ (by omega) (by omega)]
theorem linesAt_len (s : ByteArray) (hs : s.size ≤ 1000000) : ∀ (d k : Nat), s.size - k = d → (linesAt s hs k).length ≤ d := by
  intro d
  induction d using Nat.strongRecOn with
  | ind d ih =>
    intro k hk
    by_cases h : k < s.size
    · have := lineEnd_gt s k h
      rw [linesAt_step s hs k h, List.length_cons]
      have := ih (s.size - lineEnd s k) (by omega) _ rfl
      omega
    · rw [linesAt_end s hs k (by omega)]; simp
/-- All lines. -/
def linesOf (s : ByteArray) (hs : s.size ≤ 1000000) : List Line := linesAt s hs 0

abbrev encL (x : Line) : Array Value := #[.string x.1]

set_option maxHeartbeats 400000 in
theorem lines_any (s : ByteArray) (w : World) : Calls Tryd.prog 12 #[.string s] w fun e w' => e = .returned (.func (.func 18) #[] #[.pointer (some ⟨w.heap.size, 0, none⟩)]) ∧ w' = w.alloc (.cells #[.string s] 9) := by
  go_enter Tryd.func12, Tryd.ntmps12
  go_wp2
  go_ret
  exact ⟨rfl, rfl⟩

/-- What a round keeps: what lies below n₀, and the block that holds the text. -/
def KeepT (n₀ Bn : Nat) (W W' : World) : Prop := Below n₀ W W' ∧ W'.heap[Bn]? = W.heap[Bn]?
theorem keepT_t {n₀ Bn : Nat} {A B C : World} (h : KeepT n₀ Bn A B) (k : KeepT n₀ Bn B C) : KeepT n₀ Bn A C := ⟨h.1.trans k.1, k.2.trans h.2⟩
theorem keepT_b {n₀ Bn : Nat} {w : World} (hn : n₀ ≤ w.heap.size) (hB : Bn < w.heap.size) (W : World) (l : Nat) (o o' : Obj) (hl : w.heap.size ≤ l) (h : W.heap[l]? = some o) (h1 : o.isCells = false) (h2 : o.isWalk = false) : KeepT n₀ Bn W (W.putObj l o') :=
  ⟨belowK_b hn W l o o' hl h h1 h2, World.putObj_heap_other (by omega)⟩

theorem ib_any (s : ByteArray) (k : Nat) (w : World) : Calls Tryd.prog 19 #[.string (s.extract k s.size), .int .u8 10] w fun e w' => e = .returned (.int .i64 (nl s k)) ∧ w = w' :=
  (Tryd.strings_IndexByte _ _ _).mono fun _ _ ⟨he, hw⟩ => ⟨he, hw.symm⟩

set_option maxRecDepth 100000 in
set_option maxHeartbeats 1000000 in
theorem all34_in (n : Nat) (hn : 1 ≤ n) (l Bn n₀ N : Nat) (s : ByteArray) (hs : s.size ≤ 1000000) (hN : s.size ≤ N) (J Jx : List Line → World → Prop)
    (hY : ∀ pre x W, J pre W → pre.length < N → YieldAt Fence.wide (n - 1) Tryd.prog l (encL x) W fun e W' =>
      (e = .returned (.bool true) ∧ J (pre ++ [x]) W' ∧ KeepT n₀ Bn W W') ∨ (e = .returned (.bool false) ∧ Jx (pre ++ [x]) W'))
    (W : World) (hBn : W.cell? ⟨Bn, 0, none⟩ = some (.string s)) (h0 : J [] W) :
    CallsIn Fence.wide n Tryd.prog 18 #[.func (.yield l) #[] #[], .pointer (some ⟨Bn, 0, none⟩)] W fun e W' => (∃ v, e = .returned v) ∧
      ((∃ ys, ys = linesOf s hs ∧ J ys W') ∨ (∃ pre, pre <+: linesOf s hs ∧ Jx pre W')) := by
  refine callsIn_of_wp Tryd.func18 rfl trivial ?_ rfl
  simp only [Tryd.ntmps18, List.size_toArray, List.length_cons, List.length_nil, Nat.reduceAdd, Nat.reduceSub, Array.replicate_succ, Array.replicate_zero, List.push_toArray, List.append_toArray, List.nil_append, List.cons_append]
  gi_wp2
  gi_loopw [3] (fun s3 wr => ∃ (k : Nat) (pre : List Line), k ≤ s.size ∧ pre.length ≤ k ∧ s3 = .int .i64 k ∧ wr.cell? ⟨Bn, 0, none⟩ = some (.string s) ∧ Hid (linesOf s hs = pre ++ linesAt s hs k) ∧ J pre wr) (fun s3 _ => s.size - (intOf s3).toNat)
  case atStart => exact ⟨0, [], by omega, by simp, rfl, hBn, Lib.hid rfl, h0⟩
  case round =>
    obtain ⟨k, pre, hk, hpl, rfl, hb, hpre, hJ⟩ := hrel
    have hJH := Lib.hid hJ
    by_cases hk2 : k < s.size
    · have hstep := Lib.hid (linesAt_step s hs k hk2)
      obtain ⟨hE1, hE2⟩ := lineEnd_gt s k hk2
      have hib := Lib.hid (ib_any s k)
      have hsz : s.size ≤ 9223372036854775807 := by omega
      by_cases hnl : 0 ≤ nl s k
      · obtain ⟨i, hi⟩ : ∃ i : Nat, nl s k = (i : Int) := ⟨(nl s k).toNat, by omega⟩
        have hE : lineEnd s k = k + i + 1 := by unfold lineEnd; rw [if_pos hnl, hi]; rfl
        rw [hi] at hib
        have hY2 := hY pre ⟨s.extract k (k + i + 1), ex_le s hs _ _⟩ wr hJ (by omega)
        have hst : Hid (linesAt s hs k = ⟨s.extract k (k + i + 1), ex_le s hs _ _⟩ :: linesAt s hs (k + i + 1)) := Lib.hid (by
          rw [hstep.out]
          congr 1
          · congr 1; rw [hE]
          · rw [hE])
        rw [hE] at hE1 hE2
        obtain ⟨fn, tmps, assign, body, hy, hR⟩ := hY2
        dsimp only [encL] at hy
        have hRH := Lib.hid hR
        clear hJ hR hi hE hnl hstep
        gi_wp2_with (refine ⟨trivial, ?_⟩; gi_at_call 19; refine (callsIn_wide.2 (hib.out _)).mono ?_; rintro e w' ⟨rfl, rfl⟩)
        refine hRH.out.mono ?_
        rintro e W3 (⟨rfl, hJ3, hk3⟩ | ⟨rfl, hJx3⟩)
        · have hb3 := (cell_heap (a := ⟨Bn, 0, none⟩) hk3.2).trans hb
          have hJ3' := Lib.hid hJ3
          clear hJ3 hk3
          gi_wp2
          go_roundw
          case rel => exact ⟨k + i + 1, pre ++ [_], by omega, by simp; omega, by go_num, hb3, Lib.hid (by rw [hpre.out, hst.out, List.append_assoc]; rfl), hJ3'.out⟩
          case measure => simp [intOf]; omega
        · have hJx' := Lib.hid hJx3
          clear hJx3
          gi_wp2
          refine bodyPost_ret (results_none rfl _ _ _) rfl ?_
          exact ⟨⟨_, rfl⟩, .inr ⟨pre ++ [_], ⟨linesAt s hs (k + i + 1), by rw [hpre.out, hst.out, List.append_assoc]; rfl⟩, hJx'.out⟩⟩
      · have hE : lineEnd s k = s.size := by unfold lineEnd; rw [if_neg hnl]
        have hY2 := hY pre ⟨s.extract k s.size, ex_le s hs _ _⟩ wr hJ (by omega)
        have hst : Hid (linesAt s hs k = ⟨s.extract k s.size, ex_le s hs _ _⟩ :: linesAt s hs s.size) := Lib.hid (by
          rw [hstep.out]
          congr 1
          · congr 1; rw [hE]
          · rw [hE])
        obtain ⟨fn, tmps, assign, body, hy, hR⟩ := hY2
        dsimp only [encL] at hy
        have hRH := Lib.hid hR
        clear hJ hR hE hstep hE1 hE2
        gi_wp2_with (refine ⟨trivial, ?_⟩; gi_at_call 19; refine (callsIn_wide.2 (hib.out _)).mono ?_; rintro e w' ⟨rfl, rfl⟩)
        refine hRH.out.mono ?_
        rintro e W3 (⟨rfl, hJ3, hk3⟩ | ⟨rfl, hJx3⟩)
        · have hb3 := (cell_heap (a := ⟨Bn, 0, none⟩) hk3.2).trans hb
          have hJ3' := Lib.hid hJ3
          clear hJ3 hk3
          gi_wp2
          go_roundw
          case rel => exact ⟨s.size, pre ++ [_], by omega, by simp; omega, rfl, hb3, Lib.hid (by rw [hpre.out, hst.out, List.append_assoc]; rfl), hJ3'.out⟩
          case measure => simp [intOf]; omega
        · have hJx' := Lib.hid hJx3
          clear hJx3
          gi_wp2
          refine bodyPost_ret (results_none rfl _ _ _) rfl ?_
          exact ⟨⟨_, rfl⟩, .inr ⟨pre ++ [_], ⟨linesAt s hs (s.size), by rw [hpre.out, hst.out, List.append_assoc]; rfl⟩, hJx'.out⟩⟩
    · gi_wp2
      go_end0
      have : linesAt s hs k = [] := linesAt_end s hs k (by omega)
      exact ⟨⟨_, rfl⟩, .inl ⟨pre, by rw [hpre.out, this, List.append_nil], hJ⟩⟩
theorem lines_stops (n : Nat) (hn : 1 ≤ n) (Bn n₀ N : Nat) (s : ByteArray) (hs : s.size ≤ 1000000) (hN : s.size ≤ N) (w : World) (hB0 : Bn < w.heap.size) (hBn : w.cell? ⟨Bn, 0, none⟩ = some (.string s)) :
    SeqStopsK Fence.wide n Tryd.prog 18 #[.pointer (some ⟨Bn, 0, none⟩)] encL (KeepT n₀ Bn) (fun xs => xs = linesOf s hs) (fun pre => pre <+: linesOf s hs) N w := by
  intro l J Jx W hW _ _ hY h0
  exact all34_in n hn l Bn n₀ N s hs hN J Jx hY W ((hW.cell (p := ⟨Bn, 0, none⟩) hB0).trans hBn) h0

end Go.Proofs.YtkakphiofahlgaaDoor
