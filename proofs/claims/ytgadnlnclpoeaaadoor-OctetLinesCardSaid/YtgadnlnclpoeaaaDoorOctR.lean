/- The iterator's contract; the contracts of the document's Lines and Texts. Condition: the text has a million bytes at most. -/
import Derived.Test.YtgadnlnclpoeaaaDoorOctQ
import Derived.Laws.AppendOwn
import Derived.Laws.OwnMore
namespace Go.Proofs.YtgadnlnclpoeaaaDoor
open Go.RowKit Go.Shelf Go.PlainAid
attribute [local go_sem] Oper.semAt_some

theorem lines_stops (n : Nat) (hn : 1 ≤ n) (Bn n₀ N : Nat) (s : ByteArray) (hs : s.size ≤ 1000000) (hN : s.size ≤ N) (w : World) (hB0 : Bn < w.heap.size) (hBn : w.cell? ⟨Bn, 0, none⟩ = some (.string s)) :
    SeqStopsK Fence.wide n Tryd.prog 34 #[.pointer (some ⟨Bn, 0, none⟩)] encL (KeepT n₀ Bn) (fun xs => xs = linesOf s hs) (fun pre => pre <+: linesOf s hs) N w := by
  intro l J Jx W hW _ _ hY h0
  exact all34_in n hn l Bn n₀ N s hs hN J Jx hY W ((hW.cell (p := ⟨Bn, 0, none⟩) hB0).trans hBn) h0

theorem info9 : (Tryd.prog.info? 9).map (fun i => (i.zero, i.size, i.bytes)) = some (some (.string ByteArray.empty), 1, 16) := by kernel_rfl

def svals (l : List Line) : List Value := l.map fun x => .string x.1
theorem svals_len (l : List Line) : (svals l).length = l.length := by unfold svals; simp
theorem svals_snoc (l : List Line) (x : Line) : svals l ++ [.string x.1] = svals (l ++ [x]) := by unfold svals; simp

theorem bt_ten (s : ByteArray) (k : Nat) : bt s k = 10 ↔ s.data.toList[k]? = some 10 := by
  rw [bt_data]
  cases h : s.data.toList[k]? with
  | none => simp
  | some b =>
    simp only [Option.some.injEq]
    constructor
    · intro e
      exact UInt8.toNat_inj.1 (by show b.toNat = 10; omega)
    · intro e; rw [e]; rfl

theorem nl_get (s : ByteArray) (k j : Nat) : (s.extract k s.size).data.toList[j]? = if k + j < s.size then s.data.toList[k + j]? else none := by
  rw [Lib.extract_data, List.getElem?_take, List.getElem?_drop]
  by_cases h : k + j < s.size
  · rw [if_pos (by omega), if_pos h]
  · rw [if_neg (by omega), if_neg h]

theorem lineEnd_at {s : ByteArray} {f i : Nat} (hfi : f ≤ i) (hi : i < s.size) (h10 : bt s i = 10) (hno : ∀ j, f ≤ j → j < i → ¬ bt s j = 10) : lineEnd s f = i + 1 := by
  by_cases h0 : 0 ≤ nl s f
  · obtain ⟨o, ho⟩ : ∃ o : Nat, nl s f = o := ⟨(nl s f).toNat, by omega⟩
    obtain ⟨h1, h2⟩ := Lib.indexByte_some ho
    have hlt := nl_lt s f h0
    rw [ho] at hlt
    rw [nl_get, if_pos (by omega)] at h1
    have h1' := (bt_ten s (f + o)).2 h1
    have : f + o = i := by
      rcases Nat.lt_trichotomy (f + o) i with g | g | g
      · exact absurd h1' (hno _ (by omega) g)
      · exact g
      · refine absurd ((bt_ten s i).1 h10) ?_
        have := h2 (i - f) (by omega)
        rw [nl_get, if_pos (by omega), show f + (i - f) = i by omega] at this
        exact this
    unfold lineEnd
    rw [if_pos h0, ho]
    show f + o + 1 = _
    omega
  · have h1 : nl s f = -1 := by
      have : -1 ≤ nl s f := Lib.indexByte_ge _ _
      omega
    have h2 := Lib.indexByte_none h1 (i - f)
    rw [nl_get, if_pos (by omega), show f + (i - f) = i by omega] at h2
    exact absurd ((bt_ten s i).1 h10) h2
theorem lineEnd_none {s : ByteArray} {f : Nat} (hno : ∀ j, f ≤ j → j < s.size → ¬ bt s j = 10) : lineEnd s f = s.size := by
  unfold lineEnd
  split
  · rename_i h0
    obtain ⟨o, ho⟩ : ∃ o : Nat, nl s f = o := ⟨(nl s f).toNat, by omega⟩
    obtain ⟨h1, h2⟩ := Lib.indexByte_some ho
    have hlt := nl_lt s f h0
    rw [ho] at hlt
    rw [nl_get, if_pos (by omega)] at h1
    exact absurd ((bt_ten s (f + o)).2 h1) (hno _ (by omega) (by omega))
  · rfl

theorem line_step {s : ByteArray} {hs : s.size ≤ 1000000} {f e : Nat} (h : f < s.size) (he : lineEnd s f = e) : linesAt s hs f = ⟨s.extract f e, ex_le s hs _ _⟩ :: linesAt s hs e := by
  subst he; exact linesAt_step s hs f h

/-- A list of texts that the call has made. -/
def OwnLines (B : Nat) (L : List Line) (w0 : World) (e : Ending) (w' : World) : Prop := ∃ v, e = .returned v ∧ w'.ownsRow B 9 1 v L.length (svals L) ∧ Below B w0 w'

set_option maxRecDepth 100000 in
set_option maxHeartbeats 1000000 in
theorem refLines_any (s : ByteArray) (hs : s.size ≤ 1000000) (w : World) : Calls Tryd.prog 23 #[.string s] w (OwnLines w.heap.size (linesOf s hs) w) := by
  obtain ⟨i0, hi, hz0, hz1, hz2⟩ := info_parts info9
  obtain ⟨B, hB⟩ : ∃ B, w.heap.size = B := ⟨_, rfl⟩
  rw [hB]
  have hBH := Lib.hid hB
  clear hB
  have hb := get_bt s
  go_enter Tryd.func23, Tryd.ntmps23
  go_wp2
  go_loopw [3, 4, 5] (fun s3 s4 s5 wr => ∃ (f i : Nat) (pre : List Line), f ≤ i ∧ i ≤ s.size ∧ pre.length ≤ i ∧ s4 = .int .i64 f ∧ s5 = .int .i64 i ∧ Hid (linesOf s hs = pre ++ linesAt s hs f) ∧ Hid (∀ j, f ≤ j → j < i → ¬ bt s j = 10) ∧ wr.ownsRow B 9 1 s3 pre.length (svals pre) ∧ Below B w wr) (fun _ _ s5 _ => s.size - (intOf s5).toNat)
  case atStart => exact ⟨0, 0, [], Nat.le_refl _, Nat.zero_le _, by simp, rfl, rfl, Lib.hid rfl, Lib.hid (fun j h1 h2 => absurd h2 (by omega)), World.ownsRow_nil _ _ _ _, by rw [← hBH.out]; exact Below.refl _ _⟩
  case round =>
    obtain ⟨f, i, pre, hfi, his, hpi, rfl, rfl, hpre, hno, hown, hbel⟩ := hrel
    have hBw : B ≤ wr.heap.size := by have := hbel.size; rw [← hBH.out]; exact this
    have hownH := Lib.hid hown
    have hbelH := Lib.hid hbel
    clear hown hbel
    by_cases hlt : i < s.size
    · by_cases h10 : bt s i = 10
      · have hst := Lib.hid (line_step (hs := hs) (show f < s.size by omega) (lineEnd_at hfi hlt h10 hno.out))
        have hcell := Lib.hid (cell_one_new wr (.string (s.extract f (i + 1))) 9)
        go_wp2_with (at_builtin; refine wpList_append_own _ rfl (.tmp 16) (.tmp 22) 33 rfl B 9 i0 (.string ByteArray.empty) 1 16 Tryd.underlying33 hi hz0 hz1 hz2 rfl (by decide) _ pre.length (svals pre) rfl (hownH.out.alloc _) ⟨wr.heap.size, 0, none⟩ 1 1 [.string (s.extract f (i + 1))] rfl rfl hcell.out (by simp [Value.oneCell']) (by unfold maxLen; omega) (by omega) (by simp; omega) ?_)
        intro v' w1 hown' hgrow _
        have h1 := Lib.hid hown'
        have h2 := Lib.hid hgrow
        clear hown' hgrow
        go_wp2
        go_roundw
        case rel =>
          refine ⟨i + 1, i + 1, pre ++ [⟨s.extract f (i + 1), ex_le s hs _ _⟩], Nat.le_refl _, by omega, by simp; omega, by go_num, by go_num, Lib.hid (by rw [hpre.out, hst.out, List.append_assoc]; rfl), Lib.hid (fun j g1 g2 => absurd g2 (by omega)), ?_, (hbelH.out.alloc hBw _).grown h2.out (by simp; omega) (fun k hk => (hownH.out.lt k hk).1)⟩
          rw [← svals_snoc, List.length_append]
          exact h1.out
        case measure => simp [intOf]; omega
      · have h10H := Lib.hid h10
        have hbf : (bt s i == 10) = false := by simpa using h10
        clear h10
        go_wp2
        go_roundw
        case rel =>
          exact ⟨f, i + 1, pre, by omega, by omega, by omega, rfl, by go_num, hpre, Lib.hid (fun j g1 g2 => by
            by_cases e : j = i
            · subst e; exact h10H.out
            · exact hno.out j g1 (by omega)), hownH.out, hbelH.out⟩
        case measure => simp [intOf]; omega
    · obtain rfl : i = s.size := by omega
      by_cases hf : f < s.size
      · have hst := Lib.hid (line_step (hs := hs) hf (lineEnd_none hno.out))
        have hend := Lib.hid (linesAt_end s hs s.size (Nat.le_refl _))
        have hcell := Lib.hid (cell_one_new wr (.string (s.extract f s.size)) 9)
        go_wp2_with (at_builtin; refine wpList_append_own _ rfl (.tmp 30) (.tmp 34) 33 rfl B 9 i0 (.string ByteArray.empty) 1 16 Tryd.underlying33 hi hz0 hz1 hz2 rfl (by decide) _ pre.length (svals pre) rfl (hownH.out.alloc _) ⟨wr.heap.size, 0, none⟩ 1 1 [.string (s.extract f s.size)] rfl rfl hcell.out (by simp [Value.oneCell']) (by unfold maxLen; omega) (by omega) (by simp; omega) ?_)
        intro v' w1 hown' hgrow _
        have h1 := Lib.hid hown'
        have h2 := Lib.hid hgrow
        clear hown' hgrow
        go_wp2
        go_ret
        refine ⟨_, rfl, ?_, (hbelH.out.alloc hBw _).grown h2.out (by simp; omega) (fun k hk => (hownH.out.lt k hk).1)⟩
        rw [hpre.out, hst.out, hend.out, ← svals_snoc, List.length_append]
        exact h1.out
      · have hend := Lib.hid (linesAt_end s hs f (by omega))
        go_wp2
        go_ret
        refine ⟨_, rfl, ?_, hbelH.out⟩
        rw [hpre.out, hend.out, List.append_nil]
        exact hownH.out
end Go.Proofs.YtgadnlnclpoeaaaDoor
