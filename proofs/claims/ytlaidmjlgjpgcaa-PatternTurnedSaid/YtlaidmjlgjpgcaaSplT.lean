/- The contract of Text. Condition: lengths. -/
import Derived.Test.YtlaidmjlgjpgcaaSplB
import Derived.Test.YtlaidmjlgjpgcaaShelf
import Derived.Lib.Builder
import Derived.Laws.Externs
import Derived.Lib.ItoaMem
namespace Go.Proofs.Ytlaidmjlgjpgcaa
open Go.RowKit

theorem bsize : (Try.prog.info? 74).map (·.size) = some 2 := by kernel_rfl
theorem blies : liesAt Try.prog Try.prog.depth 74 (2 / Try.prog.cellsOf 74) 0 74 1 = true := by kernel_rfl
theorem info5 : (Try.prog.info? 5).map (fun i => (i.zero, i.size, i.bytes)) = some (some (.int .u8 0), 1, 1) := by kernel_rfl

set_option maxHeartbeats 1000000 in
set_option maxRecDepth 100000 in
theorem copyCheck_used (b : Nat) (w : World) (h0 : w.cell? ⟨b, 0, none⟩ = some (.pointer (some ⟨b, 0, none⟩))) :
    Calls Try.prog 56 #[.pointer (some ⟨b, 0, none⟩)] w fun e w' => e = .returned (.tuple #[]) ∧ w' = w := by
  obtain ⟨j, hj, _⟩ := Option.map_eq_some_iff.1 bsize
  go_enter Try.func56, Try.ntmps56
  go_wp2
  rw [Lib.run_neq_ptr_same w _ Try.underlying72 hj]
  go_wp2
  go_end0
  exact ⟨rfl, rfl⟩

set_option maxHeartbeats 1000000 in
set_option maxRecDepth 100000 in
theorem copyCheck_fresh (b : Nat) (w : World) (h0 : w.cell? ⟨b, 0, none⟩ = some (.pointer none)) (hsh : w.shape? b = some (74, 2)) (hfz : w.frozen? ⟨b, 0, none⟩ = false) :
    Calls Try.prog 56 #[.pointer (some ⟨b, 0, none⟩)] w fun e w' => e = .returned (.tuple #[]) ∧ w' = w.setCell ⟨b, 0, none⟩ (.pointer (some ⟨b, 0, none⟩)) := by
  obtain ⟨j, hj, hjs⟩ := Option.map_eq_some_iff.1 bsize
  go_enter Try.func56, Try.ntmps56
  go_wp2
  rw [Lib.run_to_unsafe w ⟨b, 0, none⟩ Try.underlying72 Try.underlying102 hj (by rw [hjs]; decide) hsh (Nat.zero_lt_succ 1)]
  simp only [Result.andThen]
  rw [Oper.upon_value]
  go_wp2
  rw [run_callFunc_extern Try.func60 (by kernel_rfl) (by kernel_rfl) (by kernel_rfl) (e := Extern.AbiNoEscape.same) (by kernel_rfl)]
  rw [Lib.run_noEscape]
  simp only [Result.andThen]
  rw [Oper.upon_value]
  go_wp2
  rw [Lib.run_from_unsafe w ⟨b, 0, none⟩ Try.underlying102 Try.underlying72 hj hsh blies]
  simp only [Result.andThen]
  rw [Oper.upon_value]
  go_wp2
  go_end0
  exact ⟨rfl, rfl⟩

theorem copyCheck_any (B b : Nat) (bs : List Value) (w : World) (h : Lib.IsBuilder 74 5 B b bs w) :
    Calls Try.prog 56 #[.pointer (some ⟨b, 0, none⟩)] w fun e w' => e = .returned (.tuple #[]) ∧ (Lib.BuilderAt 74 5 B b (.pointer (some ⟨b, 0, none⟩)) bs w' ∧ Below B w w') := by
  rcases h with h | h
  · refine (copyCheck_fresh b w h.cell0 h.shape h.frozen0).mono ?_
    rintro e w' ⟨rfl, rfl⟩
    exact ⟨rfl, h.used _, (Below.refl B w).setCell (p := ⟨b, 0, none⟩) h.1 _⟩
  · refine (copyCheck_used b w h.cell0).mono ?_
    rintro e w' ⟨rfl, rfl⟩
    exact ⟨rfl, h, Below.refl B _⟩

set_option maxHeartbeats 2000000 in
set_option maxRecDepth 100000 in
theorem writeByte_any (B b : Nat) (bs : List Value) (c : Int) (w : World) (h : Lib.IsBuilder 74 5 B b bs w) (hlen : bs.length + 1 ≤ 140737488355328) (hBw : B ≤ w.heap.size) :
    Calls Try.prog 45 #[.pointer (some ⟨b, 0, none⟩), .int .u8 c] w fun e w' => e = .returned .nilIface ∧ (Lib.BuilderAt 74 5 B b (.pointer (some ⟨b, 0, none⟩)) (bs ++ [.int .u8 c]) w' ∧ Below B w w') := by
  obtain ⟨i0, hi, hz0, hz1, hz2⟩ := info_parts info5
  have hcc := Lib.hid (copyCheck_any B b bs w h)
  clear h
  go_enter Try.func45, Try.ntmps45
  go_wp2_with fail
  refine hcc.out.mono ?_
  rintro e w1 ⟨rfl, h1, hb1⟩
  have hsz := hb1.size
  have hb1H := Lib.hid hb1
  clear hb1 hcc
  obtain ⟨hB, v, hbk, hown, hne⟩ := h1
  have c0 : w1.cell? ⟨b, 0, none⟩ = some (.pointer (some ⟨b, 0, none⟩)) := by rw [Lib.cell_of_heap hbk]; rfl
  have c1 : w1.cell? ⟨b, 1, none⟩ = some v := by rw [Lib.cell_of_heap hbk]; rfl
  have hlt : b < w1.heap.size := (Array.getElem?_eq_some_iff.1 hbk).1
  have hownH := Lib.hid hown
  have hneH := Lib.hid hne
  have hbkH := Lib.hid hbk
  clear hown hne hbk
  obtain ⟨k, hk⟩ : ∃ k, bs.length = k := ⟨_, rfl⟩
  rw [hk] at hlen hownH
  have hkH := Lib.hid hk
  clear hk
  have hcell := Lib.hid (cell_one_new w1 (.int .u8 c) 5)
  go_wp2_with (at_builtin; refine wpList_append_own _ rfl (.tmp 11) (.tmp 13) 35 rfl B 5 i0 (.int .u8 0) 1 1 Try.underlying35 hi hz0 hz1 hz2 rfl (by decide) _ k bs rfl (hownH.out.alloc _) ⟨w1.heap.size, 0, none⟩ 1 1 [.int .u8 c] rfl rfl hcell.out (by simp [Value.oneCell']) (by unfold maxLen; omega) (by omega) (by simp; omega) ?_)
  intro v' w2 hown' hgrow _
  obtain ⟨g', cap', rfl⟩ := ownsRow_succ hown'
  have hb2 : w2.heap[b]? = some (.cells #[.pointer (some ⟨b, 0, none⟩), v] 74 (0, 0)) := (hgrow.block b (by simp; omega) (fun e => hneH.out e.symm)).trans ((Below.heap_alloc _ _ _ hlt).trans hbkH.out)
  have d1 : w2.cell? ⟨b, 1, none⟩ = some v := by rw [Lib.cell_of_heap hb2]; rfl
  have f1 : w2.frozen? ⟨b, 1, none⟩ = false := by simp [World.frozen?, hb2]
  have hb2H := Lib.hid hb2
  have hgH := Lib.hid hgrow
  have hoH := Lib.hid hown'
  clear hb2 hgrow hown'
  go_wp2
  go_ret
  refine ⟨rfl, ⟨hB, .slice (some ⟨g', 0, none⟩) (k + 1) cap', ?_, ?_, ?_⟩, ?_⟩
  · simp only [World.setCell, Array.getElem?_modify, if_true, hb2H.out]
    rfl
  · rw [List.length_append]
    have hne2 : (74 : Nat) ≠ 5 := by decide
    rw [hkH.out]
    exact hoH.out.kept (row := some b) ⟨rfl, rfl, rfl, by rw [World.size_setCell]; exact Nat.le_refl _, fun q _ hq => Below.heap_setCell _ _ _ _ (by simp at hq ⊢; exact hq)⟩ (.inr (fun e => row_ne hb2H.out hne2 hoH.out e.symm))
  · exact fun e => row_ne hb2H.out (by decide) hoH.out e.symm
  · refine (((hb1H.out.alloc (by omega) _).grown hgH.out (by simp; omega) (fun q e => (hownH.out.lt q e).1))).setCell (p := ⟨b, 1, none⟩) hB _

/-- The bytes of a field. -/
def txt (f : List Ch) : List UInt8 := f.map (·.1)

theorem chv_get {f : List Ch} {j : Nat} {c : Ch} (h : f[j]? = some c) : (chv f)[j * 2]? = some (.int .u8 (c.1.toNat : Int)) ∧ (chv f)[j * 2 + 1]? = some (.bool c.2) := by
  unfold chv
  induction f generalizing j with
  | nil => simp at h
  | cons x f ih =>
    rw [List.flatMap_cons]
    cases j with
    | zero =>
      obtain rfl : x = c := by simpa using h
      exact ⟨rfl, rfl⟩
    | succ j =>
      have := ih (j := j) (by simpa using h)
      rw [show (j + 1) * 2 = j * 2 + 2 by omega]
      exact ⟨this.1, by rw [show j * 2 + 2 + 1 = j * 2 + 1 + 2 by omega]; exact this.2⟩

theorem isB_alloc {B b : Nat} {bs : List Value} {w : World} (h : Lib.IsBuilder 74 5 B b bs w) (o : Obj) : Lib.IsBuilder 74 5 B b bs (w.alloc o) := by
  rcases h with ⟨h1, v, h2, h3, h4⟩ | ⟨h1, v, h2, h3, h4⟩
  · exact .inl ⟨h1, v, (Below.heap_alloc _ _ _ (Array.getElem?_eq_some_iff.1 h2).1).trans h2, h3.alloc _, h4⟩
  · exact .inr ⟨h1, v, (Below.heap_alloc _ _ _ (Array.getElem?_eq_some_iff.1 h2).1).trans h2, h3.alloc _, h4⟩
theorem byteCells_snoc (l : List UInt8) (b : UInt8) : Lib.byteCells (l ++ [b]) = Lib.byteCells l ++ [.int .u8 (b.toNat : Int)] := by unfold Lib.byteCells; simp
theorem byteCells_len (l : List UInt8) : (Lib.byteCells l).length = l.length := by unfold Lib.byteCells; simp

set_option maxHeartbeats 2000000 in
set_option maxRecDepth 100000 in
theorem text_any {n₀ : Nat} (v : Value) (f : List Ch) (w : World) (h : w.ownsRow n₀ 33 2 v f.length (chv f)) (hl : f.length ≤ 100000) :
    Calls Try.prog 29 #[v] w fun e w' => e = .returned (.string ⟨(txt f).toArray⟩) ∧ Below w.heap.size w w' := by
  have hcells : Hid (∀ j c, f[j]? = some c → ∃ g cap, v = .slice (some ⟨g, 0, none⟩) f.length cap ∧ g < w.heap.size ∧ w.cell? ⟨g, j * 2, none⟩ = some (.int .u8 (c.1.toNat : Int)) ∧ w.cell? ⟨g, j * 2 + 1, none⟩ = some (.bool c.2)) := Lib.hid (fun j c hc => by
    have hj : j < f.length := (List.getElem?_eq_some_iff.1 hc).1
    have hcell := @World.ownsRow.cells _ _ _ _ _ _ _ h
    rcases h.2 with ⟨_, h0⟩ | ⟨g, cap, cur, rfl, _, hb, _⟩
    · omega
    · have hh := chv_get hc
      refine ⟨g, cap, rfl, (Array.getElem?_eq_some_iff.1 hb).1, ?_, ?_⟩
      · have := hcell (g := g) rfl (j * 2) _ hh.1
        rw [Lib.add_plain, Nat.zero_add] at this; exact this
      · have := hcell (g := g) rfl (j * 2 + 1) _ hh.2
        rw [Lib.add_plain, Nat.zero_add] at this; exact this)
  obtain ⟨av, cv, rfl⟩ := ownsRow_slice h
  clear h
  obtain ⟨B, hB⟩ : ∃ B, w.heap.size = B := ⟨_, rfl⟩
  have hb0 : Lib.IsBuilder 74 5 B B (Lib.byteCells (txt (f.take 0))) (w.alloc (.cells #[.pointer none, .slice none 0 0] 74)) := by rw [← hB]; exact Lib.fresh_isBuilder 74 5 w
  have hBel : Below B w (w.alloc (.cells #[.pointer none, .slice none 0 0] 74)) := by rw [← hB]; exact (Below.refl _ _).alloc (Nat.le_refl _) _
  have hb0H := Lib.hid hb0
  have hBelH := Lib.hid hBel
  have hBH := Lib.hid hB
  clear hb0 hBel hB
  obtain ⟨n, hn⟩ : ∃ n, f.length = n := ⟨_, rfl⟩
  rw [hn] at hl hcells ⊢
  have hnH := Lib.hid hn
  clear hn
  go_enter Try.func29, Try.ntmps29
  go_wp2
  rw [hBH.out]
  go_loopw [8] (fun s8 wr => ∃ k : Nat, k ≤ n ∧ s8 = .int .i64 k ∧ Lib.IsBuilder 74 5 B B (Lib.byteCells (txt (f.take k))) wr ∧ Below B w wr) (fun s8 _ => n - (intOf s8).toNat)
  case atStart => exact ⟨0, Nat.zero_le _, rfl, hb0H.out, hBelH.out⟩
  case round =>
    obtain ⟨k, hk, rfl, hb, hbel⟩ := hrel
    by_cases hlt : k < n
    · obtain ⟨c, hc⟩ : ∃ c, f[k]? = some c := ⟨_, List.getElem?_eq_getElem (by rw [hnH.out]; exact hlt)⟩
      obtain ⟨g, cap, hsl, hg, c0, c1⟩ := hcells.out k c hc
      obtain ⟨rfl, rfl⟩ : av = some ⟨g, 0, none⟩ ∧ cv = cap := by simpa using hsl
      have hB := hBH.out
      have d0 := (hbel.cell (p := ⟨g, k * 2, none⟩) (by show g < B; omega)).trans c0
      have d1 := (hbel.cell (p := ⟨g, k * 2 + 1, none⟩) (by show g < B; omega)).trans c1
      have hsz := hbel.size
      have hlt' : (k : Int) < (n : Int) := by omega
      have hck := Lib.hid hc
      have hbH := Lib.hid hb
      have hbelH := Lib.hid hbel
      have hns : B ≤ wr.heap.size := by omega
      have hlw : B < wr.heap.size := by
        rcases hb with hb | hb <;> exact hb.lt
      clear hB hsl c0 c1 hc hb hbel
      go_wp2_with fail
      refine (writeByte_any B B _ _ _ (isB_alloc hbH.out _) (by rw [byteCells_len]; unfold txt; rw [List.length_map, List.length_take]; omega) (by simp; omega)).mono ?_
      rintro e w2 ⟨rfl, hb2, hbel2⟩
      have hb2H := Lib.hid hb2
      have hbel2H := Lib.hid hbel2
      clear hb2 hbel2
      go_wp2
      go_roundw
      case rel =>
        have ht : txt (f.take (k + 1)) = txt (f.take k) ++ [c.1] := by
          obtain ⟨hl2, hg2⟩ := List.getElem?_eq_some_iff.1 hck.out
          unfold txt
          rw [List.take_succ_eq_append_getElem hl2, List.map_append, hg2]; rfl
        exact ⟨k + 1, by omega, by go_num, by rw [ht, byteCells_snoc]; exact .inr hb2H.out, (hbelH.out.alloc hns _).trans hbel2H.out⟩
      case measure => simp [intOf]; omega
    · have hbH := Lib.hid hb
      have hbelH := Lib.hid hbel
      have hns : B ≤ wr.heap.size := by have := hbel.size; have := hBH.out; omega
      have htk : f.take k = f := List.take_of_length_le (by rw [hnH.out]; omega)
      rw [htk] at hbH
      clear hb hbel htk
      go_wp2_with fail
      refine (Try.Builder_String_any B B (txt f) wr hbH.out hns).mono ?_
      rintro e w2 ⟨rfl, hbel2⟩
      have hbel2H := Lib.hid hbel2
      clear hbel2
      go_wp2
      go_ret
      exact ⟨rfl, by first | exact hbelH.out.trans hbel2H.out | (rw [hBH.out]; exact hbelH.out.trans hbel2H.out)⟩
end Go.Proofs.Ytlaidmjlgjpgcaa
