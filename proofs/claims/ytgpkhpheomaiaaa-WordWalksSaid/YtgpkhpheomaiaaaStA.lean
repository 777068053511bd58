/- The builder's WriteString; Static of word. No condition. -/
import Derived.Test.YtgpkhpheomaiaaaLwA
import Derived.Lib.Builder
import Derived.Laws.Externs
import Derived.Lib.ItoaMem
namespace Go.Proofs.Ytgpkhpheomaiaaa
open Go.RowKit Go.PlainAid
attribute [local go_sem] Oper.semAt_some

theorem row_ne {W : World} {B : Nat} {cs : Array Value} {t e : TypeId} {fr : Nat × Nat} (h : W.heap[B]? = some (.cells cs t fr)) (hte : t ≠ e) {base size k : Nat} {v : Value} {xs : List Value} (hr : W.ownsRow base e size v k xs) : some B ≠ v.ownBlock := by
  rcases hr.2 with ⟨rfl, _⟩ | ⟨g, cap, cur, rfl, _, hg, _⟩
  · simp [Value.ownBlock]
  · intro e2
    obtain rfl : B = g := by simpa [Value.ownBlock] using e2
    rw [h] at hg
    simp at hg
    exact hte hg.2.1
theorem ownsRow_slice {w : World} {M : Nat} {e : TypeId} {size : Nat} {v : Value} {n : Nat} {xs : List Value} (h : w.ownsRow M e size v n xs) : ∃ a c, v = .slice a n c := by
  rcases h.2 with ⟨rfl, rfl⟩ | ⟨g, cap, _, rfl, _⟩
  · exact ⟨none, 0, rfl⟩
  · exact ⟨_, cap, rfl⟩
theorem bsize : (Try.prog.info? 46).map (·.size) = some 2 := by kernel_rfl
theorem blies : liesAt Try.prog Try.prog.depth 46 (2 / Try.prog.cellsOf 46) 0 46 1 = true := by kernel_rfl

set_option maxHeartbeats 1000000 in
set_option maxRecDepth 100000 in
theorem copyCheck_used (b : Nat) (w : World) (h0 : w.cell? ⟨b, 0, none⟩ = some (.pointer (some ⟨b, 0, none⟩))) :
    Calls Try.prog 29 #[.pointer (some ⟨b, 0, none⟩)] w fun e w' => e = .returned (.tuple #[]) ∧ w' = w := by
  obtain ⟨j, hj, _⟩ := Option.map_eq_some_iff.1 bsize
  go_enter Try.func29, Try.ntmps29
  go_wp2
  rw [Lib.run_neq_ptr_same w _ Try.underlying43 hj]
  go_wp2
  go_end0
  exact ⟨rfl, rfl⟩

set_option maxHeartbeats 1000000 in
set_option maxRecDepth 100000 in
theorem copyCheck_fresh (b : Nat) (w : World) (h0 : w.cell? ⟨b, 0, none⟩ = some (.pointer none)) (hsh : w.shape? b = some (46, 2)) (hfz : w.frozen? ⟨b, 0, none⟩ = false) :
    Calls Try.prog 29 #[.pointer (some ⟨b, 0, none⟩)] w fun e w' => e = .returned (.tuple #[]) ∧ w' = w.setCell ⟨b, 0, none⟩ (.pointer (some ⟨b, 0, none⟩)) := by
  obtain ⟨j, hj, hjs⟩ := Option.map_eq_some_iff.1 bsize
  go_enter Try.func29, Try.ntmps29
  go_wp2
  rw [Lib.run_to_unsafe w ⟨b, 0, none⟩ Try.underlying43 Try.underlying69 hj (by rw [hjs]; decide) hsh (Nat.zero_lt_succ 1)]
  simp only [Result.andThen]
  rw [Oper.upon_value]
  go_wp2
  rw [run_callFunc_extern Try.func38 (by kernel_rfl) (by kernel_rfl) (by kernel_rfl) (e := Extern.AbiNoEscape.same) (by kernel_rfl)]
  rw [Lib.run_noEscape]
  simp only [Result.andThen]
  rw [Oper.upon_value]
  go_wp2
  rw [Lib.run_from_unsafe w ⟨b, 0, none⟩ Try.underlying69 Try.underlying43 hj hsh blies]
  simp only [Result.andThen]
  rw [Oper.upon_value]
  go_wp2
  go_end0
  exact ⟨rfl, rfl⟩

theorem copyCheck_any (B b : Nat) (bs : List Value) (w : World) (h : Lib.IsBuilder 46 5 B b bs w) :
    Calls Try.prog 29 #[.pointer (some ⟨b, 0, none⟩)] w fun e w' => e = .returned (.tuple #[]) ∧ (Lib.BuilderAt 46 5 B b (.pointer (some ⟨b, 0, none⟩)) bs w' ∧ Below B w w') := by
  rcases h with h | h
  · refine (copyCheck_fresh b w h.cell0 h.shape h.frozen0).mono ?_
    rintro e w' ⟨rfl, rfl⟩
    exact ⟨rfl, h.used _, (Below.refl B w).setCell (p := ⟨b, 0, none⟩) h.1 _⟩
  · refine (copyCheck_used b w h.cell0).mono ?_
    rintro e w' ⟨rfl, rfl⟩
    exact ⟨rfl, h, Below.refl B _⟩


theorem isB_keep {B b : Nat} {bs : List Value} {w w' : World} (h : Lib.IsBuilder 46 5 B b bs w) (hk : ∀ g, B ≤ g → g < w.heap.size → w'.heap[g]? = w.heap[g]?) : Lib.IsBuilder 46 5 B b bs w' := by
  rcases h with ⟨h1, v, h2, h3, h4⟩ | ⟨h1, v, h2, h3, h4⟩
  · exact .inl ⟨h1, v, (hk _ h1 (Array.getElem?_eq_some_iff.1 h2).1).trans h2, row_keep h3 (fun g hg => hk g (h3.lt g hg).1 (h3.lt g hg).2), h4⟩
  · exact .inr ⟨h1, v, (hk _ h1 (Array.getElem?_eq_some_iff.1 h2).1).trans h2, row_keep h3 (fun g hg => hk g (h3.lt g hg).1 (h3.lt g hg).2), h4⟩

set_option maxHeartbeats 2000000 in
set_option maxRecDepth 100000 in
theorem writeString_any (B b : Nat) (l : List UInt8) (x : ByteArray) (w : World) (h : Lib.IsBuilder 46 5 B b (Lib.byteCells l) w) (hlen : l.length + x.size ≤ 1000000) (hBw : B ≤ w.heap.size) :
    Calls Try.prog 19 #[.pointer (some ⟨b, 0, none⟩), .string x] w fun e w' => e = .returned (.tuple #[.int .i64 x.size, .nilIface]) ∧ (Lib.BuilderAt 46 5 B b (.pointer (some ⟨b, 0, none⟩)) (Lib.byteCells (l ++ x.data.toList)) w' ∧ Below B w w') := by
  have hcc := Lib.hid (copyCheck_any B b _ w h)
  clear h
  go_enter Try.func19, Try.ntmps19
  go_wp2_with fail
  refine hcc.out.mono ?_
  rintro e w1 ⟨rfl, h1, hb1⟩
  have hsz := hb1.size
  have hb1H := Lib.hid hb1
  clear hb1 hcc
  obtain ⟨hB, v, hbk, hown, hne⟩ := h1
  have hlc : (Lib.byteCells l).length = l.length := Lib.byteCells_length l
  rw [hlc] at hown
  obtain ⟨va, vc, rfl⟩ := ownsRow_slice hown
  have c0 : w1.cell? ⟨b, 0, none⟩ = some (.pointer (some ⟨b, 0, none⟩)) := by rw [Lib.cell_of_heap hbk]; rfl
  have c1 : w1.cell? ⟨b, 1, none⟩ = some (.slice va l.length vc) := by rw [Lib.cell_of_heap hbk]; rfl
  have hlt : b < w1.heap.size := (Array.getElem?_eq_some_iff.1 hbk).1
  have hownH := Lib.hid hown
  have hneH := Lib.hid hne
  have hbkH := Lib.hid hbk
  clear hown hne hbk hlc
  go_wp2_with (at_builtin; refine wpList_str (by rfl) _ _ (by rfl) (by rfl) x (by rfl) hownH.out hlen (by omega) ?_; intro a2 c2 w2 hy2 hg2 hat2; have hb2 := Lib.hid ((hg2.block b hlt (fun e => hneH.out e.symm)).trans hbkH.out); have d1 : w2.cell? ⟨b, 1, none⟩ = some (.slice va l.length vc) := (by rw [Lib.cell_of_heap hb2.out]; rfl); have f1 : w2.frozen? ⟨b, 1, none⟩ = false := (by simp [World.frozen?, hb2.out]); have hgH := Lib.hid hg2; have hoH := Lib.hid hy2; clear hg2 hy2 hat2)
  go_ret2
  have hcells : Lib.byteCells l ++ Lib.strCells x = Lib.byteCells (l ++ x.data.toList) := by rw [Lib.byteCells_append]; rfl
  rw [hcells] at hoH
  have hll : (Lib.byteCells (l ++ x.data.toList)).length = l.length + x.size := by rw [Lib.byteCells_length, List.length_append, ← Lib.size_eq]
  refine ⟨rfl, ⟨hB, .slice a2 (l.length + x.size) c2, ?_, ?_, ?_⟩, ?_⟩
  · simp only [World.setCell, Array.getElem?_modify, if_true, hb2.out]
    rfl
  · rw [hll]
    exact row_keep hoH.out (fun g hg => Below.heap_setCell _ _ _ _ (fun e => row_ne hb2.out (by decide) hoH.out (by rw [hg, e])))
  · exact fun e => row_ne hb2.out (by decide) hoH.out e.symm
  · exact ((hb1H.out.grown hgH.out (by omega) (fun q e => (hownH.out.lt q e).1))).setCell (p := ⟨b, 1, none⟩) hB _

/-- What Static makes of parts. -/
def litsM : List PT → Option (List UInt8)
  | [] => some []
  | p :: l => if p.kind = 1 then (litsM l).map (p.text.data.toList ++ ·) else none
def StatV : Option (List UInt8) → Value
  | some t => .tuple #[.string ⟨t.toArray⟩, .bool true]
  | none => .tuple #[.string ⟨#[]⟩, .bool false]
theorem lits_no {l : List PT} {j : Nat} {p : PT} {acc : List UInt8} (hp : l[j]? = some p) (hk : ¬ p.kind = 1) : (litsM (l.drop j)).map (acc ++ ·) = none := by
  obtain ⟨hj, rfl⟩ := List.getElem?_eq_some_iff.1 hp
  rw [List.drop_eq_getElem_cons hj, litsM, if_neg hk]
  rfl
theorem lits_on {l : List PT} {j : Nat} {p : PT} {acc : List UInt8} (hp : l[j]? = some p) (hk : p.kind = 1) : (litsM (l.drop j)).map (acc ++ ·) = (litsM (l.drop (j + 1))).map ((acc ++ p.text.data.toList) ++ ·) := by
  obtain ⟨hj, rfl⟩ := List.getElem?_eq_some_iff.1 hp
  rw [List.drop_eq_getElem_cons hj, litsM, if_pos hk, Option.map_map]
  congr 1
  funext x
  simp
theorem tot_on {l : List PT} {j : Nat} {p : PT} (hp : l[j]? = some p) (hk : p.kind = 1) : litTot (l.drop j) = p.text.size + litTot (l.drop (j + 1)) := by
  obtain ⟨hj, rfl⟩ := List.getElem?_eq_some_iff.1 hp
  rw [List.drop_eq_getElem_cons hj, litTot, if_pos hk]

set_option maxRecDepth 100000 in
set_option maxHeartbeats 8000000 in
theorem static_any {w : World} {T : Nat → Prop} {D : Nat} {a : Option Addr} {c : Nat} {l : List PT} (h : WAt w T (D + 1) (.slice a l.length c) l) (hT : ∀ g, T g → g < w.heap.size) (hlen : litTot l ≤ 500000) (hll : l.length ≤ 100000) :
    Calls Try.prog 12 #[.slice a l.length c] w fun e w' => e = .returned (StatV (litsM l)) ∧ Below w.heap.size w w' := by
  obtain ⟨B, hB⟩ : ∃ B, w.heap.size = B := ⟨_, rfl⟩
  have hb0 : Hid (Lib.IsBuilder 46 5 B B (Lib.byteCells []) (w.alloc (.cells #[.pointer none, .slice none 0 0] 46))) := Lib.hid (by rw [← hB]; exact Lib.fresh_isBuilder 46 5 w)
  have hBel : Hid (Below B w (w.alloc (.cells #[.pointer none, .slice none 0 0] 46))) := Lib.hid (by rw [← hB]; exact (Below.refl _ _).alloc (Nat.le_refl _) _)
  have hBH := Lib.hid hB
  have hWH := Lib.hid h
  have hTH := Lib.hid hT
  rw [hB]
  clear hB h hT
  go_enter Try.func12, Try.ntmps12
  go_wp2
  rw [hBH.out]
  go_loopw [9] (fun v wr => ∃ (j : Nat) (acc : List UInt8), j ≤ l.length ∧ v = .int .i64 j ∧ Hid (litsM l = (litsM (l.drop j)).map (acc ++ ·)) ∧ acc.length + litTot (l.drop j) ≤ 500000 ∧ Hid (Lib.IsBuilder 46 5 B B (Lib.byteCells acc) wr) ∧ Hid (Below B w wr)) (fun v _ => l.length - (intOf v).toNat)
  case atStart => exact ⟨0, [], Nat.zero_le _, by go_num, Lib.hid (by simp), by simpa using hlen, hb0, hBel⟩
  case round =>
    obtain ⟨j, acc, hj, rfl, hm, hac, hb, hbel⟩ := hrel
    have hsz : B ≤ wr.heap.size := by have := hbel.out.size; have := hBH.out; omega
    by_cases hlt : j < l.length
    · obtain ⟨g, x, p, rfl, hTg, hp, hx, k0, k1, k2, k3, k4⟩ := part_at hWH.out hlt
      have hgl : g < B := by have := hTH.out g hTg; rw [hBH.out] at this; exact this
      have c0' := (hbel.out.cell (p := ⟨g, j * 5, none⟩) hgl).trans k0
      have c1' := (hbel.out.cell (p := ⟨g, j * 5 + 1, none⟩) hgl).trans k1
      have c2' := (hbel.out.cell (p := ⟨g, j * 5 + 2, none⟩) hgl).trans k2
      have c3' := (hbel.out.cell (p := ⟨g, j * 5 + 3, none⟩) hgl).trans k3
      have c4' := (hbel.out.cell (p := ⟨g, j * 5 + 4, none⟩) hgl).trans k4
      have hkx : x.kind = p.kind := hx.1
      have htx : x.text = p.text := hx.2.1
      have hpH := Lib.hid hp
      clear k0 k1 k2 k3 k4 hp hx
      cases hk1 : (x.kind != 1)
      · have hy : p.kind = 1 := by rw [hkx] at hk1; simp at hk1; omega
        have hnext := Lib.hid (hm.out.trans (lits_on hpH.out hy))
        have htot := tot_on hpH.out hy
        rw [htx] at c1'
        clear hy hkx htx
        have hacc : (acc ++ p.text.data.toList).length = acc.length + p.text.size := by rw [List.length_append, ← Lib.size_eq]
        have haccH := Lib.hid hacc
        have htotH := Lib.hid htot
        have hal : acc.length + p.text.size ≤ 1000000 := by omega
        clear hacc htot
        go_wp2_with fail
        refine (writeString_any B B acc p.text _ (isB_keep hb.out (fun g _ hg => Below.heap_alloc _ _ _ hg)) hal (by simp; omega)).mono ?_
        rintro e w5 ⟨rfl, hb5, hl5⟩
        have hb5H := Lib.hid hb5
        have hl5H := Lib.hid ((hbel.out.alloc hsz _).trans hl5)
        clear hb5 hl5
        go_wp2
        go_roundw
        case rel => exact ⟨j + 1, acc ++ p.text.data.toList, by omega, by go_num, hnext, by rw [haccH.out]; have := htotH.out; omega, Lib.hid (.inr hb5H.out), hl5H⟩
        case measure => simp [intOf]; omega
      · have hy : ¬ p.kind = 1 := fun e => by rw [hkx, e] at hk1; simp at hk1
        have hres : Hid (litsM l = none) := Lib.hid (hm.out.trans (lits_no hpH.out hy))
        clear hkx htx
        go_wp2_with fail
        go_ret2
        exact ⟨by rw [hres.out]; rfl, hbel.out.alloc hsz _⟩
    · obtain rfl : j = l.length := by omega
      have hres : Hid (litsM l = some acc) := Lib.hid (by rw [hm.out, List.drop_length]; simp [litsM])
      go_wp2_with fail
      refine (Try.Builder_String_any B B acc wr hb.out hsz).mono ?_
      rintro e w5 ⟨rfl, hl5⟩
      have hl5H := Lib.hid (hbel.out.trans hl5)
      clear hl5
      go_wp2
      go_ret2
      exact ⟨by rw [hres.out]; rfl, hl5H.out⟩
end Go.Proofs.Ytgpkhpheomaiaaa
