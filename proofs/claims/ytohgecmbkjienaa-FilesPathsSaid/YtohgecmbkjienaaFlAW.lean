/- List. Condition: the tree lies as stated. -/
import Derived.Test.YtohgecmbkjienaaFlAV
namespace Go.Proofs.Ytohgecmbkjienaa
open Go.RowKit Go.Shelf Go.PlainAid
attribute [local go_sem] Oper.semAt_some
def strs (l : List ByteArray) : List Value := l.map Value.string
theorem infoS : (Try.prog.info? 9).map (fun i => (i.zero, i.size, i.bytes)) = some (some (.string ⟨#[]⟩), 1, 16) := by kernel_rfl
theorem row_ge {w : World} {b : Nat} {e : TypeId} {s n : Nat} {v : Value} {xs : List Value} (h : w.ownsRow b e s v n xs) {g : Nat} (hg : v.ownBlock = some g) : b ≤ g := by
  rcases h.2 with ⟨rfl, _⟩ | ⟨g', cap, cur, rfl, hb, _⟩
  · simp [Value.ownBlock] at hg
  · obtain rfl : g' = g := by simpa [Value.ownBlock] using hg
    exact hb
theorem below_grownR {w w1 w2 : World} {n : Nat} {r : Option Nat} (hb : Below n w w1) (hn : n ≤ w1.heap.size) (hg : w1.grownBy w2 r) (hr : ∀ g, r = some g → n ≤ g) : Below n w w2 :=
  ⟨hg.os.trans hb.os, hg.tape.trans hb.tape, hg.output.trans hb.output, Nat.le_trans hb.size hg.size, fun g h => (hg.block g (by omega) (fun e => by have := hr g e.symm; omega)).trans (hb.block g h)⟩
def ListM (f : Fs) (n : Int) : List ByteArray × Nat := match node f n with
  | none => ([], 9)
  | some I => if I.isDir = true then (nms I.ents, 0) else ([], 20)
section
variable {w : World} {B : Nat → Nat → Prop} {p : Nat} {f : Fs} {sv : Value} {ps : List (Option Nat)}
set_option maxRecDepth 100000 in
set_option maxHeartbeats 2000000 in
theorem list_any (h : FsAt w B p f sv ps) (hf : FineF f) (k : Int) : Calls Try.prog 36 #[.pointer (some ⟨p, 0, none⟩), .int .i64 k] w fun e w' => (∃ v, e = .returned (.tuple #[v, .int .i64 (ListM f k).2]) ∧ w'.ownsRow w.heap.size 9 1 v (ListM f k).1.length (strs (ListM f k).1)) ∧ Below w.heap.size w w' := by
  have hlen : f.length ≤ 100000 := by have := hf.1; omega
  cases hn : node f k with
  | none =>
    have hM : ListM f k = ([], 9) := by unfold ListM; rw [hn]
    have hc := Lib.hid (node_no h hn hlen)
    rw [hM]
    clear h hf hn hM
    go_enter Try.func36, Try.ntmps36
    go_wp2_with (go_at_call 38; refine hc.out.mono ?_; rintro e w' ⟨rfl, rfl⟩)
    go_ret2
    exact ⟨⟨_, rfl, World.ownsRow_nil _ _ _ _⟩, Below.refl _ _⟩
  | some I =>
    obtain ⟨i, q, rfl, hil, hi, hq, dv, ev, hA⟩ := node_where h hn
    have hM : ListM f ((i : Int) + 1) = if I.isDir = true then (nms I.ents, 0) else ([], 20) := by unfold ListM; rw [hn]
    rw [hM]
    have hc := Lib.hid (node_yes h hq hlen)
    have hdi := Lib.hid (isDir_any hA)
    have hfi := hf.2 i I hi
    obtain ⟨a2, c2, rfl⟩ := ownsRow_slice hA.ent
    cases hd : I.isDir with
    | false =>
      rw [hd] at hdi
      rw [if_neg (by decide)]
      clear h hf hn hM hi hq hA hd hfi
      go_enter Try.func36, Try.ntmps36
      go_wp2_with (first | (go_at_call 38; refine hc.out.mono ?_; rintro e w' ⟨rfl, rfl⟩) | (go_at_call 49; refine hdi.out.mono ?_; rintro e w' ⟨rfl, rfl⟩))
      go_ret2
      exact ⟨⟨_, rfl, World.ownsRow_nil _ _ _ _⟩, Below.refl _ _⟩
    | true =>
      rw [hd] at hdi
      rw [if_pos rfl]
      obtain ⟨i0, hi0, hz0, hz1, hz2⟩ := info_parts infoS
      have c5 : w.cell? ⟨q, 5, none⟩ = some (.slice a2 I.ents.length c2) := hA.blk.cell 5
      have hat : ∀ (i : Nat) (y : En), I.ents[i]? = some y → ∃ g, a2 = some ⟨g, 0, none⟩ ∧ g < w.heap.size ∧ w.cell? ⟨g, i * 2, none⟩ = some (.string y.1) ∧ w.cell? ⟨g, i * 2 + 1, none⟩ = some (.int .i64 y.2) := fun i y hy => by
        obtain ⟨g, cap, e, _, h1, _⟩ := row_at ecs_len hA.ent hy
        obtain ⟨rfl, rfl⟩ : a2 = some ⟨g, 0, none⟩ ∧ c2 = cap := by simpa using e
        have c0 := h1 0 _ rfl
        exact ⟨g, rfl, block_of_cell c0, c0, h1 1 _ rfl⟩
      have hel := hfi.el
      obtain ⟨L, hL⟩ : ∃ L, I.ents = L := ⟨_, rfl⟩
      rw [hL] at c5 hat hel ⊢
      obtain ⟨n, hn2⟩ : ∃ n, L.length = n := ⟨_, rfl⟩
      have hatH := Lib.hid hat
      have hnH := Lib.hid hn2
      rw [hn2] at c5 hel
      clear h hf hn hM hi hq hA hd hfi hat hL hn2
      go_enter Try.func36, Try.ntmps36
      go_wp2_with (first | (go_at_call 38; refine hc.out.mono ?_; rintro e w' ⟨rfl, rfl⟩) | (go_at_call 49; refine hdi.out.mono ?_; rintro e w' ⟨rfl, rfl⟩))
      go_loopw [7, 23] (fun s7 s23 wr => ∃ i : Nat, i ≤ n ∧ s23 = .int .i64 i ∧ Hid (Below w'.heap.size w' wr) ∧ Hid (wr.ownsRow w'.heap.size 9 1 s7 i (strs (nms (L.take i))))) (fun _ s23 _ => n - (intOf s23).toNat)
      case atStart => exact ⟨0, Nat.zero_le _, by go_num, Lib.hid (Below.refl _ _), Lib.hid (World.ownsRow_nil _ _ _ _)⟩
      case round =>
        obtain ⟨i, hi, rfl, hb, hR⟩ := hrel
        by_cases hlt : i < n
        · obtain ⟨y, hy⟩ : ∃ y, L[i]? = some y := ⟨_, List.getElem?_eq_getElem (by have := hnH.out; omega)⟩
          obtain ⟨g, rfl, hgl, c0, c1⟩ := hatH.out _ _ hy
          have d0 := (World.cell?_of_block (a := ⟨g, i * 2, none⟩) (hb.out.block g hgl)).trans c0
          have d1 := (World.cell?_of_block (a := ⟨g, i * 2 + 1, none⟩) (hb.out.block g hgl)).trans c1
          obtain ⟨ya, yn⟩ := y
          dsimp only at d0 d1
          have htk := Lib.hid (show strs (nms (L.take (i + 1))) = strs (nms (L.take i)) ++ [.string ya] by
            obtain ⟨h1, h2⟩ := List.getElem?_eq_some_iff.1 hy
            rw [List.take_succ_eq_append_getElem h1, h2]
            simp [strs, nms])
          obtain ⟨a7, c7, rfl⟩ := ownsRow_slice hR.out
          clear c0 c1 hy
          have hb2 := Lib.hid ((hb.out.alloc hb.out.size (.cells #[.string ya, .int .i64 yn] 105)).alloc (Nat.le_trans hb.out.size (by simp)) (.cells #[.string ya] 9))
          have hR2 := Lib.hid ((hR.out.alloc (.cells #[.string ya, .int .i64 yn] 105)).alloc (.cells #[.string ya] 9))
          have hN := Lib.hid (newB (wr.alloc (.cells #[.string ya, .int .i64 yn] 105)) #[.string ya] (t := 9) (wr.heap.size + 1) (by simp))
          have hsz := hb.out.size
          go_wp2_with (at_builtin; refine wpList_append_lies _ rfl _ _ 78 rfl w'.heap.size 9 i0 _ 1 _ Try.underlying78 hi0 hz0 hz1 hz2 rfl (by decide) (.slice a7 i c7) i _ rfl hR2.out ⟨wr.heap.size + 1, 0, none⟩ 1 1 [.string ya] rfl (by rfl) (fun j u hj => by
            rw [Addr.add_lit, Nat.zero_add]
            obtain ⟨rfl, rfl⟩ : j = 0 ∧ u = .string ya := by
              cases j with
              | zero => simp at hj; exact ⟨rfl, hj.symm⟩
              | succ j => simp at hj
            exact hN.out.cell 0) (fun u hu => by simp at hu; subst hu; rfl) (by decide) (by unfold maxLen; omega) (by omega) (by simp; omega) _ rfl ?_; intro gg cc wn hown' hgr hat' _; have hb3 := Lib.hid (below_grownR hb2.out (Nat.le_trans hb.out.size (by simp; omega)) hgr (fun g e => row_ge hR2.out e)); rw [← htk.out] at hown'; have hR3 := Lib.hid hown'; clear hown' hgr hat')
          go_roundw
          case rel => exact ⟨i + 1, by omega, by go_num, hb3, hR3⟩
          case measure => simp [intOf]; omega
        · obtain rfl : i = n := by omega
          have hR4 := hR.out
          rw [← hnH.out, List.take_length] at hR4
          have hR4H := Lib.hid hR4
          clear hR4
          go_wp2
          go_ret2
          refine ⟨⟨_, rfl, ?_⟩, hb.out⟩
          have h9 := hR4H.out
          rw [show (nms L).length = L.length by simp [nms]]
          exact h9
end
end Go.Proofs.Ytohgecmbkjienaa
