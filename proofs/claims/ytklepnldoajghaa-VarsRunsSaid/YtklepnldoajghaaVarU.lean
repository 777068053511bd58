/- The walk of the law VarsNil: true at every input. No condition. -/
import Derived.Test.YtklepnldoajghaaVarT
namespace Go.Proofs.Ytklepnldoajghaa
open Go.RowKit Go.Shelf Go.PlainAid
attribute [local go_sem] Oper.semAt_some

theorem range_nil {g : Operand} {ps : Array Tmp} {body : Code} {Q : Exit → Act → World → Prop} {a : Act} {w : World} (n : Nat) (hn : 2 ≤ n) (Bn m : Nat) (w0 : World)
    (hg : a.eval g = .func (.func 41) #[] #[.pointer (some ⟨Bn, 0, none⟩)]) (hB0 : Bn < w.heap.size) (hBn : w.cell? ⟨Bn, 0, none⟩ = some (.pointer none)) (hps : ps.size = 1)
    (hb0 : Blk w m 4 #[.bool false]) (hw0 : Below m w0 w)
    (hdone : ∀ (D : Nat) (W : World), m < D → Blk W m 4 #[.bool false] → Below m w0 W → W.heap[D]? = some (.deferred (some [])) → Q .normal { a with defers := { target := .collected D, args := #[] } :: a.defers } W) :
    (Code.rangeFunc g ps Code.skip body).wpIn Fence.wide n Try.prog Q a w :=
  range_law rfl (by omega) (gf := 41) (lb := #[.pointer (some ⟨Bn, 0, none⟩)]) hg trivial (enters_of Try.func41 (by kernel_rfl) rfl)
    (All_seq_nil (n - 1) Bn w hB0 hBn) (fun _ _ _ _ _ _ _ _ h => h) (Below.refl _ _) (fun x => by rw [hps]; rfl)
    (fun T pre X => Blk X m 4 #[.bool false] ∧ Below m w0 X ∧ ∀ k ∈ T, m < k ∧ k < X.heap.size)
    (fun _ _ _ _ => False)
    (fun T T' pre A B hs he => by
      obtain ⟨hb, hw, hT⟩ := hs
      refine ⟨(he.block m hb.lt (fun e => by have := (hT _ e).1; omega)).trans hb,
        hw.trans ⟨he.os, he.tape, he.output, he.size, fun k hk => he.block k (by have := hb.lt; omega) (fun e => by have := (hT _ e).1; omega)⟩, fun k hk => ?_⟩
      have := he.size
      have := hb.lt
      rcases he.new k hk with e | e
      · have h := hT k e
        exact ⟨h.1, by omega⟩
      · exact ⟨by omega, e.2⟩)
    (fun _ _ _ _ _ _ h _ => h)
    ⟨hb0, hw0, fun k hk => by cases hk⟩
    (fun x _ => { tmps := (ps.zip (encA x)).foldl (fun t (p, v) => t.setIfInBounds p v) a.tmps, defers := [] })
    (fun _ X => X) (fun x X => Below.refl _ X) (fun _ _ _ _ h => h)
    (fun l x W K hK => wpIn_skip hK)
    (fun l T pre x X X' o hsp => hsp.elim)
    (fun D T xs W _ hDT _ hI hK => hdone D W (hI.2.2 D hDT).1 hI.1 hI.2.1 hK)
    (fun _ _ _ _ _ _ _ _ h _ => h.elim)

set_option maxRecDepth 100000 in
set_option maxHeartbeats 4000000 in
theorem varsNil_in (x v : ByteArray) (n : Int) (w : World) :
    CallsIn Fence.wide 6 Try.prog 4 #[.string x, .string v, .int .i64 n] w fun e w' => e = .returned (.bool true) ∧ Below w.heap.size w w' := by
  obtain ⟨m, hm⟩ : ∃ m, w.heap.size = m := ⟨_, rfl⟩
  have hmH := Lib.hid hm
  rw [hm]
  clear hm
  refine callsIn_of_wp_marks Try.func4 rfl trivial ?_ rfl
  simp only [Try.ntmps4, List.size_toArray, List.length_cons, List.length_nil, Nat.reduceAdd, Nat.reduceSub, Array.replicate_succ, Array.replicate_zero, List.push_toArray, List.append_toArray, List.nil_append, List.cons_append]
  gi_wp2_with (refine ⟨trivial, ?_⟩; first
    | (gi_at_call 8; refine (callsIn_wide.2 (awake_any _)).mono ?_; rintro e w1 ⟨rfl, hB1⟩)
    | (gi_at_call 22; refine (callsIn_wide.2 (getNil_any _ _)).mono ?_; rintro e w2 ⟨rfl, rfl⟩)
    | (gi_at_call 25; refine (callsIn_wide.2 (All_any _ _)).mono ?_; rintro e w2 ⟨rfl, rfl⟩))
  have hmo := hmH.out
  obtain ⟨z, hz⟩ : ∃ z, w2.heap.size = z := ⟨_, rfl⟩
  obtain ⟨W0, hW0⟩ : ∃ W0, w2.alloc (.cells #[.pointer none] 24) = W0 := ⟨_, rfl⟩
  have hm1 : Blk (w.alloc (.cells #[.bool false] 4)) m 4 #[.bool false] := by rw [← hmo]; exact Blk.new w 4 _
  have hm2 : Blk w2 m 4 #[.bool false] := blk_beneath hm1 hB1
  have hm0 : Blk W0 m 4 #[.bool false] := by rw [← hW0]; exact hm2.alloc _
  have hzm : m < z := by rw [← hz]; exact hm2.lt
  have hbn : W0.cell? ⟨z, 0, none⟩ = some (.pointer none) := by rw [← hW0, ← hz]; exact (Blk.new w2 24 _).cell 0
  have hz0 : z < W0.heap.size := by rw [← hW0, ← hz]; simp
  have hBel : Below m w W0 := by
    rw [← hW0]
    exact (((Below.refl _ w).alloc (by omega) _).trans (hB1.mono (by simp; omega))).alloc (by omega) _
  rw [hW0, hz, hmo]
  clear hB1 hm1 hm2 hmo
  refine range_nil 6 (by omega) z m w rfl hz0 hbn rfl hm0 hBel ?_
  clear hbn hm0 hBel hW0
  rintro D W hD hb hB hK
  have c0 := hb.cell 0
  have f0 := hb.frozen 0
  have hbH := Lib.hid hb
  have hBH := Lib.hid hB
  have hKH := Lib.hid hK
  clear hb hB hK
  gi_wp2_with (refine ⟨trivial, ?_⟩; first
    | (gi_at_call 10; refine (callsIn_wide.2 (setNil_any _ _ _)).mono ?_; rintro e w5 ⟨rfl, rfl⟩)
    | (gi_at_call 12; refine (callsIn_wide.2 (unsetNil_any _ _)).mono ?_; rintro e w5 ⟨rfl, rfl⟩)
    | (gi_at_call 14; refine (callsIn_wide.2 (markNil_any _ _ _ _)).mono ?_; rintro e w5 ⟨rfl, rfl⟩)
    | (gi_at_call 16; refine (callsIn_wide.2 (setArgsNil_any _ _)).mono ?_; rintro e w5 ⟨rfl, rfl⟩)
    | (gi_at_call 18; refine (callsIn_wide.2 (shiftNil_any _ _)).mono ?_; rintro e w5 ⟨rfl, rfl⟩)
    | (gi_at_call 20; refine (callsIn_wide.2 (copyNil_any _)).mono ?_; rintro e w5 ⟨rfl, rfl⟩)
    | (gi_at_call 26; refine (callsIn_wide.2 (argsNil_any _)).mono ?_; rintro e w5 ⟨rfl, rfl⟩))
  refine ⟨trivial, ?_⟩
  refine (callsIn_wide.2 (environNil_any _)).mono ?_
  rintro e w6 ⟨rfl, hB6⟩
  have hb6 := blk_beneath hbH.out hB6
  have hlD : D < w5.heap.size := by
    rcases Nat.lt_or_ge D w5.heap.size with g | g
    · exact g
    · have := hKH.out; rw [Array.getElem?_eq_none g] at this; simp at this
  have hK6 := (hB6.block D hlD).trans hKH.out
  have hBel6 := hBH.out.trans (hB6.mono (Nat.le_of_lt hbH.out.lt))
  have c6 := hb6.cell 0
  have f6 := hb6.frozen 0
  have hb6H := Lib.hid hb6
  have hK6H := Lib.hid hK6
  have hBel6H := Lib.hid hBel6
  clear c0 f0 hbH hBH hKH hB6 hb6 hK6 hBel6
  gi_wp2
  have hb7 : Blk (w6.setCell ⟨m, 0, none⟩ (.bool true)) m 4 #[.bool true] := hb6H.out.set_ 0 _
  have hK' : (w6.setCell ⟨m, 0, none⟩ (.bool true)).heap[D]? = some (.deferred (some [])) := (Below.heap_setCell _ _ _ D (by show D ≠ m; omega)).trans hK6H.out
  refine ⟨by simp, .inl ⟨_, _, rfl, run_takeDeferred hK', ?_⟩⟩
  have hb8 : Blk ((w6.setCell ⟨m, 0, none⟩ (.bool true)).putObj D (.deferred none)) m 4 #[.bool true] := (World.putObj_heap_other (by omega)).trans hb7
  have hc8 := hb8.cell 0
  refine ⟨.bool true, by simp [results, Try.f4, go_sem, hc8], rfl, ?_⟩
  have hB7 := hBel6H.out.setCell (p := ⟨m, 0, none⟩) (Nat.le_refl m) (.bool true)
  exact hB7.trans ⟨rfl, rfl, rfl, by simp [World.putObj], fun k hk => World.putObj_heap_other (by omega)⟩

theorem varsNil_w (x v : ByteArray) (n : Int) (w : World) (_ : x.size ≤ maxLen) (_ : v.size ≤ maxLen) (_ : (Lit.int .i64 n).wf = true) :
    Calls Try.prog 4 #[.string x, .string v, .int .i64 n] w fun e w' => e = .returned (.bool true) ∧ Below w.heap.size w w' :=
  callsIn_wide.1 (varsNil_in x v n w)
end Go.Proofs.Ytklepnldoajghaa
