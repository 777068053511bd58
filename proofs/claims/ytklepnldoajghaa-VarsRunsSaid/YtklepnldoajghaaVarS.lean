/- Of no variables: All and Environ; the first look (awake). No condition. -/
import Derived.Test.YtklepnldoajghaaVarQ
namespace Go.Proofs.Ytklepnldoajghaa
open Go.RowKit Go.Shelf Go.PlainAid
attribute [local go_sem] Oper.semAt_some

set_option maxHeartbeats 400000 in
theorem all41_nil (n : Nat) (l Bn : Nat) (J : List Nat → Vl → World → Prop) (W : World) (hJa : Abide J)
    (hBn : W.cell? ⟨Bn, 0, none⟩ = some (.pointer none)) (h0 : J [] [] W) :
    CallsIn Fence.wide n Try.prog 41 #[.func (.yield l) #[] #[], .pointer (some ⟨Bn, 0, none⟩)] W fun e W' => (∃ v, e = .returned v) ∧ J [] [] W' := by
  have hBl : Bn < W.heap.size := block_of_cell hBn
  have hBn1 : ∀ o, (W.alloc o).cell? ⟨Bn, 0, none⟩ = some (.pointer none) := fun o => (cell_alloc o hBl).trans hBn
  have hJ := Lib.hid (hJa _ _ _ _ _ h0 (.below ((Below.refl _ W).alloc (Nat.le_refl _) (.cells #[.func (.yield l) #[] #[]] 79))))
  clear h0
  refine callsIn_of_wp_marks Try.func41 rfl trivial ?_ rfl
  simp only [Try.ntmps41, List.size_toArray, List.length_cons, List.length_nil, Nat.reduceAdd, Nat.reduceSub, Array.replicate_succ, Array.replicate_zero, List.push_toArray, List.append_toArray, List.nil_append, List.cons_append]
  gi_wp2
  exact ⟨_, results_none rfl _ _ _, ⟨_, rfl⟩, hJ.out⟩

theorem All_seq_nil (n : Nat) (Bn : Nat) (w : World) (hB0 : Bn < w.heap.size) (hBn : w.cell? ⟨Bn, 0, none⟩ = some (.pointer none)) :
    SeqT Fence.wide n Try.prog 41 #[.pointer (some ⟨Bn, 0, none⟩)] encA noK (fun xs => xs = []) (fun _ => False) w := by
  intro l J Jx W hW hJa _ _ h0
  exact (all41_nil n l Bn J W hJa ((hW.cell (p := ⟨Bn, 0, none⟩) hB0).trans hBn) h0).mono fun _ _ ⟨hv, hj⟩ => ⟨hv, .inl ⟨_, _, rfl, hj⟩⟩

set_option maxRecDepth 100000 in
set_option maxHeartbeats 4000000 in
theorem EnvironNil_in (n : Nat) (hn : 5 ≤ n) (w : World) :
    CallsIn Fence.wide n Try.prog 27 #[.pointer none] w fun e w' => e = .returned (.slice none 0 0) ∧ Below w.heap.size w w' := by
  have h1 : 1 ≤ n := by omega
  obtain ⟨m, hm⟩ : ∃ m, w.heap.size = m := ⟨_, rfl⟩
  refine callsIn_of_wp_marks Try.func27 rfl trivial ?_ rfl
  simp only [Try.ntmps27, List.size_toArray, List.length_cons, List.length_nil, Nat.reduceAdd, Nat.reduceSub, Array.replicate_succ, Array.replicate_zero, List.push_toArray, List.append_toArray, List.nil_append, List.cons_append]
  gi_wp2_with (refine ⟨trivial, ?_⟩; gi_at_call 25; refine (callsIn_wide.2 (All_any _ _)).mono ?_; rintro e w' ⟨rfl, rfl⟩)
  obtain ⟨W0, hW0⟩ : ∃ W0, (w.alloc (.cells #[.slice none 0 0] 28)).alloc (.cells #[.pointer none] 24) = W0 := ⟨_, rfl⟩
  have hs0 : W0.heap.size = m + 2 := by rw [← hW0, ← hm]; simp
  have hBm0 : Blk W0 m 28 #[.slice none 0 0] := by rw [← hW0, ← hm]; exact (Blk.new w 28 _).alloc _
  have hBn0 : W0.cell? ⟨m + 1, 0, none⟩ = some (.pointer none) := by
    have h := Blk.new (w.alloc (.cells #[.slice none 0 0] 28)) 24 #[.pointer none]
    rw [World.size_alloc, hW0, hm] at h
    exact h.cell 0
  have hBel : Below m w W0 := by rw [← hW0]; exact ((Below.refl _ w).alloc (by omega) _).alloc (by simp; omega) _
  rw [hW0]
  refine range_law rfl h1 (gf := 41) (lb := #[.pointer (some ⟨m + 1, 0, none⟩)]) rfl trivial (enters_of Try.func41 (by kernel_rfl) rfl)
    (All_seq_nil (n - 1) (m + 1) W0 (by omega) hBn0) (fun _ _ _ _ _ _ _ _ h => h) (Below.refl _ _) (fun _ => rfl)
    (fun T pre X => Blk X m 28 #[.slice none 0 0] ∧ Below m w X ∧ ∀ k ∈ T, m < k ∧ k < X.heap.size)
    (fun _ _ _ _ => False)
    (fun T T' pre A B hs he => by
      obtain ⟨hb, hw, hT⟩ := hs
      refine ⟨(he.block m hb.lt (fun e => by have := (hT _ e).1; omega)).trans hb,
        hw.trans ⟨he.os, he.tape, he.output, he.size, fun k hk => he.block k (by have := hb.lt; omega) (fun e => by have := (hT _ e).1; omega)⟩, fun k hk => ?_⟩
      have := he.size
      have := hb.lt
      rcases he.new k hk with e | e
      · have h := hT k e
        exact ⟨h.1, by omega⟩
      · exact ⟨by omega, e.2⟩)
    (fun _ _ _ _ _ _ h _ => h)
    ⟨hBm0, hBel, fun k hk => by cases hk⟩
    (fun x X => { tmps := #[.pointer none, undef, .slice none 0 0, .pointer (some ⟨m, 0, none⟩), .pointer (some ⟨X.heap.size, 0, none⟩), .pointer none, .func (.func 41) #[] #[.pointer (some ⟨m + 1, 0, none⟩)], .agg #[.string x.1, .string x.2.val, .bool x.2.ex, .bool x.2.ro, .bool (!x.2.st)], undef, undef, undef, undef, undef, undef, undef, undef, undef, undef, undef, undef, undef, undef, undef, undef, undef], defers := [] })
    (fun x X => X.alloc (.cells #[.string x.1, .string x.2.val, .bool x.2.ex, .bool x.2.ro, .bool (!x.2.st)] 73))
    (fun x X => (Below.refl _ X).alloc (Nat.le_refl _) _) (fun _ _ _ _ h => h) ?assign ?body ?done ?stop
  case assign =>
    intro l' x X K hK
    gi_wp2
    simpa [encA] using hK
  case body =>
    rintro l' T pre x X X' o hsp
    exact hsp.elim
  case done =>
    rintro D T ys X hD hDT rfl ⟨hb, hw, hT⟩ hK
    have r0 : X.cell? ⟨m, 0, none⟩ = some (.slice none 0 0) := hb.cell 0
    gi_wp2
    refine ⟨by simp, .inl ⟨_, _, rfl, run_takeDeferred hK, ?_⟩⟩
    have hmD : m < D := (hT D hDT).1
    refine ⟨_, results_tmp rfl _ _ _, rfl, ?_⟩
    rw [hm]
    exact hw.trans ⟨rfl, rfl, rfl, by simp [World.putObj], fun k hk => World.putObj_heap_other (by omega)⟩
  case stop =>
    rintro D c T pre X hD hDT hpre h hK
    exact h.elim

theorem environNil_any (w : World) : Calls Try.prog 27 #[.pointer none] w fun e w' => e = .returned (.slice none 0 0) ∧ Below w.heap.size w w' :=
  callsIn_wide.1 (EnvironNil_in 5 (Nat.le_refl _) w)

/-- The variables of the first look. -/
def L1 : Vl := [(⟨#[97]⟩, ⟨⟨#[49]⟩, true, false, false⟩)]
def L2 : Vl := [(⟨#[97]⟩, ⟨⟨#[49]⟩, true, true, false⟩)]
theorem setR_1 : setR [] ⟨#[97]⟩ ⟨#[49]⟩ = L1 := by kernel_rfl
theorem setE_1 : setE [] ⟨#[97]⟩ ⟨#[49]⟩ = 0 := by kernel_rfl
theorem markR_1 : markR L1 ⟨#[97]⟩ true false = L2 := by kernel_rfl
theorem markE_1 : markE L1 ⟨#[97]⟩ true false = 0 := by kernel_rfl
theorem env_2 : envL L2 = [⟨#[97, 61, 49]⟩] := by kernel_rfl

end Go.Proofs.Ytklepnldoajghaa
