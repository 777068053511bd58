/- Variables that came in; Same of two equal rows. Condition: they lie as stated. -/
import Derived.Test.YtjbmpockoicgmaaGreatPrC
import Derived.Deep.Slices
import Derived.Lib.Strings
import Derived.SizedLaws
namespace Go.Proofs.YtjbmpockoicgmaaGreat
open Go.ChangeShapes Go.WideShapes Go.RowKit Go.Deep Go.PlainAid Go.Shelf
set_option linter.unusedVariables false
set_option linter.unusedSimpArgs false
attribute [local go_sem] Oper.semAt_some
theorem five {α : Type} (l : List α) (h : l.length = 5) : ∃ a b c d e, l = [a, b, c, d, e] := by
  match l, h with
  | [a, b, c, d, e], _ => exact ⟨a, b, c, d, e, rfl⟩
def vrData {H : Type} (x : Vr) : DataW H := .agg [.lit (.string x.name.data.toList), .lit (.string x.val.data.toList), .lit (.bool x.x), .lit (.bool x.r), .lit (.bool x.u)]
theorem var_data {H : Type} {enc : TypeId × Value → H} {w : World} {m : Nat} {cs : List Value} {x : DataW H × List MemPlace} (hl : cs.length = 5) (h : DataW.trod enc Tryz.prog w 0 (fun _ => true) true m 32 cs = some x) :
    ∃ c : Vr, cs = vrcs c ∧ x.1 = vrData c ∧ c.name.size ≤ maxLen ∧ c.val.size ≤ maxLen := by
  obtain ⟨x0, x1, x2, x3, x4, rfl⟩ := five cs hl
  obtain ⟨xs, n', _, hx, _, hxl, hg⟩ := DataW.trod_struct Tryz.underlying32 h
  obtain ⟨y0, y1, y2, y3, y4, rfl⟩ := five xs hxl
  have k4 : Tryz.prog.cellsOf 4 = 1 := by kernel_rfl
  have k9 : Tryz.prog.cellsOf 9 = 1 := by kernel_rfl
  have g0 : DataW.trod enc Tryz.prog w 0 (fun _ => true) true n' 9 ((([x0, x1, x2, x3, x4] : List Value).drop 0).take (Tryz.prog.cellsOf 9)) = some y0 := hg 0 _ rfl
  have g1 : DataW.trod enc Tryz.prog w 0 (fun _ => true) true n' 9 ((([x0, x1, x2, x3, x4] : List Value).drop 1).take (Tryz.prog.cellsOf 9)) = some y1 := hg 1 _ rfl
  have g2 : DataW.trod enc Tryz.prog w 0 (fun _ => true) true n' 4 ((([x0, x1, x2, x3, x4] : List Value).drop 2).take (Tryz.prog.cellsOf 4)) = some y2 := hg 2 _ rfl
  have g3 : DataW.trod enc Tryz.prog w 0 (fun _ => true) true n' 4 ((([x0, x1, x2, x3, x4] : List Value).drop 3).take (Tryz.prog.cellsOf 4)) = some y3 := hg 3 _ rfl
  have g4 : DataW.trod enc Tryz.prog w 0 (fun _ => true) true n' 4 ((([x0, x1, x2, x3, x4] : List Value).drop 4).take (Tryz.prog.cellsOf 4)) = some y4 := hg 4 _ rfl
  rw [k9] at g0 g1
  rw [k4] at g2 g3 g4
  obtain ⟨s, e0, z0, hs⟩ := DataW.trod_string Tryz.underlying9 g0
  obtain ⟨t, e1, z1, ht⟩ := DataW.trod_string Tryz.underlying9 g1
  obtain ⟨b2, e2, z2⟩ := DataW.trod_bool Tryz.underlying4 g2
  obtain ⟨b3, e3, z3⟩ := DataW.trod_bool Tryz.underlying4 g3
  obtain ⟨b4, e4, z4⟩ := DataW.trod_bool Tryz.underlying4 g4
  simp only [List.drop_zero, List.drop_succ_cons, List.take_succ_cons, List.take_zero, List.cons.injEq, and_true] at e0 e1 e2 e3 e4
  subst e0 e1 e2 e3 e4
  subst z0 z1 z2 z3 z4
  subst hx
  exact ⟨⟨s, t, b2, b3, b4⟩, rfl, rfl, hs, ht⟩
theorem addr_at (a : Addr) (k : Nat) (hs : a.spot = none) : a.add k = ⟨a.block, a.off + k, none⟩ := by
  unfold Addr.add
  obtain ⟨b, o, s⟩ := a
  obtain rfl : s = none := hs
  split <;> simp_all
theorem add_add' (a : Addr) (j k : Nat) (hs : a.spot = none) : (a.add j).add k = ⟨a.block, a.off + j + k, none⟩ := by
  rw [addr_at a j hs, addr_at _ k rfl]
/-- The variables lie. -/
def VarsAt (w : World) (A : Option Addr) (cs : List Vr) : Prop := ∀ i x, cs[i]? = some x → ∃ (b off : Nat), A = some ⟨b, off, none⟩ ∧ b < w.heap.size ∧ ∀ j u, (vrcs x)[j]? = some u → w.cell? ⟨b, off + i * 5 + j, none⟩ = some u
set_option maxRecDepth 100000 in
theorem open_vars {H : Type} {enc : TypeId × Value → H} {w : World} {d : DataW H} {p : List MemPlace} {A : Option Addr} {len cap : Nat}
    (h : DataW.Trod enc Tryz.prog w 0 (fun _ => true) true 22 (.slice A len cap) d p) :
    ∃ cs : List Vr, cs.length = len ∧ VarsAt w A cs ∧ (∀ x ∈ cs, x.name.size ≤ maxLen ∧ x.val.size ≤ maxLen) ∧ (cs = [] ∨ ∃ sp, d = .slice (cs.map vrData) sp) ∧ len ≤ cap := by
  obtain ⟨fuel, hf⟩ := h
  rcases open_slice Tryz.underlying22 hf with ⟨hcs, _⟩ | ⟨a, l, c, m, n, D, Pl, hcs, _, hl, hm, hmm, hx, hi⟩
  · simp [Value.cells] at hcs
    obtain ⟨rfl, rfl, rfl⟩ := hcs
    exact ⟨[], rfl, fun i t hi => by simp at hi, fun x hx => (nomatch hx), .inl rfl, Nat.le_refl _⟩
  · simp [Value.cells] at hcs
    obtain ⟨rfl, rfl, rfl⟩ := hcs
    simp only [if_true] at hmm
    have hlm : len ≤ m := by rw [hmm]; omega
    have hC : Tryz.prog.cellsOf 32 = 5 := by kernel_rfl
    simp only [hC] at hi
    have hex : ∀ i, ∃ q : Vr, i < len → D i = vrData q ∧ (q.name.size ≤ maxLen ∧ q.val.size ≤ maxLen) ∧ a.spot = none ∧ ∀ j u, (vrcs q)[j]? = some u → w.cell? ⟨a.block, a.off + i * 5 + j, none⟩ = some u := fun i => by
      by_cases hil : i < len
      · obtain ⟨cs', hc, hy⟩ := hi i (by omega)
        obtain ⟨_, hcl, hat⟩ := World.cells?_some hc
        obtain ⟨q, h3, h4, h5⟩ := var_data hcl hy
        have hq6 : cs'.length = 5 := hcl
        have hsp : a.spot = none := by
          obtain ⟨cs0, hc0, hy0⟩ := hi 0 (by omega)
          obtain ⟨_, hcl0, hat0⟩ := World.cells?_some hc0
          obtain ⟨q0, e0, _, _⟩ := var_data hcl0 hy0
          have h00 : w.cell? ((a.add (0 * 5)).add 0) = some (.string q0.name) := (hat0 0 (by omega)).trans (by rw [e0]; rfl)
          have := World.cell?_spot h00
          simpa [Addr.add] using this
        refine ⟨q, fun _ => ⟨h4, h5, hsp, fun j u hj => ?_⟩⟩
        have hj6 : j < 5 := by have := (List.getElem?_eq_some_iff.1 hj).1; exact this
        have h6 := hat j (by omega)
        rw [add_add' _ _ _ hsp] at h6
        refine h6.trans ?_
        rw [← hj, h3]
      · exact ⟨⟨ByteArray.empty, ByteArray.empty, false, false, false⟩, fun h => absurd h hil⟩
    refine ⟨(List.range len).map fun i => Classical.choose (hex i), by simp, fun i q hq => ?_, fun x hx => ?_, .inr ⟨(List.range (m - len)).map fun j => D (len + j), (Prod.mk.inj hx).1.trans ?_⟩, by omega⟩
    · have hil : i < len := by have := (List.getElem?_eq_some_iff.1 hq).1; simpa using this
      have hspec := Classical.choose_spec (hex i) hil
      rw [List.getElem?_map, List.getElem?_range hil] at hq
      have hqe : Classical.choose (hex i) = q := by simpa using hq
      rw [hqe] at hspec
      obtain ⟨_, _, hsp, k0⟩ := hspec
      refine ⟨a.block, a.off, ?_, ?_, k0⟩
      · obtain ⟨b, o, sp⟩ := a
        obtain rfl : sp = none := hsp
        rfl
      · exact block_of_cell (a := ⟨a.block, a.off + i * 5 + 0, none⟩) (k0 0 _ rfl)
    · obtain ⟨i, hi2, hi3⟩ := List.mem_map.1 hx
      rw [← hi3]
      exact (Classical.choose_spec (hex i) (List.mem_range.1 hi2)).2.1
    · congr 1
      rw [List.map_map]
      exact List.map_congr_left (fun i hi => (Classical.choose_spec (hex i) (List.mem_range.1 hi)).1)
/-- The reach: how many there are. -/
theorem sized_vars {H : Type} {ts : List TypeId} {ds : List (DataW H)} (h : (DataW.weightsEach Tryz.prog ts ds).all (· ≤ reachBytes) = true) {j : Nat} {cs : List Vr} {d : DataW H} (ht : ts[j]? = some 22) (hd : ds[j]? = some d) (hd' : cs = [] ∨ ∃ sp, d = .slice (cs.map vrData) sp) :
    cs.length ≤ 1000000000000000 := by
  rcases hd' with rfl | ⟨sp, rfl⟩
  · simp
  · have := sized_slice h ht hd Tryz.underlying22
    rw [List.length_map, show Tryz.prog.bytesOf 32 = 40 by kernel_rfl] at this
    unfold reachBytes at this
    omega
theorem vat_vars {w : World} {A : Option Addr} {cs : List Vr} (h : VarsAt w A cs) (hl : cs.length ≤ 1000000000000000) (hs : ∀ x ∈ cs, x.name.size ≤ maxLen ∧ x.val.size ≤ maxLen) : VAt (fun _ => False) w A cs :=
  ⟨hl, fun v hv => by have := hs v hv; unfold maxLen at this; omega, fun hne => by
    obtain ⟨v, hv⟩ : ∃ v, cs[0]? = some v := ⟨_, List.getElem?_eq_getElem (Nat.pos_of_ne_zero fun e => hne (List.eq_nil_of_length_eq_zero e))⟩
    obtain ⟨b, off, e, hb, _⟩ := h 0 v hv
    refine ⟨b, off, e, hb, fun h => h, fun i v hi j u hj => ?_⟩
    obtain ⟨b', off', e', _, hc⟩ := h i v hi
    rw [e] at e'
    obtain ⟨rfl, rfl⟩ : b = b' ∧ off = off' := by simpa using e'
    exact hc j u hj⟩
set_option maxRecDepth 100000 in
set_option maxHeartbeats 2000000 in
theorem same_any {w : World} {b1 b2 : Nat} {v1 v2 : Value} {l : List (ByteArray × I64)} (h1 : w.ownsRow b1 37 2 v1 l.length (flat scs l)) (h2 : w.ownsRow b2 37 2 v2 l.length (flat scs l)) (hl : l.length ≤ 1000000) :
    Calls Tryz.prog 9 #[v1, v2] w fun e w' => e = .returned (.bool true) ∧ Below w.heap.size w w' := by
  obtain ⟨a1, c1, rfl, _, hc1⟩ := set_of_row h1
  obtain ⟨a2, c2, rfl, _, hc2⟩ := set_of_row h2
  obtain ⟨n, hn⟩ : ∃ n, l.length = n := ⟨_, rfl⟩
  have hc1H := Lib.hid hc1
  have hc2H := Lib.hid hc2
  have hnH := Lib.hid hn
  rw [hn] at hl ⊢
  clear h1 h2 hc1 hc2 hn
  go_enter Tryz.func9, Tryz.ntmps9
  go_wp2
  go_loopw [5] (fun s5 wr => ∃ i : Nat, i ≤ n ∧ s5 = .int .i64 i ∧ ∃ m, wr = w.drewN m) (fun s5 _ => n - (intOf s5).toNat)
  case atStart => exact ⟨0, Nat.zero_le _, by go_num, 0, rfl⟩
  case round =>
    obtain ⟨i, hi, rfl, m, rfl⟩ := hrel
    by_cases hlt : i < n
    · obtain ⟨x, hx⟩ : ∃ x, l[i]? = some x := ⟨_, List.getElem?_eq_getElem (by have := hnH.out; omega)⟩
      have hne : l ≠ [] := fun e => by rw [e] at hx; simp at hx
      obtain ⟨g1, rfl, hg1⟩ := hc1H.out hne
      obtain ⟨g2, rfl, hg2⟩ := hc2H.out hne
      have p0 := (hg1 i x hx).1
      have p1 := (hg1 i x hx).2
      have q0 := (hg2 i x hx).1
      have q1 := (hg2 i x hx).2
      clear hx hg1 hg2 hne
      go_upto_region 6 with (fail)
      go_quiet (fail)
      go_wp2_with fail
      go_roundw
      case rel => exact ⟨i + 1, by omega, by go_num, _, rfl⟩
      case measure => simp [intOf]; omega
    · obtain rfl : i = n := by omega
      go_wp2
      go_ret
      exact ⟨rfl, I.belDN _ _⟩
end Go.Proofs.YtjbmpockoicgmaaGreat
