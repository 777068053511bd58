/- A list of calls that came in: its elements' fields in memory. No condition. -/
import Derived.Test.YtklepnldoajghaaVarY
import Derived.Deep.Slices
import Derived.OpenShut
import Derived.ProofKit
namespace Go.Proofs.Ytklepnldoajghaa
open Go.ChangeShapes Go.WideShapes Go.RowKit Go.Deep

/-- A call: its number, its texts, its marks, its list. -/
structure Cl where
  what : Int
  n : Int
  name : ByteArray
  val : ByteArray
  ex : Bool
  ro : Bool
  args : List ByteArray

/-- A list of texts, wherever it lies. -/
def LsAt (w : World) (a : Option Addr) (K : List ByteArray) : Prop := ∀ j x, K[j]? = some x → ∃ b off, a = some ⟨b, off, none⟩ ∧ b < w.heap.size ∧ w.cell? ⟨b, off + j, none⟩ = some (.string x)
theorem LsAt.below {w w' : World} {a : Option Addr} {K : List ByteArray} (h : LsAt w a K) (hb : Below w.heap.size w w') : LsAt w' a K := fun j x hx => by
  obtain ⟨b, off, e, hl, hc⟩ := h j x hx
  exact ⟨b, off, e, Nat.lt_of_lt_of_le hl hb.size, (hb.cell (p := ⟨b, off + j, none⟩) hl).trans hc⟩

/-- The call at a place of the slice A. -/
def ClAt (w : World) (A : Option Addr) (i : Nat) (q : Cl) : Prop :=
  ∃ (b off : Nat) (a : Option Addr) (c : Nat), A = some ⟨b, off, none⟩ ∧ b < w.heap.size ∧
    w.cell? ⟨b, off + i * 7, none⟩ = some (.int .i64 q.what) ∧ w.cell? ⟨b, off + i * 7 + 1, none⟩ = some (.int .i64 q.n) ∧ w.cell? ⟨b, off + i * 7 + 2, none⟩ = some (.string q.name) ∧ w.cell? ⟨b, off + i * 7 + 3, none⟩ = some (.string q.val) ∧
    w.cell? ⟨b, off + i * 7 + 4, none⟩ = some (.bool q.ex) ∧ w.cell? ⟨b, off + i * 7 + 5, none⟩ = some (.bool q.ro) ∧ w.cell? ⟨b, off + i * 7 + 6, none⟩ = some (.slice a q.args.length c) ∧ q.args.length ≤ c ∧ LsAt w a q.args ∧
    (-9223372036854775808 ≤ q.n ∧ q.n ≤ 9223372036854775807) ∧ q.name.size ≤ maxLen ∧ q.val.size ≤ maxLen ∧ c ≤ maxLen ∧ ∀ x ∈ q.args, x.size ≤ maxLen
theorem ClAt.below {w w' : World} {A : Option Addr} {i : Nat} {q : Cl} (h : ClAt w A i q) (hb : Below w.heap.size w w') : ClAt w' A i q := by
  obtain ⟨b, off, a, c, e, hl, h0, h1, h2, h3, h4, h5, h6, h7, h8, h9⟩ := h
  have k : ∀ o v, w.cell? ⟨b, o, none⟩ = some v → w'.cell? ⟨b, o, none⟩ = some v := fun o v hv => (hb.cell (p := ⟨b, o, none⟩) hl).trans hv
  exact ⟨b, off, a, c, e, Nat.lt_of_lt_of_le hl hb.size, k _ _ h0, k _ _ h1, k _ _ h2, k _ _ h3, k _ _ h4, k _ _ h5, k _ _ h6, h7, h8.below hb, h9⟩
/-- The slice's calls. -/
def ClsAt (w : World) (A : Option Addr) (Q : List Cl) : Prop := ∀ i q, Q[i]? = some q → ClAt w A i q
theorem ClsAt.below {w w' : World} {A : Option Addr} {Q : List Cl} (h : ClsAt w A Q) (hb : Below w.heap.size w w') : ClsAt w' A Q := fun i q hq => (h i q hq).below hb

theorem seven {α : Type} {l : List α} (h : l.length = 7) : ∃ a b c d e f g, l = [a, b, c, d, e, f, g] := by
  match l, h with
  | [a, b, c, d, e, f, g], _ => exact ⟨a, b, c, d, e, f, g, rfl⟩

theorem open_ls {H : Type} {enc : TypeId × Value → H} {w : World} {spare : Nat → Bool} {held : Bool} {fuel : Nat} {v : Value} {x : DataW H × List MemPlace} (h : DataW.trod enc Try.prog w 0 spare held fuel 28 [v] = some x) :
    ∃ (a : Option Addr) (c : Nat) (K : List ByteArray), v = .slice a K.length c ∧ K.length ≤ c ∧ c ≤ maxLen ∧ LsAt w a K ∧ ∀ x ∈ K, x.size ≤ maxLen := by
  rcases open_strings Try.underlying28 Try.underlying9 (by kernel_rfl) h with ⟨hcs, _⟩ | ⟨a, l, c, ss, hcs, _, hl, hm, hs, hx, hcell, hss⟩
  · obtain rfl : v = .slice none 0 0 := by simpa using hcs
    exact ⟨none, 0, [], rfl, Nat.le_refl _, Nat.zero_le _, fun j x h => by simp at h, fun x h => by cases h⟩
  · obtain rfl : v = .slice (some a) l c := by simpa using hcs
    have hls : l ≤ ss.length := by rw [hs]; split <;> omega
    have hlen : (ss.take l).length = l := by rw [List.length_take]; omega
    refine ⟨some a, c, ss.take l, by rw [hlen], by rw [hlen]; exact hl, hm, fun j t ht => ?_, fun x hx => hss x (List.mem_of_mem_take hx)⟩
    obtain ⟨hil, hit⟩ := List.getElem?_eq_some_iff.1 ht
    rw [List.length_take] at hil
    have h0 := hcell 0 (by omega)
    have hsp : a.spot = none := by simpa [Addr.add] using World.cell?_spot h0
    obtain ⟨b, o, sp⟩ := a
    obtain rfl : sp = none := hsp
    have hi' := hcell j (by omega)
    rw [Addr.add_lit] at hi'
    rw [List.getElem_take] at hit
    rw [List.getD_eq_getElem?_getD, List.getElem?_eq_getElem (by omega), Option.getD_some, hit] at hi'
    exact ⟨b, o, rfl, block_of_cell hi', hi'⟩

theorem open_cls {H : Type} {enc : TypeId × Value → H} {w : World} {d : DataW H} {p : List MemPlace} {A : Option Addr} {len cap : Nat}
    (h : DataW.Trod enc Try.prog w 0 (fun _ => true) true 22 (.slice A len cap) d p) : (∃ Q : List Cl, Q.length = len ∧ ClsAt w A Q) ∧ len ≤ maxLen := by
  obtain ⟨fuel, hf⟩ := h
  rcases open_slice Try.underlying22 hf with ⟨hcs, _⟩ | ⟨a, l, c, m, n, D, Pl, hcs, _, hl, hm, hmm, _, hi⟩
  · simp [Value.cells] at hcs
    obtain ⟨rfl, rfl, rfl⟩ := hcs
    exact ⟨⟨[], rfl, fun i q hq => by simp at hq⟩, by omega⟩
  · simp [Value.cells] at hcs
    obtain ⟨rfl, rfl, rfl⟩ := hcs
    simp only [if_true] at hmm
    subst hmm
    have hC : Try.prog.cellsOf 34 = 7 := by kernel_rfl
    have k3 : Try.prog.cellsOf 3 = 1 := by kernel_rfl
    have k4 : Try.prog.cellsOf 4 = 1 := by kernel_rfl
    have k9 : Try.prog.cellsOf 9 = 1 := by kernel_rfl
    have k28 : Try.prog.cellsOf 28 = 1 := by kernel_rfl
    simp only [hC] at hi
    have hex : ∀ i, ∃ q : Cl, i < len → ClAt w (some a) i q := fun i => by
      by_cases hil : i < len
      · have hsp : a.spot = none := by
          obtain ⟨cs', hc, _⟩ := hi 0 (by omega)
          obtain ⟨_, hcl, hat⟩ := World.cells?_some hc
          obtain ⟨x0, x1, x2, x3, x4, x5, x6, rfl⟩ := seven hcl
          have := World.cell?_spot (hat 0 (by omega))
          simpa [Addr.add] using this
        obtain ⟨cs', hc, ht⟩ := hi i (by omega)
        obtain ⟨_, hcl, hat⟩ := World.cells?_some hc
        obtain ⟨x0, x1, x2, x3, x4, x5, x6, rfl⟩ := seven hcl
        obtain ⟨xs, n', _, _, _, hxl, hg⟩ := DataW.trod_struct Try.underlying34 ht
        obtain ⟨y0, y1, y2, y3, y4, y5, y6, rfl⟩ := seven hxl
        have g0 : DataW.trod enc Try.prog w 0 (fun _ => true) true n' 3 ((([x0, x1, x2, x3, x4, x5, x6] : List Value).drop 0).take (Try.prog.cellsOf 3)) = some y0 := hg 0 _ rfl
        have g1 : DataW.trod enc Try.prog w 0 (fun _ => true) true n' 3 ((([x0, x1, x2, x3, x4, x5, x6] : List Value).drop 1).take (Try.prog.cellsOf 3)) = some y1 := hg 1 _ rfl
        have g2 : DataW.trod enc Try.prog w 0 (fun _ => true) true n' 9 ((([x0, x1, x2, x3, x4, x5, x6] : List Value).drop 2).take (Try.prog.cellsOf 9)) = some y2 := hg 2 _ rfl
        have g3 : DataW.trod enc Try.prog w 0 (fun _ => true) true n' 9 ((([x0, x1, x2, x3, x4, x5, x6] : List Value).drop 3).take (Try.prog.cellsOf 9)) = some y3 := hg 3 _ rfl
        have g4 : DataW.trod enc Try.prog w 0 (fun _ => true) true n' 4 ((([x0, x1, x2, x3, x4, x5, x6] : List Value).drop 4).take (Try.prog.cellsOf 4)) = some y4 := hg 4 _ rfl
        have g5 : DataW.trod enc Try.prog w 0 (fun _ => true) true n' 4 ((([x0, x1, x2, x3, x4, x5, x6] : List Value).drop 5).take (Try.prog.cellsOf 4)) = some y5 := hg 5 _ rfl
        have g6 : DataW.trod enc Try.prog w 0 (fun _ => true) true n' 28 ((([x0, x1, x2, x3, x4, x5, x6] : List Value).drop 6).take (Try.prog.cellsOf 28)) = some y6 := hg 6 _ rfl
        rw [k3] at g0 g1
        rw [k9] at g2 g3
        rw [k4] at g4 g5
        rw [k28] at g6
        obtain ⟨c0, e0, _, _⟩ := DataW.trod_int Try.underlying3 g0
        obtain ⟨c1, e1, _, hwf⟩ := DataW.trod_int Try.underlying3 g1
        obtain ⟨s2, e2, _, hs2⟩ := DataW.trod_string Try.underlying9 g2
        obtain ⟨s3, e3, _, hs3⟩ := DataW.trod_string Try.underlying9 g3
        obtain ⟨b4, e4, _⟩ := DataW.trod_bool Try.underlying4 g4
        obtain ⟨b5, e5, _⟩ := DataW.trod_bool Try.underlying4 g5
        simp only [List.drop_zero, List.drop_succ_cons, List.take_succ_cons, List.take_zero, List.cons.injEq, and_true] at e0 e1 e2 e3 e4 e5 g6
        subst e0 e1 e2 e3 e4 e5
        obtain ⟨a6, cc, K, rfl, hKc, hcm, hK, hKs⟩ := open_ls g6
        have z0 := hat 0 (by omega)
        have z1 := hat 1 (by omega)
        have z2 := hat 2 (by omega)
        have z3 := hat 3 (by omega)
        have z4 := hat 4 (by omega)
        have z5 := hat 5 (by omega)
        have z6 := hat 6 (by omega)
        obtain ⟨b, o, sp⟩ := a
        obtain rfl : sp = none := hsp
        simp only [Addr.add_lit] at z0 z1 z2 z3 z4 z5 z6
        refine ⟨⟨c0, c1, s2, s3, b4, b5, K⟩, fun _ => ⟨b, o, a6, cc, rfl, block_of_cell z0, z0, z1, z2, z3, z4, z5, z6, hKc, hK, bounds_i64 hwf, hs2, hs3, hcm, hKs⟩⟩
      · exact ⟨⟨0, 0, ByteArray.empty, ByteArray.empty, false, false, []⟩, fun h => absurd h hil⟩
    refine ⟨⟨(List.range len).map fun i => Classical.choose (hex i), by simp, fun i q hq => ?_⟩, by omega⟩
    have hil : i < len := by have := (List.getElem?_eq_some_iff.1 hq).1; simpa using this
    have hspec := Classical.choose_spec (hex i) hil
    rw [List.getElem?_map, List.getElem?_range hil] at hq
    have hqe : Classical.choose (hex i) = q := by simpa using hq
    rw [hqe] at hspec
    exact hspec
end Go.Proofs.Ytklepnldoajghaa
