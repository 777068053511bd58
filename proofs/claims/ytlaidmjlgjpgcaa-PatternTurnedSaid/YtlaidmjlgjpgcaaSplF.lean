/- The bytes of pieces, each with its role: plainly; the iterator. Condition: lengths. -/
import Derived.RangeFuncBound
import Derived.RangeFuncCalls
import Derived.RangeFuncLeaves
import Derived.RangeFuncFrom
import Derived.Shelf.Abstract
import Derived.Shelf.RegionOpen
import Derived.OwnWalkIn
import Derived.TacticsInMore
import Derived.LoopNIn
import Derived.LoopIn
import Derived.Lib.Bytealg
import Derived.Sort.CutIn
import Derived.Sort.QuietIn
import Derived.Test.YtlaidmjlgjpgcaaShelf
import Derived.Test.YtlaidmjlgjpgcaaSplE
namespace Go.Proofs.Ytlaidmjlgjpgcaa
open Go.RowKit Go.Shelf Go.PlainAid
attribute [local go_sem] Oper.semAt_some

/-- A piece. -/
structure Pc where
  t : ByteArray
  q : Bool
  sp : Bool
/-- What the iterator gives: a byte; a quoted piece's beginning; a separator of either kind. -/
inductive Pr where
  | it (b : UInt8) (q : Bool)
  | st
  | sf (b : UInt8)
  | hd (b : UInt8)
def ptOf : Pr → Pt
  | .it b q => .it (b, q)
  | .st => .st
  | .sf _ => .sf
  | .hd _ => .hd
def encP : Pr → Array Value
  | .it b q => #[.agg #[.int .i64 0, .int .u8 (b.toNat : Int), .bool q]]
  | .st => #[.agg #[.int .i64 1, .int .u8 0, .bool false]]
  | .sf b => #[.agg #[.int .i64 2, .int .u8 (b.toNat : Int), .bool false]]
  | .hd b => #[.agg #[.int .i64 3, .int .u8 (b.toNat : Int), .bool false]]
def isBlank (b : UInt8) : Bool := decide (b.toNat = 9 ∨ b.toNat = 10 ∨ b.toNat = 32)
def isSep (ifs : ByteArray) (b : UInt8) : Bool := decide (0 ≤ Lib.indexByte ifs.data.toList b)
def mkP (ifs : ByteArray) (p : Pc) (b : UInt8) : Pr := bif p.sp && !p.q && isSep ifs b then (bif isBlank b then .sf b else .hd b) else .it b p.q
def headP (p : Pc) : List Pr := bif p.q then [.st] else []
def bytesP (ifs : ByteArray) (p : Pc) : List Pr := p.t.data.toList.map (mkP ifs p)
def partsP (ifs : ByteArray) (p : Pc) : List Pr := headP p ++ bytesP ifs p
def partsOf (ifs : ByteArray) (ps : List Pc) : List Pr := ps.flatMap (partsP ifs)

/-- The pieces lie in memory, below n₀. -/
def PcsAt (n₀ : Nat) (W : World) (av : Option Addr) (ps : List Pc) : Prop :=
  ∀ i p, ps[i]? = some p → ∃ b off, av = some ⟨b, off, none⟩ ∧ b < n₀ ∧ W.cell? ⟨b, off + i * 3, none⟩ = some (.string p.t) ∧ W.cell? ⟨b, off + i * 3 + 1, none⟩ = some (.bool p.q) ∧ W.cell? ⟨b, off + i * 3 + 2, none⟩ = some (.bool p.sp) ∧ p.t.size ≤ 9223372036854775807
theorem PcsAt.below {n₀ : Nat} {W W' : World} {av : Option Addr} {ps : List Pc} (h : PcsAt n₀ W av ps) (hb : Below n₀ W W') : PcsAt n₀ W' av ps := fun i p hp => by
  obtain ⟨b, off, e, hlt, c0, c1, c2, hs⟩ := h i p hp
  exact ⟨b, off, e, hlt, (hb.cell (p := ⟨b, off + i * 3, none⟩) hlt).trans c0, (hb.cell (p := ⟨b, off + i * 3 + 1, none⟩) hlt).trans c1, (hb.cell (p := ⟨b, off + i * 3 + 2, none⟩) hlt).trans c2, hs⟩

/-- What a round keeps: what lies below n₀; each piece, list of pieces, text that is boxed. -/
def KeepP (n₀ : Nat) (W W' : World) : Prop := Below n₀ W W' ∧ ∀ (B : Nat) (cs : Array Value) (t : TypeId) (fr : Nat × Nat), W.heap[B]? = some (.cells cs t fr) → (t = 39 ∨ t = 37 ∨ t = 9) → W'.heap[B]? = W.heap[B]?
theorem keepP_t {n₀ : Nat} {A B C : World} (h : KeepP n₀ A B) (k : KeepP n₀ B C) : KeepP n₀ A C :=
  ⟨h.1.trans k.1, fun b cs t fr hb ht => by
    have e := h.2 b cs t fr hb ht
    exact (k.2 b cs t fr (e.trans hb) ht).trans e⟩
theorem keepP_b {n₀ : Nat} {w : World} (hn : n₀ ≤ w.heap.size) (W : World) (l : Nat) (o o' : Obj) (hl : w.heap.size ≤ l) (h : W.heap[l]? = some o) (h1 : o.isCells = false) (h2 : o.isWalk = false) : KeepP n₀ W (W.putObj l o') :=
  ⟨belowK_b hn W l o o' hl h h1 h2, fun B cs t fr hb _ => World.putObj_heap_other (fun e => by subst e; rw [h] at hb; cases hb; cases h1)⟩
theorem KeepP.boxed {n₀ : Nat} {W W' : World} (h : KeepP n₀ W W') {B : Nat} {t : TypeId} {v : Value} (hb : Boxed W B t v) (ht : t = 39 ∨ t = 37 ∨ t = 9) : Boxed W' B t v := (h.2 B _ t _ hb ht).trans hb

theorem idx_any (s : ByteArray) (b : UInt8) (w : World) : Calls Try.prog 54 #[.string s, .int .u8 (b.toNat : Int)] w fun e w' => e = .returned (.int .i64 (Lib.indexByte s.data.toList b)) ∧ w' = w := by
  have := Try.strings_IndexByte s (b.toNat : Int) w
  simpa using this

/-- What the iterator reads between two rounds. -/
structure Rd (n₀ Bi Bp : Nat) (ifs : ByteArray) (av : Option Addr) (ps : List Pc) (p : Pc) (w : World) : Prop where
  bi : Boxed w Bi 9 (.string ifs)
  bp : w.heap[Bp]? = some (.cells #[.string p.t, .bool p.q, .bool p.sp] 39 (0, 0))
  pc : PcsAt n₀ w av ps
  hn : n₀ ≤ w.heap.size
theorem Rd.keep {n₀ Bi Bp : Nat} {ifs : ByteArray} {av : Option Addr} {ps : List Pc} {p : Pc} {w w' : World} (h : Rd n₀ Bi Bp ifs av ps p w) (k : KeepP n₀ w w') : Rd n₀ Bi Bp ifs av ps p w' :=
  ⟨k.boxed h.bi (.inr (.inr rfl)), (k.2 Bp _ 39 _ h.bp (.inl rfl)).trans h.bp, h.pc.below k.1, Nat.le_trans h.hn k.1.size⟩
theorem keepP_alloc {n₀ : Nat} {w : World} (hn : n₀ ≤ w.heap.size) (o : Obj) : KeepP n₀ w (w.alloc o) :=
  ⟨(Below.refl _ _).alloc hn _, fun _ _ _ _ hB _ => Below.heap_alloc _ _ _ (Array.getElem?_eq_some_iff.1 hB).1⟩
theorem keepP_drewN {n₀ : Nat} (w : World) (n : Nat) : KeepP n₀ w (w.drewN n) := ⟨below_drewN (Below.refl _ _) n, fun _ _ _ _ _ _ => rfl⟩

theorem boxed_c {W : World} {B : Nat} {t : TypeId} {v : Value} (h : Boxed W B t v) : W.cell? ⟨B, 0, none⟩ = some v := h.cell

/-- Behind a piece's beginning. -/
def HeadRel (J Jx : List Pr → World → Prop) (n₀ Bi Bp : Nat) (ifs : ByteArray) (av : Option Addr) (ps : List Pc) (p : Pc) (i : Nat) (s21 : Value) (w : World) : Prop :=
  (s21 = .bool false ∧ J (partsOf ifs (ps.take i) ++ headP p) w ∧ Rd n₀ Bi Bp ifs av ps p w) ∨ (s21 = .bool true ∧ ∃ pre, pre <+: partsOf ifs ps ∧ Jx pre w)

theorem parts_at {ifs : ByteArray} {ps : List Pc} {p : Pc} {i : Nat} (hp : ps[i]? = some p) : ∃ r, partsOf ifs ps = partsOf ifs (ps.take i) ++ (headP p ++ (bytesP ifs p ++ r)) ∧ partsOf ifs (ps.take (i + 1)) = partsOf ifs (ps.take i) ++ headP p ++ bytesP ifs p := by
  obtain ⟨hlt, hg⟩ := List.getElem?_eq_some_iff.1 hp
  refine ⟨partsOf ifs (ps.drop (i + 1)), ?_, ?_⟩
  · conv => lhs; rw [← List.take_append_drop i ps, List.drop_eq_getElem_cons hlt, hg]
    unfold partsOf partsP
    rw [List.flatMap_append, List.flatMap_cons, List.append_assoc]
  · rw [List.take_succ_eq_append_getElem hlt, hg]
    unfold partsOf partsP
    rw [List.flatMap_append, List.flatMap_cons, List.flatMap_nil, List.append_nil, List.append_assoc]

theorem bytesP_take {ifs : ByteArray} {p : Pc} {k : Nat} (h : k < p.t.data.toList.length) : (bytesP ifs p).take (k + 1) = (bytesP ifs p).take k ++ [mkP ifs p p.t.data.toList[k]] := by
  unfold bytesP
  rw [← List.map_take, ← List.map_take, List.take_succ_eq_append_getElem h, List.map_append]; rfl

set_option maxRecDepth 100000 in
set_option maxHeartbeats 4000000 in
theorem bytes53_in (n : Nat) (hn : 1 ≤ n) (l Bl Bi n₀ N : Nat) (ifs : ByteArray) (av : Option Addr) (cv : Nat) (ps : List Pc) (hN : (partsOf ifs ps).length ≤ N) (hlen : ps.length ≤ 9223372036854775807) (J Jx : List Pr → World → Prop)
    (hY : ∀ pre x W, J pre W → pre.length < N → YieldAt Fence.wide (n - 1) Try.prog l (encP x) W fun e W' =>
      (e = .returned (.bool true) ∧ J (pre ++ [x]) W' ∧ KeepP n₀ W W') ∨ (e = .returned (.bool false) ∧ Jx (pre ++ [x]) W'))
    (W : World) (hJa : ∀ s (W : World) o, J s W → J s (W.alloc o)) (hJd : ∀ s (W : World) m, J s W → J s (W.drewN m))
    (hBl : Boxed W Bl 37 (.slice av ps.length cv)) (hBi : Boxed W Bi 9 (.string ifs)) (hP : PcsAt n₀ W av ps) (hn₀ : n₀ ≤ W.heap.size) (h0 : J [] W) :
    CallsIn Fence.wide n Try.prog 53 #[.func (.yield l) #[] #[], .pointer (some ⟨Bl, 0, none⟩), .pointer (some ⟨Bi, 0, none⟩)] W fun e W' => (∃ v, e = .returned v) ∧
      ((∃ ys, ys = partsOf ifs ps ∧ J ys W') ∨ (∃ pre, pre <+: partsOf ifs ps ∧ Jx pre W')) := by
  refine callsIn_of_wp Try.func53 rfl trivial ?_ rfl
  simp only [Try.ntmps53, List.size_toArray, List.length_cons, List.length_nil, Nat.reduceAdd, Nat.reduceSub, Array.replicate_succ, Array.replicate_zero, List.push_toArray, List.append_toArray, List.nil_append, List.cons_append]
  have cl := hBl.cell
  gi_wp2
  gi_loopw [10] (fun s10 wr => ∃ i : Nat, i ≤ ps.length ∧ s10 = .int .i64 i ∧ Boxed wr Bi 9 (.string ifs) ∧ PcsAt n₀ wr av ps ∧ n₀ ≤ wr.heap.size ∧ J (partsOf ifs (ps.take i)) wr) (fun s10 _ => ps.length - (intOf s10).toNat)
  case atStart => exact ⟨0, by omega, rfl, hBi, hP, hn₀, h0⟩
  case round =>
    obtain ⟨i, hi, rfl, hbi, hp, hns, hJ⟩ := hrel
    clear hBl hBi hP h0 cl
    by_cases hlt : i < ps.length
    · obtain ⟨p, hpi⟩ : ∃ p, ps[i]? = some p := ⟨_, List.getElem?_eq_getElem hlt⟩
      obtain ⟨b, off, rfl, hb, c0, c1, c2, hts⟩ := hp i p hpi
      have hlt' : (i : Int) < (ps.length : Int) := by omega
      have hpH := Lib.hid hp
      have hpiH := Lib.hid hpi
      have hbiH := Lib.hid hbi
      have hJH := Lib.hid hJ
      clear hp hpi hbi hJ
      gi_upto_region 3 with fail
      obtain ⟨W1, hW1⟩ : ∃ W1, wr.alloc (.cells #[.string p.t, .bool p.q, .bool p.sp] 39) = W1 := ⟨_, rfl⟩
      obtain ⟨Bp, hBp⟩ : ∃ Bp, wr.heap.size = Bp := ⟨_, rfl⟩
      have hR1 : Rd n₀ Bi Bp ifs (some ⟨b, off, none⟩) ps p W1 := by
        rw [← hW1, ← hBp]
        exact ⟨hbiH.out.alloc _, World.alloc_heap_new wr _, hpH.out.below ((Below.refl _ _).alloc hns _), by simp; omega⟩
      have hJ1 : J (partsOf ifs (ps.take i)) W1 := by rw [← hW1]; exact hJa _ _ _ hJH.out
      rw [hW1, hBp]
      clear hW1 hBp hJH hbiH hpH c0 c1 c2 hns
      obtain ⟨r, hr1, hr2⟩ := parts_at (ifs := ifs) hpiH.out
      have hr1H := Lib.hid hr1
      have hr2H := Lib.hid hr2
      clear hr1 hr2
      gi_cut [21] from 14 (HeadRel J Jx n₀ Bi Bp ifs (some ⟨b, off, none⟩) ps p i)
      case first =>
        have d1 : W1.cell? ⟨Bp, 1, none⟩ = some (.bool p.q) := by rw [cell_of_row _ _ 1 _ _ _ hR1.bp]; rfl
        obtain hq | hq : p.q = false ∨ p.q = true := by cases p.q <;> simp
        · have hh : Hid (headP p = []) := Lib.hid (by unfold headP; rw [hq]; rfl)
          rw [hq] at d1
          have hRH := Lib.hid hR1
          have hJ1H := Lib.hid hJ1
          clear hR1 hJ1 hq
          gi_wp2
          refine ⟨fun _ h => (by cases h), ?_⟩
          gi_wp2
          gi_meet
          exact .inl ⟨rfl, by rw [hh.out, List.append_nil]; exact hJ1H.out, hRH.out⟩
        · have hh : Hid (headP p = [.st]) := Lib.hid (by unfold headP; rw [hq]; rfl)
          rw [hq] at d1
          have hY2 := hY _ .st W1 hJ1 (by
            have := congrArg List.length hr1H.out
            rw [hh.out] at this
            simp only [List.length_append, List.length_cons, List.length_nil] at this
            omega)
          obtain ⟨fn, tmps, assign, body, hy, hYR⟩ := hY2
          dsimp only [encP] at hy
          have hYH := Lib.hid hYR
          have hRH := Lib.hid hR1
          clear hR1 hJ1 hq hYR
          gi_wp2
          refine hYH.out.mono ?_
          rintro e W3 (⟨rfl, hJ3, hk3⟩ | ⟨rfl, hJx3⟩)
          · have hJ3H := Lib.hid hJ3
            have hR3 := Lib.hid (hRH.out.keep hk3)
            clear hJ3 hk3
            gi_wp2
            gi_meet
            exact .inl ⟨rfl, by rw [hh.out]; exact hJ3H.out, hR3.out⟩
          · have hJx := Lib.hid hJx3
            clear hJx3
            gi_wp2
            gi_meet
            exact .inr ⟨rfl, _, ⟨bytesP ifs p ++ r, by rw [hr1H.out, hh.out]; simp⟩, hJx.out⟩
      case rest =>
        clear hJ1 hR1
        rcases hcut with ⟨rfl, hJ, hR⟩ | ⟨rfl, pre, hpre, hJx⟩
        · have d0 : wc.cell? ⟨Bp, 0, none⟩ = some (.string p.t) := by rw [cell_of_row _ _ 0 _ _ _ hR.bp]; rfl
          have hRH := Lib.hid hR
          have hJH := Lib.hid hJ
          clear hR hJ
          gi_wp2
          obtain ⟨wo, hwo⟩ : ∃ wo : World, wc = wo := ⟨_, rfl⟩
          rw [hwo] at d0 hRH hJH ⊢
          clear hwo d0
          gi_loopw [25] (fun s25 wr => ∃ k : Nat, k ≤ p.t.size ∧ s25 = .int .i64 k ∧ Rd n₀ Bi Bp ifs (some ⟨b, off, none⟩) ps p wr ∧ J (partsOf ifs (ps.take i) ++ headP p ++ (bytesP ifs p).take k) wr) (fun s25 _ => p.t.size - (intOf s25).toNat)
          case atStart => exact ⟨0, by omega, rfl, hRH.out, by rw [List.take_zero, List.append_nil]; exact hJH.out⟩
          case round =>
            obtain ⟨k, hk, rfl, hR, hJ⟩ := hrel
            clear hRH hJH
            by_cases hkl : k < p.t.size
            · have hkl' : (k : Int) < (p.t.size : Int) := by omega
              obtain ⟨h', ec⟩ : ∃ h' : k < p.t.data.toList.length, ∀ h : k < p.t.size, p.t[k]'h = p.t.data.toList[k]'h' := ⟨by rw [← Lib.size_eq]; exact hkl, fun h => by simp [ByteArray.getElem_eq_getElem_data]⟩
              obtain ⟨B, hB⟩ : ∃ B, p.t.data.toList[k]'h' = B := ⟨_, rfl⟩
              rw [hB] at ec
              have d0 : wr.cell? ⟨Bp, 0, none⟩ = some (.string p.t) := by rw [cell_of_row _ _ 0 _ _ _ hR.bp]; rfl
              have d1 : wr.cell? ⟨Bp, 1, none⟩ = some (.bool p.q) := by rw [cell_of_row _ _ 1 _ _ _ hR.bp]; rfl
              have d2 : wr.cell? ⟨Bp, 2, none⟩ = some (.bool p.sp) := by rw [cell_of_row _ _ 2 _ _ _ hR.bp]; rfl
              have di := hR.bi.cell
              have hlB : Bp < wr.heap.size := (Array.getElem?_eq_some_iff.1 hR.bp).1
              have ez : ∀ o, (wr.alloc (.cells #[.int .i64 0, .int .u8 0, .bool false] 70)).cell? ⟨Bp, o, none⟩ = wr.cell? ⟨Bp, o, none⟩ := fun o => World.cell?_of_block (a := ⟨Bp, o, none⟩) (Below.heap_alloc _ _ _ hlB)
              have dz0 := (ez 0).trans d0
              have dz1 := (ez 1).trans d1
              clear ez
              have hRH := Lib.hid hR
              have hJH := Lib.hid hJ
              have hBH := Lib.hid hB
              clear hR hJ hB
              gi_upto_region 7 with fail
              gi_region
              gi_upto_region 8 with fail
              clear dz0 dz1
              obtain ⟨W8, hW8⟩ : ∃ W8, (wr.alloc (.cells #[.int .i64 0, .int .u8 (B.toNat : Int), .bool p.q] 70)).drew = W8 := ⟨_, rfl⟩
              obtain ⟨Bq, hBq⟩ : ∃ Bq, wr.heap.size = Bq := ⟨_, rfl⟩
              have hkw : KeepP n₀ wr W8 := by rw [← hW8]; exact keepP_t (keepP_alloc hRH.out.hn _) (keepP_drewN (n₀ := n₀) _ 1)
              have hR8 := hRH.out.keep hkw
              have hJ8 : J (partsOf ifs (ps.take i) ++ headP p ++ (bytesP ifs p).take k) W8 := by rw [← hW8]; exact hJd _ _ 1 (hJa _ _ _ hJH.out)
              have hq8 : W8.heap[Bq]? = some (.cells #[.int .i64 0, .int .u8 (B.toNat : Int), .bool p.q] 70 (0, 0)) := by rw [← hW8, ← hBq]; exact World.alloc_heap_new wr _
              have hset : ∀ m v, ∃ o m', (W8.drewN m).setCell ⟨Bq, 0, none⟩ v = (wr.alloc o).drewN m' := fun m v => ⟨.cells #[v, .int .u8 (B.toNat : Int), .bool p.q] 70, 1 + m, by
                rw [← hW8, ← hBq, World.drewN_drew]
                show ((wr.alloc _).setCell _ _).drewN (1 + m) = _
                rw [World.setCell_alloc_new]; rfl⟩
              rw [hW8, hBq]
              have e0 : W8.cell? ⟨Bp, 0, none⟩ = some (.string p.t) := by rw [cell_of_row _ _ 0 _ _ _ hR8.bp]; rfl
              have e1 : W8.cell? ⟨Bp, 1, none⟩ = some (.bool p.q) := by rw [cell_of_row _ _ 1 _ _ _ hR8.bp]; rfl
              have e2 : W8.cell? ⟨Bp, 2, none⟩ = some (.bool p.sp) := by rw [cell_of_row _ _ 2 _ _ _ hR8.bp]; rfl
              have ei := hR8.bi.cell
              have g0 : W8.cell? ⟨Bq, 0, none⟩ = some (.int .i64 0) := by rw [cell_of_row _ _ 0 _ _ _ hq8]; rfl
              have g1 : W8.cell? ⟨Bq, 1, none⟩ = some (.int .u8 (B.toNat : Int)) := by rw [cell_of_row _ _ 1 _ _ _ hq8]; rfl
              have g2 : W8.cell? ⟨Bq, 2, none⟩ = some (.bool p.q) := by rw [cell_of_row _ _ 2 _ _ _ hq8]; rfl
              have f0 : W8.frozen? ⟨Bq, 0, none⟩ = false := by simp [World.frozen?, hq8]
              have hsetH := Lib.hid hset
              have hJwH := Lib.hid hJH.out
              have hRwH := Lib.hid hRH.out
              have hR8H := Lib.hid hR8
              have hJ8H := Lib.hid hJ8
              clear hW8 hBq hkw hR8 hJ8 hq8 hset d0 d1 d2 di hlB hRH hJH
              have hxl : Hid ((bytesP ifs p).take (k + 1) = (bytesP ifs p).take k ++ [mkP ifs p B]) := Lib.hid (by
                rw [bytesP_take h', hBH.out])
              have hNl : (partsOf ifs (ps.take i) ++ headP p ++ (bytesP ifs p).take k).length < N := by
                have h1 := congrArg List.length hr1H.out
                have h2 : k < (bytesP ifs p).length := by unfold bytesP; rw [List.length_map]; exact h'
                simp only [List.length_append, List.length_take] at h1 ⊢
                omega
              have hpx : Hid (partsOf ifs (ps.take i) ++ headP p ++ (bytesP ifs p).take k ++ [mkP ifs p B] <+: partsOf ifs ps) := Lib.hid ⟨(bytesP ifs p).drop (k + 1) ++ r, by
                rw [hr1H.out]
                conv => rhs; rw [← List.take_append_drop (k + 1) (bytesP ifs p), hxl.out]
                simp only [List.append_assoc]⟩
              obtain ⟨pre, hpre⟩ : ∃ pre, partsOf ifs (ps.take i) ++ headP p ++ (bytesP ifs p).take k = pre := ⟨_, rfl⟩
              rw [hpre] at hNl hJ8H hpx hJwH
              have hnx : Hid (partsOf ifs (ps.take i) ++ headP p ++ (bytesP ifs p).take (k + 1) = pre ++ [mkP ifs p B]) := Lib.hid (by rw [hxl.out, ← hpre]; simp only [List.append_assoc])
              have hkN : k + 1 ≤ p.t.size := hkl
              clear hpre hxl hBH
              by_cases hs : p.sp && !p.q && isSep ifs B
              · obtain ⟨h1, h2, h3⟩ : p.sp = true ∧ p.q = false ∧ 0 ≤ Lib.indexByte ifs.data.toList B := by
                  unfold isSep at hs
                  simp only [Bool.and_eq_true, Bool.not_eq_true', decide_eq_true_eq] at hs
                  exact ⟨hs.1.1, hs.1.2, hs.2⟩
                have hm : Hid (mkP ifs p B = bif isBlank B then .sf B else .hd B) := Lib.hid (by unfold mkP; rw [hs]; rfl)
                gi_cut [51, 63] from 36 (fun s51 s63 wx => s51 = .bool true ∧ u63 = s63 ∧ ∃ m, wx = W8.drewN m)
                case first =>
                  have hwf : ∀ f, Fence.wide.fn f := fun _ => trivial
                  rw [h1] at e2
                  rw [h2] at e1
                  obtain ⟨x, hx⟩ : ∃ x, Lib.indexByte ifs.data.toList B = x := ⟨_, rfl⟩
                  have hidx : Hid (∀ w, Calls Try.prog 54 #[.string ifs, .int .u8 (B.toNat : Int)] w fun e w' => e = .returned (.int .i64 x) ∧ w' = w) := Lib.hid (fun w => by rw [← hx]; exact idx_any ifs B w)
                  rw [hx] at h3
                  have hxd := decide_eq_true h3
                  clear h1 h2 hs hx
                  gi_quiet ((gi_at_call 54; exact CallsIn.quiet_of_same (callsIn_wide.2 (hidx.out _))))
                  gi_wp2
                  gi_meet
                  exact ⟨rfl, rfl, _, rfl⟩
                case rest =>
                  obtain ⟨rfl, rfl, m, rfl⟩ := hcut
                  have h2H := Lib.hid h2
                  rw [h2] at g2
                  have h9 : Hid (∀ q : Int, ∃ W9, (W8.drewN m).setCell ⟨Bq, 0, none⟩ (.int .i64 q) = W9 ∧ W9.cell? ⟨Bq, 0, none⟩ = some (.int .i64 q) ∧ W9.cell? ⟨Bq, 1, none⟩ = some (.int .u8 (B.toNat : Int)) ∧ W9.cell? ⟨Bq, 2, none⟩ = some (.bool false) ∧ KeepP n₀ wr W9 ∧ J pre W9) := Lib.hid (fun q => by
                    obtain ⟨o, m', e⟩ := hsetH.out m (.int .i64 q)
                    refine ⟨_, rfl, World.cell?_setCell_same _ _ _ g0, (World.cell?_setCell_other _ _ _ _ (by simp)).trans g1, (World.cell?_setCell_other _ _ _ _ (by simp)).trans g2, ?_, ?_⟩
                    · rw [e]; exact keepP_t (keepP_alloc hRwH.out.hn o) (keepP_drewN _ m')
                    · rw [e]; exact hJd _ _ m' (hJa _ _ o hJwH.out))
                  cases hbl : isBlank B
                  · have hmH : Hid (mkP ifs p B = .hd B) := Lib.hid (by rw [hm.out, hbl]; rfl)
                    have hsp : Hid (∀ w, Calls Try.prog 55 #[.int .u8 (B.toNat : Int)] w fun e w' => e = .returned (.int .i64 3) ∧ w = w') := Lib.hid (fun w => by
                      have := separator_any B w
                      unfold sepN at this
                      rw [if_neg (of_decide_eq_false hbl)] at this; exact this)
                    obtain ⟨W9, hW9, b0, b1, b2, hK9, hJ9⟩ := h9.out 3
                    clear hs h1 h2 h3 hbl
                    rw [hmH.out] at hpx hnx
                    have hY2 := hY pre (.hd B) W9 hJ9 hNl
                    obtain ⟨fn, tmps, assign, body, hy, hYR⟩ := hY2
                    dsimp only [encP] at hy
                    have hYH := Lib.hid hYR
                    have hR9 := Lib.hid (hRwH.out.keep hK9)
                    clear hYR hJ9 hK9
                    gi_wp2_with (refine ⟨trivial, ?_⟩; gi_at_call 55; refine (callsIn_wide.2 (hsp.out _)).mono ?_; rintro e w' ⟨rfl, rfl⟩)
                    refine hYH.out.mono ?_
                    rintro e W3 (⟨rfl, hJ3, hk3⟩ | ⟨rfl, hJx3⟩)
                    · have hJ3H := Lib.hid hJ3
                      have hR3 := Lib.hid (hR9.out.keep hk3)
                      clear hJ3 hk3 hy e0 e1 e2 ei g0 g1 g2 f0 b0 b1 b2 hW9
                      gi_wp2
                      go_roundw
                      case rel => exact ⟨k + 1, hkN, by go_num, hR3.out, by rw [hnx.out]; exact hJ3H.out⟩
                      case measure => simp [intOf]; omega
                    · have hJxH := Lib.hid hJx3
                      clear hJx3 hy e0 e1 e2 ei g0 g1 g2 f0 b0 b1 b2 hW9
                      gi_wp2
                      refine bodyPost_ret (results_none rfl _ _ _) rfl ?_
                      exact ⟨⟨_, rfl⟩, .inr ⟨_, hpx.out, hJxH.out⟩⟩
                  · have hmH : Hid (mkP ifs p B = .sf B) := Lib.hid (by rw [hm.out, hbl]; rfl)
                    have hsp : Hid (∀ w, Calls Try.prog 55 #[.int .u8 (B.toNat : Int)] w fun e w' => e = .returned (.int .i64 2) ∧ w = w') := Lib.hid (fun w => by
                      have := separator_any B w
                      unfold sepN at this
                      rw [if_pos (of_decide_eq_true hbl)] at this; exact this)
                    obtain ⟨W9, hW9, b0, b1, b2, hK9, hJ9⟩ := h9.out 2
                    clear hs h1 h2 h3 hbl
                    rw [hmH.out] at hpx hnx
                    have hY2 := hY pre (.sf B) W9 hJ9 hNl
                    obtain ⟨fn, tmps, assign, body, hy, hYR⟩ := hY2
                    dsimp only [encP] at hy
                    have hYH := Lib.hid hYR
                    have hR9 := Lib.hid (hRwH.out.keep hK9)
                    clear hYR hJ9 hK9
                    gi_wp2_with (refine ⟨trivial, ?_⟩; gi_at_call 55; refine (callsIn_wide.2 (hsp.out _)).mono ?_; rintro e w' ⟨rfl, rfl⟩)
                    refine hYH.out.mono ?_
                    rintro e W3 (⟨rfl, hJ3, hk3⟩ | ⟨rfl, hJx3⟩)
                    · have hJ3H := Lib.hid hJ3
                      have hR3 := Lib.hid (hR9.out.keep hk3)
                      clear hJ3 hk3 hy e0 e1 e2 ei g0 g1 g2 f0 b0 b1 b2 hW9
                      gi_wp2
                      go_roundw
                      case rel => exact ⟨k + 1, hkN, by go_num, hR3.out, by rw [hnx.out]; exact hJ3H.out⟩
                      case measure => simp [intOf]; omega
                    · have hJxH := Lib.hid hJx3
                      clear hJx3 hy e0 e1 e2 ei g0 g1 g2 f0 b0 b1 b2 hW9
                      gi_wp2
                      refine bodyPost_ret (results_none rfl _ _ _) rfl ?_
                      exact ⟨⟨_, rfl⟩, .inr ⟨_, hpx.out, hJxH.out⟩⟩
              · have hm : Hid (mkP ifs p B = .it B p.q) := Lib.hid (by unfold mkP; rw [Bool.not_eq_true] at hs; rw [hs]; rfl)
                have hway : p.sp = false ∨ (p.sp = true ∧ p.q = true) ∨ (p.sp = true ∧ p.q = false ∧ Lib.indexByte ifs.data.toList B < 0) := by
                  unfold isSep at hs
                  cases h1 : p.sp <;> cases h2 : p.q <;> simp [h1, h2] at hs ⊢
                  exact hs
                gi_cut [51, 63] from 36 (fun s51 s63 wx => s51 = .bool false ∧ u63 = s63 ∧ ∃ m, wx = W8.drewN m)
                case first =>
                  have hwf : ∀ f, Fence.wide.fn f := fun _ => trivial
                  rcases hway with h1 | ⟨h1, h2⟩ | ⟨h1, h2, h3⟩
                  · rw [h1] at e2
                    clear h1 hs
                    gi_quiet (fail)
                    gi_wp2
                    gi_meet
                    exact ⟨rfl, rfl, _, rfl⟩
                  · rw [h1] at e2
                    rw [h2] at e1
                    clear h1 h2 hs
                    gi_quiet (fail)
                    gi_wp2
                    gi_meet
                    exact ⟨rfl, rfl, _, rfl⟩
                  · rw [h1] at e2
                    rw [h2] at e1
                    obtain ⟨x, hx⟩ : ∃ x, Lib.indexByte ifs.data.toList B = x := ⟨_, rfl⟩
                    have hidx : Hid (∀ w, Calls Try.prog 54 #[.string ifs, .int .u8 (B.toNat : Int)] w fun e w' => e = .returned (.int .i64 x) ∧ w' = w) := Lib.hid (fun w => by rw [← hx]; exact idx_any ifs B w)
                    rw [hx] at h3
                    have hxd : Hid (decide (0 ≤ x) = false) := Lib.hid (decide_eq_false (by omega))
                    clear h1 h2 hs hx
                    gi_quiet ((gi_at_call 54; exact CallsIn.quiet_of_same (callsIn_wide.2 (hidx.out _))))
                    gi_wp2
                    gi_meet
                    exact ⟨by first | rfl | rw [hxd.out], rfl, _, rfl⟩
                case rest =>
                  obtain ⟨rfl, rfl, m, rfl⟩ := hcut
                  rw [hm.out] at hpx hnx
                  clear hs hway
                  have hY2 := hY pre (.it B p.q) (W8.drewN m) (hJd _ _ m hJ8H.out) hNl
                  obtain ⟨fn, tmps, assign, body, hy, hYR⟩ := hY2
                  dsimp only [encP] at hy
                  have hYH := Lib.hid hYR
                  have hR9 := Lib.hid (hR8H.out.keep (keepP_drewN _ m))
                  clear hYR
                  gi_wp2
                  refine hYH.out.mono ?_
                  rintro e W3 (⟨rfl, hJ3, hk3⟩ | ⟨rfl, hJx3⟩)
                  · have hJ3H := Lib.hid hJ3
                    have hR3 := Lib.hid (hR9.out.keep hk3)
                    clear hJ3 hk3 hy e0 e1 e2 ei g0 g1 g2 f0
                    gi_wp2
                    go_roundw
                    case rel => exact ⟨k + 1, hkN, by go_num, hR3.out, by rw [hnx.out]; exact hJ3H.out⟩
                    case measure => simp [intOf]; omega
                  · have hJxH := Lib.hid hJx3
                    clear hJx3 hy e0 e1 e2 ei g0 g1 g2 f0
                    gi_wp2
                    refine bodyPost_ret (results_none rfl _ _ _) rfl ?_
                    exact ⟨⟨_, rfl⟩, .inr ⟨_, hpx.out, hJxH.out⟩⟩
            · obtain rfl : k = p.t.size := by omega
              have hl : (bytesP ifs p).take p.t.size = bytesP ifs p := List.take_of_length_le (by unfold bytesP; rw [List.length_map, ← Lib.size_eq]; exact Nat.le_refl _)
              rw [hl, ← hr2H.out] at hJ
              have hJH := Lib.hid hJ
              have hRH := Lib.hid hR
              clear hJ hR hl
              gi_wp2
              go_roundw
              case rel => exact ⟨i + 1, by omega, by go_num, hRH.out.bi, hRH.out.pc, hRH.out.hn, hJH.out⟩
              case measure => simp [intOf]; omega
        · have hpreH := Lib.hid (And.intro hpre hJx)
          clear hpre hJx
          gi_wp2
          refine bodyPost_ret (results_none rfl _ _ _) rfl ?_
          exact ⟨⟨_, rfl⟩, .inr ⟨pre, hpreH.out.1, hpreH.out.2⟩⟩
    · gi_wp2
      go_end0
      have : ps.take i = ps := List.take_of_length_le (by omega)
      exact ⟨⟨_, rfl⟩, .inl ⟨_, by rw [this], hJ⟩⟩
end Go.Proofs.Ytlaidmjlgjpgcaa
