/- The maker of numbers in memory: variables, maps; value, assign. Condition: it lies as stated. -/
import Derived.Test.YtjbmpockoicgmaaGreatArJ
import Derived.Deep.AppendLies
namespace Go.Proofs.YtjbmpockoicgmaaGreat
open Go.RowKit Go.Shelf Go.PlainAid
set_option linter.unusedVariables false
set_option linter.unusedSimpArgs false
attribute [local go_sem] Oper.semAt_some

abbrev kl (x : ByteArray) : Lit := .string x.data.toList
theorem kl_inj {x y : ByteArray} (h : x ≠ y) : kl x ≠ kl y := fun e => h (by
  have h' : x.data.toList = y.data.toList := by simpa [kl] using e
  exact toList_inj (by rw [Lib.toList_data, Lib.toList_data]; exact h'))
theorem keyed : Maps.Keyed Tryz.prog 9 := Maps.string_keyed Tryz.underlying9
theorem zero2 (w : World) : (zeroValue 2).run Tryz.prog w = .ok (.int .i64 0) w := by rw [Tryz.zeroValue2]
theorem zero3 (w : World) : (zeroValue 3).run Tryz.prog w = .ok (.int .i64 0) w := by rw [Tryz.zeroValue3]
theorem und2 : Tryz.prog.underlying 2 = some (.int .i64) := Tryz.underlying2
theorem und3 : Tryz.prog.underlying 3 = some (.int .i64) := Tryz.underlying3
/-- The map in block b tells V. -/
def MapN (e : TypeId) (w : World) (b n : Nat) (V : ByteArray → Option Int) : Prop :=
  ∃ D : DataW Unit, w.ownsMap Tryz.prog 9 (plainElem Tryz.prog e) b n D ∧ (∀ x, D.atKey (kl x) (.lit (.int .i64 0)) = .lit (.int .i64 ((V x).getD 0))) ∧ (∀ x, Maps.has D (kl x) = (V x).isSome)
theorem MapN.made (e : TypeId) (w : World) : MapN e (w.alloc (.map #[] 0)) w.heap.size 0 (fun _ => none) := ⟨.map [], World.ownsMap_made _ _ _ _, fun _ => rfl, fun _ => rfl⟩
theorem MapN.lt {e : TypeId} {w : World} {b n : Nat} {V : ByteArray → Option Int} (h : MapN e w b n V) : b < w.heap.size := by
  obtain ⟨D, h1, _⟩ := h
  exact h1.lt
theorem MapN.heap {e : TypeId} {w w' : World} {b n : Nat} {V : ByteArray → Option Int} (h : MapN e w b n V) (he : w'.heap[b]? = w.heap[b]?) : MapN e w' b n V := by
  obtain ⟨D, ⟨es, clock, hb, r⟩, h2⟩ := h
  exact ⟨D, ⟨es, clock, he.trans hb, r⟩, h2⟩
theorem MapN.not_cells {e : TypeId} {w : World} {b n : Nat} {V : ByteArray → Option Int} (h : MapN e w b n V) {cs : Array Value} {t : TypeId} {f : Nat × Nat} : w.heap[b]? ≠ some (.cells cs t f) := fun e => by
  obtain ⟨D, ⟨es, clock, hb, _⟩, _⟩ := h
  rw [hb] at e
  cases e
theorem MapN.congr {e : TypeId} {w : World} {b n : Nat} {V V' : ByteArray → Option Int} (h : MapN e w b n V) (k : ∀ x, V' x = V x) : MapN e w b n V' := by
  obtain rfl : V' = V := funext k
  exact h
theorem MapN.look {t e : TypeId} {w : World} {b n : Nat} {V : ByteArray → Option Int} (h : MapN e w b n V) (ht : Tryz.prog.underlying t = some (.map 9 e)) (he : Tryz.prog.underlying e = some (.int .i64)) (hz : (zeroValue e).run Tryz.prog w = .ok (.int .i64 0) w) (x : ByteArray) (hx : x.size ≤ maxLen) :
    (Instr.lookup t (.map (some b)) (.string x) true).run Tryz.prog w = .ok (.tuple #[.int .i64 ((V x).getD 0), .bool (V x).isSome]) w := by
  obtain ⟨D, h1, h2, h3⟩ := h
  obtain ⟨v, ps, hrun, hv⟩ := h1.look_ok keyed ht hz (zd := .lit (.int .i64 0)) (zp := []) (plainElem_int he (by decide)) (WideMaps.keyOf_string_mk Tryz.underlying9 hx)
  rw [show Lit.string x.data.toList = kl x from rfl, h2 x] at hv
  rw [show Lit.string x.data.toList = kl x from rfl, h3 x] at hrun
  obtain ⟨a, rfl, h4, _⟩ := plainElem_int_inv he hv
  have h5 := congrArg (·.1) h4
  simp only [DataW.lit.injEq, Lit.int.injEq, true_and] at h5
  rw [h5]
  exact hrun
theorem MapN.put {t e : TypeId} {w : World} {b n : Nat} {V : ByteArray → Option Int} (h : MapN e w b n V) (ht : Tryz.prog.underlying t = some (.map 9 e)) (he : Tryz.prog.underlying e = some (.int .i64)) (x : ByteArray) (hx : x.size ≤ maxLen) (v : Int) (hv : -9223372036854775808 ≤ v ∧ v ≤ 9223372036854775807) (hn : n < maxLen) :
    ∃ w', (Instr.mapUpdate t (.map (some b)) (.string x) (.int .i64 v)).run Tryz.prog w = .ok () w' ∧ MapN e w' b (n + 1) (fun y => if y = x then some v else V y) ∧ w.grownBy w' (some b) := by
  obtain ⟨D, h1, h2, h3⟩ := h
  obtain ⟨w', hrun, hown, hturn⟩ := h1.store keyed ht hn (WideMaps.keyOf_string_mk Tryz.underlying9 hx) (plainElem_int (H := Unit) he (a := v) (by simp [Lit.wf, IntKind.min, IntKind.max, IntKind.bits, IntKind.signed]; omega))
  have hm := h1.isMap
  refine ⟨w', hrun, ⟨_, hown, fun y => ?_, fun y => ?_⟩, hturn.grown⟩
  · by_cases e : y = x
    · subst e
      rw [Maps.atKey_put_same hm (show WideAt.IsKeyLit (kl y) from trivial)]
      simp
    · rw [Maps.atKey_put_other (kl_inj e), h2 y]
      simp [e]
  · by_cases e : y = x
    · subst e
      rw [Maps.has_put_same hm (show WideAt.IsKeyLit (kl y) from trivial)]
      simp
    · rw [Maps.has_put_other (kl_inj e), h3 y]
      simp [e]
/-- A variable that came in. -/
structure Vr where
  name : ByteArray
  val : ByteArray
  x : Bool
  r : Bool
  u : Bool
def vrcs (v : Vr) : List Value := [.string v.name, .string v.val, .bool v.x, .bool v.r, .bool v.u]
/-- The variables that a slice reads as; their block doesn't turn. -/
def VAt (S : Nat → Prop) (W : World) (a : Option Addr) (L : List Vr) : Prop := L.length ≤ 1000000000000000 ∧ (∀ v ∈ L, v.name.size ≤ 9223372036854775807 ∧ v.val.size ≤ 9223372036854775807) ∧
  (L ≠ [] → ∃ g o, a = some ⟨g, o, none⟩ ∧ g < W.heap.size ∧ ¬ S g ∧ ∀ i v, L[i]? = some v → ∀ j u, (vrcs v)[j]? = some u → W.cell? ⟨g, o + i * 5 + j, none⟩ = some u)
theorem VAt.keep {S S' : Nat → Prop} {W W' : World} {a : Option Addr} {L : List Vr} (h : VAt S W a L) (hs : W.heap.size ≤ W'.heap.size) (hb : ∀ g, g < W.heap.size → ¬ S g → W'.heap[g]? = W.heap[g]?) (hS : ∀ g, S' g → S g ∨ W.heap.size ≤ g) : VAt S' W' a L :=
  ⟨h.1, h.2.1, fun hl => by
    obtain ⟨g, o, e, h1, h2, h3⟩ := h.2.2 hl
    exact ⟨g, o, e, by omega, fun h4 => (hS g h4).elim h2 (fun h5 => by omega), fun i v hi j u hj => (cell_of_blk (hb g h1 h2) _).trans (h3 i v hi j u hj)⟩⟩
def idxM (L : List Vr) (nm : ByteArray) : Option Nat := L.findIdx? (fun v => decide (v.name = nm))
theorem idx_lt {L : List Vr} {nm : ByteArray} {i : Nat} (h : idxM L nm = some i) : ∃ v, L[i]? = some v := by
  unfold idxM at h
  obtain ⟨h1, _⟩ := List.findIdx?_eq_some_iff_getElem.1 h
  exact ⟨_, List.getElem?_eq_getElem h1⟩
structure Nm where
  vars : List Vr
  now : ByteArray → Option I64
  sets : List (ByteArray × I64)
def valI (m : Nm) (nm : ByteArray) : I64 × Int := match m.now nm with
  | some x => (x, 0)
  | none => match idxM m.vars nm with
    | none => (zI, 0)
    | some i => worthM ((m.vars[i]?.map (·.val)).getD noT)
def asnI (m : Nm) (nm : ByteArray) (x : I64) : Nm := { m with now := fun y => if y = nm then some x else m.now y, sets := m.sets ++ [(nm, x)] }
def NM : Mk I64 Nm := { number := mkI, value := valI, ahead := fun op x => ahdI op.toList x, between := fun op x y => betI op.toList x y, truth := fun x => x.1 != 0, assign := asnI, zero := zI }
def scs (x : ByteArray × I64) : List Value := [.string x.1, .int .i64 x.2.1]
theorem scs_len (x : ByteArray × I64) : (scs x).length = 2 := rfl
theorem scs_one (l : List (ByteArray × I64)) : ∀ u ∈ flat scs l, u.oneCell' = true := flat_one (fun y => by simp [scs, Value.oneCell']) l
theorem infoS : (Tryz.prog.info? 37).map (fun i => (i.zero, i.size, i.bytes)) = some (some (.agg #[.string ⟨#[]⟩, .int .i64 0]), 2, 24) := by kernel_rfl
theorem info_parts {t : TypeId} {z : Value} {s b : Nat} (h : (Tryz.prog.info? t).map (fun i => (i.zero, i.size, i.bytes)) = some (some z, s, b)) : ∃ i, Tryz.prog.info? t = some i ∧ i.zero = some z ∧ i.size = s ∧ i.bytes = b := by
  cases hi : Tryz.prog.info? t with
  | none => rw [hi] at h; cases h
  | some i => rw [hi] at h; simp at h; exact ⟨i, rfl, h.1, h.2.1, h.2.2⟩
/-- The maker at np: its maps mt and mn, its rows va and sv. -/
structure NB (S : Nat → Prop) (np : Nat) (W : World) (m : Nm) (mt nt mn : Nat) (va : Option Addr) (vc : Nat) (sv : Value) : Prop where
  blk : Blk W np 47 #[.map (some mt), .slice va m.vars.length vc, .map (some mn), sv]
  texts : MapN 3 W mt nt (fun x => (idxM m.vars x).map Int.ofNat)
  now : MapN 2 W mn m.sets.length (fun x => (m.now x).map (·.1))
  sets : W.ownsRow 0 37 2 sv m.sets.length (flat scs m.sets)
  vars : VAt S W va m.vars
  snp : S np
  smn : S mn
  smt : ¬ S mt
  ssv : ∀ g, sv.ownBlock = some g → S g
def NAt (S : Nat → Prop) (np : Nat) (W : World) (m : Nm) : Prop := ∃ mt nt mn va vc sv, NB S np W m mt nt mn va vc sv
theorem NB.keep {S : Nat → Prop} {np : Nat} {W W' : World} {m : Nm} {mt nt mn : Nat} {va : Option Addr} {vc : Nat} {sv : Value} (h : NB S np W m mt nt mn va vc sv) {b : Nat} {tb : TypeId} {cs : Array Value} (hB : Blk W b tb cs) (hSb : S b) (h1 : tb ≠ 47) (h2 : tb ≠ 37)
    (hs : W.heap.size ≤ W'.heap.size) (hb : ∀ g, g < W.heap.size → g ≠ b → W'.heap[g]? = W.heap[g]?) : NB S np W' m mt nt mn va vc sv := by
  refine ⟨(hb np h.blk.lt (fun e => ?_)).trans h.blk, h.texts.heap (hb mt h.texts.lt (fun e => ?_)), h.now.heap (hb mn h.now.lt (fun e => ?_)), row_keep h.sets (fun g hg => hb g (row_lt h.sets hg) (fun e => ?_)), h.vars.keep hs (fun g h3 h4 => hb g h3 (fun e => h4 (by rw [e]; exact hSb))) (fun g hg => .inl hg), h.snp, h.smn, h.smt, h.ssv⟩
  · subst e
    have := hB.symm.trans h.blk
    simp at this
    exact h1 this.2
  · subst e; exact h.texts.not_cells hB
  · subst e; exact h.now.not_cells hB
  · subst e; exact row_off hB h2 h.sets hg.symm
theorem NAt.keep {S : Nat → Prop} {np : Nat} {W W' : World} {m : Nm} (h : NAt S np W m) {b : Nat} {tb : TypeId} {cs : Array Value} (hB : Blk W b tb cs) (hSb : S b) (h1 : tb ≠ 47) (h2 : tb ≠ 37)
    (hs : W.heap.size ≤ W'.heap.size) (hb : ∀ g, g < W.heap.size → g ≠ b → W'.heap[g]? = W.heap[g]?) : NAt S np W' m := by
  obtain ⟨mt, nt, mn, va, vc, sv, h⟩ := h
  exact ⟨mt, nt, mn, va, vc, sv, h.keep hB hSb h1 h2 hs hb⟩
theorem NB.below {S : Nat → Prop} {np : Nat} {W W' : World} {m : Nm} {mt nt mn : Nat} {va : Option Addr} {vc : Nat} {sv : Value} (h : NB S np W m mt nt mn va vc sv) (hb : Below W.heap.size W W') : NB S np W' m mt nt mn va vc sv :=
  ⟨blk_beneath h.blk hb, h.texts.heap (hb.block _ h.texts.lt), h.now.heap (hb.block _ h.now.lt), row_keep h.sets (fun g hg => hb.block g (row_lt h.sets hg)), h.vars.keep hb.size (fun g h3 _ => hb.block g h3) (fun g hg => .inl hg), h.snp, h.smn, h.smt, h.ssv⟩
theorem NAt.below {S : Nat → Prop} {np : Nat} {W W' : World} {m : Nm} (h : NAt S np W m) (hb : Below W.heap.size W W') : NAt S np W' m := by
  obtain ⟨mt, nt, mn, va, vc, sv, h⟩ := h
  exact ⟨mt, nt, mn, va, vc, sv, h.below hb⟩
end Go.Proofs.YtjbmpockoicgmaaGreat
