/- parameter of a word's reader, with a word behind its operator; whole. No condition. -/
import Derived.Test.YtgpkhpheomaiaaaRdJ
namespace Go.Proofs.Ytgpkhpheomaiaaa
open Go.RowKit Go.PlainAid
attribute [local go_sem] Oper.semAt_some

/-- How the operator tells the word's kind. -/
def KindIs (op : ByteArray) (k kx : Int) : Prop := ((bt op 0 == 37) = true ∧ kx = 0) ∨ ((bt op 0 == 37) = false ∧ (bt op 0 == 35) = true ∧ kx = 0) ∨ ((bt op 0 == 37) = false ∧ (bt op 0 == 35) = false ∧ kx = k)
theorem kindIs (op : ByteArray) (k : Int) : KindIs op k (paramKind op k) := by
  unfold KindIs paramKind
  by_cases h1 : bt op 0 = 37
  · exact .inl ⟨by simp [h1], by rw [if_pos (.inl h1)]⟩
  · by_cases h2 : bt op 0 = 35
    · exact .inr (.inl ⟨by simp [h1], by simp [h2], by rw [if_pos (.inr h2)]⟩)
    · exact .inr (.inr ⟨by simp [h1], by simp [h2], by rw [if_neg (fun h => h.elim h1 h2)]⟩)

theorem param_cells {W : World} {g : Nat} (h : Blk W g 35 #[.int .i64 0, .string ⟨#[]⟩, .string ⟨#[]⟩, .slice none 0 0, .bool false]) (nm op : ByteArray) (sl : Value) :
    (((((W.setCell ⟨g, 0, none⟩ (.int .i64 2)).setCell ⟨g, 1, none⟩ (.string nm)).setCell ⟨g, 2, none⟩ (.string op)).setCell ⟨g, 3, none⟩ sl).setCell ⟨g, 4, none⟩ (.bool false)).cell? ⟨g, 0, none⟩ = some (.int .i64 2) ∧
    (((((W.setCell ⟨g, 0, none⟩ (.int .i64 2)).setCell ⟨g, 1, none⟩ (.string nm)).setCell ⟨g, 2, none⟩ (.string op)).setCell ⟨g, 3, none⟩ sl).setCell ⟨g, 4, none⟩ (.bool false)).cell? ⟨g, 1, none⟩ = some (.string nm) ∧
    (((((W.setCell ⟨g, 0, none⟩ (.int .i64 2)).setCell ⟨g, 1, none⟩ (.string nm)).setCell ⟨g, 2, none⟩ (.string op)).setCell ⟨g, 3, none⟩ sl).setCell ⟨g, 4, none⟩ (.bool false)).cell? ⟨g, 2, none⟩ = some (.string op) ∧
    (((((W.setCell ⟨g, 0, none⟩ (.int .i64 2)).setCell ⟨g, 1, none⟩ (.string nm)).setCell ⟨g, 2, none⟩ (.string op)).setCell ⟨g, 3, none⟩ sl).setCell ⟨g, 4, none⟩ (.bool false)).cell? ⟨g, 3, none⟩ = some sl ∧
    (((((W.setCell ⟨g, 0, none⟩ (.int .i64 2)).setCell ⟨g, 1, none⟩ (.string nm)).setCell ⟨g, 2, none⟩ (.string op)).setCell ⟨g, 3, none⟩ sl).setCell ⟨g, 4, none⟩ (.bool false)).cell? ⟨g, 4, none⟩ = some (.bool false) := by
  have hB := ((((h.set_ 0 (.int .i64 2)).set_ 1 (.string nm)).set_ 2 (.string op)).set_ 3 sl).set_ 4 (.bool false)
  exact ⟨hB.cell 0, hB.cell 1, hB.cell 2, hB.cell 3, hB.cell 4⟩
theorem param_fin {w X w2 : World} {T : Nat → Prop} {D : Nat} {a : Option Addr} {c : Nat} {l : List PT} {nm op : ByteArray} {res : Except Nat PT} (hXb : Below w.heap.size w X) (hXs : X.heap.size = w.heap.size + 2) (hbw : Below X.drew.heap.size X.drew w2)
    (hW : WAt w2 T D (.slice a l.length c) l) (hT : ∀ g, T g → X.drew.heap.size ≤ g ∧ g < w2.heap.size) (hres : res = .ok (.mk 2 nm op l false)) :
    ParamR res D w (.returned (.tuple #[.agg #[.int .i64 2, .string nm, .string op, .slice a l.length c, .bool false], .int .i64 0])) ((((((w2.setCell ⟨w.heap.size + 1, 3, none⟩ (.slice a l.length c)).setCell ⟨w.heap.size, 0, none⟩ (.int .i64 2)).setCell ⟨w.heap.size, 1, none⟩ (.string nm)).setCell ⟨w.heap.size, 2, none⟩ (.string op)).setCell ⟨w.heap.size, 3, none⟩ (.slice a l.length c)).setCell ⟨w.heap.size, 4, none⟩ (.bool false)) := by
  have hs : X.drew.heap.size = w.heap.size + 2 := hXs
  have hb0 : Below w.heap.size w w2 := hXb.drew.trans (hbw.mono (by omega))
  have far : ∀ (W : World) (p : Addr) (u : Value) (g : Nat), g ≠ p.block → (W.setCell p u).heap[g]? = W.heap[g]? := fun W p u g h => Below.heap_setCell _ _ _ _ h
  refine ⟨(((((hb0.setCell (by show _ ≤ w.heap.size + 1; omega) _).setCell (Nat.le_refl _) _).setCell (Nat.le_refl _) _).setCell (Nat.le_refl _) _).setCell (Nat.le_refl _) _).setCell (Nat.le_refl _) _, .inr ⟨_, ⟨2, nm, op, a, l.length, c, false⟩, T, hres, rfl, ⟨rfl, rfl, rfl, rfl, WAt_mono (fun _ h => h) (fun g hg => ?_) D _ _ hW⟩, fun g hg => ?_⟩⟩
  · have h1 := (hT g hg).1
    rw [far _ _ _ _ (show g ≠ w.heap.size by omega), far _ _ _ _ (show g ≠ w.heap.size by omega), far _ _ _ _ (show g ≠ w.heap.size by omega), far _ _ _ _ (show g ≠ w.heap.size by omega), far _ _ _ _ (show g ≠ w.heap.size by omega), far _ _ _ _ (show g ≠ w.heap.size + 1 by omega)]
  · have h1 := hT g hg
    simp
    omega

theorem param_finE {w X w2 : World} {D er : Nat} {nm op : ByteArray} {res : Except Nat PT} (hXb : Below w.heap.size w X) (hXs : X.heap.size = w.heap.size + 2) (hbw : Below X.drew.heap.size X.drew w2)
    (her : er ≠ 0) (hres : res = .error er) :
    ParamR res D w (.returned (.tuple #[.agg #[.int .i64 2, .string nm, .string op, .slice none 0 0, .bool false], .int .i64 er])) ((((((w2.setCell ⟨w.heap.size + 1, 3, none⟩ (.slice none 0 0)).setCell ⟨w.heap.size, 0, none⟩ (.int .i64 2)).setCell ⟨w.heap.size, 1, none⟩ (.string nm)).setCell ⟨w.heap.size, 2, none⟩ (.string op)).setCell ⟨w.heap.size, 3, none⟩ (.slice none 0 0)).setCell ⟨w.heap.size, 4, none⟩ (.bool false)) := by
  have hs : X.drew.heap.size = w.heap.size + 2 := hXs
  have hb0 : Below w.heap.size w w2 := hXb.drew.trans (hbw.mono (by omega))
  exact ⟨(((((hb0.setCell (by show _ ≤ w.heap.size + 1; omega) _).setCell (Nat.le_refl _) _).setCell (Nat.le_refl _) _).setCell (Nat.le_refl _) _).setCell (Nat.le_refl _) _).setCell (Nat.le_refl _) _, .inl ⟨er, ⟨2, nm, op, none, 0, 0, false⟩, hres, her, rfl⟩⟩

section
variable {w : World} {b n₀ : Nat} {t : ByteArray} {k d : Int} {D : Nat} {st : St} {O : Nat → Prop} {rec : Rec}
variable {a0 a1 : Option Addr} {n0 c0 n1 c1 : Nat} {q o : Bool} (hB : Blk w b 59 (rd t k d a0 n0 c0 a1 n1 c1 q o)) (hd0 : 0 ≤ d) (hd1 : d ≤ 24) (s : ByteArray) (m n : Nat)
  (hcm : Hid (∀ w, Calls Try.prog 57 #[.string (s.extract 1 s.size)] w fun e w' => e = .returned (.int .i64 m) ∧ w = w'))
  (hcn : Hid (∀ w, Calls Try.prog 57 #[.string s] w fun e w' => e = .returned (.int .i64 n) ∧ w = w'))
include hB hd0 hd1 hcm hcn

set_option maxRecDepth 100000 in
set_option maxHeartbeats 8000000 in
theorem param_ok (hs : s.size ≤ 65536) (hz : 0 < s.size) (hml : m ≤ s.size) (hno : NoLen s m) (hn1 : ((n : Int) == 0) = false) (hn2 : ((n : Int) == (s.size : Int)) = false) (hnl : n ≤ s.size)
    (op : ByteArray) (hop : Hid (∀ w, Calls Try.prog 58 #[.string (s.extract n s.size)] w fun e w' => e = .returned (.string op) ∧ w = w')) (hoz : 0 < op.size) (hol : n + op.size ≤ s.size)
    (kx : Int) (hkx : KindIs op k kx) (l : List PT) (hc : Hid (∀ w, Calls Try.prog 16 #[.string (s.extract (n + op.size) s.size), .int .i64 kx, .int .i64 (d + 1)] w (fun e w' => Below w.heap.size w w' ∧ ∃ a c T, e = .returned (.tuple #[.slice a l.length c, .int .i64 0]) ∧ WAt w' T D (.slice a l.length c) l ∧ (∀ g, T g → w.heap.size ≤ g ∧ g < w'.heap.size))))
    (res : Except Nat PT) (hres : res = .ok (.mk 2 (s.extract 0 n) op l false)) :
    Calls Try.prog 51 #[.pointer (some ⟨b, 0, none⟩), .string s] w (ParamR res D w) := by
  have hb := get_bt s
  have hbo := get_bt op
  have hmin : (min 1 (s.size : Int)) = 1 := by omega
  have hbl := hB.lt
  have hemp : op.toList.isEmpty = false := by have := str_ne (s := op) (by omega); simpa using this
  have e1 : w.cell? ⟨b, 1, none⟩ = some (.int .i64 k) := hB.cell 1
  have hBH := Lib.hid hB
  have hrH := Lib.hid hres
  clear hres hB
  -- the world in which the word is read
  obtain ⟨X, hX⟩ : ∃ X, (w.alloc (.cells #[.int .i64 0, .string ⟨#[]⟩, .string ⟨#[]⟩, .slice none 0 0, .bool false] 35)).alloc (.cells #[.int .i64 2, .string (s.extract 0 n), .string op, .slice none 0 0, .bool false] 35) = X := ⟨_, rfl⟩
  have hXb : Below w.heap.size w X := by rw [← hX]; exact two_below w _ _ _ _
  have hXs : X.heap.size = w.heap.size + 2 := by rw [← hX]; simp
  have hX0 : Blk X w.heap.size 35 #[.int .i64 0, .string ⟨#[]⟩, .string ⟨#[]⟩, .slice none 0 0, .bool false] := by rw [← hX]; exact (Blk.new w _ _).alloc _
  have hX1 : Blk X (w.heap.size + 1) 35 #[.int .i64 2, .string (s.extract 0 n), .string op, .slice none 0 0, .bool false] := by
    have h := Blk.new (w.alloc (.cells #[.int .i64 0, .string ⟨#[]⟩, .string ⟨#[]⟩, .slice none 0 0, .bool false] 35)) 35 #[.int .i64 2, .string (s.extract 0 n), .string op, .slice none 0 0, .bool false]
    rw [hX] at h
    simpa using h
  have hXB : Blk X b 59 (rd t k d a0 n0 c0 a1 n1 c1 q o) := (hXb.block b hbl).trans hBH.out
  have hXH := Lib.hid hX
  clear hX
  have hX0H := Lib.hid hX0
  have hX1H := Lib.hid hX1
  have hXBH := Lib.hid hXB
  have hXbH := Lib.hid hXb
  have hXsH := Lib.hid hXs
  clear hX0 hX1 hXB hXb hXs
  have hsum : IntKind.i64.wrap ((n : Int) + (op.size : Int)) = (n : Int) + op.size := IntWalk.i64_in _ (by omega)
  have hsumN : ((n : Int) + (op.size : Int)).toNat = n + op.size := by omega
  have hsum0 : 0 ≤ (n : Int) + (op.size : Int) := by omega
  have hsum1 : (n : Int) + (op.size : Int) ≤ (s.size : Int) := by omega
  have hdd : IntKind.i64.wrap (d + 1) = d + 1 := IntWalk.i64_in _ (by omega)
  rcases hno with h1 | ⟨h1, h2⟩ | ⟨h1, h2, h3⟩ <;> rcases hkx with ⟨k1, rfl⟩ | ⟨k1, k2, rfl⟩ | ⟨k1, k2, rfl⟩
  all_goals
    go_enter Try.func51, Try.ntmps51
    go_wp2_with fail
    refine (hcm.out _).mono ?_
    rintro e w' ⟨rfl, rfl⟩
    go_wp2_with fail
    refine (hcn.out _).mono ?_
    rintro e w' ⟨rfl, rfl⟩
    go_wp2_with fail
    refine (hop.out _).mono ?_
    rintro e w' ⟨rfl, rfl⟩
    go_wp2_with fail
    rw [hXH.out]
    have x2 : X.drew.cell? ⟨w.heap.size + 1, 2, none⟩ = some (.string op) := hX1H.out.cell 2
    have xd : X.drew.cell? ⟨b, 2, none⟩ = some (.int .i64 d) := hXBH.out.cell 2
    have xf : X.frozen? ⟨w.heap.size + 1, 3, none⟩ = false := hX1H.out.frozen 3
    go_region_held3 (fun w' => w'.cell? ⟨w.heap.size + 1, 2, none⟩ = some (.string op) ∧ w'.cell? ⟨b, 2, none⟩ = some (.int .i64 d))
      (first
        | with_reducible exact ⟨x2, xd⟩
        | (go_split_ands; with_reducible exact ⟨by assumption, by assumption⟩)
        | exact ⟨Blk.cell hN1.out 2, Blk.cell hNB.out 2⟩
        | exact ⟨Blk.cell (Blk.set_ hN1.out 3 _) 2, Blk.cell (Blk.far hNB.out (show b ≠ w.heap.size + 1 by omega) _) 2⟩
        | fail)
      ((first | (go_at_call 16; refine (hc.out _).mono ?_; rintro e w2 ⟨hbw, ar, cr, T, rfl, hW, hT⟩; have hN1 := Lib.hid ((hbw.block _ (by show _ < X.heap.size; rw [hXsH.out]; omega)).trans hX1H.out); have hN0 := Lib.hid ((hbw.block _ (by show _ < X.heap.size; rw [hXsH.out]; omega)).trans hX0H.out); have hNB := Lib.hid ((hbw.block _ (by show _ < X.heap.size; rw [hXsH.out]; omega)).trans hXBH.out); have p3 : w2.cell? ⟨w.heap.size + 1, 3, none⟩ = some (.slice none 0 0) := Blk.cell hN1.out 3; have pf3 : w2.frozen? ⟨w.heap.size + 1, 3, none⟩ = false := Blk.frozen hN1.out 3) | fail))
    have g0 : w2.cell? ⟨w.heap.size, 0, none⟩ = some (.int .i64 0) := Blk.cell hN0.out 0
    have g1 : w2.cell? ⟨w.heap.size, 1, none⟩ = some (.string ⟨#[]⟩) := Blk.cell hN0.out 1
    have g2 : w2.cell? ⟨w.heap.size, 2, none⟩ = some (.string ⟨#[]⟩) := Blk.cell hN0.out 2
    have g3 : w2.cell? ⟨w.heap.size, 3, none⟩ = some (.slice none 0 0) := Blk.cell hN0.out 3
    have g4 : w2.cell? ⟨w.heap.size, 4, none⟩ = some (.bool false) := Blk.cell hN0.out 4
    have gf := fun j => Blk.frozen hN0.out j
    have p0 : w2.cell? ⟨w.heap.size + 1, 0, none⟩ = some (.int .i64 2) := Blk.cell hN1.out 0
    have p1 : w2.cell? ⟨w.heap.size + 1, 1, none⟩ = some (.string (s.extract 0 n)) := Blk.cell hN1.out 1
    have p2 : w2.cell? ⟨w.heap.size + 1, 2, none⟩ = some (.string op) := Blk.cell hN1.out 2
    have p4 : w2.cell? ⟨w.heap.size + 1, 4, none⟩ = some (.bool false) := Blk.cell hN1.out 4
    have pf := fun j => Blk.frozen hN1.out j
    go_wp2
    exact bodyPost_ret (v := .tuple #[.agg #[.int .i64 2, .string (s.extract 0 n), .string op, .slice ar l.length cr, .bool false], .int .i64 0]) (by
        obtain ⟨q0, q1, q2, q3, q4⟩ := param_cells (Blk.far (p := ⟨w.heap.size + 1, 3, none⟩) hN0.out (show w.heap.size ≠ w.heap.size + 1 by omega) (.slice ar l.length cr)) (s.extract 0 n) op (.slice ar l.length cr)
        simp [results, Try.f51, go_sem, q0, q1, q2, q3, q4]) rfl (param_fin hXbH.out hXsH.out hbw hW hT hrH.out)

set_option maxRecDepth 100000 in
set_option maxHeartbeats 8000000 in
theorem param_err (hs : s.size ≤ 65536) (hz : 0 < s.size) (hml : m ≤ s.size) (hno : NoLen s m) (hn1 : ((n : Int) == 0) = false) (hn2 : ((n : Int) == (s.size : Int)) = false) (hnl : n ≤ s.size)
    (op : ByteArray) (hop : Hid (∀ w, Calls Try.prog 58 #[.string (s.extract n s.size)] w fun e w' => e = .returned (.string op) ∧ w = w')) (hoz : 0 < op.size) (hol : n + op.size ≤ s.size)
    (kx : Int) (hkx : KindIs op k kx) (er : Nat) (her : er ≠ 0) (hc : Hid (∀ w, Calls Try.prog 16 #[.string (s.extract (n + op.size) s.size), .int .i64 kx, .int .i64 (d + 1)] w (fun e w' => Below w.heap.size w w' ∧ e = .returned (.tuple #[.slice none 0 0, .int .i64 er]))))
    (res : Except Nat PT) (hres : res = .error er) :
    Calls Try.prog 51 #[.pointer (some ⟨b, 0, none⟩), .string s] w (ParamR res D w) := by
  have hb := get_bt s
  have hbo := get_bt op
  have hmin : (min 1 (s.size : Int)) = 1 := by omega
  have hbl := hB.lt
  have hemp : op.toList.isEmpty = false := by have := str_ne (s := op) (by omega); simpa using this
  have e1 : w.cell? ⟨b, 1, none⟩ = some (.int .i64 k) := hB.cell 1
  have hBH := Lib.hid hB
  have hrH := Lib.hid hres
  have herH := Lib.hid her
  clear hres hB her
  -- the world in which the word is read
  obtain ⟨X, hX⟩ : ∃ X, (w.alloc (.cells #[.int .i64 0, .string ⟨#[]⟩, .string ⟨#[]⟩, .slice none 0 0, .bool false] 35)).alloc (.cells #[.int .i64 2, .string (s.extract 0 n), .string op, .slice none 0 0, .bool false] 35) = X := ⟨_, rfl⟩
  have hXb : Below w.heap.size w X := by rw [← hX]; exact two_below w _ _ _ _
  have hXs : X.heap.size = w.heap.size + 2 := by rw [← hX]; simp
  have hX0 : Blk X w.heap.size 35 #[.int .i64 0, .string ⟨#[]⟩, .string ⟨#[]⟩, .slice none 0 0, .bool false] := by rw [← hX]; exact (Blk.new w _ _).alloc _
  have hX1 : Blk X (w.heap.size + 1) 35 #[.int .i64 2, .string (s.extract 0 n), .string op, .slice none 0 0, .bool false] := by
    have h := Blk.new (w.alloc (.cells #[.int .i64 0, .string ⟨#[]⟩, .string ⟨#[]⟩, .slice none 0 0, .bool false] 35)) 35 #[.int .i64 2, .string (s.extract 0 n), .string op, .slice none 0 0, .bool false]
    rw [hX] at h
    simpa using h
  have hXB : Blk X b 59 (rd t k d a0 n0 c0 a1 n1 c1 q o) := (hXb.block b hbl).trans hBH.out
  have hXH := Lib.hid hX
  clear hX
  have hX0H := Lib.hid hX0
  have hX1H := Lib.hid hX1
  have hXBH := Lib.hid hXB
  have hXbH := Lib.hid hXb
  have hXsH := Lib.hid hXs
  clear hX0 hX1 hXB hXb hXs
  have hsum : IntKind.i64.wrap ((n : Int) + (op.size : Int)) = (n : Int) + op.size := IntWalk.i64_in _ (by omega)
  have hsumN : ((n : Int) + (op.size : Int)).toNat = n + op.size := by omega
  have hsum0 : 0 ≤ (n : Int) + (op.size : Int) := by omega
  have hsum1 : (n : Int) + (op.size : Int) ≤ (s.size : Int) := by omega
  have hdd : IntKind.i64.wrap (d + 1) = d + 1 := IntWalk.i64_in _ (by omega)
  rcases hno with h1 | ⟨h1, h2⟩ | ⟨h1, h2, h3⟩ <;> rcases hkx with ⟨k1, rfl⟩ | ⟨k1, k2, rfl⟩ | ⟨k1, k2, rfl⟩
  all_goals
    go_enter Try.func51, Try.ntmps51
    go_wp2_with fail
    refine (hcm.out _).mono ?_
    rintro e w' ⟨rfl, rfl⟩
    go_wp2_with fail
    refine (hcn.out _).mono ?_
    rintro e w' ⟨rfl, rfl⟩
    go_wp2_with fail
    refine (hop.out _).mono ?_
    rintro e w' ⟨rfl, rfl⟩
    go_wp2_with fail
    rw [hXH.out]
    have x2 : X.drew.cell? ⟨w.heap.size + 1, 2, none⟩ = some (.string op) := hX1H.out.cell 2
    have xd : X.drew.cell? ⟨b, 2, none⟩ = some (.int .i64 d) := hXBH.out.cell 2
    have xf : X.frozen? ⟨w.heap.size + 1, 3, none⟩ = false := hX1H.out.frozen 3
    go_region_held3 (fun w' => w'.cell? ⟨w.heap.size + 1, 2, none⟩ = some (.string op) ∧ w'.cell? ⟨b, 2, none⟩ = some (.int .i64 d))
      (first
        | with_reducible exact ⟨x2, xd⟩
        | (go_split_ands; with_reducible exact ⟨by assumption, by assumption⟩)
        | exact ⟨Blk.cell hN1.out 2, Blk.cell hNB.out 2⟩
        | exact ⟨Blk.cell (Blk.set_ hN1.out 3 _) 2, Blk.cell (Blk.far hNB.out (show b ≠ w.heap.size + 1 by omega) _) 2⟩
        | fail)
      ((first | (go_at_call 16; refine (hc.out _).mono ?_; rintro e w2 ⟨hbw, rfl⟩; have hN1 := Lib.hid ((hbw.block _ (by show _ < X.heap.size; rw [hXsH.out]; omega)).trans hX1H.out); have hN0 := Lib.hid ((hbw.block _ (by show _ < X.heap.size; rw [hXsH.out]; omega)).trans hX0H.out); have hNB := Lib.hid ((hbw.block _ (by show _ < X.heap.size; rw [hXsH.out]; omega)).trans hXBH.out); have p3 : w2.cell? ⟨w.heap.size + 1, 3, none⟩ = some (.slice none 0 0) := Blk.cell hN1.out 3; have pf3 : w2.frozen? ⟨w.heap.size + 1, 3, none⟩ = false := Blk.frozen hN1.out 3) | fail))
    have g0 : w2.cell? ⟨w.heap.size, 0, none⟩ = some (.int .i64 0) := Blk.cell hN0.out 0
    have g1 : w2.cell? ⟨w.heap.size, 1, none⟩ = some (.string ⟨#[]⟩) := Blk.cell hN0.out 1
    have g2 : w2.cell? ⟨w.heap.size, 2, none⟩ = some (.string ⟨#[]⟩) := Blk.cell hN0.out 2
    have g3 : w2.cell? ⟨w.heap.size, 3, none⟩ = some (.slice none 0 0) := Blk.cell hN0.out 3
    have g4 : w2.cell? ⟨w.heap.size, 4, none⟩ = some (.bool false) := Blk.cell hN0.out 4
    have gf := fun j => Blk.frozen hN0.out j
    have p0 : w2.cell? ⟨w.heap.size + 1, 0, none⟩ = some (.int .i64 2) := Blk.cell hN1.out 0
    have p1 : w2.cell? ⟨w.heap.size + 1, 1, none⟩ = some (.string (s.extract 0 n)) := Blk.cell hN1.out 1
    have p2 : w2.cell? ⟨w.heap.size + 1, 2, none⟩ = some (.string op) := Blk.cell hN1.out 2
    have p4 : w2.cell? ⟨w.heap.size + 1, 4, none⟩ = some (.bool false) := Blk.cell hN1.out 4
    have pf := fun j => Blk.frozen hN1.out j
    go_wp2
    exact bodyPost_ret (v := .tuple #[.agg #[.int .i64 2, .string (s.extract 0 n), .string op, .slice none 0 0, .bool false], .int .i64 er]) (by
        obtain ⟨q0, q1, q2, q3, q4⟩ := param_cells (Blk.far (p := ⟨w.heap.size + 1, 3, none⟩) hN0.out (show w.heap.size ≠ w.heap.size + 1 by omega) (.slice none 0 0)) (s.extract 0 n) op (.slice none 0 0)
        simp [results, Try.f51, go_sem, q0, q1, q2, q3, q4]) rfl (param_finE hXbH.out hXsH.out hbw herH.out hrH.out)
end

theorem nest_err {P : Program} {f : FuncId} {args : Array Value} {w w0 : World} {res : Except Nat (List PT)} {D er : Nat} (h : Calls P f args w (PartsR res D w0)) (hres : res = .error er) : er ≠ 0 := by
  obtain ⟨e, w', fr, ⟨_, ⟨er', h1, h2, _⟩ | ⟨l, a, c, T, h1, _⟩⟩, _⟩ := h []
  · rw [hres] at h1; cases h1; exact h2
  · rw [hres] at h1; cases h1

theorem parameter_any {w : World} {b : Nat} {t : ByteArray} {k d : Int} {D : Nat} {rec : Rec} {a0 a1 : Option Addr} {n0 c0 n1 c1 : Nat} {q o : Bool} (hB : Blk w b 59 (rd t k d a0 n0 c0 a1 n1 c1 q o)) (hk : k = 0 ∨ k = 1 ∨ k = 2) (hd0 : 0 ≤ d) (hd1 : d ≤ 24) (hrec : Nest rec D d) (s : ByteArray) (hs : s.size ≤ 65536) (hz : 0 < s.size) :
    Calls Try.prog 51 #[.pointer (some ⟨b, 0, none⟩), .string s] w (ParamR (paramM rec s k) D w) := by
  have hmin : min 1 s.size = 1 := by omega
  obtain ⟨m, hm⟩ : ∃ m, pszM (s.extract 1 s.size) = m := ⟨_, rfl⟩
  obtain ⟨n, hn⟩ : ∃ n, pszM s = n := ⟨_, rfl⟩
  obtain ⟨op, ho⟩ : ∃ x, opM (s.extract n s.size) = x := ⟨_, rfl⟩
  have hcm : Hid (∀ w, Calls Try.prog 57 #[.string (s.extract 1 s.size)] w fun e w' => e = .returned (.int .i64 m) ∧ w = w') := Lib.hid (by rw [← hm]; exact fun w => parameterSize_any _ w (by rw [ext_size]; omega))
  have hcn : Hid (∀ w, Calls Try.prog 57 #[.string s] w fun e w' => e = .returned (.int .i64 n) ∧ w = w') := Lib.hid (by rw [← hn]; exact fun w => parameterSize_any _ w (by omega))
  have hop : Hid (∀ w, Calls Try.prog 58 #[.string (s.extract n s.size)] w fun e w' => e = .returned (.string op) ∧ w = w') := Lib.hid (by rw [← ho]; exact fun w => operator_any _ w (by rw [ext_size]; omega))
  have hml : m ≤ s.size := by have := psz_le (s.extract 1 s.size); rw [ext_size, hm] at this; omega
  have hnl : n ≤ s.size := by have := psz_le s; omega
  have hol : n + op.size ≤ s.size := by have := op_le (s.extract n s.size) (min 2 (s.extract n s.size).size); rw [show opFrom _ _ = op from ho, ext_size] at this; omega
  by_cases hl : 0 < m ∧ bt s 0 = 35 ∧ 1 + m = s.size
  · exact param_len s m hcm hs hz hl.1 (by simp [hl.2.1]) (by simp; omega) _ (by unfold paramM; rw [hmin, hm, if_pos hl])
  · have hno : NoLen s m := by
      by_cases h1 : 0 < m
      · by_cases h2 : bt s 0 = 35
        · exact .inr (.inr ⟨h1, by simp [h2], by have : ¬ 1 + m = s.size := fun h => hl ⟨h1, h2, h⟩; simp; omega⟩)
        · exact .inr (.inl ⟨h1, by simp [h2]⟩)
      · exact .inl h1
    by_cases h1 : n = 0
    · exact param_none s m n hcm hcn hs hz hml hno h1 _ (by unfold paramM; rw [hmin, hm, if_neg hl, hn, if_pos h1])
    · by_cases h2 : n = s.size
      · exact param_all s m n hcm hcn hs hz hml hno h2 _ (by unfold paramM; rw [hmin, hm, if_neg hl, hn, if_neg h1, if_pos h2])
      · have hn1 : ((n : Int) == 0) = false := by simp; omega
        have hn2 : ((n : Int) == (s.size : Int)) = false := by simp; omega
        by_cases h3 : op.size = 0
        · obtain rfl := size0 h3
          exact param_noop s m n hcm hcn hs hz hml hno hn1 hn2 hnl hop _ (by unfold paramM; rw [hmin, hm, if_neg hl, hn, if_neg h1, if_neg h2, ho, if_pos h3])
        · have hkx := kindIs op k
          have hk2 : paramKind op k = 0 ∨ paramKind op k = 1 ∨ paramKind op k = 2 := by
            unfold paramKind
            split
            · exact .inl rfl
            · exact hk
          cases hres : rec (s.extract (n + op.size) s.size) (paramKind op k) with
          | error er =>
            have her := nest_err (hrec (s.extract (n + op.size) s.size) (paramKind op k) w (by rw [ext_size]; omega) hk2) hres
            exact param_err hB hd0 hd1 s m n hcm hcn hs hz hml hno hn1 hn2 hnl op hop (by omega) hol _ hkx er her (Lib.hid (fun w => (hrec _ _ w (by rw [ext_size]; omega) hk2).mono (by
              rintro e w' ⟨hb, ⟨er', h', _, rfl⟩ | ⟨l, a, c, T, h', _⟩⟩
              · rw [hres] at h'; cases h'; exact ⟨hb, rfl⟩
              · rw [hres] at h'; cases h'))) _ (by unfold paramM; rw [hmin, hm, if_neg hl, hn, if_neg h1, if_neg h2, ho, if_neg h3, hres])
          | ok l =>
            exact param_ok hB hd0 hd1 s m n hcm hcn hs hz hml hno hn1 hn2 hnl op hop (by omega) hol _ hkx l (Lib.hid (fun w => (hrec _ _ w (by rw [ext_size]; omega) hk2).mono (by
              rintro e w' ⟨hb, ⟨er', h', _⟩ | ⟨l', a, c, T, h', h2, h3, h4⟩⟩
              · rw [hres] at h'; cases h'
              · rw [hres] at h'; cases h'; exact ⟨hb, a, c, T, h2, h3, h4⟩))) _ (by unfold paramM; rw [hmin, hm, if_neg hl, hn, if_neg h1, if_neg h2, ho, if_neg h3, hres])
end Go.Proofs.Ytgpkhpheomaiaaa
