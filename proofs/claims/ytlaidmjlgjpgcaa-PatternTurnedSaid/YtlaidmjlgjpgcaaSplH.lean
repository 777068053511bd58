/- The contract of Fields. Condition: lengths. -/
import Derived.Test.YtlaidmjlgjpgcaaSplG
namespace Go.Proofs.Ytlaidmjlgjpgcaa
open Go.RowKit Go.Shelf Go.PlainAid
attribute [local go_sem] Oper.semAt_some

/-- The cells of what the iterator gives. -/
def cV : Pr → Array Value
  | .it b q => #[.int .i64 0, .int .u8 (b.toNat : Int), .bool q]
  | .st => #[.int .i64 1, .int .u8 0, .bool false]
  | .sf b => #[.int .i64 2, .int .u8 (b.toNat : Int), .bool false]
  | .hd b => #[.int .i64 3, .int .u8 (b.toNat : Int), .bool false]
theorem encP_size (x : Pr) : (encP x).size = 1 := by cases x <;> rfl

/-- The results' cells, the maker's address. -/
structure Fr (n₀ : Nat) (W : World) : Prop where
  b4 : Boxed W n₀ 40 (.slice none 0 0)
  b5 : Boxed W (n₀ + 1) 41 (.int .i64 0)
  b6 : Boxed W (n₀ + 3) 63 (.pointer (some ⟨n₀ + 2, 0, none⟩))
theorem Fr.same {n₀ : Nat} {X Y : World} (h : Fr n₀ X) (hs : Same X Y) : Fr n₀ Y := ⟨(hs _ _ _ _ h.b4).trans h.b4, (hs _ _ _ _ h.b5).trans h.b5, (hs _ _ _ _ h.b6).trans h.b6⟩
theorem Fr.alloc {n₀ : Nat} {X : World} (h : Fr n₀ X) (o : Obj) : Fr n₀ (X.alloc o) := ⟨h.b4.alloc _, h.b5.alloc _, h.b6.alloc _⟩
theorem Fr.keep {n₀ : Nat} {X Y : World} (h : Fr n₀ X) (k : Keep n₀ (n₀ + 2) X Y) : Fr n₀ Y :=
  ⟨(k.far _ _ _ _ h.b4 (by decide) (by decide) (by omega)).trans h.b4, (k.far _ _ _ _ h.b5 (by decide) (by decide) (by omega)).trans h.b5, (k.far _ _ _ _ h.b6 (by decide) (by decide) (by omega)).trans h.b6⟩
theorem Keep.keepP {n₀ mb : Nat} {X Y : World} (h : Keep n₀ mb X Y) (ht : ∃ cs fr, X.heap[mb]? = some (.cells cs 65 fr)) : KeepP n₀ X Y :=
  ⟨h.bel, fun B cs t fr hB ho => h.far B cs t fr hB (by rcases ho with rfl | rfl | rfl <;> decide) (by rcases ho with rfl | rfl | rfl <;> decide) (fun e => by
    subst e
    obtain ⟨cs', fr', h'⟩ := ht
    rw [h'] at hB
    simp at hB
    rcases ho with rfl | rfl | rfl <;> simp at hB)⟩

/-- Between two rounds. -/
def LoopI (n₀ : Nat) (w : World) (pre : List Pr) (W : World) : Prop :=
  ((∃ m vf vc sl, Ran pre m ∧ MkAt n₀ (n₀ + 2) m vf vc sl W) ∧ Fr n₀ W) ∧ Below n₀ w W
/-- A round has left: it is too much. -/
def LoopX (n₀ : Nat) (w : World) (c : Code) (pre : List Pr) (W : World) : Prop :=
  c = .ret ∧ go mk0 (pre.map ptOf) = none ∧ Boxed W n₀ 40 (.slice none 0 0) ∧ Boxed W (n₀ + 1) 41 (.int .i64 66) ∧ Below n₀ w W

theorem loopI_own {n₀ B : Nat} {w : World} (hn : n₀ ≤ w.heap.size) (hB : n₀ ≤ B) : OwnFrom B (LoopI n₀ w) := by
  rintro pre X Y row ⟨⟨⟨m, vf, vc, sl, h1, h2⟩, h3⟩, h4⟩ hg hr
  have hs := same_of hg (fun r e => (hr r e).2)
  exact ⟨⟨⟨m, vf, vc, sl, h1, h2.same hs⟩, h3.same hs⟩, ownFrom_below (β := Unit) hn hB () X Y row h4 hg hr⟩
theorem loopX_own {n₀ B : Nat} {w : World} (hn : n₀ ≤ w.heap.size) (hB : n₀ ≤ B) (c : Code) : OwnFrom B (LoopX n₀ w c) := by
  rintro pre X Y row ⟨h1, h2, h3, h4, h5⟩ hg hr
  have hs := same_of hg (fun r e => (hr r e).2)
  exact ⟨h1, h2, (hs _ _ _ _ h3).trans h3, (hs _ _ _ _ h4).trans h4, ownFrom_below (β := Unit) hn hB () X Y row h5 hg hr⟩
theorem loopI_alloc {n₀ : Nat} {w W : World} {pre : List Pr} (h : LoopI n₀ w pre W) (hn : n₀ ≤ W.heap.size) (o : Obj) : LoopI n₀ w pre (W.alloc o) := by
  obtain ⟨⟨⟨m, vf, vc, sl, h1, h2⟩, h3⟩, h4⟩ := h
  exact ⟨⟨⟨m, vf, vc, sl, h1, h2.alloc _⟩, h3.alloc _⟩, h4.alloc hn _⟩

theorem FlsAt.of {n₀ mb : Nat} {m : Mk} {vf vc : Value} {sl : List Value} {w : World} (h : MkAt n₀ mb m vf vc sl w) : FlsAt n₀ w vf m.fs :=
  ⟨sl, h.rf, h.sls.1, fun j v f h1 h2 => (h.sls.2 j v f h1 h2).1⟩
theorem FlsAt.same {n₀ : Nat} {v : Value} {L : List (List Ch)} {X Y : World} (h : FlsAt n₀ X v L) (hs : Same X Y) : FlsAt n₀ Y v L := by
  obtain ⟨sl, h1, h2, h3⟩ := h
  exact ⟨sl, own_same h1 hs, h2, fun j u f a b => own_same (h3 j u f a b) hs⟩
theorem FlsAt.set {n₀ B : Nat} {t : TypeId} {u : Value} {v : Value} {L : List (List Ch)} {X : World} (h : FlsAt n₀ X v L) (hb : Boxed X B t u) (h1 : t ≠ 22) (h2 : t ≠ 33) (x : Value) : FlsAt n₀ (X.setCell ⟨B, 0, none⟩ x) v L := by
  obtain ⟨sl, a1, a2, a3⟩ := h
  exact ⟨sl, a1.kept (grownBy_setCell' X B x) (.inr (fun e => row_ne hb h1 a1 e.symm)), a2, fun j u f a b => (a3 j u f a b).kept (grownBy_setCell' X B x) (.inr (fun e => row_ne hb h2 (a3 j u f a b) e.symm))⟩
theorem same_putObj {W : World} {D : Nat} {o o' : Obj} (hK : W.heap[D]? = some o) (ho : o.isCells = false) : Same W (W.putObj D o') :=
  fun B cs t fr hB2 => World.putObj_heap_other (fun e => by subst e; rw [hK] at hB2; cases hB2; cases ho)

/-- The frame of a round. -/
def frF (n₀ : Nat) (av : Option Addr) (n cv : Nat) (ifs : ByteArray) (Bx : Nat) (v : Value) : Act :=
  { tmps := #[.slice av n cv, .string ifs, undef, undef, .pointer (some ⟨n₀, 0, none⟩), .pointer (some ⟨n₀ + 1, 0, none⟩), .pointer (some ⟨n₀ + 1 + 1 + 1, 0, none⟩), .pointer (some ⟨Bx, 0, none⟩), .agg #[.slice none 0 0, .slice none 0 0, .bool false, .bool false], .pointer (some ⟨n₀ + 1 + 1, 0, none⟩), .slice av n cv, .string ifs,
      .func (.func 53) #[] #[.pointer (some ⟨n₀ + 1 + 1 + 1 + 1, 0, none⟩), .pointer (some ⟨n₀ + 1 + 1 + 1 + 1 + 1, 0, none⟩)], v, undef, undef, undef, undef, undef, undef, undef, undef, undef, undef, undef, undef, undef, undef, undef, undef, undef, undef, undef, undef, undef, undef, undef, undef, undef, undef, undef, undef, undef, undef, undef], defers := [] }

set_option maxRecDepth 100000 in
set_option maxHeartbeats 4000000 in
theorem fields_in (ifs : ByteArray) (av : Option Addr) (cv : Nat) (ps : List Pc) (hlen : ps.length ≤ 9223372036854775807) (w : World) (hP : PcsAt w.heap.size w av ps) :
    CallsIn Fence.wide 6 Try.prog 27 #[.slice av ps.length cv, .string ifs] w (FieldsR w.heap.size (fieldsOf ((partsOf ifs ps).map ptOf)) w) := by
  refine callsIn_of_wp_marks Try.func27 rfl trivial ?_ rfl
  simp only [Try.ntmps27, List.size_toArray, List.length_cons, List.length_nil, Nat.reduceAdd, Nat.reduceSub, Array.replicate_succ, Array.replicate_zero, List.push_toArray, List.append_toArray, List.nil_append, List.cons_append]
  gi_wp2_with (refine ⟨trivial, ?_⟩; gi_at_call 38; refine (callsIn_wide.2 (bytes_any _ _ _ _ _)).mono ?_; rintro e w' ⟨rfl, rfl⟩)
  obtain ⟨n₀, hn₀⟩ : ∃ n₀, w.heap.size = n₀ := ⟨_, rfl⟩
  have hnw : n₀ ≤ w.heap.size := by omega
  have hnw2 : w.heap.size ≤ n₀ := by omega
  rw [hn₀] at hP ⊢
  obtain ⟨W0, hW0⟩ : ∃ W0, (((((w.alloc (.cells #[.slice none 0 0] 40)).alloc (.cells #[.int .i64 0] 41)).alloc (.cells #[.slice none 0 0, .slice none 0 0, .bool false, .bool false] 65)).alloc (.cells #[.pointer (some ⟨n₀ + 1 + 1, 0, none⟩)] 63)).alloc (.cells #[.slice av ps.length cv] 37)).alloc (.cells #[.string ifs] 9) = W0 := ⟨_, rfl⟩
  have hs0 : W0.heap.size = n₀ + 6 := by rw [← hW0]; simp [hn₀]
  have hB0 : Below n₀ w W0 := by
    rw [← hW0]
    exact ((((((Below.refl n₀ w).alloc hnw _).alloc (by simp; omega) _).alloc (by simp; omega) _).alloc (by simp; omega) _).alloc (by simp; omega) _).alloc (by simp; omega) _
  have hF0 : Fr n₀ W0 := by
    rw [← hW0]
    have x1 := Boxed.new w 40 (.slice none 0 0)
    have x2 := Boxed.new (w.alloc (.cells #[.slice none 0 0] 40)) 41 (.int .i64 0)
    have x3 := Boxed.new ((w.alloc (.cells #[.slice none 0 0] 40)).alloc (.cells #[.int .i64 0] 41) |>.alloc (.cells #[.slice none 0 0, .slice none 0 0, .bool false, .bool false] 65)) 63 (.pointer (some ⟨n₀ + 1 + 1, 0, none⟩))
    rw [hn₀] at x1
    rw [World.size_alloc, hn₀] at x2
    rw [World.size_alloc, World.size_alloc, World.size_alloc, hn₀] at x3
    exact ⟨((((x1.alloc _).alloc _).alloc _).alloc _).alloc _, (((x2.alloc _).alloc _).alloc _).alloc _, (x3.alloc _).alloc _⟩
  have hBl : Boxed W0 (n₀ + 1 + 1 + 1 + 1) 37 (.slice av ps.length cv) := by
    rw [← hW0]
    have x := (Boxed.new ((((w.alloc (.cells #[.slice none 0 0] 40)).alloc (.cells #[.int .i64 0] 41)).alloc (.cells #[.slice none 0 0, .slice none 0 0, .bool false, .bool false] 65)).alloc (.cells #[.pointer (some ⟨n₀ + 1 + 1, 0, none⟩)] 63)) 37 (.slice av ps.length cv)).alloc (.cells #[.string ifs] 9)
    rwa [World.size_alloc, World.size_alloc, World.size_alloc, World.size_alloc, hn₀] at x
  have hBi : Boxed W0 (n₀ + 1 + 1 + 1 + 1 + 1) 9 (.string ifs) := by
    rw [← hW0]
    have x := Boxed.new (((((w.alloc (.cells #[.slice none 0 0] 40)).alloc (.cells #[.int .i64 0] 41)).alloc (.cells #[.slice none 0 0, .slice none 0 0, .bool false, .bool false] 65)).alloc (.cells #[.pointer (some ⟨n₀ + 1 + 1, 0, none⟩)] 63)).alloc (.cells #[.slice av ps.length cv] 37)) 9 (.string ifs)
    rwa [World.size_alloc, World.size_alloc, World.size_alloc, World.size_alloc, World.size_alloc, hn₀] at x
  have hM0 : MkAt n₀ (n₀ + 2) mk0 (.slice none 0 0) (.slice none 0 0) [] W0 := by
    have hb : W0.heap[n₀ + 2]? = some (.cells #[.slice none 0 0, .slice none 0 0, .bool false, .bool false] 65 (0, 0)) := by
      rw [← hW0]
      have x := World.alloc_heap_new ((w.alloc (.cells #[.slice none 0 0] 40)).alloc (.cells #[.int .i64 0] 41)) (.cells #[.slice none 0 0, .slice none 0 0, .bool false, .bool false] 65)
      rw [World.size_alloc, World.size_alloc, hn₀] at x
      exact (Below.heap_alloc _ _ _ (by simp; omega)).trans ((Below.heap_alloc _ _ _ (by simp; omega)).trans ((Below.heap_alloc _ _ _ (by simp; omega)).trans x))
    refine ⟨by rw [cell_of_row _ _ 0 _ _ _ hb]; rfl, by rw [cell_of_row _ _ 1 _ _ _ hb]; rfl, by rw [cell_of_row _ _ 2 _ _ _ hb]; rfl, by rw [cell_of_row _ _ 3 _ _ _ hb]; rfl, fun o => by simp [World.frozen?, hb], ⟨_, _, hb⟩, by omega, World.ownsRow_nil _ _ _ _, World.ownsRow_nil _ _ _ _, rfl, fun j v f h1 _ => by simp at h1⟩
  rw [hW0]
  have hnH := Lib.hid hn₀
  clear hW0 hn₀
  apply wpIn_rangeFunc_ownH (ps := #[13]) (n := 6) rfl (by omega) (gf := 53) (lb := #[.pointer (some ⟨n₀ + 1 + 1 + 1 + 1, 0, none⟩), .pointer (some ⟨n₀ + 1 + 1 + 1 + 1 + 1, 0, none⟩)]) rfl trivial (enters_of Try.func53 (by kernel_rfl) rfl)
    (bytes_stops 5 (by omega) (n₀ + 1 + 1 + 1 + 1) (n₀ + 1 + 1 + 1 + 1 + 1) n₀ (partsOf ifs ps).length ifs av cv ps (Nat.le_refl _) hlen W0 hBl hBi (hP.below hB0) (by omega)) keepP_t (keepP_b (w := W0) (by omega)) (Below.refl _ _) (fun x => encP_size x)
    (LoopI n₀ w) (LoopX n₀ w) (loopI_own hnw (by omega)) (loopX_own hnw (by omega))
    ⟨⟨⟨mk0, _, _, _, Ran.nil, hM0⟩, hF0⟩, hB0⟩
    (fun x a' W => ∃ Bx, n₀ + 4 ≤ Bx ∧ W.heap[Bx]? = some (.cells (cV x) 70 (0, 0)) ∧ a' = frF n₀ av ps.length cv ifs Bx (.agg (cV x)))
    (fun x a' _ X Y row hs hg hr => by obtain ⟨Bx, h1, h2, h3⟩ := hs; exact ⟨Bx, h1, ((same_of hg (fun r e => (hr r e).2)) _ _ _ _ h2).trans h2, h3⟩)
    ?assign ?body ?done ?stop
  case assign =>
    clear hM0 hF0 hBl hBi hP hB0
    rintro l pre x W K hI hK
    have hlt : n₀ + 4 ≤ W.heap.size := hI.1.2.b6.lt
    have hIH := Lib.hid hI
    clear hI
    rcases x with ⟨b, q⟩ | _ | b | b
    all_goals
      dsimp only [encP]
      gi_wp2
      exact hK _ _ ((KeepsOthers.alloc _ _).from _) (keepP_alloc (by omega) _) (loopI_alloc hIH.out (by omega) _) ⟨W.heap.size, hlt, World.alloc_heap_new W _, rfl⟩
  case stop =>
    clear hM0 hF0 hBl hBi hP hB0
    rintro D c pre W hD ⟨r, hpre⟩ ⟨rfl, hgo, h4, h5, hB⟩ hK
    have hnone : fieldsOf ((partsOf ifs ps).map ptOf) = none := by
      unfold fieldsOf
      rw [← hpre, List.map_append, go_append_none _ _ _ hgo]; rfl
    have hs : Same W (W.putObj D (.deferred none)) := fun B cs t fr hB2 => World.putObj_heap_other (fun e => by subst e; rw [hK] at hB2; cases hB2)
    have z4 : Boxed (W.putObj D (.deferred none)) n₀ 40 (.slice none 0 0) := (hs _ _ _ _ h4).trans h4
    have z5 : Boxed (W.putObj D (.deferred none)) (n₀ + 1) 41 (.int .i64 66) := (hs _ _ _ _ h5).trans h5
    have q4 := z4.cell
    have q5 := z5.cell
    have hKH := Lib.hid hK
    have hb := Lib.hid (hB.trans (belowK_b (w := w) hnw W D _ (.deferred none) (by omega) hK rfl rfl))
    clear hs h4 h5 hB hK hpre hgo z4 z5
    gi_wp2
    refine ⟨by simp, .inl ⟨_, _, rfl, run_takeDeferred hKH.out, ?_⟩⟩
    refine ⟨.tuple #[.slice none 0 0, .int .i64 66], ?_, ?_⟩
    · simp [results, Try.f27, go_sem, q4, q5]
    · exact ⟨hb.out, .inr ⟨hnone, rfl⟩⟩
  case body =>
    clear hM0 hF0 hBl hBi hP hB0
    rintro l pre x a' W hl _ ⟨⟨⟨m, vf, vc, sl, hR, hM⟩, hF⟩, hB⟩ ⟨Bx, hBx, hbx, rfl⟩ hlt
    have hlen2 := big_len hR.2
    have hl1 : m.fs.length ≤ 1000 := by omega
    have hl2 : m.f.length ≤ 10000 := by omega
    have hnW : n₀ ≤ W.heap.size := by have := hF.b4.lt; omega
    have c6 := hF.b6.cell
    have hRan := Lib.hid hR
    have hMH := Lib.hid hM
    have hFH := Lib.hid hF
    have hBH := Lib.hid hB
    have d1 := hM.c2
    have f2 := hM.fz 2
    clear hR hM hF hB hlen2
    unfold frF
    rcases x with ⟨b, q⟩ | _ | b | b
    all_goals
      dsimp only [cV] at hbx ⊢
      have cr := cell_of_row _ _ 0 _ _ _ hbx
      have d2 := cell_of_row _ _ 1 _ _ _ hbx
      have d3 := cell_of_row _ _ 2 _ _ _ hbx
      simp only [List.getElem?_toArray, List.getElem?_cons_zero, List.getElem?_cons_succ] at cr d2 d3
    · have hC := Lib.hid (take_any (b, q) W hMH.out hl2 hnW)
      gi_wp2_with fail
      refine ⟨trivial, ?_⟩
      refine (CallsIn.inRound l (callsIn_wide.2 hC.out)).mono ?_
      rintro e w1 ⟨rfl, hk, vf1, vc1, sl1, hM1'⟩
      have hF1 := hFH.out.keep hk
      have hk1 := Lib.hid hk
      have hM1 := Lib.hid hM1'
      clear hk hM1' c6 cr d1 d2 d3 f2 hC
      have hb6 := hF1.b6.cell
      have hb4 := hF1.b4
      have hb5 := hF1.b5
      have c4 := hb4.cell
      have c5 := hb5.cell
      have f4 := hb4.frozen
      have f5 := hb5.frozen
      have hF1H := Lib.hid hF1
      clear hF1
      obtain ⟨bg, hbg⟩ : ∃ bg, (m.step (ptOf (.it b q))).big = bg := ⟨_, rfl⟩
      have hTM : Hid (Calls Try.prog 42 #[.pointer (some ⟨n₀ + 2, 0, none⟩)] w1 fun e w' => e = .returned (.bool bg) ∧ w1 = w') := Lib.hid (by rw [← hbg]; exact tooMuch_any w1 hM1.out)
      have hbgH := Lib.hid hbg
      clear hbg
      cases bg
      · gi_wp2_with (refine ⟨trivial, ?_⟩; gi_at_call 42; refine (CallsIn.inRound l (callsIn_wide.2 hTM.out)).mono ?_; rintro e w2 ⟨rfl, rfl⟩)
        exact ⟨hk1.out.oth.from _, hk1.out.keepP hMH.out.ty, ⟨⟨_, _, _, _, hRan.out.next hbgH.out, hM1.out⟩, hF1H.out⟩, hBH.out.trans hk1.out.bel⟩
      · gi_wp2_with (refine ⟨trivial, ?_⟩; gi_at_call 42; refine (CallsIn.inRound l (callsIn_wide.2 hTM.out)).mono ?_; rintro e w2 ⟨rfl, rfl⟩)
        exact ⟨((hk1.out.oth.trans (KeepsOthers.setCell _ _ _)).trans (KeepsOthers.setCell _ _ _)).from _, rfl, hRan.out.over hbgH.out, (hb4.set (.slice none 0 0)).other (by omega) _, Boxed.set _ (hb5.other (by omega) _), ((hBH.out.trans hk1.out.bel).setCell (p := ⟨n₀, 0, none⟩) (Nat.le_refl _) _).setCell (p := ⟨n₀ + 1, 0, none⟩) (by simp) _⟩
    · have hk1 : Hid (Keep n₀ (n₀ + 2) W (W.setCell ⟨n₀ + 2, 2, none⟩ (.bool true))) := Lib.hid (Keep.set _ (by omega) 2 _)
      have hM1 := Lib.hid (hMH.out.set2 true)
      obtain ⟨w1, hw1⟩ : ∃ w1, W.setCell ⟨n₀ + 2, 2, none⟩ (.bool true) = w1 := ⟨_, rfl⟩
      have hF1 := hFH.out.keep hk1.out
      rw [hw1] at hk1 hM1 hF1
      have hb6 := hF1.b6.cell
      have hb4 := hF1.b4
      have hb5 := hF1.b5
      have c4 := hb4.cell
      have c5 := hb5.cell
      have f4 := hb4.frozen
      have f5 := hb5.frozen
      have hF1H := Lib.hid hF1
      clear hF1
      obtain ⟨bg, hbg⟩ : ∃ bg, (m.step (ptOf .st)).big = bg := ⟨_, rfl⟩
      have hTM : Hid (Calls Try.prog 42 #[.pointer (some ⟨n₀ + 2, 0, none⟩)] w1 fun e w' => e = .returned (.bool bg) ∧ w1 = w') := Lib.hid (by rw [← hbg]; exact tooMuch_any w1 hM1.out)
      have hbgH := Lib.hid hbg
      clear hbg
      cases bg
      · gi_wp2_with (refine ⟨trivial, ?_⟩; gi_at_call 42; refine (CallsIn.inRound l (callsIn_wide.2 hTM.out)).mono ?_; rintro e w2 ⟨rfl, rfl⟩)
        exact ⟨hk1.out.oth.from _, hk1.out.keepP hMH.out.ty, ⟨⟨_, _, _, _, hRan.out.next hbgH.out, hM1.out⟩, hF1H.out⟩, hBH.out.trans hk1.out.bel⟩
      · gi_wp2_with (refine ⟨trivial, ?_⟩; gi_at_call 42; refine (CallsIn.inRound l (callsIn_wide.2 hTM.out)).mono ?_; rintro e w2 ⟨rfl, rfl⟩)
        exact ⟨((hk1.out.oth.trans (KeepsOthers.setCell _ _ _)).trans (KeepsOthers.setCell _ _ _)).from _, rfl, hRan.out.over hbgH.out, (hb4.set (.slice none 0 0)).other (by omega) _, Boxed.set _ (hb5.other (by omega) _), ((hBH.out.trans hk1.out.bel).setCell (p := ⟨n₀, 0, none⟩) (Nat.le_refl _) _).setCell (p := ⟨n₀ + 1, 0, none⟩) (by simp) _⟩
    · have hC := Lib.hid (soft_any W hMH.out hl1 hnW)
      gi_wp2_with fail
      refine ⟨trivial, ?_⟩
      refine (CallsIn.inRound l (callsIn_wide.2 hC.out)).mono ?_
      rintro e w1 ⟨rfl, hk, vf1, vc1, sl1, hM1'⟩
      have hF1 := hFH.out.keep hk
      have hk1 := Lib.hid hk
      have hM1 := Lib.hid hM1'
      clear hk hM1' c6 cr d1 d2 d3 f2 hC
      have hb6 := hF1.b6.cell
      have hb4 := hF1.b4
      have hb5 := hF1.b5
      have c4 := hb4.cell
      have c5 := hb5.cell
      have f4 := hb4.frozen
      have f5 := hb5.frozen
      have hF1H := Lib.hid hF1
      clear hF1
      obtain ⟨bg, hbg⟩ : ∃ bg, (m.step (ptOf (.sf b))).big = bg := ⟨_, rfl⟩
      have hTM : Hid (Calls Try.prog 42 #[.pointer (some ⟨n₀ + 2, 0, none⟩)] w1 fun e w' => e = .returned (.bool bg) ∧ w1 = w') := Lib.hid (by rw [← hbg]; exact tooMuch_any w1 hM1.out)
      have hbgH := Lib.hid hbg
      clear hbg
      cases bg
      · gi_wp2_with (refine ⟨trivial, ?_⟩; gi_at_call 42; refine (CallsIn.inRound l (callsIn_wide.2 hTM.out)).mono ?_; rintro e w2 ⟨rfl, rfl⟩)
        exact ⟨hk1.out.oth.from _, hk1.out.keepP hMH.out.ty, ⟨⟨_, _, _, _, hRan.out.next hbgH.out, hM1.out⟩, hF1H.out⟩, hBH.out.trans hk1.out.bel⟩
      · gi_wp2_with (refine ⟨trivial, ?_⟩; gi_at_call 42; refine (CallsIn.inRound l (callsIn_wide.2 hTM.out)).mono ?_; rintro e w2 ⟨rfl, rfl⟩)
        exact ⟨((hk1.out.oth.trans (KeepsOthers.setCell _ _ _)).trans (KeepsOthers.setCell _ _ _)).from _, rfl, hRan.out.over hbgH.out, (hb4.set (.slice none 0 0)).other (by omega) _, Boxed.set _ (hb5.other (by omega) _), ((hBH.out.trans hk1.out.bel).setCell (p := ⟨n₀, 0, none⟩) (Nat.le_refl _) _).setCell (p := ⟨n₀ + 1, 0, none⟩) (by simp) _⟩
    · have hC := Lib.hid (hard_any W hMH.out hl1 hnW)
      gi_wp2_with fail
      refine ⟨trivial, ?_⟩
      refine (CallsIn.inRound l (callsIn_wide.2 hC.out)).mono ?_
      rintro e w1 ⟨rfl, hk, vf1, vc1, sl1, hM1'⟩
      have hF1 := hFH.out.keep hk
      have hk1 := Lib.hid hk
      have hM1 := Lib.hid hM1'
      clear hk hM1' c6 cr d1 d2 d3 f2 hC
      have hb6 := hF1.b6.cell
      have hb4 := hF1.b4
      have hb5 := hF1.b5
      have c4 := hb4.cell
      have c5 := hb5.cell
      have f4 := hb4.frozen
      have f5 := hb5.frozen
      have hF1H := Lib.hid hF1
      clear hF1
      obtain ⟨bg, hbg⟩ : ∃ bg, (m.step (ptOf (.hd b))).big = bg := ⟨_, rfl⟩
      have hTM : Hid (Calls Try.prog 42 #[.pointer (some ⟨n₀ + 2, 0, none⟩)] w1 fun e w' => e = .returned (.bool bg) ∧ w1 = w') := Lib.hid (by rw [← hbg]; exact tooMuch_any w1 hM1.out)
      have hbgH := Lib.hid hbg
      clear hbg
      cases bg
      · gi_wp2_with (refine ⟨trivial, ?_⟩; gi_at_call 42; refine (CallsIn.inRound l (callsIn_wide.2 hTM.out)).mono ?_; rintro e w2 ⟨rfl, rfl⟩)
        exact ⟨hk1.out.oth.from _, hk1.out.keepP hMH.out.ty, ⟨⟨_, _, _, _, hRan.out.next hbgH.out, hM1.out⟩, hF1H.out⟩, hBH.out.trans hk1.out.bel⟩
      · gi_wp2_with (refine ⟨trivial, ?_⟩; gi_at_call 42; refine (CallsIn.inRound l (callsIn_wide.2 hTM.out)).mono ?_; rintro e w2 ⟨rfl, rfl⟩)
        exact ⟨((hk1.out.oth.trans (KeepsOthers.setCell _ _ _)).trans (KeepsOthers.setCell _ _ _)).from _, rfl, hRan.out.over hbgH.out, (hb4.set (.slice none 0 0)).other (by omega) _, Boxed.set _ (hb5.other (by omega) _), ((hBH.out.trans hk1.out.bel).setCell (p := ⟨n₀, 0, none⟩) (Nat.le_refl _) _).setCell (p := ⟨n₀ + 1, 0, none⟩) (by simp) _⟩
  case done =>
    clear hM0 hF0 hBl hBi hP hB0
    rintro D xs W hD rfl ⟨⟨⟨m, vf, vc, sl, hR, hM⟩, hF⟩, hB⟩ hK
    have hgo : fieldsOf ((partsOf ifs ps).map ptOf) = bif m.fin.big then none else some m.fin.fs := by unfold fieldsOf; rw [hR.1]; rfl
    have hlen2 := big_len hR.2
    have hnW : n₀ ≤ W.heap.size := by have := hF.b4.lt; omega
    have c6 := hF.b6.cell
    have hE := Lib.hid (end_any W hM (by omega) hnW)
    have hgoH := Lib.hid hgo
    have hFH := Lib.hid hF
    have hBH := Lib.hid hB
    have hKH := Lib.hid hK
    clear hR hM hF hB hK hgo hlen2
    gi_wp2_with fail
    refine ⟨trivial, ?_⟩
    refine (callsIn_wide.2 hE.out).mono ?_
    rintro e w1 ⟨rfl, hk, vf1, vc1, sl1, hM1'⟩
    have hF1 := hFH.out.keep hk
    have hk1 := Lib.hid hk
    have hM1 := Lib.hid hM1'
    have d0 := hM1'.c0
    obtain ⟨a1, c1, rfl⟩ := ownsRow_slice hM1'.rf
    clear hk hM1' c6 hE
    have hb6 := hF1.b6.cell
    have hb4 := hF1.b4
    have hb5 := hF1.b5
    have c4 := hb4.cell
    have c5 := hb5.cell
    have f4 := hb4.frozen
    have f5 := hb5.frozen
    have hTM := Lib.hid (tooMuch_any w1 hM1.out)
    clear hF1
    obtain ⟨bg, hbg⟩ : ∃ bg, m.fin.big = bg := ⟨_, rfl⟩
    rw [hbg] at hTM hgoH
    clear hbg
    have kD := Lib.hid (hk1.out.oth.same D _ hKH.out rfl)
    have hD2 : n₀ + 6 ≤ D := by omega
    cases bg
    · gi_wp2_with (refine ⟨trivial, ?_⟩; gi_at_call 42; refine (callsIn_wide.2 hTM.out).mono ?_; rintro e w2 ⟨rfl, rfl⟩)
      have hb4' : Boxed (w1.setCell ⟨n₀, 0, none⟩ (.slice a1 m.fin.fs.length c1)) (n₀ + 1) 41 (.int .i64 0) := hb5.other (by omega) _
      have k5 := (KeepsOthers.setCell (w1.setCell ⟨n₀, 0, none⟩ (.slice a1 m.fin.fs.length c1)) ⟨n₀ + 1, 0, none⟩ (.int .i64 0)).same D _ ((KeepsOthers.setCell w1 ⟨n₀, 0, none⟩ (.slice a1 m.fin.fs.length c1)).same D _ kD.out rfl) rfl
      have hs := same_putObj (o' := .deferred none) k5 rfl
      have z4 : Boxed ((w1.setCell ⟨n₀, 0, none⟩ (.slice a1 m.fin.fs.length c1)).setCell ⟨n₀ + 1, 0, none⟩ (.int .i64 0)) n₀ 40 (.slice a1 m.fin.fs.length c1) := (hb4.set _).other (by omega) _
      have z5 : Boxed ((w1.setCell ⟨n₀, 0, none⟩ (.slice a1 m.fin.fs.length c1)).setCell ⟨n₀ + 1, 0, none⟩ (.int .i64 0)) (n₀ + 1) 41 (.int .i64 0) := hb4'.set _
      have q4 := Boxed.cell ((hs _ _ _ _ z4).trans z4)
      have q5 := Boxed.cell ((hs _ _ _ _ z5).trans z5)
      refine ⟨by simp, .inl ⟨_, _, rfl, run_takeDeferred k5, ?_⟩⟩
      rw [hnH.out]
      refine ⟨.tuple #[.slice a1 m.fin.fs.length c1, .int .i64 0], ?_, (((hBH.out.trans hk1.out.bel).setCell (p := ⟨n₀, 0, none⟩) (Nat.le_refl _) _).setCell (p := ⟨n₀ + 1, 0, none⟩) (by simp) _).trans (belowK_b (w := w) hnw _ D _ _ (by omega) k5 rfl rfl), .inl ⟨_, _, hgoH.out, rfl, (((FlsAt.of hM1.out).set hb4 (by decide) (by decide) _).set hb4' (by decide) (by decide) _).same hs⟩⟩
      simp [results, Try.f27, go_sem, q4, q5]
    · gi_wp2_with (refine ⟨trivial, ?_⟩; gi_at_call 42; refine (callsIn_wide.2 hTM.out).mono ?_; rintro e w2 ⟨rfl, rfl⟩)
      have hb4' : Boxed (w1.setCell ⟨n₀, 0, none⟩ (.slice none 0 0)) (n₀ + 1) 41 (.int .i64 0) := hb5.other (by omega) _
      have k5 := (KeepsOthers.setCell (w1.setCell ⟨n₀, 0, none⟩ (.slice none 0 0)) ⟨n₀ + 1, 0, none⟩ (.int .i64 66)).same D _ ((KeepsOthers.setCell w1 ⟨n₀, 0, none⟩ (.slice none 0 0)).same D _ kD.out rfl) rfl
      have hs := same_putObj (o' := .deferred none) k5 rfl
      have z4 : Boxed ((w1.setCell ⟨n₀, 0, none⟩ (.slice none 0 0)).setCell ⟨n₀ + 1, 0, none⟩ (.int .i64 66)) n₀ 40 (.slice none 0 0) := (hb4.set _).other (by omega) _
      have z5 : Boxed ((w1.setCell ⟨n₀, 0, none⟩ (.slice none 0 0)).setCell ⟨n₀ + 1, 0, none⟩ (.int .i64 66)) (n₀ + 1) 41 (.int .i64 66) := hb4'.set _
      have q4 := Boxed.cell ((hs _ _ _ _ z4).trans z4)
      have q5 := Boxed.cell ((hs _ _ _ _ z5).trans z5)
      refine ⟨by simp, .inl ⟨_, _, rfl, run_takeDeferred k5, ?_⟩⟩
      rw [hnH.out]
      refine ⟨.tuple #[.slice none 0 0, .int .i64 66], ?_, (((hBH.out.trans hk1.out.bel).setCell (p := ⟨n₀, 0, none⟩) (Nat.le_refl _) _).setCell (p := ⟨n₀ + 1, 0, none⟩) (by simp) _).trans (belowK_b (w := w) hnw _ D _ _ (by omega) k5 rfl rfl), .inr ⟨hgoH.out, rfl⟩⟩
      simp [results, Try.f27, go_sem, q4, q5]
end Go.Proofs.Ytlaidmjlgjpgcaa
