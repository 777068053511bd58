/- The list of calls that came in; a list of one's own; pairs copied; the whole state of VarsRuns. Condition: the reach. -/
import Derived.Test.YtklepnldoajghaaVarAD
import Derived.SizedLaws
import Derived.Test.YtklepnldoajghaaVarCT
import Derived.Test.YtklepnldoajghaaVarCS
namespace Go.Proofs.Ytklepnldoajghaa
section
open Go.ChangeShapes Go.WideShapes Go.RowKit Go.Deep

theorem weights_mem_all' {H : Type} {P : Program} {e : TypeId} : ∀ {ds : List (DataW H)} {d : DataW H}, d ∈ ds → ∀ n ∈ d.weights P e, n ∈ DataW.weightsAll P e ds
  | d0 :: ds, d, hd, n, hn => by
    simp only [DataW.weightsAll, List.mem_append]
    rcases List.mem_cons.1 hd with rfl | h
    · exact .inl hn
    · exact .inr (weights_mem_all' h n hn)

/-- A call's name, as data. -/
def ClNm {H : Type} (d : DataW H) (q : Cl) : Prop := ∃ e0 e1 e3 e4 e5 e6 : DataW H, d = .agg [e0, e1, .lit (.string q.name.data.toList), e3, e4, e5, e6] ∧ (q.args = [] ∨ ∃ el sp, e6 = .slice el sp ∧ el.length = q.args.length)
theorem name_reach {H : Type} {P : Program} {ts : List TypeId} {ds : List (DataW H)} (h : (DataW.weightsEach P ts ds).all (· ≤ reachBytes) = true) {j : Nat} {t e : TypeId} {f0 f1 f2 f3 f4 f5 f6 : Field} {elems spare : List (DataW H)} (ht : ts[j]? = some t) (hd : ds[j]? = some (.slice elems spare)) (hu : P.underlying t = some (.slice e))
    (he : P.underlying e = some (.struct #[f0, f1, f2, f3, f4, f5, f6])) {el : TypeId} (h6 : P.underlying f6.type = some (.slice el)) (hb : P.bytesOf el = 16) {d : DataW H} (hm : d ∈ elems) {q : Cl} (hn : ClNm d q) : q.name.size ≤ reachBytes ∧ q.args.length * 16 ≤ reachBytes := by
  obtain ⟨e0, e1, e3, e4, e5, e6, rfl, h7⟩ := hn
  have key : ∀ n, n ∈ DataW.weights P e (.agg [e0, e1, .lit (.string q.name.data.toList), e3, e4, e5, e6]) → n ≤ reachBytes := fun n hn => by
    have := List.all_eq_true.1 h _ (DataW.weights_mem_each ht hd n (by
      simp only [DataW.weights, hu]
      exact List.mem_cons_of_mem _ (List.mem_append_left _ (weights_mem_all' hm _ hn))))
    simpa using this
  constructor
  · have := key q.name.data.toList.length (by simp [DataW.weights, he, DataW.weightsEach])
    rw [Array.length_toList] at this
    exact this
  · rcases h7 with h7 | ⟨l, sp, rfl, h7⟩
    · rw [h7]
      exact Nat.zero_le _
    · have := key ((l.length + sp.length) * P.bytesOf el) (by simp [DataW.weights, he, DataW.weightsEach, h6])
      rw [hb, h7] at this
      omega

/-- A list of texts, with its data. -/
theorem open_ls2 {H : Type} {enc : TypeId × Value → H} {w : World} {spare : Nat → Bool} {held : Bool} {fuel : Nat} {v : Value} {x : DataW H × List MemPlace} (h : DataW.trod enc Try.prog w 0 spare held fuel 28 [v] = some x) :
    ∃ (a : Option Addr) (c : Nat) (K : List ByteArray), v = .slice a K.length c ∧ K.length ≤ c ∧ c ≤ maxLen ∧ LsAt w a K ∧ (∀ x ∈ K, x.size ≤ maxLen) ∧ (K = [] ∨ ∃ el sp, x.1 = .slice el sp ∧ el.length = K.length) := by
  obtain ⟨a, c, K, e, h1, h2, h3, h4⟩ := open_ls h
  refine ⟨a, c, K, e, h1, h2, h3, h4, ?_⟩
  rcases open_strings Try.underlying28 Try.underlying9 (by kernel_rfl) h with ⟨hcs, _⟩ | ⟨a', l, c', ss, hcs, _, hl, hm, hs, hx, hcell, hss⟩
  · subst e
    simp at hcs
    exact .inl hcs.2.1
  · subst e
    simp at hcs
    refine .inr ⟨_, _, by rw [hx], ?_⟩
    unfold strs
    have : l ≤ ss.length := by rw [hs]; split <;> omega
    rw [List.length_map, List.length_take]
    omega

theorem open_cls2 {H : Type} {enc : TypeId × Value → H} {w : World} {d : DataW H} {p : List MemPlace} {A : Option Addr} {len cap : Nat}
    (h : DataW.Trod enc Try.prog w 0 (fun _ => true) true 22 (.slice A len cap) d p) : (∃ Q : List Cl, Q.length = len ∧ ClsAt w A Q ∧ (Q = [] ∨ ∃ elems spare, d = .slice elems spare ∧ ∀ q ∈ Q, ∃ e ∈ elems, ClNm e q)) ∧ len ≤ maxLen := by
  obtain ⟨fuel, hf⟩ := h
  rcases open_slice Try.underlying22 hf with ⟨hcs, _⟩ | ⟨a, l, c, m, n, D, Pl, hcs, _, hl, hm, hmm, hx, hi⟩
  · simp [Value.cells] at hcs
    obtain ⟨rfl, rfl, rfl⟩ := hcs
    exact ⟨⟨[], rfl, fun i q hq => by simp at hq, .inl rfl⟩, by omega⟩
  · simp [Value.cells] at hcs
    obtain ⟨rfl, rfl, rfl⟩ := hcs
    simp only [if_true] at hmm
    subst hmm
    have hC : Try.prog.cellsOf 34 = 7 := by kernel_rfl
    have k3 : Try.prog.cellsOf 3 = 1 := by kernel_rfl
    have k4 : Try.prog.cellsOf 4 = 1 := by kernel_rfl
    have k9 : Try.prog.cellsOf 9 = 1 := by kernel_rfl
    have k28 : Try.prog.cellsOf 28 = 1 := by kernel_rfl
    simp only [hC] at hi
    have hex : ∀ i, ∃ q : Cl, i < len → ClAt w (some a) i q ∧ ClNm (D i) q := fun i => by
      by_cases hil : i < len
      · have hsp : a.spot = none := by
          obtain ⟨cs', hc, _⟩ := hi 0 (by omega)
          obtain ⟨_, hcl, hat⟩ := World.cells?_some hc
          obtain ⟨x0, x1, x2, x3, x4, x5, x6, rfl⟩ := seven hcl
          have := World.cell?_spot (hat 0 (by omega))
          simpa [Addr.add] using this
        obtain ⟨cs', hc, ht⟩ := hi i (by omega)
        obtain ⟨_, hcl, hat⟩ := World.cells?_some hc
        obtain ⟨x0, x1, x2, x3, x4, x5, x6, rfl⟩ := seven hcl
        obtain ⟨xs, n', _, hxe, _, hxl, hg⟩ := DataW.trod_struct Try.underlying34 ht
        obtain ⟨y0, y1, y2, y3, y4, y5, y6, rfl⟩ := seven hxl
        have g0 : DataW.trod enc Try.prog w 0 (fun _ => true) true n' 3 ((([x0, x1, x2, x3, x4, x5, x6] : List Value).drop 0).take (Try.prog.cellsOf 3)) = some y0 := hg 0 _ rfl
        have g1 : DataW.trod enc Try.prog w 0 (fun _ => true) true n' 3 ((([x0, x1, x2, x3, x4, x5, x6] : List Value).drop 1).take (Try.prog.cellsOf 3)) = some y1 := hg 1 _ rfl
        have g2 : DataW.trod enc Try.prog w 0 (fun _ => true) true n' 9 ((([x0, x1, x2, x3, x4, x5, x6] : List Value).drop 2).take (Try.prog.cellsOf 9)) = some y2 := hg 2 _ rfl
        have g3 : DataW.trod enc Try.prog w 0 (fun _ => true) true n' 9 ((([x0, x1, x2, x3, x4, x5, x6] : List Value).drop 3).take (Try.prog.cellsOf 9)) = some y3 := hg 3 _ rfl
        have g4 : DataW.trod enc Try.prog w 0 (fun _ => true) true n' 4 ((([x0, x1, x2, x3, x4, x5, x6] : List Value).drop 4).take (Try.prog.cellsOf 4)) = some y4 := hg 4 _ rfl
        have g5 : DataW.trod enc Try.prog w 0 (fun _ => true) true n' 4 ((([x0, x1, x2, x3, x4, x5, x6] : List Value).drop 5).take (Try.prog.cellsOf 4)) = some y5 := hg 5 _ rfl
        have g6 : DataW.trod enc Try.prog w 0 (fun _ => true) true n' 28 ((([x0, x1, x2, x3, x4, x5, x6] : List Value).drop 6).take (Try.prog.cellsOf 28)) = some y6 := hg 6 _ rfl
        rw [k3] at g0 g1
        rw [k9] at g2 g3
        rw [k4] at g4 g5
        rw [k28] at g6
        obtain ⟨c0, e0, _, _⟩ := DataW.trod_int Try.underlying3 g0
        obtain ⟨c1, e1, _, hwf⟩ := DataW.trod_int Try.underlying3 g1
        obtain ⟨s2, e2, hy2, hs2⟩ := DataW.trod_string Try.underlying9 g2
        obtain ⟨s3, e3, _, hs3⟩ := DataW.trod_string Try.underlying9 g3
        obtain ⟨b4, e4, _⟩ := DataW.trod_bool Try.underlying4 g4
        obtain ⟨b5, e5, _⟩ := DataW.trod_bool Try.underlying4 g5
        simp only [List.drop_zero, List.drop_succ_cons, List.take_succ_cons, List.take_zero, List.cons.injEq, and_true] at e0 e1 e2 e3 e4 e5 g6
        subst e0 e1 e2 e3 e4 e5
        obtain ⟨a6, cc, K, rfl, hKc, hcm, hK, hKs, hK6⟩ := open_ls2 g6
        have z0 := hat 0 (by omega)
        have z1 := hat 1 (by omega)
        have z2 := hat 2 (by omega)
        have z3 := hat 3 (by omega)
        have z4 := hat 4 (by omega)
        have z5 := hat 5 (by omega)
        have z6 := hat 6 (by omega)
        obtain ⟨b, o, sp⟩ := a
        obtain rfl : sp = none := hsp
        simp only [Addr.add_lit] at z0 z1 z2 z3 z4 z5 z6
        refine ⟨⟨c0, c1, s2, s3, b4, b5, K⟩, fun _ => ⟨⟨b, o, a6, cc, rfl, block_of_cell z0, z0, z1, z2, z3, z4, z5, z6, hKc, hK, bounds_i64 hwf, hs2, hs3, hcm, hKs⟩, y0.1, y1.1, y3.1, y4.1, y5.1, y6.1, by subst hy2; exact (Prod.mk.inj hxe).1, hK6⟩⟩
      · exact ⟨⟨0, 0, ByteArray.empty, ByteArray.empty, false, false, []⟩, fun h => absurd h hil⟩
    refine ⟨⟨(List.range len).map fun i => Classical.choose (hex i), by simp, fun i q hq => ?_, .inr ⟨_, _, (Prod.mk.inj hx).1, fun q hq => ?_⟩⟩, by omega⟩
    · have hil : i < len := by have := (List.getElem?_eq_some_iff.1 hq).1; simpa using this
      have hspec := (Classical.choose_spec (hex i) hil).1
      rw [List.getElem?_map, List.getElem?_range hil] at hq
      have hqe : Classical.choose (hex i) = q := by simpa using hq
      rw [hqe] at hspec
      exact hspec
    · obtain ⟨i, hi, rfl⟩ := List.mem_map.1 hq
      have hil := List.mem_range.1 hi
      exact ⟨D i, List.mem_map.2 ⟨i, List.mem_range.2 hil, rfl⟩, (Classical.choose_spec (hex i) hil).2⟩

/-- The opener's words, with the reach. -/
theorem open_cls3 {H : Type} {enc : TypeId × Value → H} {w : World} {d : DataW H} {p : List MemPlace} {A : Option Addr} {len cap : Nat} {ts : List TypeId} {ds : List (DataW H)} (hz : (DataW.weightsEach Try.prog ts ds).all (· ≤ reachBytes) = true) {j : Nat} (ht : ts[j]? = some 22) (hd : ds[j]? = some d)
    (h : DataW.Trod enc Try.prog w 0 (fun _ => true) true 22 (.slice A len cap) d p) : (∃ Q : List Cl, Q.length = len ∧ ClsAt w A Q ∧ ∀ q ∈ Q, q.name.size ≤ 140737488355328 ∧ q.args.length * 16 ≤ 140737488355328) ∧ len ≤ maxLen := by
  obtain ⟨⟨Q, h1, h2, h3⟩, h4⟩ := open_cls2 h
  refine ⟨⟨Q, h1, h2, fun q hq => ?_⟩, h4⟩
  rcases h3 with rfl | ⟨elems, spare, rfl, h3⟩
  · cases hq
  · obtain ⟨e, he, hn⟩ := h3 q hq
    have := name_reach hz ht hd Try.underlying22 Try.underlying34 Try.underlying28 (by kernel_rfl) he hn
    unfold reachBytes at this
    omega
end

section
open Go.RowKit Go.PlainAid

theorem wpList_app63 {P : Program} {ops : Array Oper} {rest : List Oper} {o : Oper} {a : Act} {w : World} {Q : Exit → Act → World → Prop} (hgd : o.guard = none) (s x : Operand) (t : TypeId)
    (ho : o.op = .call { callee := .builtin .append, args := #[s, x], argTypes := #[t, t] })
    (base : Nat) (e : TypeId) (i : TypeInfo) (z : Value) (size bytes : Nat) (ht : P.underlying t = some (.slice e)) (hi : P.info? e = some i) (hz : i.zero = some z)
    (hsize : i.size = size) (hby : i.bytes = bytes) (hzs : z.cells.size = size) (hsz : 0 < size)
    (v : Value) (n : Nat) (xs : List Value) (hs : a.eval s = v) (hown : w.ownsRow base e size v n xs) (A : Option Addr) (m c : Nat) (news : List Value) (hx : a.eval x = .slice A m c) (hl : news.length = m * size) (hnews : Src w A news) (h1 : ∀ u ∈ news, u.oneCell' = true)
    (h63 : n + m ≤ maxLen) (hbytes : (n + m) * bytes ≤ 140737488355328) (hbase : base ≤ w.heap.size)
    (h : ∀ a' c' w', w'.ownsRow base e size (.slice a' (n + m) c') (n + m) (xs ++ news) → w.grownBy w' v.ownBlock → ((Value.slice a' (n + m) c').ownBlock = v.ownBlock ∨ (Value.slice a' (n + m) c').ownBlock = some w.heap.size) → wpList P ops Q rest (a.put o.dst (.slice a' (n + m) c')) w') :
    wpList P ops Q (o :: rest) a w := by
  by_cases h0 : n + m ≤ 100000
  · exact wpList_app hgd s x t ho base e i z size bytes ht hi hz hsize hby hzs hsz v n xs hs hown A m c news hx hl hnews h1 h0 hbytes hbase h
  · refine wpList_plain hgd fun K hK => ?_
    have hrun : ∃ a' c' w', (Builtin.append_ #[t, t] o.type #[v, .slice A m c]).run P w = .ok (.slice a' (n + m) c') w' ∧ w'.ownsRow base e size (.slice a' (n + m) c') (n + m) (xs ++ news) ∧ w.grownBy w' v.ownBlock ∧
        ((Value.slice a' (n + m) c').ownBlock = v.ownBlock ∨ (Value.slice a' (n + m) c').ownBlock = some w.heap.size) := by
      cases A with
      | some ad =>
        obtain ⟨v', w', hr, h2, h3, _, h5⟩ := run_append_own_at (P := P) w base t o.type e i z size bytes ht hi hz hsize hby hzs hsz v n xs hown ad m c news hl (fun j u hj => by
          obtain ⟨ad', e', h⟩ := hnews j u hj
          obtain rfl : ad = ad' := Option.some.inj e'
          exact h) h1 h63 hbytes hbase
        obtain ⟨a', c', rfl⟩ := ownsRow_slice h2
        exact ⟨a', c', w', hr, h2, h3, h5⟩
      | none =>
        have hn : news = [] := by
          cases news with
          | nil => rfl
          | cons u l => obtain ⟨ad, e', _⟩ := hnews 0 u rfl; cases e'
        subst hn
        obtain rfl : m = 0 := by
          rcases Nat.eq_zero_or_pos m with h | h
          · exact h
          · have := Nat.mul_pos h hsz
            simp at hl
            omega
        obtain ⟨a', c', rfl⟩ := ownsRow_slice hown
        have hcap : n ≤ c' := by
          rcases hown.2 with ⟨e', rfl⟩ | ⟨g, cap, cur, e', _, _, hc, _⟩
          · omega
          · obtain ⟨_, rfl⟩ := by simpa using e'
            exact hc
        refine ⟨a', c', w, ?_, by simpa using hown, ⟨rfl, rfl, rfl, Nat.le_refl _, fun _ _ _ => rfl⟩, .inl rfl⟩
        have hiS : (sizeOf e).run P w = .ok size w := by simp [sizeOf, typeInfo, hi, hsize]
        cases a' <;> simp [Builtin.append_, run_underlying ht, hiS, Builtin.lenOf, Builtin.firstCells, hcap, storeCells]
    obtain ⟨a', c', w', hr, h2, h3, h4⟩ := hrun
    unfold Oper.wp execOp
    simp only [ho, resolve, invoke, builtin, Sem.run_bind, Sem.run_pure, Result.andThen_ok, List.map_toArray, List.map_cons, List.map_nil, hs, hx, hr]
    exact hK _ _ (h a' c' w' h2 h3 h4)

theorem src_ls {w : World} {a : Option Addr} {K : List ByteArray} (h : LsAt w a K) : Src w a (flat kcs K) := fun j u hj => by
  rw [flat_kcs, List.getElem?_map] at hj
  cases hk : K[j]? with
  | none => rw [hk] at hj; cases hj
  | some x =>
    rw [hk] at hj
    obtain ⟨b, off, e, _, hc⟩ := h j x hk
    refine ⟨_, e, ?_⟩
    rw [Addr.add_lit]
    exact hc.trans hj

/-- A list of one's own, apart from the pair. -/
def CurI (n₁ : Nat) (w : World) (p q : Nat) (L : Vl) (A : List ByteArray) (L2 : Vl) (A2 : List ByteArray) (m : Nat) (cs : Array Value) (iv : Value) (K : List ByteArray) : Prop :=
  ∃ kv vv av lv aw, Cur n₁ w p q L A L2 A2 m cs kv vv av lv aw ∧ w.ownsRow n₁ 9 1 iv K.length (flat kcs K) ∧ ∀ g, iv.ownBlock = some g → kv.ownBlock ≠ some g ∧ av.ownBlock ≠ some g ∧ aw.ownBlock ≠ some g
def stE (K : List ByteArray) : Int := if 200 < K.length then 66 else 0
def stA (A K : List ByteArray) : List ByteArray := if 200 < K.length then A else K

section
variable {n₀ n₁ p q m : Nat} {L L2 : Vl} {A A2 K : List ByteArray} {cs : Array Value} {iv : Value} {w w' : World}
theorem CurI.e (h : CurI n₁ w p q L A L2 A2 m cs iv K) : CurE n₁ w p q L A L2 A2 m cs := by
  obtain ⟨kv, vv, av, lv, aw, h, _⟩ := h
  exact ⟨_, _, _, _, _, h⟩
theorem CurE.made (h : CurE n₁ w p q L A L2 A2 m cs) (hb : Below w.heap.size w w') (hr : w'.ownsRow w.heap.size 9 1 iv K.length (flat kcs K)) : CurI n₁ w' p q L A L2 A2 m cs iv K ∧ Below n₁ w w' := by
  obtain ⟨kv, vv, av, lv, aw, h⟩ := h
  refine ⟨⟨_, _, _, _, _, h.below hb, row_weak hr h.base, fun g hg => ?_⟩, hb.mono h.base⟩
  have hge := (hr.lt g hg).1
  refine ⟨fun e => ?_, fun e => ?_, fun e => ?_⟩
  · have := row_lt h.v.keys e; omega
  · have := row_lt h.v.args e; omega
  · have := blk_at (h.alt g e); omega

theorem curI_setArgs (h : CurI n₁ w p q L A L2 A2 m cs iv K) (hK : K.length ≤ maxLen) : Calls Try.prog 16 #[.pointer (some ⟨p, 0, none⟩), iv] w fun e w' => e = .returned (.int .i64 (stE K)) ∧ CurI n₁ w' p q L (stA A K) L2 A2 m cs iv K ∧ Below n₁ w w' := by
  by_cases hk : 200 < K.length
  · unfold stE stA
    rw [if_pos hk, if_pos hk]
    have h' := h
    obtain ⟨kv, vv, av, lv, aw, _, hr, _⟩ := h
    obtain ⟨a, c, rfl⟩ := ownsRow_slice hr
    exact (setArgs_big w hk hK).mono fun e w' ⟨he, hE⟩ => ⟨he, by rw [hE]; exact h', by rw [hE]; exact Below.refl _ _⟩
  · unfold stE stA
    rw [if_neg hk, if_neg hk]
    obtain ⟨kv, vv, av, lv, aw, h, hr, hd⟩ := h
    refine (setArgs_any w h.v h.base (.of_row hr) (by omega)).mono fun e w' ⟨he, av', h1, h2, h3⟩ => ⟨he, ?_⟩
    have hrow : w'.ownsRow n₁ 9 1 iv K.length (flat kcs K) := row_keep hr (fun g hg => h2.block g (row_lt hr hg) (fun e => by subst e; exact row_off h.v.blk (by decide) hr hg.symm) (fun e => by cases e) (fun e => by cases e))
    obtain ⟨kv1, vv1, av1, lv1, aw1, h4⟩ := (h.turned (.inr rfl) (.inr rfl) h1 h2 (fun _ h => .inl h) (fun _ h => .inl h)).1
    have hb := (h.turned (.inr rfl) (.inr rfl) h1 h2 (fun _ h => .inl h) (fun _ h => .inl h)).2
    have e0 : kv1 = kv := by have a := h4.v.blk.cell 0; have b := h1.blk.cell 0; rw [a] at b; exact Option.some.inj b
    have e2 : av1 = av' := by have a := h4.v.blk.cell 2; have b := h1.blk.cell 2; rw [a] at b; exact Option.some.inj b
    have hq : w'.heap[q]? = w.heap[q]? := h2.block q h.r.blk.lt (blk_ne h.r.blk h.v.blk (by decide)) (fun e => by cases e) (fun e => by cases e)
    have hq' : Blk w' q 30 _ := hq.trans h.r.blk
    have e4 : aw1 = aw := by have a := h4.r.blk.cell 1; have b := hq'.cell 1; rw [a] at b; exact Option.some.inj b
    subst e0 e2 e4
    exact ⟨⟨_, _, _, _, _, h4, hrow, fun g hg => ⟨(hd g hg).1, fun e => by have := h3 g e; have := row_lt hr hg; omega, (hd g hg).2.2⟩⟩, hb⟩

theorem curI_setArgsR {a : Option Addr} {c : Nat} (h : CurI n₁ w p q L A L2 A2 m cs iv K) (hK : K.length ≤ maxLen) (hs : Src w a (flat kcs K)) : Calls Try.prog 17 #[.pointer (some ⟨q, 0, none⟩), .slice a K.length c] w fun e w' => e = .returned (.int .i64 (stE K)) ∧ CurI n₁ w' p q L A L2 (stA A2 K) m cs iv K ∧ Below n₁ w w' := by
  by_cases hk : 200 < K.length
  · unfold stE stA
    rw [if_pos hk, if_pos hk]
    exact (setArgsR_big w hk hK).mono fun e w' ⟨he, hE⟩ => ⟨he, by rw [hE]; exact h, by rw [hE]; exact Below.refl _ _⟩
  · unfold stE stA
    rw [if_neg hk, if_neg hk]
    obtain ⟨kv, vv, av, lv, aw, h, hr, hd⟩ := h
    refine (setArgsR_any w h.r h.base (by omega) hs).mono fun e w' ⟨he, hE⟩ => ⟨he, ?_⟩
    have h6 := h.rends hE
    obtain ⟨lv', aw', h1, h2, h3⟩ := hE
    have hrow : w'.ownsRow n₁ 9 1 iv K.length (flat kcs K) := row_keep hr (fun g hg => h2.block g (row_lt hr hg) (fun e => by subst e; exact row_off h.r.blk (by decide) hr hg.symm))
    obtain ⟨⟨kv1, vv1, av1, lv1, aw1, h4⟩, hb⟩ := h6
    have hp : w'.heap[p]? = w.heap[p]? := h2.block p h.v.blk.lt (blk_ne h.v.blk h.r.blk (by decide))
    have hp' : Blk w' p 65 _ := hp.trans h.v.blk
    have e0 : kv1 = kv := by have a := h4.v.blk.cell 0; have b := hp'.cell 0; rw [a] at b; exact Option.some.inj b
    have e2 : av1 = av := by have a := h4.v.blk.cell 2; have b := hp'.cell 2; rw [a] at b; exact Option.some.inj b
    have e4 : aw1 = aw' := by have a := h4.r.blk.cell 1; have b := h1.blk.cell 1; rw [a] at b; exact Option.some.inj b
    subst e0 e2 e4
    refine ⟨⟨_, _, _, _, _, h4, hrow, fun g hg => ⟨(hd g hg).1, (hd g hg).2.1, fun e => ?_⟩⟩, hb⟩
    rcases h3 h.r.blk.lt g e with ⟨u, hu, hug⟩ | e
    · have : w.cell? ⟨q, 1, none⟩ = some aw := h.r.blk.cell 1
      rw [hu] at this
      obtain rfl := Option.some.inj this
      exact (hd g hg).2.2 hug
    · have := row_lt hr hg; omega

/-- A text of one's own list is changed. -/
theorem CurI.poke {g n c k : Nat} (h : CurI n₁ w p q L A L2 A2 m cs (.slice (some ⟨g, 0, none⟩) n c) K) (hk : k < K.length) (s : ByteArray) :
    (∃ u, w.cell? ⟨g, k, none⟩ = some (.string u)) ∧ w.frozen? ⟨g, k, none⟩ = false ∧ (∃ K', K'.length = K.length ∧ CurI n₁ (w.setCell ⟨g, k, none⟩ (.string s)) p q L A L2 A2 m cs (.slice (some ⟨g, 0, none⟩) n c) K') ∧ Below n₁ w (w.setCell ⟨g, k, none⟩ (.string s)) := by
  obtain ⟨kv, vv, av, lv, aw, h, hr, hd⟩ := h
  obtain ⟨h1, h2, h3⟩ := hd g rfl
  have hrl := hr.1
  rcases hr.2 with ⟨e, _⟩ | ⟨g', cap, cur, e, hbg, hg, hnc, hcm, hcs, htk⟩
  · cases e
  · obtain ⟨rfl, rfl, rfl⟩ : g = g' ∧ n = K.length ∧ c = cap := by simpa using e
    have hB : Blk w g 9 cur := hg
    have hlt : k < cur.size := by rw [hcs]; omega
    have hx : cur[k]? = some (.string K[k]) := by
      have : (cur.toList.take (K.length * 1))[k]? = some (Value.string K[k]) := by
        rw [htk, flat_kcs, List.getElem?_map, List.getElem?_eq_getElem hk]; rfl
      rw [List.getElem?_take_of_lt (by omega), Array.getElem?_toList] at this
      exact this
    have hfar : ∀ i, i ≠ g → (w.setCell ⟨g, k, none⟩ (.string s)).heap[i]? = w.heap[i]? := fun i hi => Below.heap_setCell _ _ _ i hi
    have row : ∀ {e : TypeId} {sz n : Nat} {v : Value} {xs : List Value}, w.ownsRow n₁ e sz v n xs → v.ownBlock ≠ some g → (w.setCell ⟨g, k, none⟩ (.string s)).ownsRow n₁ e sz v n xs := fun hr hne => row_keep hr (fun i hi => hfar i (fun e => hne (by rw [← e]; exact hi)))
    have hsz : (w.setCell ⟨g, k, none⟩ (.string s)).heap.size = w.heap.size := by simp [World.setCell]
    refine ⟨⟨_, (hB.cell k).trans hx⟩, hB.frozen k, ⟨K.set k s, List.length_set .., kv, vv, av, lv, aw, ⟨h.v.keep (hfar p (blk_ne h.v.blk hB (by decide))) (fun i hi => hfar i (fun e => h1 (by rw [← e]; exact hi))) (fun i hi => hfar i (fun e => by subst e; exact row_off hB (by decide) h.v.vals hi.symm)) (fun i hi => hfar i (fun e => h2 (by rw [← e]; exact hi))),
      h.r.keep (hfar q (blk_ne h.r.blk hB (by decide))) (fun i hi => hfar i (fun e => by subst e; exact row_off hB (by decide) h.r.list hi.symm)) (fun i hi => hfar i (fun e => h3 (by rw [← e]; exact hi))), h.apart, fun i hi => ?_, (hfar m (blk_ne h.blk hB (by decide))).trans h.blk, by rw [hsz]; exact h.base⟩, ?_, hd⟩, (Below.refl _ _).setCell (p := ⟨g, k, none⟩) hbg _⟩
    · obtain ⟨c, hc⟩ := h.alt i hi
      exact ⟨c, (hfar i (fun e => h3 (by rw [← e]; exact hi))).trans hc⟩
    · have hset : flat kcs (K.set k s) = (flat kcs K).set k (.string s) := by rw [flat_kcs, flat_kcs, List.map_set]
      refine ⟨by rw [hset, List.length_set, List.length_set]; exact hrl, .inr ⟨g, c, cur.setIfInBounds k (.string s), by rw [List.length_set], hbg, hB.set_ k _, by rw [List.length_set]; exact hnc, hcm, by rw [Array.size_setIfInBounds]; exact hcs, ?_⟩⟩
      rw [List.length_set, Array.toList_setIfInBounds, hset, ← htk, List.take_set]
end

section
variable {n₀ n₁ k p q m : Nat} {L : Vl} {A : List ByteArray} {cs : Array Value} {ov wv : Value} {X : List (Nat × Nat)} {w w1 w2 : World}
/-- A pair is laid aside, its pointers put into the rows. -/
theorem Olds.push {a1 a2 : Option Addr} {c1 c2 : Nat} (h : Olds n₀ n₁ w ov wv X) (hX : X.length < 4) (hO : OldL n₀ k w p q L A) (hk : k ≤ w.heap.size) (hn1 : n₁ ≤ w.heap.size) (hn0 : n₀ ≤ n₁) (hm : Blk w m 34 cs)
    (r1 : w1.ownsRow n₀ 24 1 (.slice a1 (X.length + 1) c1) (X.length + 1) (flat pcs (X.map (·.1)) ++ pcs p)) (g1 : (w.alloc (.cells #[.pointer (some ⟨p, 0, none⟩)] 24)).grownBy w1 ov.ownBlock)
    (r2 : w2.ownsRow n₀ 26 1 (.slice a2 (X.length + 1) c2) (X.length + 1) (flat pcs (X.map (·.2)) ++ pcs q)) (g2 : (w1.alloc (.cells #[.pointer (some ⟨q, 0, none⟩)] 26)).grownBy w2 wv.ownBlock) :
    Olds n₀ w2.heap.size w2 (.slice a1 (X.length + 1) c1) (.slice a2 (X.length + 1) c2) (X ++ [(p, q)]) ∧ OldL n₀ w2.heap.size w2 p q L A ∧ Blk w2 m 34 cs ∧ Below n₀ w w2 ∧ w.heap.size ≤ w2.heap.size := by
  have bA : Below w.heap.size w (w.alloc (.cells #[.pointer (some ⟨p, 0, none⟩)] 24)) := (Below.refl _ _).alloc (Nat.le_refl _) _
  have bB : Below w1.heap.size w1 (w1.alloc (.cells #[.pointer (some ⟨q, 0, none⟩)] 26)) := (Below.refl _ _).alloc (Nat.le_refl _) _
  have s1 : w.heap.size ≤ w1.heap.size := Nat.le_trans bA.size g1.size
  have s2 : w1.heap.size ≤ w2.heap.size := Nat.le_trans bB.size g2.size
  have oA : (w.alloc (.cells #[.pointer (some ⟨p, 0, none⟩)] 24)).ownsRow n₀ 24 1 ov X.length (flat pcs (X.map (·.1))) := h.o.alloc _
  have rA : (w.alloc (.cells #[.pointer (some ⟨p, 0, none⟩)] 24)).ownsRow n₀ 26 1 wv X.length (flat pcs (X.map (·.2))) := h.r.alloc _
  have rB : (w1.alloc (.cells #[.pointer (some ⟨q, 0, none⟩)] 26)).ownsRow n₀ 26 1 wv X.length (flat pcs (X.map (·.2))) := (row_grown rA oA (by decide) g1).alloc _
  have r1' := row_grown (r1.alloc (.cells #[.pointer (some ⟨q, 0, none⟩)] 26)) rB (by decide) g2
  have hO2 : OldL n₀ k w2 p q L A := (((hO.below (bA.mono hk)).grown oA (.inl rfl) g1).below (bB.mono (by omega))).grown rB (.inr rfl) g2
  have hm1 : Blk w1 m 34 cs := (g1.block m (by rw [World.size_alloc]; have := hm.lt; omega) (row_off (hm.alloc _) (by decide) oA)).trans (hm.alloc _)
  have hm2 : Blk w2 m 34 cs := (g2.block m (by rw [World.size_alloc]; have := hm1.lt; omega) (row_off (hm1.alloc _) (by decide) rB)).trans (hm1.alloc _)
  have bel1 : Below n₀ w w1 := (bA.mono (by omega)).trans ⟨g1.os, g1.tape, g1.output, g1.size, fun i hi => g1.block i (by rw [World.size_alloc]; omega) (fun e => by have := (h.o.lt i e.symm).1; omega)⟩
  have bel2 : Below n₀ w w2 := (bel1.trans (bB.mono (by omega))).trans ⟨g2.os, g2.tape, g2.output, g2.size, fun i hi => g2.block i (by rw [World.size_alloc]; omega) (fun e => by have := (rB.lt i e.symm).1; omega)⟩
  refine ⟨⟨?_, ?_, fun g hg => (r1'.lt g hg).2, fun g hg => (r2.lt g hg).2, fun x hx => ?_, by rw [List.length_append]; simp; omega⟩, hO2.up (by omega), hm2, bel2, by omega⟩
  · rw [List.map_append, flat_append, List.length_append]
    exact r1'
  · rw [List.map_append, flat_append, List.length_append]
    exact r2
  · rcases List.mem_append.1 hx with hx | hx
    · exact ((((h.all x hx).below (bA.mono hn1)).grown oA (.inl rfl) g1).below (bB.mono (by omega))).grown rB (.inr rfl) g2 |>.up (by omega)
    · obtain rfl : x = (p, q) := by simpa using hx
      exact ⟨L, A, hO2.up (by omega)⟩

theorem copy_old (h : OldL n₀ k w p q L A) : Calls Try.prog 20 #[.pointer (some ⟨p, 0, none⟩)] w fun e w' => ∃ p', e = .returned (.pointer (some ⟨p', 0, none⟩)) ∧ (∃ kv vv av, VarsAt w.heap.size w' p' L A kv vv av) ∧ Below w.heap.size w w' := by
  obtain ⟨kv, vv, av, lv, aw, h⟩ := h
  exact (Copy_any w h.v).mono fun e w' ⟨p', kv', vv', av', he, _, h1, h2⟩ => ⟨p', he, ⟨_, _, _, h1⟩, h2⟩
theorem copyR_old (h : OldL n₀ k w p q L A) : Calls Try.prog 21 #[.pointer (some ⟨q, 0, none⟩)] w fun e w' => ∃ q', e = .returned (.pointer (some ⟨q', 0, none⟩)) ∧ (∃ lv aw, RefAt w.heap.size w' q' L A lv aw ∧ ∀ g, aw.ownBlock = some g → w.heap.size ≤ g ∧ ∃ cs, Blk w' g 9 cs) ∧ Below w.heap.size w w' := by
  obtain ⟨kv, vv, av, lv, aw, h⟩ := h
  exact (copyR_any w h.r).mono fun e w' ⟨p', lv', av', he, _, h1, h2, h3⟩ => ⟨p', he, ⟨_, _, h1, h3⟩, h2⟩
theorem cur_copied {w0 : World} (hv : ∃ kv vv av, VarsAt w0.heap.size w1 p L A kv vv av) (hr : ∃ lv aw, RefAt w1.heap.size w2 q L A lv aw ∧ ∀ g, aw.ownBlock = some g → w1.heap.size ≤ g ∧ ∃ cs, Blk w2 g 9 cs) (h1 : Below w0.heap.size w0 w1) (h2 : Below w1.heap.size w1 w2) (hm : Blk w0 m 34 cs) : CurE w0.heap.size w2 p q L A L A m cs := by
  obtain ⟨kv, vv, av, hv⟩ := hv
  obtain ⟨lv, aw, hr, ha⟩ := hr
  have s1 := h1.size
  have s2 := h2.size
  refine ⟨kv, vv, av, lv, aw, hv.beneath h2, ⟨hr.blk, by have := hr.base; omega, row_weak hr.list s1, hr.args, fun g hg hA => by have := hr.abase g hg hA; omega, hr.srt, hr.len, hr.alen⟩, fun g hg => ⟨fun e => ?_, fun e => ?_, fun e => ?_⟩, fun g hg => (ha g hg).2, blk_beneath (blk_beneath hm h1) h2, by omega⟩
  · have := row_lt hv.keys e; have := (ha g hg).1; omega
  · have := row_lt hv.vals e; have := (ha g hg).1; omega
  · have := hv.blk.lt; have := (ha g hg).1; omega

theorem Szs.sum {L : Vl} (h : Szs L) : ∀ x ∈ L, x.1.size + x.2.val.size ≤ 4611686018427387904 := fun x hx => by
  obtain ⟨h1, h2⟩ := h x hx
  omega
theorem cur_same (h : CurE n₁ w p q L A L A m cs) (hz : Szs L) : Calls Try.prog 24 #[.pointer (some ⟨p, 0, none⟩), .pointer (some ⟨q, 0, none⟩)] w fun e w' => e = .returned (.bool true) ∧ CurE n₁ w' p q L A L A m cs ∧ Below n₁ w w' := by
  have h' := h
  obtain ⟨kv, vv, av, lv, aw, h⟩ := h
  exact (same_any w h.v h.r hz.sum).mono fun e w' ⟨he, hB⟩ => ⟨he, h'.below hB⟩
theorem old_same {x : Nat × Nat} (h : Old n₀ n₁ w x) : Calls Try.prog 24 #[.pointer (some ⟨x.1, 0, none⟩), .pointer (some ⟨x.2, 0, none⟩)] w fun e w' => e = .returned (.bool true) ∧ Below w.heap.size w w' := by
  obtain ⟨L, A, kv, vv, av, lv, aw, h⟩ := h
  exact same_any w h.v h.r h.szs.sum
end
end

section
open Go.RowKit Go.PlainAid

/-- The pair between two calls. -/
def CurZ (n₁ : Nat) (w : World) (p q : Nat) (L : Vl) (A : List ByteArray) : Prop :=
  ∃ kv vv av lv aw, VarsAt n₁ w p L A kv vv av ∧ RefAt n₁ w q L A lv aw ∧ (∀ g, aw.ownBlock = some g → kv.ownBlock ≠ some g ∧ vv.ownBlock ≠ some g ∧ g ≠ p) ∧ (∀ g, aw.ownBlock = some g → ∃ cs, Blk w g 9 cs) ∧ n₁ ≤ w.heap.size
theorem CurZ.call {n₁ p q : Nat} {L : Vl} {A : List ByteArray} {w : World} (h : CurZ n₁ w p q L A) (cs : Array Value) : CurE n₁ (w.alloc (.cells cs 34)) p q L A L A w.heap.size cs := by
  obtain ⟨kv, vv, av, lv, aw, h1, h2, h3, h4, h5⟩ := h
  have hb : Below w.heap.size w (w.alloc (.cells cs 34)) := (Below.refl _ _).alloc (Nat.le_refl _) _
  exact ⟨kv, vv, av, lv, aw, h1.beneath hb, h2.beneath hb, h3, fun g hg => by obtain ⟨c, hc⟩ := h4 g hg; exact ⟨c, blk_beneath hc hb⟩, Blk.new w 34 cs, by rw [World.size_alloc]; omega⟩
theorem CurE.z {n₁ p q m : Nat} {L : Vl} {A : List ByteArray} {cs : Array Value} {w : World} (h : CurE n₁ w p q L A L A m cs) : CurZ n₁ w p q L A := by
  obtain ⟨kv, vv, av, lv, aw, h⟩ := h
  exact ⟨kv, vv, av, lv, aw, h.v, h.r, h.apart, h.alt, h.base⟩
theorem cur_new {n₁ p : Nat} {w : World} (h : VarsAt n₁ w p [] [] (.slice none 0 0) (.slice none 0 0) (.slice none 0 0)) (hn : n₁ ≤ w.heap.size) : CurZ n₁ (w.alloc (.cells #[.slice none 0 0, .slice none 0 0] 30)) p w.heap.size [] [] := by
  have hb : Below w.heap.size w (w.alloc (.cells #[.slice none 0 0, .slice none 0 0] 30)) := (Below.refl _ _).alloc (Nat.le_refl _) _
  exact ⟨_, _, _, _, _, h.beneath hb, ⟨Blk.new w 30 _, hn, World.ownsRow_nil _ _ _ _, .inl ⟨rfl, rfl⟩, fun g hg => (by cases hg), h.srt, h.len, h.alen⟩, fun g hg => (by cases hg), fun g hg => (by cases hg), by rw [World.size_alloc]; omega⟩

structure Inv (n₀ n₁ : Nat) (w0 w : World) (p q : Nat) (L : Vl) (A : List ByteArray) (ov wv : Value) (X : List (Nat × Nat)) : Prop where
  z : CurZ n₁ w p q L A
  o : Olds n₀ n₁ w ov wv X
  s : Szs L
  b : Below n₀ w0 w
  n : n₀ ≤ n₁
structure InvC (n₀ n₁ : Nat) (w0 w : World) (p q : Nat) (L : Vl) (A : List ByteArray) (L2 : Vl) (A2 : List ByteArray) (ov wv : Value) (X : List (Nat × Nat)) (m : Nat) (cs : Array Value) : Prop where
  c : CurE n₁ w p q L A L2 A2 m cs
  o : Olds n₀ n₁ w ov wv X
  b : Below n₀ w0 w
  n : n₀ ≤ n₁
structure InvI (n₀ n₁ : Nat) (w0 w : World) (p q : Nat) (L : Vl) (A : List ByteArray) (L2 : Vl) (A2 : List ByteArray) (ov wv : Value) (X : List (Nat × Nat)) (m : Nat) (cs : Array Value) (iv : Value) (K : List ByteArray) : Prop where
  c : CurI n₁ w p q L A L2 A2 m cs iv K
  o : Olds n₀ n₁ w ov wv X
  b : Below n₀ w0 w
  n : n₀ ≤ n₁

section
variable {n₀ n₁ p q m : Nat} {w0 w w' : World} {L L2 L' L2' : Vl} {A A2 A' A2' K K' : List ByteArray} {ov wv iv : Value} {X : List (Nat × Nat)} {cs : Array Value} {f : FuncId} {args : Array Value}
theorem CurE.srt (h : CurE n₁ w p q L A L2 A2 m cs) : Sorted (ks L) := by
  obtain ⟨_, _, _, _, _, h⟩ := h
  exact h.v.srt
theorem CurE.base (h : CurE n₁ w p q L A L2 A2 m cs) : n₁ ≤ w.heap.size := by
  obtain ⟨_, _, _, _, _, h⟩ := h
  exact h.base
theorem CurE.blk (h : CurE n₁ w p q L A L2 A2 m cs) : Blk w m 34 cs := by
  obtain ⟨_, _, _, _, _, h⟩ := h
  exact h.blk
theorem CurI.blk (h : CurI n₁ w p q L A L2 A2 m cs iv K) : Blk w m 34 cs := h.e.blk
theorem Inv.call (h : Inv n₀ n₁ w0 w p q L A ov wv X) (cs : Array Value) : InvC n₀ n₁ w0 (w.alloc (.cells cs 34)) p q L A L A ov wv X w.heap.size cs := by
  have hz : n₁ ≤ w.heap.size := by obtain ⟨_, _, _, _, _, _, _, _, _, hz⟩ := h.z; exact hz
  have hb : Below w.heap.size w (w.alloc (.cells cs 34)) := (Below.refl _ _).alloc (Nat.le_refl _) _
  exact ⟨h.z.call cs, h.o.below (hb.mono hz), h.b.trans (hb.mono (Nat.le_trans h.n hz)), h.n⟩
theorem InvC.z (h : InvC n₀ n₁ w0 w p q L A L A ov wv X m cs) (hs : Szs L) : Inv n₀ n₁ w0 w p q L A ov wv X := ⟨h.c.z, h.o, hs, h.b, h.n⟩
theorem InvC.to (h : InvC n₀ n₁ w0 w p q L A L2 A2 ov wv X m cs) (hc : CurE n₁ w' p q L' A' L2' A2' m cs) (hb : Below n₁ w w') : InvC n₀ n₁ w0 w' p q L' A' L2' A2' ov wv X m cs := ⟨hc, h.o.below hb, h.b.trans (hb.mono h.n), h.n⟩
theorem InvC.step {E : Int} (h : InvC n₀ n₁ w0 w p q L A L2 A2 ov wv X m cs) (hc : Calls Try.prog f args w (Ans n₁ w p q L' A' L2' A2' m cs E)) :
    Calls Try.prog f args w fun e w' => e = .returned (.int .i64 E) ∧ InvC n₀ n₁ w0 w' p q L' A' L2' A2' ov wv X m cs := hc.mono fun _ _ ⟨he, h1, h2⟩ => ⟨he, h.to h1 h2⟩
theorem InvC.tell {v : Value} (h : InvC n₀ n₁ w0 w p q L A L2 A2 ov wv X m cs) (hc : Calls Try.prog f args w fun e w' => e = .returned v ∧ CurE n₁ w' p q L A L2 A2 m cs ∧ Below n₁ w w') :
    Calls Try.prog f args w fun e w' => e = .returned v ∧ InvC n₀ n₁ w0 w' p q L A L2 A2 ov wv X m cs := hc.mono fun _ _ ⟨he, h1, h2⟩ => ⟨he, h.to h1 h2⟩
theorem InvC.drew (h : InvC n₀ n₁ w0 w p q L A L2 A2 ov wv X m cs) : InvC n₀ n₁ w0 w.drew p q L A L2 A2 ov wv X m cs := by
  have h1 := h.c.below ((Below.refl w.heap.size w).drew)
  exact h.to h1.1 h1.2
theorem InvC.made (h : InvC n₀ n₁ w0 w p q L A L2 A2 ov wv X m cs) (hb : Below w.heap.size w w') (hr : w'.ownsRow w.heap.size 9 1 iv K.length (flat kcs K)) : InvI n₀ n₁ w0 w' p q L A L2 A2 ov wv X m cs iv K := by
  have h1 := h.c.made hb hr
  exact ⟨h1.1, h.o.below h1.2, h.b.trans (h1.2.mono h.n), h.n⟩
theorem InvI.to (h : InvI n₀ n₁ w0 w p q L A L2 A2 ov wv X m cs iv K) (hc : CurI n₁ w' p q L' A' L2' A2' m cs iv K') (hb : Below n₁ w w') : InvI n₀ n₁ w0 w' p q L' A' L2' A2' ov wv X m cs iv K' := ⟨hc, h.o.below hb, h.b.trans (hb.mono h.n), h.n⟩
theorem InvI.e (h : InvI n₀ n₁ w0 w p q L A L2 A2 ov wv X m cs iv K) : InvC n₀ n₁ w0 w p q L A L2 A2 ov wv X m cs := ⟨h.c.e, h.o, h.b, h.n⟩
theorem InvI.drew (h : InvI n₀ n₁ w0 w p q L A L2 A2 ov wv X m cs iv K) : InvI n₀ n₁ w0 w.drew p q L A L2 A2 ov wv X m cs iv K := by
  obtain ⟨⟨kv, vv, av, lv, aw, h1, h2, h3⟩, ho, hb, hn⟩ := h
  have hd : Below w.heap.size w w.drew := (Below.refl _ _).drew
  exact ⟨⟨kv, vv, av, lv, aw, h1.below hd, row_beneath h2 hd, h3⟩, ho.below (hd.mono h1.base), hb.trans (hd.mono (Nat.le_trans hn h1.base)), hn⟩
theorem InvI.step {E : Int} (h : InvI n₀ n₁ w0 w p q L A L2 A2 ov wv X m cs iv K) (hc : Calls Try.prog f args w fun e w' => e = .returned (.int .i64 E) ∧ CurI n₁ w' p q L' A' L2' A2' m cs iv K ∧ Below n₁ w w') :
    Calls Try.prog f args w fun e w' => e = .returned (.int .i64 E) ∧ InvI n₀ n₁ w0 w' p q L' A' L2' A2' ov wv X m cs iv K := hc.mono fun _ _ ⟨he, h1, h2⟩ => ⟨he, h.to h1 h2⟩

/-- A call's cells. -/
theorem cells7 {a b c d e g h : Value} (hB : Blk w m 34 #[a, b, c, d, e, g, h]) : w.cell? ⟨m, 0, none⟩ = some a ∧ w.cell? ⟨m, 1, none⟩ = some b ∧ w.cell? ⟨m, 2, none⟩ = some c ∧ w.cell? ⟨m, 3, none⟩ = some d ∧ w.cell? ⟨m, 4, none⟩ = some e ∧ w.cell? ⟨m, 5, none⟩ = some g ∧ w.cell? ⟨m, 6, none⟩ = some h :=
  ⟨hB.cell 0, hB.cell 1, hB.cell 2, hB.cell 3, hB.cell 4, hB.cell 5, hB.cell 6⟩
end
end

end Go.Proofs.Ytklepnldoajghaa
