/- The walk of LexQuoted. Condition: the texts lie in memory; each has ten million bytes at most. -/
import Derived.Test.YtkakphiofahlgaaDoorLxQP
import Derived.Test.YtkakphiofahlgaaDoorLxV
namespace Go.Proofs.YtkakphiofahlgaaDoor
open Go.RowKit Go.PlainAid
attribute [local go_sem] Oper.semAt_some

theorem wpList_app {P : Program} {ops : Array Oper} {rest : List Oper} {o : Oper} {a : Act} {w : World} {Q : Exit → Act → World → Prop} (hgd : o.guard = none) (s x : Operand) (t : TypeId)
    (ho : o.op = .call { callee := .builtin .append, args := #[s, x], argTypes := #[t, t] })
    (base : Nat) (e : TypeId) (i : TypeInfo) (z : Value) (size bytes : Nat) (ht : P.underlying t = some (.slice e)) (hi : P.info? e = some i) (hz : i.zero = some z)
    (hsize : i.size = size) (hby : i.bytes = bytes) (hzs : z.cells.size = size) (hsz : 0 < size)
    (v : Value) (n : Nat) (xs : List Value) (hs : a.eval s = v) (hown : w.ownsRow base e size v n xs) (A : Option Addr) (m c : Nat) (news : List Value) (hx : a.eval x = .slice A m c) (hl : news.length = m * size) (hnews : Src w A news) (h1 : ∀ u ∈ news, u.oneCell' = true)
    (h63 : n + m ≤ 100000) (hbytes : (n + m) * bytes ≤ 140737488355328) (hbase : base ≤ w.heap.size)
    (h : ∀ a' c' w', w'.ownsRow base e size (.slice a' (n + m) c') (n + m) (xs ++ news) → w.grownBy w' v.ownBlock → wpList P ops Q rest (a.put o.dst (.slice a' (n + m) c')) w') :
    wpList P ops Q (o :: rest) a w :=
  wpList_plain hgd fun K hK => by
    obtain ⟨a', c', w', hr, h2, h3, h4⟩ := run_app w base t o.type e i z size bytes ht hi hz hsize hby hzs hsz v n xs hown A m c news hl hnews h1 h63 hbytes hbase
    unfold Oper.wp execOp
    simp only [ho, resolve, invoke, builtin, Sem.run_bind, Sem.run_pure, Result.andThen_ok, List.map_toArray, List.map_cons, List.map_nil, hs, hx, hr]
    exact hK _ _ (h a' c' w' h2 h3)
theorem infoS : (Tryd.prog.info? 9).map (fun i => (i.zero, i.size, i.bytes)) = some (some (.string ByteArray.empty), 1, 16) := by kernel_rfl
theorem src_one {w : World} {g : Nat} {t : TypeId} {u : Value} (h : Blk w g t #[u]) : Src w (some ⟨g, 0, none⟩) [u] := fun j v hj => by
  refine ⟨_, rfl, ?_⟩
  rw [Addr.add_lit, h.cell]
  simpa using hj
/-- Texts as strings in memory. -/
def Txts (w : World) (A : Option Addr) (K : List ByteArray) : Prop := ∀ k t, K[k]? = some t → ∃ b off, A = some ⟨b, off, none⟩ ∧ b < w.heap.size ∧ w.cell? ⟨b, off + k, none⟩ = some (.string t)
theorem Txts.below {w w' : World} {A : Option Addr} {K : List ByteArray} {n : Nat} (h : Txts w A K) (hb : Below n w w') (hn : w.heap.size ≤ n) : Txts w' A K := fun k t hk => by
  obtain ⟨b, off, h1, h2, h3⟩ := h k t hk
  exact ⟨b, off, h1, Nat.lt_of_lt_of_le h2 hb.size, (World.cell?_of_block (hb.block b (by omega))).trans h3⟩
def sv (l : List ByteArray) : List Value := l.map (.string ·)
theorem quote_any (t : ByteArray) (w : World) (ht : t.size ≤ 10000000) (hg : Gl w) : Calls Tryd.prog 11 #[.string t] w fun e w' => e = .returned (.string (quoteM t)) ∧ Below w.heap.size w w' := by
  unfold quoteM
  cases hs : isSafe t
  · rw [if_neg (by decide)]
    exact quote_not t (by omega) w hg hs
  · rw [if_pos rfl]
    exact (quote_safe t (by unfold maxLen; omega) w hs).mono fun e w' ⟨he, hw⟩ => ⟨he, by rw [← hw]; exact Below.refl _ _⟩
theorem quoteM_size (t : ByteArray) : (quoteM t).size ≤ 4 * t.size + 2 := by
  unfold quoteM
  split
  · omega
  · unfold quoted
    have := qmS_size t
    rw [ByteArray.size_append, ByteArray.size_append]
    show 1 + (qmS t).size + 1 ≤ _
    omega
theorem seg_data (q : ByteArray) : ((⟨#[32]⟩ : ByteArray) ++ q ++ ⟨#[9]⟩).data.toList = segL q := by
  rw [ByteArray.data_append, ByteArray.data_append, Array.toList_append, Array.toList_append]
  simp [segL]
theorem row_str {w : World} {n₀ n c : Nat} {a : Option Addr} {l : List ByteArray} (hn : n = l.length) (h : w.ownsRow n₀ 9 1 (.slice a n c) n (sv l)) (hp : 0 < n) : ∃ g, a = some ⟨g, 0, none⟩ ∧ g < w.heap.size ∧ ∀ (k : Nat) (q : ByteArray), l[k]? = some q → w.cell? ⟨g, k, none⟩ = some (.string q) := by
  obtain ⟨g, cap, hv, _, _⟩ := h.form hp
  obtain ⟨rfl, rfl⟩ : a = some ⟨g, 0, none⟩ ∧ c = cap := by simpa using hv
  refine ⟨g, rfl, (h.lt g rfl).2, fun k q hk => ?_⟩
  have hk2 := (List.getElem?_eq_some_iff.1 hk).1
  rw [h.cellAt _ (by omega)]
  unfold sv
  rw [List.getElem?_map, hk]
  rfl

set_option maxRecDepth 100000 in
set_option maxHeartbeats 4000000 in
theorem quoted_walk (A : Option Addr) (n c0 : Nat) (K : List ByteArray) (w : World) (hn : K.length = n) (hS : Txts w A K) (hK : ∀ t ∈ K, t.size ≤ 10000000) (hg : Gl w) :
    Calls Tryd.prog 6 #[.slice A n c0] w fun e w' => e = .returned (.bool true) ∧ Below w.heap.size w w' := by
  obtain ⟨i0, hi0, hz0, hz1, hz2⟩ := info_parts infoS
  have hawH := Lib.hid (awake_any w)
  have hSH := Lib.hid hS
  have hKH := Lib.hid hK
  have hgH := Lib.hid hg
  have hnH := Lib.hid hn
  have hgs := hg.size
  clear hS hK hg hn
  go_enter Tryd.func6, Tryd.ntmps6
  go_wp2_with (go_at_call 8; refine hawH.out.mono ?_; rintro e w1 ⟨rfl, hb1⟩; have hb1H := Lib.hid hb1; clear hb1)
  go_loopw [3, 4, 17] (fun s3 s4 s17 wr => ∃ (k : Nat) (ql : List ByteArray) (S : ByteArray) (a : Option Addr) (c : Nat), k ≤ n ∧ k ≤ 30 ∧ s17 = .int .i64 k ∧ s3 = .string S ∧ S.size ≤ 4000 ∧ s4 = .slice a k c ∧ Hid (ql = (K.take k).map quoteM) ∧ Hid (S.data.toList = ql.flatMap segL) ∧ Hid (ql.length = k) ∧ Hid (wr.ownsRow w.heap.size 9 1 (.slice a k c) k (sv ql)) ∧ Hid (Below w.heap.size w wr)) (fun _ _ s17 _ => n - (intOf s17).toNat)
  case atStart => exact ⟨0, [], ⟨#[]⟩, none, 0, Nat.zero_le _, Nat.zero_le _, by go_num, rfl, Nat.zero_le _, rfl, Lib.hid rfl, Lib.hid rfl, Lib.hid rfl, Lib.hid (World.ownsRow_nil _ _ _ _), hb1H⟩
  case round =>
    obtain ⟨k, ql, S, a, c, hkn, hk30, rfl, rfl, hSz, rfl, hql, hSd, hlen, hrow, hbw⟩ := hrel
    by_cases hlt : k < n
    · obtain ⟨t, htk⟩ : ∃ t, K[k]? = some t := ⟨K[k]'(by have := hnH.out; omega), List.getElem?_eq_getElem _⟩
      have htz := hKH.out t (List.mem_of_getElem? htk)
      obtain ⟨b, off, rfl, hb, hcb⟩ := hSH.out k t htk
      have x0 : wr.cell? ⟨b, off + k, none⟩ = some (.string t) := (World.cell?_of_block (hbw.out.block b hb)).trans hcb
      have hgr : Gl wr := hgH.out.below hbw.out hgs
      have hqc := Lib.hid (quote_any t wr htz hgr)
      have hqz := quoteM_size t
      obtain ⟨q, hq⟩ : ∃ q, quoteM t = q := ⟨_, rfl⟩
      rw [hq] at hqc hqz
      have hql2 : Hid (ql ++ [q] = (K.take (k + 1)).map quoteM) := Lib.hid (by rw [List.take_add_one, htk, List.map_append, ← hql.out]; simp [hq])
      have hz1' : (⟨#[32]⟩ ++ q : ByteArray).size = 1 + q.size := by rw [ByteArray.size_append]; rfl
      have hz2' : (⟨#[32]⟩ ++ q ++ ⟨#[9]⟩ : ByteArray).size = q.size + 2 := by rw [ByteArray.size_append, hz1']; show 1 + q.size + 1 = _; omega
      obtain ⟨Z, hZ⟩ : ∃ Z, S ++ (⟨#[32]⟩ ++ q ++ ⟨#[9]⟩ : ByteArray) = Z := ⟨_, rfl⟩
      have hZs : Z.size = S.size + (q.size + 2) := by rw [← hZ, ByteArray.size_append, hz2']
      obtain ⟨zn, hzn⟩ : ∃ x, Z.size = x := ⟨_, rfl⟩
      have hZd : Hid (Z.data.toList = (ql ++ [q]).flatMap segL) := Lib.hid (by rw [← hZ, ByteArray.data_append, Array.toList_append, seg_data, hSd.out]; simp)
      have hadd1 : ∀ w : World, (Op.stringOp .add ⟨#[32]⟩ q).run Tryd.prog w = .ok (.string (⟨#[32]⟩ ++ q)) w := fun w => run_string_add_sum w _ _ (by show 1 + q.size ≤ _; omega)
      have hadd2 : ∀ w : World, (Op.stringOp .add (⟨#[32]⟩ ++ q) ⟨#[9]⟩).run Tryd.prog w = .ok (.string (⟨#[32]⟩ ++ q ++ ⟨#[9]⟩)) w := fun w => run_string_add_sum w _ _ (by rw [hz1']; show 1 + q.size + 1 ≤ _; omega)
      have hadd3 : ∀ w : World, (Op.stringOp .add S (⟨#[32]⟩ ++ q ++ ⟨#[9]⟩)).run Tryd.prog w = .ok (.string Z) w := fun w => by rw [← hZ]; exact run_string_add_sum w _ _ (by rw [hz2']; omega)
      rw [hzn] at hZs
      have hzb : zn ≤ 100000000 := by omega
      clear hgr hq hz1' hz2' hZ htk hcb
      by_cases hover : 4000 < zn
      · have d1 : (4000 : Int) < (zn : Int) := by omega
        go_wp2_with (first | (go_at_call 11; refine hqc.out.mono ?_; rintro e w2 ⟨rfl, hb2⟩; have hb2H := Lib.hid hb2; have hbw2 := Lib.hid (hbw.out.trans (below_of hb2 hbw.out.size)); have hrow2 := Lib.hid (row_beneath hrow.out hb2); clear hb2) | (at_builtin; refine wpList_app rfl _ _ 35 rfl w.heap.size 9 i0 _ 1 16 Tryd.underlying35 hi0 hz0 hz1 hz2 rfl (by decide) (.slice a k c) k (sv ql) (by rfl) (hrow2.out.alloc _) (some ⟨w2.heap.size, 0, none⟩) 1 1 [.string q] (by rfl) (by rfl) (src_one (Blk.new w2 _ _)) (by simp [Value.oneCell']) (by omega) (by omega) (by have := hbw2.out.size; simp; omega) ?_; intro a' c' w3 hown hgw; have hbw3 := Lib.hid ((hbw2.out.alloc hbw2.out.size _).grown hgw (by have := hbw2.out.size; simp; omega) (fun x e => (hrow2.out.lt x e).1)); clear hown hgw))
        go_ret
        exact ⟨rfl, hbw3.out⟩
      · have d1 : ¬ (4000 : Int) < (zn : Int) := by omega
        have d2 : decide ((4000 : Int) < (zn : Int)) = false := decide_eq_false d1
        by_cases hmany : 30 < k + 1
        · have d3 : (30 : Int) < (k : Int) + 1 := by omega
          go_wp2_with (first | (go_at_call 11; refine hqc.out.mono ?_; rintro e w2 ⟨rfl, hb2⟩; have hb2H := Lib.hid hb2; have hbw2 := Lib.hid (hbw.out.trans (below_of hb2 hbw.out.size)); have hrow2 := Lib.hid (row_beneath hrow.out hb2); clear hb2) | (at_builtin; refine wpList_app rfl _ _ 35 rfl w.heap.size 9 i0 _ 1 16 Tryd.underlying35 hi0 hz0 hz1 hz2 rfl (by decide) (.slice a k c) k (sv ql) (by rfl) (hrow2.out.alloc _) (some ⟨w2.heap.size, 0, none⟩) 1 1 [.string q] (by rfl) (by rfl) (src_one (Blk.new w2 _ _)) (by simp [Value.oneCell']) (by omega) (by omega) (by have := hbw2.out.size; simp; omega) ?_; intro a' c' w3 hown hgw; have hbw3 := Lib.hid ((hbw2.out.alloc hbw2.out.size _).grown hgw (by have := hbw2.out.size; simp; omega) (fun x e => (hrow2.out.lt x e).1)); clear hown hgw))
          go_ret
          exact ⟨rfl, hbw3.out⟩
        · have d3 : ¬ (30 : Int) < (k : Int) + 1 := by omega
          go_wp2_with (first | (go_at_call 11; refine hqc.out.mono ?_; rintro e w2 ⟨rfl, hb2⟩; have hb2H := Lib.hid hb2; have hbw2 := Lib.hid (hbw.out.trans (below_of hb2 hbw.out.size)); have hrow2 := Lib.hid (row_beneath hrow.out hb2); clear hb2) | (at_builtin; refine wpList_app rfl _ _ 35 rfl w.heap.size 9 i0 _ 1 16 Tryd.underlying35 hi0 hz0 hz1 hz2 rfl (by decide) (.slice a k c) k (sv ql) (by rfl) (hrow2.out.alloc _) (some ⟨w2.heap.size, 0, none⟩) 1 1 [.string q] (by rfl) (by rfl) (src_one (Blk.new w2 _ _)) (by simp [Value.oneCell']) (by omega) (by omega) (by have := hbw2.out.size; simp; omega) ?_; intro a' c' w3 hown hgw; have hbw3 := Lib.hid ((hbw2.out.alloc hbw2.out.size _).grown hgw (by have := hbw2.out.size; simp; omega) (fun x e => (hrow2.out.lt x e).1)); have hownH := Lib.hid hown; clear hown hgw))
          go_roundw
          case rel => exact ⟨k + 1, ql ++ [q], Z, a', c', by omega, by omega, by go_num, rfl, by omega, rfl, hql2, hZd, Lib.hid (by rw [List.length_append, hlen.out]; rfl), Lib.hid (by have h9 := hownH.out; rw [show sv (ql ++ [q]) = sv ql ++ [.string q] by simp [sv]]; exact h9), hbw3⟩
          case measure => simp [intOf]; omega
    · obtain rfl : k = n := by omega
      have hall : ∀ q ∈ ql, QWord q := fun q hm => by
        rw [hql.out] at hm
        obtain ⟨t, _, rfl⟩ := List.mem_map.1 hm
        exact quoteM_word t
      have htop := top_quoted hSd.out hSz hall
      have hln := fun w => Line_any S 0 w
      rw [htop] at hln
      simp only [qtoks_len, hlen.out] at hln
      have hlnH := Lib.hid hln
      clear hall htop hln
      go_wp2_with (go_at_call 9; refine (hlnH.out _).mono ?_; rintro e w2 ⟨ag, cg, rfl, hrg, hbel⟩; have hrg2 := hrg; simp only [qtoks_len, hlen.out] at hrg2; have hrgH := Lib.hid hrg2; have hrwH := Lib.hid (row_beneath hrow.out hbel); have hb2 := Lib.hid (hbw.out.trans (below_of hbel hbw.out.size)); clear hrg hrg2 hbel)
      obtain ⟨n₁, hn₁⟩ : ∃ x, wr.heap.size = x := ⟨_, rfl⟩
      rw [hn₁] at hrgH
      go_loopw [65] (fun v wx => ∃ j : Nat, j ≤ k ∧ v = .int .i64 j ∧ Hid (wx.ownsRow n₁ 28 5 (.slice ag k cg) k (tv (qtoks 0 ql))) ∧ Hid (wx.ownsRow w.heap.size 9 1 (.slice a k c) k (sv ql)) ∧ Hid (Below w.heap.size w wx)) (fun v _ => k - (intOf v).toNat)
      case atStart => exact ⟨0, Nat.zero_le _, by go_num, hrgH, hrwH, hb2⟩
      case round =>
        obtain ⟨j, hj, rfl, hr1, hr2, hbx⟩ := hrel
        by_cases hjk : j < k
        · obtain ⟨q, hq⟩ : ∃ q, ql[j]? = some q := ⟨ql[j]'(by have := hlen.out; omega), List.getElem?_eq_getElem _⟩
          obtain ⟨t, ht, hk1, htx⟩ := qtoks_get 0 ql j q hq
          obtain ⟨g, rfl, _, _, hcell⟩ := row_form (show k = (qtoks 0 ql).length by rw [qtoks_len]; exact hlen.out.symm) hr1.out (by omega)
          obtain ⟨g2, rfl, _, hcell2⟩ := row_str hlen.out.symm hr2.out (by omega)
          have y0 := (hcell j t ht).kind
          have y1 := (hcell j t ht).text
          rw [hk1] at y0
          rw [htx] at y1
          have y2 := hcell2 j q hq
          clear hcell hcell2 ht hk1 htx hq
          go_wp2_with fail
          go_quiet (fail)
          go_wp2
          go_roundw
          case rel => exact ⟨j + 1, by omega, by go_num, Lib.hid hr1.out, Lib.hid hr2.out, Lib.hid (below_drew hbx.out _)⟩
          case measure => simp [intOf]; omega
        · go_wp2
          go_ret
          exact ⟨rfl, hbx.out⟩
end Go.Proofs.YtkakphiofahlgaaDoor
