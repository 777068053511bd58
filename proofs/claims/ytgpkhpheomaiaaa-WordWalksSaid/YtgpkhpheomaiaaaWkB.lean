/- The reference's walk over a word's parts. No condition. -/
import Derived.Test.YtgpkhpheomaiaaaWkA
import Derived.Test.YtgpkhpheomaiaaaLwA
import Derived.Test.YtgpkhpheomaiaaaStA
import Derived.Maps.AppendAt
namespace Go.Proofs.Ytgpkhpheomaiaaa
open Go.RowKit Go.PlainAid
attribute [local go_sem] Oper.semAt_some

def Src (w : World) (A : Option Addr) (news : List Value) : Prop := ∀ j u, news[j]? = some u → ∃ ad, A = some ad ∧ w.cell? (ad.add j) = some u

theorem run_app {P : Program} (w : World) (base : Nat) (t ty e : TypeId) (i : TypeInfo) (z : Value) (size bytes : Nat) (ht : P.underlying t = some (.slice e)) (hi : P.info? e = some i) (hz : i.zero = some z)
    (hsize : i.size = size) (hby : i.bytes = bytes) (hzs : z.cells.size = size) (hsz : 0 < size)
    (v : Value) (n : Nat) (xs : List Value) (hown : w.ownsRow base e size v n xs) (A : Option Addr) (m c : Nat) (news : List Value) (hl : news.length = m * size) (hnews : Src w A news) (h1 : ∀ u ∈ news, u.oneCell' = true)
    (h63 : n + m ≤ 100000) (hbytes : (n + m) * bytes ≤ 140737488355328) (hbase : base ≤ w.heap.size) :
    ∃ a' c' w', (Builtin.append_ #[t, t] ty #[v, .slice A m c]).run P w = .ok (.slice a' (n + m) c') w' ∧ w'.ownsRow base e size (.slice a' (n + m) c') (n + m) (xs ++ news) ∧ w.grownBy w' v.ownBlock ∧
      ((Value.slice a' (n + m) c').ownBlock = v.ownBlock ∨ (Value.slice a' (n + m) c').ownBlock = some w.heap.size) := by
  cases A with
  | some ad =>
    obtain ⟨v', w', hr, h2, h3, _, h5⟩ := run_append_own_at (P := P) w base t ty e i z size bytes ht hi hz hsize hby hzs hsz v n xs hown ad m c news hl (fun j u hj => by
      obtain ⟨ad', e', h⟩ := hnews j u hj
      obtain rfl : ad = ad' := Option.some.inj e'
      exact h) h1 (by unfold maxLen; omega) hbytes hbase
    obtain ⟨a', c', rfl⟩ := ownsRow_slice h2
    exact ⟨a', c', w', hr, h2, h3, h5⟩
  | none =>
    have hn : news = [] := by
      cases news with
      | nil => rfl
      | cons u l => obtain ⟨ad, e', _⟩ := hnews 0 u rfl; cases e'
    subst hn
    obtain rfl : m = 0 := by
      rcases Nat.eq_zero_or_pos m with h | h
      · exact h
      · have := Nat.mul_pos h hsz
        simp at hl
        omega
    obtain ⟨a', c', rfl⟩ := ownsRow_slice hown
    have hcap : n ≤ c' := by
      rcases hown.2 with ⟨e', rfl⟩ | ⟨g, cap, cur, e', _, _, hc, _⟩
      · omega
      · obtain ⟨_, rfl⟩ := by simpa using e'
        exact hc
    refine ⟨a', c', w, ?_, by simpa using hown, ⟨rfl, rfl, rfl, Nat.le_refl _, fun _ _ _ => rfl⟩, .inl rfl⟩
    have hiS : (sizeOf e).run P w = .ok size w := by simp [sizeOf, typeInfo, hi, hsize]
    cases a' <;> simp [Builtin.append_, run_underlying ht, hiS, Builtin.lenOf, Builtin.firstCells, hcap, storeCells]

theorem src_row {n₀ size n : Nat} {e : TypeId} {w : World} {A : Option Addr} {c : Nat} {xs : List Value} (h : w.ownsRow n₀ e size (.slice A n c) n xs) : Src w A xs := fun j u hj => by
  rcases h.2 with ⟨e1, h0⟩ | ⟨g, cap, cur, e1, _⟩
  · have := h.1
    rw [h0, Nat.zero_mul] at this
    rw [List.length_eq_zero_iff.1 this] at hj
    simp at hj
  · obtain ⟨rfl, rfl⟩ : A = some ⟨g, 0, none⟩ ∧ c = cap := by simpa using e1
    refine ⟨_, rfl, ?_⟩
    rw [Addr.add_lit]
    have h9 := h.cells (g := g) rfl j u hj
    rwa [Addr.add_lit] at h9
theorem wpList_app {P : Program} {ops : Array Oper} {rest : List Oper} {o : Oper} {a : Act} {w : World} {Q : Exit → Act → World → Prop} (hgd : o.guard = none) (s x : Operand) (t : TypeId)
    (ho : o.op = .call { callee := .builtin .append, args := #[s, x], argTypes := #[t, t] })
    (base : Nat) (e : TypeId) (i : TypeInfo) (z : Value) (size bytes : Nat) (ht : P.underlying t = some (.slice e)) (hi : P.info? e = some i) (hz : i.zero = some z)
    (hsize : i.size = size) (hby : i.bytes = bytes) (hzs : z.cells.size = size) (hsz : 0 < size)
    (v : Value) (n : Nat) (xs : List Value) (hs : a.eval s = v) (hown : w.ownsRow base e size v n xs) (A : Option Addr) (m c : Nat) (news : List Value) (hx : a.eval x = .slice A m c) (hl : news.length = m * size) (hnews : Src w A news) (h1 : ∀ u ∈ news, u.oneCell' = true)
    (h63 : n + m ≤ 100000) (hbytes : (n + m) * bytes ≤ 140737488355328) (hbase : base ≤ w.heap.size)
    (h : ∀ a' c' w', w'.ownsRow base e size (.slice a' (n + m) c') (n + m) (xs ++ news) → w.grownBy w' v.ownBlock → wpList P ops Q rest (a.put o.dst (.slice a' (n + m) c')) w') :
    wpList P ops Q (o :: rest) a w :=
  wpList_plain hgd fun K hK => by
    obtain ⟨a', c', w', hr, h2, h3, h4⟩ := run_app w base t o.type e i z size bytes ht hi hz hsize hby hzs hsz v n xs hown A m c news hl hnews h1 h63 hbytes hbase
    unfold Oper.wp execOp
    simp only [ho, resolve, invoke, builtin, Sem.run_bind, Sem.run_pure, Result.andThen_ok, List.map_toArray, List.map_cons, List.map_nil, hs, hx, hr]
    exact hK _ _ (h a' c' w' h2 h3)

theorem pv_one (ps : List Pt) : ∀ u ∈ pv ps, u.oneCell' = true := fun u hu => by
  unfold pv at hu
  obtain ⟨t, _, ht⟩ := List.mem_flatMap.1 hu
  simp only [Pt.cells, List.mem_cons, List.not_mem_nil, or_false] at ht
  rcases ht with rfl | rfl | rfl | rfl | rfl <;> rfl
theorem src_blk {w : World} {g : Nat} {t : TypeId} {xs : List Value} (h : Blk w g t xs.toArray) : Src w (some ⟨g, 0, none⟩) xs := fun j u hj => by
  refine ⟨_, rfl, ?_⟩
  rw [Addr.add_lit, h.cell]
  simpa using hj
/-- The same but for what stands within. -/
def SameP (x : Pt) (p : PT) : Prop := x.kind = p.kind ∧ x.text = p.text ∧ x.op = p.op ∧ x.quoted = p.quoted
def Mat (pts : List Pt) (ps : List PT) : Prop := pts.length = ps.length ∧ ∀ (i : Nat) (x : Pt) (p : PT), pts[i]? = some x → ps[i]? = some p → SameP x p
theorem mat_nil : Mat [] [] := ⟨rfl, fun i x p h => by simp at h⟩
theorem mat_app {a b : List Pt} {c d : List PT} (h : Mat a c) (k : Mat b d) : Mat (a ++ b) (c ++ d) := by
  refine ⟨by rw [List.length_append, List.length_append, h.1, k.1], fun i x p hx hp => ?_⟩
  by_cases hi : i < a.length
  · rw [List.getElem?_append_left hi] at hx
    rw [List.getElem?_append_left (by rw [← h.1]; exact hi)] at hp
    exact h.2 i x p hx hp
  · rw [List.getElem?_append_right (by omega)] at hx
    rw [List.getElem?_append_right (by rw [← h.1]; omega), ← h.1] at hp
    exact k.2 _ x p hx hp
theorem mat_one {x : Pt} {p : PT} (h : SameP x p) : Mat [x] [p] := ⟨rfl, fun i y q hy hq => by
  cases i with
  | zero =>
    obtain rfl : x = y := by simpa using hy
    obtain rfl : p = q := by simpa using hq
    exact h
  | succ i => simp at hy⟩
theorem cnt_take (l : List PT) (i : Nat) : cntL (l.take i) ≤ cntL l := by
  conv => rhs; rw [← List.take_append_drop i l]
  rw [cntL_app]
  omega
theorem flat_take {l : List PT} {i : Nat} {p : PT} (h : l[i]? = some p) : flatL (l.take (i + 1)) = flatL (l.take i) ++ [p] ++ flatL p.word := by
  rw [List.take_add_one, h, flatL_app]
  simp [flatL, flat_eq]
theorem cnt_word {l : List PT} {i : Nat} {p : PT} (h : l[i]? = some p) : cntL (l.take i) + 1 + cntL p.word ≤ cntL l := by
  have h1 := cnt_take l (i + 1)
  rw [List.take_add_one, h, cntL_app] at h1
  simp [cntL, cnt_eq] at h1
  omega
theorem alB (w : World) (o : Obj) : Below w.heap.size w (w.alloc o) := (Below.refl _ _).alloc (Nat.le_refl _) _
theorem below_of {k n₀ : Nat} {w w1 : World} (h : Below k w w1) (hk : n₀ ≤ k) : Below n₀ w w1 := ⟨h.os, h.tape, h.output, h.size, fun g hg => h.block g (by omega)⟩
theorem infoP : (Try.prog.info? 35).map (fun i => (i.zero, i.size, i.bytes)) = some (some (.agg #[.int .i64 0, .string ⟨#[]⟩, .string ⟨#[]⟩, .slice none 0 0, .bool false]), 5, 72) := by kernel_rfl
/-- What the reference's Walk answers. -/
def WalkR (l : List PT) (w : World) (e : Ending) (w' : World) : Prop := ∃ (a : Option Addr) (c : Nat) (pts : List Pt), e = .returned (.slice a pts.length c) ∧ Mat pts (flatL l) ∧ w'.ownsRow w.heap.size 35 5 (.slice a pts.length c) pts.length (pv pts) ∧ Below w.heap.size w w'

theorem wat_len {w : World} {T : Nat → Prop} {a : Option Addr} {n c : Nat} {l : List PT} : ∀ {D : Nat}, WAt w T D (.slice a n c) l → l.length = n
  | 0, ⟨h1, h2⟩ => by subst h2; simp at h1; simp [h1]
  | D + 1, ⟨pts, ⟨base, hr⟩, _⟩ => by
    obtain ⟨a', c', h⟩ := ownsRow_slice hr
    simp at h
    exact h.2.1.symm
theorem len_cnt : ∀ l : List PT, l.length ≤ cntL l
  | [] => Nat.zero_le _
  | p :: l => by rw [cntL, List.length_cons, cnt_eq]; have := len_cnt l; omega
theorem pv_join (a b : List Pt) : pv (a ++ b) = pv a ++ pv b := by simp [pv]

set_option maxRecDepth 100000 in
set_option maxHeartbeats 4000000 in
theorem refwalk_any : ∀ (D : Nat) (a : Option Addr) (n c : Nat) (l : List PT) (T : Nat → Prop) (w : World), l.length = n → WAt w T D (.slice a n c) l → (∀ g, T g → g < w.heap.size) → cntL l ≤ 40000 →
    Calls Try.prog 10 #[.slice a n c] w (WalkR l w) := by
  intro D
  obtain ⟨i0, hi0, hz0, hz1, hz2⟩ := info_parts infoP
  induction D with
  | zero =>
    intro a n c l T w hn hW hT hc
    obtain ⟨h1, rfl⟩ := hW
    obtain ⟨rfl, rfl, rfl⟩ : a = none ∧ n = 0 ∧ c = 0 := by simpa using h1
    clear h1 hc hT hn
    go_enter Try.func10, Try.ntmps10
    go_wp2
    go_loopw [3, 4] (fun s3 s4 wr => s3 = .slice none 0 0 ∧ s4 = .int .i64 0 ∧ wr = w) (fun _ _ _ => 0)
    case atStart => exact ⟨rfl, rfl, rfl⟩
    case round =>
      obtain ⟨rfl, rfl, rfl⟩ := hrel
      go_wp2
      go_ret
      exact ⟨none, 0, [], rfl, by rw [flatL]; exact mat_nil, World.ownsRow_nil _ _ _ _, Below.refl _ _⟩
  | succ D ih =>
    intro a n c l T w hn hW hT hc
    subst hn
    have hWH := Lib.hid hW
    have hTH := Lib.hid hT
    have hihH := Lib.hid ih
    have hcH := Lib.hid hc
    clear hW hT hc ih
    go_enter Try.func10, Try.ntmps10
    go_wp2
    go_loopw [3, 4] (fun s3 s4 wr => ∃ (i k : Nat) (A : Option Addr) (C : Nat) (pts : List Pt), i ≤ l.length ∧ s4 = .int .i64 i ∧ s3 = .slice A k C ∧ Hid (pts.length = k) ∧ Hid (Mat pts (flatL (l.take i))) ∧ Hid (wr.ownsRow w.heap.size 35 5 (.slice A k C) k (pv pts)) ∧ Hid (Below w.heap.size w wr)) (fun _ v _ => l.length - (intOf v).toNat)
    case atStart => exact ⟨0, 0, none, 0, [], Nat.zero_le _, rfl, rfl, Lib.hid rfl, Lib.hid (by rw [List.take_zero, flatL]; exact mat_nil), Lib.hid (World.ownsRow_nil _ _ _ _), Lib.hid (Below.refl _ _)⟩
    case round =>
      obtain ⟨i, k, A, C, pts, hi, rfl, rfl, hk, hM, hrow, hb⟩ := hrel
      by_cases hlt : i < l.length
      · obtain ⟨g, x, p, rfl, hTg, hp, hx, k0, k1, k2, k3, k4⟩ := part_at hWH.out hlt
        have hgl := hTH.out g hTg
        have hcw := cnt_word hp
        have hkc : k = cntL (l.take i) := by rw [← hk.out, hM.out.1, flatL_len]
        have hcc := hcH.out
        have hk9 : k + 1 + cntL p.word ≤ 40000 := by omega
        have hi9 : i ≤ 40000 := by have := len_cnt l; omega
        have hszw := hb.out.size
        have c0 := (World.cell?_of_block (a := ⟨g, i * 5, none⟩) (hb.out.block g hgl)).trans k0
        have c1 := (World.cell?_of_block (a := ⟨g, i * 5 + 1, none⟩) (hb.out.block g hgl)).trans k1
        have c2 := (World.cell?_of_block (a := ⟨g, i * 5 + 2, none⟩) (hb.out.block g hgl)).trans k2
        have c3 := (World.cell?_of_block (a := ⟨g, i * 5 + 3, none⟩) (hb.out.block g hgl)).trans k3
        have c4 := (World.cell?_of_block (a := ⟨g, i * 5 + 4, none⟩) (hb.out.block g hgl)).trans k4
        have k3H := Lib.hid k3
        have hxS : Hid (SameP x p) := Lib.hid ⟨hx.1, hx.2.1, hx.2.2.1, hx.2.2.2.1⟩
        have hxW := Lib.hid hx.2.2.2.2
        have hpH := Lib.hid hp
        have hltH := Lib.hid hlt
        clear hx hp k0 k1 k2 k3 k4 hcw hkc hcc
        obtain ⟨xk, xt, xo, wa, wn, wc, xq⟩ := x
        dsimp only at c0 c1 c2 c3 c4 k3H hxW
        go_wp2_with (first
          | (at_builtin; refine wpList_app rfl _ _ 26 rfl w.heap.size 35 i0 _ 5 72 Try.underlying26 hi0 hz0 hz1 hz2 rfl (by decide) (.slice A k C) k (pv pts) (by rfl) (hrow.out.alloc _) (some ⟨wr.heap.size, 0, none⟩) 1 1 [.int .i64 xk, .string xt, .string xo, .slice wa wn wc, .bool xq] (by rfl) (by rfl) (src_blk (Blk.new wr _ _)) (by simp [Value.oneCell']) (by omega) (by omega) (by rw [World.size_alloc]; omega) ?_; intro a2 e2 w3 hown3 hgw3
             have hb3 := Lib.hid ((hb.out.alloc hb.out.size _).grown hgw3 (by rw [World.size_alloc]; omega) (fun y e => (hrow.out.lt y e).1))
             have d3 : w3.cell? ⟨g, i * 5 + 3, none⟩ = some (.slice wa wn wc) := (World.cell?_of_block (a := ⟨g, i * 5 + 3, none⟩) (hb3.out.block g hgl)).trans k3H.out
             have hsz3 := hb3.out.size
             have hown3H := Lib.hid hown3
             clear c0 c1 c2 c3 c4 hown3 hgw3)
          | (go_at_call 10; refine (hihH.out wa wn wc p.word T w3 (wat_len hxW.out) (WAt_mono (fun _ h => h) (fun y hy => hb3.out.block y (hTH.out y hy)) _ _ _ hxW.out) (fun y hy => Nat.lt_of_lt_of_le (hTH.out y hy) hsz3) (by omega)).mono ?_
             rintro e w4 ⟨a5, c5, pt5, rfl, hM5, hown5, hb5⟩
             have hM5H := Lib.hid hM5
             have hown5H := Lib.hid hown5
             have hb5H := Lib.hid hb5
             obtain ⟨m5, hm5⟩ : ∃ m, pt5.length = m := ⟨_, rfl⟩
             have hm5c : k + 1 + m5 ≤ 40000 := by rw [← hm5, hM5.1, flatL_len]; exact hk9
             rw [hm5] at hown5H ⊢
             have hm5H := Lib.hid hm5
             have hsz5 := hb5.size
             clear hM5 hown5 hb5 d3 hm5)
          | (at_builtin; refine wpList_app rfl _ _ 26 rfl w.heap.size 35 i0 _ 5 72 Try.underlying26 hi0 hz0 hz1 hz2 rfl (by decide) (.slice a2 (k + 1) e2) (k + 1) (pv pts ++ [.int .i64 xk, .string xt, .string xo, .slice wa wn wc, .bool xq]) (by rfl) (row_beneath hown3H.out hb5H.out) a5 m5 c5 (pv pt5) (by rfl) (by rw [pv_len, hm5H.out]) (src_row hown5H.out) (pv_one _) (by omega) (by omega) (by omega) ?_; intro a6 e6 w6 hown6 hgw6
             have hb6 := Lib.hid ((hb3.out.trans (below_of hb5H.out hsz3)).grown hgw6 (by omega) (fun y e => (hown3H.out.lt y e).1))
             have hown6H := Lib.hid hown6
             clear hown6 hgw6))
        go_roundw
        case rel => exact ⟨i + 1, k + 1 + m5, a6, e6, pts ++ [⟨xk, xt, xo, wa, wn, wc, xq⟩] ++ pt5, by have := hltH.out; omega, by go_num, rfl, Lib.hid (by rw [List.length_append, List.length_append, hk.out, hm5H.out]; rfl), Lib.hid (by rw [flat_take hpH.out]; exact mat_app (mat_app hM.out (mat_one hxS.out)) hM5H.out), Lib.hid (by rw [pv_join, pv_join]; exact hown6H.out), hb6⟩
        case measure => have := hltH.out; simp [intOf]; omega
      · obtain rfl : i = l.length := by omega
        have hM2 := hM.out
        rw [List.take_length] at hM2
        have hkk := hk.out
        subst hkk
        have hM2H := Lib.hid hM2
        clear hM2
        go_wp2
        go_ret
        exact ⟨A, C, pts, rfl, hM2H.out, hrow.out, hb.out⟩
end Go.Proofs.Ytgpkhpheomaiaaa
