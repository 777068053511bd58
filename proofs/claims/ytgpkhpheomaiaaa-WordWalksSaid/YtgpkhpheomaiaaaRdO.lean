/- quotes of a word's reader. No condition. -/
import Derived.Test.YtgpkhpheomaiaaaRdN
namespace Go.Proofs.Ytgpkhpheomaiaaa
open Go.RowKit Go.PlainAid
attribute [local go_sem] Oper.semAt_some

theorem pv_get : ∀ (pts : List Pt) (j c : Nat) (x : Pt), pts[j]? = some x → c < 5 → (pv pts)[j * 5 + c]? = x.cells[c]?
  | [], j, c, x, h, _ => by cases h
  | y :: l, 0, c, x, h, hc => by
    cases h
    show (y.cells ++ pv l)[0 * 5 + c]? = _
    rw [List.getElem?_append_left (by show 0 * 5 + c < 5; omega), Nat.zero_mul, Nat.zero_add]
  | y :: l, j + 1, c, x, h, hc => by
    show (y.cells ++ pv l)[(j + 1) * 5 + c]? = _
    rw [List.getElem?_append_right (by show 5 ≤ (j + 1) * 5 + c; omega)]
    have : (j + 1) * 5 + c - y.cells.length = j * 5 + c := by show (j + 1) * 5 + c - 5 = _; omega
    rw [this]
    exact pv_get l j c x h hc
theorem litTot_take (l : List PT) (j : Nat) : litTot (l.take j) ≤ litTot l := by
  have h := litTot_app (l.take j) (l.drop j)
  rw [List.take_append_drop] at h
  omega
theorem litTot_at : ∀ (l : List PT) (j : Nat) (p : PT), l[j]? = some p → p.kind = 1 → p.text.size ≤ litTot l
  | [], j, p, h, _ => by cases h
  | y :: l, 0, p, h, hk => by cases h; rw [litTot, if_pos hk]; omega
  | y :: l, j + 1, p, h, hk => by have := litTot_at l j p h hk; rw [litTot]; omega
theorem fold_next {l : List PT} {j : Nat} {p : PT} {st : St} (h : l[j]? = some p) : (l.take (j + 1)).foldl addM st = addM ((l.take j).foldl addM st) p := by
  rw [List.take_add_one, h]
  simp
/-- What a round of the loop over parts knows of the part at j. -/
theorem part_at {w : World} {T : Nat → Prop} {D : Nat} {a : Option Addr} {c : Nat} {l : List PT} (h : WAt w T (D + 1) (.slice a l.length c) l) {j : Nat} (hj : j < l.length) : ∃ (g : Nat) (x : Pt) (p : PT), a = some ⟨g, 0, none⟩ ∧ T g ∧ l[j]? = some p ∧ PtIs w T D x p ∧
    w.cell? ⟨g, j * 5, none⟩ = some (.int .i64 x.kind) ∧ w.cell? ⟨g, j * 5 + 1, none⟩ = some (.string x.text) ∧ w.cell? ⟨g, j * 5 + 2, none⟩ = some (.string x.op) ∧ w.cell? ⟨g, j * 5 + 3, none⟩ = some (.slice x.wa x.wn x.wc) ∧ w.cell? ⟨g, j * 5 + 4, none⟩ = some (.bool x.quoted) := by
  obtain ⟨pts, ⟨base, hr⟩, ho, hl, hi⟩ := h
  obtain ⟨g, cap, hv, _, _⟩ := hr.form (by omega)
  obtain ⟨rfl, rfl⟩ : a = some ⟨g, 0, none⟩ ∧ c = cap := by simpa using hv
  obtain ⟨x, hx⟩ : ∃ x, pts[j]? = some x := ⟨pts[j]'(by omega), List.getElem?_eq_getElem _⟩
  obtain ⟨p, hp⟩ : ∃ p, l[j]? = some p := ⟨l[j], List.getElem?_eq_getElem _⟩
  have hk : ∀ c, c < 5 → w.cell? ⟨g, j * 5 + c, none⟩ = x.cells[c]? := fun c hc => by rw [hr.cellAt _ (by omega), pv_get pts j c x hx hc]
  exact ⟨g, x, p, rfl, ho g rfl, hp, hi j x p hx hp, hk 0 (by omega), hk 1 (by omega), hk 2 (by omega), hk 3 (by omega), hk 4 (by omega)⟩
theorem cell_frm {O : Nat → Prop} {w w' : World} (h : Frm O w w') {a : Addr} {v : Option Value} (hlt : a.block < w.heap.size) (hO : ¬ O a.block) (hv : w.cell? a = v) : w'.cell? a = v := (World.cell?_of_block (h.block _ hlt hO)).trans hv

section
variable {w : World} {b n₀ : Nat} {t : ByteArray} {k d : Int} {st : St} {O : Nat → Prop} {rec : Rec} {i kk nx pl er : Nat}
variable (h : Rd w b n₀ t k d kk st O) (hE : endM t i kk (k != 0) = ⟨nx, pl, er⟩) (ht : t.size ≤ 65536) (hi : i < t.size) (hd : d + kk = 24) (hd0 : 0 ≤ d)
include h hE ht hi hd hd0

set_option maxHeartbeats 2000000 in
theorem quo_err (her : er ≠ 0) : Calls Try.prog 32 #[.pointer (some ⟨b, 0, none⟩), .int .i64 i] w fun e w' => e = .returned (.tuple #[.int .i64 0, .int .i64 er]) ∧ Below n₀ w w' := by
  have hEr := ne_err her
  have hn := h.size
  have hc := Lib.hid (rend_dr h i kk nx pl er hE ht (by omega) hd hd0)
  clear h hE her
  go_enter Try.func32, Try.ntmps32
  go_wp2_with (go_at_call 43; refine hc.out.mono ?_; rintro e w1 ⟨rfl, hD⟩)
  go_ret2
  exact ⟨rfl, hD.below.mono hn⟩

variable (her : er = 0) (hn2 : i + 2 ≤ nx) (hnt : nx ≤ t.size)
include her hn2 hnt

set_option maxHeartbeats 4000000 in
theorem quo_single (hlen : st.ps.length < 90000) (hby : st.bytes.length ≤ 65536) (h39 : (bt t i == 39) = true) :
    Calls Try.prog 32 #[.pointer (some ⟨b, 0, none⟩), .int .i64 i] w fun e w' => e = .returned (.tuple #[.int .i64 nx, .int .i64 0]) ∧ RdPost w b n₀ t k d kk O (st.take (t.extract (i + 1) (nx - 1)) true) w' := by
  have hb := get_bt t
  have hEr := eq_err her
  have hlt := h.lt
  obtain ⟨a0, n0, c0, a1, c1, hB⟩ := h.blk
  have hc := Lib.hid (rend_dr h i kk nx pl er hE ht (by omega) hd hd0)
  have hH := Lib.hid h
  have hBH := Lib.hid hB
  have hsub : IntKind.i64.wrap ((nx : Int) - 1) = (nx : Int) - 1 := IntWalk.i64_in _ (by omega)
  have hnx1 : ((nx : Int) - 1).toNat = nx - 1 := by omega
  have hxz : (t.extract (i + 1) (nx - 1)).size ≤ 65536 := by rw [ext_size]; omega
  have hxzH := Lib.hid hxz
  clear h hE her hB hxz
  go_enter Try.func32, Try.ntmps32
  go_wp2_with (go_at_call 43; refine hc.out.mono ?_; rintro e w1 ⟨rfl, hD⟩; have hB1 := Lib.hid ((hD.below.block b hlt.2).trans hBH.out); have e0 : w1.cell? ⟨b, 0, none⟩ = some (.string t) := Blk.cell hB1.out 0; have hR1 := Lib.hid (Rd.below hH.out hD.below))
  refine (take_rd hR1.out (t.extract (i + 1) (nx - 1)) true (by omega) (by have := hxzH.out; omega)).mono ?_
  rintro e w' ⟨rfl, hp⟩
  have hp6 := Lib.hid (RdPost.trans (fun _ h => .inl h) (below_frm hD.below) hp)
  clear hp
  go_wp2_with fail
  go_ret2
  exact ⟨rfl, hp6.out⟩

set_option maxHeartbeats 4000000 in
theorem quo_bad (h39 : (bt t i == 39) = false) (er2 : Nat) (her2 : er2 ≠ 0)
    (hpar : Hid (∀ W, Calls Try.prog 16 #[.string (t.extract (i + 1) (nx - 1)), .int .i64 1, .int .i64 (d + 1)] W (fun e w' => Below W.heap.size W w' ∧ e = .returned (.tuple #[.slice none 0 0, .int .i64 er2])))) :
    Calls Try.prog 32 #[.pointer (some ⟨b, 0, none⟩), .int .i64 i] w fun e w' => e = .returned (.tuple #[.int .i64 0, .int .i64 er2]) ∧ Below n₀ w w' := by
  have hb := get_bt t
  have hEr := eq_err her
  have hEr2 := ne_err her2
  have hn := h.size
  have hlt := h.lt
  obtain ⟨a0, n0, c0, a1, c1, hB⟩ := h.blk
  have hc := Lib.hid (rend_dr h i kk nx pl er hE ht (by omega) hd hd0)
  have hBH := Lib.hid hB
  have hsub : IntKind.i64.wrap ((nx : Int) - 1) = (nx : Int) - 1 := IntWalk.i64_in _ (by omega)
  have hnx1 : ((nx : Int) - 1).toNat = nx - 1 := by omega
  have hd24 : d ≤ 24 := by omega
  clear h hE her hB her2
  go_enter Try.func32, Try.ntmps32
  go_wp2_with (go_at_call 43; refine hc.out.mono ?_; rintro e w1 ⟨rfl, hD⟩; have hB1 := Lib.hid ((hD.below.block b hlt.2).trans hBH.out); have e0 : w1.cell? ⟨b, 0, none⟩ = some (.string t) := Blk.cell hB1.out 0; have e2 : w1.cell? ⟨b, 2, none⟩ = some (.int .i64 d) := Blk.cell hB1.out 2)
  refine (hpar.out _).mono ?_
  rintro e w2 ⟨hb2, rfl⟩
  go_wp2_with fail
  go_ret2
  exact ⟨rfl, (hD.below.mono hn).trans (hb2.mono (by rw [hD.size]; exact hn))⟩

set_option maxRecDepth 100000 in
set_option maxHeartbeats 8000000 in
theorem quo_parts (hok : st.ok) (hm1 : st.m1 ≤ i) (hm2 : st.m2 ≤ i) (h39 : (bt t i == 39) = false) (hkk : 1 ≤ kk) (l : List PT) (hl1 : l.length + i + 2 ≤ nx) (hl2 : litTot l + i + 2 ≤ nx)
    (hpar : Hid (∀ W, Calls Try.prog 16 #[.string (t.extract (i + 1) (nx - 1)), .int .i64 1, .int .i64 (d + 1)] W (fun e w' => Below W.heap.size W w' ∧ ∃ a c T, e = .returned (.tuple #[.slice a l.length c, .int .i64 0]) ∧ WAt w' T kk (.slice a l.length c) l ∧ (∀ g, T g → W.heap.size ≤ g ∧ g < w'.heap.size)))) :
    Calls Try.prog 32 #[.pointer (some ⟨b, 0, none⟩), .int .i64 i] w fun e w' => e = .returned (.tuple #[.int .i64 nx, .int .i64 0]) ∧ RdPost w b n₀ t k d kk O (l.foldl addM (if l.length = 0 then st.take ⟨#[]⟩ true else st)) w' := by
  have hb := get_bt t
  have hEr := eq_err her
  have hlt := h.lt
  have hown := Lib.hid h.own
  obtain ⟨a0, n0, c0, a1, c1, hB⟩ := h.blk
  have hc := Lib.hid (rend_dr h i kk nx pl er hE ht (by omega) hd hd0)
  have hH := Lib.hid h
  have hBH := Lib.hid hB
  have hsub : IntKind.i64.wrap ((nx : Int) - 1) = (nx : Int) - 1 := IntWalk.i64_in _ (by omega)
  have hnx1 : ((nx : Int) - 1).toNat = nx - 1 := by omega
  have hd24 : d ≤ 24 := by omega
  obtain ⟨D, rfl⟩ : ∃ D, kk = D + 1 := ⟨kk - 1, by omega⟩
  obtain ⟨st1, hst1⟩ : ∃ s, (if l.length = 0 then st.take ⟨#[]⟩ true else st) = s := ⟨_, rfl⟩
  have hok1 : st1.ok := by rw [← hst1]; split; exact take_ok _ _ _; exact hok
  have ht0 := take_m hok ⟨#[]⟩ true
  have hz0 : (⟨#[]⟩ : ByteArray).size = 0 := rfl
  have h11 : st1.m1 ≤ i + 1 := by rw [← hst1]; split <;> omega
  have h12 : st1.m2 ≤ i := by rw [← hst1]; split <;> omega
  have hmg := m1_ge st
  have hbg := m2_ge hok
  rw [hst1]
  have hst1H := Lib.hid hst1
  have hokH := Lib.hid hok1
  clear h hE her hB hst1 hok1 hok ht0 hz0
  by_cases hl0 : l.length = 0
  · have hlz : ((l.length : Int) == 0) = true := by rw [hl0]; rfl
    have hs0 : Hid (st1 = st.take ⟨#[]⟩ true) := Lib.hid (by rw [← hst1H.out, if_pos hl0])
    clear hl0
    go_enter Try.func32, Try.ntmps32
    go_wp2_with (go_at_call 43; refine hc.out.mono ?_; rintro e w1 ⟨rfl, hD⟩; have hB1 := Lib.hid ((hD.below.block b hlt.2).trans hBH.out); have e0 : w1.cell? ⟨b, 0, none⟩ = some (.string t) := Blk.cell hB1.out 0; have e2 : w1.cell? ⟨b, 2, none⟩ = some (.int .i64 d) := Blk.cell hB1.out 2)
    refine (hpar.out _).mono ?_
    rintro e w2 ⟨hb2, ar, cr, T, rfl, hW, hT⟩
    have hF2 := Lib.hid ((below_frm hD.below (O := O)).below hb2)
    have hR2 := Lib.hid ((Rd.below hH.out hD.below).below hb2)
    have hTO : Hid (∀ g, T g → n₀ ≤ g ∧ g < w2.heap.size ∧ ¬ O g) := Lib.hid (fun g hg => ⟨by have := (hT g hg).1; have := hlt.1; have := hD.size; omega, (hT g hg).2, fun hO => by have := (hT g hg).1; have := (hown.out g hO).2; have := hD.size; omega⟩)
    have hWH := Lib.hid hW
    clear hb2 hT hW hD
    go_wp2_with fail
    refine (take_rd hR2.out ⟨#[]⟩ true (by omega) (by show st.bytes.length + 0 ≤ _; omega)).mono ?_
    rintro e w4 ⟨rfl, hq⟩
    have hstart : Hid (RdPost w2 b n₀ t k d (D + 1) O st1 w4) := Lib.hid (by rw [hs0.out]; exact hq)
    clear hq
    go_wp2_with fail
    go_loopw [61] (fun v wr => ∃ j : Nat, j ≤ l.length ∧ v = .int .i64 j ∧ Hid (RdPost w2 b n₀ t k d (D + 1) O ((l.take j).foldl addM st1) wr)) (fun v _ => l.length - (intOf v).toNat)
    case atStart => exact ⟨0, Nat.zero_le _, by go_num, hstart⟩
    case round =>
      obtain ⟨j, hj, rfl, hP⟩ := hrel
      by_cases hlt3 : j < l.length
      · obtain ⟨g, x, p, rfl, hTg, hp, hx, k0, k1, k2, k3, k4⟩ := part_at hWH.out hlt3
        obtain ⟨O', hR', hg', hF'⟩ := hP.out
        have hgl := (hTO.out g hTg).2.1
        have hgO := (hTO.out g hTg).2.2
        have c0' := cell_frm (a := ⟨g, j * 5, none⟩) hF' hgl hgO k0
        have c1' := cell_frm (a := ⟨g, j * 5 + 1, none⟩) hF' hgl hgO k1
        have c2' := cell_frm (a := ⟨g, j * 5 + 2, none⟩) hF' hgl hgO k2
        have c3' := cell_frm (a := ⟨g, j * 5 + 3, none⟩) hF' hgl hgO k3
        have c4' := cell_frm (a := ⟨g, j * 5 + 4, none⟩) hF' hgl hgO k4
        have hgw : g < wr.heap.size := Nat.lt_of_lt_of_le hgl hF'.size
        have hfm := fold_m (l.take j) hokH.out
        have hlj : (l.take j).length ≤ j := List.length_take_le _ _
        have hlt4 := litTot_take l j
        obtain ⟨st2, hst2⟩ : ∃ s, (l.take j).foldl addM st1 = s := ⟨_, rfl⟩
        have hnext := fold_next (st := st1) hp
        rw [hst2] at hfm hR' hnext
        have hm3 := m1_ge st2
        have hb3 := m2_ge hfm.2.2
        have hle1 : st2.ps.length < 90000 := by omega
        have hle2 : st2.bytes.length ≤ 65536 := by omega
        have hxs : PtIs w2 T (D + 1) x p := ⟨hx.1, hx.2.1, hx.2.2.1, hx.2.2.2.1, WAt_succ _ _ _ hx.2.2.2.2⟩
        have hkx : x.kind = p.kind := hx.1
        have htx : x.text = p.text := hx.2.1
        have hRH := Lib.hid hR'
        have hgH := Lib.hid hg'
        have hFH := Lib.hid hF'
        have hxH := Lib.hid hxs
        have hnH := Lib.hid hnext
        have hkxH := Lib.hid hkx
        have htxH := Lib.hid htx
        have hpH := Lib.hid hp
        have hPH := hP
        clear hP hst2 hnext hR' hg' hF' hxs hx k0 k1 k2 k3 k4 hfm hkx htx hp
        have hT3 : Hid (∀ g, T g → n₀ ≤ g ∧ g < wr.heap.size + 1 ∧ ¬ O' g) := Lib.hid (fun g hg => ⟨(hTO.out g hg).1, by have := (hTO.out g hg).2.1; have := hFH.out.size; omega, fun h => (hgH.out g h).elim (hTO.out g hg).2.2 (fun h => by have := (hTO.out g hg).2.1; omega)⟩)
        cases hk1 : (x.kind == 1)
        · have hne : ¬ p.kind = 1 := fun e => by rw [hkxH.out, e] at hk1; simp at hk1
          have hadd : Hid (addM st2 p = st2.part p) := Lib.hid (by unfold addM; rw [if_neg hne])
          go_wp2_with fail
          refine (part_rd (x := x) (p := p) (T2 := T) (hRH.out.alloc _) hle1 (PtIs_mono (fun _ h => h) (fun g hg => (Below.heap_alloc _ _ _ (by have := (hTO.out g hg).2.1; have := hFH.out.size; omega)).trans (hFH.out.block g (hTO.out g hg).2.1 (hTO.out g hg).2.2)) hxH.out) (fun g hg => by have := hT3.out g hg; simpa using this)).mono ?_
          rintro e w5 ⟨rfl, hq⟩
          have hq6 := Lib.hid (RdPost.trans hgH.out (hFH.out.below ((Below.refl _ _).alloc (Nat.le_refl _) _)) hq)
          clear hq
          go_wp2_with fail
          go_roundw
          case rel => exact ⟨j + 1, by omega, by go_num, Lib.hid (by rw [hnH.out, hadd.out]; exact hq6.out)⟩
          case measure => simp [intOf]; omega
        · have hy : p.kind = 1 := by rw [hkxH.out] at hk1; simp at hk1; omega
          have hadd : Hid (addM st2 p = st2.take p.text true) := Lib.hid (by unfold addM; rw [if_pos hy])
          have hts := litTot_at l j p hpH.out hy
          have hyH := Lib.hid hy
          clear hy
          rw [htxH.out] at c1'
          go_wp2_with fail
          refine (take_rd (hRH.out.alloc _) p.text true (by omega) (by omega)).mono ?_
          rintro e w5 ⟨rfl, hq⟩
          have hq6 := Lib.hid (RdPost.trans hgH.out (hFH.out.below ((Below.refl _ _).alloc (Nat.le_refl _) _)) hq)
          clear hq
          go_wp2_with fail
          go_roundw
          case rel => exact ⟨j + 1, by omega, by go_num, Lib.hid (by rw [hnH.out, hadd.out]; exact hq6.out)⟩
          case measure => simp [intOf]; omega
      · obtain rfl : j = l.length := by omega
        rw [List.take_length] at hP
        have hfin := Lib.hid (RdPost.trans (fun _ h => .inl h) hF2.out hP.out)
        clear hP
        go_wp2_with fail
        go_ret2
        exact ⟨rfl, hfin.out⟩
  · have hlz : ((l.length : Int) == 0) = false := beq_eq_false_iff_ne.2 (by omega)
    have hs0 : Hid (st1 = st) := Lib.hid (by rw [← hst1H.out, if_neg hl0])
    clear hl0
    go_enter Try.func32, Try.ntmps32
    go_wp2_with (go_at_call 43; refine hc.out.mono ?_; rintro e w1 ⟨rfl, hD⟩; have hB1 := Lib.hid ((hD.below.block b hlt.2).trans hBH.out); have e0 : w1.cell? ⟨b, 0, none⟩ = some (.string t) := Blk.cell hB1.out 0; have e2 : w1.cell? ⟨b, 2, none⟩ = some (.int .i64 d) := Blk.cell hB1.out 2)
    refine (hpar.out _).mono ?_
    rintro e w2 ⟨hb2, ar, cr, T, rfl, hW, hT⟩
    have hF2 := Lib.hid ((below_frm hD.below (O := O)).below hb2)
    have hR2 := Lib.hid ((Rd.below hH.out hD.below).below hb2)
    have hTO : Hid (∀ g, T g → n₀ ≤ g ∧ g < w2.heap.size ∧ ¬ O g) := Lib.hid (fun g hg => ⟨by have := (hT g hg).1; have := hlt.1; have := hD.size; omega, (hT g hg).2, fun hO => by have := (hT g hg).1; have := (hown.out g hO).2; have := hD.size; omega⟩)
    have hWH := Lib.hid hW
    clear hb2 hT hW hD
    go_wp2_with fail
    have hstart : Hid (RdPost w2 b n₀ t k d (D + 1) O st1 w2) := Lib.hid (by rw [hs0.out]; exact RdPost.refl hR2.out)
    go_loopw [61] (fun v wr => ∃ j : Nat, j ≤ l.length ∧ v = .int .i64 j ∧ Hid (RdPost w2 b n₀ t k d (D + 1) O ((l.take j).foldl addM st1) wr)) (fun v _ => l.length - (intOf v).toNat)
    case atStart => exact ⟨0, Nat.zero_le _, by go_num, hstart⟩
    case round =>
      obtain ⟨j, hj, rfl, hP⟩ := hrel
      by_cases hlt3 : j < l.length
      · obtain ⟨g, x, p, rfl, hTg, hp, hx, k0, k1, k2, k3, k4⟩ := part_at hWH.out hlt3
        obtain ⟨O', hR', hg', hF'⟩ := hP.out
        have hgl := (hTO.out g hTg).2.1
        have hgO := (hTO.out g hTg).2.2
        have c0' := cell_frm (a := ⟨g, j * 5, none⟩) hF' hgl hgO k0
        have c1' := cell_frm (a := ⟨g, j * 5 + 1, none⟩) hF' hgl hgO k1
        have c2' := cell_frm (a := ⟨g, j * 5 + 2, none⟩) hF' hgl hgO k2
        have c3' := cell_frm (a := ⟨g, j * 5 + 3, none⟩) hF' hgl hgO k3
        have c4' := cell_frm (a := ⟨g, j * 5 + 4, none⟩) hF' hgl hgO k4
        have hgw : g < wr.heap.size := Nat.lt_of_lt_of_le hgl hF'.size
        have hfm := fold_m (l.take j) hokH.out
        have hlj : (l.take j).length ≤ j := List.length_take_le _ _
        have hlt4 := litTot_take l j
        obtain ⟨st2, hst2⟩ : ∃ s, (l.take j).foldl addM st1 = s := ⟨_, rfl⟩
        have hnext := fold_next (st := st1) hp
        rw [hst2] at hfm hR' hnext
        have hm3 := m1_ge st2
        have hb3 := m2_ge hfm.2.2
        have hle1 : st2.ps.length < 90000 := by omega
        have hle2 : st2.bytes.length ≤ 65536 := by omega
        have hxs : PtIs w2 T (D + 1) x p := ⟨hx.1, hx.2.1, hx.2.2.1, hx.2.2.2.1, WAt_succ _ _ _ hx.2.2.2.2⟩
        have hkx : x.kind = p.kind := hx.1
        have htx : x.text = p.text := hx.2.1
        have hRH := Lib.hid hR'
        have hgH := Lib.hid hg'
        have hFH := Lib.hid hF'
        have hxH := Lib.hid hxs
        have hnH := Lib.hid hnext
        have hkxH := Lib.hid hkx
        have htxH := Lib.hid htx
        have hpH := Lib.hid hp
        have hPH := hP
        clear hP hst2 hnext hR' hg' hF' hxs hx k0 k1 k2 k3 k4 hfm hkx htx hp
        have hT3 : Hid (∀ g, T g → n₀ ≤ g ∧ g < wr.heap.size + 1 ∧ ¬ O' g) := Lib.hid (fun g hg => ⟨(hTO.out g hg).1, by have := (hTO.out g hg).2.1; have := hFH.out.size; omega, fun h => (hgH.out g h).elim (hTO.out g hg).2.2 (fun h => by have := (hTO.out g hg).2.1; omega)⟩)
        cases hk1 : (x.kind == 1)
        · have hne : ¬ p.kind = 1 := fun e => by rw [hkxH.out, e] at hk1; simp at hk1
          have hadd : Hid (addM st2 p = st2.part p) := Lib.hid (by unfold addM; rw [if_neg hne])
          go_wp2_with fail
          refine (part_rd (x := x) (p := p) (T2 := T) (hRH.out.alloc _) hle1 (PtIs_mono (fun _ h => h) (fun g hg => (Below.heap_alloc _ _ _ (by have := (hTO.out g hg).2.1; have := hFH.out.size; omega)).trans (hFH.out.block g (hTO.out g hg).2.1 (hTO.out g hg).2.2)) hxH.out) (fun g hg => by have := hT3.out g hg; simpa using this)).mono ?_
          rintro e w5 ⟨rfl, hq⟩
          have hq6 := Lib.hid (RdPost.trans hgH.out (hFH.out.below ((Below.refl _ _).alloc (Nat.le_refl _) _)) hq)
          clear hq
          go_wp2_with fail
          go_roundw
          case rel => exact ⟨j + 1, by omega, by go_num, Lib.hid (by rw [hnH.out, hadd.out]; exact hq6.out)⟩
          case measure => simp [intOf]; omega
        · have hy : p.kind = 1 := by rw [hkxH.out] at hk1; simp at hk1; omega
          have hadd : Hid (addM st2 p = st2.take p.text true) := Lib.hid (by unfold addM; rw [if_pos hy])
          have hts := litTot_at l j p hpH.out hy
          have hyH := Lib.hid hy
          clear hy
          rw [htxH.out] at c1'
          go_wp2_with fail
          refine (take_rd (hRH.out.alloc _) p.text true (by omega) (by omega)).mono ?_
          rintro e w5 ⟨rfl, hq⟩
          have hq6 := Lib.hid (RdPost.trans hgH.out (hFH.out.below ((Below.refl _ _).alloc (Nat.le_refl _) _)) hq)
          clear hq
          go_wp2_with fail
          go_roundw
          case rel => exact ⟨j + 1, by omega, by go_num, Lib.hid (by rw [hnH.out, hadd.out]; exact hq6.out)⟩
          case measure => simp [intOf]; omega
      · obtain rfl : j = l.length := by omega
        rw [List.take_length] at hP
        have hfin := Lib.hid (RdPost.trans (fun _ h => .inl h) hF2.out hP.out)
        clear hP
        go_wp2_with fail
        go_ret2
        exact ⟨rfl, hfin.out⟩
omit hE her hn2 hnt hi in
theorem quotes_rd (hi : i < t.size) (hq : bt t i = 39 ∨ bt t i = 34) (hk : k = 0) (hok : st.ok) (hm1 : st.m1 ≤ i) (hm2 : st.m2 ≤ i) (hrec : 1 ≤ kk → Nest rec kk d) (hro : RecOk rec) :
    Calls Try.prog 32 #[.pointer (some ⟨b, 0, none⟩), .int .i64 i] w (StepR w b n₀ t k d kk O (quotesM rec t k kk i st)) := by
  have hbeg : begM t i (k != 0) = true := by
    unfold begM
    rw [hk]
    rcases hq with e | e <;> rw [e] <;> rfl
  obtain ⟨⟨nx, pl, er⟩, hE⟩ : ∃ r, endM t i kk (k != 0) = r := ⟨_, rfl⟩
  have hw : endM t i kk (k != 0) = wholeM t kk i (k != 0) := by unfold endM; rw [if_pos hbeg]
  have hmg := m1_ge st
  have hbg := m2_ge hok
  by_cases her : er = 0
  · have he0 : (wholeM t kk i (k != 0)).err = 0 := by rw [← hw, hE]; exact her
    obtain ⟨hn2, hnt⟩ : i + 2 ≤ nx ∧ nx ≤ t.size := by
      have := end_le (kk := kk) hi hbeg (by rw [hE]; exact her)
      rw [hE] at this
      exact this
    cases h39 : (bt t i == 39)
    · have hne : ¬ bt t i = 39 := by simpa using h39
      have hkk : 1 ≤ kk := by
        cases kk with
        | zero => have := whole_deep he0; rw [h39] at this; cases this
        | succ n => omega
      have hrec := hrec hkk
      have hsz : (t.extract (i + 1) (nx - 1)).size = nx - 1 - (i + 1) := by rw [ext_size]; omega
      have hS : quotesM rec t k kk i st = match rec (t.extract (i + 1) (nx - 1)) 1 with
          | .error e => .error e
          | .ok l => .ok (nx, l.foldl addM (if l.length = 0 then st.take ⟨#[]⟩ true else st)) := by unfold quotesM; rw [hE, if_neg (by simpa using her), if_neg hne]; rfl
      cases hres : rec (t.extract (i + 1) (nx - 1)) 1 with
      | error er2 =>
        rw [hS, hres]
        have he2 := nest_err (hrec _ 1 w (by omega) (.inr (.inl rfl))) hres
        exact (quo_bad h hE ht hi hd hd0 her hn2 hnt h39 er2 he2 (Lib.hid (nest_bad hrec (by omega) (.inr (.inl rfl)) hres))).mono fun e w' ⟨h1, h2⟩ => .inl ⟨_, rfl, he2, h1, h2⟩
      | ok l =>
        rw [hS, hres]
        obtain ⟨l1, l2⟩ := hro _ _ _ hres
        exact (quo_parts h hE ht hi hd hd0 her hn2 hnt hok hm1 hm2 h39 hkk l (by omega) (by omega) (Lib.hid (nest_ok hrec (by omega) (.inr (.inl rfl)) hres))).mono fun e w' ⟨h1, h2⟩ => .inr ⟨_, _, rfl, h1, h2⟩
    · have heq : bt t i = 39 := by simpa using h39
      have hS : quotesM rec t k kk i st = .ok (nx, st.take (t.extract (i + 1) (nx - 1)) true) := by unfold quotesM; rw [hE, if_neg (by simpa using her), if_pos heq]
      rw [hS]
      exact (quo_single h hE ht hi hd hd0 her hn2 hnt (by omega) (by omega) h39).mono fun e w' ⟨h1, h2⟩ => .inr ⟨_, _, rfl, h1, h2⟩
  · have hS : quotesM rec t k kk i st = .error er := by unfold quotesM; rw [hE, if_pos her]
    rw [hS]
    exact (quo_err h hE ht hi hd hd0 her).mono fun e w' ⟨h1, h2⟩ => .inl ⟨_, rfl, her, h1, h2⟩
end
end Go.Proofs.Ytgpkhpheomaiaaa
