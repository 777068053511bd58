/- substitution of a word's reader. No condition. -/
import Derived.Test.YtgpkhpheomaiaaaRdL
namespace Go.Proofs.Ytgpkhpheomaiaaa
open Go.RowKit Go.PlainAid
attribute [local go_sem] Oper.semAt_some

theorem b5 {g : Nat} {w1 w2 : World} (h : Below g w1 w2) {v0 v1 v2 v3 v4 : Value} : Below g w1 (((((w2.setCell ⟨g, 0, none⟩ v0).setCell ⟨g, 1, none⟩ v1).setCell ⟨g, 2, none⟩ v2).setCell ⟨g, 3, none⟩ v3).setCell ⟨g, 4, none⟩ v4) :=
  ((((h.setCell (Nat.le_refl _) _).setCell (Nat.le_refl _) _).setCell (Nat.le_refl _) _).setCell (Nat.le_refl _) _).setCell (Nat.le_refl _) _
theorem h5 {g k : Nat} {w2 : World} (h : k ≠ g) {v0 v1 v2 v3 v4 : Value} : (((((w2.setCell ⟨g, 0, none⟩ v0).setCell ⟨g, 1, none⟩ v1).setCell ⟨g, 2, none⟩ v2).setCell ⟨g, 3, none⟩ v3).setCell ⟨g, 4, none⟩ v4).heap[k]? = w2.heap[k]? :=
  (Below.heap_setCell _ _ _ _ h).trans ((Below.heap_setCell _ _ _ _ h).trans ((Below.heap_setCell _ _ _ _ h).trans ((Below.heap_setCell _ _ _ _ h).trans (Below.heap_setCell _ _ _ _ h))))
section
variable {w : World} {b n₀ : Nat} {t : ByteArray} {k d : Int} {st : St} {O : Nat → Prop} {rec : Rec} {i kk nx pl er : Nat}
variable (h : Rd w b n₀ t k d kk st O) (hE : endM t i kk (k != 0) = ⟨nx, pl, er⟩) (ht : t.size ≤ 65536) (hi : i + 1 < t.size) (hd : d + kk = 24) (hd0 : 0 ≤ d)
include h hE ht hi hd hd0

set_option maxHeartbeats 2000000 in
theorem sub_err (her : er ≠ 0) : Calls Try.prog 45 #[.pointer (some ⟨b, 0, none⟩), .int .i64 i] w fun e w' => e = .returned (.tuple #[.int .i64 0, .int .i64 er]) ∧ Below n₀ w w' := by
  have hEr := ne_err her
  have hn := h.size
  have hc := Lib.hid (rend_dr h i kk nx pl er hE ht (by omega) hd hd0)
  clear h hE her
  go_enter Try.func45, Try.ntmps45
  go_wp2_with (go_at_call 43; refine hc.out.mono ?_; rintro e w1 ⟨rfl, hD⟩)
  go_ret2
  exact ⟨rfl, hD.below.mono hn⟩

variable (her : er = 0) (hn3 : i + 3 ≤ nx) (hnt : nx ≤ t.size)
include her hn3 hnt

set_option maxHeartbeats 4000000 in
theorem sub_brace (hlen : st.ps.length < 90000) (h123 : (bt t (i + 1) == 123) = true) (p : PT)
    (hpar : Hid (∀ W, Rd W b n₀ t k d kk st O → Calls Try.prog 51 #[.pointer (some ⟨b, 0, none⟩), .string (t.extract (i + 2) (nx - 1))] W (fun e w' => Below W.heap.size W w' ∧ ∃ x T, e = .returned (.tuple #[Pt.v x, .int .i64 0]) ∧ PtIs w' T kk x p ∧ ∀ g, T g → W.heap.size ≤ g ∧ g < w'.heap.size))) :
    Calls Try.prog 45 #[.pointer (some ⟨b, 0, none⟩), .int .i64 i] w fun e w' => e = .returned (.tuple #[.int .i64 nx, .int .i64 0]) ∧ RdPost w b n₀ t k d kk O (st.part (p.quote (k != 0))) w' := by
  have hb := get_bt t
  have hEr := eq_err her
  have hlt := h.lt
  have hown := Lib.hid h.own
  obtain ⟨a0, n0, c0, a1, c1, hB⟩ := h.blk
  obtain ⟨qv, hqv⟩ : ∃ v, (k != 0) = v := ⟨_, rfl⟩
  have hc := Lib.hid (rend_dr h i kk nx pl er hE ht (by omega) hd hd0)
  have hH := Lib.hid h
  have hBH := Lib.hid hB
  have hqH := Lib.hid hqv
  have hsub : IntKind.i64.wrap ((nx : Int) - 1) = (nx : Int) - 1 := IntWalk.i64_in _ (by omega)
  have hnx1 : ((nx : Int) - 1).toNat = nx - 1 := by omega
  rw [hqv]
  clear h hE her hB hqv
  go_enter Try.func45, Try.ntmps45
  go_wp2_with (go_at_call 43; refine hc.out.mono ?_; rintro e w1 ⟨rfl, hD⟩; have hB1 := Lib.hid ((hD.below.block b hlt.2).trans hBH.out); have e0 : w1.cell? ⟨b, 0, none⟩ = some (.string t) := Blk.cell hB1.out 0; have hR1 := Lib.hid (Rd.below hH.out hD.below); have hlt1 : b < w1.heap.size := by (rw [hD.size]; exact hlt.2))
  go_wp2_with fail
  refine (hpar.out _ (hR1.out.alloc _)).mono ?_
  rintro e w2 ⟨hb2, x, T, rfl, hx, hT⟩
  have hs0 : (w1.alloc (.cells #[.int .i64 3, .string (t.extract (i + 2) (nx - 1)), .string ⟨#[]⟩, .slice none 0 0, .bool false] 35)).heap.size = w1.heap.size + 1 := by simp
  have hbx := Lib.hid ((((Below.refl w1.heap.size w1).alloc (Nat.le_refl _) (.cells #[.int .i64 3, .string (t.extract (i + 2) (nx - 1)), .string ⟨#[]⟩, .slice none 0 0, .bool false] 35)).trans (hb2.mono (by rw [hs0]; omega))))
  have hN : Blk w2 w1.heap.size 35 #[.int .i64 3, .string (t.extract (i + 2) (nx - 1)), .string ⟨#[]⟩, .slice none 0 0, .bool false] := (hb2.block _ (by rw [hs0]; omega)).trans (Blk.new w1 _ _)
  have g0 : w2.cell? ⟨w1.heap.size, 0, none⟩ = some (.int .i64 3) := hN.cell 0
  have g1 : w2.cell? ⟨w1.heap.size, 1, none⟩ = some (.string (t.extract (i + 2) (nx - 1))) := hN.cell 1
  have g2 : w2.cell? ⟨w1.heap.size, 2, none⟩ = some (.string ⟨#[]⟩) := hN.cell 2
  have g3 : w2.cell? ⟨w1.heap.size, 3, none⟩ = some (.slice none 0 0) := hN.cell 3
  have g4 : w2.cell? ⟨w1.heap.size, 4, none⟩ = some (.bool false) := hN.cell 4
  have gf := hN.frozen
  have hz2 : w1.heap.size < w2.heap.size := by have := hb2.size; omega
  have hne : Hid (∀ g, T g → g ≠ w1.heap.size) := Lib.hid (fun g hg e => by have := (hT g hg).1; omega)
  have hTO : Hid (∀ g, T g → n₀ ≤ g ∧ g < w2.heap.size ∧ ¬ O g) := Lib.hid (fun g hg => ⟨by have := (hT g hg).1; have := hlt.1; omega, (hT g hg).2, fun hO => by have := (hT g hg).1; have := (hown.out g hO).2; have := hD.size; omega⟩)
  have hxH := Lib.hid hx
  have hDH := Lib.hid hD
  have hNH := Lib.hid hN
  clear hb2 hx hT hD hs0 hN
  go_wp2_with fail
  obtain ⟨W3, hW3⟩ : ∃ W, ((((w2.setCell ⟨w1.heap.size, 0, none⟩ (.int .i64 x.kind)).setCell ⟨w1.heap.size, 1, none⟩ (.string x.text)).setCell ⟨w1.heap.size, 2, none⟩ (.string x.op)).setCell ⟨w1.heap.size, 3, none⟩ (.slice x.wa x.wn x.wc)).setCell ⟨w1.heap.size, 4, none⟩ (.bool x.quoted) = W := ⟨_, rfl⟩
  have hb3 := Lib.hid (hW3 ▸ b5 hbx.out : Below w1.heap.size w1 W3)
  have hf3 : Hid (∀ g, g ≠ w1.heap.size → W3.heap[g]? = w2.heap[g]?) := Lib.hid (fun g hg => by rw [← hW3]; exact h5 hg)
  have hN3 : Blk W3 w1.heap.size 35 #[.int .i64 x.kind, .string x.text, .string x.op, .slice x.wa x.wn x.wc, .bool x.quoted] := by
    rw [← hW3]; exact ((((hNH.out.set_ 0 _).set_ 1 _).set_ 2 _).set_ 3 _).set_ 4 _
  have hs3 : W3.heap.size = w2.heap.size := by rw [← hW3]; simp
  rw [hW3]
  clear hW3 g0 g1 g2 g3 g4 gf
  refine (quoted_rd (Rd.below hR1.out hb3.out) _ hqH.out).mono ?_
  rintro e w' ⟨rfl, rfl⟩
  have q0 : w'.cell? ⟨w1.heap.size, 0, none⟩ = some (.int .i64 x.kind) := hN3.cell 0
  have q1 : w'.cell? ⟨w1.heap.size, 1, none⟩ = some (.string x.text) := hN3.cell 1
  have q2 : w'.cell? ⟨w1.heap.size, 2, none⟩ = some (.string x.op) := hN3.cell 2
  have q3 : w'.cell? ⟨w1.heap.size, 3, none⟩ = some (.slice x.wa x.wn x.wc) := hN3.cell 3
  have q4 : w'.cell? ⟨w1.heap.size, 4, none⟩ = some (.bool x.quoted) := hN3.cell 4
  have qf := hN3.frozen
  clear hN3
  go_wp2_with fail
  refine (part_rd (x := ⟨x.kind, x.text, x.op, x.wa, x.wn, x.wc, qv⟩) (p := p.quote qv) (T2 := T) (Rd.below hR1.out (hb3.out.setCell (Nat.le_refl _) _)) hlen (PtIs.quote hxH.out qv (fun g hg => (Below.heap_setCell _ _ _ _ (hne.out g hg)).trans (hf3.out g (hne.out g hg)))) (fun g hg => by have := hTO.out g hg; simpa [hs3] using this)).mono ?_
  rintro e w5 ⟨rfl, hp5⟩
  have hp6 := Lib.hid (sub_fin hDH.out (hb3.out.setCell (Nat.le_refl _) _) hp5)
  clear hp5
  go_wp2_with fail
  go_ret2
  exact ⟨rfl, hp6.out⟩

set_option maxHeartbeats 4000000 in
theorem sub_brace_err (h123 : (bt t (i + 1) == 123) = true) (er2 : Nat) (her2 : er2 ≠ 0)
    (hpar : Hid (∀ W, Rd W b n₀ t k d kk st O → Calls Try.prog 51 #[.pointer (some ⟨b, 0, none⟩), .string (t.extract (i + 2) (nx - 1))] W (fun e w' => Below W.heap.size W w' ∧ ∃ x, e = .returned (.tuple #[Pt.v x, .int .i64 er2])))) :
    Calls Try.prog 45 #[.pointer (some ⟨b, 0, none⟩), .int .i64 i] w fun e w' => e = .returned (.tuple #[.int .i64 0, .int .i64 er2]) ∧ Below n₀ w w' := by
  have hb := get_bt t
  have hEr := eq_err her
  have hEr2 := ne_err her2
  have hlt := h.lt
  have hn := h.size
  obtain ⟨a0, n0, c0, a1, c1, hB⟩ := h.blk
  have hc := Lib.hid (rend_dr h i kk nx pl er hE ht (by omega) hd hd0)
  have hH := Lib.hid h
  have hBH := Lib.hid hB
  have hsub : IntKind.i64.wrap ((nx : Int) - 1) = (nx : Int) - 1 := IntWalk.i64_in _ (by omega)
  have hnx1 : ((nx : Int) - 1).toNat = nx - 1 := by omega
  clear h hE her hB
  go_enter Try.func45, Try.ntmps45
  go_wp2_with (go_at_call 43; refine hc.out.mono ?_; rintro e w1 ⟨rfl, hD⟩; have hB1 := Lib.hid ((hD.below.block b hlt.2).trans hBH.out); have e0 : w1.cell? ⟨b, 0, none⟩ = some (.string t) := Blk.cell hB1.out 0; have hR1 := Lib.hid (Rd.below hH.out hD.below); have hlt1 : b < w1.heap.size := by (rw [hD.size]; exact hlt.2))
  go_wp2_with fail
  refine (hpar.out _ (hR1.out.alloc _)).mono ?_
  rintro e w2 ⟨hb2, x, rfl⟩
  have hs0 : (w1.alloc (.cells #[.int .i64 3, .string (t.extract (i + 2) (nx - 1)), .string ⟨#[]⟩, .slice none 0 0, .bool false] 35)).heap.size = w1.heap.size + 1 := by simp
  have hbx := Lib.hid ((((Below.refl w1.heap.size w1).alloc (Nat.le_refl _) (.cells #[.int .i64 3, .string (t.extract (i + 2) (nx - 1)), .string ⟨#[]⟩, .slice none 0 0, .bool false] 35)).trans (hb2.mono (by rw [hs0]; omega))))
  have hN : Blk w2 w1.heap.size 35 #[.int .i64 3, .string (t.extract (i + 2) (nx - 1)), .string ⟨#[]⟩, .slice none 0 0, .bool false] := (hb2.block _ (by rw [hs0]; omega)).trans (Blk.new w1 _ _)
  have g0 : w2.cell? ⟨w1.heap.size, 0, none⟩ = some (.int .i64 3) := hN.cell 0
  have g1 : w2.cell? ⟨w1.heap.size, 1, none⟩ = some (.string (t.extract (i + 2) (nx - 1))) := hN.cell 1
  have g2 : w2.cell? ⟨w1.heap.size, 2, none⟩ = some (.string ⟨#[]⟩) := hN.cell 2
  have g3 : w2.cell? ⟨w1.heap.size, 3, none⟩ = some (.slice none 0 0) := hN.cell 3
  have g4 : w2.cell? ⟨w1.heap.size, 4, none⟩ = some (.bool false) := hN.cell 4
  have gf := hN.frozen
  have hDH := Lib.hid hD
  clear hb2 hD hs0 hN
  go_wp2_with fail
  go_ret2
  exact ⟨rfl, (hDH.out.below.mono hn).trans ((b5 hbx.out).mono (by rw [hDH.out.size]; exact hn))⟩

set_option maxHeartbeats 4000000 in
theorem sub_plain (hlen : st.ps.length < 90000) (h123 : (bt t (i + 1) == 123) = false) (hex : exprM (t.extract (i + 2) (nx - 1)) kk (k != 0) = false) :
    Calls Try.prog 45 #[.pointer (some ⟨b, 0, none⟩), .int .i64 i] w fun e w' => e = .returned (.tuple #[.int .i64 nx, .int .i64 0]) ∧ RdPost w b n₀ t k d kk O (st.part ((PT.mk 3 (t.extract (i + 2) (nx - 1)) ⟨#[]⟩ [] false).quote (k != 0))) w' := by
  have hb := get_bt t
  have hEr := eq_err her
  have hxz : (t.extract (i + 2) (nx - 1)).size < 65536 := by rw [ext_size]; omega
  have hexH := Lib.hid (fun W (hW : Rd W b n₀ t k d kk st O) => expr_dr hW (t.extract (i + 2) (nx - 1)) kk false hex hxz hd hd0)
  have hlt := h.lt
  have hown := Lib.hid h.own
  obtain ⟨a0, n0, c0, a1, c1, hB⟩ := h.blk
  obtain ⟨qv, hqv⟩ : ∃ v, (k != 0) = v := ⟨_, rfl⟩
  have hc := Lib.hid (rend_dr h i kk nx pl er hE ht (by omega) hd hd0)
  have hH := Lib.hid h
  have hBH := Lib.hid hB
  have hqH := Lib.hid hqv
  have hsub : IntKind.i64.wrap ((nx : Int) - 1) = (nx : Int) - 1 := IntWalk.i64_in _ (by omega)
  have hnx1 : ((nx : Int) - 1).toNat = nx - 1 := by omega
  rw [hqv]
  clear hex
  clear h hE her hB hqv
  go_enter Try.func45, Try.ntmps45
  go_wp2_with (go_at_call 43; refine hc.out.mono ?_; rintro e w1 ⟨rfl, hD⟩; have hB1 := Lib.hid ((hD.below.block b hlt.2).trans hBH.out); have e0 : w1.cell? ⟨b, 0, none⟩ = some (.string t) := Blk.cell hB1.out 0; have hR1 := Lib.hid (Rd.below hH.out hD.below); have hlt1 : b < w1.heap.size := by (rw [hD.size]; exact hlt.2))
  go_wp2_with fail
  refine (hexH.out _ (hR1.out.alloc _)).mono ?_
  rintro e w2 ⟨rfl, hD2⟩
  have hb2 := hD2.below
  have hs0 : (w1.alloc (.cells #[.int .i64 3, .string (t.extract (i + 2) (nx - 1)), .string ⟨#[]⟩, .slice none 0 0, .bool false] 35)).heap.size = w1.heap.size + 1 := by simp
  have hbx := Lib.hid ((((Below.refl w1.heap.size w1).alloc (Nat.le_refl _) (.cells #[.int .i64 3, .string (t.extract (i + 2) (nx - 1)), .string ⟨#[]⟩, .slice none 0 0, .bool false] 35)).trans (hb2.mono (by rw [hs0]; omega))))
  have hN : Blk w2 w1.heap.size 35 #[.int .i64 3, .string (t.extract (i + 2) (nx - 1)), .string ⟨#[]⟩, .slice none 0 0, .bool false] := (hb2.block _ (by rw [hs0]; omega)).trans (Blk.new w1 _ _)
  have q0 : w2.cell? ⟨w1.heap.size, 0, none⟩ = some (.int .i64 3) := hN.cell 0
  have q1 : w2.cell? ⟨w1.heap.size, 1, none⟩ = some (.string (t.extract (i + 2) (nx - 1))) := hN.cell 1
  have q2 : w2.cell? ⟨w1.heap.size, 2, none⟩ = some (.string ⟨#[]⟩) := hN.cell 2
  have q3 : w2.cell? ⟨w1.heap.size, 3, none⟩ = some (.slice none 0 0) := hN.cell 3
  have q4 : w2.cell? ⟨w1.heap.size, 4, none⟩ = some (.bool false) := hN.cell 4
  have qf := hN.frozen
  have hDH := Lib.hid hD
  clear hb2 hD hs0 hN hD2
  go_wp2_with fail
  refine (quoted_rd (Rd.below hR1.out hbx.out) _ hqH.out).mono ?_
  rintro e w' ⟨rfl, rfl⟩
  go_wp2_with fail
  refine (part_rd (x := ⟨3, t.extract (i + 2) (nx - 1), ⟨#[]⟩, none, 0, 0, qv⟩) (p := (PT.mk 3 (t.extract (i + 2) (nx - 1)) ⟨#[]⟩ [] false).quote qv) (T2 := fun _ => False) (Rd.below hR1.out (hbx.out.setCell (Nat.le_refl _) _)) hlen ⟨rfl, rfl, rfl, rfl, WAt_nil _ _ _⟩ (fun g hg => hg.elim)).mono ?_
  rintro e w5 ⟨rfl, hp5⟩
  have hp6 := Lib.hid (sub_fin hDH.out (hbx.out.setCell (Nat.le_refl _) _) hp5)
  clear hp5
  go_wp2_with fail
  go_ret2
  exact ⟨rfl, hp6.out⟩

set_option maxRecDepth 100000 in
set_option maxHeartbeats 4000000 in
theorem sub_expr (hlen : st.ps.length < 90000) (h123 : (bt t (i + 1) == 123) = false) (hex : exprM (t.extract (i + 2) (nx - 1)) kk (k != 0) = true) (hx2 : 2 ≤ (t.extract (i + 2) (nx - 1)).size) (l : List PT)
    (hpar : Hid (∀ W, Calls Try.prog 16 #[.string ((t.extract (i + 2) (nx - 1)).extract 1 ((t.extract (i + 2) (nx - 1)).size - 1)), .int .i64 2, .int .i64 (d + 1)] W (fun e w' => Below W.heap.size W w' ∧ ∃ a c T, e = .returned (.tuple #[.slice a l.length c, .int .i64 0]) ∧ WAt w' T kk (.slice a l.length c) l ∧ (∀ g, T g → W.heap.size ≤ g ∧ g < w'.heap.size)))) :
    Calls Try.prog 45 #[.pointer (some ⟨b, 0, none⟩), .int .i64 i] w fun e w' => e = .returned (.tuple #[.int .i64 nx, .int .i64 0]) ∧ RdPost w b n₀ t k d kk O (st.part ((PT.mk 4 ⟨#[]⟩ ⟨#[]⟩ l false).quote (k != 0))) w' := by
  have hb := get_bt t
  have hEr := eq_err her
  have hxz : (t.extract (i + 2) (nx - 1)).size < 65536 := by rw [ext_size]; omega
  have hexH := Lib.hid (fun W (hW : Rd W b n₀ t k d kk st O) => expr_dr hW (t.extract (i + 2) (nx - 1)) kk true hex hxz hd hd0)
  have hlt := h.lt
  have hown := Lib.hid h.own
  obtain ⟨a0, n0, c0, a1, c1, hB⟩ := h.blk
  obtain ⟨qv, hqv⟩ : ∃ v, (k != 0) = v := ⟨_, rfl⟩
  have hc := Lib.hid (rend_dr h i kk nx pl er hE ht (by omega) hd hd0)
  have hH := Lib.hid h
  have hBH := Lib.hid hB
  have hqH := Lib.hid hqv
  have hsub : IntKind.i64.wrap ((nx : Int) - 1) = (nx : Int) - 1 := IntWalk.i64_in _ (by omega)
  have hnx1 : ((nx : Int) - 1).toNat = nx - 1 := by omega
  rw [hqv]
  clear hex
  clear h hE her hB hqv
  obtain ⟨bw, hbw⟩ : ∃ x, t.extract (i + 2) (nx - 1) = x := ⟨_, rfl⟩
  rw [hbw] at hpar hx2 hxz
  have hbwH := Lib.hid hbw
  clear hbw
  have hd24 : d ≤ 24 := by omega
  have hdd : IntKind.i64.wrap (d + 1) = d + 1 := IntWalk.i64_in _ (by omega)
  have hzz : IntKind.i64.wrap ((bw.size : Int) - 1) = (bw.size : Int) - 1 := IntWalk.i64_in _ (by omega)
  have hz1 : ((bw.size : Int) - 1).toNat = bw.size - 1 := by omega
  have hz0 : 1 ≤ (bw.size : Int) - 1 := by omega
  have hz4 : 0 ≤ (bw.size : Int) - 1 := by omega
  have hz5 : (bw.size : Int) - 1 ≤ bw.size := by omega
  go_enter Try.func45, Try.ntmps45
  go_wp2_with (go_at_call 43; refine hc.out.mono ?_; rintro e w1 ⟨rfl, hD⟩; have hB1 := Lib.hid ((hD.below.block b hlt.2).trans hBH.out); have e0 : w1.cell? ⟨b, 0, none⟩ = some (.string t) := Blk.cell hB1.out 0; have hR1 := Lib.hid (Rd.below hH.out hD.below); have hlt1 : b < w1.heap.size := by (rw [hD.size]; exact hlt.2))
  go_wp2_with fail
  refine (hexH.out _ (hR1.out.alloc _)).mono ?_
  rintro e w2 ⟨rfl, hD2⟩
  have hb2 := hD2.below
  have hs0 : (w1.alloc (.cells #[.int .i64 3, .string (t.extract (i + 2) (nx - 1)), .string ⟨#[]⟩, .slice none 0 0, .bool false] 35)).heap.size = w1.heap.size + 1 := by simp
  have hbx := Lib.hid ((((Below.refl w1.heap.size w1).alloc (Nat.le_refl _) (.cells #[.int .i64 3, .string (t.extract (i + 2) (nx - 1)), .string ⟨#[]⟩, .slice none 0 0, .bool false] 35)).trans (hb2.mono (by rw [hs0]; omega))))
  have hN : Blk w2 w1.heap.size 35 #[.int .i64 3, .string (t.extract (i + 2) (nx - 1)), .string ⟨#[]⟩, .slice none 0 0, .bool false] := (hb2.block _ (by rw [hs0]; omega)).trans (Blk.new w1 _ _)
  have hs2 : w2.heap.size = w1.heap.size + 1 := by rw [hD2.size, hs0]
  rw [hbwH.out] at hN
  have q0 : w2.cell? ⟨w1.heap.size, 0, none⟩ = some (.int .i64 3) := hN.cell 0
  have qf := hN.frozen 0
  have hNH := Lib.hid hN
  have hs2H := Lib.hid hs2
  have hDH := Lib.hid hD
  clear hb2 hD hs0 hN hD2 hs2
  go_wp2_with fail
  rw [hbwH.out]
  obtain ⟨W, hW⟩ : ∃ W, w2.setCell ⟨w1.heap.size, 0, none⟩ (.int .i64 4) = W := ⟨_, rfl⟩
  have hWs : Hid (W.heap.size = w1.heap.size + 1) := Lib.hid (by rw [← hW, World.size_setCell]; exact hs2H.out)
  have hWb : Hid (Below w1.heap.size w1 W) := Lib.hid (by rw [← hW]; exact hbx.out.setCell (Nat.le_refl _) _)
  have hWN : Hid (Blk W w1.heap.size 35 #[.int .i64 4, .string bw, .string ⟨#[]⟩, .slice none 0 0, .bool false]) := Lib.hid (by rw [← hW]; exact hNH.out.set_ 0 _)
  have hWB : Hid (Blk W b 59 (rd t k d a0 n0 c0 a1 st.bytes.length c1 st.q st.o)) := Lib.hid ((hWb.out.block b hlt1).trans hB1.out)
  rw [hW]
  clear hW q0 qf
  have x1 : W.drew.cell? ⟨w1.heap.size, 1, none⟩ = some (.string bw) := hWN.out.cell 1
  have xd : W.drew.cell? ⟨b, 2, none⟩ = some (.int .i64 d) := hWB.out.cell 2
  go_region_held3 (fun w' => w'.cell? ⟨w1.heap.size, 1, none⟩ = some (.string bw) ∧ w'.cell? ⟨b, 2, none⟩ = some (.int .i64 d))
    (first
      | with_reducible exact ⟨x1, xd⟩
      | (go_split_ands; with_reducible exact ⟨by assumption, by assumption⟩)
      | exact ⟨Blk.cell hN3.out 1, Blk.cell hB3.out 2⟩
      | exact ⟨Blk.cell (Blk.set_ hN3.out 3 _) 1, Blk.cell (Blk.far hB3.out (show b ≠ w1.heap.size by omega) _) 2⟩
      | fail)
    ((first | (go_at_call 16; refine (hpar.out _).mono ?_; rintro e w3 ⟨hb3, ar, cr, T, rfl, hWx0, hT⟩; have hN3 := Lib.hid ((hb3.block _ (by show _ < W.heap.size; rw [hWs.out]; omega)).trans hWN.out); have hB3 := Lib.hid ((hb3.block _ (by show _ < W.heap.size; rw [hWs.out]; omega)).trans hWB.out); have p3 : w3.cell? ⟨w1.heap.size, 3, none⟩ = some (.slice none 0 0) := Blk.cell hN3.out 3; have pf3 : w3.frozen? ⟨w1.heap.size, 3, none⟩ = false := Blk.frozen hN3.out 3) | fail))
  have p1 : w3.cell? ⟨w1.heap.size, 1, none⟩ = some (.string bw) := Blk.cell hN3.out 1
  have pf1 : w3.frozen? ⟨w1.heap.size, 1, none⟩ = false := Blk.frozen hN3.out 1
  have hb4 := Lib.hid (hWb.out.trans ((show Below W.heap.size W w3 from ⟨hb3.os, hb3.tape, hb3.output, hb3.size, hb3.block⟩).mono (by rw [hWs.out]; omega)))
  go_wp2_with fail
  obtain ⟨W5, hW5⟩ : ∃ W, (w3.setCell ⟨w1.heap.size, 3, none⟩ (.slice ar l.length cr)).setCell ⟨w1.heap.size, 1, none⟩ (.string ⟨#[]⟩) = W := ⟨_, rfl⟩
  have hb5 := Lib.hid (hW5 ▸ (hb4.out.setCell (Nat.le_refl _) _).setCell (Nat.le_refl _) _ : Below w1.heap.size w1 W5)
  have hf5 : Hid (∀ g, g ≠ w1.heap.size → W5.heap[g]? = w3.heap[g]?) := Lib.hid (fun g hg => by rw [← hW5]; exact (Below.heap_setCell _ _ _ _ hg).trans (Below.heap_setCell _ _ _ _ hg))
  have hN5 : Blk W5 w1.heap.size 35 #[.int .i64 4, .string ⟨#[]⟩, .string ⟨#[]⟩, .slice ar l.length cr, .bool false] := by
    rw [← hW5]; exact (Blk.set_ hN3.out 3 _).set_ 1 _
  have hs5 : W5.heap.size = w3.heap.size := by rw [← hW5]; simp
  have hT' : ∀ g, T g → w1.heap.size + 1 ≤ g ∧ g < w3.heap.size := fun g hg => ⟨by have := (hT g hg).1; have h9 := hWs.out; have h8 : W.drew.heap.size = W.heap.size := rfl; omega, (hT g hg).2⟩
  have hTO : Hid (∀ g, T g → n₀ ≤ g ∧ g < W5.heap.size ∧ ¬ O g) := Lib.hid (fun g hg => ⟨by have := (hT' g hg).1; have := hlt.1; omega, by rw [hs5]; exact (hT' g hg).2, fun hO => by have := (hT' g hg).1; have := (hown.out g hO).2; have := hDH.out.size; omega⟩)
  have hTne : Hid (∀ g, T g → g ≠ w1.heap.size) := Lib.hid (fun g hg e => by have := (hT' g hg).1; omega)
  have hWx : Hid (WAt W5 T kk (.slice ar l.length cr) l) := Lib.hid (WAt_mono (fun _ h => h) (fun g hg => hf5.out g (by have := (hT' g hg).1; omega)) _ _ _ hWx0)
  rw [hW5]
  clear hW5 p1 pf1 p3 pf3 x1 xd hT hT' hWx0
  refine (quoted_rd (Rd.below hR1.out hb5.out) _ hqH.out).mono ?_
  rintro e w' ⟨rfl, rfl⟩
  have q0 : w'.cell? ⟨w1.heap.size, 0, none⟩ = some (.int .i64 4) := hN5.cell 0
  have q1 : w'.cell? ⟨w1.heap.size, 1, none⟩ = some (.string ⟨#[]⟩) := hN5.cell 1
  have q2 : w'.cell? ⟨w1.heap.size, 2, none⟩ = some (.string ⟨#[]⟩) := hN5.cell 2
  have q3 : w'.cell? ⟨w1.heap.size, 3, none⟩ = some (.slice ar l.length cr) := hN5.cell 3
  have q4 : w'.cell? ⟨w1.heap.size, 4, none⟩ = some (.bool false) := hN5.cell 4
  have qf := hN5.frozen
  clear hN5
  go_wp2_with fail
  refine (part_rd (x := ⟨4, ⟨#[]⟩, ⟨#[]⟩, ar, l.length, cr, qv⟩) (p := (PT.mk 4 ⟨#[]⟩ ⟨#[]⟩ l false).quote qv) (T2 := T) (Rd.below hR1.out (hb5.out.setCell (Nat.le_refl _) _)) hlen ⟨rfl, rfl, rfl, rfl, WAt_mono (fun _ h => h) (fun g hg => Below.heap_setCell _ _ _ _ (hTne.out g hg)) _ _ _ hWx.out⟩ (fun g hg => by have := hTO.out g hg; simpa using this)).mono ?_
  rintro e w5 ⟨rfl, hp5⟩
  have hp6 := Lib.hid (sub_fin hDH.out (hb5.out.setCell (Nat.le_refl _) _) hp5)
  clear hp5
  go_wp2_with fail
  go_ret2
  exact ⟨rfl, hp6.out⟩

set_option maxRecDepth 100000 in
set_option maxHeartbeats 4000000 in
theorem sub_expr_err (h123 : (bt t (i + 1) == 123) = false) (hex : exprM (t.extract (i + 2) (nx - 1)) kk (k != 0) = true) (hx2 : 2 ≤ (t.extract (i + 2) (nx - 1)).size) (er2 : Nat) (her2 : er2 ≠ 0)
    (hpar : Hid (∀ W, Calls Try.prog 16 #[.string ((t.extract (i + 2) (nx - 1)).extract 1 ((t.extract (i + 2) (nx - 1)).size - 1)), .int .i64 2, .int .i64 (d + 1)] W (fun e w' => Below W.heap.size W w' ∧ e = .returned (.tuple #[.slice none 0 0, .int .i64 er2])))) :
    Calls Try.prog 45 #[.pointer (some ⟨b, 0, none⟩), .int .i64 i] w fun e w' => e = .returned (.tuple #[.int .i64 0, .int .i64 er2]) ∧ Below n₀ w w' := by
  have hb := get_bt t
  have hEr := eq_err her
  have hEr2 := ne_err her2
  have hxz : (t.extract (i + 2) (nx - 1)).size < 65536 := by rw [ext_size]; omega
  have hexH := Lib.hid (fun W (hW : Rd W b n₀ t k d kk st O) => expr_dr hW (t.extract (i + 2) (nx - 1)) kk true hex hxz hd hd0)
  have hlt := h.lt
  have hn := h.size
  obtain ⟨a0, n0, c0, a1, c1, hB⟩ := h.blk
  have hc := Lib.hid (rend_dr h i kk nx pl er hE ht (by omega) hd hd0)
  have hH := Lib.hid h
  have hBH := Lib.hid hB
  have hsub : IntKind.i64.wrap ((nx : Int) - 1) = (nx : Int) - 1 := IntWalk.i64_in _ (by omega)
  have hnx1 : ((nx : Int) - 1).toNat = nx - 1 := by omega
  clear hex
  clear h hE her hB
  obtain ⟨bw, hbw⟩ : ∃ x, t.extract (i + 2) (nx - 1) = x := ⟨_, rfl⟩
  rw [hbw] at hpar hx2 hxz
  have hbwH := Lib.hid hbw
  clear hbw
  have hd24 : d ≤ 24 := by omega
  have hdd : IntKind.i64.wrap (d + 1) = d + 1 := IntWalk.i64_in _ (by omega)
  have hzz : IntKind.i64.wrap ((bw.size : Int) - 1) = (bw.size : Int) - 1 := IntWalk.i64_in _ (by omega)
  have hz1 : ((bw.size : Int) - 1).toNat = bw.size - 1 := by omega
  have hz0 : 1 ≤ (bw.size : Int) - 1 := by omega
  have hz4 : 0 ≤ (bw.size : Int) - 1 := by omega
  have hz5 : (bw.size : Int) - 1 ≤ bw.size := by omega
  go_enter Try.func45, Try.ntmps45
  go_wp2_with (go_at_call 43; refine hc.out.mono ?_; rintro e w1 ⟨rfl, hD⟩; have hB1 := Lib.hid ((hD.below.block b hlt.2).trans hBH.out); have e0 : w1.cell? ⟨b, 0, none⟩ = some (.string t) := Blk.cell hB1.out 0; have hR1 := Lib.hid (Rd.below hH.out hD.below); have hlt1 : b < w1.heap.size := by (rw [hD.size]; exact hlt.2))
  go_wp2_with fail
  refine (hexH.out _ (hR1.out.alloc _)).mono ?_
  rintro e w2 ⟨rfl, hD2⟩
  have hb2 := hD2.below
  have hs0 : (w1.alloc (.cells #[.int .i64 3, .string (t.extract (i + 2) (nx - 1)), .string ⟨#[]⟩, .slice none 0 0, .bool false] 35)).heap.size = w1.heap.size + 1 := by simp
  have hbx := Lib.hid ((((Below.refl w1.heap.size w1).alloc (Nat.le_refl _) (.cells #[.int .i64 3, .string (t.extract (i + 2) (nx - 1)), .string ⟨#[]⟩, .slice none 0 0, .bool false] 35)).trans (hb2.mono (by rw [hs0]; omega))))
  have hN : Blk w2 w1.heap.size 35 #[.int .i64 3, .string (t.extract (i + 2) (nx - 1)), .string ⟨#[]⟩, .slice none 0 0, .bool false] := (hb2.block _ (by rw [hs0]; omega)).trans (Blk.new w1 _ _)
  have hs2 : w2.heap.size = w1.heap.size + 1 := by rw [hD2.size, hs0]
  rw [hbwH.out] at hN
  have q0 : w2.cell? ⟨w1.heap.size, 0, none⟩ = some (.int .i64 3) := hN.cell 0
  have qf := hN.frozen 0
  have hNH := Lib.hid hN
  have hs2H := Lib.hid hs2
  have hDH := Lib.hid hD
  clear hb2 hD hs0 hN hD2 hs2
  go_wp2_with fail
  rw [hbwH.out]
  obtain ⟨W, hW⟩ : ∃ W, w2.setCell ⟨w1.heap.size, 0, none⟩ (.int .i64 4) = W := ⟨_, rfl⟩
  have hWs : Hid (W.heap.size = w1.heap.size + 1) := Lib.hid (by rw [← hW, World.size_setCell]; exact hs2H.out)
  have hWb : Hid (Below w1.heap.size w1 W) := Lib.hid (by rw [← hW]; exact hbx.out.setCell (Nat.le_refl _) _)
  have hWN : Hid (Blk W w1.heap.size 35 #[.int .i64 4, .string bw, .string ⟨#[]⟩, .slice none 0 0, .bool false]) := Lib.hid (by rw [← hW]; exact hNH.out.set_ 0 _)
  have hWB : Hid (Blk W b 59 (rd t k d a0 n0 c0 a1 st.bytes.length c1 st.q st.o)) := Lib.hid ((hWb.out.block b hlt1).trans hB1.out)
  rw [hW]
  clear hW q0 qf
  have x1 : W.drew.cell? ⟨w1.heap.size, 1, none⟩ = some (.string bw) := hWN.out.cell 1
  have xd : W.drew.cell? ⟨b, 2, none⟩ = some (.int .i64 d) := hWB.out.cell 2
  go_region_held3 (fun w' => w'.cell? ⟨w1.heap.size, 1, none⟩ = some (.string bw) ∧ w'.cell? ⟨b, 2, none⟩ = some (.int .i64 d))
    (first
      | with_reducible exact ⟨x1, xd⟩
      | (go_split_ands; with_reducible exact ⟨by assumption, by assumption⟩)
      | exact ⟨Blk.cell hN3.out 1, Blk.cell hB3.out 2⟩
      | exact ⟨Blk.cell (Blk.set_ hN3.out 3 _) 1, Blk.cell (Blk.far hB3.out (show b ≠ w1.heap.size by omega) _) 2⟩
      | fail)
    ((first | (go_at_call 16; refine (hpar.out _).mono ?_; rintro e w3 ⟨hb3, rfl⟩; have hN3 := Lib.hid ((hb3.block _ (by show _ < W.heap.size; rw [hWs.out]; omega)).trans hWN.out); have hB3 := Lib.hid ((hb3.block _ (by show _ < W.heap.size; rw [hWs.out]; omega)).trans hWB.out); have p3 : w3.cell? ⟨w1.heap.size, 3, none⟩ = some (.slice none 0 0) := Blk.cell hN3.out 3; have pf3 : w3.frozen? ⟨w1.heap.size, 3, none⟩ = false := Blk.frozen hN3.out 3) | fail))
  have p1 : w3.cell? ⟨w1.heap.size, 1, none⟩ = some (.string bw) := Blk.cell hN3.out 1
  have pf1 : w3.frozen? ⟨w1.heap.size, 1, none⟩ = false := Blk.frozen hN3.out 1
  have hb4 := Lib.hid (hWb.out.trans ((show Below W.heap.size W w3 from ⟨hb3.os, hb3.tape, hb3.output, hb3.size, hb3.block⟩).mono (by rw [hWs.out]; omega)))
  go_wp2_with fail
  go_ret2
  exact ⟨rfl, (hDH.out.below.mono hn).trans (((hb4.out.setCell (Nat.le_refl _) _).setCell (Nat.le_refl _) _).mono (by rw [hDH.out.size]; exact hn))⟩

end
end Go.Proofs.Ytgpkhpheomaiaaa
