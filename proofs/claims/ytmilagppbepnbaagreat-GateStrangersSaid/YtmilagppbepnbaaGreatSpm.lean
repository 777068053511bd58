/- The kernel's gate: exec, umask, mark. Condition: the kernel lies as stated, its counts hold; the process runs. -/
import Derived.Test.YtmilagppbepnbaaGreatSpl
import Derived.Test.YtmilagppbepnbaaGreatSpj
import Derived.Test.YtmilagppbepnbaaGreatSpk
import Derived.Test.YtmilagppbepnbaaGreatSpb
import Derived.Test.YtmilagppbepnbaaGreatSpi
import Derived.Test.YtmilagppbepnbaaGreatSpd
import Derived.Test.YtmilagppbepnbaaGreatSpg
import Derived.Deep.AppendLies
import Derived.OrdersHeld
import Derived.RegionTactic
import Derived.Lib.AppendStr
import Derived.Deep.RegionLaw
import Derived.Laws.IdiomCopy
namespace Go.Proofs.YtmilagppbepnbaaGreat.Kn
open Go.RowKit Go.PlainAid
set_option linter.unusedVariables false
set_option linter.unusedSimpArgs false
attribute [local go_sem] Oper.semAt_some
section
variable {w w' w3 w4 : World} {B : Ix → Nat → Prop} {q : Nat} {K K' : Ker} {M : Mp} {c : Nat}
theorem blk_drew {W : World} {g : Nat} {t : TypeId} {cs : Array Value} (h : Blk W g t cs) : Blk W.drew g t cs := h
/-- What exec's loop holds. -/
structure ExI (W0 : World) (B : Ix → Nat → Prop) (q : Nat) (K : Ker) (M : Mp) (K1 : Ker) (v : Value) (L : List Int) (i : Nat) (wr : World) : Prop where
  kp : ∃ B' M', KerIs wr B' q (letL K1 (L.take i)) M' ∧ MExt K M M' ∧ K.lastX ≤ (letL K1 (L.take i)).lastX ∧ K.lastD ≤ (letL K1 (L.take i)).lastD ∧ K.lastR ≤ (letL K1 (L.take i)).lastR ∧ (∀ g, AllX B' g → AllX B g ∨ W0.heap.size ≤ g) ∧ Frm (AllX B) W0 wr ∧ ∀ g, v.ownBlock = some g → ¬ AllX B' g
  row : Pp.rowI W0.heap.size wr v L
set_option maxRecDepth 100000 in
set_option maxHeartbeats 4000000 in
theorem on_exec (h : KerIs w B q K M) {pb : Nat} (a b : Int) (s t : ByteArray) (pa : Option Addr) (pn pc : Nat) {n : Nat} {P : Prc} (hP : ask K.procs n = some P) (hpb : M.br n = pb) (hok : OK K) (hw : WF c K.fs) (hc : c ≤ 5000) (hl : P.ended = false) :
    Calls Tryz.prog 91 #[.pointer (some ⟨q, 0, none⟩), .pointer (some ⟨pb, 0, none⟩), .agg #[.int .i64 9, .int .i64 a, .int .i64 b, .string s, .string t, .slice pa pn pc]] w fun e w' => e = .returned (.tuple #[.agg #[.int .i64 0, .int .i64 0, .string ⟨#[]⟩, .slice none 0 0, .int .i64 0, .int .i64 0, .int .i64 0, .int .i64 0, .int .i64 0, .int .i64 0], .int .i64 0]) ∧ KP (AllX B) w K M w' q (execM K n P) := by
  obtain ⟨hB, hT, hS1, hS2, hne⟩ : PrcAt w (B (.proc n)) (M.br n) (M.bt n) P := h.part (.proc n) P hP
  obtain ⟨tb, htb⟩ : ∃ tb, M.bt n = tb := ⟨_, rfl⟩
  rw [htb] at hB hT hS2
  rw [hpb] at hB
  have hH := Lib.hid h
  have hPH := Lib.hid hP
  have hBH := Lib.hid hB
  have hTH := Lib.hid hT
  have htbH := Lib.hid htb
  have hisH := Lib.hid (hok.execIs hP)
  have he1H := Lib.hid (hok.exec1 hP hl)
  have hwH := Lib.hid hw
  have hltH : Hid (∀ i g, B i g → g < w.heap.size) := Lib.hid h.lt
  obtain ⟨L, hL⟩ : ∃ L, execLs P.tab = L := ⟨_, rfl⟩
  have hLl : L.length ≤ 32 := by rw [← hL]; exact Pp.lsP_len (n := 32) (List.prefix_refl _)
  have hfinal : Hid (execM K n P = letL (setR K n { P with tab := execTab P.tab }) L) := Lib.hid (by unfold execM; rw [hL])
  rw [hL] at hisH he1H
  have hLH := Lib.hid hL
  have hLlH := Lib.hid hLl
  clear h hP hpb hok hw hl hB hT hS1 hS2 hne htb hL hLl
  go_enter Tryz.func91, Tryz.ntmps91
  go_upto_region 8 with fail
  obtain ⟨W0, hW0⟩ : ∃ W, ((w.alloc (.cells #[.int .i64 9, .int .i64 a, .int .i64 b, .string s, .string t, .slice pa pn pc] 34)).alloc (.cells #[.int .i64 0, .int .i64 0, .string ⟨#[]⟩, .slice none 0 0, .int .i64 0, .int .i64 0, .int .i64 0, .int .i64 0, .int .i64 0, .int .i64 0] 44)).alloc (.cells #[.int .i64 0, .int .i64 0, .string ⟨#[]⟩, .slice none 0 0, .int .i64 0, .int .i64 0, .int .i64 0, .int .i64 0, .int .i64 0, .int .i64 0] 44) = W := ⟨_, rfl⟩
  have hb0 : Below w.heap.size w W0 := by rw [← hW0]; exact (((Below.refl _ w).alloc (Nat.le_refl _) _).alloc (by simp) _).alloc (by simp; omega) _
  have hC0 : Blk W0 w.heap.size 34 #[.int .i64 9, .int .i64 a, .int .i64 b, .string s, .string t, .slice pa pn pc] := by rw [← hW0]; exact ((Blk.new w _ _).alloc _).alloc _
  have hR0 : Blk W0 (w.heap.size + 1) 44 #[.int .i64 0, .int .i64 0, .string ⟨#[]⟩, .slice none 0 0, .int .i64 0, .int .i64 0, .int .i64 0, .int .i64 0, .int .i64 0, .int .i64 0] := by
    have h := (Blk.new (w.alloc (.cells #[.int .i64 9, .int .i64 a, .int .i64 b, .string s, .string t, .slice pa pn pc] 34)) 44 #[.int .i64 0, .int .i64 0, .string ⟨#[]⟩, .slice none 0 0, .int .i64 0, .int .i64 0, .int .i64 0, .int .i64 0, .int .i64 0, .int .i64 0]).alloc (.cells #[.int .i64 0, .int .i64 0, .string ⟨#[]⟩, .slice none 0 0, .int .i64 0, .int .i64 0, .int .i64 0, .int .i64 0, .int .i64 0, .int .i64 0] 44)
    rw [World.size_alloc, hW0] at h
    exact h
  have hr0 : Blk W0 (w.heap.size + 2) 44 #[.int .i64 0, .int .i64 0, .string ⟨#[]⟩, .slice none 0 0, .int .i64 0, .int .i64 0, .int .i64 0, .int .i64 0, .int .i64 0, .int .i64 0] := by
    have h := Blk.new ((w.alloc (.cells #[.int .i64 9, .int .i64 a, .int .i64 b, .string s, .string t, .slice pa pn pc] 34)).alloc (.cells #[.int .i64 0, .int .i64 0, .string ⟨#[]⟩, .slice none 0 0, .int .i64 0, .int .i64 0, .int .i64 0, .int .i64 0, .int .i64 0, .int .i64 0] 44)) 44 #[.int .i64 0, .int .i64 0, .string ⟨#[]⟩, .slice none 0 0, .int .i64 0, .int .i64 0, .int .i64 0, .int .i64 0, .int .i64 0, .int .i64 0]
    rw [World.size_alloc, World.size_alloc, hW0] at h
    exact h
  have a1 : W0.cell? ⟨w.heap.size, 1, none⟩ = some (.int .i64 a) := hC0.cell 1
  have a2 : W0.cell? ⟨w.heap.size, 2, none⟩ = some (.int .i64 b) := hC0.cell 2
  have a3 : W0.cell? ⟨w.heap.size, 3, none⟩ = some (.string s) := hC0.cell 3
  have a4 : W0.cell? ⟨w.heap.size, 4, none⟩ = some (.string t) := hC0.cell 4
  have a5 : W0.cell? ⟨w.heap.size, 5, none⟩ = some (.slice pa pn pc) := hC0.cell 5
  have hb0H := Lib.hid hb0
  have hR0H := Lib.hid hR0
  have hr0H := Lib.hid hr0
  have hC0H := Lib.hid hC0
  have p2 : W0.cell? ⟨pb, 2, none⟩ = some (.pointer (some ⟨tb, 0, none⟩)) := (hBH.out.keep (hb0.block _ hBH.out.lt)).cell 2
  have hex := Lib.hid (Pp.exec_any W0 (hTH.out.keep (hb0.block _ hTH.out.lt)))
  rw [hW0]
  clear hb0 hC0 hR0 hr0 hW0
  go_wp2_with (go_at_call 159; refine hex.out.mono ?_; rintro e w1 ⟨v, rfl, hr1, hT1, hF1⟩; obtain ⟨ra, rc, rfl⟩ := ownsRow_slice hr1; have hr1H := Lib.hid hr1; have hT1H := Lib.hid hT1; have hF1H := Lib.hid hF1; clear hr1 hT1 hF1)
  have hr1 := hr1H.out
  rw [show Pp.lsP P.tab (Pp.upto P.tab 32) = L from hLH.out] at hr1 ⊢
  obtain ⟨N, hN⟩ : ∃ N, L.length = N := ⟨_, rfl⟩
  rw [hN]
  have hN32 : N ≤ 32 := by rw [← hN]; exact hLlH.out
  have hr1N : Hid (Pp.rowI W0.heap.size w1 (.slice ra N rc) L) := Lib.hid (by rw [← hN]; exact hr1)
  have hk0 := hH.out.below hb0H.out
  have hk1 := turn_T hk0 hPH.out (f := execTab P.tab) (by rw [htbH.out]; exact hT1H.out) (by rw [htbH.out]; exact hF1H.out)
  have hfr1 := frmT hk0 hPH.out (by rw [htbH.out]; exact hF1H.out)
  obtain ⟨K1, hK1⟩ : ∃ K1, setR K n { P with tab := execTab P.tab } = K1 := ⟨_, rfl⟩
  have hK1l : Hid (K1.lastX = K.lastX ∧ K1.lastD = K.lastD ∧ K1.lastR = K.lastR ∧ WF c K1.fs) := Lib.hid (by rw [← hK1]; exact ⟨rfl, rfl, rfl, hwH.out⟩)
  rw [hK1] at hk1 he1H hfinal
  have hstart : Hid (ExI W0 B q K M K1 (.slice ra N rc) L 0 w1) := Lib.hid ⟨⟨B, M, hk1, MExt.refl _ _, by rw [show letL K1 (L.take 0) = K1 from rfl, hK1l.out.1]; exact Nat.le_refl _, by rw [show letL K1 (L.take 0) = K1 from rfl, hK1l.out.2.1]; exact Nat.le_refl _, by rw [show letL K1 (L.take 0) = K1 from rfl, hK1l.out.2.2.1]; exact Nat.le_refl _, fun g hg => .inl hg, hfr1, fun g hg ⟨i, hi⟩ => by
    have h1 := (World.ownsRow.lt hr1N.out g hg).1
    have h2 := hltH.out i g hi
    have h3 := hb0H.out.size
    omega⟩, hr1N.out⟩
  have hNH := Lib.hid hN
  clear hex hr1 hr1H hr1N hk0 hk1 hfr1 hK1 hT1H hF1H hN p2 a1 a2 a3 a4 a5
  go_loopw [31] (fun s31 wr => ∃ i : Nat, i ≤ N ∧ s31 = .int .i64 i ∧ Hid (ExI W0 B q K M K1 (.slice ra N rc) L i wr)) (fun s31 _ => N - (intOf s31).toNat)
  case atStart => exact ⟨0, Nat.zero_le _, rfl, hstart⟩
  case round =>
    obtain ⟨i, hi, rfl, hI⟩ := hrel
    clear hstart
    by_cases hil : i < N
    · obtain ⟨g, cap, hgv, hg1, hg2⟩ := hI.out.row.form (by rw [hNH.out]; omega)
      rw [hNH.out] at hgv
      obtain ⟨rfl, rfl⟩ : ra = some ⟨g, 0, none⟩ ∧ rc = cap := by injection hgv with e1 e2 e3; exact ⟨e1, e3⟩
      have hxi : i < L.length := by rw [hNH.out]; exact hil
      have hrow : Hid (wr.cell? ⟨g, i, none⟩ = some (.int .i64 L[i])) := Lib.hid (by
        have h9 := hI.out.row
        unfold Pp.rowI at h9
        rw [← hNH.out] at h9
        have h1 := h9.cellAt i (by omega)
        rw [h1, List.getElem?_map, List.getElem?_eq_getElem hxi]
        rfl)
      have hsplit : L = L.take i ++ L[i] :: L.drop (i + 1) := by
        conv => lhs; rw [← List.take_append_drop i L, List.drop_eq_getElem_cons hxi]
      have hat := OKd.letAt (L.take i) (K := K1) (x := L[i]) (t := L.drop (i + 1)) (by rw [← hsplit]; exact hisH.out) (by rw [← hsplit]; exact hLlH.out) (by rw [← hsplit]; exact he1H.out)
      obtain ⟨m, hm, D, hD, hr, hp⟩ := hat
      rw [hm] at hrow
      have hsnoc : Hid (letL K1 (L.take (i + 1)) = letM (letL K1 (L.take i)) m) := Lib.hid (by rw [List.take_add_one, List.getElem?_eq_getElem hxi, hm]; exact letL_snoc _ _ _)
      obtain ⟨B', M', k1, k2, k3, k4, k5, k6, k7, k8⟩ := hI.out.kp
      have hlet := Lib.hid (letGo_any (c := c) k1 (letL_wf (L.take i) hK1l.out.2.2.2) hc hD hr hp)
      have hrw := hrow.out
      have hk6 := Lib.hid k6
      have hk7 := Lib.hid k7
      have hk8 := Lib.hid k8
      have hk2 := Lib.hid k2
      have hk345 := Lib.hid (And.intro k3 (And.intro k4 k5))
      have hIH := hI
      clear k1 k2 k3 k4 k5 k6 k7 k8 hD hr hp hm hsplit hrow hI hgv
      go_wp2_with (first
        | (go_at_call 160; refine hlet.out.mono ?_; rintro e w9 ⟨rfl, hk9⟩; have hk9H := Lib.hid hk9; clear hk9))
      go_roundw
      case rel =>
        refine ⟨i + 1, by omega, by go_num, Lib.hid ?_⟩
        obtain ⟨B2, M2, g1, g2, g3, g4, g5, g6, g7⟩ := hk9H.out
        have e9 := hk7.out.size
        have hgW : ∀ g', (Value.slice (some ⟨g, 0, none⟩) N rc).ownBlock = some g' → g' < wr.heap.size := fun g' hg' => (World.ownsRow.lt hIH.out.row g' hg').2
        refine ⟨⟨B2, M2, by rw [hsnoc.out]; exact g1, hk2.out.trans g2 hk345.out.1 hk345.out.2.1 hk345.out.2.2, by rw [hsnoc.out]; exact Nat.le_trans hk345.out.1 g3, by rw [hsnoc.out]; exact Nat.le_trans hk345.out.2.1 g4, by rw [hsnoc.out]; exact Nat.le_trans hk345.out.2.2 g5, fun g' hg' => ?_, hk7.out.trans (O1 := AllX B') (fun g hg => hk6.out g hg) g7, fun g' hg' hh => ?_⟩, row_keep hIH.out.row (fun g' hg' => g7.block g' (hgW g' hg') (hk8.out g' hg'))⟩
        · rcases g6 g' hg' with h9 | h9
          · exact hk6.out g' h9
          · exact .inr (by omega)
        · rcases g6 g' hh with h9 | h9
          · exact hk8.out g' hg' h9
          · have := hgW g' hg'; omega
      case measure => simp [intOf]; omega
    · obtain rfl : i = N := by omega
      obtain ⟨B', M', k1, k2, k3, k4, k5, k6, k7, k8⟩ := hI.out.kp
      rw [show L.take i = L by rw [← hNH.out]; exact List.take_length, ← hfinal.out] at k1 k3 k4 k5
      have hk3H : Hid (KP (AllX B) W0 K M wr q (execM K n P)) := Lib.hid ⟨B', M', k1, k2, k3, k4, k5, k6, k7⟩
      clear k1 k2 k3 k4 k5 k6 k7 k8 hI
      have hR3 := hR0H.out.keep (kp_keep hH.out hk3H.out (by omega) hR0H.out.lt)
      have hr3 := hr0H.out.keep (kp_keep hH.out hk3H.out (by omega) hr0H.out.lt)
      have rc0 : wr.cell? ⟨w.heap.size + 1, 0, none⟩ = some (.int .i64 0) := hR3.cell 0
      have rf0 : wr.frozen? ⟨w.heap.size + 1, 0, none⟩ = false := hR3.frozen 0
      have rc1 : wr.cell? ⟨w.heap.size + 1, 1, none⟩ = some (.int .i64 0) := hR3.cell 1
      have rf1 : wr.frozen? ⟨w.heap.size + 1, 1, none⟩ = false := hR3.frozen 1
      have rc2 : wr.cell? ⟨w.heap.size + 1, 2, none⟩ = some (.string ⟨#[]⟩) := hR3.cell 2
      have rf2 : wr.frozen? ⟨w.heap.size + 1, 2, none⟩ = false := hR3.frozen 2
      have rc3 : wr.cell? ⟨w.heap.size + 1, 3, none⟩ = some (.slice none 0 0) := hR3.cell 3
      have rf3 : wr.frozen? ⟨w.heap.size + 1, 3, none⟩ = false := hR3.frozen 3
      have rc4 : wr.cell? ⟨w.heap.size + 1, 4, none⟩ = some (.int .i64 0) := hR3.cell 4
      have rf4 : wr.frozen? ⟨w.heap.size + 1, 4, none⟩ = false := hR3.frozen 4
      have rc5 : wr.cell? ⟨w.heap.size + 1, 5, none⟩ = some (.int .i64 0) := hR3.cell 5
      have rf5 : wr.frozen? ⟨w.heap.size + 1, 5, none⟩ = false := hR3.frozen 5
      have rc6 : wr.cell? ⟨w.heap.size + 1, 6, none⟩ = some (.int .i64 0) := hR3.cell 6
      have rf6 : wr.frozen? ⟨w.heap.size + 1, 6, none⟩ = false := hR3.frozen 6
      have rc7 : wr.cell? ⟨w.heap.size + 1, 7, none⟩ = some (.int .i64 0) := hR3.cell 7
      have rf7 : wr.frozen? ⟨w.heap.size + 1, 7, none⟩ = false := hR3.frozen 7
      have rc8 : wr.cell? ⟨w.heap.size + 1, 8, none⟩ = some (.int .i64 0) := hR3.cell 8
      have rf8 : wr.frozen? ⟨w.heap.size + 1, 8, none⟩ = false := hR3.frozen 8
      have rc9 : wr.cell? ⟨w.heap.size + 1, 9, none⟩ = some (.int .i64 0) := hR3.cell 9
      have rf9 : wr.frozen? ⟨w.heap.size + 1, 9, none⟩ = false := hR3.frozen 9
      have uc0 : wr.cell? ⟨w.heap.size + 2, 0, none⟩ = some (.int .i64 0) := hr3.cell 0
      have uf0 : wr.frozen? ⟨w.heap.size + 2, 0, none⟩ = false := hr3.frozen 0
      have uc1 : wr.cell? ⟨w.heap.size + 2, 1, none⟩ = some (.int .i64 0) := hr3.cell 1
      have uf1 : wr.frozen? ⟨w.heap.size + 2, 1, none⟩ = false := hr3.frozen 1
      have uc2 : wr.cell? ⟨w.heap.size + 2, 2, none⟩ = some (.string ⟨#[]⟩) := hr3.cell 2
      have uf2 : wr.frozen? ⟨w.heap.size + 2, 2, none⟩ = false := hr3.frozen 2
      have uc3 : wr.cell? ⟨w.heap.size + 2, 3, none⟩ = some (.slice none 0 0) := hr3.cell 3
      have uf3 : wr.frozen? ⟨w.heap.size + 2, 3, none⟩ = false := hr3.frozen 3
      have uc4 : wr.cell? ⟨w.heap.size + 2, 4, none⟩ = some (.int .i64 0) := hr3.cell 4
      have uf4 : wr.frozen? ⟨w.heap.size + 2, 4, none⟩ = false := hr3.frozen 4
      have uc5 : wr.cell? ⟨w.heap.size + 2, 5, none⟩ = some (.int .i64 0) := hr3.cell 5
      have uf5 : wr.frozen? ⟨w.heap.size + 2, 5, none⟩ = false := hr3.frozen 5
      have uc6 : wr.cell? ⟨w.heap.size + 2, 6, none⟩ = some (.int .i64 0) := hr3.cell 6
      have uf6 : wr.frozen? ⟨w.heap.size + 2, 6, none⟩ = false := hr3.frozen 6
      have uc7 : wr.cell? ⟨w.heap.size + 2, 7, none⟩ = some (.int .i64 0) := hr3.cell 7
      have uf7 : wr.frozen? ⟨w.heap.size + 2, 7, none⟩ = false := hr3.frozen 7
      have uc8 : wr.cell? ⟨w.heap.size + 2, 8, none⟩ = some (.int .i64 0) := hr3.cell 8
      have uf8 : wr.frozen? ⟨w.heap.size + 2, 8, none⟩ = false := hr3.frozen 8
      have uc9 : wr.cell? ⟨w.heap.size + 2, 9, none⟩ = some (.int .i64 0) := hr3.cell 9
      have uf9 : wr.frozen? ⟨w.heap.size + 2, 9, none⟩ = false := hr3.frozen 9
      have hR3H := Lib.hid hR3
      clear hR3 hr3
      go_wp2_with fail
      (try simp only [Exit.inBlock, Exit.then])
      refine bodyPost_ret (results_cell_row2 rfl _ _ (w.heap.size + 1) 44 _ _ rfl (put10 hR3H.out (.int .i64 0) (.int .i64 0) (.string ⟨#[]⟩) (.slice none 0 0) (.int .i64 0) (.int .i64 0) (.int .i64 0) (.int .i64 0) (.int .i64 0) (.int .i64 0)) Tryz.underlying44 rfl (by kernel_rfl)) rfl ?_
      exact ⟨rfl, kp_end hH.out hb0H.out hk3H.out (frm10 (Frm.refl _ _) (.inl (by show w.heap.size ≤ w.heap.size + 1 ∧ w.heap.size + 1 < _; have := hR0H.out.lt; omega)) _ _ _ _ _ _ _ _ _ _)⟩
set_option maxRecDepth 100000 in
set_option maxHeartbeats 4000000 in
theorem on_umask (h : KerIs w B q K M) {pb : Nat} (a b : Int) (s t : ByteArray) (pa : Option Addr) (pn pc : Nat) {n : Nat} {P : Prc} (hP : ask K.procs n = some P) (hpb : M.br n = pb) :
    Calls Tryz.prog 91 #[.pointer (some ⟨q, 0, none⟩), .pointer (some ⟨pb, 0, none⟩), .agg #[.int .i64 13, .int .i64 a, .int .i64 b, .string s, .string t, .slice pa pn pc]] w fun e w' => e = .returned (.tuple #[.agg #[.int .i64 P.mask, .int .i64 0, .string ⟨#[]⟩, .slice none 0 0, .int .i64 0, .int .i64 0, .int .i64 0, .int .i64 0, .int .i64 0, .int .i64 0], .int .i64 0]) ∧ KP (AllX B) w K M w' q (setR K n { P with mask := bits .and .i64 a 511 }) := by
  obtain ⟨hB, _⟩ : PrcAt w (B (.proc n)) (M.br n) (M.bt n) P := h.part (.proc n) P hP
  rw [hpb] at hB
  have hBH := Lib.hid hB
  have hH := Lib.hid h
  have hPH := Lib.hid hP
  have hpbH := Lib.hid hpb
  have hpl : pb < w.heap.size := hB.lt
  clear h hP hpb hB
  go_enter Tryz.func91, Tryz.ntmps91
  go_upto_region 22 with fail
  obtain ⟨W0, hW0⟩ : ∃ W, ((w.alloc (.cells #[.int .i64 13, .int .i64 a, .int .i64 b, .string s, .string t, .slice pa pn pc] 34)).alloc (.cells #[.int .i64 0, .int .i64 0, .string ⟨#[]⟩, .slice none 0 0, .int .i64 0, .int .i64 0, .int .i64 0, .int .i64 0, .int .i64 0, .int .i64 0] 44)).alloc (.cells #[.int .i64 0, .int .i64 0, .string ⟨#[]⟩, .slice none 0 0, .int .i64 0, .int .i64 0, .int .i64 0, .int .i64 0, .int .i64 0, .int .i64 0] 44) = W := ⟨_, rfl⟩
  have hb0 : Below w.heap.size w W0 := by rw [← hW0]; exact (((Below.refl _ w).alloc (Nat.le_refl _) _).alloc (by simp) _).alloc (by simp; omega) _
  have hC0 : Blk W0 w.heap.size 34 #[.int .i64 13, .int .i64 a, .int .i64 b, .string s, .string t, .slice pa pn pc] := by rw [← hW0]; exact ((Blk.new w _ _).alloc _).alloc _
  have hR0 : Blk W0 (w.heap.size + 1) 44 #[.int .i64 0, .int .i64 0, .string ⟨#[]⟩, .slice none 0 0, .int .i64 0, .int .i64 0, .int .i64 0, .int .i64 0, .int .i64 0, .int .i64 0] := by
    have h := (Blk.new (w.alloc (.cells #[.int .i64 13, .int .i64 a, .int .i64 b, .string s, .string t, .slice pa pn pc] 34)) 44 #[.int .i64 0, .int .i64 0, .string ⟨#[]⟩, .slice none 0 0, .int .i64 0, .int .i64 0, .int .i64 0, .int .i64 0, .int .i64 0, .int .i64 0]).alloc (.cells #[.int .i64 0, .int .i64 0, .string ⟨#[]⟩, .slice none 0 0, .int .i64 0, .int .i64 0, .int .i64 0, .int .i64 0, .int .i64 0, .int .i64 0] 44)
    rw [World.size_alloc, hW0] at h
    exact h
  have hr0 : Blk W0 (w.heap.size + 2) 44 #[.int .i64 0, .int .i64 0, .string ⟨#[]⟩, .slice none 0 0, .int .i64 0, .int .i64 0, .int .i64 0, .int .i64 0, .int .i64 0, .int .i64 0] := by
    have h := Blk.new ((w.alloc (.cells #[.int .i64 13, .int .i64 a, .int .i64 b, .string s, .string t, .slice pa pn pc] 34)).alloc (.cells #[.int .i64 0, .int .i64 0, .string ⟨#[]⟩, .slice none 0 0, .int .i64 0, .int .i64 0, .int .i64 0, .int .i64 0, .int .i64 0, .int .i64 0] 44)) 44 #[.int .i64 0, .int .i64 0, .string ⟨#[]⟩, .slice none 0 0, .int .i64 0, .int .i64 0, .int .i64 0, .int .i64 0, .int .i64 0, .int .i64 0]
    rw [World.size_alloc, World.size_alloc, hW0] at h
    exact h
  have a1 : W0.cell? ⟨w.heap.size, 1, none⟩ = some (.int .i64 a) := hC0.cell 1
  have a2 : W0.cell? ⟨w.heap.size, 2, none⟩ = some (.int .i64 b) := hC0.cell 2
  have a3 : W0.cell? ⟨w.heap.size, 3, none⟩ = some (.string s) := hC0.cell 3
  have a4 : W0.cell? ⟨w.heap.size, 4, none⟩ = some (.string t) := hC0.cell 4
  have a5 : W0.cell? ⟨w.heap.size, 5, none⟩ = some (.slice pa pn pc) := hC0.cell 5
  have hb0H := Lib.hid hb0
  have hR0H := Lib.hid hR0
  have hr0H := Lib.hid hr0
  have hC0H := Lib.hid hC0
  have hB0 := hBH.out.keep (hb0.block _ hBH.out.lt)
  have p4 : W0.cell? ⟨pb, 4, none⟩ = some (.int .i64 P.mask) := hB0.cell 4
  have pf4 : W0.frozen? ⟨pb, 4, none⟩ = false := hB0.frozen 4
  have p4d : W0.drew.cell? ⟨pb, 4, none⟩ = some (.int .i64 P.mask) := p4
  have pf4d : W0.drew.frozen? ⟨pb, 4, none⟩ = false := pf4
  have a1d : W0.drew.cell? ⟨w.heap.size, 1, none⟩ = some (.int .i64 a) := a1
  have x1 : ¬ pb = w.heap.size := by omega
  have x2 : ¬ pb = w.heap.size + 1 := by omega
  have x3 : ¬ pb = w.heap.size + 2 := by omega
  have rc0 : W0.cell? ⟨w.heap.size + 1, 0, none⟩ = some (.int .i64 0) := hR0.cell 0
  have rf0 : W0.frozen? ⟨w.heap.size + 1, 0, none⟩ = false := hR0.frozen 0
  have rc1 : W0.cell? ⟨w.heap.size + 1, 1, none⟩ = some (.int .i64 0) := hR0.cell 1
  have rf1 : W0.frozen? ⟨w.heap.size + 1, 1, none⟩ = false := hR0.frozen 1
  have rc2 : W0.cell? ⟨w.heap.size + 1, 2, none⟩ = some (.string ⟨#[]⟩) := hR0.cell 2
  have rf2 : W0.frozen? ⟨w.heap.size + 1, 2, none⟩ = false := hR0.frozen 2
  have rc3 : W0.cell? ⟨w.heap.size + 1, 3, none⟩ = some (.slice none 0 0) := hR0.cell 3
  have rf3 : W0.frozen? ⟨w.heap.size + 1, 3, none⟩ = false := hR0.frozen 3
  have rc4 : W0.cell? ⟨w.heap.size + 1, 4, none⟩ = some (.int .i64 0) := hR0.cell 4
  have rf4 : W0.frozen? ⟨w.heap.size + 1, 4, none⟩ = false := hR0.frozen 4
  have rc5 : W0.cell? ⟨w.heap.size + 1, 5, none⟩ = some (.int .i64 0) := hR0.cell 5
  have rf5 : W0.frozen? ⟨w.heap.size + 1, 5, none⟩ = false := hR0.frozen 5
  have rc6 : W0.cell? ⟨w.heap.size + 1, 6, none⟩ = some (.int .i64 0) := hR0.cell 6
  have rf6 : W0.frozen? ⟨w.heap.size + 1, 6, none⟩ = false := hR0.frozen 6
  have rc7 : W0.cell? ⟨w.heap.size + 1, 7, none⟩ = some (.int .i64 0) := hR0.cell 7
  have rf7 : W0.frozen? ⟨w.heap.size + 1, 7, none⟩ = false := hR0.frozen 7
  have rc8 : W0.cell? ⟨w.heap.size + 1, 8, none⟩ = some (.int .i64 0) := hR0.cell 8
  have rf8 : W0.frozen? ⟨w.heap.size + 1, 8, none⟩ = false := hR0.frozen 8
  have rc9 : W0.cell? ⟨w.heap.size + 1, 9, none⟩ = some (.int .i64 0) := hR0.cell 9
  have rf9 : W0.frozen? ⟨w.heap.size + 1, 9, none⟩ = false := hR0.frozen 9
  have uc0 : W0.cell? ⟨w.heap.size + 2, 0, none⟩ = some (.int .i64 0) := hr0.cell 0
  have uf0 : W0.frozen? ⟨w.heap.size + 2, 0, none⟩ = false := hr0.frozen 0
  have uc1 : W0.cell? ⟨w.heap.size + 2, 1, none⟩ = some (.int .i64 0) := hr0.cell 1
  have uf1 : W0.frozen? ⟨w.heap.size + 2, 1, none⟩ = false := hr0.frozen 1
  have uc2 : W0.cell? ⟨w.heap.size + 2, 2, none⟩ = some (.string ⟨#[]⟩) := hr0.cell 2
  have uf2 : W0.frozen? ⟨w.heap.size + 2, 2, none⟩ = false := hr0.frozen 2
  have uc3 : W0.cell? ⟨w.heap.size + 2, 3, none⟩ = some (.slice none 0 0) := hr0.cell 3
  have uf3 : W0.frozen? ⟨w.heap.size + 2, 3, none⟩ = false := hr0.frozen 3
  have uc4 : W0.cell? ⟨w.heap.size + 2, 4, none⟩ = some (.int .i64 0) := hr0.cell 4
  have uf4 : W0.frozen? ⟨w.heap.size + 2, 4, none⟩ = false := hr0.frozen 4
  have uc5 : W0.cell? ⟨w.heap.size + 2, 5, none⟩ = some (.int .i64 0) := hr0.cell 5
  have uf5 : W0.frozen? ⟨w.heap.size + 2, 5, none⟩ = false := hr0.frozen 5
  have uc6 : W0.cell? ⟨w.heap.size + 2, 6, none⟩ = some (.int .i64 0) := hr0.cell 6
  have uf6 : W0.frozen? ⟨w.heap.size + 2, 6, none⟩ = false := hr0.frozen 6
  have uc7 : W0.cell? ⟨w.heap.size + 2, 7, none⟩ = some (.int .i64 0) := hr0.cell 7
  have uf7 : W0.frozen? ⟨w.heap.size + 2, 7, none⟩ = false := hr0.frozen 7
  have uc8 : W0.cell? ⟨w.heap.size + 2, 8, none⟩ = some (.int .i64 0) := hr0.cell 8
  have uf8 : W0.frozen? ⟨w.heap.size + 2, 8, none⟩ = false := hr0.frozen 8
  have uc9 : W0.cell? ⟨w.heap.size + 2, 9, none⟩ = some (.int .i64 0) := hr0.cell 9
  have uf9 : W0.frozen? ⟨w.heap.size + 2, 9, none⟩ = false := hr0.frozen 9
  have uc0d : W0.drew.cell? ⟨w.heap.size + 2, 0, none⟩ = some (.int .i64 0) := uc0
  have uf0d : W0.drew.frozen? ⟨w.heap.size + 2, 0, none⟩ = false := uf0
  rw [hW0]
  clear hb0 hC0 hR0 hr0 hW0 hB0
  go_region
  all_goals
    go_wp2
    obtain ⟨V1, hV1⟩ : ∃ V, W0.setCell ⟨w.heap.size + 1 + 1, 0, none⟩ (.int .i64 P.mask) = V := ⟨_, rfl⟩
    have hR1 : Blk V1 (w.heap.size + 1) 44 #[.int .i64 0, .int .i64 0, .string ⟨#[]⟩, .slice none 0 0, .int .i64 0, .int .i64 0, .int .i64 0, .int .i64 0, .int .i64 0, .int .i64 0] := by rw [← hV1]; exact hR0H.out.far (p := ⟨w.heap.size + 2, 0, none⟩) (by show w.heap.size + 1 ≠ w.heap.size + 2; omega) _
    have hbV : Below w.heap.size w V1 := by rw [← hV1]; exact hb0H.out.setCell (p := ⟨w.heap.size + 2, 0, none⟩) (by show w.heap.size ≤ w.heap.size + 2; omega) _
    have ht := turn_pc (hH.out.below hbV) hPH.out (P' := { P with mask := bits .and .i64 a 511 }) 4 (.int .i64 (bits .and .i64 a 511)) (fun tb => rfl) rfl
    rw [hpbH.out] at ht
    have hSp : AllX B pb := by
      obtain ⟨_, _, g1, _⟩ : PrcAt w (B (.proc n)) (M.br n) (M.bt n) P := hH.out.part (.proc n) P hPH.out
      rw [hpbH.out] at g1
      exact ⟨_, g1⟩
    obtain ⟨V2, hV2⟩ : ∃ V, V1.setCell ⟨pb, 4, none⟩ (.int .i64 (bits .and .i64 a 511)) = V := ⟨_, rfl⟩
    have hR2 : Blk V2 (w.heap.size + 1) 44 #[.int .i64 0, .int .i64 0, .string ⟨#[]⟩, .slice none 0 0, .int .i64 0, .int .i64 0, .int .i64 0, .int .i64 0, .int .i64 0, .int .i64 0] := by rw [← hV2]; exact hR1.far (p := ⟨pb, 4, none⟩) (by show w.heap.size + 1 ≠ pb; omega) _
    have hkp : KP (AllX B) V1 K M V2 q (setR K n { P with mask := bits .and .i64 a 511 }) := ⟨B, M, by rw [← hV2]; exact ht, MExt.refl _ _, Nat.le_refl _, Nat.le_refl _, Nat.le_refl _, fun g hg => .inl hg, by rw [← hV2]; exact (Frm.refl _ _).setCell (a := ⟨pb, 4, none⟩) (.inl hSp) _⟩
    have hsV : V1.heap.size = W0.heap.size := by rw [← hV1]; simp
    rw [hV1, hV2]
    (try simp only [Exit.inBlock, Exit.then])
    have hlast := put10 hR2 (.int .i64 P.mask) (.int .i64 0) (.string ⟨#[]⟩) (.slice none 0 0) (.int .i64 0) (.int .i64 0) (.int .i64 0) (.int .i64 0) (.int .i64 0) (.int .i64 0)
    have hfr := frm10 (O := fun g => w.heap.size ≤ g ∧ g < V1.heap.size) (Frm.refl _ V2) (g := w.heap.size + 1) (.inl (by have := hR0H.out.lt; exact ⟨by omega, by omega⟩)) (.int .i64 P.mask) (.int .i64 0) (.string ⟨#[]⟩) (.slice none 0 0) (.int .i64 0) (.int .i64 0) (.int .i64 0) (.int .i64 0) (.int .i64 0) (.int .i64 0)
    have hk9 := kp_end hH.out hbV hkp hfr
    refine bodyPost_ret (results_cell_row2 rfl _ _ (w.heap.size + 1) 44 _ _ rfl (blk_drew hlast) Tryz.underlying44 rfl (by kernel_rfl)) rfl ?_
    exact ⟨rfl, kp_below hk9 ((Below.refl _ _).drew)⟩
set_option maxRecDepth 100000 in
set_option maxHeartbeats 4000000 in
theorem on_mark (h : KerIs w B q K M) {pb : Nat} (a b : Int) (s t : ByteArray) (pa : Option Addr) (pn pc : Nat) {n : Nat} {P : Prc} (hP : ask K.procs n = some P) (hpb : M.br n = pb) :
    Calls Tryz.prog 89 #[.pointer (some ⟨q, 0, none⟩), .pointer (some ⟨pb, 0, none⟩), .agg #[.int .i64 24, .int .i64 a, .int .i64 b, .string s, .string t, .slice pa pn pc]] w fun e w' => e = .returned (.tuple #[.agg #[.int .i64 0, .int .i64 0, .string ⟨#[]⟩, .slice none 0 0, .int .i64 0, .int .i64 0, .int .i64 0, .int .i64 0, .int .i64 0, .int .i64 0], .int .i64 (tmarkM P.tab a (b != 0)).1]) ∧ KP (AllX B) w K M w' q (setR K n { P with tab := (tmarkM P.tab a (b != 0)).2 }) := by
  obtain ⟨hB, _⟩ : PrcAt w (B (.proc n)) (M.br n) (M.bt n) P := h.part (.proc n) P hP
  rw [hpb] at hB
  have hmk : Hid (∀ W, Below w.heap.size w W → Calls Tryz.prog 145 #[.pointer (some ⟨M.bt n, 0, none⟩), .int .i64 a, .bool (b != 0)] W fun e w' => e = .returned (.int .i64 (tmarkM P.tab a (b != 0)).1) ∧ KP (AllX B) W K M w' q (setR K n { P with tab := (tmarkM P.tab a (b != 0)).2 })) := Lib.hid (fun W hW => mark_k (h.below hW) hP a (b != 0))
  obtain ⟨K', hK'⟩ : ∃ K', setR K n { P with tab := (tmarkM P.tab a (b != 0)).2 } = K' := ⟨_, rfl⟩
  obtain ⟨er, her⟩ : ∃ er, (tmarkM P.tab a (b != 0)).1 = er := ⟨_, rfl⟩
  obtain ⟨tb, htb⟩ : ∃ tb, M.bt n = tb := ⟨_, rfl⟩
  rw [hK', her, htb] at hmk
  rw [htb] at hB
  rw [hK', her]
  obtain ⟨bb, hbb⟩ : ∃ bb, (b != 0) = bb := ⟨_, rfl⟩
  rw [hbb] at hmk
  have hBH := Lib.hid hB
  have hH := Lib.hid h
  clear h hP hpb hB hK' her htb
  go_enter Tryz.func89, Tryz.ntmps89
  go_upto_region 21 with fail
  obtain ⟨W0, hW0⟩ : ∃ W, ((w.alloc (.cells #[.int .i64 24, .int .i64 a, .int .i64 b, .string s, .string t, .slice pa pn pc] 34)).alloc (.cells #[.int .i64 0, .int .i64 0, .string ⟨#[]⟩, .slice none 0 0, .int .i64 0, .int .i64 0, .int .i64 0, .int .i64 0, .int .i64 0, .int .i64 0] 44)).alloc (.cells #[.int .i64 0, .int .i64 0, .string ⟨#[]⟩, .slice none 0 0, .int .i64 0, .int .i64 0, .int .i64 0, .int .i64 0, .int .i64 0, .int .i64 0] 44) = W := ⟨_, rfl⟩
  have hb0 : Below w.heap.size w W0 := by rw [← hW0]; exact (((Below.refl _ w).alloc (Nat.le_refl _) _).alloc (by simp) _).alloc (by simp; omega) _
  have hC0 : Blk W0 w.heap.size 34 #[.int .i64 24, .int .i64 a, .int .i64 b, .string s, .string t, .slice pa pn pc] := by rw [← hW0]; exact ((Blk.new w _ _).alloc _).alloc _
  have hR0 : Blk W0 (w.heap.size + 1) 44 #[.int .i64 0, .int .i64 0, .string ⟨#[]⟩, .slice none 0 0, .int .i64 0, .int .i64 0, .int .i64 0, .int .i64 0, .int .i64 0, .int .i64 0] := by
    have h := (Blk.new (w.alloc (.cells #[.int .i64 24, .int .i64 a, .int .i64 b, .string s, .string t, .slice pa pn pc] 34)) 44 #[.int .i64 0, .int .i64 0, .string ⟨#[]⟩, .slice none 0 0, .int .i64 0, .int .i64 0, .int .i64 0, .int .i64 0, .int .i64 0, .int .i64 0]).alloc (.cells #[.int .i64 0, .int .i64 0, .string ⟨#[]⟩, .slice none 0 0, .int .i64 0, .int .i64 0, .int .i64 0, .int .i64 0, .int .i64 0, .int .i64 0] 44)
    rw [World.size_alloc, hW0] at h
    exact h
  have hr0 : Blk W0 (w.heap.size + 2) 44 #[.int .i64 0, .int .i64 0, .string ⟨#[]⟩, .slice none 0 0, .int .i64 0, .int .i64 0, .int .i64 0, .int .i64 0, .int .i64 0, .int .i64 0] := by
    have h := Blk.new ((w.alloc (.cells #[.int .i64 24, .int .i64 a, .int .i64 b, .string s, .string t, .slice pa pn pc] 34)).alloc (.cells #[.int .i64 0, .int .i64 0, .string ⟨#[]⟩, .slice none 0 0, .int .i64 0, .int .i64 0, .int .i64 0, .int .i64 0, .int .i64 0, .int .i64 0] 44)) 44 #[.int .i64 0, .int .i64 0, .string ⟨#[]⟩, .slice none 0 0, .int .i64 0, .int .i64 0, .int .i64 0, .int .i64 0, .int .i64 0, .int .i64 0]
    rw [World.size_alloc, World.size_alloc, hW0] at h
    exact h
  have a1 : W0.cell? ⟨w.heap.size, 1, none⟩ = some (.int .i64 a) := hC0.cell 1
  have a2 : W0.cell? ⟨w.heap.size, 2, none⟩ = some (.int .i64 b) := hC0.cell 2
  have a3 : W0.cell? ⟨w.heap.size, 3, none⟩ = some (.string s) := hC0.cell 3
  have a4 : W0.cell? ⟨w.heap.size, 4, none⟩ = some (.string t) := hC0.cell 4
  have a5 : W0.cell? ⟨w.heap.size, 5, none⟩ = some (.slice pa pn pc) := hC0.cell 5
  have hb0H := Lib.hid hb0
  have hR0H := Lib.hid hR0
  have hr0H := Lib.hid hr0
  have hC0H := Lib.hid hC0
  have p2 : W0.cell? ⟨pb, 2, none⟩ = some (.pointer (some ⟨tb, 0, none⟩)) := (hBH.out.keep (hb0.block _ hBH.out.lt)).cell 2
  have p2d : W0.drew.cell? ⟨pb, 2, none⟩ = some (.pointer (some ⟨tb, 0, none⟩)) := p2
  have a1d : W0.drew.cell? ⟨w.heap.size, 1, none⟩ = some (.int .i64 a) := a1
  have a2d : W0.drew.cell? ⟨w.heap.size, 2, none⟩ = some (.int .i64 b) := a2
  have hm1 := Lib.hid (hmk.out W0 hb0H.out)
  have hm2 : Hid (Calls Tryz.prog 145 #[.pointer (some ⟨tb, 0, none⟩), .int .i64 a, .bool bb] W0.drew fun e w' => e = .returned (.int .i64 er) ∧ KP (AllX B) W0 K M w' q K') := Lib.hid ((hmk.out W0.drew hb0H.out.drew).mono fun e w' ⟨he, hk⟩ => ⟨he, kp_from (Below.refl _ _).drew hk⟩)
  rw [hW0]
  clear hb0 hC0 hR0 hr0 hW0 hmk
  go_region_with (first
    | (go_at_call 145; refine hm2.out.mono ?_; rintro e w3 ⟨rfl, hk3⟩; have hk3H := Lib.hid hk3; clear hk3)
    | (go_at_call 145; refine hm1.out.mono ?_; rintro e w3 ⟨rfl, hk3⟩; have hk3H := Lib.hid hk3; clear hk3))
  all_goals
    have hR3 := hR0H.out.keep (kp_keep hH.out hk3H.out (by omega) hR0H.out.lt)
    have hr3 := hr0H.out.keep (kp_keep hH.out hk3H.out (by omega) hr0H.out.lt)
    have rc0 : w3.cell? ⟨w.heap.size + 1, 0, none⟩ = some (.int .i64 0) := hR3.cell 0
    have rf0 : w3.frozen? ⟨w.heap.size + 1, 0, none⟩ = false := hR3.frozen 0
    have rc1 : w3.cell? ⟨w.heap.size + 1, 1, none⟩ = some (.int .i64 0) := hR3.cell 1
    have rf1 : w3.frozen? ⟨w.heap.size + 1, 1, none⟩ = false := hR3.frozen 1
    have rc2 : w3.cell? ⟨w.heap.size + 1, 2, none⟩ = some (.string ⟨#[]⟩) := hR3.cell 2
    have rf2 : w3.frozen? ⟨w.heap.size + 1, 2, none⟩ = false := hR3.frozen 2
    have rc3 : w3.cell? ⟨w.heap.size + 1, 3, none⟩ = some (.slice none 0 0) := hR3.cell 3
    have rf3 : w3.frozen? ⟨w.heap.size + 1, 3, none⟩ = false := hR3.frozen 3
    have rc4 : w3.cell? ⟨w.heap.size + 1, 4, none⟩ = some (.int .i64 0) := hR3.cell 4
    have rf4 : w3.frozen? ⟨w.heap.size + 1, 4, none⟩ = false := hR3.frozen 4
    have rc5 : w3.cell? ⟨w.heap.size + 1, 5, none⟩ = some (.int .i64 0) := hR3.cell 5
    have rf5 : w3.frozen? ⟨w.heap.size + 1, 5, none⟩ = false := hR3.frozen 5
    have rc6 : w3.cell? ⟨w.heap.size + 1, 6, none⟩ = some (.int .i64 0) := hR3.cell 6
    have rf6 : w3.frozen? ⟨w.heap.size + 1, 6, none⟩ = false := hR3.frozen 6
    have rc7 : w3.cell? ⟨w.heap.size + 1, 7, none⟩ = some (.int .i64 0) := hR3.cell 7
    have rf7 : w3.frozen? ⟨w.heap.size + 1, 7, none⟩ = false := hR3.frozen 7
    have rc8 : w3.cell? ⟨w.heap.size + 1, 8, none⟩ = some (.int .i64 0) := hR3.cell 8
    have rf8 : w3.frozen? ⟨w.heap.size + 1, 8, none⟩ = false := hR3.frozen 8
    have rc9 : w3.cell? ⟨w.heap.size + 1, 9, none⟩ = some (.int .i64 0) := hR3.cell 9
    have rf9 : w3.frozen? ⟨w.heap.size + 1, 9, none⟩ = false := hR3.frozen 9
    have uc0 : w3.cell? ⟨w.heap.size + 2, 0, none⟩ = some (.int .i64 0) := hr3.cell 0
    have uf0 : w3.frozen? ⟨w.heap.size + 2, 0, none⟩ = false := hr3.frozen 0
    have uc1 : w3.cell? ⟨w.heap.size + 2, 1, none⟩ = some (.int .i64 0) := hr3.cell 1
    have uf1 : w3.frozen? ⟨w.heap.size + 2, 1, none⟩ = false := hr3.frozen 1
    have uc2 : w3.cell? ⟨w.heap.size + 2, 2, none⟩ = some (.string ⟨#[]⟩) := hr3.cell 2
    have uf2 : w3.frozen? ⟨w.heap.size + 2, 2, none⟩ = false := hr3.frozen 2
    have uc3 : w3.cell? ⟨w.heap.size + 2, 3, none⟩ = some (.slice none 0 0) := hr3.cell 3
    have uf3 : w3.frozen? ⟨w.heap.size + 2, 3, none⟩ = false := hr3.frozen 3
    have uc4 : w3.cell? ⟨w.heap.size + 2, 4, none⟩ = some (.int .i64 0) := hr3.cell 4
    have uf4 : w3.frozen? ⟨w.heap.size + 2, 4, none⟩ = false := hr3.frozen 4
    have uc5 : w3.cell? ⟨w.heap.size + 2, 5, none⟩ = some (.int .i64 0) := hr3.cell 5
    have uf5 : w3.frozen? ⟨w.heap.size + 2, 5, none⟩ = false := hr3.frozen 5
    have uc6 : w3.cell? ⟨w.heap.size + 2, 6, none⟩ = some (.int .i64 0) := hr3.cell 6
    have uf6 : w3.frozen? ⟨w.heap.size + 2, 6, none⟩ = false := hr3.frozen 6
    have uc7 : w3.cell? ⟨w.heap.size + 2, 7, none⟩ = some (.int .i64 0) := hr3.cell 7
    have uf7 : w3.frozen? ⟨w.heap.size + 2, 7, none⟩ = false := hr3.frozen 7
    have uc8 : w3.cell? ⟨w.heap.size + 2, 8, none⟩ = some (.int .i64 0) := hr3.cell 8
    have uf8 : w3.frozen? ⟨w.heap.size + 2, 8, none⟩ = false := hr3.frozen 8
    have uc9 : w3.cell? ⟨w.heap.size + 2, 9, none⟩ = some (.int .i64 0) := hr3.cell 9
    have uf9 : w3.frozen? ⟨w.heap.size + 2, 9, none⟩ = false := hr3.frozen 9
    have hR3H := Lib.hid hR3
    clear hR3 hr3
    go_wp2_with fail
    (try simp only [Exit.inBlock, Exit.then])
    refine bodyPost_ret (results_cell_row2 rfl _ _ (w.heap.size + 1) 44 _ _ rfl (put10 hR3H.out (.int .i64 0) (.int .i64 0) (.string ⟨#[]⟩) (.slice none 0 0) (.int .i64 0) (.int .i64 0) (.int .i64 0) (.int .i64 0) (.int .i64 0) (.int .i64 0)) Tryz.underlying44 rfl (by kernel_rfl)) rfl ?_
    exact ⟨rfl, kp_end hH.out hb0H.out hk3H.out (frm10 (Frm.refl _ _) (.inl (by show w.heap.size ≤ w.heap.size + 1 ∧ w.heap.size + 1 < _; have := hR0H.out.lt; omega)) _ _ _ _ _ _ _ _ _ _)⟩
end
end Go.Proofs.YtmilagppbepnbaaGreat.Kn
/- The kernel's gate: onDescriptors, more, whatever the inner call does. Condition: the kernel lies as stated. -/
namespace Go.Proofs.YtmilagppbepnbaaGreat.Kn
open Go.RowKit Go.PlainAid
set_option linter.unusedVariables false
set_option linter.unusedSimpArgs false
attribute [local go_sem] Oper.semAt_some
section
variable {w w' w3 w4 : World} {B : Ix → Nat → Prop} {q : Nat} {K K' : Ker} {M : Mp} {c : Nat}
set_option maxRecDepth 100000 in
set_option maxHeartbeats 4000000 in
theorem on_close (h : KerIs w B q K M) {pb : Nat} (a b : Int) (s t : ByteArray) (pa : Option Addr) (pn pc : Nat) (er : Int)
    (hin : ∀ W, Below w.heap.size w W → Calls Tryz.prog 140 #[.pointer (some ⟨q, 0, none⟩), .pointer (some ⟨pb, 0, none⟩), .int .i64 a] W fun e w' => e = .returned (.int .i64 er) ∧ KP (AllX B) W K M w' q K') :
    Calls Tryz.prog 89 #[.pointer (some ⟨q, 0, none⟩), .pointer (some ⟨pb, 0, none⟩), .agg #[.int .i64 4, .int .i64 a, .int .i64 b, .string s, .string t, .slice pa pn pc]] w fun e w' => e = .returned (.tuple #[.agg #[.int .i64 0, .int .i64 0, .string ⟨#[]⟩, .slice none 0 0, .int .i64 0, .int .i64 0, .int .i64 0, .int .i64 0, .int .i64 0, .int .i64 0], .int .i64 er]) ∧ KP (AllX B) w K M w' q K' := by
  have hinH := Lib.hid hin
  have hH := Lib.hid h
  clear h hin
  go_enter Tryz.func89, Tryz.ntmps89
  go_upto_region 11 with fail
  obtain ⟨W0, hW0⟩ : ∃ W, ((w.alloc (.cells #[.int .i64 4, .int .i64 a, .int .i64 b, .string s, .string t, .slice pa pn pc] 34)).alloc (.cells #[.int .i64 0, .int .i64 0, .string ⟨#[]⟩, .slice none 0 0, .int .i64 0, .int .i64 0, .int .i64 0, .int .i64 0, .int .i64 0, .int .i64 0] 44)).alloc (.cells #[.int .i64 0, .int .i64 0, .string ⟨#[]⟩, .slice none 0 0, .int .i64 0, .int .i64 0, .int .i64 0, .int .i64 0, .int .i64 0, .int .i64 0] 44) = W := ⟨_, rfl⟩
  have hb0 : Below w.heap.size w W0 := by rw [← hW0]; exact (((Below.refl _ w).alloc (Nat.le_refl _) _).alloc (by simp) _).alloc (by simp; omega) _
  have hC0 : Blk W0 w.heap.size 34 #[.int .i64 4, .int .i64 a, .int .i64 b, .string s, .string t, .slice pa pn pc] := by rw [← hW0]; exact ((Blk.new w _ _).alloc _).alloc _
  have hR0 : Blk W0 (w.heap.size + 1) 44 #[.int .i64 0, .int .i64 0, .string ⟨#[]⟩, .slice none 0 0, .int .i64 0, .int .i64 0, .int .i64 0, .int .i64 0, .int .i64 0, .int .i64 0] := by
    have h := (Blk.new (w.alloc (.cells #[.int .i64 4, .int .i64 a, .int .i64 b, .string s, .string t, .slice pa pn pc] 34)) 44 #[.int .i64 0, .int .i64 0, .string ⟨#[]⟩, .slice none 0 0, .int .i64 0, .int .i64 0, .int .i64 0, .int .i64 0, .int .i64 0, .int .i64 0]).alloc (.cells #[.int .i64 0, .int .i64 0, .string ⟨#[]⟩, .slice none 0 0, .int .i64 0, .int .i64 0, .int .i64 0, .int .i64 0, .int .i64 0, .int .i64 0] 44)
    rw [World.size_alloc, hW0] at h
    exact h
  have hr0 : Blk W0 (w.heap.size + 2) 44 #[.int .i64 0, .int .i64 0, .string ⟨#[]⟩, .slice none 0 0, .int .i64 0, .int .i64 0, .int .i64 0, .int .i64 0, .int .i64 0, .int .i64 0] := by
    have h := Blk.new ((w.alloc (.cells #[.int .i64 4, .int .i64 a, .int .i64 b, .string s, .string t, .slice pa pn pc] 34)).alloc (.cells #[.int .i64 0, .int .i64 0, .string ⟨#[]⟩, .slice none 0 0, .int .i64 0, .int .i64 0, .int .i64 0, .int .i64 0, .int .i64 0, .int .i64 0] 44)) 44 #[.int .i64 0, .int .i64 0, .string ⟨#[]⟩, .slice none 0 0, .int .i64 0, .int .i64 0, .int .i64 0, .int .i64 0, .int .i64 0, .int .i64 0]
    rw [World.size_alloc, World.size_alloc, hW0] at h
    exact h
  have a1 : W0.cell? ⟨w.heap.size, 1, none⟩ = some (.int .i64 a) := hC0.cell 1
  have a2 : W0.cell? ⟨w.heap.size, 2, none⟩ = some (.int .i64 b) := hC0.cell 2
  have a3 : W0.cell? ⟨w.heap.size, 3, none⟩ = some (.string s) := hC0.cell 3
  have hb0H := Lib.hid hb0
  have hR0H := Lib.hid hR0
  have hr0H := Lib.hid hr0
  rw [hW0]
  clear hb0 hC0 hR0 hr0 hW0
  go_wp2_with (first
    | (go_at_call 140; refine (hinH.out W0 hb0H.out).mono ?_; rintro e w3 ⟨rfl, hk3⟩
       have hR3 := hR0H.out.keep (kp_keep hH.out hk3 (by omega) hR0H.out.lt)
       have hr3 := hr0H.out.keep (kp_keep hH.out hk3 (by omega) hr0H.out.lt)
       have rc0 : w3.cell? ⟨w.heap.size + 1, 0, none⟩ = some (.int .i64 0) := hR3.cell 0
       have rf0 : w3.frozen? ⟨w.heap.size + 1, 0, none⟩ = false := hR3.frozen 0
       have rc1 : w3.cell? ⟨w.heap.size + 1, 1, none⟩ = some (.int .i64 0) := hR3.cell 1
       have rf1 : w3.frozen? ⟨w.heap.size + 1, 1, none⟩ = false := hR3.frozen 1
       have rc2 : w3.cell? ⟨w.heap.size + 1, 2, none⟩ = some (.string ⟨#[]⟩) := hR3.cell 2
       have rf2 : w3.frozen? ⟨w.heap.size + 1, 2, none⟩ = false := hR3.frozen 2
       have rc3 : w3.cell? ⟨w.heap.size + 1, 3, none⟩ = some (.slice none 0 0) := hR3.cell 3
       have rf3 : w3.frozen? ⟨w.heap.size + 1, 3, none⟩ = false := hR3.frozen 3
       have rc4 : w3.cell? ⟨w.heap.size + 1, 4, none⟩ = some (.int .i64 0) := hR3.cell 4
       have rf4 : w3.frozen? ⟨w.heap.size + 1, 4, none⟩ = false := hR3.frozen 4
       have rc5 : w3.cell? ⟨w.heap.size + 1, 5, none⟩ = some (.int .i64 0) := hR3.cell 5
       have rf5 : w3.frozen? ⟨w.heap.size + 1, 5, none⟩ = false := hR3.frozen 5
       have rc6 : w3.cell? ⟨w.heap.size + 1, 6, none⟩ = some (.int .i64 0) := hR3.cell 6
       have rf6 : w3.frozen? ⟨w.heap.size + 1, 6, none⟩ = false := hR3.frozen 6
       have rc7 : w3.cell? ⟨w.heap.size + 1, 7, none⟩ = some (.int .i64 0) := hR3.cell 7
       have rf7 : w3.frozen? ⟨w.heap.size + 1, 7, none⟩ = false := hR3.frozen 7
       have rc8 : w3.cell? ⟨w.heap.size + 1, 8, none⟩ = some (.int .i64 0) := hR3.cell 8
       have rf8 : w3.frozen? ⟨w.heap.size + 1, 8, none⟩ = false := hR3.frozen 8
       have rc9 : w3.cell? ⟨w.heap.size + 1, 9, none⟩ = some (.int .i64 0) := hR3.cell 9
       have rf9 : w3.frozen? ⟨w.heap.size + 1, 9, none⟩ = false := hR3.frozen 9
       have uc0 : w3.cell? ⟨w.heap.size + 2, 0, none⟩ = some (.int .i64 0) := hr3.cell 0
       have uf0 : w3.frozen? ⟨w.heap.size + 2, 0, none⟩ = false := hr3.frozen 0
       have uc1 : w3.cell? ⟨w.heap.size + 2, 1, none⟩ = some (.int .i64 0) := hr3.cell 1
       have uf1 : w3.frozen? ⟨w.heap.size + 2, 1, none⟩ = false := hr3.frozen 1
       have uc2 : w3.cell? ⟨w.heap.size + 2, 2, none⟩ = some (.string ⟨#[]⟩) := hr3.cell 2
       have uf2 : w3.frozen? ⟨w.heap.size + 2, 2, none⟩ = false := hr3.frozen 2
       have uc3 : w3.cell? ⟨w.heap.size + 2, 3, none⟩ = some (.slice none 0 0) := hr3.cell 3
       have uf3 : w3.frozen? ⟨w.heap.size + 2, 3, none⟩ = false := hr3.frozen 3
       have uc4 : w3.cell? ⟨w.heap.size + 2, 4, none⟩ = some (.int .i64 0) := hr3.cell 4
       have uf4 : w3.frozen? ⟨w.heap.size + 2, 4, none⟩ = false := hr3.frozen 4
       have uc5 : w3.cell? ⟨w.heap.size + 2, 5, none⟩ = some (.int .i64 0) := hr3.cell 5
       have uf5 : w3.frozen? ⟨w.heap.size + 2, 5, none⟩ = false := hr3.frozen 5
       have uc6 : w3.cell? ⟨w.heap.size + 2, 6, none⟩ = some (.int .i64 0) := hr3.cell 6
       have uf6 : w3.frozen? ⟨w.heap.size + 2, 6, none⟩ = false := hr3.frozen 6
       have uc7 : w3.cell? ⟨w.heap.size + 2, 7, none⟩ = some (.int .i64 0) := hr3.cell 7
       have uf7 : w3.frozen? ⟨w.heap.size + 2, 7, none⟩ = false := hr3.frozen 7
       have uc8 : w3.cell? ⟨w.heap.size + 2, 8, none⟩ = some (.int .i64 0) := hr3.cell 8
       have uf8 : w3.frozen? ⟨w.heap.size + 2, 8, none⟩ = false := hr3.frozen 8
       have uc9 : w3.cell? ⟨w.heap.size + 2, 9, none⟩ = some (.int .i64 0) := hr3.cell 9
       have uf9 : w3.frozen? ⟨w.heap.size + 2, 9, none⟩ = false := hr3.frozen 9
       have hk3H := Lib.hid hk3; have hR3H := Lib.hid hR3; clear hk3 hR3 hr3))
  (try simp only [Exit.inBlock, Exit.then])
  refine bodyPost_ret (results_cell_row2 rfl _ _ (w.heap.size + 1) 44 _ _ rfl (put10 hR3H.out (.int .i64 0) (.int .i64 0) (.string ⟨#[]⟩) (.slice none 0 0) (.int .i64 0) (.int .i64 0) (.int .i64 0) (.int .i64 0) (.int .i64 0) (.int .i64 0)) Tryz.underlying44 rfl (by kernel_rfl)) rfl ?_
  exact ⟨rfl, kp_end hH.out hb0H.out hk3H.out (frm10 (Frm.refl _ _) (.inl (by show w.heap.size ≤ w.heap.size + 1 ∧ w.heap.size + 1 < _; have := hR0H.out.lt; omega)) _ _ _ _ _ _ _ _ _ _)⟩
set_option maxRecDepth 100000 in
set_option maxHeartbeats 4000000 in
theorem on_dup2 (h : KerIs w B q K M) {pb : Nat} (a b : Int) (s t : ByteArray) (pa : Option Addr) (pn pc : Nat) (n1 er : Int)
    (hin : ∀ W, Below w.heap.size w W → Calls Tryz.prog 142 #[.pointer (some ⟨q, 0, none⟩), .pointer (some ⟨pb, 0, none⟩), .int .i64 a, .int .i64 b] W fun e w' => e = .returned (.tuple #[.int .i64 n1, .int .i64 er]) ∧ KP (AllX B) W K M w' q K') :
    Calls Tryz.prog 89 #[.pointer (some ⟨q, 0, none⟩), .pointer (some ⟨pb, 0, none⟩), .agg #[.int .i64 6, .int .i64 a, .int .i64 b, .string s, .string t, .slice pa pn pc]] w fun e w' => e = .returned (.tuple #[.agg #[.int .i64 n1, .int .i64 0, .string ⟨#[]⟩, .slice none 0 0, .int .i64 0, .int .i64 0, .int .i64 0, .int .i64 0, .int .i64 0, .int .i64 0], .int .i64 er]) ∧ KP (AllX B) w K M w' q K' := by
  have hinH := Lib.hid hin
  have hH := Lib.hid h
  clear h hin
  go_enter Tryz.func89, Tryz.ntmps89
  go_upto_region 15 with fail
  obtain ⟨W0, hW0⟩ : ∃ W, ((w.alloc (.cells #[.int .i64 6, .int .i64 a, .int .i64 b, .string s, .string t, .slice pa pn pc] 34)).alloc (.cells #[.int .i64 0, .int .i64 0, .string ⟨#[]⟩, .slice none 0 0, .int .i64 0, .int .i64 0, .int .i64 0, .int .i64 0, .int .i64 0, .int .i64 0] 44)).alloc (.cells #[.int .i64 0, .int .i64 0, .string ⟨#[]⟩, .slice none 0 0, .int .i64 0, .int .i64 0, .int .i64 0, .int .i64 0, .int .i64 0, .int .i64 0] 44) = W := ⟨_, rfl⟩
  have hb0 : Below w.heap.size w W0 := by rw [← hW0]; exact (((Below.refl _ w).alloc (Nat.le_refl _) _).alloc (by simp) _).alloc (by simp; omega) _
  have hC0 : Blk W0 w.heap.size 34 #[.int .i64 6, .int .i64 a, .int .i64 b, .string s, .string t, .slice pa pn pc] := by rw [← hW0]; exact ((Blk.new w _ _).alloc _).alloc _
  have hR0 : Blk W0 (w.heap.size + 1) 44 #[.int .i64 0, .int .i64 0, .string ⟨#[]⟩, .slice none 0 0, .int .i64 0, .int .i64 0, .int .i64 0, .int .i64 0, .int .i64 0, .int .i64 0] := by
    have h := (Blk.new (w.alloc (.cells #[.int .i64 6, .int .i64 a, .int .i64 b, .string s, .string t, .slice pa pn pc] 34)) 44 #[.int .i64 0, .int .i64 0, .string ⟨#[]⟩, .slice none 0 0, .int .i64 0, .int .i64 0, .int .i64 0, .int .i64 0, .int .i64 0, .int .i64 0]).alloc (.cells #[.int .i64 0, .int .i64 0, .string ⟨#[]⟩, .slice none 0 0, .int .i64 0, .int .i64 0, .int .i64 0, .int .i64 0, .int .i64 0, .int .i64 0] 44)
    rw [World.size_alloc, hW0] at h
    exact h
  have hr0 : Blk W0 (w.heap.size + 2) 44 #[.int .i64 0, .int .i64 0, .string ⟨#[]⟩, .slice none 0 0, .int .i64 0, .int .i64 0, .int .i64 0, .int .i64 0, .int .i64 0, .int .i64 0] := by
    have h := Blk.new ((w.alloc (.cells #[.int .i64 6, .int .i64 a, .int .i64 b, .string s, .string t, .slice pa pn pc] 34)).alloc (.cells #[.int .i64 0, .int .i64 0, .string ⟨#[]⟩, .slice none 0 0, .int .i64 0, .int .i64 0, .int .i64 0, .int .i64 0, .int .i64 0, .int .i64 0] 44)) 44 #[.int .i64 0, .int .i64 0, .string ⟨#[]⟩, .slice none 0 0, .int .i64 0, .int .i64 0, .int .i64 0, .int .i64 0, .int .i64 0, .int .i64 0]
    rw [World.size_alloc, World.size_alloc, hW0] at h
    exact h
  have a1 : W0.cell? ⟨w.heap.size, 1, none⟩ = some (.int .i64 a) := hC0.cell 1
  have a2 : W0.cell? ⟨w.heap.size, 2, none⟩ = some (.int .i64 b) := hC0.cell 2
  have a3 : W0.cell? ⟨w.heap.size, 3, none⟩ = some (.string s) := hC0.cell 3
  have hb0H := Lib.hid hb0
  have hR0H := Lib.hid hR0
  have hr0H := Lib.hid hr0
  rw [hW0]
  clear hb0 hC0 hR0 hr0 hW0
  go_wp2_with (first
    | (go_at_call 142; refine (hinH.out W0 hb0H.out).mono ?_; rintro e w3 ⟨rfl, hk3⟩
       have hR3 := hR0H.out.keep (kp_keep hH.out hk3 (by omega) hR0H.out.lt)
       have hr3 := hr0H.out.keep (kp_keep hH.out hk3 (by omega) hr0H.out.lt)
       have rc0 : w3.cell? ⟨w.heap.size + 1, 0, none⟩ = some (.int .i64 0) := hR3.cell 0
       have rf0 : w3.frozen? ⟨w.heap.size + 1, 0, none⟩ = false := hR3.frozen 0
       have rc1 : w3.cell? ⟨w.heap.size + 1, 1, none⟩ = some (.int .i64 0) := hR3.cell 1
       have rf1 : w3.frozen? ⟨w.heap.size + 1, 1, none⟩ = false := hR3.frozen 1
       have rc2 : w3.cell? ⟨w.heap.size + 1, 2, none⟩ = some (.string ⟨#[]⟩) := hR3.cell 2
       have rf2 : w3.frozen? ⟨w.heap.size + 1, 2, none⟩ = false := hR3.frozen 2
       have rc3 : w3.cell? ⟨w.heap.size + 1, 3, none⟩ = some (.slice none 0 0) := hR3.cell 3
       have rf3 : w3.frozen? ⟨w.heap.size + 1, 3, none⟩ = false := hR3.frozen 3
       have rc4 : w3.cell? ⟨w.heap.size + 1, 4, none⟩ = some (.int .i64 0) := hR3.cell 4
       have rf4 : w3.frozen? ⟨w.heap.size + 1, 4, none⟩ = false := hR3.frozen 4
       have rc5 : w3.cell? ⟨w.heap.size + 1, 5, none⟩ = some (.int .i64 0) := hR3.cell 5
       have rf5 : w3.frozen? ⟨w.heap.size + 1, 5, none⟩ = false := hR3.frozen 5
       have rc6 : w3.cell? ⟨w.heap.size + 1, 6, none⟩ = some (.int .i64 0) := hR3.cell 6
       have rf6 : w3.frozen? ⟨w.heap.size + 1, 6, none⟩ = false := hR3.frozen 6
       have rc7 : w3.cell? ⟨w.heap.size + 1, 7, none⟩ = some (.int .i64 0) := hR3.cell 7
       have rf7 : w3.frozen? ⟨w.heap.size + 1, 7, none⟩ = false := hR3.frozen 7
       have rc8 : w3.cell? ⟨w.heap.size + 1, 8, none⟩ = some (.int .i64 0) := hR3.cell 8
       have rf8 : w3.frozen? ⟨w.heap.size + 1, 8, none⟩ = false := hR3.frozen 8
       have rc9 : w3.cell? ⟨w.heap.size + 1, 9, none⟩ = some (.int .i64 0) := hR3.cell 9
       have rf9 : w3.frozen? ⟨w.heap.size + 1, 9, none⟩ = false := hR3.frozen 9
       have uc0 : w3.cell? ⟨w.heap.size + 2, 0, none⟩ = some (.int .i64 0) := hr3.cell 0
       have uf0 : w3.frozen? ⟨w.heap.size + 2, 0, none⟩ = false := hr3.frozen 0
       have uc1 : w3.cell? ⟨w.heap.size + 2, 1, none⟩ = some (.int .i64 0) := hr3.cell 1
       have uf1 : w3.frozen? ⟨w.heap.size + 2, 1, none⟩ = false := hr3.frozen 1
       have uc2 : w3.cell? ⟨w.heap.size + 2, 2, none⟩ = some (.string ⟨#[]⟩) := hr3.cell 2
       have uf2 : w3.frozen? ⟨w.heap.size + 2, 2, none⟩ = false := hr3.frozen 2
       have uc3 : w3.cell? ⟨w.heap.size + 2, 3, none⟩ = some (.slice none 0 0) := hr3.cell 3
       have uf3 : w3.frozen? ⟨w.heap.size + 2, 3, none⟩ = false := hr3.frozen 3
       have uc4 : w3.cell? ⟨w.heap.size + 2, 4, none⟩ = some (.int .i64 0) := hr3.cell 4
       have uf4 : w3.frozen? ⟨w.heap.size + 2, 4, none⟩ = false := hr3.frozen 4
       have uc5 : w3.cell? ⟨w.heap.size + 2, 5, none⟩ = some (.int .i64 0) := hr3.cell 5
       have uf5 : w3.frozen? ⟨w.heap.size + 2, 5, none⟩ = false := hr3.frozen 5
       have uc6 : w3.cell? ⟨w.heap.size + 2, 6, none⟩ = some (.int .i64 0) := hr3.cell 6
       have uf6 : w3.frozen? ⟨w.heap.size + 2, 6, none⟩ = false := hr3.frozen 6
       have uc7 : w3.cell? ⟨w.heap.size + 2, 7, none⟩ = some (.int .i64 0) := hr3.cell 7
       have uf7 : w3.frozen? ⟨w.heap.size + 2, 7, none⟩ = false := hr3.frozen 7
       have uc8 : w3.cell? ⟨w.heap.size + 2, 8, none⟩ = some (.int .i64 0) := hr3.cell 8
       have uf8 : w3.frozen? ⟨w.heap.size + 2, 8, none⟩ = false := hr3.frozen 8
       have uc9 : w3.cell? ⟨w.heap.size + 2, 9, none⟩ = some (.int .i64 0) := hr3.cell 9
       have uf9 : w3.frozen? ⟨w.heap.size + 2, 9, none⟩ = false := hr3.frozen 9
       have hk3H := Lib.hid hk3; have hR3H := Lib.hid hR3; clear hk3 hR3 hr3))
  (try simp only [Exit.inBlock, Exit.then])
  refine bodyPost_ret (results_cell_row2 rfl _ _ (w.heap.size + 1) 44 _ _ rfl (put10 (hR3H.out.far (p := ⟨w.heap.size + 2, 0, none⟩) (by show w.heap.size + 1 ≠ w.heap.size + 2; omega) _) (.int .i64 n1) (.int .i64 0) (.string ⟨#[]⟩) (.slice none 0 0) (.int .i64 0) (.int .i64 0) (.int .i64 0) (.int .i64 0) (.int .i64 0) (.int .i64 0)) Tryz.underlying44 rfl (by kernel_rfl)) rfl ?_
  exact ⟨rfl, kp_end hH.out hb0H.out hk3H.out (frm10 ((Frm.refl _ _).setCell (a := ⟨w.heap.size + 2, 0, none⟩) (.inl (by show w.heap.size ≤ w.heap.size + 2 ∧ w.heap.size + 2 < _; have := hr0H.out.lt; omega)) _) (.inl (by show w.heap.size ≤ w.heap.size + 1 ∧ w.heap.size + 1 < _; have := hR0H.out.lt; omega)) _ _ _ _ _ _ _ _ _ _)⟩
set_option maxRecDepth 100000 in
set_option maxHeartbeats 4000000 in
theorem on_text (h : KerIs w B q K M) {pb : Nat} (a b : Int) (s t : ByteArray) (pa : Option Addr) (pn pc : Nat) (n1 er : Int)
    (hin : ∀ W, Below w.heap.size w W → Calls Tryz.prog 146 #[.pointer (some ⟨q, 0, none⟩), .pointer (some ⟨pb, 0, none⟩), .string s] W fun e w' => e = .returned (.tuple #[.int .i64 n1, .int .i64 er]) ∧ KP (AllX B) W K M w' q K') :
    Calls Tryz.prog 89 #[.pointer (some ⟨q, 0, none⟩), .pointer (some ⟨pb, 0, none⟩), .agg #[.int .i64 28, .int .i64 a, .int .i64 b, .string s, .string t, .slice pa pn pc]] w fun e w' => e = .returned (.tuple #[.agg #[.int .i64 n1, .int .i64 0, .string ⟨#[]⟩, .slice none 0 0, .int .i64 0, .int .i64 0, .int .i64 0, .int .i64 0, .int .i64 0, .int .i64 0], .int .i64 er]) ∧ KP (AllX B) w K M w' q K' := by
  have hinH := Lib.hid hin
  have hH := Lib.hid h
  clear h hin
  go_enter Tryz.func89, Tryz.ntmps89
  go_upto_region 23 with fail
  obtain ⟨W0, hW0⟩ : ∃ W, ((w.alloc (.cells #[.int .i64 28, .int .i64 a, .int .i64 b, .string s, .string t, .slice pa pn pc] 34)).alloc (.cells #[.int .i64 0, .int .i64 0, .string ⟨#[]⟩, .slice none 0 0, .int .i64 0, .int .i64 0, .int .i64 0, .int .i64 0, .int .i64 0, .int .i64 0] 44)).alloc (.cells #[.int .i64 0, .int .i64 0, .string ⟨#[]⟩, .slice none 0 0, .int .i64 0, .int .i64 0, .int .i64 0, .int .i64 0, .int .i64 0, .int .i64 0] 44) = W := ⟨_, rfl⟩
  have hb0 : Below w.heap.size w W0 := by rw [← hW0]; exact (((Below.refl _ w).alloc (Nat.le_refl _) _).alloc (by simp) _).alloc (by simp; omega) _
  have hC0 : Blk W0 w.heap.size 34 #[.int .i64 28, .int .i64 a, .int .i64 b, .string s, .string t, .slice pa pn pc] := by rw [← hW0]; exact ((Blk.new w _ _).alloc _).alloc _
  have hR0 : Blk W0 (w.heap.size + 1) 44 #[.int .i64 0, .int .i64 0, .string ⟨#[]⟩, .slice none 0 0, .int .i64 0, .int .i64 0, .int .i64 0, .int .i64 0, .int .i64 0, .int .i64 0] := by
    have h := (Blk.new (w.alloc (.cells #[.int .i64 28, .int .i64 a, .int .i64 b, .string s, .string t, .slice pa pn pc] 34)) 44 #[.int .i64 0, .int .i64 0, .string ⟨#[]⟩, .slice none 0 0, .int .i64 0, .int .i64 0, .int .i64 0, .int .i64 0, .int .i64 0, .int .i64 0]).alloc (.cells #[.int .i64 0, .int .i64 0, .string ⟨#[]⟩, .slice none 0 0, .int .i64 0, .int .i64 0, .int .i64 0, .int .i64 0, .int .i64 0, .int .i64 0] 44)
    rw [World.size_alloc, hW0] at h
    exact h
  have hr0 : Blk W0 (w.heap.size + 2) 44 #[.int .i64 0, .int .i64 0, .string ⟨#[]⟩, .slice none 0 0, .int .i64 0, .int .i64 0, .int .i64 0, .int .i64 0, .int .i64 0, .int .i64 0] := by
    have h := Blk.new ((w.alloc (.cells #[.int .i64 28, .int .i64 a, .int .i64 b, .string s, .string t, .slice pa pn pc] 34)).alloc (.cells #[.int .i64 0, .int .i64 0, .string ⟨#[]⟩, .slice none 0 0, .int .i64 0, .int .i64 0, .int .i64 0, .int .i64 0, .int .i64 0, .int .i64 0] 44)) 44 #[.int .i64 0, .int .i64 0, .string ⟨#[]⟩, .slice none 0 0, .int .i64 0, .int .i64 0, .int .i64 0, .int .i64 0, .int .i64 0, .int .i64 0]
    rw [World.size_alloc, World.size_alloc, hW0] at h
    exact h
  have a1 : W0.cell? ⟨w.heap.size, 1, none⟩ = some (.int .i64 a) := hC0.cell 1
  have a2 : W0.cell? ⟨w.heap.size, 2, none⟩ = some (.int .i64 b) := hC0.cell 2
  have a3 : W0.cell? ⟨w.heap.size, 3, none⟩ = some (.string s) := hC0.cell 3
  have hb0H := Lib.hid hb0
  have hR0H := Lib.hid hR0
  have hr0H := Lib.hid hr0
  rw [hW0]
  clear hb0 hC0 hR0 hr0 hW0
  go_wp2_with (first
    | (go_at_call 146; refine (hinH.out W0 hb0H.out).mono ?_; rintro e w3 ⟨rfl, hk3⟩
       have hR3 := hR0H.out.keep (kp_keep hH.out hk3 (by omega) hR0H.out.lt)
       have hr3 := hr0H.out.keep (kp_keep hH.out hk3 (by omega) hr0H.out.lt)
       have rc0 : w3.cell? ⟨w.heap.size + 1, 0, none⟩ = some (.int .i64 0) := hR3.cell 0
       have rf0 : w3.frozen? ⟨w.heap.size + 1, 0, none⟩ = false := hR3.frozen 0
       have rc1 : w3.cell? ⟨w.heap.size + 1, 1, none⟩ = some (.int .i64 0) := hR3.cell 1
       have rf1 : w3.frozen? ⟨w.heap.size + 1, 1, none⟩ = false := hR3.frozen 1
       have rc2 : w3.cell? ⟨w.heap.size + 1, 2, none⟩ = some (.string ⟨#[]⟩) := hR3.cell 2
       have rf2 : w3.frozen? ⟨w.heap.size + 1, 2, none⟩ = false := hR3.frozen 2
       have rc3 : w3.cell? ⟨w.heap.size + 1, 3, none⟩ = some (.slice none 0 0) := hR3.cell 3
       have rf3 : w3.frozen? ⟨w.heap.size + 1, 3, none⟩ = false := hR3.frozen 3
       have rc4 : w3.cell? ⟨w.heap.size + 1, 4, none⟩ = some (.int .i64 0) := hR3.cell 4
       have rf4 : w3.frozen? ⟨w.heap.size + 1, 4, none⟩ = false := hR3.frozen 4
       have rc5 : w3.cell? ⟨w.heap.size + 1, 5, none⟩ = some (.int .i64 0) := hR3.cell 5
       have rf5 : w3.frozen? ⟨w.heap.size + 1, 5, none⟩ = false := hR3.frozen 5
       have rc6 : w3.cell? ⟨w.heap.size + 1, 6, none⟩ = some (.int .i64 0) := hR3.cell 6
       have rf6 : w3.frozen? ⟨w.heap.size + 1, 6, none⟩ = false := hR3.frozen 6
       have rc7 : w3.cell? ⟨w.heap.size + 1, 7, none⟩ = some (.int .i64 0) := hR3.cell 7
       have rf7 : w3.frozen? ⟨w.heap.size + 1, 7, none⟩ = false := hR3.frozen 7
       have rc8 : w3.cell? ⟨w.heap.size + 1, 8, none⟩ = some (.int .i64 0) := hR3.cell 8
       have rf8 : w3.frozen? ⟨w.heap.size + 1, 8, none⟩ = false := hR3.frozen 8
       have rc9 : w3.cell? ⟨w.heap.size + 1, 9, none⟩ = some (.int .i64 0) := hR3.cell 9
       have rf9 : w3.frozen? ⟨w.heap.size + 1, 9, none⟩ = false := hR3.frozen 9
       have uc0 : w3.cell? ⟨w.heap.size + 2, 0, none⟩ = some (.int .i64 0) := hr3.cell 0
       have uf0 : w3.frozen? ⟨w.heap.size + 2, 0, none⟩ = false := hr3.frozen 0
       have uc1 : w3.cell? ⟨w.heap.size + 2, 1, none⟩ = some (.int .i64 0) := hr3.cell 1
       have uf1 : w3.frozen? ⟨w.heap.size + 2, 1, none⟩ = false := hr3.frozen 1
       have uc2 : w3.cell? ⟨w.heap.size + 2, 2, none⟩ = some (.string ⟨#[]⟩) := hr3.cell 2
       have uf2 : w3.frozen? ⟨w.heap.size + 2, 2, none⟩ = false := hr3.frozen 2
       have uc3 : w3.cell? ⟨w.heap.size + 2, 3, none⟩ = some (.slice none 0 0) := hr3.cell 3
       have uf3 : w3.frozen? ⟨w.heap.size + 2, 3, none⟩ = false := hr3.frozen 3
       have uc4 : w3.cell? ⟨w.heap.size + 2, 4, none⟩ = some (.int .i64 0) := hr3.cell 4
       have uf4 : w3.frozen? ⟨w.heap.size + 2, 4, none⟩ = false := hr3.frozen 4
       have uc5 : w3.cell? ⟨w.heap.size + 2, 5, none⟩ = some (.int .i64 0) := hr3.cell 5
       have uf5 : w3.frozen? ⟨w.heap.size + 2, 5, none⟩ = false := hr3.frozen 5
       have uc6 : w3.cell? ⟨w.heap.size + 2, 6, none⟩ = some (.int .i64 0) := hr3.cell 6
       have uf6 : w3.frozen? ⟨w.heap.size + 2, 6, none⟩ = false := hr3.frozen 6
       have uc7 : w3.cell? ⟨w.heap.size + 2, 7, none⟩ = some (.int .i64 0) := hr3.cell 7
       have uf7 : w3.frozen? ⟨w.heap.size + 2, 7, none⟩ = false := hr3.frozen 7
       have uc8 : w3.cell? ⟨w.heap.size + 2, 8, none⟩ = some (.int .i64 0) := hr3.cell 8
       have uf8 : w3.frozen? ⟨w.heap.size + 2, 8, none⟩ = false := hr3.frozen 8
       have uc9 : w3.cell? ⟨w.heap.size + 2, 9, none⟩ = some (.int .i64 0) := hr3.cell 9
       have uf9 : w3.frozen? ⟨w.heap.size + 2, 9, none⟩ = false := hr3.frozen 9
       have hk3H := Lib.hid hk3; have hR3H := Lib.hid hR3; clear hk3 hR3 hr3))
  (try simp only [Exit.inBlock, Exit.then])
  refine bodyPost_ret (results_cell_row2 rfl _ _ (w.heap.size + 1) 44 _ _ rfl (put10 (hR3H.out.far (p := ⟨w.heap.size + 2, 0, none⟩) (by show w.heap.size + 1 ≠ w.heap.size + 2; omega) _) (.int .i64 n1) (.int .i64 0) (.string ⟨#[]⟩) (.slice none 0 0) (.int .i64 0) (.int .i64 0) (.int .i64 0) (.int .i64 0) (.int .i64 0) (.int .i64 0)) Tryz.underlying44 rfl (by kernel_rfl)) rfl ?_
  exact ⟨rfl, kp_end hH.out hb0H.out hk3H.out (frm10 ((Frm.refl _ _).setCell (a := ⟨w.heap.size + 2, 0, none⟩) (.inl (by show w.heap.size ≤ w.heap.size + 2 ∧ w.heap.size + 2 < _; have := hr0H.out.lt; omega)) _) (.inl (by show w.heap.size ≤ w.heap.size + 1 ∧ w.heap.size + 1 < _; have := hR0H.out.lt; omega)) _ _ _ _ _ _ _ _ _ _)⟩
end
end Go.Proofs.YtmilagppbepnbaaGreat.Kn
/- The kernel's answer, for every call but glob. Condition: the kernel lies as stated, bounded. -/
namespace Go.Proofs.YtmilagppbepnbaaGreat.Kn
open Go.RowKit Go.PlainAid
set_option linter.unusedVariables false
set_option linter.unusedSimpArgs false
/-- What answer gives back. -/
def Given (B : Ix → Nat → Prop) (w : World) (K : Ker) (M : Mp) (q : Nat) (A : Ans) (e : Ending) (w' : World) : Prop :=
  (∃ (la : Option Addr) (ln lc : Nat) (x0 x1 x2 x3 x4 : Int), e = .returned (.tuple #[.agg #[.int .i64 A.n1, .int .i64 A.n2, .string A.st, .slice la ln lc, .int .i64 x0, .int .i64 x1, .int .i64 x2, .int .i64 x3, .int .i64 x4, .int .i64 0], .int .i64 A.er])) ∧ KP (AllX B) w K M w' q A.ker
section
variable {w w' : World} {B : Ix → Nat → Prop} {q : Nat} {K K' : Ker} {M : Mp} {b z n : Nat} {P : Prc}
theorem dup_ok (hI : Inv b z K) (hP : ask K.procs n = some P) (fd : Int) : (tabM P.tab fd).2 = 0 → ∃ m : Nat, (tabM P.tab fd).1 = m ∧ ∃ D, ask K.descs m = some D ∧ (-1000000 ≤ D.refs ∧ D.refs ≤ 1000000) := fun h0 => by
  obtain ⟨i, rfl, hi, ht, hx⟩ := tab_ok h0
  obtain ⟨m, hm, D, hD, h1, h2⟩ := hI.ok.forkOK hP i hi ht
  exact ⟨m, hx.trans hm, D, hD, h1, by omega⟩
theorem pipe_bd (hI : Inv b z K) : ∀ m y, ask K.descs m = some y → ∀ x, y.pipe = some x → x ≤ K.lastX := fun m y hy x hx => by
  by_cases h34 : y.kind = 3 ∨ y.kind = 4
  · obtain ⟨hp, s, hs⟩ := hI.ok.pip m y hy h34
    have e : x = y.n := by rw [hx] at hp; exact Option.some.inj hp
    rw [e]
    exact (hI.ok.pipe_le hs).2
  · rw [hI.ok.nop m y hy h34] at hx; cases hx
theorem give_4 (h : KerIs w B q K M) (hI : Inv b z K) (hb : b ≤ 1200) (hP : ask K.procs n = some P) (hl : P.ended = false) (a b' : Int) (s t : ByteArray) (pa : Option Addr) (pn pc : Nat) (hs : s.size ≤ maxLen) (ht : t.size ≤ maxLen) (h9 : b' ≤ 9223372036854775807) :
    Calls Tryz.prog 48 #[.pointer (some ⟨q, 0, none⟩), .pointer (some ⟨M.br n, 0, none⟩), .agg (callC 4 a b' s t pa pn pc)] w (Given B w K M q (ansM K n P ⟨4, a, b', s, t⟩)) :=
  ans_4 h a b' s t pa pn pc _ _ _ _ (fun W hW => (on_close (h.below hW) a b' s t pa pn pc _ (fun W' hW' => close_any ((h.below hW).below hW') hI.wf (by omega) hP a (hI.ok.closeOK hP a))).mono fun e w' ⟨he, hk⟩ => ⟨⟨none, 0, 0, 0, 0, 0, 0, 0, he⟩, hk⟩)
theorem give_5 (h : KerIs w B q K M) (hI : Inv b z K) (hb : b ≤ 1200) (hP : ask K.procs n = some P) (hl : P.ended = false) (a b' : Int) (s t : ByteArray) (pa : Option Addr) (pn pc : Nat) (hs : s.size ≤ maxLen) (ht : t.size ≤ maxLen) (h9 : b' ≤ 9223372036854775807) :
    Calls Tryz.prog 48 #[.pointer (some ⟨q, 0, none⟩), .pointer (some ⟨M.br n, 0, none⟩), .agg (callC 5 a b' s t pa pn pc)] w (Given B w K M q (ansM K n P ⟨5, a, b', s, t⟩)) :=
  ans_5 h a b' s t pa pn pc _ _ _ _ (fun W hW => (on_dup (h.below hW) a b' s t pa pn pc _ _ (fun W' hW' => dup_any ((h.below hW).below hW') hP a b' (dup_ok hI hP a))).mono fun e w' ⟨he, hk⟩ => ⟨⟨none, 0, 0, 0, 0, 0, 0, 0, he⟩, hk⟩)
theorem give_6 (h : KerIs w B q K M) (hI : Inv b z K) (hb : b ≤ 1200) (hP : ask K.procs n = some P) (hl : P.ended = false) (a b' : Int) (s t : ByteArray) (pa : Option Addr) (pn pc : Nat) (hs : s.size ≤ maxLen) (ht : t.size ≤ maxLen) (h9 : b' ≤ 9223372036854775807) :
    Calls Tryz.prog 48 #[.pointer (some ⟨q, 0, none⟩), .pointer (some ⟨M.br n, 0, none⟩), .agg (callC 6 a b' s t pa pn pc)] w (Given B w K M q (ansM K n P ⟨6, a, b', s, t⟩)) :=
  ans_6 h a b' s t pa pn pc _ _ _ _ (fun W hW => (on_dup2 (h.below hW) a b' s t pa pn pc _ _ (fun W' hW' => dup2_any ((h.below hW).below hW') hI.wf (by omega) hP a b' (OK.dup2 hI.ok hP hl a b').2)).mono fun e w' ⟨he, hk⟩ => ⟨⟨none, 0, 0, 0, 0, 0, 0, 0, he⟩, hk⟩)
theorem give_7 (h : KerIs w B q K M) (hI : Inv b z K) (hb : b ≤ 1200) (hP : ask K.procs n = some P) (hl : P.ended = false) (a b' : Int) (s t : ByteArray) (pa : Option Addr) (pn pc : Nat) (hs : s.size ≤ maxLen) (ht : t.size ≤ maxLen) (h9 : b' ≤ 9223372036854775807) :
    Calls Tryz.prog 48 #[.pointer (some ⟨q, 0, none⟩), .pointer (some ⟨M.br n, 0, none⟩), .agg (callC 7 a b' s t pa pn pc)] w (Given B w K M q (ansM K n P ⟨7, a, b', s, t⟩)) :=
  ans_7 h a b' s t pa pn pc _ _ _ _ (fun W hW => (on_pipe (h.below hW) a b' s t pa pn pc _ _ _ (fun W' hW' => newPipe_any ((h.below hW).below hW') hP (by have := hI.bd; omega) (by have := hI.bx; omega) (pipe_bd hI))).mono fun e w' ⟨he, hk⟩ => ⟨⟨none, 0, 0, 0, 0, 0, 0, 0, he⟩, hk⟩)
theorem give_8 (h : KerIs w B q K M) (hI : Inv b z K) (hb : b ≤ 1200) (hP : ask K.procs n = some P) (hl : P.ended = false) (a b' : Int) (s t : ByteArray) (pa : Option Addr) (pn pc : Nat) (hs : s.size ≤ maxLen) (ht : t.size ≤ maxLen) (h9 : b' ≤ 9223372036854775807) :
    Calls Tryz.prog 48 #[.pointer (some ⟨q, 0, none⟩), .pointer (some ⟨M.br n, 0, none⟩), .agg (callC 8 a b' s t pa pn pc)] w (Given B w K M q (ansM K n P ⟨8, a, b', s, t⟩)) :=
  ans_8 h a b' s t pa pn pc _ _ _ _ (fun W hW => (on_fork (h.below hW) a b' s t pa pn pc _ _ (fun W' hW' => fork_any ((h.below hW).below hW') hI.wf (by omega) hP (by have := hI.br; omega) (hI.ok.forkOK hP))).mono fun e w' ⟨he, hk⟩ => ⟨⟨none, 0, 0, 0, 0, 0, 0, 0, he⟩, hk⟩)
theorem give_9 (h : KerIs w B q K M) (hI : Inv b z K) (hb : b ≤ 1200) (hP : ask K.procs n = some P) (hl : P.ended = false) (a b' : Int) (s t : ByteArray) (pa : Option Addr) (pn pc : Nat) (hs : s.size ≤ maxLen) (ht : t.size ≤ maxLen) (h9 : b' ≤ 9223372036854775807) :
    Calls Tryz.prog 48 #[.pointer (some ⟨q, 0, none⟩), .pointer (some ⟨M.br n, 0, none⟩), .agg (callC 9 a b' s t pa pn pc)] w (Given B w K M q (ansM K n P ⟨9, a, b', s, t⟩)) :=
  ans_9 h a b' s t pa pn pc _ _ _ _ (fun W hW => (on_exec (h.below hW) a b' s t pa pn pc hP rfl hI.ok hI.wf (by omega) hl).mono fun e w' ⟨he, hk⟩ => ⟨⟨none, 0, 0, 0, 0, 0, 0, 0, he⟩, hk⟩)
theorem give_12 (h : KerIs w B q K M) (hI : Inv b z K) (hb : b ≤ 1200) (hP : ask K.procs n = some P) (hl : P.ended = false) (a b' : Int) (s t : ByteArray) (pa : Option Addr) (pn pc : Nat) (hs : s.size ≤ maxLen) (ht : t.size ≤ maxLen) (h9 : b' ≤ 9223372036854775807) :
    Calls Tryz.prog 48 #[.pointer (some ⟨q, 0, none⟩), .pointer (some ⟨M.br n, 0, none⟩), .agg (callC 12 a b' s t pa pn pc)] w (Given B w K M q (ansM K n P ⟨12, a, b', s, t⟩)) :=
  ans_12 h a b' s t pa pn pc _ _ _ _ (fun W hW => (on_chdir (h.below hW) a b' s t pa pn pc _ (fun W' hW' => chdir_any ((h.below hW).below hW') (c := 4 * b + 1) (hI.wf.mono (by omega)) (by omega) hP s hs (hold_wf hI.wf _))).mono fun e w' ⟨he, hk⟩ => ⟨⟨none, 0, 0, 0, 0, 0, 0, 0, he⟩, hk⟩)
theorem give_13 (h : KerIs w B q K M) (hI : Inv b z K) (hb : b ≤ 1200) (hP : ask K.procs n = some P) (hl : P.ended = false) (a b' : Int) (s t : ByteArray) (pa : Option Addr) (pn pc : Nat) (hs : s.size ≤ maxLen) (ht : t.size ≤ maxLen) (h9 : b' ≤ 9223372036854775807) :
    Calls Tryz.prog 48 #[.pointer (some ⟨q, 0, none⟩), .pointer (some ⟨M.br n, 0, none⟩), .agg (callC 13 a b' s t pa pn pc)] w (Given B w K M q (ansM K n P ⟨13, a, b', s, t⟩)) :=
  ans_13 h a b' s t pa pn pc _ _ _ _ (fun W hW => (on_umask (h.below hW) a b' s t pa pn pc hP rfl).mono fun e w' ⟨he, hk⟩ => ⟨⟨none, 0, 0, 0, 0, 0, 0, 0, he⟩, hk⟩)
theorem give_17 (h : KerIs w B q K M) (hI : Inv b z K) (hb : b ≤ 1200) (hP : ask K.procs n = some P) (hl : P.ended = false) (a b' : Int) (s t : ByteArray) (pa : Option Addr) (pn pc : Nat) (hs : s.size ≤ maxLen) (ht : t.size ≤ maxLen) (h9 : b' ≤ 9223372036854775807) :
    Calls Tryz.prog 48 #[.pointer (some ⟨q, 0, none⟩), .pointer (some ⟨M.br n, 0, none⟩), .agg (callC 17 a b' s t pa pn pc)] w (Given B w K M q (ansM K n P ⟨17, a, b', s, t⟩)) :=
  ans_17 h a b' s t pa pn pc _ _ _ _ (fun W hW => (on_mkdir (h.below hW) a b' s t pa pn pc hP rfl _ _ (fun W' hW' => fMkdir_any ((h.below hW).below hW') hI.wf (by omega) P.dir s _ hs)).mono fun e w' ⟨he, hk⟩ => ⟨⟨none, 0, 0, 0, 0, 0, 0, 0, he⟩, hk⟩)
theorem give_24 (h : KerIs w B q K M) (hI : Inv b z K) (hb : b ≤ 1200) (hP : ask K.procs n = some P) (hl : P.ended = false) (a b' : Int) (s t : ByteArray) (pa : Option Addr) (pn pc : Nat) (hs : s.size ≤ maxLen) (ht : t.size ≤ maxLen) (h9 : b' ≤ 9223372036854775807) :
    Calls Tryz.prog 48 #[.pointer (some ⟨q, 0, none⟩), .pointer (some ⟨M.br n, 0, none⟩), .agg (callC 24 a b' s t pa pn pc)] w (Given B w K M q (ansM K n P ⟨24, a, b', s, t⟩)) :=
  ans_24 h a b' s t pa pn pc _ _ _ _ (fun W hW => (on_mark (h.below hW) a b' s t pa pn pc hP rfl).mono fun e w' ⟨he, hk⟩ => ⟨⟨none, 0, 0, 0, 0, 0, 0, 0, he⟩, hk⟩)
theorem give_25 (h : KerIs w B q K M) (hI : Inv b z K) (hb : b ≤ 1200) (hP : ask K.procs n = some P) (hl : P.ended = false) (a b' : Int) (s t : ByteArray) (pa : Option Addr) (pn pc : Nat) (hs : s.size ≤ maxLen) (ht : t.size ≤ maxLen) (h9 : b' ≤ 9223372036854775807) :
    Calls Tryz.prog 48 #[.pointer (some ⟨q, 0, none⟩), .pointer (some ⟨M.br n, 0, none⟩), .agg (callC 25 a b' s t pa pn pc)] w (Given B w K M q (ansM K n P ⟨25, a, b', s, t⟩)) :=
  ans_25 h a b' s t pa pn pc _ _ _ _ (fun W hW => (on_path (h.below hW) a b' s t pa pn pc hP rfl _ _ (fun W' hW' => fPath_any ((h.below hW).below hW') hI.wf (by omega) P.dir)).mono fun e w' ⟨he, hk⟩ => ⟨⟨none, 0, 0, 0, 0, 0, 0, 0, he⟩, hk⟩)
theorem give_28 (h : KerIs w B q K M) (hI : Inv b z K) (hb : b ≤ 1200) (hP : ask K.procs n = some P) (hl : P.ended = false) (a b' : Int) (s t : ByteArray) (pa : Option Addr) (pn pc : Nat) (hs : s.size ≤ maxLen) (ht : t.size ≤ maxLen) (h9 : b' ≤ 9223372036854775807) :
    Calls Tryz.prog 48 #[.pointer (some ⟨q, 0, none⟩), .pointer (some ⟨M.br n, 0, none⟩), .agg (callC 28 a b' s t pa pn pc)] w (Given B w K M q (ansM K n P ⟨28, a, b', s, t⟩)) :=
  ans_28 h a b' s t pa pn pc _ _ _ _ (fun W hW => (on_text (h.below hW) a b' s t pa pn pc _ _ (fun W' hW' => text_any ((h.below hW).below hW') hP s (by have := hI.bd; omega))).mono fun e w' ⟨he, hk⟩ => ⟨⟨none, 0, 0, 0, 0, 0, 0, 0, he⟩, hk⟩)
end
end Go.Proofs.YtmilagppbepnbaaGreat.Kn
/- The kernel's Call, for every call but glob. Condition: the kernel lies as stated, bounded. -/
namespace Go.Proofs.YtmilagppbepnbaaGreat.Kn
open Go.RowKit Go.PlainAid
set_option linter.unusedVariables false
set_option linter.unusedSimpArgs false
/-- What a call tells, whether it waits, and the kernel behind. -/
structure Tol where
  n1 : Int
  n2 : Int
  st : ByteArray
  er : Int
  wt : Bool
  ker : Ker
noncomputable def callM (K : Ker) (pid : Int) (c : Cal) : Tol := match liveM K pid with
  | none => ⟨0, 0, eT, 3, false, K⟩
  | some n => match ask K.procs n with
    | none => ⟨0, 0, eT, 3, false, K⟩
    | some P =>
      if waitsM K n P c = true then ⟨0, 0, eT, 0, true, K⟩
      else if (ansM K n P c).er = 0 then ⟨(ansM K n P c).n1, (ansM K n P c).n2, (ansM K n P c).st, 0, false, (ansM K n P c).ker⟩
      else ⟨0, 0, eT, (ansM K n P c).er, false, (ansM K n P c).ker⟩
/-- What Call gives back. -/
def Called (B : Ix → Nat → Prop) (w : World) (K : Ker) (M : Mp) (q : Nat) (T : Tol) (e : Ending) (w' : World) : Prop :=
  (∃ (la : Option Addr) (ln lc : Nat) (x0 x1 x2 x3 x4 : Int), e = .returned (.tuple #[.agg #[.int .i64 T.n1, .int .i64 T.n2, .string T.st, .slice la ln lc, .int .i64 x0, .int .i64 x1, .int .i64 x2, .int .i64 x3, .int .i64 x4, .int .i64 T.er], .bool T.wt])) ∧ KP (AllX B) w K M w' q T.ker
theorem live_ask {K : Ker} {pid : Int} {n : Nat} (h : liveM K pid = some n) : ∃ P, ask K.procs n = some P ∧ P.ended = false ∧ pid = n := by
  unfold liveM at h
  split at h
  · rename_i h0
    split at h
    · rename_i P hP
      split at h
      · cases h
      · rename_i he
        cases h
        exact ⟨P, hP, by simpa using he, by omega⟩
    · cases h
  · cases h
theorem inv_call {b z : Nat} {K : Ker} (hI : Inv b z K) (hb : b ≤ 1200) (pid : Int) (c : Cal) : Inv (b + 1) (z + c.s.size) (callM K pid c).ker := by
  unfold callM
  cases hl : liveM K pid with
  | none => exact inv_up hI _
  | some n =>
    obtain ⟨P, hP, he, _⟩ := live_ask hl
    dsimp only
    rw [hP]
    dsimp only
    split
    · exact inv_up hI _
    · split <;> exact inv_ans hI hb hP he c
section
variable {w w' : World} {B : Ix → Nat → Prop} {q : Nat} {K K' : Ker} {M : Mp} {b z n : Nat} {P : Prc}
/-- By what waits and answer say. -/
theorem call_by (h : KerIs w B q K M) (pid no a b' : Int) (s t : ByteArray) (pa : Option Addr) (pn pc : Nat)
    (hwt : ∀ n P, liveM K pid = some n → ask K.procs n = some P → ∀ W, Below w.heap.size w W → Calls Tryz.prog 47 #[.pointer (some ⟨q, 0, none⟩), .pointer (some ⟨M.br n, 0, none⟩), .agg (callC no a b' s t pa pn pc)] W fun e w' => e = .returned (.bool (waitsM K n P ⟨no, a, b', s, t⟩)) ∧ Below W.heap.size W w')
    (han : ∀ n P, liveM K pid = some n → ask K.procs n = some P → P.ended = false → ∀ W, Below w.heap.size w W → Calls Tryz.prog 48 #[.pointer (some ⟨q, 0, none⟩), .pointer (some ⟨M.br n, 0, none⟩), .agg (callC no a b' s t pa pn pc)] W (Given B W K M q (ansM K n P ⟨no, a, b', s, t⟩))) :
    Calls Tryz.prog 15 #[.pointer (some ⟨q, 0, none⟩), .int .i64 pid, .agg (callC no a b' s t pa pn pc)] w (Called B w K M q (callM K pid ⟨no, a, b', s, t⟩)) := by
  unfold callM
  cases hl : liveM K pid with
  | none =>
    refine (call_nobody pid no a b' s t pa pn pc w (fun W hW => ?_)).mono fun e w' ⟨he, hw⟩ => ⟨⟨none, 0, 0, 0, 0, 0, 0, 0, he⟩, KP.of h hw⟩
    have := process_any (h.below hW) pid
    rw [hl] at this
    exact this
  | some n =>
    obtain ⟨P, hP, he, _⟩ := live_ask hl
    dsimp only
    rw [hP]
    dsimp only
    have hwt := hwt n P hl hP
    have han := han n P hl hP he
    by_cases h1 : waitsM K n P ⟨no, a, b', s, t⟩ = true
    · rw [if_pos h1]
      rw [h1] at hwt
      exact (call_waits h hl no a b' s t pa pn pc hwt).mono fun e w' ⟨he, hw⟩ => ⟨⟨none, 0, 0, 0, 0, 0, 0, 0, he⟩, KP.of h hw⟩
    · rw [if_neg h1]
      rw [Bool.eq_false_iff.2 h1] at hwt
      by_cases h2 : (ansM K n P ⟨no, a, b', s, t⟩).er = 0
      · rw [if_pos h2]
        unfold Given at han
        rw [h2] at han
        exact call_okx h hl no a b' s t pa pn pc _ _ _ hwt han
      · rw [if_neg h2]
        exact (call_errx h hl no a b' s t pa pn pc _ _ _ _ h2 hwt han).mono fun e w' ⟨he, hk⟩ => ⟨⟨none, 0, 0, 0, 0, 0, 0, 0, he⟩, hk⟩
/-- The calls that change one's own alone, and mkdir, fork, path. -/
def isOwn (no : Int) : Prop := no = 4 ∨ no = 5 ∨ no = 6 ∨ no = 7 ∨ no = 9 ∨ no = 12 ∨ no = 13 ∨ no = 24 ∨ no = 28
theorem call_own (h : KerIs w B q K M) (hI : Inv b z K) (hb : b ≤ 1200) (pid no a b' : Int) (s t : ByteArray) (pa : Option Addr) (pn pc : Nat) (hs : s.size ≤ maxLen) (ht : t.size ≤ maxLen) (h9 : b' ≤ 9223372036854775807) (hg : isOwn no ∨ no = 8 ∨ no = 17 ∨ no = 25) :
    Calls Tryz.prog 15 #[.pointer (some ⟨q, 0, none⟩), .int .i64 pid, .agg (callC no a b' s t pa pn pc)] w (Called B w K M q (callM K pid ⟨no, a, b', s, t⟩)) := by
  refine call_by h pid no a b' s t pa pn pc (fun n P hl hP W hW => ?_) (fun n P hl hP he W hW => ?_)
  · have h1 : no ≠ 1 ∧ no ≠ 2 ∧ no ≠ 11 := by unfold isOwn at hg; omega
    have e : waitsM K n P ⟨no, a, b', s, t⟩ = false := by
      unfold waitsM
      rw [if_neg h1.1, if_neg h1.2.1, if_neg h1.2.2]
    rw [e]
    exact waits_other no a b' s t pa pn pc (beq_eq_false_iff_ne.2 h1.1) (beq_eq_false_iff_ne.2 h1.2.1) (beq_eq_false_iff_ne.2 h1.2.2) W
  · rcases hg with (hg | hg | hg | hg | hg | hg | hg | hg | hg) | hg | hg | hg <;> subst hg
    · exact give_4 (h.below hW) hI hb hP he a b' s t pa pn pc hs ht h9
    · exact give_5 (h.below hW) hI hb hP he a b' s t pa pn pc hs ht h9
    · exact give_6 (h.below hW) hI hb hP he a b' s t pa pn pc hs ht h9
    · exact give_7 (h.below hW) hI hb hP he a b' s t pa pn pc hs ht h9
    · exact give_9 (h.below hW) hI hb hP he a b' s t pa pn pc hs ht h9
    · exact give_12 (h.below hW) hI hb hP he a b' s t pa pn pc hs ht h9
    · exact give_13 (h.below hW) hI hb hP he a b' s t pa pn pc hs ht h9
    · exact give_24 (h.below hW) hI hb hP he a b' s t pa pn pc hs ht h9
    · exact give_28 (h.below hW) hI hb hP he a b' s t pa pn pc hs ht h9
    · exact give_8 (h.below hW) hI hb hP he a b' s t pa pn pc hs ht h9
    · exact give_17 (h.below hW) hI hb hP he a b' s t pa pn pc hs ht h9
    · exact give_25 (h.below hW) hI hb hP he a b' s t pa pn pc hs ht h9
end
end Go.Proofs.YtmilagppbepnbaaGreat.Kn
/- A new kernel is bounded; a kernel of one's own beside kept blocks, any call on it; whom a call leaves alone. No condition. -/
namespace Go.Proofs.YtmilagppbepnbaaGreat.Kn
open Go.RowKit Go.PlainAid
set_option linter.unusedVariables false
set_option linter.unusedSimpArgs false
theorem ok_ker0 : OK ker0 :=
  ⟨nmb0, Nat.zero_le _, fun m D h => (by cases h), fun n P h => (by cases h), fun m h => absurd rfl h, fun n P h => (by cases h), fun n P h => (by cases h), fun m D h => (by cases h), fun m D h => (by cases h), fun x s h => (by cases h), fun x h => absurd h (by omega)⟩
theorem ok_new : ∀ k, k ≤ 3 → OK (newKP k).1 ∧ (newKP k).2.ended = false
  | 0, _ => ⟨OKd.fileF (OKd.putR (K := ker0) ok_ker0 prc0 (by decide) (by decide) rfl (fun h => by cases h) (fun i _ h => by cases h) (d' := fun _ => 0) (fun m => by rw [slots_off (fun i _ => rfl)]; rfl)) _, rfl⟩
  | k + 1, hk => by
    obtain ⟨h1, h2⟩ := ok_new k (by omega)
    have h3 : ¬ tfreeM (newKP k).2.tab = 0 := by
      rcases k with _ | _ | _ | k
      · exact (by decide +kernel)
      · exact (by decide +kernel)
      · exact (by decide +kernel)
      · omega
    refine ⟨OKd.inst h1 (newKP_ask k) h2 h3 ⟨1, k, 0, 0, 0, none, ⟨#[]⟩⟩ (by rw [newKP_last]; omega) (fun e => by dsimp only at e; omega) (fun _ => rfl) (fun x => by unfold isEnd; rw [if_neg (by dsimp only; omega)]) (fun x => by unfold isEnd; rw [if_neg (by dsimp only; omega)]), h2⟩
theorem aw0_descs : aw0.descs = [(1, ⟨1, 0, 0, 1, 0, none, ⟨#[]⟩⟩), (2, ⟨1, 1, 0, 1, 0, none, ⟨#[]⟩⟩), (3, ⟨1, 2, 0, 1, 0, none, ⟨#[]⟩⟩)] := by kernel_rfl
theorem inv_new : Inv 1 0 aw0 := by
  refine ⟨(ok_new 3 (Nat.le_refl _)).1, ?_, by decide +kernel, by decide +kernel, by decide +kernel, by decide +kernel, by decide +kernel, fun m D hD => ?_⟩
  · exact (hold_wf new_wf 1).mono (by omega)
  · have hm := ask_mem hD
    rw [aw0_descs] at hm
    simp only [List.mem_cons, List.not_mem_nil, or_false, Prod.mk.injEq] at hm
    rcases hm with ⟨_, rfl⟩ | ⟨_, rfl⟩ | ⟨_, rfl⟩
    · exact ⟨.inl ⟨rfl, by decide⟩, Nat.zero_le _, fun e => by cases e⟩
    · exact ⟨.inl ⟨rfl, by decide⟩, Nat.zero_le _, fun e => by cases e⟩
    · exact ⟨.inl ⟨rfl, by decide⟩, Nat.zero_le _, fun e => by cases e⟩
/-- A kernel of the call's own, and blocks that stay as they lay in W0. -/
def OwnG (R : Nat → Prop) (W0 w0 w : World) (q : Nat) (K : Ker) : Prop := ∃ B M, KerIs w B q K M ∧ (∀ g, AllX B g → w0.heap.size ≤ g) ∧ Below w0.heap.size w0 w ∧ ∀ g, R g → g < w.heap.size ∧ w.heap[g]? = W0.heap[g]? ∧ ¬ AllX B g
section
variable {R : Nat → Prop} {W0 w0 w w' : World} {q b z : Nat} {K K' : Ker}
theorem OwnG.start {L : List (Nat × TypeId × Array Value)} (h : OwnK L w0 w q K) : OwnG (fun _ => False) w0 w0 w q K := by
  obtain ⟨B, M, h1, h2, h3, _⟩ := h
  exact ⟨B, M, h1, h2, h3, fun g hg => hg.elim⟩
theorem OwnG.below (h : OwnG R W0 w0 w q K) (hb : Below w.heap.size w w') : OwnG R W0 w0 w' q K := by
  obtain ⟨B, M, h1, h2, h3, h4⟩ := h
  exact ⟨B, M, h1.below hb, h2, h3.trans (hb.mono h3.size), fun g hg => ⟨Nat.lt_of_lt_of_le (h4 g hg).1 hb.size, (hb.block g (h4 g hg).1).trans (h4 g hg).2.1, (h4 g hg).2.2⟩⟩
theorem OwnG.bel (h : OwnG R W0 w0 w q K) : Below w0.heap.size w0 w := by
  obtain ⟨B, M, h1, h2, h3, h4⟩ := h
  exact h3
/-- What has been laid since, kept too. -/
theorem OwnG.keep (h : OwnG R W0 w0 w q K) (hb : Below w.heap.size w w') : OwnG (fun g => R g ∨ w.heap.size ≤ g ∧ g < w'.heap.size) w' w0 w' q K := by
  obtain ⟨B, M, h1, h2, h3, h4⟩ := h
  refine ⟨B, M, h1.below hb, h2, h3.trans (hb.mono h3.size), fun g hg => ?_⟩
  rcases hg with hg | ⟨hg, hl⟩
  · exact ⟨Nat.lt_of_lt_of_le (h4 g hg).1 hb.size, rfl, (h4 g hg).2.2⟩
  · exact ⟨hl, rfl, fun ⟨i, hi⟩ => by have := h1.lt i g hi; omega⟩
theorem OwnG.less {R' : Nat → Prop} (h : OwnG R W0 w0 w q K) (hR : ∀ g, R' g → R g) : OwnG R' W0 w0 w q K := by
  obtain ⟨B, M, h1, h2, h3, h4⟩ := h
  exact ⟨B, M, h1, h2, h3, fun g hg => h4 g (hR g hg)⟩
theorem OwnG.at_ (h : OwnG R W0 w0 w q K) {g : Nat} (hg : R g) : g < w.heap.size ∧ w.heap[g]? = W0.heap[g]? := by
  obtain ⟨B, M, h1, h2, h3, h4⟩ := h
  exact ⟨(h4 g hg).1, (h4 g hg).2.1⟩
theorem OwnG.of_kp {B : Ix → Nat → Prop} {M : Mp} (h2 : ∀ g, AllX B g → w0.heap.size ≤ g) (h3 : Below w0.heap.size w0 w) (h4 : ∀ g, R g → g < w.heap.size ∧ w.heap[g]? = W0.heap[g]? ∧ ¬ AllX B g) (hk : KP (AllX B) w K M w' q K') : OwnG R W0 w0 w' q K' := by
  obtain ⟨B', M', k1, k2, k3, k4, k5, k6, k7⟩ := hk
  have hsz := h3.size
  exact ⟨B', M', k1, fun g hg => (k6 g hg).elim (h2 g) (fun h => by omega), h3.trans (k7.toBelow h2 hsz), fun g hg => by
    obtain ⟨a1, a2, a3⟩ := h4 g hg
    exact ⟨Nat.lt_of_lt_of_le a1 k7.size, (k7.block g a1 a3).trans a2, fun h7 => (k6 g h7).elim a3 (fun h8 => by omega)⟩⟩
/-- What Call tells. -/
def Told (T : Tol) (e : Ending) : Prop :=
  ∃ (la : Option Addr) (ln lc : Nat) (x0 x1 x2 x3 x4 : Int), e = .returned (.tuple #[.agg #[.int .i64 T.n1, .int .i64 T.n2, .string T.st, .slice la ln lc, .int .i64 x0, .int .i64 x1, .int .i64 x2, .int .i64 x3, .int .i64 x4, .int .i64 T.er], .bool T.wt])
theorem OwnG.callOwn (h : OwnG R W0 w0 w q K) (hI : Inv b z K) (hb : b ≤ 1200) (pid no a b' : Int) (s t : ByteArray) (pa : Option Addr) (pn pc : Nat) (hs : s.size ≤ maxLen) (ht : t.size ≤ maxLen) (h9 : b' ≤ 9223372036854775807) (hg : isOwn no ∨ no = 8 ∨ no = 17 ∨ no = 25) :
    Calls Tryz.prog 15 #[.pointer (some ⟨q, 0, none⟩), .int .i64 pid, .agg #[.int .i64 no, .int .i64 a, .int .i64 b', .string s, .string t, .slice pa pn pc]] w fun e w' => Told (callM K pid ⟨no, a, b', s, t⟩) e ∧ OwnG R W0 w0 w' q (callM K pid ⟨no, a, b', s, t⟩).ker := by
  obtain ⟨B, M, h1, h2, h3, h4⟩ := h
  exact (call_own h1 hI hb pid no a b' s t pa pn pc hs ht h9 hg).mono fun e w' ⟨he, hk⟩ => ⟨he, OwnG.of_kp h2 h3 h4 hk⟩
end
/-! ### Whom a call leaves alone -/
theorem ask_far {X : Type} (l : List (Nat × X)) {n k : Nat} (x : X) (h : k ≠ n) : ask (put1 l n x) k = ask l k := by
  cases hy : ask l n with
  | some y => rw [ask_put hy, if_neg h]
  | none => rw [put1_far x (ask_none.1 hy)]
theorem letM_procs (K : Ker) (m : Nat) : (letM K m).procs = K.procs := (letM_eq K m).1
theorem letL_procs : ∀ (l : List Int) (K : Ker), (letL K l).procs = K.procs
  | [], K => rfl
  | x :: l, K => (letL_procs l (letM K x.toNat)).trans (letM_procs K x.toNat)
theorem incM_procs (K : Ker) (m : Nat) : (incM K m).procs = K.procs := (incM_eq K m).2.2.1
section
variable {K : Ker} {n k : Nat} {P : Prc}
theorem far_R (hk : k ≠ n) (P' : Prc) : ask (setR K n P').procs k = ask K.procs k := ask_far _ _ hk
theorem far_inst (hk : k ≠ n) (D : Dsc) : ask (instM K n P D).procs k = ask K.procs k := ask_far _ _ hk
theorem far_close (hk : k ≠ n) (fd : Int) : ask (closeM K n P fd).procs k = ask K.procs k := by
  unfold closeM
  split
  · rw [letM_procs]; exact far_R hk _
  · rfl
theorem far_dup (hk : k ≠ n) (fd l : Int) : ask (dupM K n P fd l).2.2.procs k = ask K.procs k := by
  unfold dupM
  split
  · rfl
  · split
    · show ask (incM _ _).procs k = _; rw [incM_procs]; exact far_R hk _
    · rfl
theorem far_dup2 (hk : k ≠ n) (fd o : Int) : ask (dup2M K n P fd o).2.2.procs k = ask K.procs k := by
  have h : ∀ m, ask (dup2K K n P m o).procs k = ask K.procs k := fun m => by unfold dup2K; rw [incM_procs]; exact far_R hk _
  unfold dup2M
  split
  · rfl
  · split
    · rfl
    · split
      · rfl
      · split
        · show ask (letM _ _).procs k = _; rw [letM_procs]; exact h _
        · exact h _
theorem far_pipe (hk : k ≠ n) : ask (npipeM K n P).2.2.2.procs k = ask K.procs k := by
  unfold npipeM
  split
  · rfl
  · exact (far_inst hk _).trans (far_inst hk _)
theorem far_exec (hk : k ≠ n) : ask (execM K n P).procs k = ask K.procs k := by
  unfold execM
  rw [letL_procs]
  exact far_R hk _
theorem far_chdir (hk : k ≠ n) (s : ByteArray) : ask (chdirM K n P s).2.procs k = ask K.procs k := by
  unfold chdirM
  split
  · rfl
  · split
    · rfl
    · split
      · rfl
      · exact far_R hk _
theorem far_text (hk : k ≠ n) (s : ByteArray) : ask (textM K n P s).2.2.procs k = ask K.procs k := by
  unfold textM
  split
  · rfl
  · exact far_inst hk _
theorem far_ans {c : Cal} (hc : isOwn c.no) (hk : k ≠ n) : ask (ansM K n P c).ker.procs k = ask K.procs k := by
  obtain ⟨no, a, b, s, t⟩ := c
  rcases hc with h | h | h | h | h | h | h | h | h <;> (dsimp only at h; subst h)
  · exact far_close hk _
  · exact far_dup hk _ _
  · exact far_dup2 hk _ _
  · exact far_pipe hk
  · exact far_exec hk
  · exact far_chdir hk _
  · exact far_R hk _
  · exact far_R hk _
  · exact far_text hk _
theorem far_call {c : Cal} (hc : isOwn c.no) {pid : Int} (hk : (k : Int) ≠ pid) : ask (callM K pid c).ker.procs k = ask K.procs k := by
  unfold callM
  cases hl : liveM K pid with
  | none => rfl
  | some n =>
    obtain ⟨P, hP, _, rfl⟩ := live_ask hl
    have hkn : k ≠ n := fun e => hk (by rw [e])
    dsimp only
    rw [hP]
    dsimp only
    split
    · rfl
    · split <;> exact far_ans hc hkn
end
theorem live_of {K : Ker} {n : Nat} {P : Prc} (hP : ask K.procs n = some P) (he : P.ended = false) : liveM K n = some n := by
  unfold liveM
  rw [if_pos (by omega), Int.toNat_natCast, hP]
  dsimp only
  rw [he]
  rfl
theorem path_root {c : Nat} {f : Fs} (h : WF c f) : PathM f 1 = (slT, 0) := by
  obtain ⟨R, hR, hd, _⟩ := h.root
  have hn := node_nat hR
  rw [show ((0 + 1 : Nat) : Int) = 1 by omega] at hn
  unfold PathM
  rw [hn]
  dsimp only
  rw [if_pos hd, if_pos rfl]
end Go.Proofs.YtmilagppbepnbaaGreat.Kn
/- The kernel: Table. Condition: it lies as stated. -/
namespace Go.Proofs.YtmilagppbepnbaaGreat.Kn
open Go.RowKit Go.PlainAid
set_option linter.unusedVariables false
set_option linter.unusedSimpArgs false
attribute [local go_sem] Oper.semAt_some
/-- A row of 32 numbers. -/
structure RowF (w : World) (g : Nat) (F : Nat → Int) : Prop where
  c : ∀ j, j < 32 → w.cell? ⟨g, j, none⟩ = some (.int .i64 (F j))
  fz : ∀ o, w.frozen? ⟨g, o, none⟩ = false
theorem RowF.keep {w w' : World} {g : Nat} {F : Nat → Int} (h : RowF w g F) (k : w'.heap[g]? = w.heap[g]?) : RowF w' g F :=
  ⟨fun j hj => (World.cell?_of_block (a := ⟨g, j, none⟩) k).trans (h.c j hj), fun o => (World.frozen?_of_block (a := ⟨g, o, none⟩) k).trans (h.fz o)⟩
theorem RowF.lt {w : World} {g : Nat} {F : Nat → Int} (h : RowF w g F) : g < w.heap.size := block_of_cell (h.c 0 (by omega))
theorem RowF.put {w : World} {g : Nat} {F : Nat → Int} (h : RowF w g F) (i : Nat) (hi : i < 32) (v : Int) : RowF (w.setCell ⟨g, i, none⟩ (.int .i64 v)) g (fun j => if j = i then v else F j) := by
  refine ⟨fun j hj => ?_, fun o => by rw [World.frozen?_setCell]; exact h.fz o⟩
  by_cases e : j = i
  · subst e; rw [Pp.cell_set_same (h.c j hi) rfl, if_pos rfl]
  · rw [Pp.cell_set_ne (by omega), h.c j hj, if_neg e]
theorem RowF.congr {w : World} {g : Nat} {F G : Nat → Int} (h : RowF w g F) (e : ∀ j, j < 32 → F j = G j) : RowF w g G := ⟨fun j hj => by rw [← e j hj]; exact h.c j hj, h.fz⟩
theorem rowF_made (w : World) : RowF (w.alloc (.cells (madeCells #[.int .i64 0] 32) 3)) w.heap.size (fun _ => 0) := by
  have hB := Pp.heap_made w (.cells (madeCells #[.int .i64 0] 32) 3)
  refine ⟨fun j hj => ?_, fun o => by unfold World.frozen?; rw [hB]; simp⟩
  simp only [World.cell?, hB]
  simp [madeCells, hj, Nat.mod_one]
def tabF (f : Nat → Pp.Sl) (j : Nat) : Int := if (f j).tk then (f j).x else -1
section
variable {w w' : World} {B : Ix → Nat → Prop} {q : Nat} {K K' : Ker} {M : Mp} {c : Nat}
set_option maxRecDepth 100000 in
set_option maxHeartbeats 8000000 in
theorem table_in (nn : Nat) (hnn : 5 ≤ nn) (h : KerIs w B q K M) {pid : Int} {n : Nat} (hl : liveM K pid = some n) {P : Prc} (hP : ask K.procs n = some P) :
    CallsIn Fence.wide nn Tryz.prog 18 #[.pointer (some ⟨q, 0, none⟩), .int .i64 pid] w fun e w' => ∃ g, e = .returned (.slice (some ⟨g, 0, none⟩) 32 32) ∧ w.heap.size ≤ g ∧ RowF w' g (tabF P.tab) ∧ Below w.heap.size w w' := by
  have hpr := process_any h pid
  rw [hl] at hpr
  obtain ⟨i0, hi0, hz0, hz1, hz2⟩ := Pp.info_parts Pp.info3
  have hmk := fun w => run_make (P := Tryz.prog) w 49 3 i0 _ Tryz.underlying49 hi0 hz0 .i64 .i64 ((32 : Nat) : Int) ((32 : Nat) : Int) (by omega) (by omega) (by rw [hz2]; decide) (by omega)
  simp only [Int.toNat_natCast, hz1, Nat.mul_one] at hmk
  have hmk2 : ∀ w, (Instr.makeSlice 49 (.int .i64 32) (.int .i64 32)).run Tryz.prog w = .ok (.slice (some ⟨w.heap.size, 0, none⟩) 32 32) (w.alloc (.cells (madeCells #[.int .i64 0] 32) 3)) := fun w => hmk w
  clear hi0 hz0 hz1 hz2 hmk
  obtain ⟨hB, hT, hS1, hS2, _⟩ : PrcAt w (B (.proc n)) (M.br n) (M.bt n) P := h.part (.proc n) P hP
  obtain ⟨b, hb⟩ : ∃ b, M.br n = b := ⟨_, rfl⟩
  obtain ⟨tb, htb⟩ : ∃ tb, M.bt n = tb := ⟨_, rfl⟩
  have hprH : Hid (Calls Tryz.prog 46 #[.pointer (some ⟨q, 0, none⟩), .int .i64 pid] w fun e w' => e = .returned (.pointer (some ⟨b, 0, none⟩)) ∧ Below w.heap.size w w') := Lib.hid (by rw [← hb]; exact hpr)
  rw [hb, htb] at hB
  rw [htb] at hT
  have hBH := Lib.hid hB
  have hTH := Lib.hid hT
  have hbl := hB.lt
  have htl := hT.lt
  clear h hl hP hpr hB hT hS1 hS2 hb htb
  refine callsIn_of_wp_marks Tryz.func18 rfl trivial ?_ rfl
  simp only [Tryz.ntmps18, List.size_toArray, List.length_cons, List.length_nil, Nat.reduceAdd, Nat.reduceSub, Array.replicate_succ, Array.replicate_zero, List.push_toArray, List.append_toArray, List.nil_append, List.cons_append]
  refine wpIn_wide.2 ?_
  go_upto_region 5 with (go_at_call 46; refine hprH.out.mono ?_; rintro e w1 ⟨rfl, hb1⟩; have hb1H := Lib.hid hb1; clear hb1)
  go_upto_block 0 with fail
  obtain ⟨g, hg⟩ : ∃ g, w1.heap.size = g := ⟨_, rfl⟩
  obtain ⟨W2, hW2⟩ : ∃ W, (w1.alloc (.cells (madeCells #[.int .i64 0] 32) 3)).alloc (.cells #[.slice (some ⟨w1.heap.size, 0, none⟩) 32 32] 49) = W := ⟨_, rfl⟩
  have hb12 : Below w1.heap.size w1 W2 := by rw [← hW2]; exact ((Below.refl _ w1).alloc (Nat.le_refl _) _).alloc (by simp) _
  have hR2 : RowF W2 g (fun _ => 0) := by
    rw [← hW2, ← hg]
    exact (rowF_made w1).keep (Below.heap_alloc _ _ _ (by simp))
  have hS2 : Blk W2 (g + 1) 49 #[.slice (some ⟨g, 0, none⟩) 32 32] := by
    have h := Blk.new (w1.alloc (.cells (madeCells #[.int .i64 0] 32) 3)) 49 #[.slice (some ⟨w1.heap.size, 0, none⟩) 32 32]
    rw [World.size_alloc, hW2, hg] at h
    exact h
  have hs2 : W2.heap.size = g + 2 := by rw [← hW2, ← hg]; simp
  have hwg : w.heap.size ≤ g := by have := hb1H.out.size; omega
  have hst : Hid (RowF W2 g (fun _ => 0) ∧ Blk W2 (g + 1) 49 #[.slice (some ⟨g, 0, none⟩) 32 32] ∧ Below w.heap.size w W2 ∧ W2.heap.size = g + 2) := Lib.hid ⟨hR2, hS2, hb1H.out.trans (hb12.mono hb1H.out.size), hs2⟩
  rw [hW2, hg]
  clear hW2 hg hb12 hR2 hS2 hs2 hmk2
  go_wp2_with fail
  go_loopw [18] (fun s18 wr => ∃ k : Nat, k ≤ 32 ∧ s18 = .int .i64 k ∧ Hid (RowF wr g (fun j => if j < k then -1 else 0) ∧ Blk wr (g + 1) 49 #[.slice (some ⟨g, 0, none⟩) 32 32] ∧ Below w.heap.size w wr ∧ wr.heap.size = g + 2)) (fun s18 _ => 32 - (intOf s18).toNat)
  case atStart => exact ⟨0, by omega, rfl, Lib.hid ⟨hst.out.1.congr (fun j _ => by simp), hst.out.2⟩⟩
  case round =>
    obtain ⟨k, hk, rfl, hH⟩ := hrel
    have sl : wr.cell? ⟨g + 1, 0, none⟩ = some (.slice (some ⟨g, 0, none⟩) 32 32) := hH.out.2.1.cell 0
    clear hst
    by_cases hk2 : k < 32
    · have hk' : (k : Int) < 32 := by omega
      have ck : wr.cell? ⟨g, k, none⟩ = some (.int .i64 0) := by
        have := hH.out.1.c k hk2
        rw [if_neg (Nat.lt_irrefl k)] at this
        exact this
      have fk : wr.frozen? ⟨g, k, none⟩ = false := hH.out.1.fz k
      go_wp2_with fail
      go_roundw
      case rel =>
        obtain ⟨h1, h2, h3, h4⟩ := hH.out
        refine ⟨k + 1, by omega, by go_num, Lib.hid ⟨(h1.put k hk2 (-1)).congr (fun j hj => ?_), h2.far (p := ⟨g, k, none⟩) (by show g + 1 ≠ g; omega) _, h3.setCell (p := ⟨g, k, none⟩) hwg _, by simpa using h4⟩⟩
        by_cases e : j = k
        · rw [if_pos e, if_pos (by omega)]
        · rw [if_neg e]
          by_cases e2 : j < k
          · rw [if_pos e2, if_pos (by omega)]
          · rw [if_neg e2, if_neg (by omega)]
      case measure => simp [intOf]; omega
    · obtain rfl : k = 32 := by omega
      obtain ⟨h1, h2, h3, h4⟩ := hH.out
      have hBr : Blk wr b 84 (pcells P tb).toArray := hBH.out.keep (h3.block _ hbl)
      have hTr : Pp.TabAt wr tb P.tab := hTH.out.keep (h3.block _ htl)
      have b2 : wr.cell? ⟨b, 2, none⟩ = some (.pointer (some ⟨tb, 0, none⟩)) := hBr.cell 2
      obtain ⟨W3, hW3⟩ : ∃ W, wr.alloc (.cells #[.pointer (some ⟨tb, 0, none⟩)] 81) = W := ⟨_, rfl⟩
      have hb3 : Below wr.heap.size wr W3 := by rw [← hW3]; exact (Below.refl _ _).alloc (Nat.le_refl _) _
      have hI3 : Blk W3 (g + 2) 81 #[.pointer (some ⟨tb, 0, none⟩)] := by rw [← hW3, ← h4]; exact Blk.new _ _ _
      have hs3 : W3.heap.size = g + 3 := by rw [← hW3]; simp [h4]
      have hR3 : RowF W3 g (fun _ => -1) := (h1.congr (fun j hj => by rw [if_pos hj])).keep (hb3.block _ h1.lt)
      have hS3 := h2.keep (hb3.block _ h2.lt)
      have hT3 := hTr.keep (hb3.block _ hTr.lt)
      have hw3 : Below w.heap.size w W3 := h3.trans (hb3.mono h3.size)
      have hI30 := hI3.cell 0
      have hR3H := Lib.hid hR3
      have hS3H := Lib.hid hS3
      have hw3H := Lib.hid hw3
      have h4H := Lib.hid h4
      clear h1 h2 h3 hBr hTr hb3 hI3 hR3 hS3 hw3 hH
      go_wp2_with (first | (go_at_call 51; refine (Pp.all_any _ _).mono ?_; rintro e w3 ⟨rfl, rfl⟩) | rw [hW3])
      try rw [hW3]
      try rw [h4H.out]
      clear hW3 h4
      refine (wpIn_wide (n := nn)).1 ?_
      apply Pp.range_law (n := nn) rfl (by omega) (gf := 95) (lb := #[.pointer (some ⟨g + 2, 0, none⟩)]) rfl trivial (enters_of Tryz.func95 (by kernel_rfl) rfl)
        (Pp.all_x (nn - 1) (by omega) (g + 2) tb P.tab W3 (by omega) hI30 hT3) (Pp.keepX_b (by omega) (by omega)) (Below.refl _ _) (fun _ => rfl)
        (fun U pre X => RowF X g (fun j => if j ∈ pre.map (fun x => x.1.1) then (P.tab j).x else -1) ∧ Blk X (g + 1) 49 #[.slice (some ⟨g, 0, none⟩) 32 32] ∧ Pp.TabAt X tb P.tab ∧ Below w.heap.size w X ∧ g + 3 ≤ X.heap.size ∧ ∀ k ∈ U, g + 3 ≤ k ∧ k < X.heap.size) (fun _ _ _ _ => False)
        ?abide (fun _ _ _ _ _ _ h _ => h) ⟨hR3H.out, hS3H.out, hT3, hw3H.out, by omega, fun k hk => by cases hk⟩
        ?a1 (fun _ X => X) (fun x X => Below.refl _ X) (fun _ _ _ _ h => h) ?assign ?body ?done ?stop
      case abide =>
        rintro U U' pre A Z ⟨hr, hs, ht, hb, hz, hU⟩ he
        have hsz := he.size
        have far : ∀ k, k < g + 3 → k < A.heap.size → Z.heap[k]? = A.heap[k]? := fun k h1 h2 => he.block k h2 (fun e => by have := (hU k e).1; omega)
        refine ⟨hr.keep (far g (by omega) hr.lt), hs.keep (far _ (by omega) hs.lt), ht.keep (far tb (by omega) ht.lt), ⟨he.os.trans hb.os, he.tape.trans hb.tape, he.output.trans hb.output, by have := hb.size; omega, fun k hk => (far k (by omega) (by have := hb.size; omega)).trans (hb.block k hk)⟩, by omega, fun k hk => ?_⟩
        rcases he.new k hk with e | e
        · have := hU k e; omega
        · omega
      case assign =>
        intro l' x X K hK
        gi_wp2
        exact hK
      case body =>
        rintro l' U pre y X X' o hsp - hl' hX' ⟨hr, hs, ht, hb, hz, hU⟩
        have hmem := (Pp.mem_upto (Nat.le_refl 32)).1 (hsp.subset (List.mem_append_right _ (List.mem_singleton.2 rfl)))
        obtain ⟨⟨k0, hk0⟩, xv⟩ := y
        dsimp only at hmem
        have hk0' : (k0 : Int) < 32 := by omega
        have s1 : X'.cell? ⟨g + 1, 0, none⟩ = some (.slice (some ⟨g, 0, none⟩) 32 32) := hs.cell 0
        have r1 := hr.c k0 hk0
        have r2 := hr.fz k0
        obtain ⟨v0, hv0⟩ : ∃ v0, (if k0 ∈ pre.map (fun x => x.1.1) then (P.tab k0).x else -1 : Int) = v0 := ⟨_, rfl⟩
        rw [hv0] at r1
        have hrH := Lib.hid hr
        have hsH := Lib.hid hs
        have htH := Lib.hid ht
        have hbH := Lib.hid hb
        have hUH := Lib.hid hU
        have hmH := Lib.hid hmem
        clear hsp hX' hmem hr hs ht hb hU hv0
        dsimp only [Pp.encT]
        gi_wp2
        have far : ∀ k, k ≠ g → (X'.setCell ⟨g, k0, none⟩ (.int .i64 xv)).heap[k]? = X'.heap[k]? := fun k hk => Below.heap_setCell _ _ _ k hk
        have hht := htH.out.lt
        refine ⟨⟨(hrH.out.put k0 hk0 xv).congr (fun j hj => ?_), hsH.out.keep (far _ (by omega)), htH.out.keep (far _ (by omega)), hbH.out.setCell (p := ⟨g, k0, none⟩) hwg _, by simpa using hz, fun k hk => by have := hUH.out k hk; simpa using this⟩, ⟨by simp, fun k hk hlt => far k (by have := hUH.out k hk; omega)⟩, far _ (by omega), fun f hf => ⟨f, hf.keep (far _ (by omega)), fun _ _ => rfl⟩⟩
        rw [List.map_append, List.map_cons, List.map_nil]
        by_cases e : j = k0
        · rw [if_pos e, if_pos (by simp [e]), e]
          exact hmH.out.2.2
        · rw [if_neg e]
          by_cases e2 : j ∈ pre.map (fun x => x.1.1)
          · rw [if_pos e2, if_pos (List.mem_append_left _ e2)]
          · rw [if_neg e2, if_neg (by simp only [List.mem_append, List.mem_singleton]; rintro (h | h); exact e2 h; exact e h)]
      case done =>
        rintro D U ys X hD hDU rfl ⟨hr, hs, ht, hb, hz, hU⟩ hKd
        have s1 : X.cell? ⟨g + 1, 0, none⟩ = some (.slice (some ⟨g, 0, none⟩) 32 32) := hs.cell 0
        have hrH := Lib.hid hr
        have hbH := Lib.hid hb
        have hD3 := (hU D hDU).1
        clear hr hs ht hb hU
        go_wp2
        refine ⟨by simp, .inl ⟨_, _, rfl, run_takeDeferred hKd, ?_⟩⟩
        refine ⟨_, results_tmp rfl _ _ _, g, rfl, hwg, (hrH.out.keep (World.putObj_heap_other (by omega))).congr (fun j hj => ?_), ⟨hbH.out.os, hbH.out.tape, hbH.out.output, by have := hbH.out.size; simpa [World.putObj] using this, fun k hk => (World.putObj_heap_other (by omega)).trans (hbH.out.block k hk)⟩⟩
        unfold tabF
        by_cases e : (P.tab j).tk = true
        · rw [if_pos e, if_pos (List.mem_map.2 ⟨(⟨j, hj⟩, (P.tab j).x), (Pp.mem_upto (Nat.le_refl 32)).2 ⟨hj, e, rfl⟩, rfl⟩)]
        · rw [if_neg e, if_neg (fun h => by
            obtain ⟨x, hx, he⟩ := List.mem_map.1 h
            have := ((Pp.mem_upto (Nat.le_refl 32)).1 hx).2.1
            try dsimp only at he
            rw [he] at this
            exact e this)]
      case stop =>
        rintro D c U pre X hD hDU hpre h hK
        exact h.elim
theorem table_any (h : KerIs w B q K M) {pid : Int} {n : Nat} (hl : liveM K pid = some n) {P : Prc} (hP : ask K.procs n = some P) :
    Calls Tryz.prog 18 #[.pointer (some ⟨q, 0, none⟩), .int .i64 pid] w fun e w' => ∃ g, e = .returned (.slice (some ⟨g, 0, none⟩) 32 32) ∧ w.heap.size ≤ g ∧ RowF w' g (tabF P.tab) ∧ Below w.heap.size w w' :=
  callsIn_wide.1 (table_in 5 (Nat.le_refl _) h hl hP)
end
end Go.Proofs.YtmilagppbepnbaaGreat.Kn
