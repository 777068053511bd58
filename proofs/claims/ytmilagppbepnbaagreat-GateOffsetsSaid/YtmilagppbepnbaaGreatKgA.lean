/- The kernel: what reads it: process, named, mayRead, mayWrite, readable, writable. Condition: it lies as stated. -/
import Derived.Test.YtmilagppbepnbaaGreatKgP
import Derived.Test.YtmilagppbepnbaaGreatKsR
import Derived.Test.YtmilagppbepnbaaGreatKsD
import Derived.Test.YtmilagppbepnbaaGreatKsX
namespace Go.Proofs.YtmilagppbepnbaaGreat.Kn
open Go.RowKit Go.PlainAid
set_option linter.unusedVariables false
set_option linter.unusedSimpArgs false
attribute [local go_sem] Oper.semAt_some
def liveM (K : Ker) (pid : Int) : Option Nat := if 0 ≤ pid then (match ask K.procs pid.toNat with | some P => if P.ended then none else some pid.toNat | none => none) else none
def tabM (f : Nat → Pp.Sl) (fd : Int) : Int × Int := if 0 ≤ fd ∧ fd < 32 then ((f fd.toNat).val, (f fd.toNat).err) else (0, 9)
def askI {X : Type} (l : List (Nat × X)) (x : Int) : Option Nat := if 0 ≤ x then (ask l x.toNat).map (fun _ => x.toNat) else none
def namedN (K : Ker) (P : Prc) (fd : Int) : Option Nat := if (tabM P.tab fd).2 ≠ 0 then none else askI K.descs (tabM P.tab fd).1
def mayRd (D : Dsc) : Bool := if D.kind = 1 then D.n == 0 else if D.kind = 2 then bits .and .i64 D.flags 1 != 0 else D.kind == 3 || D.kind == 5
def mayWr (D : Dsc) : Bool := if D.kind = 1 then D.n != 0 else if D.kind = 2 then bits .and .i64 D.flags 2 != 0 else D.kind == 4
theorem rows_askI {X : Type} {l : List (Nat × X)} (h : OrdK l) (b : Nat → Nat) (x : Int) : getN (rowsOf l b) x = (askI l x).map b := by
  unfold askI
  by_cases hx : 0 ≤ x
  · obtain ⟨n, rfl⟩ : ∃ n : Nat, x = n := ⟨x.toNat, by omega⟩
    rw [if_pos hx, rows_get h, Int.toNat_natCast]
    cases ask l n <;> rfl
  · rw [if_neg hx, rows_get_neg h b (by omega)]
    rfl
section
variable {w : World} {B : Ix → Nat → Prop} {q : Nat} {K : Ker} {M : Mp}
theorem _root_.Go.Proofs.YtmilagppbepnbaaGreat.KerIs.own (h : KerIs w B q K M) : ∃ xv dv rv o1 o2, OwnAt w (B .own) q K M xv dv rv o1 o2 := h.part .own
theorem _root_.Go.Proofs.YtmilagppbepnbaaGreat.KerIs.blkK (h : KerIs w B q K M) : ∃ xv dv rv o1 o2, Blk w q 79 (kcells K M.fp xv dv rv o1 o2) := by
  obtain ⟨xv, dv, rv, o1, o2, h⟩ := h.own
  exact ⟨xv, dv, rv, o1, o2, h.blk⟩
theorem regR {S : Nat → Prop} {xv dv rv o1 o2 : Value} (h : OwnAt w S q K M xv dv rv o1 o2) (hn : Nmb K) : RegAt 166 w q 5 79 (kcells K M.fp xv dv rv o1 o2) rv K.lastR (rowsOf K.procs M.br) :=
  ⟨h.blk, rfl, rfl, by rw [rows_len]; exact h.rr, rows_ord hn.or_ _, fun r hr => by
    obtain ⟨p, hp, rfl⟩ := List.mem_map.1 hr
    exact (hn.lr p hp).2, by have := hn.br; omega⟩
theorem regD {S : Nat → Prop} {xv dv rv o1 o2 : Value} (h : OwnAt w S q K M xv dv rv o1 o2) (hn : Nmb K) : RegAt 218 w q 3 79 (kcells K M.fp xv dv rv o1 o2) dv K.lastD (rowsOf K.descs M.bd) :=
  ⟨h.blk, rfl, rfl, by rw [rows_len]; exact h.rd, rows_ord hn.od _, fun r hr => by
    obtain ⟨p, hp, rfl⟩ := List.mem_map.1 hr
    exact (hn.ld p hp).2, by have := hn.bd; omega⟩
theorem regX {S : Nat → Prop} {xv dv rv o1 o2 : Value} (h : OwnAt w S q K M xv dv rv o1 o2) (hn : Nmb K) : RegAt 270 w q 1 79 (kcells K M.fp xv dv rv o1 o2) xv K.lastX (rowsOf K.pipes M.bx) :=
  ⟨h.blk, rfl, rfl, by rw [rows_len]; exact h.rx, rows_ord hn.ox _, fun r hr => by
    obtain ⟨p, hp, rfl⟩ := List.mem_map.1 hr
    exact (hn.lx p hp).2, by have := hn.bx; omega⟩
theorem len_num {X : Type} {l : List (Nat × X)} {last : Nat} (b : Nat → Nat) (ho : OrdK l) (h : ∀ p ∈ l, 1 ≤ p.1 ∧ p.1 ≤ last) : (rowsOf l b).length ≤ last :=
  ord_len (rows_ord ho b) (fun r hr => by obtain ⟨p, hp, rfl⟩ := List.mem_map.1 hr; exact (h p hp).2) (fun r hr => by obtain ⟨p, hp, rfl⟩ := List.mem_map.1 hr; exact (h p hp).1)
theorem lenR (hn : Nmb K) (b : Nat → Nat) : (rowsOf K.procs b).length ≤ 90000 := Nat.le_trans (len_num b hn.or_ hn.lr) hn.br
theorem lenD (hn : Nmb K) (b : Nat → Nat) : (rowsOf K.descs b).length ≤ 90000 := Nat.le_trans (len_num b hn.od hn.ld) hn.bd
theorem lenX (hn : Nmb K) (b : Nat → Nat) : (rowsOf K.pipes b).length ≤ 90000 := Nat.le_trans (len_num b hn.ox hn.lx) hn.bx
theorem getR_any (h : KerIs w B q K M) (x : Int) : Calls Tryz.prog 84 #[.pointer (some ⟨q, 5, none⟩), .int .i64 x] w fun e w' => e = .returned (ptrV ((askI K.procs x).map M.br)) ∧ Below w.heap.size w w' := by
  obtain ⟨xv, dv, rv, o1, o2, ho⟩ := h.own
  rw [← rows_askI h.num.or_]
  exact RR.get_any (regR ho h.num) (by have := lenR h.num M.br; omega) x
theorem getD_any (h : KerIs w B q K M) (x : Int) : Calls Tryz.prog 189 #[.pointer (some ⟨q, 3, none⟩), .int .i64 x] w fun e w' => e = .returned (ptrV ((askI K.descs x).map M.bd)) ∧ Below w.heap.size w w' := by
  obtain ⟨xv, dv, rv, o1, o2, ho⟩ := h.own
  rw [← rows_askI h.num.od]
  exact RD.get_any (regD ho h.num) (by have := lenD h.num M.bd; omega) x
theorem getX_any (h : KerIs w B q K M) (x : Int) : Calls Tryz.prog 92 #[.pointer (some ⟨q, 1, none⟩), .int .i64 x] w fun e w' => e = .returned (ptrV ((askI K.pipes x).map M.bx)) ∧ Below w.heap.size w w' := by
  obtain ⟨xv, dv, rv, o1, o2, ho⟩ := h.own
  rw [← rows_askI h.num.ox]
  exact RX.get_any (regX ho h.num) (by have := lenX h.num M.bx; omega) x
theorem countR_any (h : KerIs w B q K M) : Calls Tryz.prog 224 #[.pointer (some ⟨q, 5, none⟩)] w fun e w' => e = .returned (.int .i64 (K.procs.length : Nat)) ∧ w' = w := by
  obtain ⟨xv, dv, rv, o1, o2, ho⟩ := h.own
  rw [← rows_len K.procs M.br]
  exact RR.count_any (regR ho h.num)
theorem process_nil (pid : Int) (w : World) : Calls Tryz.prog 46 #[.pointer none, .int .i64 pid] w fun e w' => e = .returned (.pointer none) ∧ w' = w := by
  go_enter Tryz.func46, Tryz.ntmps46
  go_wp2
  go_ret
  exact ⟨rfl, rfl⟩
theorem process_any (h : KerIs w B q K M) (pid : Int) : Calls Tryz.prog 46 #[.pointer (some ⟨q, 0, none⟩), .int .i64 pid] w fun e w' => e = .returned (ptrV ((liveM K pid).map M.br)) ∧ Below w.heap.size w w' := by
  have hg := Lib.hid (getR_any h pid)
  cases ha : askI K.procs pid with
  | none =>
    have hl : liveM K pid = none := by
      unfold liveM
      unfold askI at ha
      split
      · rename_i h0
        rw [if_pos h0] at ha
        cases hk : ask K.procs pid.toNat with
        | none => rfl
        | some P => rw [hk] at ha; cases ha
      · rfl
    rw [hl]
    rw [ha] at hg
    clear h ha hl
    go_enter Tryz.func46, Tryz.ntmps46
    go_wp2_with (go_at_call 84; refine hg.out.mono ?_; rintro e w' ⟨rfl, hb⟩; unfold ptrV)
    go_ret
    exact ⟨rfl, hb⟩
  | some n =>
    obtain ⟨h0, P, hP, hn⟩ : 0 ≤ pid ∧ ∃ P, ask K.procs pid.toNat = some P ∧ pid.toNat = n := by
      unfold askI at ha
      split at ha
      · rename_i h0
        cases hk : ask K.procs pid.toNat with
        | none => rw [hk] at ha; cases ha
        | some P => rw [hk] at ha; exact ⟨h0, P, rfl, Option.some.inj ha⟩
      · cases ha
    have hl : liveM K pid = if P.ended then none else some n := by unfold liveM; rw [if_pos h0, hP, ← hn]
    rw [hn] at hP
    obtain ⟨hB, _, hS, _, _⟩ : PrcAt w (B (.proc n)) (M.br n) (M.bt n) P := h.part (.proc n) P hP
    have c5 : w.cell? ⟨M.br n, 5, none⟩ = some (.bool P.ended) := hB.cell 5
    have hlt := h.lt _ _ hS
    obtain ⟨b, hb⟩ : ∃ b, M.br n = b := ⟨_, rfl⟩
    rw [hl]
    rw [ha] at hg
    have hg' : Hid (Calls Tryz.prog 84 #[.pointer (some ⟨q, 5, none⟩), .int .i64 pid] w fun e w' => e = .returned (.pointer (some ⟨b, 0, none⟩)) ∧ Below w.heap.size w w') := Lib.hid (by rw [← hb]; exact hg.out)
    rw [hb] at c5 hlt
    have hbH := Lib.hid hb
    have k5 := Lib.hid c5
    clear h ha hl hP hB hS hn h0 hg hb c5
    cases he : P.ended with
    | true =>
      rw [he] at k5
      clear he
      go_enter Tryz.func46, Tryz.ntmps46
      go_wp2_with (go_at_call 84; refine hg'.out.mono ?_; rintro e w' ⟨rfl, hbw⟩; have d5 : w'.cell? ⟨b, 5, none⟩ = some (.bool true) := (hbw.cell hlt).trans k5.out)
      go_ret
      exact ⟨rfl, hbw⟩
    | false =>
      rw [he] at k5
      clear he
      go_enter Tryz.func46, Tryz.ntmps46
      go_wp2_with (go_at_call 84; refine hg'.out.mono ?_; rintro e w' ⟨rfl, hbw⟩; have d5 : w'.cell? ⟨b, 5, none⟩ = some (.bool false) := (hbw.cell hlt).trans k5.out)
      go_ret
      refine ⟨?_, hbw⟩
      show _ = Ending.returned (.pointer (some ⟨M.br n, 0, none⟩))
      rw [hbH.out]
      rfl
theorem mayRead_any {bx : Nat → Nat} {S : Nat → Prop} {b : Nat} {D : Dsc} (h : DscAt bx w S b D) : Calls Tryz.prog 134 #[.pointer (some ⟨b, 0, none⟩)] w fun e w' => e = .returned (.bool (mayRd D)) ∧ w' = w := by
  have c0 : w.cell? ⟨b, 0, none⟩ = some (.int .i64 D.kind) := h.1.cell 0
  have c1 : w.cell? ⟨b, 1, none⟩ = some (.int .i64 D.n) := h.1.cell 1
  have c4 : w.cell? ⟨b, 4, none⟩ = some (.int .i64 D.flags) := h.1.cell 4
  clear h
  unfold mayRd
  obtain ⟨kind, n, at_, refs, flags, pipe, text⟩ := D
  dsimp only at c0 c1 c4 ⊢
  by_cases h1 : kind = 1
  · subst h1
    rw [if_pos rfl]
    by_cases hn : n = 0
    · subst hn
      go_enter Tryz.func134, Tryz.ntmps134
      go_wp2
      go_ret
      exact ⟨rfl, rfl⟩
    · have d1 : ((n : Int) == 0) = false := by rw [beq_eq_false_iff_ne]; omega
      have d2 : (n == 0) = false := by simp [hn]
      rw [d2]
      clear d2
      go_enter Tryz.func134, Tryz.ntmps134
      go_wp2
      go_ret
      exact ⟨by first | rfl | (simp; done) | (simp [hn]; done), rfl⟩
  · rw [if_neg h1]
    have d0 : ((kind : Int) == 1) = false := by rw [beq_eq_false_iff_ne]; omega
    by_cases h2 : kind = 2
    · subst h2
      rw [if_pos rfl]
      go_enter Tryz.func134, Tryz.ntmps134
      go_wp2
      go_ret
      exact ⟨by first | rfl | simp, rfl⟩
    · rw [if_neg h2]
      have d2 : ((kind : Int) == 2) = false := by rw [beq_eq_false_iff_ne]; omega
      by_cases h3 : kind = 3
      · subst h3
        go_enter Tryz.func134, Tryz.ntmps134
        go_wp2
        go_ret
        exact ⟨by first | rfl | simp, rfl⟩
      · have d3 : ((kind : Int) == 3) = false := by rw [beq_eq_false_iff_ne]; omega
        have d4 : (kind == 3) = false := by rw [beq_eq_false_iff_ne]; exact h3
        rw [d4]
        by_cases h5 : kind = 5
        · subst h5
          go_enter Tryz.func134, Tryz.ntmps134
          go_wp2
          go_ret
          exact ⟨by first | rfl | simp, rfl⟩
        · have d5 : ((kind : Int) == 5) = false := by rw [beq_eq_false_iff_ne]; omega
          have d6 : (kind == 5) = false := by rw [beq_eq_false_iff_ne]; exact h5
          rw [d6]
          go_enter Tryz.func134, Tryz.ntmps134
          go_wp2
          go_ret
          exact ⟨by first | rfl | simp, rfl⟩
theorem mayWrite_any {bx : Nat → Nat} {S : Nat → Prop} {b : Nat} {D : Dsc} (h : DscAt bx w S b D) : Calls Tryz.prog 136 #[.pointer (some ⟨b, 0, none⟩)] w fun e w' => e = .returned (.bool (mayWr D)) ∧ w' = w := by
  have c0 : w.cell? ⟨b, 0, none⟩ = some (.int .i64 D.kind) := h.1.cell 0
  have c1 : w.cell? ⟨b, 1, none⟩ = some (.int .i64 D.n) := h.1.cell 1
  have c4 : w.cell? ⟨b, 4, none⟩ = some (.int .i64 D.flags) := h.1.cell 4
  clear h
  unfold mayWr
  obtain ⟨kind, n, at_, refs, flags, pipe, text⟩ := D
  dsimp only at c0 c1 c4 ⊢
  by_cases h1 : kind = 1
  · subst h1
    rw [if_pos rfl]
    by_cases hn : n = 0
    · subst hn
      go_enter Tryz.func136, Tryz.ntmps136
      go_wp2
      go_ret
      exact ⟨rfl, rfl⟩
    · have d1 : ((n : Int) == 0) = false := by rw [beq_eq_false_iff_ne]; omega
      have d2 : (n != 0) = true := by simp [hn]
      rw [d2]
      clear d2
      go_enter Tryz.func136, Tryz.ntmps136
      go_wp2
      go_ret
      exact ⟨by first | rfl | (simp; done) | (simp [hn]; done), rfl⟩
  · rw [if_neg h1]
    have d0 : ((kind : Int) == 1) = false := by rw [beq_eq_false_iff_ne]; omega
    by_cases h2 : kind = 2
    · subst h2
      rw [if_pos rfl]
      go_enter Tryz.func136, Tryz.ntmps136
      go_wp2
      go_ret
      exact ⟨by first | rfl | simp, rfl⟩
    · rw [if_neg h2]
      have d2 : ((kind : Int) == 2) = false := by rw [beq_eq_false_iff_ne]; omega
      by_cases h4 : kind = 4
      · subst h4
        go_enter Tryz.func136, Tryz.ntmps136
        go_wp2
        go_ret
        exact ⟨by first | rfl | simp, rfl⟩
      · have d3 : ((kind : Int) == 4) = false := by rw [beq_eq_false_iff_ne]; omega
        have d4 : (kind == 4) = false := by rw [beq_eq_false_iff_ne]; exact h4
        rw [d4]
        go_enter Tryz.func136, Tryz.ntmps136
        go_wp2
        go_ret
        exact ⟨by first | rfl | simp, rfl⟩
theorem tabGet_any {T : Nat} {f : Nat → Pp.Sl} (h : Pp.TabAt w T f) (fd : Int) : Calls Tryz.prog 188 #[.pointer (some ⟨T, 0, none⟩), .int .i64 fd] w fun e w' => e = .returned (.tuple #[.int .i64 (tabM f fd).1, .int .i64 (tabM f fd).2]) ∧ w' = w := by
  unfold tabM
  by_cases hf : 0 ≤ fd ∧ fd < 32
  · obtain ⟨i, rfl⟩ : ∃ i : Nat, fd = i := ⟨fd.toNat, by omega⟩
    rw [if_pos hf]
    exact Pp.get_in i (by omega) w h
  · rw [if_neg hf]
    exact Pp.get_out fd hf w
theorem named_any (h : KerIs w B q K M) {n : Nat} {P : Prc} (hP : ask K.procs n = some P) (fd : Int) : Calls Tryz.prog 133 #[.pointer (some ⟨q, 0, none⟩), .pointer (some ⟨M.br n, 0, none⟩), .int .i64 fd] w fun e w' => e = .returned (ptrV ((namedN K P fd).map M.bd)) ∧ Below w.heap.size w w' := by
  obtain ⟨hB, hT, _, _, _⟩ : PrcAt w (B (.proc n)) (M.br n) (M.bt n) P := h.part (.proc n) P hP
  obtain ⟨tb, htb⟩ : ∃ tb, M.bt n = tb := ⟨_, rfl⟩
  rw [htb] at hB hT
  obtain ⟨b, hb⟩ : ∃ b, M.br n = b := ⟨_, rfl⟩
  rw [hb] at hB ⊢
  have c2 : w.cell? ⟨b, 2, none⟩ = some (.pointer (some ⟨tb, 0, none⟩)) := hB.cell 2
  have ht := Lib.hid (tabGet_any hT fd)
  unfold namedN
  obtain ⟨x, hx⟩ : ∃ x, tabM P.tab fd = x := ⟨_, rfl⟩
  rw [hx] at ht ⊢
  obtain ⟨x1, x2⟩ := x
  have hg := Lib.hid (getD_any h x1)
  dsimp only at ht ⊢
  clear h hP hB hT hx hb
  by_cases h0 : x2 = 0
  · subst h0
    rw [if_neg (by simp)]
    obtain ⟨r, hr⟩ : ∃ r, ptrV ((askI K.descs x1).map M.bd) = r := ⟨_, rfl⟩
    rw [hr] at hg ⊢
    clear hr
    go_enter Tryz.func133, Tryz.ntmps133
    go_wp2_with (first
      | (go_at_call 188; refine ht.out.mono ?_; rintro e w' ⟨rfl, rfl⟩)
      | (go_at_call 189; refine hg.out.mono ?_; rintro e w' ⟨rfl, hb⟩))
    go_ret
    exact ⟨rfl, hb⟩
  · rw [if_pos h0]
    have d0 : (x2 == 0) = false := beq_eq_false_iff_ne.2 h0
    go_enter Tryz.func133, Tryz.ntmps133
    go_wp2_with (go_at_call 188; refine ht.out.mono ?_; rintro e w' ⟨rfl, rfl⟩)
    go_ret
    exact ⟨rfl, Below.refl _ _⟩
def readN (K : Ker) (P : Prc) (fd : Int) : Option Nat := match namedN K P fd with
  | some m => (match ask K.descs m with | some D => if mayRd D then some m else none | none => none)
  | none => none
theorem readable_any (h : KerIs w B q K M) {n : Nat} {P : Prc} (hP : ask K.procs n = some P) (fd : Int) : Calls Tryz.prog 85 #[.pointer (some ⟨q, 0, none⟩), .pointer (some ⟨M.br n, 0, none⟩), .int .i64 fd] w fun e w' => e = .returned (ptrV ((readN K P fd).map M.bd)) ∧ Below w.heap.size w w' := by
  have hnm := named_any h hP fd
  obtain ⟨b, hb⟩ : ∃ b, M.br n = b := ⟨_, rfl⟩
  rw [hb] at hnm ⊢
  cases hm : namedN K P fd with
  | none =>
    have hr : readN K P fd = none := by unfold readN; rw [hm]
    rw [hr]
    rw [hm] at hnm
    have hnH := Lib.hid hnm
    clear h hP hm hr hnm hb
    go_enter Tryz.func85, Tryz.ntmps85
    go_wp2_with (go_at_call 133; refine hnH.out.mono ?_; rintro e w' ⟨rfl, hb⟩; unfold ptrV)
    go_ret
    exact ⟨rfl, hb⟩
  | some m =>
    obtain ⟨D, hD⟩ : ∃ D, ask K.descs m = some D := by
      unfold namedN askI at hm
      split at hm
      · cases hm
      · split at hm
        · cases hk : ask K.descs (tabM P.tab fd).1.toNat with
          | none => rw [hk] at hm; cases hm
          | some D => rw [hk] at hm; have e := Option.some.inj hm; rw [← e]; exact ⟨D, hk⟩
        · cases hm
    have hr : readN K P fd = if mayRd D then some m else none := by unfold readN; rw [hm]; dsimp only; rw [hD]
    have hd := Lib.hid (fun (W : World) (hW : Below w.heap.size w W) => mayRead_any (((h.below hW).part (.desc m)) D hD))
    rw [hr]
    rw [hm] at hnm
    obtain ⟨d, hde⟩ : ∃ d, M.bd m = d := ⟨_, rfl⟩
    have hnH : Hid (Calls Tryz.prog 133 #[.pointer (some ⟨q, 0, none⟩), .pointer (some ⟨b, 0, none⟩), .int .i64 fd] w fun e w' => e = .returned (.pointer (some ⟨d, 0, none⟩)) ∧ Below w.heap.size w w') := Lib.hid (by rw [← hde]; exact hnm)
    rw [hde] at hd
    have hdeH := Lib.hid hde
    cases hmay : mayRd D with
    | true =>
      rw [hmay] at hd
      clear h hP hm hr hnm hb hD hmay hde
      go_enter Tryz.func85, Tryz.ntmps85
      go_wp2_with (first
        | (go_at_call 133; refine hnH.out.mono ?_; rintro e w1 ⟨rfl, hb⟩)
        | (go_at_call 134; refine (hd.out _ hb).mono ?_; rintro e w2 ⟨rfl, rfl⟩))
      go_ret
      refine ⟨?_, hb⟩
      show _ = Ending.returned (.pointer (some ⟨M.bd m, 0, none⟩))
      rw [hdeH.out]
      rfl
    | false =>
      rw [hmay] at hd
      clear h hP hm hr hnm hb hD hmay hde
      go_enter Tryz.func85, Tryz.ntmps85
      go_wp2_with (first
        | (go_at_call 133; refine hnH.out.mono ?_; rintro e w1 ⟨rfl, hb⟩)
        | (go_at_call 134; refine (hd.out _ hb).mono ?_; rintro e w2 ⟨rfl, rfl⟩))
      go_ret
      exact ⟨rfl, hb⟩
def writN (K : Ker) (P : Prc) (fd : Int) : Option Nat := match namedN K P fd with
  | some m => (match ask K.descs m with | some D => if mayWr D then some m else none | none => none)
  | none => none
theorem writable_any (h : KerIs w B q K M) {n : Nat} {P : Prc} (hP : ask K.procs n = some P) (fd : Int) : Calls Tryz.prog 87 #[.pointer (some ⟨q, 0, none⟩), .pointer (some ⟨M.br n, 0, none⟩), .int .i64 fd] w fun e w' => e = .returned (ptrV ((writN K P fd).map M.bd)) ∧ Below w.heap.size w w' := by
  have hnm := named_any h hP fd
  obtain ⟨b, hb⟩ : ∃ b, M.br n = b := ⟨_, rfl⟩
  rw [hb] at hnm ⊢
  cases hm : namedN K P fd with
  | none =>
    have hr : writN K P fd = none := by unfold writN; rw [hm]
    rw [hr]
    rw [hm] at hnm
    have hnH := Lib.hid hnm
    clear h hP hm hr hnm hb
    go_enter Tryz.func87, Tryz.ntmps87
    go_wp2_with (go_at_call 133; refine hnH.out.mono ?_; rintro e w' ⟨rfl, hb⟩; unfold ptrV)
    go_ret
    exact ⟨rfl, hb⟩
  | some m =>
    obtain ⟨D, hD⟩ : ∃ D, ask K.descs m = some D := by
      unfold namedN askI at hm
      split at hm
      · cases hm
      · split at hm
        · cases hk : ask K.descs (tabM P.tab fd).1.toNat with
          | none => rw [hk] at hm; cases hm
          | some D => rw [hk] at hm; have e := Option.some.inj hm; rw [← e]; exact ⟨D, hk⟩
        · cases hm
    have hr : writN K P fd = if mayWr D then some m else none := by unfold writN; rw [hm]; dsimp only; rw [hD]
    have hd := Lib.hid (fun (W : World) (hW : Below w.heap.size w W) => mayWrite_any (((h.below hW).part (.desc m)) D hD))
    rw [hr]
    rw [hm] at hnm
    obtain ⟨d, hde⟩ : ∃ d, M.bd m = d := ⟨_, rfl⟩
    have hnH : Hid (Calls Tryz.prog 133 #[.pointer (some ⟨q, 0, none⟩), .pointer (some ⟨b, 0, none⟩), .int .i64 fd] w fun e w' => e = .returned (.pointer (some ⟨d, 0, none⟩)) ∧ Below w.heap.size w w') := Lib.hid (by rw [← hde]; exact hnm)
    rw [hde] at hd
    have hdeH := Lib.hid hde
    cases hmay : mayWr D with
    | true =>
      rw [hmay] at hd
      clear h hP hm hr hnm hb hD hmay hde
      go_enter Tryz.func87, Tryz.ntmps87
      go_wp2_with (first
        | (go_at_call 133; refine hnH.out.mono ?_; rintro e w1 ⟨rfl, hb⟩)
        | (go_at_call 136; refine (hd.out _ hb).mono ?_; rintro e w2 ⟨rfl, rfl⟩))
      go_ret
      refine ⟨?_, hb⟩
      show _ = Ending.returned (.pointer (some ⟨M.bd m, 0, none⟩))
      rw [hdeH.out]
      rfl
    | false =>
      rw [hmay] at hd
      clear h hP hm hr hnm hb hD hmay hde
      go_enter Tryz.func87, Tryz.ntmps87
      go_wp2_with (first
        | (go_at_call 133; refine hnH.out.mono ?_; rintro e w1 ⟨rfl, hb⟩)
        | (go_at_call 136; refine (hd.out _ hb).mono ?_; rintro e w2 ⟨rfl, rfl⟩))
      go_ret
      exact ⟨rfl, hb⟩
end
end Go.Proofs.YtmilagppbepnbaaGreat.Kn
