/- The kernel: read and write at a pipe's end. Condition: the kernel lies as stated; the pipe is there; who writes finds a reader. -/
import Derived.Test.YtmilagppbepnbaaGreatKgK
import Derived.Test.YtmilagppbepnbaaGreatKgV
namespace Go.Proofs.YtmilagppbepnbaaGreat.Kn
open Go.RowKit Go.PlainAid
set_option linter.unusedVariables false
set_option linter.unusedSimpArgs false
attribute [local go_sem] Oper.semAt_some
section
variable {w w' : World} {B : Ix → Nat → Prop} {q : Nat} {K K' : Ker} {M : Mp} {c : Nat}
theorem kp_from (hb : Below w.heap.size w w') {w2 : World} (hk : KP (AllX B) w' K M w2 q K') : KP (AllX B) w K M w2 q K' :=
  KP.trans (K1 := K) (fun g hg => .inl hg) (Frm.of_below hb) (MExt.refl _ _) (Nat.le_refl _) (Nat.le_refl _) (Nat.le_refl _) hk
theorem xRead_any (h : KerIs w B q K M) {x : Nat} {s : Pp.St} (hs : ask K.pipes x = some s) (k : Int) (hk : k ≤ 9223372036854775807) :
    Calls Tryz.prog 191 #[.pointer (some ⟨M.bx x, 0, none⟩), .int .i64 k] w fun e w' => e = .returned (.tuple #[.string ⟨(if s.readErr k = 0 then s.got k else []).toArray⟩, .int .i64 (s.readErr k)]) ∧ KP (AllX B) w K M w' q (setX K x (if s.readErr k = 0 then s.read k else s)) := by
  obtain ⟨rb, h1, h2, h3⟩ : PipAt w (B (.pipe x)) (M.bx x) s := h.part (.pipe x) s hs
  refine (Pp.read_any k w h1 hk).mono fun e w' ⟨he, hp, hF⟩ => ⟨he, ?_⟩
  exact step_X h hs (S := B (.pipe x)) ⟨rb, hp, h2, h3⟩ (fun g hg => .inl hg) (fun g hg => Nat.lt_of_lt_of_le (h.lt _ _ hg) hF.size) (frm_of_pp hF h2 h3)
theorem xWrite_any (h : KerIs w B q K M) {x : Nat} {s : Pp.St} (hs : ask K.pipes x = some s) (t : ByteArray) (ht : t.size ≤ maxLen) :
    Calls Tryz.prog 193 #[.pointer (some ⟨M.bx x, 0, none⟩), .string t] w fun e w' => e = .returned (.tuple #[.int .i64 (s.wrote t.data.toList), .int .i64 (s.writeErr t.data.toList)]) ∧ KP (AllX B) w K M w' q (setX K x (s.written t.data.toList)) := by
  obtain ⟨rb, h1, h2, h3⟩ : PipAt w (B (.pipe x)) (M.bx x) s := h.part (.pipe x) s hs
  refine (Pp.write_any t w h1 ht).mono fun e w' ⟨he, hp, hF⟩ => ⟨he, ?_⟩
  exact step_X h hs (S := B (.pipe x)) ⟨rb, hp, h2, h3⟩ (fun g hg => .inl hg) (fun g hg => Nat.lt_of_lt_of_le (h.lt _ _ hg) hF.size) (frm_of_pp hF h2 h3)
theorem xWaits_any (h : KerIs w B q K M) {x : Nat} {s : Pp.St} (hs : ask K.pipes x = some s) (b : Bool) :
    Calls Tryz.prog 86 #[.pointer (some ⟨M.bx x, 0, none⟩), .bool b] w fun e w' => e = .returned (.bool (s.waits b)) ∧ Below w.heap.size w w' := by
  obtain ⟨rb, h1, h2, h3⟩ : PipAt w (B (.pipe x)) (M.bx x) s := h.part (.pipe x) s hs
  exact (Pp.waits_any b w h1).mono fun e w' ⟨he, n, hn⟩ => ⟨he, by rw [hn]; exact ⟨rfl, rfl, rfl, Nat.le_refl _, fun _ _ => rfl⟩⟩
/-- A description's cells that are read. -/
theorem dsc_see (h : KerIs w B q K M) {m : Nat} {D : Dsc} (hD : ask K.descs m = some D) : w.cell? ⟨M.bd m, 0, none⟩ = some (.int .i64 D.kind) ∧ w.cell? ⟨M.bd m, 1, none⟩ = some (.int .i64 D.n) ∧ w.cell? ⟨M.bd m, 2, none⟩ = some (.int .i64 D.at_) ∧ w.cell? ⟨M.bd m, 5, none⟩ = some (ptrV (D.pipe.map M.bx)) ∧ M.bd m < w.heap.size := by
  obtain ⟨hB, hS⟩ : DscAt M.bx w (B (.desc m)) (M.bd m) D := h.part (.desc m) D hD
  exact ⟨hB.cell 0, hB.cell 1, hB.cell 2, hB.cell 5, hB.lt⟩
set_option maxRecDepth 100000 in
set_option maxHeartbeats 4000000 in
theorem read_pipe (h : KerIs w B q K M) {n : Nat} {P : Prc} (hP : ask K.procs n = some P) (fd : Int) {m : Nat} {D : Dsc} (hm : readN K P fd = some m) (hD : ask K.descs m = some D) (hkd : D.kind = 3) (hp : D.pipe = some D.n) {s : Pp.St} (hs : ask K.pipes D.n = some s) (k : Int) (k0 : 0 ≤ k) (k9 : k ≤ 9223372036854775807) :
    Calls Tryz.prog 137 #[.pointer (some ⟨q, 0, none⟩), .pointer (some ⟨M.br n, 0, none⟩), .int .i64 fd, .int .i64 k] w fun e w' => e = .returned (.tuple #[.string ⟨(if s.readErr k = 0 then s.got k else []).toArray⟩, .int .i64 (s.readErr k)]) ∧ KP (AllX B) w K M w' q (setX K D.n (if s.readErr k = 0 then s.read k else s)) := by
  have hr := readable_any h hP fd
  rw [hm] at hr
  obtain ⟨s0, _, _, s5, hlt⟩ := dsc_see h hD
  rw [hkd] at s0
  rw [hp] at s5
  have hpr := Lib.hid (fun (W : World) (hW : Below w.heap.size w W) => xRead_any (h.below hW) hs k k9)
  obtain ⟨d, hd⟩ : ∃ d, M.bd m = d := ⟨_, rfl⟩
  obtain ⟨x, hx⟩ : ∃ x, M.bx D.n = x := ⟨_, rfl⟩
  have hr2 : Hid (Calls Tryz.prog 85 #[.pointer (some ⟨q, 0, none⟩), .pointer (some ⟨M.br n, 0, none⟩), .int .i64 fd] w fun e w' => e = .returned (.pointer (some ⟨d, 0, none⟩)) ∧ Below w.heap.size w w') := Lib.hid (by rw [← hd]; exact hr)
  have q5 : w.cell? ⟨d, 5, none⟩ = some (.pointer (some ⟨x, 0, none⟩)) := by rw [← hd, ← hx]; exact s5
  have q0 : w.cell? ⟨d, 0, none⟩ = some (.int .i64 3) := by rw [← hd]; exact s0
  rw [hx] at hpr
  rw [hd] at hlt
  obtain ⟨st, hst⟩ : ∃ st, (⟨(if s.readErr k = 0 then s.got k else []).toArray⟩ : ByteArray) = st := ⟨_, rfl⟩
  obtain ⟨s', hs'⟩ : ∃ s', (if s.readErr k = 0 then s.read k else s) = s' := ⟨_, rfl⟩
  rw [hst, hs'] at hpr ⊢
  obtain ⟨er, her⟩ : ∃ er, s.readErr k = er := ⟨_, rfl⟩
  obtain ⟨b, hb⟩ : ∃ b, M.br n = b := ⟨_, rfl⟩
  rw [her] at hpr ⊢
  rw [hb] at hr2 ⊢
  have g0 := Lib.hid q0
  have g5 := Lib.hid q5
  have hk0 : ¬ k < 0 := by omega
  clear h hP hm hD hkd hp hs hr s0 s5 hd hx her hb q0 q5 hst hs'
  go_enter Tryz.func137, Tryz.ntmps137
  go_wp2_with (first
    | (go_at_call 85; refine hr2.out.mono ?_; rintro e w1 ⟨rfl, hb1⟩; have e0 : w1.cell? ⟨d, 0, none⟩ = some (.int .i64 3) := (hb1.cell hlt).trans g0.out; have e5 : w1.cell? ⟨d, 5, none⟩ = some (.pointer (some ⟨x, 0, none⟩)) := (hb1.cell hlt).trans g5.out; have hb1H := Lib.hid hb1; clear hb1)
    | (go_at_call 191; refine (hpr.out w1 hb1H.out).mono ?_; rintro e w2 ⟨rfl, hk2⟩; have hk2H := Lib.hid hk2; clear hk2))
  go_ret2
  exact ⟨rfl, kp_from hb1H.out hk2H.out⟩
set_option maxRecDepth 100000 in
set_option maxHeartbeats 4000000 in
theorem write_pipe (h : KerIs w B q K M) {n : Nat} {P : Prc} (hP : ask K.procs n = some P) (fd : Int) {m : Nat} {D : Dsc} (hm : writN K P fd = some m) (hD : ask K.descs m = some D) (hkd : D.kind = 4) (hp : D.pipe = some D.n) {s : Pp.St} (hs : ask K.pipes D.n = some s) (t : ByteArray) (ht : t.size ≤ maxLen) (hok : s.writeErr t.data.toList ≠ 32) :
    Calls Tryz.prog 138 #[.pointer (some ⟨q, 0, none⟩), .pointer (some ⟨M.br n, 0, none⟩), .int .i64 fd, .string t] w fun e w' => e = .returned (.tuple #[.int .i64 (s.wrote t.data.toList), .int .i64 (s.writeErr t.data.toList)]) ∧ KP (AllX B) w K M w' q (setX K D.n (s.written t.data.toList)) := by
  have hr := writable_any h hP fd
  rw [hm] at hr
  obtain ⟨s0, _, _, s5, hlt⟩ := dsc_see h hD
  rw [hkd] at s0
  rw [hp] at s5
  have hpr := Lib.hid (fun (W : World) (hW : Below w.heap.size w W) => xWrite_any (h.below hW) hs t ht)
  obtain ⟨d, hd⟩ : ∃ d, M.bd m = d := ⟨_, rfl⟩
  obtain ⟨x, hx⟩ : ∃ x, M.bx D.n = x := ⟨_, rfl⟩
  have hr2 : Hid (Calls Tryz.prog 87 #[.pointer (some ⟨q, 0, none⟩), .pointer (some ⟨M.br n, 0, none⟩), .int .i64 fd] w fun e w' => e = .returned (.pointer (some ⟨d, 0, none⟩)) ∧ Below w.heap.size w w') := Lib.hid (by rw [← hd]; exact hr)
  have q5 : w.cell? ⟨d, 5, none⟩ = some (.pointer (some ⟨x, 0, none⟩)) := by rw [← hd, ← hx]; exact s5
  have q0 : w.cell? ⟨d, 0, none⟩ = some (.int .i64 4) := by rw [← hd]; exact s0
  rw [hx] at hpr
  rw [hd] at hlt
  obtain ⟨er, her⟩ : ∃ er, s.writeErr t.data.toList = er := ⟨_, rfl⟩
  obtain ⟨b, hb⟩ : ∃ b, M.br n = b := ⟨_, rfl⟩
  rw [her] at hpr hok ⊢
  rw [hb] at hr2 ⊢
  have d32 : (er == 32) = false := beq_eq_false_iff_ne.2 hok
  have g0 := Lib.hid q0
  have g5 := Lib.hid q5
  clear h hP hm hD hkd hp hs hr s0 s5 hd hx her hb q0 q5 hok
  go_enter Tryz.func138, Tryz.ntmps138
  go_wp2_with (first
    | (go_at_call 87; refine hr2.out.mono ?_; rintro e w1 ⟨rfl, hb1⟩; have e0 : w1.cell? ⟨d, 0, none⟩ = some (.int .i64 4) := (hb1.cell hlt).trans g0.out; have e5 : w1.cell? ⟨d, 5, none⟩ = some (.pointer (some ⟨x, 0, none⟩)) := (hb1.cell hlt).trans g5.out; have hb1H := Lib.hid hb1; clear hb1)
    | (go_at_call 193; refine (hpr.out w1 hb1H.out).mono ?_; rintro e w2 ⟨rfl, hk2⟩; have hk2H := Lib.hid hk2; clear hk2))
  go_ret2
  exact ⟨rfl, kp_from hb1H.out hk2H.out⟩
end
end Go.Proofs.YtmilagppbepnbaaGreat.Kn
