/- The kernel's Call, number by number: write of a file, open, dup. Condition: the kernel lies as stated; the tree holds what it holds along all calls. -/
import Derived.Test.YtmilagppbepnbaaGreatKhF
import Derived.Test.YtmilagppbepnbaaGreatKgN
namespace Go.Proofs.YtmilagppbepnbaaGreat.Kn
open Go.RowKit Go.PlainAid
set_option linter.unusedVariables false
set_option linter.unusedSimpArgs false
attribute [local go_sem] Oper.semAt_some
section
variable {w w' : World} {B : Ix → Nat → Prop} {q : Nat} {K K' : Ker} {M : Mp} {c : Nat}
set_option maxRecDepth 100000 in
set_option maxHeartbeats 4000000 in
theorem write_file (h : KerIs w B q K M) (hw : WF c K.fs) (hc : c ≤ 5000) {n : Nat} {P : Prc} (hP : ask K.procs n = some P) (fd : Int) {m : Nat} {D : Dsc} (hm : writN K P fd = some m) (hD : ask K.descs m = some D) (hkd : D.kind = 2) (s : ByteArray) (hs : s.size ≤ 1000000000000000000) (hat : D.at_ ≤ 1000000000000000000) :
    Calls Tryz.prog 138 #[.pointer (some ⟨q, 0, none⟩), .pointer (some ⟨M.br n, 0, none⟩), .int .i64 fd, .string s] w fun e w' => e = .returned (.tuple #[.int .i64 (writeFileM K m D s).1, .int .i64 (writeFileM K m D s).2.1]) ∧ KP (AllX B) w K M w' q (writeFileM K m D s).2.2 := by
  have hr := writable_any h hP fd
  rw [hm] at hr
  obtain ⟨s0, _, _, _, hlt⟩ := dsc_see h hD
  rw [hkd] at s0
  have hwf := Lib.hid (fun (W : World) (hW : Below w.heap.size w W) => writeFile_any (h.below hW) hw hc hD s hs hat)
  obtain ⟨d, hd⟩ : ∃ d, M.bd m = d := ⟨_, rfl⟩
  have hr2 : Hid (Calls Tryz.prog 87 #[.pointer (some ⟨q, 0, none⟩), .pointer (some ⟨M.br n, 0, none⟩), .int .i64 fd] w fun e w' => e = .returned (.pointer (some ⟨d, 0, none⟩)) ∧ Below w.heap.size w w') := Lib.hid (by rw [← hd]; exact hr)
  rw [hd] at hwf s0 hlt
  obtain ⟨b, hb⟩ : ∃ b, M.br n = b := ⟨_, rfl⟩
  rw [hb] at hr2 ⊢
  have g0 := Lib.hid s0
  clear h hP hm hD hkd hr s0 hd hb hw
  go_enter Tryz.func138, Tryz.ntmps138
  go_wp2_with (first
    | (go_at_call 87; refine hr2.out.mono ?_; rintro e w1 ⟨rfl, hb1⟩; have e0 : w1.cell? ⟨d, 0, none⟩ = some (.int .i64 2) := (hb1.cell hlt).trans g0.out; have hb1H := Lib.hid hb1; clear hb1)
    | (go_at_call 192; refine (hwf.out w1 hb1H.out).mono ?_; rintro e w2 ⟨rfl, hk2⟩; have hk2H := Lib.hid hk2; clear hk2))
  go_ret2
  exact ⟨rfl, kp_from hb1H.out hk2H.out⟩
theorem c_write_file (h : KerIs w B q K M) {pid : Int} {n : Nat} (hl : liveM K pid = some n) {P : Prc} (hP : ask K.procs n = some P) (hw : WF c K.fs) (hc : c ≤ 5000) (fd : Int) {m : Nat} {D : Dsc} (hm : writN K P fd = some m) (hD : ask K.descs m = some D) (hkd : D.kind = 2) (hp : D.pipe = none) (s : ByteArray) (hs : s.size ≤ 1000000000000000000) (hat : D.at_ ≤ 1000000000000000000)
    (hok : (writeFileM K m D s).2.1 = 0) (b : Int) (t : ByteArray) (pa : Option Addr) (pn pc : Nat) :
    Calls Tryz.prog 15 #[.pointer (some ⟨q, 0, none⟩), .int .i64 pid, .agg #[.int .i64 2, .int .i64 fd, .int .i64 b, .string s, .string t, .slice pa pn pc]] w fun e w' => e = .returned (.tuple #[.agg #[.int .i64 (writeFileM K m D s).1, .int .i64 0, .string ⟨#[]⟩, .slice none 0 0, .int .i64 0, .int .i64 0, .int .i64 0, .int .i64 0, .int .i64 0, .int .i64 0], .bool false]) ∧ KP (AllX B) w K M w' q (writeFileM K m D s).2.2 :=
  call_ok h hl 2 fd b s t pa pn pc _ _ _ _ _ _ _ _ _ _ _
    (fun W hW => if k1 : s.toList.isEmpty = true then waits_write_no (h.below hW) hP fd hm b s t k1 pa pn pc else waits_write (h.below hW) hP fd hm hD b s t (by simpa using k1) pa pn pc false (fun W2 hW2 => by rw [hp]; exact (waits_nil true W2).mono fun e w' ⟨he, h'⟩ => ⟨he, by rw [h']; exact Below.refl _ _⟩))
    (fun W hW => answer_2 (h.below hW) fd b s t pa pn pc _ _ _ _ _ _ _ _ _ _ _ 0 (fun W2 hW2 => on_write ((h.below hW).below hW2) fd b s t pa pn pc _ 0 (fun W3 hW3 => by
      have := write_file (((h.below hW).below hW2).below hW3) hw hc hP fd hm hD hkd s hs hat
      rw [hok] at this
      exact this)))
theorem c_open (h : KerIs w B q K M) {pid : Int} {n : Nat} (hl : liveM K pid = some n) (a b n1 : Int) (s t : ByteArray) (pa : Option Addr) (pn pc : Nat)
    (ho : ∀ W, KerIs W B q K M → Calls Tryz.prog 139 #[.pointer (some ⟨q, 0, none⟩), .pointer (some ⟨M.br n, 0, none⟩), .string s, .int .i64 a, .int .i64 b] W fun e w' => e = .returned (.tuple #[.int .i64 n1, .int .i64 0]) ∧ KP (AllX B) W K M w' q K') :
    Calls Tryz.prog 15 #[.pointer (some ⟨q, 0, none⟩), .int .i64 pid, .agg #[.int .i64 3, .int .i64 a, .int .i64 b, .string s, .string t, .slice pa pn pc]] w fun e w' => e = .returned (.tuple #[.agg #[.int .i64 n1, .int .i64 0, .string ⟨#[]⟩, .slice none 0 0, .int .i64 0, .int .i64 0, .int .i64 0, .int .i64 0, .int .i64 0, .int .i64 0], .bool false]) ∧ KP (AllX B) w K M w' q K' :=
  call_ok h hl 3 a b s t pa pn pc _ _ _ _ _ _ _ _ _ _ _ (waits_no 3 a b s t pa pn pc rfl rfl rfl)
    (fun W hW => answer_3 (h.below hW) a b s t pa pn pc _ _ _ _ _ _ _ _ _ _ _ 0 (fun W2 hW2 => on_open ((h.below hW).below hW2) a b s t pa pn pc _ 0 (fun W3 hW3 => ho W3 (((h.below hW).below hW2).below hW3))))
theorem c_dup (h : KerIs w B q K M) {pid : Int} {n : Nat} (hl : liveM K pid = some n) {P : Prc} (hP : ask K.procs n = some P) (fd least : Int) (hk : (tabM P.tab fd).2 = 0 → ∃ m : Nat, (tabM P.tab fd).1 = m ∧ ∃ D, ask K.descs m = some D ∧ (-1000000 ≤ D.refs ∧ D.refs ≤ 1000000)) (hok : (dupM K n P fd least).2.1 = 0) (s t : ByteArray) (pa : Option Addr) (pn pc : Nat) :
    Calls Tryz.prog 15 #[.pointer (some ⟨q, 0, none⟩), .int .i64 pid, .agg #[.int .i64 5, .int .i64 fd, .int .i64 least, .string s, .string t, .slice pa pn pc]] w fun e w' => e = .returned (.tuple #[.agg #[.int .i64 (dupM K n P fd least).1, .int .i64 0, .string ⟨#[]⟩, .slice none 0 0, .int .i64 0, .int .i64 0, .int .i64 0, .int .i64 0, .int .i64 0, .int .i64 0], .bool false]) ∧ KP (AllX B) w K M w' q (dupM K n P fd least).2.2 :=
  call_ok h hl 5 fd least s t pa pn pc _ _ _ _ _ _ _ _ _ _ _ (waits_no 5 fd least s t pa pn pc rfl rfl rfl)
    (fun W hW => answer_5 (h.below hW) fd least s t pa pn pc _ _ _ _ _ _ _ _ _ _ _ 0 (fun W2 hW2 => on_dup ((h.below hW).below hW2) fd least s t pa pn pc _ 0 (fun W3 hW3 => by
      have := dup_any (((h.below hW).below hW2).below hW3) hP fd least hk
      rw [hok] at this
      exact this)))
end
end Go.Proofs.YtmilagppbepnbaaGreat.Kn
