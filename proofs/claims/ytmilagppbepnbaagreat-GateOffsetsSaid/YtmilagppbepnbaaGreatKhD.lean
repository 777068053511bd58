/- The kernel's Call, number by number: pipe, fork, read and write at a pipe's end. Condition: the kernel lies as stated; what the call names is there. -/
import Derived.Test.YtmilagppbepnbaaGreatKhC
import Derived.Test.YtmilagppbepnbaaGreatKgU
import Derived.Test.YtmilagppbepnbaaGreatKgJ
namespace Go.Proofs.YtmilagppbepnbaaGreat.Kn
open Go.RowKit Go.PlainAid
set_option linter.unusedVariables false
set_option linter.unusedSimpArgs false
section
variable {w w' : World} {B : Ix → Nat → Prop} {q : Nat} {K K' : Ker} {M : Mp} {c : Nat}
theorem waits_no {pb : Nat} (no a b : Int) (s t : ByteArray) (pa : Option Addr) (pn pc : Nat) (h1 : (no == 1) = false) (h2 : (no == 2) = false) (h3 : (no == 11) = false) (W : World) (_ : Below w.heap.size w W) :
    Calls Tryz.prog 47 #[.pointer (some ⟨q, 0, none⟩), .pointer (some ⟨pb, 0, none⟩), .agg #[.int .i64 no, .int .i64 a, .int .i64 b, .string s, .string t, .slice pa pn pc]] W fun e w' => e = .returned (.bool false) ∧ Below W.heap.size W w' :=
  waits_other no a b s t pa pn pc h1 h2 h3 W
theorem c_pipe (h : KerIs w B q K M) {pid : Int} {n : Nat} (hl : liveM K pid = some n) {P : Prc} (hP : ask K.procs n = some P) (hlast : K.lastD < 80000) (hlx : K.lastX < 80000) (hpp : ∀ m y, ask K.descs m = some y → ∀ z, y.pipe = some z → z ≤ K.lastX) (hok : (npipeM K n P).2.2.1 = 0) (a b : Int) (s t : ByteArray) (pa : Option Addr) (pn pc : Nat) :
    Calls Tryz.prog 15 #[.pointer (some ⟨q, 0, none⟩), .int .i64 pid, .agg #[.int .i64 7, .int .i64 a, .int .i64 b, .string s, .string t, .slice pa pn pc]] w fun e w' => e = .returned (.tuple #[.agg #[.int .i64 (npipeM K n P).1, .int .i64 (npipeM K n P).2.1, .string ⟨#[]⟩, .slice none 0 0, .int .i64 0, .int .i64 0, .int .i64 0, .int .i64 0, .int .i64 0, .int .i64 0], .bool false]) ∧ KP (AllX B) w K M w' q (npipeM K n P).2.2.2 :=
  call_ok h hl 7 a b s t pa pn pc _ _ _ _ _ _ _ _ _ _ _ (waits_no 7 a b s t pa pn pc rfl rfl rfl)
    (fun W hW => answer_7 (h.below hW) a b s t pa pn pc _ _ _ _ _ _ _ _ _ _ _ 0 (fun W2 hW2 => on_pipe ((h.below hW).below hW2) a b s t pa pn pc _ _ 0 (fun W3 hW3 => by
      have := newPipe_any (((h.below hW).below hW2).below hW3) hP hlast hlx hpp
      rw [hok] at this
      exact this)))
theorem c_fork (h : KerIs w B q K M) {pid : Int} {n : Nat} (hl : liveM K pid = some n) {P : Prc} (hP : ask K.procs n = some P) (hw : WF c K.fs) (hc : c ≤ 5000) (hlast : K.lastR < 90000)
    (hk : ∀ i, i < 32 → (P.tab i).tk = true → ∃ m : Nat, (P.tab i).x = m ∧ ∃ D, ask K.descs m = some D ∧ -1000000 ≤ D.refs ∧ D.refs ≤ 900000) (hok : (forkM K P).2.1 = 0) (a b : Int) (s t : ByteArray) (pa : Option Addr) (pn pc : Nat) :
    Calls Tryz.prog 15 #[.pointer (some ⟨q, 0, none⟩), .int .i64 pid, .agg #[.int .i64 8, .int .i64 a, .int .i64 b, .string s, .string t, .slice pa pn pc]] w fun e w' => e = .returned (.tuple #[.agg #[.int .i64 (forkM K P).1, .int .i64 0, .string ⟨#[]⟩, .slice none 0 0, .int .i64 0, .int .i64 0, .int .i64 0, .int .i64 0, .int .i64 0, .int .i64 0], .bool false]) ∧ KP (AllX B) w K M w' q (forkM K P).2.2 :=
  call_ok h hl 8 a b s t pa pn pc _ _ _ _ _ _ _ _ _ _ _ (waits_no 8 a b s t pa pn pc rfl rfl rfl)
    (fun W hW => answer_8 (h.below hW) a b s t pa pn pc _ _ _ _ _ _ _ _ _ _ _ 0 (fun W2 hW2 => on_fork ((h.below hW).below hW2) a b s t pa pn pc _ 0 (fun W3 hW3 => by
      have := fork_any (((h.below hW).below hW2).below hW3) hw hc hP hlast hk
      rw [hok] at this
      exact this)))
theorem c_write_pipe (h : KerIs w B q K M) {pid : Int} {n : Nat} (hl : liveM K pid = some n) {P : Prc} (hP : ask K.procs n = some P) (fd : Int) {m : Nat} {D : Dsc} (hm : writN K P fd = some m) (hD : ask K.descs m = some D) (hkd : D.kind = 4) (hp : D.pipe = some D.n) {z : Pp.St} (hs : ask K.pipes D.n = some z) (s : ByteArray) (hsz : s.size ≤ maxLen) (hne : s.toList.isEmpty = false)
    (hok : z.writeErr s.data.toList = 0) (hwt : z.waits true = false) (b : Int) (t : ByteArray) (pa : Option Addr) (pn pc : Nat) :
    Calls Tryz.prog 15 #[.pointer (some ⟨q, 0, none⟩), .int .i64 pid, .agg #[.int .i64 2, .int .i64 fd, .int .i64 b, .string s, .string t, .slice pa pn pc]] w fun e w' => e = .returned (.tuple #[.agg #[.int .i64 (z.wrote s.data.toList), .int .i64 0, .string ⟨#[]⟩, .slice none 0 0, .int .i64 0, .int .i64 0, .int .i64 0, .int .i64 0, .int .i64 0, .int .i64 0], .bool false]) ∧ KP (AllX B) w K M w' q (setX K D.n (z.written s.data.toList)) :=
  call_ok h hl 2 fd b s t pa pn pc _ _ _ _ _ _ _ _ _ _ _
    (fun W hW => waits_write (h.below hW) hP fd hm hD b s t hne pa pn pc false (fun W2 hW2 => by
      have := xWaits_any ((h.below hW).below hW2) hs true
      rw [hwt] at this
      rw [hp]
      exact this))
    (fun W hW => answer_2 (h.below hW) fd b s t pa pn pc _ _ _ _ _ _ _ _ _ _ _ 0 (fun W2 hW2 => on_write ((h.below hW).below hW2) fd b s t pa pn pc _ 0 (fun W3 hW3 => by
      have := write_pipe (((h.below hW).below hW2).below hW3) hP fd hm hD hkd hp hs s hsz (by rw [hok]; decide)
      rw [hok] at this
      exact this)))
theorem c_read_pipe (h : KerIs w B q K M) {pid : Int} {n : Nat} (hl : liveM K pid = some n) {P : Prc} (hP : ask K.procs n = some P) (fd : Int) {m : Nat} {D : Dsc} (hm : readN K P fd = some m) (hD : ask K.descs m = some D) (hkd : D.kind = 3) (hp : D.pipe = some D.n) {z : Pp.St} (hs : ask K.pipes D.n = some z) (k : Int) (k0 : 0 < k) (k9 : k ≤ 9223372036854775807)
    (hok : z.readErr k = 0) (hwt : z.waits false = false) (s t : ByteArray) (pa : Option Addr) (pn pc : Nat) :
    Calls Tryz.prog 15 #[.pointer (some ⟨q, 0, none⟩), .int .i64 pid, .agg #[.int .i64 1, .int .i64 fd, .int .i64 k, .string s, .string t, .slice pa pn pc]] w fun e w' => e = .returned (.tuple #[.agg #[.int .i64 0, .int .i64 0, .string ⟨(z.got k).toArray⟩, .slice none 0 0, .int .i64 0, .int .i64 0, .int .i64 0, .int .i64 0, .int .i64 0, .int .i64 0], .bool false]) ∧ KP (AllX B) w K M w' q (setX K D.n (z.read k)) :=
  call_ok h hl 1 fd k s t pa pn pc _ _ _ _ _ _ _ _ _ _ _
    (fun W hW => waits_read (h.below hW) hP fd hm hD (by rw [hkd]; decide) k k0 s t pa pn pc false (fun W2 hW2 => by
      have := xWaits_any ((h.below hW).below hW2) hs false
      rw [hwt] at this
      rw [hp]
      exact this))
    (fun W hW => answer_1 (h.below hW) fd k s t pa pn pc _ _ _ _ _ _ _ _ _ _ _ 0 (fun W2 hW2 => on_read ((h.below hW).below hW2) fd k s t pa pn pc _ 0 (fun W3 hW3 => by
      have := read_pipe (((h.below hW).below hW2).below hW3) hP fd hm hD hkd hp hs k (Int.le_of_lt k0) k9
      rw [hok, if_pos rfl, if_pos rfl] at this
      exact this)))
theorem c_read_wait (h : KerIs w B q K M) {pid : Int} {n : Nat} (hl : liveM K pid = some n) {P : Prc} (hP : ask K.procs n = some P) (fd : Int) {m : Nat} {D : Dsc} (hm : readN K P fd = some m) (hD : ask K.descs m = some D) (hkd : D.kind = 3) (hp : D.pipe = some D.n) {z : Pp.St} (hs : ask K.pipes D.n = some z) (k : Int) (k0 : 0 < k)
    (hwt : z.waits false = true) (s t : ByteArray) (pa : Option Addr) (pn pc : Nat) :
    Calls Tryz.prog 15 #[.pointer (some ⟨q, 0, none⟩), .int .i64 pid, .agg #[.int .i64 1, .int .i64 fd, .int .i64 k, .string s, .string t, .slice pa pn pc]] w fun e w' => e = .returned (.tuple #[.agg #[.int .i64 0, .int .i64 0, .string ⟨#[]⟩, .slice none 0 0, .int .i64 0, .int .i64 0, .int .i64 0, .int .i64 0, .int .i64 0, .int .i64 0], .bool true]) ∧ Below w.heap.size w w' :=
  call_waits h hl 1 fd k s t pa pn pc
    (fun W hW => waits_read (h.below hW) hP fd hm hD (by rw [hkd]; decide) k k0 s t pa pn pc true (fun W2 hW2 => by
      have := xWaits_any ((h.below hW).below hW2) hs false
      rw [hwt] at this
      rw [hp]
      exact this))
end
end Go.Proofs.YtmilagppbepnbaaGreat.Kn
