/- parameter of a word's reader. No condition. -/
import Derived.Test.YtgpkhpheomaiaaaRdI
namespace Go.Proofs.Ytgpkhpheomaiaaa
open Go.RowKit Go.PlainAid
attribute [local go_sem] Oper.semAt_some

/-- What parts answers. -/
def PartsR (res : Except Nat (List PT)) (D : Nat) (w : World) (e : Ending) (w' : World) : Prop :=
  Below w.heap.size w w' ∧ ((∃ er, res = .error er ∧ er ≠ 0 ∧ e = .returned (.tuple #[.slice none 0 0, .int .i64 (er : Nat)])) ∨
    (∃ l a c T, res = .ok l ∧ e = .returned (.tuple #[.slice a l.length c, .int .i64 0]) ∧ WAt w' T D (.slice a l.length c) l ∧ (∀ g, T g → w.heap.size ≤ g ∧ g < w'.heap.size)))
/-- What parts answers one level further down. -/
def Nest (rec : Rec) (kk : Nat) (d : Int) : Prop := ∀ (s : ByteArray) (k : Int) (w : World), s.size ≤ 65536 → (k = 0 ∨ k = 1 ∨ k = 2) → Calls Try.prog 16 #[.string s, .int .i64 k, .int .i64 (d + 1)] w (PartsR (rec s k) kk w)
abbrev Pt.v (x : Pt) : Value := .agg #[.int .i64 x.kind, .string x.text, .string x.op, .slice x.wa x.wn x.wc, .bool x.quoted]
def ParamR (res : Except Nat PT) (D : Nat) (w : World) (e : Ending) (w' : World) : Prop :=
  Below w.heap.size w w' ∧ ((∃ er x, res = .error er ∧ er ≠ 0 ∧ e = .returned (.tuple #[Pt.v x, .int .i64 (er : Nat)])) ∨
    (∃ p x T, res = .ok p ∧ e = .returned (.tuple #[Pt.v x, .int .i64 0]) ∧ PtIs w' T D x p ∧ (∀ g, T g → w.heap.size ≤ g ∧ g < w'.heap.size)))
theorem PtIs_plain (w : World) (T : Nat → Prop) (D : Nat) (n : Nat) (t o : ByteArray) (q : Bool) : PtIs w T D ⟨n, t, o, none, 0, 0, q⟩ (.mk n t o [] q) := ⟨rfl, rfl, rfl, rfl, WAt_nil w T D⟩

section
variable {w : World} {b n₀ : Nat} {t : ByteArray} {k d : Int} {D : Nat} {st : St} {O : Nat → Prop} {rec : Rec}

/-- The ways on which a parameter has no length asked of. -/
def NoLen (s : ByteArray) (m : Nat) : Prop := ¬ 0 < m ∨ (0 < m ∧ (bt s 0 == 35) = false) ∨ (0 < m ∧ (bt s 0 == 35) = true ∧ ((1 : Int) + m == (s.size : Int)) = false)
theorem op_le (s : ByteArray) : ∀ n, (opFrom s n).size ≤ s.size
  | 0 => Nat.zero_le _
  | n + 1 => by
    unfold opFrom
    split
    · rw [ext_size]; omega
    · exact op_le s n
theorem two_below (w : World) (c1 c2 : Array Value) (t1 t2 : TypeId) : Below w.heap.size w ((w.alloc (.cells c1 t1)).alloc (.cells c2 t2)) := ((Below.refl _ _).alloc (Nat.le_refl _) _).alloc (by simp) _

section
variable (s : ByteArray) (m n : Nat)
  (hcm : Hid (∀ w, Calls Try.prog 57 #[.string (s.extract 1 s.size)] w fun e w' => e = .returned (.int .i64 m) ∧ w = w'))
  (hcn : Hid (∀ w, Calls Try.prog 57 #[.string s] w fun e w' => e = .returned (.int .i64 n) ∧ w = w'))
include hcm hcn

set_option maxHeartbeats 4000000 in
theorem param_none (hs : s.size ≤ 65536) (hz : 0 < s.size) (hml : m ≤ s.size) (hno : NoLen s m) (hn : n = 0) (res : Except Nat PT) (hres : res = .error 55) :
    Calls Try.prog 51 #[.pointer (some ⟨b, 0, none⟩), .string s] w (ParamR res D w) := by
  have hb := get_bt s
  have hmin : (min 1 (s.size : Int)) = 1 := by omega
  have hrH := Lib.hid hres
  have hbel := Lib.hid (two_below w)
  clear hres
  subst hn
  rcases hno with h1 | ⟨h1, h2⟩ | ⟨h1, h2, h3⟩
  all_goals
    go_enter Try.func51, Try.ntmps51
    go_wp2_with fail
    refine (hcm.out _).mono ?_
    rintro e w' ⟨rfl, rfl⟩
    go_wp2_with fail
    refine (hcn.out _).mono ?_
    rintro e w' ⟨rfl, rfl⟩
    go_wp2_with fail
    exact bodyPost_ret (v := .tuple #[.agg #[.int .i64 0, .string ⟨#[]⟩, .string ⟨#[]⟩, .slice none 0 0, .bool false], .int .i64 55]) (by simp [results, Try.f51, go_sem]) rfl ⟨hbel.out _ _ _ _, .inl ⟨55, ⟨0, ⟨#[]⟩, ⟨#[]⟩, none, 0, 0, false⟩, hrH.out, by decide, rfl⟩⟩

set_option maxHeartbeats 4000000 in
theorem param_all (hs : s.size ≤ 65536) (hz : 0 < s.size) (hml : m ≤ s.size) (hno : NoLen s m) (hn : n = s.size) (res : Except Nat PT) (hres : res = .ok (.mk 2 (s.extract 0 n) ⟨#[]⟩ [] false)) :
    Calls Try.prog 51 #[.pointer (some ⟨b, 0, none⟩), .string s] w (ParamR res D w) := by
  have hb := get_bt s
  have hmin : (min 1 (s.size : Int)) = 1 := by omega
  have hrH := Lib.hid hres
  have hbel := Lib.hid (two_below w)
  clear hres
  have hn1 : ((n : Int) == 0) = false := by simp; omega
  have hn2 : ((n : Int) == (s.size : Int)) = true := by simp; omega
  have hnl : n ≤ s.size := by omega
  have hnH := Lib.hid hn
  clear hn
  rcases hno with h1 | ⟨h1, h2⟩ | ⟨h1, h2, h3⟩
  all_goals
    go_enter Try.func51, Try.ntmps51
    go_wp2_with fail
    refine (hcm.out _).mono ?_
    rintro e w' ⟨rfl, rfl⟩
    go_wp2_with fail
    refine (hcn.out _).mono ?_
    rintro e w' ⟨rfl, rfl⟩
    go_wp2_with fail
    exact bodyPost_ret (v := .tuple #[.agg #[.int .i64 2, .string (s.extract 0 n), .string ⟨#[]⟩, .slice none 0 0, .bool false], .int .i64 0]) (by simp [results, Try.f51, go_sem]) rfl ⟨hbel.out _ _ _ _, .inr ⟨_, ⟨2, s.extract 0 n, ⟨#[]⟩, none, 0, 0, false⟩, fun _ => False, hrH.out, rfl, PtIs_plain _ _ _ _ _ _ _, fun g h => h.elim⟩⟩

omit hcn in
set_option maxHeartbeats 4000000 in
theorem param_len (hs : s.size ≤ 65536) (hz : 0 < s.size) (h1 : 0 < m) (h2 : (bt s 0 == 35) = true) (h3 : ((1 : Int) + m == (s.size : Int)) = true) (res : Except Nat PT) (hres : res = .ok (.mk 2 (s.extract 1 s.size) ⟨#[108, 101, 110]⟩ [] false)) :
    Calls Try.prog 51 #[.pointer (some ⟨b, 0, none⟩), .string s] w (ParamR res D w) := by
  have hb := get_bt s
  have hmin : (min 1 (s.size : Int)) = 1 := by omega
  have hrH := Lib.hid hres
  have hbel := Lib.hid (two_below w)
  have hml : m ≤ s.size := by simp at h3; omega
  clear hres
  go_enter Try.func51, Try.ntmps51
  go_wp2_with fail
  refine (hcm.out _).mono ?_
  rintro e w' ⟨rfl, rfl⟩
  go_wp2_with fail
  exact bodyPost_ret (v := .tuple #[.agg #[.int .i64 2, .string (s.extract 1 s.size), .string ⟨#[108, 101, 110]⟩, .slice none 0 0, .bool false], .int .i64 0]) (by simp [results, Try.f51, go_sem]) rfl ⟨hbel.out _ _ _ _, .inr ⟨_, ⟨2, s.extract 1 s.size, ⟨#[108, 101, 110]⟩, none, 0, 0, false⟩, fun _ => False, hrH.out, rfl, PtIs_plain _ _ _ _ _ _ _, fun g h => h.elim⟩⟩

set_option maxHeartbeats 4000000 in
theorem param_noop (hs : s.size ≤ 65536) (hz : 0 < s.size) (hml : m ≤ s.size) (hno : NoLen s m) (hn1 : ((n : Int) == 0) = false) (hn2 : ((n : Int) == (s.size : Int)) = false) (hnl : n ≤ s.size)
    (hop : Hid (∀ w, Calls Try.prog 58 #[.string (s.extract n s.size)] w fun e w' => e = .returned (.string ⟨#[]⟩) ∧ w = w')) (res : Except Nat PT) (hres : res = .error 55) :
    Calls Try.prog 51 #[.pointer (some ⟨b, 0, none⟩), .string s] w (ParamR res D w) := by
  have hb := get_bt s
  have hmin : (min 1 (s.size : Int)) = 1 := by omega
  have hrH := Lib.hid hres
  have hbel := Lib.hid (two_below w)
  clear hres
  rcases hno with h1 | ⟨h1, h2⟩ | ⟨h1, h2, h3⟩
  all_goals
    go_enter Try.func51, Try.ntmps51
    go_wp2_with fail
    refine (hcm.out _).mono ?_
    rintro e w' ⟨rfl, rfl⟩
    go_wp2_with fail
    refine (hcn.out _).mono ?_
    rintro e w' ⟨rfl, rfl⟩
    go_wp2_with fail
    refine (hop.out _).mono ?_
    rintro e w' ⟨rfl, rfl⟩
    go_wp2_with fail
    exact bodyPost_ret (v := .tuple #[.agg #[.int .i64 0, .string ⟨#[]⟩, .string ⟨#[]⟩, .slice none 0 0, .bool false], .int .i64 55]) (by simp [results, Try.f51, go_sem]) rfl ⟨hbel.out _ _ _ _, .inl ⟨55, ⟨0, ⟨#[]⟩, ⟨#[]⟩, none, 0, 0, false⟩, hrH.out, by decide, rfl⟩⟩
end
end
end Go.Proofs.Ytgpkhpheomaiaaa
