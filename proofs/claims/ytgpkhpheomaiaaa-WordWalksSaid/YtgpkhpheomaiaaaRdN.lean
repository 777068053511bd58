/- substitution of a word's reader, whole; dollar. No condition. -/
import Derived.Test.YtgpkhpheomaiaaaRdM
namespace Go.Proofs.Ytgpkhpheomaiaaa
open Go.RowKit Go.PlainAid
attribute [local go_sem] Oper.semAt_some

theorem psz_nil : pszM ⟨#[]⟩ = 0 := by decide
set_option maxHeartbeats 2000000 in
theorem param_empty {w : World} {b D : Nat} {res : Except Nat PT} (hres : res = .error 55) : Calls Try.prog 51 #[.pointer (some ⟨b, 0, none⟩), .string ⟨#[]⟩] w (ParamR res D w) := by
  have hc : Hid (∀ w, Calls Try.prog 57 #[.string ⟨#[]⟩] w fun e w' => e = .returned (.int .i64 0) ∧ w = w') := Lib.hid fun w => by
    have := parameterSize_any ⟨#[]⟩ w (by decide)
    rw [psz_nil] at this
    exact this
  have hrH := Lib.hid hres
  have hbel := Lib.hid (two_below w)
  clear hres
  go_enter Try.func51, Try.ntmps51
  go_wp2_with fail
  refine (hc.out _).mono ?_
  rintro e w' ⟨rfl, rfl⟩
  go_wp2_with fail
  refine (hc.out _).mono ?_
  rintro e w' ⟨rfl, rfl⟩
  go_wp2_with fail
  exact bodyPost_ret (v := .tuple #[.agg #[.int .i64 0, .string ⟨#[]⟩, .string ⟨#[]⟩, .slice none 0 0, .bool false], .int .i64 55]) (by simp [results, Try.f51, go_sem]) rfl ⟨hbel.out _ _ _ _, .inl ⟨55, ⟨0, ⟨#[]⟩, ⟨#[]⟩, none, 0, 0, false⟩, hrH.out, by decide, rfl⟩⟩
theorem parameter_all {w : World} {b : Nat} {t : ByteArray} {k d : Int} {D : Nat} {rec : Rec} {a0 a1 : Option Addr} {n0 c0 n1 c1 : Nat} {q o : Bool} (hB : Blk w b 59 (rd t k d a0 n0 c0 a1 n1 c1 q o)) (hk : k = 0 ∨ k = 1 ∨ k = 2) (hd0 : 0 ≤ d) (hd1 : d ≤ 24) (hrec : Nest rec D d) (s : ByteArray) (hs : s.size ≤ 65536) :
    Calls Try.prog 51 #[.pointer (some ⟨b, 0, none⟩), .string s] w (ParamR (paramM rec s k) D w) := by
  by_cases hz : s.size = 0
  · obtain rfl := size0 hz
    refine param_empty ?_
    have h1 : ¬ (0 < pszM ((⟨#[]⟩ : ByteArray).extract (min 1 (⟨#[]⟩ : ByteArray).size) (⟨#[]⟩ : ByteArray).size) ∧ bt ⟨#[]⟩ 0 = 35 ∧ 1 + pszM ((⟨#[]⟩ : ByteArray).extract (min 1 (⟨#[]⟩ : ByteArray).size) (⟨#[]⟩ : ByteArray).size) = (⟨#[]⟩ : ByteArray).size) := fun h => by have h3 := h.2.2; have h4 : (⟨#[]⟩ : ByteArray).size = 0 := rfl; omega
    unfold paramM
    rw [if_neg h1, if_pos psz_nil]
  · exact parameter_any hB hk hd0 hd1 hrec s hs (by omega)

section
variable {w : World} {b n₀ : Nat} {t : ByteArray} {k d : Int} {kk : Nat} {st : St} {O : Nat → Prop} {rec : Rec}
theorem nest_ok {s : ByteArray} {k2 : Int} {l : List PT} (hrec : Nest rec kk d) (hs : s.size ≤ 65536) (hk : k2 = 0 ∨ k2 = 1 ∨ k2 = 2) (hres : rec s k2 = .ok l) (W : World) :
    Calls Try.prog 16 #[.string s, .int .i64 k2, .int .i64 (d + 1)] W (fun e w' => Below W.heap.size W w' ∧ ∃ a c T, e = .returned (.tuple #[.slice a l.length c, .int .i64 0]) ∧ WAt w' T kk (.slice a l.length c) l ∧ (∀ g, T g → W.heap.size ≤ g ∧ g < w'.heap.size)) :=
  (hrec s k2 W hs hk).mono (by
    rintro e w' ⟨hb, ⟨er', h', _⟩ | ⟨l', a, c, T, h', h2, h3, h4⟩⟩
    · rw [hres] at h'; cases h'
    · rw [hres] at h'; cases h'; exact ⟨hb, a, c, T, h2, h3, h4⟩)
theorem nest_bad {s : ByteArray} {k2 : Int} {er : Nat} (hrec : Nest rec kk d) (hs : s.size ≤ 65536) (hk : k2 = 0 ∨ k2 = 1 ∨ k2 = 2) (hres : rec s k2 = .error er) (W : World) :
    Calls Try.prog 16 #[.string s, .int .i64 k2, .int .i64 (d + 1)] W (fun e w' => Below W.heap.size W w' ∧ e = .returned (.tuple #[.slice none 0 0, .int .i64 er])) :=
  (hrec s k2 W hs hk).mono (by
    rintro e w' ⟨hb, ⟨er', h', _, rfl⟩ | ⟨l', a, c, T, h', _⟩⟩
    · rw [hres] at h'; cases h'; exact ⟨hb, rfl⟩
    · rw [hres] at h'; cases h')
theorem frm_drew (O : Nat → Prop) (w : World) : Frm O w w.drew := ⟨rfl, rfl, rfl, Nat.le_refl _, fun _ _ _ => rfl⟩
theorem step_bad {P : Program} {f : FuncId} {args : Array Value} {w : World} {er : Nat} (h : Calls P f args w (StepR w b n₀ t k d kk O (.error er))) : Calls P f args w fun e w' => e = .returned (.tuple #[.int .i64 0, .int .i64 er]) ∧ er ≠ 0 ∧ Below n₀ w w' := h.mono (by
  rintro e w' (⟨er', h1, h2, h3, h4⟩ | ⟨n, st', h1, _⟩)
  · cases h1; exact ⟨h3, h2, h4⟩
  · cases h1)
theorem step_good {P : Program} {f : FuncId} {args : Array Value} {w : World} {n : Nat} {st' : St} (h : Calls P f args w (StepR w b n₀ t k d kk O (.ok (n, st')))) : Calls P f args w fun e w' => e = .returned (.tuple #[.int .i64 n, .int .i64 0]) ∧ RdPost w b n₀ t k d kk O st' w' := h.mono (by
  rintro e w' (⟨er', h1, _⟩ | ⟨n, st', h1, h2, h3⟩)
  · cases h1
  · cases h1; exact ⟨h2, h3⟩)
theorem dollar_size {x : ByteArray} : ((⟨#[36]⟩ : ByteArray) ++ x).size = 1 + x.size := by rw [ByteArray.size_append]; rfl
theorem dollar_first {x : ByteArray} : bt ((⟨#[36]⟩ : ByteArray) ++ x) 0 = 36 := by
  have hz := dollar_size (x := x)
  unfold bt
  rw [dif_pos (by omega)]
  have : ((⟨#[36]⟩ : ByteArray) ++ x)[0]'(by omega) = 36 := by rw [ByteArray.getElem_append_left (by decide)]; rfl
  rw [this]; rfl
theorem expr_two {x : ByteArray} {q : Bool} (h : exprM x kk q = true) : 2 ≤ x.size := by
  unfold exprM at h
  rw [Bool.and_eq_true, Bool.and_eq_true] at h
  obtain ⟨⟨_, h1⟩, h2⟩ := h
  have h1 := of_decide_eq_true h1
  have h2 := of_decide_eq_true h2
  unfold endM at h1 h2
  split at h2
  · rename_i hb
    rw [if_pos hb] at h1
    have := subst_ge ((⟨#[36]⟩ : ByteArray) ++ x) kk 0 q (by rw [dollar_first]; rfl) h1
    omega
  · cases h2

theorem subst_rd (h : Rd w b n₀ t k d kk st O) (i : Nat) (hi : i < t.size) (hsub : isSub (t.extract (i + 1) t.size) = true) (h36 : bt t i = 36) (ht : t.size ≤ 65536) (hk : k = 0 ∨ k = 1 ∨ k = 2) (hd : d + kk = 24) (hd0 : 0 ≤ d) (hlen : st.ps.length < 90000) (hrec : 1 ≤ kk → Nest rec kk d) :
    Calls Try.prog 45 #[.pointer (some ⟨b, 0, none⟩), .int .i64 i] w (StepR w b n₀ t k d kk O (substM rec t k kk i st)) := by
  obtain ⟨hbeg, hi1⟩ := sub_begs (i := i) (q := k != 0) hsub h36
  obtain ⟨⟨nx, pl, er⟩, hE⟩ : ∃ r, endM t i kk (k != 0) = r := ⟨_, rfl⟩
  have hw : endM t i kk (k != 0) = wholeM t kk i (k != 0) := by unfold endM; rw [if_pos hbeg]
  by_cases her : er = 0
  · have he0 : (wholeM t kk i (k != 0)).err = 0 := by rw [← hw, hE]; exact her
    have hn3 : i + 3 ≤ nx := by have := subst_ge t kk i (k != 0) (by rw [h36]; rfl) he0; rw [← hw, hE] at this; exact this
    have hnt : nx ≤ t.size := by have := (whole_good t kk i (k != 0) hi he0).2; rw [← hw, hE] at this; exact this
    have hkk : 1 ≤ kk := by
      cases kk with
      | zero => have := whole_deep he0; rw [h36] at this; cases this
      | succ n => omega
    have hrec := hrec hkk
    have hz : (t.extract (i + 2) (nx - 1)).size = nx - 1 - (i + 2) := by rw [ext_size]; omega
    have hS : substM rec t k kk i st = match subPart rec t (t.extract (i + 2) (nx - 1)) k kk i with
        | .error e => .error e
        | .ok p => .ok (nx, st.part (p.quote (k != 0))) := by unfold substM; rw [hE, if_neg (by simpa using her)]; rfl
    cases h123 : (bt t (i + 1) == 123)
    · have hne : ¬ bt t (i + 1) = 123 := by simpa using h123
      cases hex : exprM (t.extract (i + 2) (nx - 1)) kk (k != 0)
      · have hp : subPart rec t (t.extract (i + 2) (nx - 1)) k kk i = .ok (.mk 3 (t.extract (i + 2) (nx - 1)) ⟨#[]⟩ [] false) := by unfold subPart; rw [if_neg hne, hex]; rfl
        rw [hS, hp]
        exact (sub_plain h hE ht hi1 hd hd0 her hn3 hnt hlen h123 hex).mono fun e w' ⟨h1, h2⟩ => .inr ⟨_, _, rfl, h1, h2⟩
      · have h2 := expr_two hex
        have hsz : ((t.extract (i + 2) (nx - 1)).extract 1 ((t.extract (i + 2) (nx - 1)).size - 1)).size ≤ 65536 := by rw [ext_size]; omega
        cases hres : rec ((t.extract (i + 2) (nx - 1)).extract 1 ((t.extract (i + 2) (nx - 1)).size - 1)) 2 with
        | error er2 =>
          have hp : subPart rec t (t.extract (i + 2) (nx - 1)) k kk i = .error er2 := by unfold subPart; rw [if_neg hne, hex, if_pos rfl, hres]
          rw [hS, hp]
          have he2 := nest_err (hrec _ 2 w hsz (.inr (.inr rfl))) hres
          exact (sub_expr_err h hE ht hi1 hd hd0 her hn3 hnt h123 hex h2 er2 he2 (Lib.hid (nest_bad hrec hsz (.inr (.inr rfl)) hres))).mono fun e w' ⟨h1, h2⟩ => .inl ⟨_, rfl, he2, h1, h2⟩
        | ok l =>
          have hp : subPart rec t (t.extract (i + 2) (nx - 1)) k kk i = .ok (.mk 4 ⟨#[]⟩ ⟨#[]⟩ l false) := by unfold subPart; rw [if_neg hne, hex, if_pos rfl, hres]
          rw [hS, hp]
          exact (sub_expr h hE ht hi1 hd hd0 her hn3 hnt hlen h123 hex h2 l (Lib.hid (nest_ok hrec hsz (.inr (.inr rfl)) hres))).mono fun e w' ⟨h1, h2⟩ => .inr ⟨_, _, rfl, h1, h2⟩
    · have heq : bt t (i + 1) = 123 := by simpa using h123
      have hpp : subPart rec t (t.extract (i + 2) (nx - 1)) k kk i = paramM rec (t.extract (i + 2) (nx - 1)) k := by unfold subPart; rw [if_pos heq]
      have hall : ∀ W, Rd W b n₀ t k d kk st O → Calls Try.prog 51 #[.pointer (some ⟨b, 0, none⟩), .string (t.extract (i + 2) (nx - 1))] W (ParamR (paramM rec (t.extract (i + 2) (nx - 1)) k) kk W) := fun W hW => by
        obtain ⟨a0, n0, c0, a1, c1, hB⟩ := hW.blk
        exact parameter_all hB hk hd0 (by omega) hrec _ (by omega)
      cases hres : paramM rec (t.extract (i + 2) (nx - 1)) k with
      | error er2 =>
        rw [hS, hpp, hres]
        have he2 : er2 ≠ 0 := by
          obtain ⟨e, w', fr, ⟨_, ⟨er', x, h1, h2, _⟩ | ⟨p, x, T, h1, _⟩⟩, _⟩ := hall w h []
          · rw [hres] at h1; cases h1; exact h2
          · rw [hres] at h1; cases h1
        refine (sub_brace_err h hE ht hi1 hd hd0 her hn3 hnt h123 er2 he2 (Lib.hid fun W hW => (hall W hW).mono ?_)).mono fun e w' ⟨h1, h2⟩ => .inl ⟨_, rfl, he2, h1, h2⟩
        rintro e w' ⟨hb, ⟨er', x, h1, h2, rfl⟩ | ⟨p, x, T, h1, _⟩⟩
        · rw [hres] at h1; cases h1; exact ⟨hb, x, rfl⟩
        · rw [hres] at h1; cases h1
      | ok p =>
        rw [hS, hpp, hres]
        refine (sub_brace h hE ht hi1 hd hd0 her hn3 hnt hlen h123 p (Lib.hid fun W hW => (hall W hW).mono ?_)).mono fun e w' ⟨h1, h2⟩ => .inr ⟨_, _, rfl, h1, h2⟩
        rintro e w' ⟨hb, ⟨er', x, h1, _⟩ | ⟨p', x, T, h1, h2, h3, h4⟩⟩
        · rw [hres] at h1; cases h1
        · rw [hres] at h1; cases h1; exact ⟨hb, x, T, h2, h3, h4⟩
  · have hS : substM rec t k kk i st = .error er := by unfold substM; rw [hE, if_pos her]
    rw [hS]
    exact (sub_err h hE ht hi1 hd hd0 her).mono fun e w' ⟨h1, h2⟩ => .inl ⟨_, rfl, her, h1, h2⟩
end

/-! dollar -/
section
variable {w : World} {b n₀ : Nat} {t : ByteArray} {k d : Int} {kk : Nat} {st : St} {O : Nat → Prop} {rec : Rec}
set_option maxRecDepth 100000 in
set_option maxHeartbeats 4000000 in
theorem dollar_rd (h : Rd w b n₀ t k d kk st O) (i : Nat) (hi : i < t.size) (h36 : bt t i = 36) (ht : t.size ≤ 65536) (hk : k = 0 ∨ k = 1 ∨ k = 2) (hd : d + kk = 24) (hd0 : 0 ≤ d) (hlen : st.ps.length ≤ 65536) (hby : st.bytes.length ≤ 65536) (hrec : 1 ≤ kk → Nest rec kk d) :
    Calls Try.prog 33 #[.pointer (some ⟨b, 0, none⟩), .int .i64 i] w (StepR w b n₀ t k d kk O (dollarM rec t k kk i st)) := by
  have hlt := h.lt
  obtain ⟨a0, n0, c0, a1, c1, hB⟩ := h.blk
  have e0 : w.cell? ⟨b, 0, none⟩ = some (.string t) := hB.cell 0
  have hH := Lib.hid h
  have hBH := Lib.hid hB
  obtain ⟨qv, hqv⟩ : ∃ v, (k != 0) = v := ⟨_, rfl⟩
  have hqH := Lib.hid hqv
  cases hs1 : Lib.hasPrefix (t.extract (i + 1) t.size).data.toList (⟨#[40]⟩ : ByteArray).data.toList
  · cases hs2 : Lib.hasPrefix (t.extract (i + 1) t.size).data.toList (⟨#[123]⟩ : ByteArray).data.toList
    · have hsub : isSub (t.extract (i + 1) t.size) = false := by unfold isSub; rw [show Lib.hasPrefix (t.extract (i + 1) t.size).data.toList [40] = false from hs1, show Lib.hasPrefix (t.extract (i + 1) t.size).data.toList [123] = false from hs2]; rfl
      obtain ⟨n, hn⟩ : ∃ n, bareM (t.extract (i + 1) t.size) = n := ⟨_, rfl⟩
      have hc := Lib.hid (fun w => bareSize_any (t.extract (i + 1) t.size) w (by rw [ext_size]; omega))
      have hnl := bare_le (t.extract (i + 1) t.size)
      rw [ext_size] at hnl
      have hz : (t.extract (i + 1) t.size).size = t.size - (i + 1) := by rw [ext_size]; omega
      rw [hn] at hc hnl
      have hs1H := Lib.hid hs1
      have hs2H := Lib.hid hs2
      by_cases h0 : 0 < n
      · have hr : Hid (dollarM rec t k kk i st = .ok (i + 1 + n, st.part (.mk 2 ((t.extract (i + 1) t.size).extract 0 n) ⟨#[]⟩ [] (k != 0)))) := Lib.hid (by unfold dollarM; rw [hsub, if_neg (by decide), hn, if_pos h0])
        have hpart := Lib.hid (fun (h1 : True) => part_rd (x := ⟨2, (t.extract (i + 1) t.size).extract 0 n, ⟨#[]⟩, none, 0, 0, qv⟩) (p := .mk 2 ((t.extract (i + 1) t.size).extract 0 n) ⟨#[]⟩ [] qv) (T2 := fun _ => False) h.drew (by omega) ⟨rfl, rfl, rfl, rfl, WAt_nil _ _ _⟩ (fun g hg => hg.elim))
        rw [hr.out, hqv]
        have hnz : n ≤ (t.extract (i + 1) t.size).size := by omega
        have hnt : i + 1 + n ≤ t.size := by omega
        clear h hB hs1 hs2 hn hqv hsub hz hr
        go_enter Try.func33, Try.ntmps33
        go_wp2_with (first
          | (go_at_call 44; refine (Try.strings_HasPrefix _ _ _).mono ?_; rintro e w' ⟨rfl, rfl⟩; first | rw [hs1H.out] | rw [hs2H.out])
          | (go_at_call 46; refine (hc.out _).mono ?_; rintro e w' ⟨rfl, rfl⟩))
        obtain ⟨bh, hbh⟩ : ∃ x, t.extract (i + 1) t.size = x := ⟨_, rfl⟩
        rw [hbh] at hnz hpart ⊢
        have hbhH := Lib.hid hbh
        clear hbh
        have hnzI : (n : Int) ≤ (bh.size : Int) := by omega
        have hn0 : (0 : Int) ≤ (n : Int) := by omega
        go_region_held3 (fun _ => True) (first | trivial | fail)
          ((first
            | (go_at_call 36; refine (quoted_rd hH.out.drew _ hqH.out).mono ?_; rintro e w2 ⟨rfl, rfl⟩)
            | (go_at_call 34; refine (hpart.out trivial).mono ?_; rintro e w2 ⟨rfl, hp2⟩)
            | fail))
        rw [← hbhH.out] at hp2
        have hp3 := Lib.hid hp2
        clear hp2
        go_wp2
        go_ret2
        exact .inr ⟨i + 1 + n, _, rfl, by simp, RdPost.trans (fun _ h => .inl h) (frm_drew _ _) hp3.out⟩
      · obtain rfl : n = 0 := by omega
        have hr : Hid (dollarM rec t k kk i st = .ok (i + 1, st.take ⟨#[36]⟩ (k != 0))) := Lib.hid (by unfold dollarM; rw [hsub, if_neg (by decide), hn, if_neg h0])
        rw [hr.out, hqv]
        clear h hB hs1 hs2 hn hqv hsub hz hr h0
        go_enter Try.func33, Try.ntmps33
        go_wp2_with (first
          | (go_at_call 44; refine (Try.strings_HasPrefix _ _ _).mono ?_; rintro e w' ⟨rfl, rfl⟩; first | rw [hs1H.out] | rw [hs2H.out])
          | (go_at_call 46; refine (hc.out _).mono ?_; rintro e w' ⟨rfl, rfl⟩)
          | (go_at_call 36; refine (quoted_rd hH.out _ hqH.out).mono ?_; rintro e w2 ⟨rfl, rfl⟩)
          | (go_at_call 35; refine (take_rd hH.out ⟨#[36]⟩ qv (by omega) (by show st.bytes.length + 1 ≤ _; omega)).mono ?_; rintro e w' ⟨rfl, hp⟩; have hpH := Lib.hid hp; clear hp))
        go_ret2
        exact .inr ⟨i + 1, _, rfl, by simp, hpH.out⟩
    · have hsub : isSub (t.extract (i + 1) t.size) = true := by unfold isSub; rw [show Lib.hasPrefix (t.extract (i + 1) t.size).data.toList [123] = true from hs2, Bool.or_true]
      have hr : Hid (dollarM rec t k kk i st = substM rec t k kk i st) := Lib.hid (by unfold dollarM; rw [hsub, if_pos rfl])
      have hsu := Lib.hid (subst_rd h i hi hsub h36 ht hk hd hd0 (by omega) hrec)
      have hs1H := Lib.hid hs1
      have hs2H := Lib.hid hs2
      rw [hr.out]
      clear h hB hs1 hs2 hqv hsub hr
      cases hres : substM rec t k kk i st with
      | error er =>
        rw [hres] at hsu
        go_enter Try.func33, Try.ntmps33
        go_wp2_with (first
          | (go_at_call 44; refine (Try.strings_HasPrefix _ _ _).mono ?_; rintro e w' ⟨rfl, rfl⟩; first | rw [hs1H.out] | rw [hs2H.out])
          | (go_at_call 45; refine (step_bad hsu.out).mono ?_; rintro e w' ⟨rfl, hp⟩; have hpH := Lib.hid hp; clear hp))
        go_ret2
        exact .inl ⟨er, rfl, hpH.out.1, rfl, hpH.out.2⟩
      | ok r =>
        obtain ⟨nx, st'⟩ := r
        rw [hres] at hsu
        go_enter Try.func33, Try.ntmps33
        go_wp2_with (first
          | (go_at_call 44; refine (Try.strings_HasPrefix _ _ _).mono ?_; rintro e w' ⟨rfl, rfl⟩; first | rw [hs1H.out] | rw [hs2H.out])
          | (go_at_call 45; refine (step_good hsu.out).mono ?_; rintro e w' ⟨rfl, hp⟩; have hpH := Lib.hid hp; clear hp))
        go_ret2
        exact .inr ⟨nx, st', rfl, rfl, hpH.out⟩
  · have hsub : isSub (t.extract (i + 1) t.size) = true := by unfold isSub; rw [show Lib.hasPrefix (t.extract (i + 1) t.size).data.toList [40] = true from hs1, Bool.true_or]
    have hr : Hid (dollarM rec t k kk i st = substM rec t k kk i st) := Lib.hid (by unfold dollarM; rw [hsub, if_pos rfl])
    have hsu := Lib.hid (subst_rd h i hi hsub h36 ht hk hd hd0 (by omega) hrec)
    have hs1H := Lib.hid hs1
    rw [hr.out]
    clear h hB hs1 hqv hsub hr
    cases hres : substM rec t k kk i st with
    | error er =>
      rw [hres] at hsu
      go_enter Try.func33, Try.ntmps33
      go_wp2_with (first
        | (go_at_call 44; refine (Try.strings_HasPrefix _ _ _).mono ?_; rintro e w' ⟨rfl, rfl⟩; rw [hs1H.out])
        | (go_at_call 45; refine (step_bad hsu.out).mono ?_; rintro e w' ⟨rfl, hp⟩; have hpH := Lib.hid hp; clear hp))
      go_ret2
      exact .inl ⟨er, rfl, hpH.out.1, rfl, hpH.out.2⟩
    | ok r =>
      obtain ⟨nx, st'⟩ := r
      rw [hres] at hsu
      go_enter Try.func33, Try.ntmps33
      go_wp2_with (first
        | (go_at_call 44; refine (Try.strings_HasPrefix _ _ _).mono ?_; rintro e w' ⟨rfl, rfl⟩; rw [hs1H.out])
        | (go_at_call 45; refine (step_good hsu.out).mono ?_; rintro e w' ⟨rfl, hp⟩; have hpH := Lib.hid hp; clear hp))
      go_ret2
      exact .inr ⟨nx, st', rfl, rfl, hpH.out⟩
end
end Go.Proofs.Ytgpkhpheomaiaaa
