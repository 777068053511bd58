/- Parameters as words: what the parts are. No condition. -/
import Derived.Test.YtgpkhpheomaiaaaDoorQpM
namespace Go.Proofs.YtgpkhpheomaiaaaDoor
open Go.RowKit Go.PlainAid

theorem pre_bt {x : ByteArray} {c : UInt8} (h : Lib.hasPrefix x.data.toList [c] = true) : bt x 0 = (c.toNat : Int) := by
  cases hl : x.data.toList with
  | nil => rw [hl] at h; cases h
  | cons a l =>
    rw [hl] at h
    have hc : c = a := by simpa [Lib.hasPrefix] using h
    exact (bt_get (by rw [hl, hc]; rfl)).1
theorem isSub_no {x : ByteArray} (h1 : bt x 0 ≠ 40) (h2 : bt x 0 ≠ 123) : isSub x = false := by
  unfold isSub
  cases h3 : Lib.hasPrefix x.data.toList [40]
  · cases h4 : Lib.hasPrefix x.data.toList [123]
    · rfl
    · exact absurd (pre_bt h4) h2
  · exact absurd (pre_bt h3) h1
theorem isSub_brace {x : ByteArray} {l : List UInt8} (h : x.data.toList = 123 :: l) : isSub x = true := by
  unfold isSub
  rw [h]
  simp [Lib.hasPrefix]
theorem first_no {c : Int} (h : (letB c || c == 95) = true) : c ≠ 40 ∧ c ≠ 123 ∧ c ≠ 35 := by
  have key : ∀ c : Int, c = 40 ∨ c = 123 ∨ c = 35 → (letB c || c == 95) = false := by
    intro c hc
    rcases hc with rfl | rfl | rfl <;> decide
  refine ⟨?_, ?_, ?_⟩ <;> intro e <;> rw [key _ (by rw [e]; decide)] at h <;> cases h
/-- One step over the whole text. -/
theorem one_step {t : ByteArray} {p : PT} (h0 : 0 < t.size) (h36 : bt t 0 = 36) (hd : dollarM (partsM 23) t 0 24 0 st0 = .ok (t.size, st0.part p)) : topM t 0 = .ok [p] := by
  unfold topM
  rw [if_pos (.inl rfl), show partsM 24 t 0 = overM (partsM 23) 24 t 0 from rfl]
  unfold overM
  have hst : stepM (partsM 23) t 0 24 0 st0 = .ok (t.size, st0.part p) := by
    unfold stepM
    rw [if_neg (by rw [h36]; decide), if_neg (by rw [h36]; decide), if_neg (fun h => by rw [h36] at h; exact absurd h.1 (by decide)), if_pos h36]
    exact hd
  obtain ⟨m, hm⟩ : ∃ m, t.size = m + 1 := ⟨t.size - 1, by omega⟩
  rw [show runM (stepM (partsM 23) t 0 24) t.size t.size 0 st0 = runM (stepM (partsM 23) t 0 24) t.size (m + 1) 0 st0 by rw [← hm], run_on h0 hst, run_stop (by show ¬ t.size < t.size; omega)]
  rfl
theorem par_a {nm : ByteArray} (hn : isName nm = true) : topM (⟨#[36]⟩ ++ nm) 0 = .ok [.mk 2 nm ⟨#[]⟩ [] false] := by
  obtain ⟨h0, hall, hf⟩ := name_chars hn
  have hz : ((⟨#[36]⟩ : ByteArray) ++ nm).size = 1 + nm.size := by rw [ByteArray.size_append]; rfl
  have hl : ((⟨#[36]⟩ : ByteArray) ++ nm).data.toList = (⟨#[36]⟩ : ByteArray).data.toList ++ nm.data.toList := data_app _ _
  have h36 : bt ((⟨#[36]⟩ : ByteArray) ++ nm) 0 = 36 := by rw [bt_left (by decide)]; decide
  have hb : ((⟨#[36]⟩ : ByteArray) ++ nm).extract (0 + 1) ((⟨#[36]⟩ : ByteArray) ++ nm).size = nm := ext_post (a := ⟨#[36]⟩) hl
  have hx : nm.extract 0 nm.size = nm := ext_pre (rest := []) (by simp)
  have hs : nszM nm = nm.size := nsz_name hx (fun _ _ => rfl) (Nat.le_refl _) hn (.inl rfl)
  have hnb : bareM nm = nm.size := bare_name hs h0
  refine one_step (by omega) h36 ?_
  unfold dollarM
  rw [hb, isSub_no (first_no hf).1 (first_no hf).2.1, if_neg (by decide), hnb, if_pos (by omega), hx, hz]
  rfl
theorem brace_end {t : ByteArray} (h0 : bt t 0 = 36) (h1 : bt t 1 = 123) (hz : 1 < t.size) (hR : Rea (pIn t 23 false) t 0 125 ⟨t.size, 0, 0⟩ 2) : endM t 0 24 false = ⟨t.size, 0, 0⟩ := by
  have h39 : (bt t 0 == 39) = false := by rw [h0]; rfl
  have h34 : (bt t 0 == 34) = false := by rw [h0]; rfl
  have h36 : (bt t 0 == 36) = true := by rw [h0]; rfl
  have hb : begM t 0 false = true := by unfold begM; rw [h39, h34, h36, decide_eq_true (show 0 + 1 < t.size from hz), show bt t (0 + 1) = 123 from h1]; rfl
  unfold endM
  rw [if_pos hb, whole_brace h39 h34 (by rw [show bt t (0 + 1) = 123 from h1]; rfl)]
  exact hR _ (by omega)
theorem brace_parts {t B : ByteArray} {p : PT} (ht : t.data.toList = [36, 123] ++ B.data.toList ++ [125]) (hR : Rea (pIn t 23 false) t 0 125 ⟨t.size, 0, 0⟩ 2) (hp : paramM (partsM 23) B 0 = .ok p) : topM t 0 = .ok [p.quote false] := by
  have hz : t.size = B.size + 3 := by rw [Lib.size_eq, ht, Lib.size_eq B]; simp
  have h36 : bt t 0 = 36 := (bt_get (c := 36) (by rw [ht]; rfl)).1
  have h123 : bt t 1 = 123 := (bt_get (c := 123) (by rw [ht]; rfl)).1
  have hE := brace_end h36 h123 (by omega) hR
  have hbh : (t.extract (0 + 1) t.size).data.toList = 123 :: (B.data.toList ++ [125]) := by
    rw [ext_list, Lib.size_eq t, ht]
    simp
    exact List.take_of_length_le (by rw [List.length_append, ← Lib.size_eq]; exact Nat.le_refl _)
  have hbw : t.extract (0 + 2) (t.size - 1) = B := by
    apply toList_inj
    rw [Lib.toList_data, Lib.toList_data, ext_list, hz, ht, List.append_assoc, show 0 + 2 = ([36, 123] : List UInt8).length from rfl, List.drop_left, show B.size + 3 - 1 - ([36, 123] : List UInt8).length = B.data.toList.length by rw [← Lib.size_eq]; show B.size + 3 - 1 - 2 = _; omega, List.take_left]
  refine one_step (by omega) h36 ?_
  unfold dollarM
  rw [isSub_brace hbh, if_pos rfl]
  unfold substM
  rw [show ((0 : Int) != 0) = false from rfl, hE, if_neg (fun h => h rfl)]
  have hsp : subPart (partsM 23) t (t.extract (0 + 2) ((⟨t.size, 0, 0⟩ : R3).next - 1)) 0 24 0 = .ok p := by
    show subPart (partsM 23) t (t.extract (0 + 2) (t.size - 1)) 0 24 0 = _
    rw [hbw]
    unfold subPart
    rw [if_pos (show bt t (0 + 1) = 123 from h123)]
    exact hp
  rw [hsp]
theorem rea_end {t : ByteArray} {k b : Nat} {pre : List UInt8} (ht : t.data.toList = pre ++ [125]) : Rea (pIn t k false) t b 125 ⟨t.size, 0, 0⟩ pre.length := by
  obtain ⟨h1, h2⟩ := bt_get (t := t) (i := pre.length) (c := 125) (by rw [ht]; simp)
  exact rea_done h2 h1 (by rw [show t.size = pre.length + 1 by rw [Lib.size_eq, ht]; simp])
theorem name_in {nm : ByteArray} (hn : isName nm = true) : ∀ c ∈ nm.data.toList, InC (c.toNat : Int) := fun c hc => by
  obtain ⟨k, hk, e⟩ := mem_bt hc
  rw [← e]
  exact nm_in ((name_chars hn).2.1 k hk)
theorem par_c {nm : ByteArray} (hn : isName nm = true) : topM (⟨#[36, 123, 35]⟩ ++ nm ++ ⟨#[125]⟩) 0 = .ok [.mk 2 nm ⟨#[108, 101, 110]⟩ [] false] := by
  obtain ⟨h0, hall, hf⟩ := name_chars hn
  have ht : ((⟨#[36, 123, 35]⟩ : ByteArray) ++ nm ++ ⟨#[125]⟩).data.toList = [36, 123] ++ ((⟨#[35]⟩ : ByteArray) ++ nm).data.toList ++ [125] := by
    rw [data_app, data_app, data_app]; rfl
  have hB : ((⟨#[35]⟩ : ByteArray) ++ nm).data.toList = (⟨#[35]⟩ : ByteArray).data.toList ++ nm.data.toList := data_app _ _
  have hz : ((⟨#[35]⟩ : ByteArray) ++ nm).size = 1 + nm.size := by rw [ByteArray.size_append]; rfl
  have hx : nm.extract 0 nm.size = nm := ext_pre (rest := []) (by simp)
  have hs : nszM nm = nm.size := nsz_name hx (fun _ _ => rfl) (Nat.le_refl _) hn (.inl rfl)
  have hps : pszM nm = nm.size := psz_name hs h0 hf
  have hb : ((⟨#[35]⟩ : ByteArray) ++ nm).extract 1 ((⟨#[35]⟩ : ByteArray) ++ nm).size = nm := ext_post (a := ⟨#[35]⟩) hB
  have hp : paramM (partsM 23) (⟨#[35]⟩ ++ nm) 0 = .ok (.mk 2 nm ⟨#[108, 101, 110]⟩ [] false) := by
    unfold paramM
    have hmin : min 1 ((⟨#[35]⟩ : ByteArray) ++ nm).size = 1 := by omega
    rw [hmin, hb, hps, if_pos ⟨by omega, by rw [bt_left (by decide)]; decide, hz.symm⟩]
  have hin : ∀ c ∈ ((⟨#[35]⟩ : ByteArray) ++ nm).data.toList, InC (c.toNat : Int) := fun c hc => by
    rw [hB] at hc
    rcases List.mem_append.1 hc with hc | hc
    · have : c = 35 := by simpa using hc
      subst this
      exact ⟨by decide, by decide, by decide, by decide, by decide, by decide⟩
    · exact name_in hn c hc
  have hR : Rea (pIn (⟨#[36, 123, 35]⟩ ++ nm ++ ⟨#[125]⟩) 23 false) (⟨#[36, 123, 35]⟩ ++ nm ++ ⟨#[125]⟩) 0 125 ⟨((⟨#[36, 123, 35]⟩ : ByteArray) ++ nm ++ ⟨#[125]⟩).size, 0, 0⟩ 2 := by
    have he := rea_end (k := 23) (b := 0) ht
    rw [List.length_append] at he
    exact rea_plain _ [36, 123] [125] ht hin he
  exact brace_parts ht hR hp
/-! the operator and the word behind it -/
theorem ops_in : ∀ o ∈ opsL, (∀ c ∈ o, InC (c.toNat : Int)) ∧ (o.length = 1 ∨ o.length = 2) ∧ opsL.contains o = true := by
  intro o ho
  simp only [opsL, List.mem_cons, List.mem_nil_iff, or_false] at ho
  rcases ho with rfl | rfl | rfl | rfl | rfl | rfl | rfl | rfl | rfl | rfl | rfl | rfl
  all_goals
    refine ⟨fun c hc => ?_, by decide, by decide⟩
    simp only [List.mem_cons, List.mem_nil_iff, or_false] at hc
    first
      | (rcases hc with rfl | rfl <;> exact ⟨by decide, by decide, by decide, by decide, by decide, by decide⟩)
      | (subst hc; exact ⟨by decide, by decide, by decide, by decide, by decide, by decide⟩)
theorem ops_first : ∀ o ∈ opsL, ∃ c r, o = c :: r ∧ nmC (c.toNat : Int) = false := by
  intro o ho
  simp only [opsL, List.mem_cons, List.mem_nil_iff, or_false] at ho
  rcases ho with rfl | rfl | rfl | rfl | rfl | rfl | rfl | rfl | rfl | rfl | rfl | rfl <;> exact ⟨_, _, rfl, by decide⟩
theorem ops_long : ∀ o ∈ opsL, o.length = 1 → ∀ q : UInt8, q ≠ 37 → q ≠ 35 → opsL.contains (o ++ [q]) = false := by
  intro o ho hl q h1 h2
  simp only [opsL, List.mem_cons, List.mem_nil_iff, or_false] at ho
  rcases ho with rfl | rfl | rfl | rfl | rfl | rfl | rfl | rfl | rfl | rfl | rfl | rfl
  all_goals first | (simp at hl; done) | (simp [opsL, h1, h2])
theorem opM_is {X O : ByteArray} {q : UInt8} {r : List UInt8} (hX : X.data.toList = O.data.toList ++ q :: r) (hO : O.data.toList ∈ opsL) (h1 : q ≠ 37) (h2 : q ≠ 35) : opM X = O := by
  obtain ⟨_, hlen, hcon⟩ := ops_in _ hO
  have hz : X.size = O.size + 1 + r.length := by rw [Lib.size_eq, hX, Lib.size_eq O]; simp; omega
  rw [← Lib.size_eq] at hlen
  have hmin : min 2 X.size = 2 := by omega
  have hpre : X.extract 0 O.size = O := ext_pre hX
  have hop : isOp O = true := hcon
  unfold opM
  rw [hmin]
  rcases hlen with hl | hl
  · have hno : isOp (X.extract 0 2) = false := by
      unfold isOp
      rw [ext_list, hX, List.drop_zero, show (O.data.toList ++ q :: r).take (2 - 0) = O.data.toList ++ [q] by
        rw [List.take_append, ← Lib.size_eq, hl, List.take_of_length_le (by rw [← Lib.size_eq]; omega)]; rfl]
      exact ops_long _ hO (by rw [← Lib.size_eq]; exact hl) q h1 h2
    rw [op_no rfl hno]
    rw [hl] at hpre
    exact op_yes hpre hop
  · rw [hl] at hpre
    exact op_yes hpre hop
theorem quo_head (s : ByteArray) (hs : s.size = 0 ∨ bt s 0 ≠ 37) : ∃ q r, (quoT s).data.toList = q :: r ∧ q ≠ 37 ∧ q ≠ 35 := by
  unfold quoT
  split
  · rename_i h
    have hsz := (safe_char h).1
    cases hl : s.data.toList with
    | nil => rw [Lib.size_eq, hl] at hsz; exact absurd rfl hsz
    | cons q r =>
      have hb : bt s 0 = (q.toNat : Int) := (bt_get (by rw [hl]; rfl)).1
      refine ⟨q, r, rfl, fun e => ?_, fun e => ?_⟩
      · rcases hs with h' | h'
        · exact hsz h'
        · rw [hb, e] at h'; exact h' rfl
      · unfold isSafe at h
        rw [Bool.and_eq_true] at h
        have hk := of_decide_eq_true h.2 0 (by omega)
        unfold safeOk at hk
        rw [hb, e] at hk
        exact absurd hk (by decide)
  · exact ⟨39, _, quoted_list s, by decide, by decide⟩
theorem quo_in {t : ByteArray} {pre : List UInt8} {s : ByteArray} {R : R3} (ht : t.data.toList = pre ++ (quoT s).data.toList ++ [125]) (hR : Rea (pIn t 23 false) t 0 125 R (pre.length + (quoT s).data.toList.length)) : Rea (pIn t 23 false) t 0 125 R pre.length := by
  cases hq : isSafe s
  · have e : quoT s = quoted s := by unfold quoT; rw [hq]; rfl
    rw [e, quoted_list] at ht hR
    refine rea_quoted _ s.data.toList pre [125] (Nat.le_refl _) (by rw [ht]; simp) ?_
    rw [show pre.length + (qm s.data.toList).length + 2 = pre.length + (([] : List UInt8) ++ 39 :: (qm s.data.toList ++ [39])).length by simp; omega]
    exact hR
  · have e : quoT s = s := by unfold quoT; rw [hq]; rfl
    rw [e] at ht hR
    refine rea_plain s.data.toList pre [125] ht (fun c hc => ?_) hR
    obtain ⟨k, hk, e2⟩ := mem_bt hc
    rw [← e2]
    obtain ⟨c1, c2, c3, c4, c5, c6⟩ := (safe_char hq).2 k hk
    refine ⟨c1, c2, c3, c4, c5, fun e3 => ?_⟩
    unfold isSafe at hq
    rw [Bool.and_eq_true] at hq
    have hk2 := of_decide_eq_true hq.2 k hk
    unfold safeOk at hk2
    rw [e3] at hk2
    exact absurd hk2 (by decide)
theorem par_b {nm O s : ByteArray} (hn : isName nm = true) (hO : O.data.toList ∈ opsL) (hs : s.size = 0 ∨ bt s 0 ≠ 37) :
    ∃ q, topM (⟨#[36, 123]⟩ ++ nm ++ O ++ quoT s ++ ⟨#[125]⟩) 0 = .ok [.mk 2 nm O [litT s.data.toList q] false] := by
  obtain ⟨h0, hall, hf⟩ := name_chars hn
  obtain ⟨q0, qr, hq, hq1, hq2⟩ := quo_head s hs
  obtain ⟨oc, orr, ho, hoc⟩ := ops_first _ hO
  obtain ⟨hoin, hlen, _⟩ := ops_in _ hO
  obtain ⟨q, hrec⟩ := over_quo (partsM 22) 23 s
  have hT : ((⟨#[36, 123]⟩ : ByteArray) ++ nm ++ O ++ quoT s ++ ⟨#[125]⟩).data.toList = [36, 123] ++ (nm ++ (O ++ quoT s)).data.toList ++ [125] := by
    rw [data_app, data_app, data_app, data_app, data_app, data_app]; simp
  generalize hTt : ((⟨#[36, 123]⟩ : ByteArray) ++ nm ++ O ++ quoT s ++ ⟨#[125]⟩) = t at hT ⊢
  have hB : (nm ++ (O ++ quoT s)).data.toList = nm.data.toList ++ (O ++ quoT s).data.toList := data_app _ _
  have hOQ : (O ++ quoT s).data.toList = O.data.toList ++ (quoT s).data.toList := data_app _ _
  have hR : Rea (pIn t 23 false) t 0 125 ⟨t.size, 0, 0⟩ 2 := by
    have e3 : t.data.toList = ([36, 123] ++ nm.data.toList ++ O.data.toList) ++ (quoT s).data.toList ++ [125] := by rw [hT, hB, hOQ]; simp
    have e2 : t.data.toList = ([36, 123] ++ nm.data.toList) ++ O.data.toList ++ ((quoT s).data.toList ++ [125]) := by rw [e3]; simp
    have e1 : t.data.toList = [36, 123] ++ nm.data.toList ++ (O.data.toList ++ ((quoT s).data.toList ++ [125])) := by rw [e3]; simp
    have r4 := rea_end (k := 23) (b := 0) e3
    rw [List.length_append] at r4
    have r3 := quo_in e3 r4
    rw [List.length_append] at r3
    have r2 := rea_plain O.data.toList _ _ e2 hoin r3
    rw [List.length_append] at r2
    exact rea_plain nm.data.toList [36, 123] _ e1 (name_in hn) r2
  refine ⟨q, brace_parts (p := .mk 2 nm O [litT s.data.toList q] false) hT hR ?_⟩
  have hzB : (nm ++ (O ++ quoT s)).size = nm.size + (O.size + (quoT s).size) := by rw [ByteArray.size_append, ByteArray.size_append]
  have hOz : O.size = 1 ∨ O.size = 2 := by rw [Lib.size_eq]; exact hlen
  have hbn : ∀ k, k < nm.size → bt (nm ++ (O ++ quoT s)) k = bt nm k := fun k hk => bt_left hk
  have hxn : (nm ++ (O ++ quoT s)).extract 0 nm.size = nm := ext_pre hB
  have hend : nmC (bt (nm ++ (O ++ quoT s)) nm.size) = false := by
    rw [bt_right (Nat.le_refl _), Nat.sub_self, (bt_get (c := oc) (by rw [hOQ, ho]; rfl)).1]
    exact hoc
  have hsz := nsz_name hxn hbn (by omega) hn (.inr hend)
  have hf' : (letB (bt (nm ++ (O ++ quoT s)) 0) || bt (nm ++ (O ++ quoT s)) 0 == 95) = true := by rw [hbn 0 (by omega)]; exact hf
  have hps := psz_name hsz h0 hf'
  have hxo : (nm ++ (O ++ quoT s)).extract nm.size (nm ++ (O ++ quoT s)).size = O ++ quoT s := ext_post hB
  have hop : opM (O ++ quoT s) = O := opM_is (by rw [hOQ, hq]) hO hq1 hq2
  have hxq : (nm ++ (O ++ quoT s)).extract (nm.size + O.size) (nm ++ (O ++ quoT s)).size = quoT s := by
    have : (nm ++ (O ++ quoT s)).data.toList = (nm ++ O).data.toList ++ (quoT s).data.toList := by rw [hB, hOQ, data_app]; simp
    have h := ext_post this
    rw [ByteArray.size_append] at h
    exact h
  have hk : paramKind O 0 = 0 := by unfold paramKind; split <;> rfl
  unfold paramM
  rw [if_neg (fun h => (first_no hf').2.2 h.2.1), hps, if_neg h0, if_neg (by omega), hxo, hop, if_neg (by omega), hxq, hk, hxn, show partsM 23 (quoT s) 0 = overM (partsM 22) 23 (quoT s) 0 from rfl, hrec]
end Go.Proofs.YtgpkhpheomaiaaaDoor
