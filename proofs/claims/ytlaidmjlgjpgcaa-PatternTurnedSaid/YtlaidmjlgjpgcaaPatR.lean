/- The reference's is, Of, Plain, Same (at equal patterns), Wild. Condition: lengths. -/
import Derived.Test.YtlaidmjlgjpgcaaPatP
namespace Go.Proofs.Ytlaidmjlgjpgcaa
open Go.RowKit
attribute [local go_sem] Oper.semAt_some

set_option maxHeartbeats 1000000 in
theorem is_any (av : Option Addr) (n cv : Nat) (p : List Ch) (i : Nat) (b : UInt8) (w : World) (n₀ : Nat) (hn : p.length = n) (hP : ChsAt n₀ w av p) (_ : n ≤ 1000000) (_ : i ≤ 10000000) :
    Calls Try.prog 34 #[.slice av n cv, .int .i64 (i : Int), .int .u8 (b.toNat : Int)] w fun e w' => e = .returned (.bool (isAt p i b)) ∧ w = w' := by
  by_cases hlt : i < n
  · have hlt' : (i : Int) < (n : Int) := by omega
    obtain ⟨x, hx⟩ : ∃ x, p[i]? = some x := ⟨_, List.getElem?_eq_getElem (by rw [hn]; exact hlt)⟩
    obtain ⟨g, off, rfl, hg, c0, c1⟩ := hP i x hx
    have hr : Hid (isAt p i b = bareB x b) := Lib.hid (isAt_some hx)
    obtain ⟨c, q⟩ := x
    clear hx hP hn
    by_cases he : c = b
    · have e1 : ((c.toNat : Int) == (b.toNat : Int)) = true := by rw [he]; simp
      have e2 : Hid (isAt p i b = !q) := Lib.hid (by rw [hr.out]; unfold bareB; rw [he]; simp)
      clear he hr
      dsimp only at c0 c1
      go_enter Try.func34, Try.ntmps34
      go_wp2_with fail
      go_ret
      exact ⟨ret_bool (by rw [e2.out]), rfl⟩
    · have e1 : ((c.toNat : Int) == (b.toNat : Int)) = false := by rw [u8_eq]; exact decide_eq_false he
      have e2 : Hid (isAt p i b = false) := Lib.hid (by rw [hr.out]; unfold bareB; rw [beq_eq_false_iff_ne.2 he]; rfl)
      clear he hr
      dsimp only at c0 c1
      go_enter Try.func34, Try.ntmps34
      go_wp2_with fail
      go_ret
      exact ⟨ret_bool (by rw [e2.out]), rfl⟩
  · have hlt' : ¬ (i : Int) < (n : Int) := by omega
    have e2 : Hid (isAt p i b = false) := Lib.hid (isAt_none (by omega))
    clear hn hP
    go_enter Try.func34, Try.ntmps34
    go_wp2_with fail
    go_ret
    exact ⟨ret_bool (by rw [e2.out]), rfl⟩

/-- A pattern that lies, at a world of which no more is asked. -/
structure Lies (av : Option Addr) (n : Nat) (p : List Ch) (w : World) : Prop where
  len : p.length = n
  at_ : ∃ n₀, ChsAt n₀ w av p
  small : n ≤ 1000000
theorem Lies.keep {av : Option Addr} {n : Nat} {p : List Ch} {w w' : World} (h : Lies av n p w) (hc : ∀ a, w'.cell? a = w.cell? a) : Lies av n p w' := by
  obtain ⟨h1, ⟨n₀, h2⟩, h3⟩ := h
  refine ⟨h1, ⟨n₀, fun i x hx => ?_⟩, h3⟩
  obtain ⟨b, off, e, hlt, c0, c1⟩ := h2 i x hx
  exact ⟨b, off, e, hlt, (hc _).trans c0, (hc _).trans c1⟩
theorem is_at {av : Option Addr} {n : Nat} {p : List Ch} {w : World} (cv i : Nat) (b : UInt8) (h : Lies av n p w) (hi : i ≤ 10000000) :
    Calls Try.prog 34 #[.slice av n cv, .int .i64 (i : Int), .int .u8 (b.toNat : Int)] w fun e w' => e = .returned (.bool (isAt p i b)) ∧ w = w' := by
  obtain ⟨h1, ⟨n₀, h2⟩, h3⟩ := h
  exact is_any av n cv p i b w n₀ h1 h2 h3 hi
theorem is33 {av : Option Addr} {n : Nat} {p : List Ch} {w : World} (cv i : Nat) (h : Lies av n p w) (hi : i ≤ 10000000) : Calls Try.prog 34 #[.slice av n cv, .int .i64 (i : Int), .int .u8 33] w fun e w' => e = .returned (.bool (isAt p i 33)) ∧ w = w' := is_at cv i 33 h hi
theorem is42 {av : Option Addr} {n : Nat} {p : List Ch} {w : World} (cv i : Nat) (h : Lies av n p w) (hi : i ≤ 10000000) : Calls Try.prog 34 #[.slice av n cv, .int .i64 (i : Int), .int .u8 42] w fun e w' => e = .returned (.bool (isAt p i 42)) ∧ w = w' := is_at cv i 42 h hi
theorem is45 {av : Option Addr} {n : Nat} {p : List Ch} {w : World} (cv i : Nat) (h : Lies av n p w) (hi : i ≤ 10000000) : Calls Try.prog 34 #[.slice av n cv, .int .i64 (i : Int), .int .u8 45] w fun e w' => e = .returned (.bool (isAt p i 45)) ∧ w = w' := is_at cv i 45 h hi
theorem is63 {av : Option Addr} {n : Nat} {p : List Ch} {w : World} (cv i : Nat) (h : Lies av n p w) (hi : i ≤ 10000000) : Calls Try.prog 34 #[.slice av n cv, .int .i64 (i : Int), .int .u8 63] w fun e w' => e = .returned (.bool (isAt p i 63)) ∧ w = w' := is_at cv i 63 h hi
theorem is91 {av : Option Addr} {n : Nat} {p : List Ch} {w : World} (cv i : Nat) (h : Lies av n p w) (hi : i ≤ 10000000) : Calls Try.prog 34 #[.slice av n cv, .int .i64 (i : Int), .int .u8 91] w fun e w' => e = .returned (.bool (isAt p i 91)) ∧ w = w' := is_at cv i 91 h hi
theorem is93 {av : Option Addr} {n : Nat} {p : List Ch} {w : World} (cv i : Nat) (h : Lies av n p w) (hi : i ≤ 10000000) : Calls Try.prog 34 #[.slice av n cv, .int .i64 (i : Int), .int .u8 93] w fun e w' => e = .returned (.bool (isAt p i 93)) ∧ w = w' := is_at cv i 93 h hi

set_option maxHeartbeats 1000000 in
theorem refWild_any (av : Option Addr) (n cv : Nat) (p : List Ch) (w : World) (h : Lies av n p w) :
    Calls Try.prog 18 #[.slice av n cv] w fun e w' => e = .returned (.bool (wildB p)) ∧ w = w' := by
  have hH := Lib.hid h
  have hn2 := h.small
  clear h
  go_enter Try.func18, Try.ntmps18
  go_wp2_with fail
  go_loop [3] (fun s3 => ∃ k : Nat, k ≤ n ∧ s3 = .int .i64 k ∧ Hid (((p.take k).any fun x => bareB x 42 || bareB x 63 || bareB x 91) = false)) (fun s3 => n - (intOf s3).toNat)
  case atStart => exact ⟨0, Nat.zero_le _, rfl, Lib.hid (by simp)⟩
  case round =>
    obtain ⟨k, hk, rfl, hno⟩ := hrel
    by_cases hlt : k < n
    · have hlt' : (k : Int) < (n : Int) := by omega
      obtain ⟨x, hx⟩ : ∃ x, p[k]? = some x := ⟨_, List.getElem?_eq_getElem (by rw [hH.out.len]; exact hlt)⟩
      obtain ⟨v42, hv42⟩ : ∃ v, isAt p k 42 = v := ⟨_, rfl⟩
      obtain ⟨v63, hv63⟩ : ∃ v, isAt p k 63 = v := ⟨_, rfl⟩
      obtain ⟨v91, hv91⟩ : ∃ v, isAt p k 91 = v := ⟨_, rfl⟩
      have h42 := Lib.hid (is42 cv k hH.out (by omega))
      have h63 := Lib.hid (is63 cv k hH.out (by omega))
      have h91 := Lib.hid (is91 cv k hH.out (by omega))
      rw [hv42] at h42
      rw [hv63] at h63
      rw [hv91] at h91
      have hv : Hid ((bareB x 42 || bareB x 63 || bareB x 91) = (v42 || v63 || v91)) := Lib.hid (by rw [← hv42, ← hv63, ← hv91, isAt_some hx, isAt_some hx, isAt_some hx])
      have htk : Hid (p.take (k + 1) = p.take k ++ [x]) := Lib.hid (by rw [List.take_add_one, hx]; rfl)
      have htr : Hid ((v42 || v63 || v91) = true → wildB p = true) := Lib.hid (fun h => List.any_eq_true.2 ⟨x, List.mem_of_getElem? hx, by rw [hv.out, h]⟩)
      clear hx hv42 hv63 hv91
      cases v42
      · cases v63
        · cases v91
          · go_wp2_with (first | (go_at_call 34; (with_reducible refine h42.out.mono ?_); rintro e w7 ⟨rfl, rfl⟩) | (go_at_call 34; (with_reducible refine h63.out.mono ?_); rintro e w7 ⟨rfl, rfl⟩) | (go_at_call 34; (with_reducible refine h91.out.mono ?_); rintro e w7 ⟨rfl, rfl⟩))
            go_round
            case rel => exact ⟨k + 1, by omega, by go_num, Lib.hid (by rw [htk.out, List.any_append, hno.out]; simp [hv.out])⟩
            case measure => simp [intOf]; omega
          · go_wp2_with (first | (go_at_call 34; (with_reducible refine h42.out.mono ?_); rintro e w7 ⟨rfl, rfl⟩) | (go_at_call 34; (with_reducible refine h63.out.mono ?_); rintro e w7 ⟨rfl, rfl⟩) | (go_at_call 34; (with_reducible refine h91.out.mono ?_); rintro e w7 ⟨rfl, rfl⟩))
            go_ret
            exact ⟨ret_bool (by rw [htr.out rfl]), rfl⟩
        · go_wp2_with (first | (go_at_call 34; (with_reducible refine h42.out.mono ?_); rintro e w7 ⟨rfl, rfl⟩) | (go_at_call 34; (with_reducible refine h63.out.mono ?_); rintro e w7 ⟨rfl, rfl⟩))
          go_ret
          exact ⟨ret_bool (by rw [htr.out rfl]), rfl⟩
      · go_wp2_with (go_at_call 34; (with_reducible refine h42.out.mono ?_); rintro e w7 ⟨rfl, rfl⟩)
        go_ret
        exact ⟨ret_bool (by rw [htr.out rfl]), rfl⟩
    · have hlt' : ¬ (k : Int) < (n : Int) := by omega
      have hwf : Hid (wildB p = false) := Lib.hid (by have := hno.out; rw [show k = n by omega, List.take_of_length_le (by rw [hH.out.len]; exact Nat.le_refl _)] at this; exact this)
      go_wp2_with fail
      go_ret
      exact ⟨ret_bool (by rw [hwf.out]), rfl⟩

set_option maxHeartbeats 1000000 in
set_option maxRecDepth 100000 in
theorem samePat_yes (a b : Option Addr) (c d n : Nat) (p : List Ch) (w : World) (ha : Lies a n p w) (hb : Lies b n p w) :
    Calls Try.prog 19 #[.slice a n c, .slice b n d] w fun e w' => e = .returned (.bool true) ∧ ∃ m, w' = w.drewN m := by
  have haH := Lib.hid ha
  have hbH := Lib.hid hb
  have hn2 := ha.small
  clear ha hb
  go_enter Try.func19, Try.ntmps19
  go_wp2_with fail
  go_loopw [5] (fun s5 wr => ∃ i : Nat, i ≤ n ∧ s5 = .int .i64 i ∧ ∃ m, wr = w.drewN m) (fun s5 _ => n - (intOf s5).toNat)
  case atStart => exact ⟨0, Nat.zero_le _, rfl, 0, rfl⟩
  case round =>
    obtain ⟨i, hi, rfl, m, rfl⟩ := hrel
    by_cases hil : i < n
    · have hil' : (i : Int) < (n : Int) := by omega
      obtain ⟨x, hx⟩ : ∃ x, p[i]? = some x := ⟨_, List.getElem?_eq_getElem (by rw [haH.out.len]; exact hil)⟩
      obtain ⟨_, hA⟩ := haH.out.at_
      obtain ⟨_, hB⟩ := hbH.out.at_
      obtain ⟨g, off, rfl, _, x1, x2⟩ := hA i x hx
      obtain ⟨g', off', rfl, _, y1, y2⟩ := hB i x hx
      have x1' : (w.drewN m).cell? ⟨g, off + i * 2, none⟩ = _ := x1
      have x2' : (w.drewN m).cell? ⟨g, off + i * 2 + 1, none⟩ = _ := x2
      have y1' : (w.drewN m).cell? ⟨g', off' + i * 2, none⟩ = _ := y1
      have y2' : (w.drewN m).cell? ⟨g', off' + i * 2 + 1, none⟩ = _ := y2
      obtain ⟨wq2, hwq⟩ : ∃ wq2, w.drewN m = wq2 := ⟨_, rfl⟩
      have hwqH := Lib.hid hwq
      rw [hwq] at x1' x2' y1' y2' ⊢
      clear hwq x1 x2 y1 y2 hx hA hB
      go_upto_region 6 with fail
      go_quiet (fail)
      go_wp2_with fail
      go_roundw
      case rel => exact ⟨i + 1, by omega, by go_num, by rw [← hwqH.out]; exact ⟨_, drew_add _ _ _⟩⟩
      case measure => simp [intOf]; omega
    · have hil' : ¬ (i : Int) < (n : Int) := by omega
      go_wp2_with fail
      go_ret
      exact ⟨rfl, _, rfl⟩

set_option maxHeartbeats 1000000 in
theorem refPlain_any (s : ByteArray) (w : World) (hs : s.size ≤ 1000000) : Calls Try.prog 25 #[.string s] w (OfR (s.data.toList.map fun c => (c, true)) w) := by
  obtain ⟨i33, hi33, hz330, hz331, hz332⟩ := info_parts info33
  obtain ⟨n₀, hn₀⟩ : ∃ n₀, w.heap.size = n₀ := ⟨_, rfl⟩
  have hn₀H := Lib.hid hn₀
  have hn₀w : n₀ ≤ w.heap.size := by omega
  clear hn₀
  go_enter Try.func25, Try.ntmps25
  go_wp2_with fail
  go_loopw [4, 3] (fun s4 s3 wr => ∃ (i : Nat) (l0 : List Ch), i ≤ s.size ∧ l0.length = i ∧ s4 = .int .i64 i ∧ Hid (l0 = (s.data.toList.take i).map (fun c => (c, true)) ∧ wr.ownsRow n₀ 33 2 s3 l0.length (chv l0) ∧ Below n₀ w wr)) (fun s4 _ _ => s.size - (intOf s4).toNat)
  case atStart => exact ⟨0, [], Nat.zero_le _, rfl, rfl, Lib.hid ⟨by simp, World.ownsRow_nil _ _ _ _, Below.refl _ _⟩⟩
  case round =>
    obtain ⟨i, l0, hi, hl0, rfl, hRel⟩ := hrel
    obtain ⟨a3, c3, rfl⟩ := ownsRow_slice hRel.out.2.1
    have hsz := hRel.out.2.2.size
    have hl0' : l0.length ≤ 1000000 := by omega
    have hl0H := Lib.hid hl0
    clear hl0
    by_cases hlt : i < s.size
    · have hlt' : (i : Int) < (s.size : Int) := by omega
      obtain ⟨c, hc⟩ : ∃ c, s[i] = c := ⟨_, rfl⟩
      have hcH : Hid (s.data.toList[i]? = some c) := Lib.hid (by rw [← hc]; exact List.getElem?_eq_getElem hlt)
      go_wp2_with (at_builtin; refine wpList_append_own _ rfl (.tmp 11) (.tmp 16) 22 rfl n₀ 33 i33 _ 2 2 Try.underlying22 hi33 hz330 hz331 hz332 rfl (by decide) (.slice a3 l0.length c3) l0.length (chv l0) rfl (hRel.out.2.1.alloc _) ⟨wr.heap.size, 0, none⟩ 1 1 [_, .bool true] rfl rfl (World.news_of_block (cs := #[_, .bool true]) (t := 33) (fr := (0, 0)) (heap_alloc_new wr _)) (by simp [Value.oneCell']) (by unfold maxLen; omega) (by omega) (by simp; omega) ?_; intro v' w3 own3 hgrow _)
      have ho3 : Hid (w3.ownsRow n₀ 33 2 v' (l0 ++ [(c, true)]).length (chv (l0 ++ [(c, true)]))) := Lib.hid (by rw [List.length_append, chv_snoc]; exact own3)
      have hb3 : Hid (Below n₀ w w3) := Lib.hid ((hRel.out.2.2.alloc (by omega) _).grown hgrow (by simp; omega) (fun q e => (hRel.out.2.1.lt q e).1))
      clear own3 hgrow
      go_wp2_with fail
      go_roundw
      case rel => exact ⟨i + 1, l0 ++ [(c, true)], by omega, by rw [List.length_append, List.length_singleton, hl0H.out], by go_num, Lib.hid ⟨by rw [hRel.out.1, List.take_add_one, hcH.out]; simp, ho3.out, hb3.out⟩⟩
      case measure => simp [intOf]; omega
    · have hlt' : ¬ (i : Int) < (s.size : Int) := by omega
      have hnil : Hid (s.data.toList.map (fun c => (c, true)) = l0) := Lib.hid (by rw [hRel.out.1, show i = s.size by omega, List.take_of_length_le (show s.data.toList.length ≤ s.size from Nat.le_refl _)])
      go_wp2_with fail
      go_ret
      refine ⟨by rw [hn₀H.out]; exact hRel.out.2.2, _, rfl, ?_⟩
      rw [hn₀H.out, hnil.out]
      exact hRel.out.2.1

set_option maxHeartbeats 1000000 in
set_option maxRecDepth 100000 in
theorem refOf_any (s : ByteArray) (w : World) (hs : s.size ≤ 1000000) : Calls Try.prog 24 #[.string s] w (OfR (ofL s.data.toList) w) := by
  obtain ⟨i33, hi33, hz330, hz331, hz332⟩ := info_parts info33
  obtain ⟨n₀, hn₀⟩ : ∃ n₀, w.heap.size = n₀ := ⟨_, rfl⟩
  have hn₀H := Lib.hid hn₀
  have hn₀w : n₀ ≤ w.heap.size := by omega
  have hsl : Hid (s.data.toList.length = s.size) := Lib.hid rfl
  clear hn₀
  go_enter Try.func24, Try.ntmps24
  go_wp2_with fail
  go_loopw [4, 3] (fun s4 s3 wr => ∃ (i : Nat) (l0 : List Ch), i ≤ s.size ∧ s4 = .int .i64 i ∧ Hid (ofL s.data.toList = l0 ++ ofL (s.data.toList.drop i) ∧ l0.length ≤ i ∧ wr.ownsRow n₀ 33 2 s3 l0.length (chv l0) ∧ Below n₀ w wr)) (fun s4 _ _ => s.size - (intOf s4).toNat)
  case atStart => exact ⟨0, [], Nat.zero_le _, rfl, Lib.hid ⟨rfl, Nat.le_refl _, World.ownsRow_nil _ _ _ _, Below.refl _ _⟩⟩
  case round =>
    obtain ⟨i, l0, hi, rfl, hRel⟩ := hrel
    obtain ⟨a3, c3, rfl⟩ := ownsRow_slice hRel.out.2.2.1
    have hsz := hRel.out.2.2.2.size
    have hl0 : l0.length ≤ 1000000 := by have := hRel.out.2.1; omega
    by_cases hlt : i < s.size
    · have hlt' : (i : Int) < (s.size : Int) := by omega
      obtain ⟨c, hc⟩ : ∃ c, s[i] = c := ⟨_, rfl⟩
      have hcH : Hid (s.data.toList[i]? = some c) := Lib.hid (by rw [← hc]; exact List.getElem?_eq_getElem hlt)
      have hstepH : Hid (∀ (x : Ch) (k : Nat), ofL (s.data.toList.drop i) = x :: ofL (s.data.toList.drop k) → ofL s.data.toList = (l0 ++ [x]) ++ ofL (s.data.toList.drop k)) := Lib.hid (fun x k h => by rw [hRel.out.1, h]; simp)
      by_cases h92 : c = 92
      · have e92 : (c.toNat : Int) = 92 := by rw [h92]; rfl
        by_cases hn1 : i + 1 < s.size
        · have hn1' : (i : Int) + 1 < (s.size : Int) := by omega
          obtain ⟨d, hd⟩ : ∃ d, s[i + 1] = d := ⟨_, rfl⟩
          have hdr : Hid (ofL (s.data.toList.drop i) = (d, true) :: ofL (s.data.toList.drop (i + 2))) := Lib.hid (by
            rw [drop_cons hcH.out, drop_cons (show s.data.toList[i + 1]? = some d by rw [← hd]; exact List.getElem?_eq_getElem hn1), h92, ofL_take])
          clear h92
          go_wp2_with (at_builtin; refine wpList_append_own _ rfl (.tmp 22) (.tmp 27) 22 rfl n₀ 33 i33 _ 2 2 Try.underlying22 hi33 hz330 hz331 hz332 rfl (by decide) (.slice a3 l0.length c3) l0.length (chv l0) rfl (hRel.out.2.2.1.alloc _) ⟨wr.heap.size, 0, none⟩ 1 1 [_, .bool true] rfl rfl (World.news_of_block (cs := #[_, .bool true]) (t := 33) (fr := (0, 0)) (heap_alloc_new wr _)) (by simp [Value.oneCell']) (by unfold maxLen; omega) (by omega) (by simp; omega) ?_; intro v' w3 own3 hgrow _)
          have ho3 : Hid (w3.ownsRow n₀ 33 2 v' (l0 ++ [(d, true)]).length (chv (l0 ++ [(d, true)]))) := Lib.hid (by rw [List.length_append, chv_snoc]; exact own3)
          have hb3 : Hid (Below n₀ w w3) := Lib.hid ((hRel.out.2.2.2.alloc (by omega) _).grown hgrow (by simp; omega) (fun q e => (hRel.out.2.2.1.lt q e).1))
          clear own3 hgrow
          go_wp2_with fail
          go_roundw
          case rel => exact ⟨i + 2, l0 ++ [(d, true)], by omega, by go_num, Lib.hid ⟨hstepH.out _ _ hdr.out, by rw [List.length_append, List.length_singleton]; have := hRel.out.2.1; omega, ho3.out, hb3.out⟩⟩
          case measure => simp [intOf]; omega
        · have hn1' : ¬ (i : Int) + 1 < (s.size : Int) := by omega
          have hdr : Hid (ofL (s.data.toList.drop i) = (92, true) :: ofL (s.data.toList.drop (i + 1))) := Lib.hid (by
            rw [drop_cons hcH.out, List.drop_eq_nil_of_le (i := i + 1) (by rw [hsl.out]; omega), ofL_last, h92]; rfl)
          clear h92
          go_wp2_with (at_builtin; refine wpList_append_own _ rfl (.tmp 22) (.tmp 27) 22 rfl n₀ 33 i33 _ 2 2 Try.underlying22 hi33 hz330 hz331 hz332 rfl (by decide) (.slice a3 l0.length c3) l0.length (chv l0) rfl (hRel.out.2.2.1.alloc _) ⟨wr.heap.size, 0, none⟩ 1 1 [_, .bool true] rfl rfl (World.news_of_block (cs := #[_, .bool true]) (t := 33) (fr := (0, 0)) (heap_alloc_new wr _)) (by simp [Value.oneCell']) (by unfold maxLen; omega) (by omega) (by simp; omega) ?_; intro v' w3 own3 hgrow _)
          have ho3 : Hid (w3.ownsRow n₀ 33 2 v' (l0 ++ [(92, true)]).length (chv (l0 ++ [(92, true)]))) := Lib.hid (by rw [List.length_append, chv_snoc]; exact own3)
          have hb3 : Hid (Below n₀ w w3) := Lib.hid ((hRel.out.2.2.2.alloc (by omega) _).grown hgrow (by simp; omega) (fun q e => (hRel.out.2.2.1.lt q e).1))
          clear own3 hgrow
          go_wp2_with fail
          go_roundw
          case rel => exact ⟨i + 1, l0 ++ [(92, true)], by omega, by go_num, Lib.hid ⟨hstepH.out _ _ hdr.out, by rw [List.length_append, List.length_singleton]; have := hRel.out.2.1; omega, ho3.out, hb3.out⟩⟩
          case measure => simp [intOf]; omega
      · have e92 : ¬ (c.toNat : Int) = 92 := fun e => h92 (UInt8.toNat_inj.1 (by show c.toNat = 92; omega))
        have hdr : Hid (ofL (s.data.toList.drop i) = (c, false) :: ofL (s.data.toList.drop (i + 1))) := Lib.hid (by rw [drop_cons hcH.out, ofL_plain h92])
        clear h92
        go_wp2_with (at_builtin; refine wpList_append_own _ rfl (.tmp 29) (.tmp 34) 22 rfl n₀ 33 i33 _ 2 2 Try.underlying22 hi33 hz330 hz331 hz332 rfl (by decide) (.slice a3 l0.length c3) l0.length (chv l0) rfl (hRel.out.2.2.1.alloc _) ⟨wr.heap.size, 0, none⟩ 1 1 [_, .bool _] rfl rfl (World.news_of_block (cs := #[_, .bool _]) (t := 33) (fr := (0, 0)) (heap_alloc_new wr _)) (by simp [Value.oneCell']) (by unfold maxLen; omega) (by omega) (by simp; omega) ?_; intro v' w3 own3 hgrow _)
        have ho3 : Hid (w3.ownsRow n₀ 33 2 v' (l0 ++ [(c, false)]).length (chv (l0 ++ [(c, false)]))) := Lib.hid (by rw [List.length_append, chv_snoc]; exact own3)
        have hb3 : Hid (Below n₀ w w3) := Lib.hid ((hRel.out.2.2.2.alloc (by omega) _).grown hgrow (by simp; omega) (fun q e => (hRel.out.2.2.1.lt q e).1))
        clear own3 hgrow
        go_wp2_with fail
        go_roundw
        case rel => exact ⟨i + 1, l0 ++ [(c, false)], by omega, by go_num, Lib.hid ⟨hstepH.out _ _ hdr.out, by rw [List.length_append, List.length_singleton]; have := hRel.out.2.1; omega, ho3.out, hb3.out⟩⟩
        case measure => simp [intOf]; omega
    · have hlt' : ¬ (i : Int) < (s.size : Int) := by omega
      have hnil : Hid (ofL s.data.toList = l0) := Lib.hid (by rw [hRel.out.1, List.drop_eq_nil_of_le (by rw [hsl.out]; omega)]; exact List.append_nil _)
      go_wp2_with fail
      go_ret
      refine ⟨by rw [hn₀H.out]; exact hRel.out.2.2.2, _, rfl, ?_⟩
      rw [hn₀H.out, hnil.out]
      exact hRel.out.2.2.1
end Go.Proofs.Ytlaidmjlgjpgcaa
