/- Two lists of texts that grow side by side; SplitBlanks' walk. Condition: lengths. -/
import Derived.Test.YtlaidmjlgjpgcaaSplU
import Derived.Deep.DeepCutAuto
import Derived.Deep.CutBlock
import Derived.Deep.RegionHeld3
import Derived.Laws.IdiomStrings
import Derived.Test.YtlaidmjlgjpgcaaSplK
namespace Go.Proofs.Ytlaidmjlgjpgcaa
open Go.RowKit
attribute [local go_sem] Oper.semAt_some

def svs (ws : List (List UInt8)) : List Value := ws.map fun x => .string ⟨x.toArray⟩
theorem svs_snoc (ws : List (List UInt8)) (x : ByteArray) : svs (ws ++ [x.data.toList]) = svs ws ++ [.string x] := by unfold svs; simp
theorem svs_len (ws : List (List UInt8)) : (svs ws).length = ws.length := by unfold svs; simp

/-- What a list of texts holds. -/
def RowTx (W : World) (a : Option Addr) (L : List (List UInt8)) : Prop := ∀ i x, L[i]? = some x → ∃ g, a = some ⟨g, 0, none⟩ ∧ g < W.heap.size ∧ W.cell? ⟨g, i, none⟩ = some (.string ⟨x.toArray⟩)
theorem row_tx {n₀ : Nat} {W : World} {a : Option Addr} {c : Nat} {L : List (List UInt8)} (h : W.ownsRow n₀ 9 1 (.slice a L.length c) L.length (svs L)) : RowTx W a L := by
  intro i x hx
  have hil := (List.getElem?_eq_some_iff.1 hx).1
  have hc := @World.ownsRow.cells _ _ _ _ _ _ _ h
  rcases h.2 with ⟨_, h0⟩ | ⟨g, cap, cur, hv, _, hb, _⟩
  · omega
  · obtain ⟨rfl, -⟩ : a = some ⟨g, 0, none⟩ ∧ True := ⟨by injection hv, trivial⟩
    refine ⟨g, rfl, (Array.getElem?_eq_some_iff.1 hb).1, ?_⟩
    have := hc (g := g) rfl i (.string ⟨x.toArray⟩) (by unfold svs; rw [List.getElem?_map, hx]; rfl)
    rw [Lib.add_plain, Nat.zero_add] at this
    exact this

structure Two (n₀ : Nat) (w : World) (vs vh : Value) (ws hs : List (List UInt8)) : Prop where
  rs : w.ownsRow n₀ 9 1 vs ws.length (svs ws)
  rh : w.ownsRow n₀ 9 1 vh hs.length (svs hs)
  ap : ∀ g, vs.ownBlock = some g → vh.ownBlock ≠ some g
theorem Two.swap {n₀ : Nat} {w : World} {vs vh : Value} {ws hs : List (List UInt8)} (h : Two n₀ w vs vh ws hs) : Two n₀ w vh vs hs ws := ⟨h.rh, h.rs, fun g e e2 => h.ap g e2 e⟩
theorem Two.alloc {n₀ : Nat} {w : World} {vs vh : Value} {ws hs : List (List UInt8)} (h : Two n₀ w vs vh ws hs) (o : Obj) : Two n₀ (w.alloc o) vs vh ws hs := ⟨h.rs.alloc _, h.rh.alloc _, h.ap⟩
theorem Two.push {n₀ : Nat} {W W' : World} {vs vh : Value} {ws hs : List (List UInt8)} (h : Two n₀ W vs vh ws hs) (x : ByteArray) {g cap : Nat} (own' : W'.ownsRow n₀ 9 1 (.slice (some ⟨g, 0, none⟩) (ws.length + 1) cap) (ws.length + 1) (svs ws ++ [.string x]))
    (hgrow : W.grownBy W' vs.ownBlock) (hat : vs.ownBlock = some g ∨ g = W.heap.size) : Two n₀ W' (.slice (some ⟨g, 0, none⟩) (ws.length + 1) cap) vh (ws ++ [x.data.toList]) hs := by
  refine ⟨?_, h.rh.kept hgrow ?_, fun q e e2 => ?_⟩
  · rw [List.length_append, svs_snoc]; exact own'
  · cases hv : vh.ownBlock with
    | none => exact .inl rfl
    | some q => exact .inr (fun e => h.ap q e.symm hv)
  · obtain rfl : g = q := by simpa [Value.ownBlock] using e
    rcases hat with hat | hat
    · exact h.ap g hat e2
    · have := (h.rh.lt g e2).2; omega
theorem info9 : (Try.prog.info? 9).map (fun i => (i.zero, i.size, i.bytes)) = some (some (.string ByteArray.empty), 1, 16) := by kernel_rfl

theorem fold_snoc {α β : Type} (f : α → β → α) (m : α) {l : List β} {i : Nat} {c : β} (h : l[i]? = some c) : (l.take (i + 1)).foldl f m = f ((l.take i).foldl f m) c := by
  rw [snoc_take h, List.foldl_append]; rfl
theorem ext_one {s : ByteArray} {i : Nat} {c : UInt8} (h : s.data.toList[i]? = some c) : (s.extract i (i + 1)).data.toList = [c] := by
  rw [Lib.extract_data]
  obtain ⟨h1, h2⟩ := List.getElem?_eq_some_iff.1 h
  rw [Nat.add_sub_cancel_left, List.drop_eq_getElem_cons h1, h2]; rfl
theorem nil_yes {s : ByteArray} (h : s.toList.isEmpty = true) : s.data.toList = [] := by rw [Lib.toList_data] at h; exact List.isEmpty_iff.1 h
theorem nil_no {s : ByteArray} (h : s.toList.isEmpty = false) : ¬ s.data.toList = [] := fun e => by rw [Lib.toList_data, e] at h; cases h

set_option maxHeartbeats 8000000 in
set_option maxRecDepth 100000 in
theorem splitBlanks_walk (t : ByteArray) (b : UInt8) (w : World) :
    Calls Try.prog 11 #[.string t, .int .u8 (b.toNat : Int)] w fun e w' => e = .returned (.bool true) ∧ Below w.heap.size w w' := by
  obtain ⟨i0, hi, hz0, hz1, hz2⟩ := info_parts info9
  obtain ⟨n₀, hn₀⟩ : ∃ n₀, w.heap.size = n₀ := ⟨_, rfl⟩
  rw [hn₀]
  have hn₀H := Lib.hid hn₀
  go_enter Try.func11, Try.ntmps11
  go_wp2_with fail
  refine (awake_any w).mono ?_
  rintro e w1 ⟨rfl, hB1⟩
  rw [hn₀] at hB1
  have hB1H := Lib.hid hB1
  clear hB1 hn₀
  go_wp2_with fail
  all_goals first | (go_ret; exact ⟨rfl, hB1H.out⟩; done) | skip
  · rename_i g1 g2 g3 g4 _ _
    have h190 : t.size ≤ 190 := by omega
    have hbl : Hid (isBlank b = false ∧ ¬ b.toNat = 32) := Lib.hid (by
      have g5 : ¬ (b.toNat : Int) = 32 := fun e => by have := g4.2; rw [e] at this; cases this
      exact ⟨by unfold isBlank; exact decide_eq_false (by omega), by omega⟩)
    clear g1 g2 g3 g4
    generalize ((b.toNat : Int) == 32) = q32
    go_loopw [9, 5, 6, 7, 8] (fun s9 s5 s6 s7 s8 wr => ∃ (i : Nat) (ws hs : List (List UInt8)) (T R : ByteArray), i ≤ t.size ∧ s9 = .int .i64 i ∧ s7 = .string T ∧ s8 = .string R ∧ (t.data.toList.take i).foldl softStep ([], []) = (ws, T.data.toList) ∧ (t.data.toList.take i).foldl (hardStep b) ([], []) = (hs, R.data.toList) ∧ Two n₀ wr s5 s6 ws hs ∧ Below n₀ w wr) (fun s9 _ _ _ _ _ => t.size - (intOf s9).toNat)
    case atStart => exact ⟨0, [], [], ⟨#[]⟩, ⟨#[]⟩, Nat.zero_le _, rfl, rfl, rfl, rfl, rfl, ⟨World.ownsRow_nil _ _ _ _, World.ownsRow_nil _ _ _ _, fun g e => by simp [Value.ownBlock] at e⟩, hB1H.out⟩
    case round =>
      obtain ⟨i, ws, hs, T, R, hil, rfl, rfl, rfl, hsf, hhf, h2, hbel⟩ := hrel
      obtain ⟨a5, c5, rfl⟩ := ownsRow_slice h2.rs
      obtain ⟨a6, c6, rfl⟩ := ownsRow_slice h2.rh
      have hws : ws.length ≤ 190 ∧ T.data.toList.length ≤ 1000 := by
        have h := step_small soft_form (t.data.toList.take i) ([], [])
        have h1 := (ended_small soft_form (t.data.toList.take i) (by rw [List.length_take, Array.length_toList]; have e : t.size = t.data.size := rfl; omega)).2
        have h3 := (h.2 (fun w hw => by simp at hw) (by rw [List.length_take, Array.length_toList]; have e : t.size = t.data.size := rfl; simp; omega)).2
        rw [hsf] at h1 h3
        exact ⟨h1.1, h3⟩
      have hhs : hs.length ≤ 190 ∧ R.data.toList.length ≤ 1000 := by
        have h := step_small (hard_form b) (t.data.toList.take i) ([], [])
        have h1 := (ended_small (hard_form b) (t.data.toList.take i) (by rw [List.length_take, Array.length_toList]; have e : t.size = t.data.size := rfl; omega)).2
        have h3 := (h.2 (fun w hw => by simp at hw) (by rw [List.length_take, Array.length_toList]; have e : t.size = t.data.size := rfl; simp; omega)).2
        rw [hhf] at h1 h3
        exact ⟨h1.1, h3⟩
      have hTz : T.size ≤ 1000 := by have h := hws.2; rw [show T.data.toList.length = T.size from Array.length_toList] at h; exact h
      have hRz : R.size ≤ 1000 := by have h := hhs.2; rw [show R.data.toList.length = R.size from Array.length_toList] at h; exact h
      have hw5 := hws.1
      have hh5 := hhs.1
      clear hws hhs
      have hwr := hbel.size
      have hwn := hn₀H.out
      have hbelH := Lib.hid hbel
      have h2H := Lib.hid h2
      clear hbel h2
      by_cases hlt : i < t.size
      · obtain ⟨c, hc⟩ : ∃ c, t.data.toList[i]? = some c := ⟨_, List.getElem?_eq_getElem (by rw [Array.length_toList]; exact hlt)⟩
        have hci : t[i] = c := by
          obtain ⟨h1, h2⟩ := List.getElem?_eq_some_iff.1 hc
          rw [← h2]; simp; rfl
        have hsn := Lib.hid (fold_snoc softStep ([], []) hc)
        have hhn := Lib.hid (fold_snoc (hardStep b) ([], []) hc)
        have hex := Lib.hid (ext_one hc)
        have hsfH := Lib.hid hsf
        have hhfH := Lib.hid hhf
        clear hsf hhf
        have hlt' : (i : Int) < (t.size : Int) := by omega
        obtain ⟨E, hE⟩ : ∃ E, t.extract i (i + 1) = E := ⟨_, rfl⟩
        rw [hE] at hex
        have hEz : E.size = 1 := by
          have := congrArg List.length hex.out
          rw [Array.length_toList] at this
          exact this
        have z1 : ¬ 9223372036854775807 < T.size + E.size := by omega
        have z2 : ¬ 9223372036854775807 < R.size + E.size := by omega
        have hcn : c.toNat = t[i].toNat := by rw [hci]
        have hcat : Hid (∀ X : ByteArray, (X ++ E).data.toList = X.data.toList ++ [c]) := Lib.hid (fun X => by rw [ByteArray.data_append, Array.toList_append, hex.out])
        by_cases h32 : (t[i].toNat : Int) = 32
        · have hnb : ¬ (t[i].toNat : Int) = (b.toNat : Int) := fun e => hbl.out.2 (by omega)
          have hc32 : c.toNat = 32 := by omega
          have hcb : ¬ c = b := fun e => hbl.out.2 (by rw [← e]; exact hc32)
          obtain hT | hT : T.toList.isEmpty = true ∨ T.toList.isEmpty = false := by cases T.toList.isEmpty <;> simp
          · go_wp2_with fail
            all_goals
              go_roundw
              case rel =>
                refine ⟨i + 1, ws, hs, ⟨#[]⟩, R ++ E, by omega, by go_num, rfl, rfl, ?_, ?_, h2H.out, hbelH.out⟩
                · rw [hsn.out, hsfH.out]; unfold softStep; rw [if_pos hc32, if_pos (nil_yes hT)]
                · rw [hhn.out, hhfH.out, hcat.out]; unfold hardStep; rw [if_neg hcb]
              case measure => simp [intOf]; omega
          · go_wp2_with (at_builtin; refine wpList_append_lies _ rfl (.tmp 45) (.tmp 47) 49 rfl n₀ 9 i0 _ 1 16 Try.underlying49 hi hz0 hz1 hz2 rfl (by decide) (.slice a5 ws.length c5) ws.length (svs ws) rfl (h2H.out.rs.alloc _) ⟨wr.heap.size, 0, none⟩ 1 1 [.string T] rfl rfl (World.news_of_block (cs := #[.string T]) (t := 9) (fr := (0, 0)) (heap_alloc_new wr _)) (by simp [Value.oneCell']) (by omega) (by unfold maxLen; omega) (by omega) (by simp; omega) (wr.heap.size + 1) (by simp) ?_; intro gg cap w2 own2 hgrow hat hlt1)
            have hat' : (Value.slice a5 ws.length c5).ownBlock = some gg ∨ gg = (wr.alloc (.cells #[.string T] 9)).heap.size := hat.imp id (fun h => by rw [h]; simp)
            have h2' := Lib.hid ((h2H.out.alloc (.cells #[.string T] 9)).push T own2 hgrow hat')
            have hbg : Hid (Below n₀ w w2) := Lib.hid ((hbelH.out.alloc (by omega) _).grown hgrow (by simp; omega) (fun q e => (h2H.out.rs.lt q e).1))
            clear own2 hgrow hat hlt1 hat'
            go_wp2_with fail
            go_roundw
            case rel =>
              refine ⟨i + 1, ws ++ [T.data.toList], hs, ⟨#[]⟩, R ++ E, by omega, by go_num, rfl, rfl, ?_, ?_, h2'.out, hbg.out⟩
              · rw [hsn.out, hsfH.out]; unfold softStep; rw [if_pos hc32, if_neg (nil_no hT)]
              · rw [hhn.out, hhfH.out, hcat.out]; unfold hardStep; rw [if_neg hcb]
            case measure => simp [intOf]; omega
        · have hc32 : ¬ c.toNat = 32 := by omega
          by_cases hcb : (t[i].toNat : Int) = (b.toNat : Int)
          · have hcb' : c = b := UInt8.toNat_inj.1 (by omega)
            go_wp2_with (at_builtin; refine wpList_append_lies _ rfl (.tmp 61) (.tmp 63) 49 rfl n₀ 9 i0 _ 1 16 Try.underlying49 hi hz0 hz1 hz2 rfl (by decide) (.slice a6 hs.length c6) hs.length (svs hs) rfl (h2H.out.rh.alloc _) ⟨wr.heap.size, 0, none⟩ 1 1 [.string R] rfl rfl (World.news_of_block (cs := #[.string R]) (t := 9) (fr := (0, 0)) (heap_alloc_new wr _)) (by simp [Value.oneCell']) (by omega) (by unfold maxLen; omega) (by omega) (by simp; omega) (wr.heap.size + 1) (by simp) ?_; intro gg cap w2 own2 hgrow hat hlt1)
            have hat' : (Value.slice a6 hs.length c6).ownBlock = some gg ∨ gg = (wr.alloc (.cells #[.string R] 9)).heap.size := hat.imp id (fun h => by rw [h]; simp)
            have h2' := Lib.hid (((h2H.out.alloc (.cells #[.string R] 9)).swap.push R own2 hgrow hat').swap)
            have hbg : Hid (Below n₀ w w2) := Lib.hid ((hbelH.out.alloc (by omega) _).grown hgrow (by simp; omega) (fun q e => (h2H.out.rh.lt q e).1))
            clear own2 hgrow hat hlt1 hat'
            go_wp2_with fail
            go_roundw
            case rel =>
              refine ⟨i + 1, ws, hs ++ [R.data.toList], T ++ E, ⟨#[]⟩, by omega, by go_num, rfl, rfl, ?_, ?_, h2'.out, hbg.out⟩
              · rw [hsn.out, hsfH.out, hcat.out]; unfold softStep; rw [if_neg hc32]
              · rw [hhn.out, hhfH.out]; unfold hardStep; rw [if_pos hcb']
            case measure => simp [intOf]; omega
          · have hcb' : ¬ c = b := fun e => hcb (by rw [← e, hci])
            go_wp2_with fail
            go_roundw
            case rel =>
              refine ⟨i + 1, ws, hs, T ++ E, R ++ E, by omega, by go_num, rfl, rfl, ?_, ?_, h2H.out, hbelH.out⟩
              · rw [hsn.out, hsfH.out, hcat.out]; unfold softStep; rw [if_neg hc32]
              · rw [hhn.out, hhfH.out, hcat.out]; unfold hardStep; rw [if_neg hcb']
            case measure => simp [intOf]; omega
      · have hlt' : ¬ (i : Int) < (t.size : Int) := by omega
        obtain rfl : i = t.size := by omega
        have htk : t.data.toList.take t.size = t.data.toList := List.take_of_length_le (by rw [Array.length_toList]; exact Nat.le_refl _)
        rw [htk] at hsf hhf
        have hes : ended (t.data.toList.foldl softStep ([], [])) = if T.data.toList = [] then ws else ws ++ [T.data.toList] := by rw [hsf]; rfl
        have heh : ended (t.data.toList.foldl (hardStep b) ([], [])) = if R.data.toList = [] then hs else hs ++ [R.data.toList] := by rw [hhf]; rfl
        have htl : t.data.toList.length ≤ 190 := by rw [Array.length_toList]; exact h190
        obtain ⟨F1, hF1⟩ : ∃ F1, ended (t.data.toList.foldl softStep ([], [])) = F1 := ⟨_, rfl⟩
        obtain ⟨F2, hF2⟩ : ∃ F2, ended (t.data.toList.foldl (hardStep b) ([], [])) = F2 := ⟨_, rfl⟩
        have hfl1 := Lib.hid (soft_fields t htl)
        have hfl2 := Lib.hid (hard_fields b hbl.out.1 t htl)
        have hsm1 := (ended_small soft_form _ htl).1
        have hsm2 := (ended_small (hard_form b) _ htl).1
        rw [hF1] at hes hfl1 hsm1
        rw [hF2] at heh hfl2 hsm2
        have hesH := Lib.hid hes
        have hehH := Lib.hid heh
        have hsm1H := Lib.hid hsm1
        have hsm2H := Lib.hid hsm2
        clear hsf hhf hes heh htk htl hF1 hF2 hsm1 hsm2
        go_upto_if 73 with fail
        go_cut [5] (fun s5 wx => (∃ a c, s5 = .slice a F1.length c) ∧ Two n₀ wx s5 (.slice a6 hs.length c6) F1 hs ∧ Below n₀ w wx)
        case first =>
          obtain hT | hT : T.toList.isEmpty = true ∨ T.toList.isEmpty = false := by cases T.toList.isEmpty <;> simp
          · simp only [hT, Bool.not_true]
            go_wp2_with fail
            all_goals
              go_meet
              rw [hesH.out, if_pos (nil_yes hT)]
              exact ⟨⟨_, _, rfl⟩, h2H.out, hbelH.out⟩
          · simp only [hT, Bool.not_false]
            go_wp2_with (at_builtin; refine wpList_append_lies _ rfl (.tmp 74) (.tmp 76) 49 rfl n₀ 9 i0 _ 1 16 Try.underlying49 hi hz0 hz1 hz2 rfl (by decide) (.slice a5 ws.length c5) ws.length (svs ws) rfl (h2H.out.rs.alloc _) ⟨wr.heap.size, 0, none⟩ 1 1 [.string T] rfl rfl (World.news_of_block (cs := #[.string T]) (t := 9) (fr := (0, 0)) (heap_alloc_new wr _)) (by simp [Value.oneCell']) (by omega) (by unfold maxLen; omega) (by omega) (by simp; omega) (wr.heap.size + 1) (by simp) ?_; intro gg cap w2 own2 hgrow hat hlt1)
            have hat' : (Value.slice a5 ws.length c5).ownBlock = some gg ∨ gg = (wr.alloc (.cells #[.string T] 9)).heap.size := hat.imp id (fun h => by rw [h]; simp)
            have h2' := Lib.hid ((h2H.out.alloc (.cells #[.string T] 9)).push T own2 hgrow hat')
            have hbg : Hid (Below n₀ w w2) := Lib.hid ((hbelH.out.alloc (by omega) _).grown hgrow (by simp; omega) (fun q e => (h2H.out.rs.lt q e).1))
            clear own2 hgrow hat hlt1 hat'
            go_wp2_with fail
            go_meet
            rw [hesH.out, if_neg (nil_no hT)]
            exact ⟨⟨_, _, by rw [List.length_append]; rfl⟩, h2'.out, hbg.out⟩
        case rest =>
          obtain ⟨⟨a5', c5', rfl⟩, h2', hbel'⟩ := hcut
          have h2'H := Lib.hid h2'
          have hbel'H := Lib.hid hbel'
          have hwx := hbel'.size
          clear h2' hbel' h2H hbelH
          go_upto_if 79 with fail
          go_cut [6] (fun s6 wx => (∃ a c, s6 = .slice a F2.length c) ∧ Two n₀ wx (.slice a5' F1.length c5') s6 F1 F2 ∧ Below n₀ w wx)
          case first =>
            obtain hR | hR : R.toList.isEmpty = true ∨ R.toList.isEmpty = false := by cases R.toList.isEmpty <;> simp
            · simp only [hR, Bool.not_true]
              go_wp2_with fail
              all_goals
                go_meet
                rw [hehH.out, if_pos (nil_yes hR)]
                exact ⟨⟨_, _, rfl⟩, h2'H.out, hbel'H.out⟩
            · simp only [hR, Bool.not_false]
              go_wp2_with (at_builtin; refine wpList_append_lies _ rfl (.tmp 80) (.tmp 82) 49 rfl n₀ 9 i0 _ 1 16 Try.underlying49 hi hz0 hz1 hz2 rfl (by decide) (.slice a6 hs.length c6) hs.length (svs hs) rfl (h2'H.out.rh.alloc _) ⟨wc.heap.size, 0, none⟩ 1 1 [.string R] rfl rfl (World.news_of_block (cs := #[.string R]) (t := 9) (fr := (0, 0)) (heap_alloc_new wc _)) (by simp [Value.oneCell']) (by omega) (by unfold maxLen; omega) (by omega) (by simp; omega) (wc.heap.size + 1) (by simp) ?_; intro gg cap w2 own2 hgrow hat hlt1)
              have hat' : (Value.slice a6 hs.length c6).ownBlock = some gg ∨ gg = (wc.alloc (.cells #[.string R] 9)).heap.size := hat.imp id (fun h => by rw [h]; simp)
              have h3' := Lib.hid (((h2'H.out.alloc (.cells #[.string R] 9)).swap.push R own2 hgrow hat').swap)
              have hbg : Hid (Below n₀ w w2) := Lib.hid ((hbel'H.out.alloc (by omega) _).grown hgrow (by simp; omega) (fun q e => (h2'H.out.rh.lt q e).1))
              clear own2 hgrow hat hlt1 hat'
              go_wp2_with fail
              go_meet
              rw [hehH.out, if_neg (nil_no hR)]
              exact ⟨⟨_, _, by rw [List.length_append]; rfl⟩, h3'.out, hbg.out⟩
          case rest =>
            obtain ⟨⟨a6', c6', rfl⟩, h3, hbel3⟩ := hcut
            clear h2'H hbel'H hwx
            have hwx := hbel3.size
            obtain ⟨W3, hW3⟩ : ∃ W3, wc.alloc (.cells #[.slice a5' F1.length c5', .slice a6' F2.length c6'] 49) = W3 := ⟨_, rfl⟩
            have hz3 : W3.heap.size = wc.heap.size + 1 := by rw [← hW3]; simp
            have hblk : W3.heap[wc.heap.size]? = some (.cells #[.slice a5' F1.length c5', .slice a6' F2.length c6'] 49 (0, 0)) := by rw [← hW3]; exact World.alloc_heap_new wc _
            have hx1 : Hid (RowTx W3 a5' F1) := Lib.hid (by rw [← hW3]; exact row_tx (h3.alloc _).rs)
            have hx2 : Hid (RowTx W3 a6' F2) := Lib.hid (by rw [← hW3]; exact row_tx (h3.alloc _).rh)
            have hb3 : Hid (Below n₀ w W3) := Lib.hid (by rw [← hW3]; exact hbel3.alloc (by omega) _)
            have hcA : Hid (∀ W, Below W3.heap.size W3 W → W.cell? ⟨wc.heap.size, 0, none⟩ = some (.slice a5' F1.length c5') ∧ W.cell? ⟨wc.heap.size, 1, none⟩ = some (.slice a6' F2.length c6')) := Lib.hid (fun W hW => by
              have e := (hW.block wc.heap.size (by omega)).trans hblk
              exact ⟨by rw [cell_of_row _ _ _ _ _ _ e]; rfl, by rw [cell_of_row _ _ _ _ _ _ e]; rfl⟩)
            have hn3 : n₀ ≤ W3.heap.size := by omega
            obtain ⟨bk, hbk⟩ : ∃ bk, wc.heap.size = bk := ⟨_, rfl⟩
            have hbkH := Lib.hid hbk
            rw [hbk] at hcA
            clear h3 hbel3 hblk
            go_wp2_with fail
            clear hW3
            go_loopw [88] (fun s88 wy => ∃ j : Int, (j = 0 ∨ j = 1 ∨ j = 2) ∧ s88 = .int .i64 j ∧ Below W3.heap.size W3 wy) (fun s88 _ => 2 - (intOf s88).toNat)
            case atStart => exact ⟨0, .inl rfl, rfl, Below.refl _ _⟩
            case round =>
              obtain ⟨j, hj, rfl, hby⟩ := hrel
              obtain ⟨hc0, hc1⟩ := hcA.out _ hby
              have hbyH := Lib.hid hby
              clear hby
              rcases hj with rfl | rfl | rfl
              rotate_left 2
              · go_wp2_with fail
                go_ret
                exact ⟨rfl, hb3.out.trans (hbyH.out.mono hn3)⟩
              · go_upto_region 29 with fail
                have hbz : Hid (Below W3.heap.size W3 wr) := hbyH
                have hfl := hfl1
                have hsm := hsm1H
                have hx := hx1
                clear hbyH hfl1 hfl2 hsm1H hsm2H hx1 hx2 hc0 hc1 hesH hehH
                clear hcA
                have hf := fields_one ⟨#[32]⟩ 1 ⟨t, false, true⟩ wr (by show t.size ≤ _; omega)
                rw [hfl.out] at hf
                have hzz := hbz.out.size
                have hfH := Lib.hid hf
                clear hf hfl
                go_wp2_with fail
                refine hfH.out.mono ?_
                rintro e w5 ⟨hB5, ⟨Lf, v, hLf, rfl, hv⟩ | ⟨hL, rfl⟩⟩
                · have hL' := Option.some.inj hLf
                  have hLl : Lf.length = F1.length := by rw [← hL', List.length_map]
                  obtain ⟨av', cv', rfl, hcv, hget⟩ := hv.get
                  rw [hLl]
                  have hB35 : Hid (Below W3.heap.size W3 w5) := Lib.hid (hbz.out.trans (hB5.mono hzz))
                  have hT : Hid (∀ i x, F1[i]? = some x → ∃ g u, av' = some ⟨g, 0, none⟩ ∧ g < w5.heap.size ∧ w5.cell? ⟨g, i, none⟩ = some u ∧
                      ∀ W, Below w5.heap.size w5 W → Calls Try.prog 29 #[u] W fun e w' => e = .returned (.string ⟨x.toArray⟩) ∧ Below w5.heap.size w5 w') := Lib.hid (fun i x hxi => by
                    have hj : Lf[i]? = some (fld x) := by rw [← hL', List.getElem?_map, hxi]; rfl
                    obtain ⟨g, u, hg, hgl, _, hc, hown⟩ := hget i _ hj
                    refine ⟨g, u, hg, hgl, hc, fun W hW => (text_any u _ W (own_blk hown (fun q hq => hW.block q (hown.lt q hq).2)) ?_).mono ?_⟩
                    · rw [fld_len]
                      have := hsm.out.2 x (List.mem_of_getElem? hxi)
                      omega
                    · rintro e w' ⟨rfl, hb⟩
                      rw [txt_fld]
                      exact ⟨rfl, hW.trans (hb.mono hW.size)⟩)
                  have h35 := hB35.out.size
                  obtain ⟨n5, hn5⟩ : ∃ n5, F1.length = n5 := ⟨_, rfl⟩
                  rw [hn5]
                  have hn5H := Lib.hid hn5
                  have hn5b : n5 ≤ 190 := by rw [← hn5]; exact hsm.out.1
                  clear hv hget hB5 hL' hLf hLl hn5 hcv hfH hsm
                  go_wp2_with fail
                  go_loopw [117] (fun s117 wx => ∃ j : Nat, j ≤ n5 ∧ s117 = .int .i64 j ∧ Below w5.heap.size w5 wx) (fun s117 _ => n5 - (intOf s117).toNat)
                  case atStart => exact ⟨0, Nat.zero_le _, rfl, Below.refl _ _⟩
                  case round =>
                    obtain ⟨j, hj, rfl, hbx⟩ := hrel
                    by_cases hjl : j < n5
                    · obtain ⟨x, hxj⟩ : ∃ x, F1[j]? = some x := ⟨_, List.getElem?_eq_getElem (by rw [hn5H.out]; exact hjl)⟩
                      obtain ⟨g, rfl, hg, hcx⟩ := hx.out j x hxj
                      obtain ⟨g', u, rfl, hg', c1, hcall⟩ := hT.out j x hxj
                      have c2 := (hB35.out.cell (p := ⟨g, j, none⟩) hg).trans hcx
                      obtain ⟨X, hX⟩ : ∃ X : ByteArray, ⟨x.toArray⟩ = X := ⟨_, rfl⟩
                      rw [hX] at c2 hcall
                      have hjl' : (j : Int) < (n5 : Int) := by omega
                      have hS : Hid (∀ W, Below w5.heap.size w5 W → W.cell? ⟨g', j, none⟩ = some u ∧ W.cell? ⟨g, j, none⟩ = some (.string X)) := Lib.hid (fun W hW =>
                        ⟨(hW.cell (p := ⟨g', j, none⟩) hg').trans c1, (hW.cell (p := ⟨g, j, none⟩) (Nat.lt_of_lt_of_le hg h35)).trans c2⟩)
                      have hcH := Lib.hid hcall
                      have hbxH := Lib.hid hbx
                      clear c1 c2 hcall hbx hcx hX
                      go_upto_region 35 with fail
                      go_region_held3 (fun W => W.cell? ⟨g', j, none⟩ = some u ∧ W.cell? ⟨g, j, none⟩ = some (.string X)) (first | exact hS.out _ hbxH.out.drew | exact hS.out _ hb6) (first | (go_at_call 29; refine (hcH.out _ hbxH.out.drew).mono ?_; rintro e w6 ⟨rfl, hb6⟩))
                      have hb6H := Lib.hid hb6
                      clear hb6
                      go_wp2_with fail
                      go_roundw
                      case rel => exact ⟨j + 1, by omega, by go_num, hb6H.out⟩
                      case measure => simp [intOf]; omega
                    · have hjl' : ¬ (j : Int) < (n5 : Int) := by omega
                      have hbxH := Lib.hid (hB35.out.trans (hbx.mono h35))
                      clear hbx
                      go_wp2_with fail
                      have hbe : Below (bk + 1) W3 wr := by
                        have h := hbxH.out
                        rw [show W3.heap.size = bk + 1 by omega] at h
                        exact h
                      refine ⟨⟨_, _, _, _, _, _, _, _, ?_, rfl, hn5H.out.symm, rfl, rfl, rfl, rfl, rfl, rfl, hn5H.out.symm, rfl⟩, by simp [intOf]⟩
                      first | exact .inr (.inl ⟨rfl, hbe⟩) | exact .inr (.inr ⟨rfl, hbe⟩)
                · cases hL
              · go_wp2_with fail
                rw [run_one (wr.alloc (.cells #[.int .u8 (b.toNat : Int)] 5)) wr.heap.size b (Boxed.new wr 5 _).cell]
                simp only [Result.andThen]
                rw [Oper.upon_value]
                go_upto_region 29 with fail
                have hbz : Hid (Below W3.heap.size W3 (wr.alloc (.cells #[.int .u8 (b.toNat : Int)] 5))) := Lib.hid (hbyH.out.alloc hbyH.out.size _)
                have hfl := hfl2
                have hsm := hsm2H
                have hx := hx2
                clear hbyH hfl1 hfl2 hsm1H hsm2H hx1 hx2 hc0 hc1 hesH hehH
                generalize wr.alloc (.cells #[.int .u8 (b.toNat : Int)] 5) = wz at hbz ⊢
                clear hcA
                have hf := fields_one ⟨#[b]⟩ 1 ⟨t, false, true⟩ wz (by show t.size ≤ _; omega)
                rw [hfl.out] at hf
                have hzz := hbz.out.size
                have hfH := Lib.hid hf
                clear hf hfl
                go_wp2_with fail
                refine hfH.out.mono ?_
                rintro e w5 ⟨hB5, ⟨Lf, v, hLf, rfl, hv⟩ | ⟨hL, rfl⟩⟩
                · have hL' := Option.some.inj hLf
                  have hLl : Lf.length = F2.length := by rw [← hL', List.length_map]
                  obtain ⟨av', cv', rfl, hcv, hget⟩ := hv.get
                  rw [hLl]
                  have hB35 : Hid (Below W3.heap.size W3 w5) := Lib.hid (hbz.out.trans (hB5.mono hzz))
                  have hT : Hid (∀ i x, F2[i]? = some x → ∃ g u, av' = some ⟨g, 0, none⟩ ∧ g < w5.heap.size ∧ w5.cell? ⟨g, i, none⟩ = some u ∧
                      ∀ W, Below w5.heap.size w5 W → Calls Try.prog 29 #[u] W fun e w' => e = .returned (.string ⟨x.toArray⟩) ∧ Below w5.heap.size w5 w') := Lib.hid (fun i x hxi => by
                    have hj : Lf[i]? = some (fld x) := by rw [← hL', List.getElem?_map, hxi]; rfl
                    obtain ⟨g, u, hg, hgl, _, hc, hown⟩ := hget i _ hj
                    refine ⟨g, u, hg, hgl, hc, fun W hW => (text_any u _ W (own_blk hown (fun q hq => hW.block q (hown.lt q hq).2)) ?_).mono ?_⟩
                    · rw [fld_len]
                      have := hsm.out.2 x (List.mem_of_getElem? hxi)
                      omega
                    · rintro e w' ⟨rfl, hb⟩
                      rw [txt_fld]
                      exact ⟨rfl, hW.trans (hb.mono hW.size)⟩)
                  have h35 := hB35.out.size
                  obtain ⟨n5, hn5⟩ : ∃ n5, F2.length = n5 := ⟨_, rfl⟩
                  rw [hn5]
                  have hn5H := Lib.hid hn5
                  have hn5b : n5 ≤ 190 := by rw [← hn5]; exact hsm.out.1
                  clear hv hget hB5 hL' hLf hLl hn5 hcv hfH hsm
                  go_wp2_with fail
                  go_loopw [117] (fun s117 wx => ∃ j : Nat, j ≤ n5 ∧ s117 = .int .i64 j ∧ Below w5.heap.size w5 wx) (fun s117 _ => n5 - (intOf s117).toNat)
                  case atStart => exact ⟨0, Nat.zero_le _, rfl, Below.refl _ _⟩
                  case round =>
                    obtain ⟨j, hj, rfl, hbx⟩ := hrel
                    by_cases hjl : j < n5
                    · obtain ⟨x, hxj⟩ : ∃ x, F2[j]? = some x := ⟨_, List.getElem?_eq_getElem (by rw [hn5H.out]; exact hjl)⟩
                      obtain ⟨g, rfl, hg, hcx⟩ := hx.out j x hxj
                      obtain ⟨g', u, rfl, hg', c1, hcall⟩ := hT.out j x hxj
                      have c2 := (hB35.out.cell (p := ⟨g, j, none⟩) hg).trans hcx
                      obtain ⟨X, hX⟩ : ∃ X : ByteArray, ⟨x.toArray⟩ = X := ⟨_, rfl⟩
                      rw [hX] at c2 hcall
                      have hjl' : (j : Int) < (n5 : Int) := by omega
                      have hS : Hid (∀ W, Below w5.heap.size w5 W → W.cell? ⟨g', j, none⟩ = some u ∧ W.cell? ⟨g, j, none⟩ = some (.string X)) := Lib.hid (fun W hW =>
                        ⟨(hW.cell (p := ⟨g', j, none⟩) hg').trans c1, (hW.cell (p := ⟨g, j, none⟩) (Nat.lt_of_lt_of_le hg h35)).trans c2⟩)
                      have hcH := Lib.hid hcall
                      have hbxH := Lib.hid hbx
                      clear c1 c2 hcall hbx hcx hX
                      go_upto_region 35 with fail
                      go_region_held3 (fun W => W.cell? ⟨g', j, none⟩ = some u ∧ W.cell? ⟨g, j, none⟩ = some (.string X)) (first | exact hS.out _ hbxH.out.drew | exact hS.out _ hb6) (first | (go_at_call 29; refine (hcH.out _ hbxH.out.drew).mono ?_; rintro e w6 ⟨rfl, hb6⟩))
                      have hb6H := Lib.hid hb6
                      clear hb6
                      go_wp2_with fail
                      go_roundw
                      case rel => exact ⟨j + 1, by omega, by go_num, hb6H.out⟩
                      case measure => simp [intOf]; omega
                    · have hjl' : ¬ (j : Int) < (n5 : Int) := by omega
                      have hbxH := Lib.hid (hB35.out.trans (hbx.mono h35))
                      clear hbx
                      go_wp2_with fail
                      have hbe : Below (bk + 1) W3 wr := by
                        have h := hbxH.out
                        rw [show W3.heap.size = bk + 1 by omega] at h
                        exact h
                      refine ⟨⟨_, _, _, _, _, _, _, _, ?_, rfl, hn5H.out.symm, rfl, rfl, rfl, rfl, rfl, rfl, hn5H.out.symm, rfl⟩, by simp [intOf]⟩
                      first | exact .inr (.inl ⟨rfl, hbe⟩) | exact .inr (.inr ⟨rfl, hbe⟩)
                · cases hL
end Go.Proofs.Ytlaidmjlgjpgcaa
