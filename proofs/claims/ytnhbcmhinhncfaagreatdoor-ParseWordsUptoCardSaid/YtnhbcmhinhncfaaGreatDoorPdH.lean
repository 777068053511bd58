/- ParseWords' walk. Conditions: the texts lie in memory, each of ten million bytes at most; the library's variables lie as they came. -/
import Derived.Test.YtnhbcmhinhncfaaGreatDoorPdD
import Derived.Test.YtnhbcmhinhncfaaGreatDoorPdG
import Derived.Deep.RegionHeld3
namespace Go.Proofs.YtnhbcmhinhncfaaGreatDoor
open Go.RowKit Go.Shelf Go.PlainAid
set_option linter.unusedVariables false
set_option linter.unusedSimpArgs false
attribute [local go_sem] Oper.semAt_some
theorem infoStr : (Tryz.prog.info? 9).map (fun i => (i.zero, i.size, i.bytes)) = some (some (.string ByteArray.empty), 1, 16) := by kernel_rfl
/-- Texts as strings in memory. -/
def Txts (w : World) (A : Option Addr) (K : List ByteArray) : Prop := ∀ k t, K[k]? = some t → ∃ b off, A = some ⟨b, off, none⟩ ∧ b < w.heap.size ∧ w.cell? ⟨b, off + k, none⟩ = some (.string t)
def svs (l : List ByteArray) : List Value := l.map (.string ·)
theorem src_1 {w : World} {g : Nat} {t : TypeId} {u : Value} (h : Blk w g t #[u]) : Src w (some ⟨g, 0, none⟩) [u] := fun j v hj => by
  refine ⟨_, rfl, ?_⟩
  rw [Addr.add_lit, h.cell]
  simpa using hj
theorem row_bel {w w1 : World} {base : Nat} {e : TypeId} {size : Nat} {v : Value} {n : Nat} {xs : List Value} (h : w.ownsRow base e size v n xs) (hb : Below w.heap.size w w1) : w1.ownsRow base e size v n xs :=
  row_keep h (fun g hg => hb.block g (row_lt h hg))
theorem row_strs {w : World} {n₀ n c : Nat} {a : Option Addr} {l : List ByteArray} (hn : n = l.length) (h : w.ownsRow n₀ 9 1 (.slice a n c) n (svs l)) (hp : 0 < n) : ∃ g, a = some ⟨g, 0, none⟩ ∧ g < w.heap.size ∧ ∀ (k : Nat) (q : ByteArray), l[k]? = some q → w.cell? ⟨g, k, none⟩ = some (.string q) := by
  obtain ⟨g, cap, hv, _, _⟩ := h.form hp
  obtain ⟨rfl, rfl⟩ : a = some ⟨g, 0, none⟩ ∧ c = cap := by simpa using hv
  refine ⟨g, rfl, (h.lt g rfl).2, fun k q hk => ?_⟩
  have hk2 := (List.getElem?_eq_some_iff.1 hk).1
  rw [h.cellAt _ (by omega)]
  unfold svs
  rw [List.getElem?_map, hk]
  rfl
theorem wqB_is (t : ByteArray) : wqB t = (⟨#[39, 120, 39]⟩ : ByteArray) ++ quoteM t := by
  apply ba_data
  rw [app_dataD]
  rfl
theorem wqB_size (t : ByteArray) : (wqB t).size = (wq t).length := by show (wq t).toArray.size = _; simp
theorem quoteM_le (t : ByteArray) : (quoteM t).size ≤ 4 * t.size + 2 := by
  unfold quoteM
  split
  · omega
  · unfold quoted
    have := qmS_size t
    rw [ByteArray.size_append, ByteArray.size_append]
    show 1 + (qmS t).size + 1 ≤ _
    omega
theorem nums_words (l : List ByteArray) : numsB (simW l) = true := by
  unfold simW; rw [numsB, numsBs]; rfl
theorem wq_mem {l : List ByteArray} {t : ByteArray} (h : t ∈ l) : (wq t).length + 1 ≤ (l.flatMap segW).length := by
  induction l with
  | nil => cases h
  | cons a l ih =>
    rw [List.flatMap_cons, List.length_append]
    have hs : (segW a).length = (wq a).length + 1 := by simp [segW]
    rcases List.mem_cons.1 h with rfl | h
    · omega
    · have := ih h; omega
theorem word_len {t : ByteArray} (hb : (wq t).length ≤ 2000) : (wordL (wqB t)).length ≤ 50 * (segW t).length := by
  have hz := wqB_size t
  have h4 := Lib.itoa_length_le ((wqB t).size : Int) (by omega) (by omega)
  have h5 : (wqB t).data.toList.length = (wq t).length := by rw [← Lib.size_eq, hz]
  have h6 : 3 ≤ (wq t).length := by simp [wq]
  unfold wordL textL segW
  simp only [List.length_cons, List.length_append, h5, List.length_nil]
  omega
theorem words_len : ∀ (l : List ByteArray), (∀ t ∈ l, (wq t).length ≤ 2000) → ((l.map wqB).flatMap wordL).length ≤ 50 * (l.flatMap segW).length
  | [], _ => by simp
  | t :: l, h => by
    have ih := words_len l (fun x hx => h x (List.mem_cons_of_mem _ hx))
    have h3 := word_len (h t (List.mem_cons_self ..))
    rw [List.map_cons, List.flatMap_cons, List.flatMap_cons, List.length_append, List.length_append]
    omega
theorem code_len_words (l : List ByteArray) (h : (l.flatMap segW).length ≤ 2000) : (codeL (simW l)).length ≤ 1000000000 := by
  have h1 := words_len l (fun t ht => by have := wq_mem ht; omega)
  have h2 : (headL 1 false false noB).length ≤ 100 := by decide +kernel
  unfold simW
  rw [codeL, codeLs]
  simp only [List.length_append, List.flatMap_nil, List.length_nil, List.length_cons]
  omega
theorem allB_len (l : List ByteArray) : ∀ k, (allB l k).length = (k + 1) * (l.flatMap segW).length + 2 * k
  | 0 => by show (l.flatMap segW).length = _; omega
  | k + 1 => by
    have := allB_len l k
    rw [allB, List.length_append, List.length_cons, List.length_cons, this, Nat.succ_mul (k + 1)]
    omega
theorem allB_len4 (l : List ByteArray) (h : (l.flatMap segW).length ≤ 2000) (k : Nat) (hk : k ≤ 4) : (allB l k).length ≤ 11000 := by
  rw [allB_len]
  have : (k + 1) * (l.flatMap segW).length ≤ 5 * 2000 := Nat.mul_le_mul (by omega) h
  omega
/-- A tree's cells and its code, in whatever world behind. -/
structure Tr (W : World) (q : Nat) (cs : List Value) (n : Nd) : Prop where
  blk : Blk W q 30 cs.toArray
  code : ∀ Z, Below W.heap.size W Z → Calls Tryz.prog 9 #[.agg cs.toArray] Z fun e w' => e = .returned (.string ⟨(codeL n).toArray⟩) ∧ Below Z.heap.size Z w'
theorem Tr.below {W W' : World} {q : Nat} {cs : List Value} {n : Nd} (h : Tr W q cs n) (hb : Below W.heap.size W W') : Tr W' q cs n :=
  ⟨(hb.block q h.blk.lt).trans h.blk, fun Z hZ => h.code Z (onto hb hZ)⟩
theorem code_at {W : World} {T : Nat → Prop} {k : Int} {x y : Bool} {nm : ByteArray} {aw : Option Addr} {nw cw : Nat} {ar : Option Addr} {nr cr : Nat} {ak : Option Addr} {nk ck : Nat} {n : Nd}
    (hN : NdAt W T [.int .i64 k, .bool x, .bool y, .string nm, .slice aw nw cw, .slice ar nr cr, .slice ak nk ck] n) (hT : ∀ g, T g → g < W.heap.size) (h1 : numsB n = true) (h2 : (codeL n).length ≤ 1000000000) (Z : World) (hZ : Below W.heap.size W Z) :
    Calls Tryz.prog 9 #[.agg #[.int .i64 k, .bool x, .bool y, .string nm, .slice aw nw cw, .slice ar nr cr, .slice ak nk ck]] Z fun e w' => e = .returned (.string ⟨(codeL n).toArray⟩) ∧ Below Z.heap.size Z w' :=
  code_all _ n (Nat.le_refl _) Z T k x y nm aw nw cw ar nr cr ak nk ck (hN.keep (fun g hg => hZ.block g (hT g hg)) (fun _ h => h)) (fun g hg => Nat.lt_of_lt_of_le (hT g hg) hZ.size) h1 h2
set_option maxRecDepth 100000 in
set_option maxHeartbeats 8000000 in
theorem words_walk (A : Option Addr) (n c0 : Nat) (K : List ByteArray) (pipes : Int) (w : World) (hn : K.length = n) (hS : Txts w A K) (hK : ∀ t ∈ K, t.size ≤ 10000000) (hg : Gl w) :
    Calls Tryz.prog 4 #[.slice A n c0, .int .i64 pipes] w fun e w' => e = .returned (.bool true) ∧ Below w.heap.size w w' := by
  obtain ⟨i0, hi0, hz0, hz1, hz2⟩ := info_parts infoStr
  have ha := Lib.hid (awake_any w hg)
  have hSH := Lib.hid hS
  have hKH := Lib.hid hK
  have hgH := Lib.hid hg
  have hnH := Lib.hid hn
  clear hS hK hg hn
  by_cases hn0 : n = 0 ∨ 30 < n
  · have h0 : n = 0 ∨ (n ≠ 0 ∧ 30 < n) := by omega
    rcases h0 with rfl | ⟨h0, h1⟩
    · go_enter Tryz.func4, Tryz.ntmps4
      go_wp2_with (go_at_call 6; refine ha.out.mono ?_; rintro e w2 ⟨rfl, hB2⟩; have hB2H := Lib.hid hB2; clear hB2)
      go_ret
      exact ⟨rfl, hB2H.out⟩
    · have d1 : ((n : Int) == 0) = false := by rw [beq_eq_false_iff_ne]; omega
      have d2 : decide ((30 : Int) < (n : Int)) = true := decide_eq_true (by omega)
      go_enter Tryz.func4, Tryz.ntmps4
      go_wp2_with (go_at_call 6; refine ha.out.mono ?_; rintro e w2 ⟨rfl, hB2⟩; have hB2H := Lib.hid hB2; clear hB2)
      go_ret
      exact ⟨rfl, hB2H.out⟩
  · have hn1 : 1 ≤ n ∧ n ≤ 30 := by omega
    have d1 : ((n : Int) == 0) = false := by rw [beq_eq_false_iff_ne]; omega
    have d2 : decide ((30 : Int) < (n : Int)) = false := decide_eq_false (by omega)
    clear hn0
    go_enter Tryz.func4, Tryz.ntmps4
    go_upto_region 8 with (go_at_call 6; refine ha.out.mono ?_; rintro e w1 ⟨rfl, hb1⟩; have hb1H := Lib.hid hb1; clear hb1)
    clear d1 d2 ha
    go_loopw [5, 6, 34] (fun s5 s6 s34 wr => ∃ (k : Nat) (S : ByteArray) (a : Option Addr) (c : Nat), k ≤ n ∧ s34 = .int .i64 (k : Int) ∧ s5 = .string S ∧ S.size ≤ 41000000 * k ∧ s6 = .slice a k c ∧ Hid (Sofar S ((K.take k).flatMap segW)) ∧ Hid (wr.ownsRow w.heap.size 9 1 (.slice a k c) k (svs ((K.take k).map wqB))) ∧ Hid (Below w.heap.size w wr)) (fun _ _ s34 _ => n - (intOf s34).toNat)
    case atStart => exact ⟨0, ⟨#[]⟩, none, 0, Nat.zero_le _, by go_num, rfl, Nat.zero_le _, rfl, Lib.hid rfl, Lib.hid (World.ownsRow_nil _ _ _ _), hb1H⟩
    case round =>
      obtain ⟨k, S, a, c, hkn, rfl, rfl, hSz, rfl, hSd, hrow, hbw⟩ := hrel
      by_cases hlt : k < n
      · obtain ⟨t, htk⟩ : ∃ t, K[k]? = some t := ⟨K[k]'(by have := hnH.out; omega), List.getElem?_eq_getElem _⟩
        have htz := hKH.out t (List.mem_of_getElem? htk)
        obtain ⟨b, off, rfl, hb, hcb⟩ := hSH.out k t htk
        have x0 : wr.cell? ⟨b, off + k, none⟩ = some (.string t) := (World.cell?_of_block (hbw.out.block b hb)).trans hcb
        have hgr : Gl wr := hgH.out.keep hbw.out.size (fun g h1 => hbw.out.block g (by have := hgH.out.sz; omega))
        have hqc := Lib.hid (quote_any t wr htz hgr)
        have hqz := quoteM_le t
        have hwb := wqB_is t
        have htake : Hid (K.take (k + 1) = K.take k ++ [t]) := Lib.hid (by rw [List.take_add_one, htk]; rfl)
        have hsegH : Hid (segW t = (wqB t).data.toList ++ [32]) := Lib.hid rfl
        obtain ⟨Q, hQ⟩ : ∃ Q, wqB t = Q := ⟨_, rfl⟩
        obtain ⟨qt, hqt⟩ : ∃ x, quoteM t = x := ⟨_, rfl⟩
        rw [hqt, hQ] at hwb
        rw [hqt] at hqc hqz
        have hQz : Q.size = 3 + qt.size := by rw [hwb, ByteArray.size_append]; rfl
        have hadd0 := adds (P := Tryz.prog) (a := ⟨#[39, 120, 39]⟩) (b := qt) hwb.symm (by show 3 + qt.size ≤ _; omega)
        have hadd1 := adds (P := Tryz.prog) (a := Q) (b := ⟨#[32]⟩) rfl (by show Q.size + 1 ≤ _; omega)
        have hz2' : (Q ++ (⟨#[32]⟩ : ByteArray)).size = Q.size + 1 := by rw [ByteArray.size_append]; rfl
        obtain ⟨Z, hZ⟩ : ∃ Z, S ++ (Q ++ (⟨#[32]⟩ : ByteArray)) = Z := ⟨_, rfl⟩
        have hadd2 := adds (P := Tryz.prog) (a := S) (b := Q ++ ⟨#[32]⟩) hZ (by omega)
        have hZs : Z.size ≤ 41000000 * (k + 1) := by rw [← hZ, ByteArray.size_append, hz2']; omega
        have hZd : Hid (Sofar Z ((K.take (k + 1)).flatMap segW)) := Lib.hid (by
          have h9 : Sofar (Q ++ (⟨#[32]⟩ : ByteArray)) (segW t) := by rw [hsegH.out, hQ]; unfold Sofar; rw [app_dataD]
          rw [← hZ, htake.out, List.flatMap_append]
          have h8 := hSd.out.add h9
          simpa using h8)
        have hmap : Hid (svs ((K.take (k + 1)).map wqB) = svs ((K.take k).map wqB) ++ [.string Q]) := Lib.hid (by rw [htake.out]; unfold svs; simp [hQ])
        clear hgr hqt hQ hZ hz2' hQz hqz htk hcb hwb htz hsegH
        go_wp2_with (first | (go_at_call 10; refine hqc.out.mono ?_; rintro e w2 ⟨rfl, hb2⟩; have hb2H := Lib.hid hb2; have hbw2 := Lib.hid (onto hbw.out hb2); have hrow2 := Lib.hid (row_bel hrow.out hb2); clear hb2) | (at_builtin; refine wpList_app rfl _ _ 27 rfl w.heap.size 9 i0 _ 1 16 Tryz.underlying27 hi0 hz0 hz1 hz2 rfl (by decide) (.slice a k c) k (svs ((K.take k).map wqB)) (by rfl) (hrow2.out.alloc _) (some ⟨w2.heap.size, 0, none⟩) 1 1 [.string Q] (by rfl) (by rfl) (src_1 (Blk.new w2 _ _)) (by simp [Value.oneCell']) (by omega) (by omega) (by have := hbw2.out.size; simp; omega) ?_; intro a' c' w3 hown hgw _; have hbw3 := Lib.hid ((hbw2.out.alloc hbw2.out.size _).grown hgw (by have := hbw2.out.size; simp; omega) (fun x e => (hrow2.out.lt x e).1)); have hownH := Lib.hid hown; clear hown hgw))
        go_roundw
        case rel => exact ⟨k + 1, Z, a', c', hlt, by go_num, rfl, hZs, rfl, hZd, Lib.hid (by rw [hmap.out]; exact hownH.out), hbw3⟩
        case measure => simp [intOf]; omega
      · obtain rfl : k = n := by omega
        have hKK : K.take k = K := List.take_of_length_le (by have := hnH.out; omega)
        have hSd2 := hSd.out
        have hrow2 := hrow.out
        rw [hKK] at hSd2 hrow2
        have hSl := hSd2.size
        by_cases hbig : 2000 < S.size
        · have d1 : decide ((2000 : Int) < (S.size : Int)) = true := decide_eq_true (by omega)
          clear hrow2 hSd2 hSl
          go_wp2_with fail
          go_ret
          exact ⟨rfl, hbw.out⟩
        · have d1 : decide ((2000 : Int) < (S.size : Int)) = false := decide_eq_false (by omega)
          have hKne : K ≠ [] := by intro e; have := hnH.out; rw [e] at this; simp at this; omega
          have hSz2 : (K.flatMap segW).length ≤ 2000 := by omega
          have hwK : ∀ t ∈ K, (wq t).length ≤ 4096 := fun t ht => by have := wq_mem ht; omega
          have hSe : S = ⟨(allB K 0).toArray⟩ := ba_data hSd2
          have hfw := Lib.hid (fun j (hj : j ≤ 4) (hz : (allB K j).length ≤ 65536) => first_words hKne j hj hz hwK)
          have hgr : Gl wr := hgH.out.keep hbw.out.size (fun g h1 => hbw.out.block g (by have := hgH.out.sz; omega))
          have hfs := First_any (w := wr) S 0 (by omega) (Nat.zero_le _) hgr
          have hfw0 := hfw.out 0 (by omega) (by show (K.flatMap segW).length ≤ _; omega)
          rw [← hSe] at hfw0
          rw [hfw0] at hfs
          have hl0 : ((allB K 0).length : Int) = (S.size : Int) := by rw [hSl]; rfl
          rw [hl0] at hfs
          have hfsH := Lib.hid hfs
          have hSdH := Lib.hid hSd2
          have hrowH := Lib.hid hrow2
          have hcl := Lib.hid (code_len_words K hSz2)
          have hKneH := Lib.hid hKne
          have hSz2H := Lib.hid hSz2
          clear hrow2 hSd2 hSl hKne hwK hSe hgr hfs hfw0 hl0 hSd hrow hSz hKK hSz2
          go_upto_region 17 with (go_at_call 8; refine hfsH.out.mono ?_; rintro e w4 ⟨ka, xa, ya, nma, awa, nwa, cwa, ara, nra, cra, aka, nka, cka, T, rfl, hN4, hT4, hB4⟩; have hB4H := Lib.hid hB4; have hN4H := Lib.hid hN4; have hT4H := Lib.hid hT4; clear hN4 hT4 hB4)
          obtain ⟨q5, hq5⟩ : ∃ q, w4.heap.size = q := ⟨_, rfl⟩
          obtain ⟨W5, hW5⟩ : ∃ W, w4.alloc (.cells #[.int .i64 ka, .bool xa, .bool ya, .string nma, .slice awa nwa cwa, .slice ara nra cra, .slice aka nka cka] 30) = W := ⟨_, rfl⟩
          have hb5 : Below w4.heap.size w4 W5 := by rw [← hW5]; exact (Below.refl _ _).alloc (Nat.le_refl _) _
          have hE5 := Lib.hid (show Blk W5 q5 30 #[.int .i64 ka, .bool xa, .bool ya, .string nma, .slice awa nwa cwa, .slice ara nra cra, .slice aka nka cka] by rw [← hW5, ← hq5]; exact Blk.new _ _ _)
          have hT5 : Hid (∀ g, T g → g < W5.heap.size) := Lib.hid (fun g hg => Nat.lt_of_lt_of_le (hT4H.out g hg).2 hb5.size)
          have hN5 := hN4H.out.keep (w' := W5) (fun g hg => hb5.block g (hT4H.out g hg).2) (fun _ h => h)
          have hB5 := Lib.hid (onto (onto hbw.out hB4H.out) hb5)
          have hrow5 := Lib.hid (row_bel (row_bel hrowH.out hB4H.out) hb5)
          rw [hW5]
          try rw [hq5]
          have hNs : NdAt W5 T [.int .i64 ka, .bool xa, .bool ya, .string nma, .slice awa nwa cwa, .slice ara nra cra, .slice aka nka cka] (.mk 1 false false noB (K.map wqB) [] []) := hN5
          obtain ⟨⟨e1, e2, e3, e4, e5, e6, e7⟩, hw5, _, _⟩ := NdAt.inv hNs
          have e5' : k = nwa := by rw [e5, List.length_map]; exact hnH.out.symm
          have e6' : 0 = nra := e6.symm
          have e7' : 0 = nka := e7.symm
          clear e5 e6 e7
          subst e1 e2 e3 e4 e5' e6' e7'
          have hcode := Lib.hid (code_at hNs hT5.out (nums_words K) hcl.out)
          have hw5H := Lib.hid hw5
          clear hW5 hb5 hq5 hN4H hT4H hB4H hN5 hNs hw5 hrowH hfsH
          have c0 : W5.cell? ⟨q5, 0, none⟩ = some (.int .i64 1) := hE5.out.cell 0
          have c4 : W5.cell? ⟨q5, 4, none⟩ = some (.slice awa k cwa) := hE5.out.cell 4
          go_upto_region 20 with fail
          clear c0 c4 d1
          go_loopw [88] (fun s88 wx => ∃ i : Nat, i ≤ k ∧ s88 = .int .i64 (i : Int) ∧ Hid (Below W5.heap.size W5 wx)) (fun s88 _ => k - (intOf s88).toNat)
          case atStart => exact ⟨0, Nat.zero_le _, by go_num, Lib.hid (Below.refl _ _)⟩
          case round =>
            obtain ⟨i, hik, rfl, hbx⟩ := hrel
            by_cases hlt2 : i < k
            · obtain ⟨t, ht⟩ : ∃ t, K[i]? = some t := ⟨K[i]'(by have := hnH.out; omega), List.getElem?_eq_getElem _⟩
              have hm : (K.map wqB)[i]? = some (wqB t) := by rw [List.getElem?_map, ht]; rfl
              obtain ⟨g, rfl, hTg, ct⟩ := hw5H.out.text_at (by rw [List.length_map]; exact hnH.out.symm) hm
              obtain ⟨g2, rfl, hg2, hc2⟩ := row_strs (by rw [List.length_map]; exact hnH.out.symm) hrow5.out (by omega)
              have y0 : wr.cell? ⟨q5, 4, none⟩ = some (.slice (some ⟨g, 0, none⟩) k cwa) := (World.cell?_of_block (hbx.out.block q5 hE5.out.lt)).trans (hE5.out.cell 4)
              have y1 : wr.cell? ⟨g, i, none⟩ = some (.string (wqB t)) := (World.cell?_of_block (hbx.out.block g (hT5.out g hTg))).trans ct
              have y2 : wr.cell? ⟨g2, i, none⟩ = some (.string (wqB t)) := (World.cell?_of_block (hbx.out.block g2 hg2)).trans (hc2 i _ hm)
              clear ct hc2 hm ht
              go_wp2_with fail
              go_quiet (fail)
              go_wp2
              go_roundw
              case rel => exact ⟨i + 1, by omega, by go_num, Lib.hid (below_drew hbx.out _)⟩
              case measure => simp [intOf]; omega
            · obtain rfl : i = k := by omega
              clear hlt2 hik hw5H hrow5
              obtain ⟨r, hr⟩ : ∃ r, Int.tmod pipes 5 = r := ⟨_, rfl⟩
              have hr1 : -5 < r ∧ r < 5 := by rw [← hr]; exact ⟨by have := Int.lt_tmod_of_pos pipes (b := 5) (by decide); omega, Int.tmod_lt_of_pos pipes (by decide)⟩
              obtain ⟨j, hj5, hjr⟩ : ∃ j : Nat, j < 5 ∧ Int.tmod (r + 5) 5 = j := ⟨(Int.tmod (r + 5) 5).toNat, by have := Int.tmod_lt_of_pos (r + 5) (b := 5) (by decide); have := Int.tmod_nonneg 5 (a := r + 5) (by omega); omega, by have := Int.tmod_nonneg 5 (a := r + 5) (by omega); omega⟩
              have hSe : Hid (S = ⟨(allB K 0).toArray⟩) := Lib.hid (ba_data hSdH.out)
              have hSz4 : S.size ≤ 2000 := by omega
              go_upto_region 28 with fail
              clear hr hr1 hjr
              go_loopw [17, 108] (fun s17 s108 wx => ∃ i : Nat, i ≤ j ∧ s108 = .int .i64 (i : Int) ∧ s17 = .string ⟨(allB K i).toArray⟩ ∧ wr = wx) (fun _ s108 _ => j - (intOf s108).toNat)
              case atStart => exact ⟨0, Nat.zero_le _, by go_num, by rw [← hSe.out], rfl⟩
              case round =>
                obtain ⟨m, hmj, rfl, rfl, rfl⟩ := hrel
                have hAl := allB_len4 K hSz2H.out m (by omega)
                have hAz : (⟨(allB K m).toArray⟩ : ByteArray).size = (allB K m).length := by show (allB K m).toArray.size = _; simp
                by_cases hlt3 : m < j
                · have hnext : Hid ((⟨(allB K m).toArray⟩ : ByteArray) ++ ((⟨#[124, 10]⟩ : ByteArray) ++ S) = ⟨(allB K (m + 1)).toArray⟩) := Lib.hid (by
                    apply ba_data
                    rw [app_dataD, app_dataD, hSdH.out]
                    show allB K m ++ ([124, 10] ++ K.flatMap segW) = allB K (m + 1)
                    rw [allB_back]
                    rfl)
                  obtain ⟨X, hX⟩ : ∃ X : ByteArray, (⟨(allB K m).toArray⟩ : ByteArray) = X := ⟨_, rfl⟩
                  rw [hX] at hnext hAz
                  rw [hX]
                  have hadd1 := adds (P := Tryz.prog) (a := ⟨#[124, 10]⟩) (b := S) rfl (by show 2 + S.size ≤ _; omega)
                  have hadd2 := adds (P := Tryz.prog) (a := X) (b := ⟨#[124, 10]⟩ ++ S) hnext.out (by rw [ByteArray.size_append]; show X.size + (2 + S.size) ≤ _; omega)
                  clear hX hAl hAz
                  go_wp2_with fail
                  go_roundw
                  case rel => exact ⟨m + 1, hlt3, by go_num, rfl, by first | trivial | rfl⟩
                  case measure => simp [intOf]; omega
                · obtain rfl : m = j := by omega
                  have hAz' : Hid ((⟨(allB K m).toArray⟩ : ByteArray).size ≤ 11000) := Lib.hid (by omega)
                  have hgr : Gl wr := hgH.out.keep (onto hB5.out hbx.out).size (fun g h1 => (onto hB5.out hbx.out).block g (by have := hgH.out.sz; omega))
                  have hfs := First_any (w := wr) ⟨(allB K m).toArray⟩ 0 (by omega) (Nat.zero_le _) hgr
                  rw [hfw.out m (by omega) (by omega)] at hfs
                  have hfsH := Lib.hid hfs
                  have hbxH := Lib.hid (onto hB5.out hbx.out)
                  obtain ⟨X, hX⟩ : ∃ X : ByteArray, (⟨(allB K m).toArray⟩ : ByteArray) = X := ⟨_, rfl⟩
                  rw [hX] at hfsH
                  rw [hX]
                  clear hgr hfs hX hAl hAz hlt3 hmj hfw hSe
                  go_upto_region 32 with (go_at_call 8; refine hfsH.out.mono ?_; rintro e w6 ⟨ka, xa, ya, nma, awb, nwa, cwb, arb, nra, crb, akb, nka, ckb, T6, rfl, hN4, hT4, hB4⟩; have hB6H := Lib.hid hB4; have hN6H := Lib.hid hN4; have hT6H := Lib.hid hT4; clear hN4 hT4 hB4)
                  obtain ⟨q8, hq8⟩ : ∃ q, w6.heap.size = q := ⟨_, rfl⟩
                  obtain ⟨W7, hW7⟩ : ∃ W, w6.alloc (.cells #[.int .i64 ka, .bool xa, .bool ya, .string nma, .slice awb nwa cwb, .slice arb nra crb, .slice akb nka ckb] 30) = W := ⟨_, rfl⟩
                  have hb7 : Below w6.heap.size w6 W7 := by rw [← hW7]; exact (Below.refl _ _).alloc (Nat.le_refl _) _
                  have hE7 := Lib.hid (show Blk W7 q8 30 #[.int .i64 ka, .bool xa, .bool ya, .string nma, .slice awb nwa cwb, .slice arb nra crb, .slice akb nka ckb] by rw [← hW7, ← hq8]; exact Blk.new _ _ _)
                  have hT7 : Hid (∀ g, T6 g → g < W7.heap.size) := Lib.hid (fun g hg => Nat.lt_of_lt_of_le (hT6H.out g hg).2 hb7.size)
                  have hN7 := hN6H.out.keep (w' := W7) (fun g hg => hb7.block g (hT6H.out g hg).2) (fun _ h => h)
                  have hW57 := Lib.hid (onto (onto hbx.out hB6H.out) hb7)
                  have hB7 := Lib.hid (onto hB5.out hW57.out)
                  have hE5' := Lib.hid (show Blk W7 q5 30 _ from (hW57.out.block q5 hE5.out.lt).trans hE5.out)
                  obtain ⟨Y, hY⟩ : ∃ Y : ByteArray, (⟨(codeL (simW K)).toArray⟩ : ByteArray) = Y := ⟨_, rfl⟩
                  have hcode5 : Hid (∀ Z, Below W7.heap.size W7 Z → Calls Tryz.prog 9 #[.agg #[.int .i64 1, .bool false, .bool false, .string noB, .slice awa i cwa, .slice ara 0 cra, .slice aka 0 cka]] Z fun e w' => e = .returned (.string Y) ∧ Below Z.heap.size Z w') := Lib.hid (fun Z hZ => by rw [← hY]; exact hcode.out Z (onto hW57.out hZ))
                  rw [hW7]
                  try rw [hq8]
                  clear hW7 hb7 hq8 hN6H hT6H hB6H hcode hbxH hbx hE5 hT5 hB5
                  by_cases hm0 : m = 0
                  · subst hm0
                    have hcode7 : Hid (∀ Z, Below W7.heap.size W7 Z → Calls Tryz.prog 9 #[.agg #[.int .i64 ka, .bool xa, .bool ya, .string nma, .slice awb nwa cwb, .slice arb nra crb, .slice akb nka ckb]] Z fun e w' => e = .returned (.string Y) ∧ Below Z.heap.size Z w') := Lib.hid (by
                      have hN8 : NdAt W7 T6 [.int .i64 ka, .bool xa, .bool ya, .string nma, .slice awb nwa cwb, .slice arb nra crb, .slice akb nka ckb] (simW K) := hN7
                      have := code_at hN8 hT7.out (nums_words K) hcl.out
                      rw [hY] at this
                      exact this)
                    clear hN7
                    go_upto_region 35 with fail
                    have hKc : Hid (∀ Z, Below W7.heap.size W7 Z → Z.cell? ⟨q5, 0, none⟩ = some (.int .i64 1) ∧ Z.cell? ⟨q5, 1, none⟩ = some (.bool false) ∧ Z.cell? ⟨q5, 2, none⟩ = some (.bool false) ∧ Z.cell? ⟨q5, 3, none⟩ = some (.string noB) ∧ Z.cell? ⟨q5, 4, none⟩ = some (.slice awa i cwa) ∧ Z.cell? ⟨q5, 5, none⟩ = some (.slice ara 0 cra) ∧ Z.cell? ⟨q5, 6, none⟩ = some (.slice aka 0 cka) ∧ Z.cell? ⟨q8, 0, none⟩ = some (.int .i64 ka) ∧ Z.cell? ⟨q8, 1, none⟩ = some (.bool xa) ∧ Z.cell? ⟨q8, 2, none⟩ = some (.bool ya) ∧ Z.cell? ⟨q8, 3, none⟩ = some (.string nma) ∧ Z.cell? ⟨q8, 4, none⟩ = some (.slice awb nwa cwb) ∧ Z.cell? ⟨q8, 5, none⟩ = some (.slice arb nra crb) ∧ Z.cell? ⟨q8, 6, none⟩ = some (.slice akb nka ckb)) := Lib.hid (fun Z hZ => by
                      have h5 : Blk Z q5 30 _ := (hZ.block q5 hE5'.out.lt).trans hE5'.out
                      have h8 : Blk Z q8 30 _ := (hZ.block q8 hE7.out.lt).trans hE7.out
                      exact ⟨h5.cell 0, h5.cell 1, h5.cell 2, h5.cell 3, h5.cell 4, h5.cell 5, h5.cell 6, h8.cell 0, h8.cell 1, h8.cell 2, h8.cell 3, h8.cell 4, h8.cell 5, h8.cell 6⟩)
                    have hb0 : Below W7.heap.size W7 W7 := Below.refl _ _
                    have hbd : Below W7.heap.size W7 W7.drew := (Below.refl _ _).drew
                    obtain ⟨a0, a1, a2, a3, a4, a5, a6, b0, b1, b2, b3, b4, b5, b6⟩ := hKc.out W7 hb0
                    go_region_held3 (fun Z => Z.cell? ⟨q5, 0, none⟩ = some (.int .i64 1) ∧ Z.cell? ⟨q5, 1, none⟩ = some (.bool false) ∧ Z.cell? ⟨q5, 2, none⟩ = some (.bool false) ∧ Z.cell? ⟨q5, 3, none⟩ = some (.string noB) ∧ Z.cell? ⟨q5, 4, none⟩ = some (.slice awa i cwa) ∧ Z.cell? ⟨q5, 5, none⟩ = some (.slice ara 0 cra) ∧ Z.cell? ⟨q5, 6, none⟩ = some (.slice aka 0 cka) ∧ Z.cell? ⟨q8, 0, none⟩ = some (.int .i64 ka) ∧ Z.cell? ⟨q8, 1, none⟩ = some (.bool xa) ∧ Z.cell? ⟨q8, 2, none⟩ = some (.bool ya) ∧ Z.cell? ⟨q8, 3, none⟩ = some (.string nma) ∧ Z.cell? ⟨q8, 4, none⟩ = some (.slice awb nwa cwb) ∧ Z.cell? ⟨q8, 5, none⟩ = some (.slice arb nra crb) ∧ Z.cell? ⟨q8, 6, none⟩ = some (.slice akb nka ckb)) (first | exact hKc.out _ (by assumption) | go_keep | fail)
                      ((first
                        | (go_at_call 9; with_reducible refine (hcode5.out _ (by assumption)).mono ?_; rintro e w4 ⟨rfl, hb⟩; have hb4 : Below W7.heap.size W7 w4 := onto (by assumption) hb; clear hb)
                        | (go_at_call 9; with_reducible refine (hcode7.out _ (by assumption)).mono ?_; rintro e w4 ⟨rfl, hb⟩; have hb5 : Below W7.heap.size W7 w4 := onto (by assumption) hb; clear hb)
                        | fail))
                    all_goals
                      go_wp2_with fail
                      go_ret
                      exact ⟨by first | rfl | simp, onto hB7.out (by assumption)⟩
                  · have hN8 : NdAt W7 T6 [.int .i64 ka, .bool xa, .bool ya, .string nma, .slice awb nwa cwb, .slice arb nra crb, .slice akb nka ckb] (.mk 2 false false noB [] [] (List.replicate (m + 1) (simW K))) := by
                      have ht : treeW K m = .mk 2 false false noB [] [] (List.replicate (m + 1) (simW K)) := by unfold treeW; rw [if_neg hm0]
                      have h : NdAt W7 T6 [.int .i64 ka, .bool xa, .bool ya, .string nma, .slice awb nwa cwb, .slice arb nra crb, .slice akb nka ckb] (treeW K m) := hN7
                      rw [ht] at h
                      exact h
                    obtain ⟨⟨e1, e2, e3, e4, e5, e6, e7⟩, _, _, hk7⟩ := NdAt.inv hN8
                    have e7' : m + 1 = nka := by rw [e7, List.length_replicate]
                    clear e5 e6 e7 e4 e3 hN8 hN7
                    subst e1 e2 e7'
                    have hk7H := Lib.hid hk7
                    have dm : ((m : Int) == 0) = false := by rw [beq_eq_false_iff_ne]; omega
                    have b0 : W7.cell? ⟨q8, 0, none⟩ = some (.int .i64 2) := hE7.out.cell 0
                    have b1 : W7.cell? ⟨q8, 1, none⟩ = some (.bool false) := hE7.out.cell 1
                    have b6 : W7.cell? ⟨q8, 6, none⟩ = some (.slice akb (m + 1) ckb) := hE7.out.cell 6
                    clear hk7 hm0
                    go_upto_region 39 with fail
                    clear b0 b1 b6 dm
                    go_loopw [154] (fun s154 wx => ∃ l : Nat, l ≤ m + 1 ∧ s154 = .int .i64 (l : Int) ∧ Hid (Below W7.heap.size W7 wx)) (fun s154 _ => m + 1 - (intOf s154).toNat)
                    case atStart => exact ⟨0, Nat.zero_le _, by go_num, Lib.hid (Below.refl _ _)⟩
                    case round =>
                      obtain ⟨l, hlm, rfl, hbl⟩ := hrel
                      by_cases hlt4 : l < m + 1
                      · have hget : (List.replicate (m + 1) (simW K))[l]? = some (simW K) := by rw [List.getElem?_replicate, if_pos hlt4]
                        obtain ⟨g, k1, x1, y1, nm1, aw1, nw1, cw1, ar1, nr1, cr1, ak1, nk1, ck1, rfl, hTg, hN1, m0, m1, m2, m3, m4, m5, m6⟩ := hk7H.out.node_at (by rw [List.length_replicate]) hget
                        have hcode7 : Hid (∀ Z, Below W7.heap.size W7 Z → Calls Tryz.prog 9 #[.agg #[.int .i64 k1, .bool x1, .bool y1, .string nm1, .slice aw1 nw1 cw1, .slice ar1 nr1 cr1, .slice ak1 nk1 ck1]] Z fun e w' => e = .returned (.string Y) ∧ Below Z.heap.size Z w') := Lib.hid (by
                          have := code_at hN1 hT7.out (nums_words K) hcl.out
                          rw [hY] at this
                          exact this)
                        have hKc : Hid (∀ Z, Below W7.heap.size W7 Z → Z.cell? ⟨q8, 6, none⟩ = some (.slice (some ⟨g, 0, none⟩) (m + 1) ckb) ∧ Z.cell? ⟨q5, 0, none⟩ = some (.int .i64 1) ∧ Z.cell? ⟨q5, 1, none⟩ = some (.bool false) ∧ Z.cell? ⟨q5, 2, none⟩ = some (.bool false) ∧ Z.cell? ⟨q5, 3, none⟩ = some (.string noB) ∧ Z.cell? ⟨q5, 4, none⟩ = some (.slice awa i cwa) ∧ Z.cell? ⟨q5, 5, none⟩ = some (.slice ara 0 cra) ∧ Z.cell? ⟨q5, 6, none⟩ = some (.slice aka 0 cka) ∧ Z.cell? ⟨g, l * 7, none⟩ = some (.int .i64 k1) ∧ Z.cell? ⟨g, l * 7 + 1, none⟩ = some (.bool x1) ∧ Z.cell? ⟨g, l * 7 + 2, none⟩ = some (.bool y1) ∧ Z.cell? ⟨g, l * 7 + 3, none⟩ = some (.string nm1) ∧ Z.cell? ⟨g, l * 7 + 4, none⟩ = some (.slice aw1 nw1 cw1) ∧ Z.cell? ⟨g, l * 7 + 5, none⟩ = some (.slice ar1 nr1 cr1) ∧ Z.cell? ⟨g, l * 7 + 6, none⟩ = some (.slice ak1 nk1 ck1)) := Lib.hid (fun Z hZ => by
                          have h5 : Blk Z q5 30 _ := (hZ.block q5 hE5'.out.lt).trans hE5'.out
                          have h8 : Blk Z q8 30 _ := (hZ.block q8 hE7.out.lt).trans hE7.out
                          have hg := hZ.block g (hT7.out g hTg)
                          exact ⟨h8.cell 6, h5.cell 0, h5.cell 1, h5.cell 2, h5.cell 3, h5.cell 4, h5.cell 5, h5.cell 6, (World.cell?_of_block hg).trans m0, (World.cell?_of_block hg).trans m1, (World.cell?_of_block hg).trans m2, (World.cell?_of_block hg).trans m3, (World.cell?_of_block hg).trans m4, (World.cell?_of_block hg).trans m5, (World.cell?_of_block hg).trans m6⟩)
                        have hb0 : Below W7.heap.size W7 wr := hbl.out
                        have hbd : Below W7.heap.size W7 wr.drew := hbl.out.drew
                        obtain ⟨b6, a0, a1, a2, a3, a4, a5, a6, k0', k1', k2', k3', k4', k5', k6'⟩ := hKc.out wr hb0
                        clear hget hN1 m0 m1 m2 m3 m4 m5 m6
                        go_upto_region 41 with fail
                        go_region_held3 (fun Z => Z.cell? ⟨q8, 6, none⟩ = some (.slice (some ⟨g, 0, none⟩) (m + 1) ckb) ∧ Z.cell? ⟨q5, 0, none⟩ = some (.int .i64 1) ∧ Z.cell? ⟨q5, 1, none⟩ = some (.bool false) ∧ Z.cell? ⟨q5, 2, none⟩ = some (.bool false) ∧ Z.cell? ⟨q5, 3, none⟩ = some (.string noB) ∧ Z.cell? ⟨q5, 4, none⟩ = some (.slice awa i cwa) ∧ Z.cell? ⟨q5, 5, none⟩ = some (.slice ara 0 cra) ∧ Z.cell? ⟨q5, 6, none⟩ = some (.slice aka 0 cka) ∧ Z.cell? ⟨g, l * 7, none⟩ = some (.int .i64 k1) ∧ Z.cell? ⟨g, l * 7 + 1, none⟩ = some (.bool x1) ∧ Z.cell? ⟨g, l * 7 + 2, none⟩ = some (.bool y1) ∧ Z.cell? ⟨g, l * 7 + 3, none⟩ = some (.string nm1) ∧ Z.cell? ⟨g, l * 7 + 4, none⟩ = some (.slice aw1 nw1 cw1) ∧ Z.cell? ⟨g, l * 7 + 5, none⟩ = some (.slice ar1 nr1 cr1) ∧ Z.cell? ⟨g, l * 7 + 6, none⟩ = some (.slice ak1 nk1 ck1)) (first | exact hKc.out _ (by assumption) | go_keep | fail)
                          ((first
                            | (go_at_call 9; with_reducible refine (hcode5.out _ (by assumption)).mono ?_; rintro e w4 ⟨rfl, hb⟩; have hb4 : Below W7.heap.size W7 w4 := onto (by assumption) hb; clear hb)
                            | (go_at_call 9; with_reducible refine (hcode7.out _ (by assumption)).mono ?_; rintro e w4 ⟨rfl, hb⟩; have hb5 : Below W7.heap.size W7 w4 := onto (by assumption) hb; clear hb)
                            | fail))
                        all_goals
                          go_wp2_with fail
                          go_roundw
                          case rel => exact ⟨l + 1, by omega, by go_num, Lib.hid (by assumption)⟩
                          case measure => simp [intOf]; omega
                      · obtain rfl : l = m + 1 := by omega
                        have b6 : wr.cell? ⟨q8, 6, none⟩ = some (.slice akb (m + 1) ckb) := (World.cell?_of_block (hbl.out.block q8 hE7.out.lt)).trans (hE7.out.cell 6)
                        go_wp2_with fail
                        go_ret
                        exact ⟨rfl, onto hB7.out hbl.out⟩
end Go.Proofs.YtnhbcmhinhncfaaGreatDoor
