/- The contract of the reference's Fields. Condition: the bulk. -/
import Derived.Test.YtlaidmjlgjpgcaaSplAD
namespace Go.Proofs.Ytlaidmjlgjpgcaa
open Go.RowKit
attribute [local go_sem] Oper.semAt_some

/-- Where the reference stands behind the parts so far. -/
structure RAt (n₀ : Nat) (w : World) (m : Mk) (vf vc : Value) (s : Bool) (W : World) : Prop where
  rf : Rf n₀ m vf vc W
  so : m.b = false → s = m.s ∧ m.f = []
  sz : m.fs.length + m.f.length ≤ 2000000
  be : Below n₀ w W
def isIt (ifs : ByteArray) (p : Pc) (c : UInt8) : Bool := p.q || !p.sp || !isSep ifs c
theorem mkP_it {ifs : ByteArray} {p : Pc} {c : UInt8} (h : isIt ifs p c = true) : mkP ifs p c = .it c p.q := by
  unfold isIt at h; unfold mkP
  cases h1 : p.q <;> cases h2 : p.sp <;> cases h3 : isSep ifs c <;> simp [h1, h2, h3] at h ⊢
theorem mkP_sep {ifs : ByteArray} {p : Pc} {c : UInt8} (h : isIt ifs p c = false) : mkP ifs p c = (bif isBlank c then .sf c else .hd c) := by
  unfold isIt at h; unfold mkP
  cases h1 : p.q <;> cases h2 : p.sp <;> cases h3 : isSep ifs c <;> simp [h1, h2, h3] at h ⊢
/-- The parts of the first j bytes of a piece, its head among them. -/
def upTo (ifs : ByteArray) (p : Pc) (j : Nat) : List Pt := ((headP p).map ptOf) ++ ((p.t.data.toList.take j).map (mkP ifs p)).map ptOf
theorem upTo_snoc (ifs : ByteArray) (p : Pc) {j : Nat} {c : UInt8} (h : p.t.data.toList[j]? = some c) : upTo ifs p (j + 1) = upTo ifs p j ++ [ptOf (mkP ifs p c)] := by
  unfold upTo
  rw [snoc_take h, List.map_append, List.map_append, List.append_assoc]; rfl
theorem upTo_all (ifs : ByteArray) (p : Pc) : upTo ifs p p.t.size = (partsP ifs p).map ptOf := by
  unfold upTo partsP bytesP
  have e : p.t.data.toList.length = p.t.size := rfl
  rw [← e, List.take_length, List.map_append]
theorem parts_snoc (ifs : ByteArray) {ps : List Pc} {i : Nat} {p : Pc} (h : ps[i]? = some p) : (partsOf ifs (ps.take (i + 1))).map ptOf = (partsOf ifs (ps.take i)).map ptOf ++ (partsP ifs p).map ptOf := by
  rw [snoc_take h]; unfold partsOf; rw [List.flatMap_append, List.map_append]; simp
/-- The maker behind the first pieces and j bytes of the next. -/
def mAt (ifs : ByteArray) (ps : List Pc) (p : Pc) (i j : Nat) : Mk := fold (fold mk0 ((partsOf ifs (ps.take i)).map ptOf)) (upTo ifs p j)
theorem mAt_size (ifs : ByteArray) {ps : List Pc} {p : Pc} {i : Nat} (h : ps[i]? = some p) (hz : (bytesCat ps).length + ps.length * 4 ≤ 1048576) (j : Nat) : (mAt ifs ps p i j).fs.length + (mAt ifs ps p i j).f.length ≤ 1048576 := by
  have h1 := fold_size (upTo ifs p j) (fold mk0 ((partsOf ifs (ps.take i)).map ptOf))
  have h2 := fold_size ((partsOf ifs (ps.take i)).map ptOf) mk0
  have h3 := parts_len ifs (ps.take i)
  have h4 := bytesCat_le h
  have h5 : (upTo ifs p j).length ≤ 1 + p.t.size := by
    unfold upTo headP
    have e : p.t.data.toList.length = p.t.size := rfl
    have e2 := List.length_take_le j p.t.data.toList
    rw [List.length_append, List.length_map, List.length_map, List.length_map]
    cases p.q
    · simp; omega
    · simp; omega
  have h6 : i < ps.length := (List.getElem?_eq_some_iff.1 h).1
  have h7 : (ps.take i).length ≤ i := List.length_take_le _ _
  rw [List.length_map] at h2
  have e0 : mk0.fs.length + mk0.f.length = 0 := rfl
  unfold mAt
  omega
theorem mAt_inv (ifs : ByteArray) (ps : List Pc) (p : Pc) (i j : Nat) : (mAt ifs ps p i j).b = false → (mAt ifs ps p i j).f = [] :=
  inv_fold _ _ (inv_fold _ _ (fun _ => rfl))
theorem fold_snoc (m : Mk) (l : List Pt) (x : Pt) : fold m (l ++ [x]) = (fold m l).step x := by rw [fold_append]; rfl

theorem step_hd_nil {m : Mk} (h : m.b = false) (hf : m.f = []) (hs : m.s = false) : m.step .hd = ⟨m.fs ++ [[]], m.f, false, false⟩ := by
  unfold Mk.step; rw [h, hs, hf]; rfl
theorem step_hd_soft {m : Mk} (h : m.b = false) (hf : m.f = []) (hs : m.s = true) : m.step .hd = ⟨m.fs, m.f, false, false⟩ := by
  unfold Mk.step; rw [h, hs, hf]; rfl
theorem step_sf_no {m : Mk} (h : m.b = false) (hf : m.f = []) : m.step .sf = m := by
  obtain ⟨a, b, c, d⟩ := m
  simp only at h hf
  subst h hf
  rfl
theorem step_yes {m : Mk} (h : m.b = true) (sb : Bool) (c : UInt8) : m.step (ptOf (bif sb then Pr.sf c else Pr.hd c)) = ⟨m.fs ++ [m.f], [], false, sb⟩ := by
  cases sb
  · show m.step .hd = _
    unfold Mk.step; rw [h]; rfl
  · show m.step .sf = _
    unfold Mk.step; rw [h]; rfl

set_option maxHeartbeats 8000000 in
set_option maxRecDepth 100000 in
theorem refFields_any (av : Option Addr) (n cv : Nat) (ps : List Pc) (ifs : ByteArray) (w : World) (hn : ps.length = n) (hP : PcsAt w.heap.size w av ps) (hz : (bytesCat ps).length + ps.length * 4 ≤ 1048576) (hi : ifs.size ≤ 9223372036854775807) :
    Calls Try.prog 28 #[.slice av n cv, .string ifs] w fun e w' => Below w.heap.size w w' ∧ ((∃ v, ¬ tooMany (fold mk0 ((partsOf ifs ps).map ptOf)).fin.fs ∧ e = .returned (.tuple #[v, .int .i64 0]) ∧ FlsAt w.heap.size w' v (fold mk0 ((partsOf ifs ps).map ptOf)).fin.fs) ∨ (tooMany (fold mk0 ((partsOf ifs ps).map ptOf)).fin.fs ∧ e = .returned (.tuple #[.slice none 0 0, .int .i64 66]))) := by
  obtain ⟨i22, hi22, hz220, hz221, hz222⟩ := info_parts info22
  obtain ⟨i33, hi33, hz330, hz331, hz332⟩ := info_parts info33
  have hnH := Lib.hid hn
  have hPH := Lib.hid hP
  have hzH := Lib.hid hz
  rw [hn] at hz
  have hn2 : n ≤ 262144 := by omega
  clear hn hP hz
  obtain ⟨n₀, hn₀⟩ : ∃ n₀, w.heap.size = n₀ := ⟨_, rfl⟩
  rw [hn₀] at hPH ⊢
  have hn₀H := Lib.hid hn₀
  have hn₀' : n₀ ≤ w.heap.size := by omega
  clear hn₀
  obtain ⟨M, hM⟩ : ∃ M, fold mk0 ((partsOf ifs ps).map ptOf) = M := ⟨_, rfl⟩
  rw [hM]
  have hMH := Lib.hid hM
  clear hM
  go_enter Try.func28, Try.ntmps28
  go_wp2_with fail
  go_loopw [10, 6, 7, 8, 9] (fun s10 s6 s7 s8 s9 wr => ∃ (i : Nat) (m : Mk) (s : Bool), i ≤ n ∧ s10 = .int .i64 i ∧ s8 = .bool m.b ∧ s9 = .bool s ∧ Hid (fold mk0 ((partsOf ifs (ps.take i)).map ptOf) = m) ∧ RAt n₀ w m s6 s7 s wr) (fun s10 _ _ _ _ _ => n - (intOf s10).toNat)
  case atStart => exact ⟨0, mk0, false, Nat.zero_le _, rfl, rfl, rfl, Lib.hid rfl, ⟨⟨⟨[], World.ownsRow_nil _ _ _ _, rfl, fun j v f h => by simp at h⟩, World.ownsRow_nil _ _ _ _⟩, fun _ => ⟨rfl, rfl⟩, by decide, Below.refl _ _⟩⟩
  case round =>
    obtain ⟨i, m, s, hi1, rfl, rfl, rfl, hm, hR⟩ := hrel
    obtain ⟨wo, rfl⟩ : ∃ wo : World, wo = wr := ⟨_, rfl⟩
    have hwr := hR.be.size
    by_cases hlt : i < n
    · obtain ⟨p, hp⟩ : ∃ p, ps[i]? = some p := ⟨_, List.getElem?_eq_getElem (by rw [hnH.out]; exact hlt)⟩
      obtain ⟨g, off, rfl, hg, c0, c1, c2, _⟩ := hPH.out i p hp
      have d0 := (hR.be.cell (p := ⟨g, off + i * 3, none⟩) hg).trans c0
      have d1 := (hR.be.cell (p := ⟨g, off + i * 3 + 1, none⟩) hg).trans c1
      have d2 := (hR.be.cell (p := ⟨g, off + i * 3 + 2, none⟩) hg).trans c2
      have hlt' : (i : Int) < (n : Int) := by omega
      obtain ⟨pt, pq, psp⟩ := p
      simp only at d0 d1 d2
      have hpH := Lib.hid hp
      have hRH := Lib.hid hR
      have hps : pt.size ≤ 1048576 := by
        have := bytesCat_le hp
        have := hzH.out
        have e : (Pc.mk pt pq psp).t.size = pt.size := rfl
        omega
      obtain ⟨p, hpe⟩ : ∃ p, Pc.mk pt pq psp = p := ⟨_, rfl⟩
      have hpeH : Hid (p.t = pt ∧ p.q = pq ∧ p.sp = psp) := Lib.hid (by rw [← hpe]; exact ⟨rfl, rfl, rfl⟩)
      rw [hpe] at hpH
      clear hR hp c0 c1 c2 hpe
      obtain ⟨b0, hb0⟩ : ∃ b0, wo.heap.size = b0 := ⟨_, rfl⟩
      obtain ⟨wa, hwa⟩ : ∃ wa, wo.alloc (.cells #[.string pt, .bool pq, .bool psp] 39) = wa := ⟨_, rfl⟩
      have hBlk : Hid (Blk wa b0 39 #[.string pt, .bool pq, .bool psp]) := Lib.hid (by rw [← hwa, ← hb0]; exact Blk.new wo 39 _)
      have hRa : Hid (RAt n₀ w m u6 u7 s wa) := Lib.hid (by rw [← hwa]; exact ⟨hRH.out.rf.alloc _, hRH.out.so, hRH.out.sz, hRH.out.be.alloc (by omega) _⟩)
      have hb0n : n₀ ≤ b0 := by omega
      have hwaH := Lib.hid hwa
      have hb0H := Lib.hid hb0
      clear hwa hb0
      go_upto_if 27 with fail
      rw [hwaH.out, hb0H.out]
      go_cut [8, 9] (fun s8 s9 wx => ∃ (m' : Mk) (s' : Bool), s8 = .bool m'.b ∧ s9 = .bool s' ∧ Hid (mAt ifs ps p i 0 = m' ∧ RAt n₀ w m' u6 u7 s' wa) ∧ wa = wx)
      case first =>
        cases pq
        · go_wp2_with fail
          go_meet
          refine ⟨m, s, rfl, rfl, Lib.hid ⟨?_, hRa.out⟩, rfl⟩
          unfold mAt upTo headP
          rw [hpeH.out.2.1, hm.out]; rfl
        · go_wp2_with fail
          go_meet
          refine ⟨{ m with b := true }, false, rfl, rfl, Lib.hid ⟨?_, ⟨⟨hRa.out.rf.rf, hRa.out.rf.rc⟩, (fun h => by cases h), hRa.out.sz, hRa.out.be⟩⟩, rfl⟩
          unfold mAt upTo headP
          rw [hpeH.out.2.1, hm.out]; rfl
      case rest =>
        obtain ⟨m', s', rfl, rfl, hm', rfl⟩ := hcut
        clear hm hRH hRa
        have e0 := hBlk.out.cell 0
        go_wp2_with fail
        go_loopw [12, 6, 7, 8, 9] (fun s12 s6 s7 s8 s9 wx => ∃ (j : Nat) (m : Mk) (s : Bool), j ≤ pt.size ∧ s12 = .int .i64 j ∧ s8 = .bool m.b ∧ s9 = .bool s ∧ Hid (mAt ifs ps p i j = m ∧ RAt n₀ w m s6 s7 s wx ∧ Blk wx b0 39 #[.string pt, .bool pq, .bool psp])) (fun s12 _ _ _ _ _ => pt.size - (intOf s12).toNat)
        case atStart => exact ⟨0, m', s', Nat.zero_le _, rfl, rfl, rfl, Lib.hid ⟨hm'.out.1, hm'.out.2, hBlk.out⟩⟩
        case round =>
          obtain ⟨j, m, s, hj, rfl, rfl, rfl, hRel⟩ := hrel
          clear hm' e0
          obtain ⟨wb, rfl⟩ : ∃ wb : World, wb = wr := ⟨_, rfl⟩
          have e0 := hRel.out.2.2.cell 0
          have e1 := hRel.out.2.2.cell 1
          have e2 := hRel.out.2.2.cell 2
          simp only [List.getElem?_toArray, List.getElem?_cons_zero, List.getElem?_cons_succ] at e0 e1 e2
          by_cases hlt2 : j < pt.size
          · have hlt2' : (j : Int) < (pt.size : Int) := by omega
            obtain ⟨c, hc⟩ : ∃ c, pt[j] = c := ⟨_, rfl⟩
            have hcH : Hid (p.t.data.toList[j]? = some c) := Lib.hid (by rw [hpeH.out.1, ← hc]; exact List.getElem?_eq_getElem hlt2)
            have hms : Hid ((mAt ifs ps p i (j + 1)) = m.step (ptOf (mkP ifs p c))) := Lib.hid (by
              rw [← hRel.out.1]
              unfold mAt
              rw [upTo_snoc ifs p hcH.out, fold_snoc])
            have hsz : Hid ((mAt ifs ps p i (j + 1)).fs.length + (mAt ifs ps p i (j + 1)).f.length ≤ 1048576) := Lib.hid (mAt_size ifs hpH.out hzH.out _)
            have hinv : Hid ((mAt ifs ps p i (j + 1)).b = false → (mAt ifs ps p i (j + 1)).f = []) := Lib.hid (mAt_inv ifs ps p i _)
            rw [hms.out] at hsz hinv
            have hRA : Hid (RAt n₀ w m u6 u7 s wb) := Lib.hid hRel.out.2.1
            have hfl : m.f.length ≤ 2000000 := by have := hRA.out.sz; omega
            have hfsl : m.fs.length ≤ 2000000 := by have := hRA.out.sz; omega
            obtain ⟨a6, c6, hu6⟩ : ∃ a6 c6, u6 = .slice a6 m.fs.length c6 := by obtain ⟨sl, h1, _⟩ := hRA.out.rf.rf; exact ownsRow_slice h1
            obtain ⟨a7, c7, hu7⟩ := ownsRow_slice hRA.out.rf.rc
            subst hu6 hu7
            have hwb := hRA.out.be.size
            have hBk : Hid (Blk wb b0 39 #[.string pt, .bool pq, .bool psp]) := Lib.hid hRel.out.2.2
            clear hRel
            go_upto_region 16 with (rw [hc])
            go_cut [51] (fun s51 wx => s51 = .bool (isIt ifs p c) ∧ wb = wx)
            case first =>
              have hit : Hid (isIt ifs p c = (pq || !psp || !isSep ifs c)) := Lib.hid (by unfold isIt; rw [hpeH.out.2.1, hpeH.out.2.2])
              cases pq
              · cases psp
                · go_wp2_with fail
                  go_meet
                  exact ⟨by rw [hit.out]; rfl, rfl⟩
                · go_wp2_with (go_at_call 44; refine (has_any ifs c _ hi).mono ?_; rintro e w' ⟨rfl, rfl⟩)
                  go_meet
                  exact ⟨by rw [hit.out]; simp, rfl⟩
              · go_wp2_with fail
                go_meet
                exact ⟨by rw [hit.out]; simp, rfl⟩
            case rest =>
              obtain ⟨rfl, rfl⟩ := hcut
              clear e0 e2 hc
              cases hit : isIt ifs p c
              · -- a separator
                rw [mkP_sep hit] at hms hsz hinv
                clear e1
                go_upto_region 20 with fail
                go_cut [14] (fun s14 wx => s14 = .bool (isBlank c) ∧ wb = wx)
                case first =>
                  have hbk : Hid (isBlank c = decide (c.toNat = 9 ∨ c.toNat = 10 ∨ c.toNat = 32)) := Lib.hid rfl
                  by_cases h9 : c.toNat = 9
                  · have e1 : ((c.toNat : Int) == 9) = true := by rw [h9]; rfl
                    have hf : Hid (isBlank c = true) := Lib.hid (by rw [hbk.out]; exact decide_eq_true (.inl h9))
                    clear h9
                    go_wp2_with fail
                    go_meet
                    exact ⟨by rw [hf.out], rfl⟩
                  · by_cases h10 : c.toNat = 10
                    · have e1 : ((c.toNat : Int) == 9) = false := by rw [h10]; rfl
                      have e2 : ((c.toNat : Int) == 10) = true := by rw [h10]; rfl
                      have hf : Hid (isBlank c = true) := Lib.hid (by rw [hbk.out]; exact decide_eq_true (.inr (.inl h10)))
                      clear h9 h10
                      go_wp2_with fail
                      go_meet
                      exact ⟨by rw [hf.out], rfl⟩
                    · by_cases h32 : c.toNat = 32
                      · have e1 : ((c.toNat : Int) == 9) = false := by rw [h32]; rfl
                        have e2 : ((c.toNat : Int) == 10) = false := by rw [h32]; rfl
                        have e3 : ((c.toNat : Int) == 32) = true := by rw [h32]; rfl
                        have hf : Hid (isBlank c = true) := Lib.hid (by rw [hbk.out]; exact decide_eq_true (.inr (.inr h32)))
                        clear h9 h10 h32
                        go_wp2_with fail
                        go_meet
                        exact ⟨by rw [hf.out], rfl⟩
                      · have e1 : ((c.toNat : Int) == 9) = false := beq_eq_false_iff_ne.2 (by omega)
                        have e2 : ((c.toNat : Int) == 10) = false := beq_eq_false_iff_ne.2 (by omega)
                        have e3 : ((c.toNat : Int) == 32) = false := beq_eq_false_iff_ne.2 (by omega)
                        have hf : Hid (isBlank c = false) := Lib.hid (by rw [hbk.out]; exact decide_eq_false (by omega))
                        clear h9 h10 h32
                        go_wp2_with fail
                        go_meet
                        exact ⟨by rw [hf.out], rfl⟩
                case rest =>
                  obtain ⟨rfl, rfl⟩ := hcut
                  obtain ⟨sl, hsl, hsA⟩ := hRA.out.rf.rf
                  have hslH := Lib.hid hsl
                  have hsAH := Lib.hid hsA
                  clear hsl hsA
                  obtain ⟨bb, hbb⟩ : ∃ bb, m.b = bb := ⟨_, rfl⟩
                  rw [hbb]
                  have hbbH := Lib.hid hbb
                  clear hbb
                  cases bb
                  · obtain ⟨hs, hf0⟩ := hRA.out.so hbbH.out
                    have hsH := Lib.hid hs
                    have hf0H := Lib.hid hf0
                    clear hs hf0
                    cases hbl : isBlank c
                    · rw [hbl] at hms hsz hinv
                      clear hbl hit
                      cases s
                      · have hst : Hid (m.step .hd = ⟨m.fs ++ [[]], m.f, false, false⟩) := Lib.hid (step_hd_nil hbbH.out hf0H.out hsH.out.symm)
                        go_wp2_with (at_builtin; refine wpList_append_own_at _ rfl (.tmp 69) (.tmp 70) 40 rfl n₀ 22 i22 _ 1 24 Try.underlying40 hi22 hz220 hz221 hz222 rfl (by decide) (.slice a6 m.fs.length c6) m.fs.length sl rfl (hslH.out.alloc _) ⟨wb.heap.size, 0, none⟩ 1 1 [.slice none 0 0] rfl rfl (World.news_of_block (cs := #[.slice none 0 0]) (t := 22) (fr := (0, 0)) (heap_alloc_new wb _)) (by simp [Value.oneCell']) (by unfold maxLen; omega) (by omega) (by simp; omega) ?_; intro v' w2 own2 hgrow _ hat)
                        have hRf2 : Hid (Rf n₀ ⟨m.fs ++ [[]], m.f, false, false⟩ v' (.slice a7 m.f.length c7) w2) := Lib.hid (Rf.pushNil ⟨hsAH.out.1, fun j v f h1 h2 => ⟨(hsAH.out.2 j v f h1 h2).1.alloc _, (hsAH.out.2 j v f h1 h2).2⟩⟩ (hslH.out.alloc _) (hRA.out.rf.rc.alloc _) hgrow own2 _ _)
                        have hbe2 : Hid (Below n₀ w w2) := Lib.hid ((hRA.out.be.alloc (by omega) _).grown hgrow (by simp; omega) (fun q e => (hslH.out.lt q e).1))
                        have hBk2 : Hid (Blk w2 b0 39 #[.string pt, .bool pq, .bool psp]) := Lib.hid ((hgrow.block b0 (by have := hBk.out.lt; simp; omega) (row_ne hBk.out (by decide) hslH.out)).trans (hBk.out.alloc _))
                        clear own2 hgrow hat
                        go_wp2_with fail
                        go_roundw
                        case rel => exact ⟨j + 1, ⟨m.fs ++ [[]], m.f, false, false⟩, false, by omega, by go_num, rfl, rfl, Lib.hid ⟨hms.out.trans hst.out, ⟨hRf2.out, fun _ => ⟨rfl, hf0H.out⟩, by have := hsz.out; rw [show ptOf (bif false then Pr.sf c else Pr.hd c) = .hd from rfl, hst.out] at this; exact Nat.le_trans this (by decide), hbe2.out⟩, hBk2.out⟩⟩
                        case measure => simp [intOf]; omega
                      · have hst : Hid (m.step .hd = ⟨m.fs, m.f, false, false⟩) := Lib.hid (step_hd_soft hbbH.out hf0H.out hsH.out.symm)
                        go_wp2_with fail
                        go_roundw
                        case rel => exact ⟨j + 1, ⟨m.fs, m.f, false, false⟩, false, by omega, by go_num, rfl, rfl, Lib.hid ⟨hms.out.trans hst.out, ⟨⟨hRA.out.rf.rf, hRA.out.rf.rc⟩, fun _ => ⟨rfl, hf0H.out⟩, hRA.out.sz, hRA.out.be⟩, hBk.out⟩⟩
                        case measure => simp [intOf]; omega
                    · rw [hbl] at hms hsz hinv
                      clear hbl hit
                      have hst : Hid (m.step .sf = m) := Lib.hid (step_sf_no hbbH.out hf0H.out)
                      go_wp2_with fail
                      go_roundw
                      case rel => exact ⟨j + 1, m, s, by omega, by go_num, by rw [hbbH.out], rfl, Lib.hid ⟨hms.out.trans hst.out, hRA.out, hBk.out⟩⟩
                      case measure => simp [intOf]; omega
                  · obtain ⟨sb, hsb⟩ : ∃ sb, isBlank c = sb := ⟨_, rfl⟩
                    rw [hsb] at hms hsz hinv
                    rw [hsb]
                    clear hsb hit
                    have hst : Hid (m.step (ptOf (bif sb then Pr.sf c else Pr.hd c)) = ⟨m.fs ++ [m.f], [], false, sb⟩) := Lib.hid (step_yes hbbH.out sb c)
                    go_wp2_with (at_builtin; refine wpList_append_own_at _ rfl (.tmp 74) (.tmp 76) 40 rfl n₀ 22 i22 _ 1 24 Try.underlying40 hi22 hz220 hz221 hz222 rfl (by decide) (.slice a6 m.fs.length c6) m.fs.length sl rfl (hslH.out.alloc _) ⟨wb.heap.size, 0, none⟩ 1 1 [.slice a7 m.f.length c7] rfl rfl (World.news_of_block (cs := #[.slice a7 m.f.length c7]) (t := 22) (fr := (0, 0)) (heap_alloc_new wb _)) (by simp [Value.oneCell']) (by unfold maxLen; omega) (by omega) (by simp; omega) ?_; intro v' w2 own2 hgrow _ hat)
                    have hRf2 : Hid (Rf n₀ ⟨m.fs ++ [m.f], [], false, sb⟩ v' (.slice none 0 0) w2) := Lib.hid (Rf.push ⟨hsAH.out.1, fun j v f h1 h2 => ⟨(hsAH.out.2 j v f h1 h2).1.alloc _, (hsAH.out.2 j v f h1 h2).2⟩⟩ (hslH.out.alloc _) (hRA.out.rf.rc.alloc _) hgrow own2 _ _)
                    have hbe2 : Hid (Below n₀ w w2) := Lib.hid ((hRA.out.be.alloc (by omega) _).grown hgrow (by simp; omega) (fun q e => (hslH.out.lt q e).1))
                    have hBk2 : Hid (Blk w2 b0 39 #[.string pt, .bool pq, .bool psp]) := Lib.hid ((hgrow.block b0 (by have := hBk.out.lt; simp; omega) (row_ne hBk.out (by decide) hslH.out)).trans (hBk.out.alloc _))
                    clear own2 hgrow hat
                    go_wp2_with fail
                    go_roundw
                    case rel => exact ⟨j + 1, ⟨m.fs ++ [m.f], [], false, sb⟩, sb, by omega, by go_num, rfl, rfl, Lib.hid ⟨hms.out.trans hst.out, ⟨hRf2.out, fun _ => ⟨rfl, rfl⟩, by have := hsz.out; rw [hst.out] at this; exact Nat.le_trans this (by decide), hbe2.out⟩, hBk2.out⟩⟩
                    case measure => simp [intOf]; omega
              · have hmk := mkP_it hit
                rw [hmk] at hms hsz hinv
                rw [hpeH.out.2.1] at hms hsz hinv
                clear hmk
                go_wp2_with (at_builtin; refine wpList_append_own_at _ rfl (.tmp 52) (.tmp 57) 22 rfl n₀ 33 i33 _ 2 2 Try.underlying22 hi33 hz330 hz331 hz332 rfl (by decide) (.slice a7 m.f.length c7) m.f.length (chv m.f) rfl (hRA.out.rf.rc.alloc _) ⟨wb.heap.size, 0, none⟩ 1 1 [.int .u8 (c.toNat : Int), .bool pq] rfl rfl (World.news_of_block (cs := #[.int .u8 (c.toNat : Int), .bool pq]) (t := 33) (fr := (0, 0)) (heap_alloc_new wb _)) (by simp [Value.oneCell']) (by unfold maxLen; omega) (by omega) (by simp; omega) ?_; intro v' w2 own2 hgrow _ hat)
                have hRf2 : Hid (Rf n₀ (m.step (.it (c, pq))) (.slice a6 m.fs.length c6) v' w2) := Lib.hid ((hRA.out.rf.alloc _).take hgrow own2 hat)
                have hbe2 : Hid (Below n₀ w w2) := Lib.hid ((hRA.out.be.alloc (by omega) _).grown hgrow (by simp; omega) (fun q e => (hRA.out.rf.rc.lt q e).1))
                have hBk2 : Hid (Blk w2 b0 39 #[.string pt, .bool pq, .bool psp]) := Lib.hid ((hgrow.block b0 (by have := hBk.out.lt; simp; omega) (row_ne hBk.out (by decide) hRA.out.rf.rc)).trans (hBk.out.alloc _))
                clear own2 hgrow hat
                go_wp2_with fail
                go_roundw
                case rel => exact ⟨j + 1, m.step (.it (c, pq)), false, by omega, by go_num, rfl, rfl, Lib.hid ⟨hms.out, ⟨hRf2.out, (fun h => by cases h), by have := hsz.out; exact Nat.le_trans this (by decide), hbe2.out⟩, hBk2.out⟩⟩
                case measure => simp [intOf]; omega
          · have hlt2' : ¬ (j : Int) < (pt.size : Int) := by omega
            obtain rfl : j = pt.size := by omega
            have hmA : Hid (fold mk0 ((partsOf ifs (ps.take (i + 1))).map ptOf) = m) := Lib.hid (by
              rw [← hRel.out.1, parts_snoc ifs hpH.out, fold_append]
              unfold mAt
              rw [← upTo_all, hpeH.out.1])
            have hRA : Hid (RAt n₀ w m u6 u7 s wb) := Lib.hid hRel.out.2.1
            clear hRel e1 e2
            go_wp2_with fail
            go_roundw
            case rel => exact ⟨i + 1, m, s, by omega, by go_num, rfl, rfl, hmA, hRA.out⟩
            case measure => simp [intOf]; omega
    · have hlt' : ¬ (i : Int) < (n : Int) := by omega
      obtain rfl : i = n := by omega
      have hmA : Hid (fold mk0 ((partsOf ifs ps).map ptOf) = m) := Lib.hid (by rw [← hm.out, show ps.take i = ps by rw [← hnH.out, List.take_length]])
      have hRH := Lib.hid hR
      have hfl : m.f.length ≤ 2000000 := by have := hR.sz; omega
      have hfsl : m.fs.length ≤ 2000000 := by have := hR.sz; omega
      obtain ⟨sl, hsl, hsA⟩ := hR.rf.rf
      obtain ⟨a6, c6, rfl⟩ := ownsRow_slice hsl
      obtain ⟨a7, c7, rfl⟩ := ownsRow_slice hR.rf.rc
      have hslH := Lib.hid hsl
      have hsAH := Lib.hid hsA
      clear hR hsl hsA
      obtain ⟨bb, hbb⟩ : ∃ bb, m.b = bb := ⟨_, rfl⟩
      have hbbH := Lib.hid hbb
      rw [hbb]
      clear hbb
      go_upto_if 83 with fail
      go_cut [6] (fun s6 wx => Hid (FlsAt n₀ wx s6 m.fin.fs ∧ Below n₀ w wx))
      case first =>
        cases bb
        · have hfin : Hid (m.fin.fs = m.fs) := Lib.hid (by unfold Mk.fin; rw [hbbH.out]; rfl)
          go_wp2_with fail
          go_meet
          exact Lib.hid ⟨by rw [hfin.out]; exact ⟨sl, hslH.out, hsAH.out.1, fun j u f h1 h2 => (hsAH.out.2 j u f h1 h2).1⟩, hRH.out.be⟩
        · have hfin : Hid (m.fin.fs = m.fs ++ [m.f]) := Lib.hid (by unfold Mk.fin; rw [hbbH.out]; rfl)
          go_wp2_with (at_builtin; refine wpList_append_own_at _ rfl (.tmp 84) (.tmp 86) 40 rfl n₀ 22 i22 _ 1 24 Try.underlying40 hi22 hz220 hz221 hz222 rfl (by decide) (.slice a6 m.fs.length c6) m.fs.length sl rfl (hslH.out.alloc _) ⟨wo.heap.size, 0, none⟩ 1 1 [.slice a7 m.f.length c7] rfl rfl (World.news_of_block (cs := #[.slice a7 m.f.length c7]) (t := 22) (fr := (0, 0)) (heap_alloc_new wo _)) (by simp [Value.oneCell']) (by unfold maxLen; omega) (by omega) (by simp; omega) ?_; intro v' w2 own2 hgrow _ hat)
          have hRf2 : Hid (Rf n₀ ⟨m.fs ++ [m.f], [], false, false⟩ v' (.slice none 0 0) w2) := Lib.hid (Rf.push ⟨hsAH.out.1, fun j v f h1 h2 => ⟨(hsAH.out.2 j v f h1 h2).1.alloc _, (hsAH.out.2 j v f h1 h2).2⟩⟩ (hslH.out.alloc _) (hRH.out.rf.rc.alloc _) hgrow own2 _ _)
          have hbe2 : Hid (Below n₀ w w2) := Lib.hid ((hRH.out.be.alloc (by omega) _).grown hgrow (by simp; omega) (fun q e => (hslH.out.lt q e).1))
          clear own2 hgrow hat
          go_wp2_with fail
          go_meet
          exact Lib.hid ⟨by rw [hfin.out]; obtain ⟨sl2, k1, k2⟩ := hRf2.out.rf; exact ⟨sl2, k1, k2.1, fun j u f h1 h2 => (k2.2 j u f h1 h2).1⟩, hbe2.out⟩
      case rest =>
        have hcutH := hcut
        clear hcut hslH hsAH
        obtain ⟨L, hL⟩ : ∃ L, m.fin.fs = L := ⟨_, rfl⟩
        rw [hL] at hcutH
        have hML : Hid (M.fin.fs = L) := Lib.hid (by rw [← hMH.out, hmA.out, hL])
        have hLl : L.length ≤ 2000001 := by
          rw [← hL]; unfold Mk.fin
          cases m.b
          · show m.fs.length ≤ _; omega
          · show (m.fs ++ [m.f]).length ≤ _; rw [List.length_append, List.length_singleton]; omega
        clear hL hRH hmA hm
        obtain ⟨av6, cv6, hv6, _, hget⟩ := hcutH.out.1.get
        subst hv6
        have hgetH := Lib.hid hget
        obtain ⟨q, hq⟩ : ∃ q, L.length = q := ⟨_, rfl⟩
        rw [hq] at hLl ⊢
        have hqH := Lib.hid hq
        clear hget hq
        go_wp2_with fail
        go_loop [15] (fun s15 => ∃ j : Nat, j ≤ q ∧ s15 = .int .i64 j ∧ Hid (∀ k f, k < j → L[k]? = some f → f.length ≤ 4096)) (fun s15 => q - (intOf s15).toNat)
        case atStart => exact ⟨0, Nat.zero_le _, rfl, Lib.hid (fun k f h => by omega)⟩
        case round =>
          obtain ⟨j, hj, rfl, hall⟩ := hrel
          by_cases hjq : j < q
          · have hjq' : (j : Int) < (q : Int) := by omega
            obtain ⟨f, hf⟩ : ∃ f, L[j]? = some f := ⟨_, List.getElem?_eq_getElem (by rw [hqH.out]; exact hjq)⟩
            obtain ⟨g, u, hg1, hg2, hg3, hg4, hg5⟩ := hgetH.out j f hf
            obtain ⟨a, c, rfl⟩ := ownsRow_slice hg5
            obtain ⟨z, hz⟩ : ∃ z, f.length = z := ⟨_, rfl⟩
            rw [hz] at hg4
            have hzH := Lib.hid hz
            have hfH := Lib.hid hf
            subst hg1
            clear hg5 hz hf
            by_cases hbig : (4096 : Int) < z
            · have ht : Hid (tooMany L) := Lib.hid (.inr ⟨f, List.mem_of_getElem? hfH.out, by rw [hzH.out]; omega⟩)
              go_wp2_with fail
              go_ret2
              exact ⟨hcutH.out.2, .inr ⟨by rw [hML.out]; exact ht.out, rfl⟩⟩
            · go_wp2_with fail
              go_round
              case rel => exact ⟨j + 1, by omega, by go_num, Lib.hid (fun k f' hk hf' => by
                by_cases e : k = j
                · subst e
                  rw [hfH.out] at hf'
                  obtain rfl := Option.some.inj hf'
                  have := hzH.out
                  omega
                · exact hall.out k f' (by omega) hf')⟩
              case measure => simp [intOf]; omega
          · have hjq' : ¬ (j : Int) < (q : Int) := by omega
            obtain rfl : j = q := by omega
            by_cases hbig : (200 : Int) < j
            · have ht : Hid (tooMany L) := Lib.hid (.inl (by rw [hqH.out]; omega))
              go_wp2_with fail
              go_ret2
              exact ⟨hcutH.out.2, .inr ⟨by rw [hML.out]; exact ht.out, rfl⟩⟩
            · have ht : Hid (¬ tooMany L) := Lib.hid (by
                rintro (h | ⟨f, h1, h2⟩)
                · rw [hqH.out] at h; omega
                · obtain ⟨k, hk⟩ := List.mem_iff_getElem?.1 h1
                  have hk2 := (List.getElem?_eq_some_iff.1 hk).1
                  have := hall.out k f (by rw [← hqH.out]; exact hk2) hk
                  omega)
              go_wp2_with fail
              go_ret2
              exact ⟨hcutH.out.2, .inl ⟨by rw [hML.out]; exact ht.out, .slice av6 j cv6, rfl, by rw [hML.out]; have h3 := hcutH.out.1; rw [hqH.out] at h3; exact h3⟩⟩
end Go.Proofs.Ytlaidmjlgjpgcaa
