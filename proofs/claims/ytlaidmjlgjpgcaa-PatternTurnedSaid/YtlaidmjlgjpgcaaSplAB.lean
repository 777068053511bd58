/- SplitPieces' walk. Condition: the bulk of the pieces. -/
import Derived.Test.YtlaidmjlgjpgcaaSplX
import Derived.Test.YtlaidmjlgjpgcaaSplY
import Derived.Test.YtlaidmjlgjpgcaaSplO
import Derived.IntWalk
import Derived.RegionTactic
import Derived.BigRegion
namespace Go.Proofs.Ytlaidmjlgjpgcaa
open Go.RowKit
attribute [local go_sem] Oper.semAt_some

def kInt (c : Int) (s : Nat) : Int := (c.tmod s + s).tmod s
def kOf (c : Int) (p : Pc) : Nat := if p.t.size = 0 then 0 else (kInt c p.t.size).toNat
theorem kInt_bd (c : Int) (s : Nat) (h : 0 < s) : (-(s : Int) < c.tmod s ∧ c.tmod s < s) ∧ 0 ≤ kInt c s ∧ kInt c s < s := by
  have h1 := Int.tmod_lt_of_pos c (b := (s : Int)) (by omega)
  have h2 := Int.lt_tmod_of_pos c (b := (s : Int)) (by omega)
  refine ⟨⟨h2, h1⟩, ?_, ?_⟩
  · unfold kInt
    exact Int.tmod_nonneg _ (by omega)
  · unfold kInt
    exact Int.tmod_lt_of_pos _ (by omega)
def cutsOf (c : Int) (ps : List Pc) : List Pc := ps.flatMap fun p => cutAt p (kOf c p)
theorem cutsOf_snoc (c : Int) (ps : List Pc) (p : Pc) : cutsOf c (ps ++ [p]) = cutsOf c ps ++ cutAt p (kOf c p) := by unfold cutsOf; simp
theorem cutsOf_len (c : Int) (ps : List Pc) : (cutsOf c ps).length = ps.length * 2 := by
  unfold cutsOf; induction ps with
  | nil => rfl
  | cons p ps ih =>
    have e : (cutAt p (kOf c p)).length = 2 := rfl
    rw [List.flatMap_cons, List.length_append, ih, e, List.length_cons]
    omega
theorem kOf_pos (c : Int) (pt : ByteArray) (pq psp : Bool) (h : 0 < pt.size) : (kOf c ⟨pt, pq, psp⟩ : Int) = kInt c pt.size := by
  have e : kOf c ⟨pt, pq, psp⟩ = (kInt c pt.size).toNat := if_neg (by show ¬ pt.size = 0; omega)
  rw [e]
  have := (kInt_bd c pt.size h).2
  omega
theorem kOf_zero (c : Int) (pt : ByteArray) (pq psp : Bool) (h : pt.size = 0) : kOf c ⟨pt, pq, psp⟩ = 0 := if_pos h
theorem pcv_cut (c : Int) (ps : List Pc) (p : Pc) : pcv (cutsOf c (ps ++ [p])) = pcv (cutsOf c ps) ++ [.string (p.t.extract 0 (kOf c p)), .bool p.q, .bool p.sp, .string (p.t.extract (kOf c p) p.t.size), .bool p.q, .bool p.sp] := by
  rw [cutsOf_snoc]; unfold pcv cutAt; simp
theorem bytesCat_le {ps : List Pc} {k : Nat} {p : Pc} (h : ps[k]? = some p) : (bytesCat (ps.take k)).length + p.t.size ≤ (bytesCat ps).length := by
  have e : bytesCat ps = bytesCat (ps.take (k + 1)) ++ bytesCat (ps.drop (k + 1)) := by
    unfold bytesCat; rw [← List.flatMap_append, List.take_append_drop]
  have e2 : p.t.data.toList.length = p.t.size := rfl
  rw [e, snoc_take h, bytesCat_snoc, List.length_append, List.length_append, e2]
  exact Nat.le_add_right _ _

/-- A block known whole. -/
def Blk (W : World) (g : Nat) (t : TypeId) (cs : Array Value) : Prop := W.heap[g]? = some (.cells cs t (0, 0))
theorem Blk.lt {W : World} {g : Nat} {t : TypeId} {cs : Array Value} (h : Blk W g t cs) : g < W.heap.size := (Array.getElem?_eq_some_iff.1 h).1
theorem Blk.cell {W : World} {g : Nat} {t : TypeId} {cs : Array Value} (h : Blk W g t cs) (i : Nat) : W.cell? ⟨g, i, none⟩ = cs[i]? := cell_of_row W g i cs t (0, 0) h
theorem Blk.frozen {W : World} {g : Nat} {t : TypeId} {cs : Array Value} (h : Blk W g t cs) (i : Nat) : W.frozen? ⟨g, i, none⟩ = false := by
  unfold Blk at h
  simp [World.frozen?, h]
theorem Blk.new (w : World) (t : TypeId) (cs : Array Value) : Blk (w.alloc (.cells cs t)) w.heap.size t cs := World.alloc_heap_new w _
theorem Blk.alloc {W : World} {g : Nat} {t : TypeId} {cs : Array Value} (h : Blk W g t cs) (o : Obj) : Blk (W.alloc o) g t cs := (Below.heap_alloc W o g h.lt).trans h
theorem Blk.set_ {W : World} {g : Nat} {t : TypeId} {cs : Array Value} (h : Blk W g t cs) (i : Nat) (u : Value) : Blk (W.setCell ⟨g, i, none⟩ u) g t (cs.setIfInBounds i u) := by
  unfold Blk at h ⊢
  simp [World.setCell, Array.getElem?_modify, h]
theorem Blk.far {W : World} {g : Nat} {t : TypeId} {cs : Array Value} (h : Blk W g t cs) {p : Addr} (hp : g ≠ p.block) (u : Value) : Blk (W.setCell p u) g t cs := (Below.heap_setCell W p u g hp).trans h

theorem fieldsOf_small {l : List Pt} {L : List (List Ch)} (h : fieldsOf l = some L) : L.length ≤ 100000 ∧ ∀ f ∈ L, f.length ≤ 100000 := by
  rcases fieldsOf_eq l with ⟨h1, h2⟩ | ⟨h1, _⟩
  · rw [h] at h1
    obtain rfl := Option.some.inj h1
    refine ⟨?_, fun f hf => ?_⟩
    · by_cases g : 200 < (fold mk0 l).fin.fs.length
      · exact absurd (.inl g) h2
      · omega
    · by_cases g : 4096 < f.length
      · exact absurd (.inr ⟨f, hf, g⟩) h2
      · omega
  · rw [h] at h1; cases h1
theorem FlsAt.beneath {n₀ : Nat} {w w' : World} {v : Value} {L : List (List Ch)} (h : FlsAt n₀ w v L) (hb : Below w.heap.size w w') : FlsAt n₀ w' v L := by
  obtain ⟨sl, h1, h2, h3⟩ := h
  exact ⟨sl, own_blk h1 (fun g hg => hb.block g (own_lt h1 hg)), h2, fun j u f a b => own_blk (h3 j u f a b) (fun g hg => hb.block g (own_lt (h3 j u f a b) hg))⟩

set_option maxHeartbeats 8000000 in
set_option maxRecDepth 100000 in
theorem splitPieces_walk (av : Option Addr) (n cv : Nat) (ps : List Pc) (ifs : ByteArray) (c : Int) (w : World) (hn : ps.length = n) (hP : PcsAt w.heap.size w av ps) (hz : (bytesCat ps).length + ps.length * 4 ≤ 1048576) :
    Calls Try.prog 13 #[.slice av n cv, .string ifs, .int .i64 c] w fun e w' => e = .returned (.bool true) ∧ Below w.heap.size w w' := by
  obtain ⟨i0, hi, hz0, hz1, hz2⟩ := info_parts info39
  rw [hn] at hz
  have hnH := Lib.hid hn
  have hPH := Lib.hid hP
  clear hn hP
  obtain ⟨n₀, hn₀⟩ : ∃ n₀, w.heap.size = n₀ := ⟨_, rfl⟩
  rw [hn₀] at hPH ⊢
  have hn₀H := Lib.hid hn₀
  go_enter Try.func13, Try.ntmps13
  go_wp2_with fail
  refine (awake_any w).mono ?_
  rintro e w1 ⟨rfl, hB1⟩
  rw [hn₀] at hB1
  have hB1H := Lib.hid hB1
  clear hB1 hn₀
  go_wp2_with fail
  go_loopw [22, 7, 8] (fun s22 s7 s8 wr => ∃ k : Nat, k ≤ n ∧ s22 = .int .i64 k ∧ s7 = .int .i64 (bytesCat (ps.take k)).length ∧ wr.ownsRow n₀ 39 3 s8 (k * 2) (pcv (cutsOf c (ps.take k))) ∧ Below n₀ w wr) (fun s22 _ _ _ => n - (intOf s22).toNat)
  case atStart => exact ⟨0, Nat.zero_le _, rfl, rfl, World.ownsRow_nil _ _ _ _, hB1H.out⟩
  case round =>
    obtain ⟨k, hk, rfl, rfl, hown, hbel⟩ := hrel
    obtain ⟨a7, c7, rfl⟩ := ownsRow_slice hown
    have hwr := hbel.size
    have hwn := hn₀H.out
    by_cases hlt : k < n
    · obtain ⟨p, hp⟩ : ∃ p, ps[k]? = some p := ⟨_, List.getElem?_eq_getElem (by rw [hnH.out]; exact hlt)⟩
      obtain ⟨g, off, rfl, hg, c0, c1, c2, _⟩ := hPH.out k p hp
      have hle := bytesCat_le hp
      have d0 := (hbel.cell (p := ⟨g, off + k * 3, none⟩) hg).trans c0
      have d1 := (hbel.cell (p := ⟨g, off + k * 3 + 1, none⟩) hg).trans c1
      have d2 := (hbel.cell (p := ⟨g, off + k * 3 + 2, none⟩) hg).trans c2
      have hlt' : (k : Int) < (n : Int) := by omega
      obtain ⟨pt, pq, psp⟩ := p
      obtain ⟨m, hm⟩ : ∃ m, (bytesCat (ps.take k)).length = m := ⟨_, rfl⟩
      simp only [hm] at hle d0 d1 d2 ⊢
      have hbelH := Lib.hid hbel
      have hownH := Lib.hid hown
      have hpH := Lib.hid hp
      have hmH := Lib.hid hm
      clear hbel hown hp c0 c1 c2 hm
      have hm2 : (m : Int) + (pt.size : Int) ≤ 1048576 := by omega
      clear hle
      obtain ⟨kk, hkk⟩ : ∃ kk, kOf c ⟨pt, pq, psp⟩ = kk := ⟨_, rfl⟩
      have hkkH := Lib.hid hkk
      go_upto_if 34 with fail
      go_cut [11] (fun s11 wx => s11 = .int .i64 kk ∧ kk ≤ pt.size ∧ ∃ q, wx = (wr.alloc (.cells #[.string pt, .bool pq, .bool psp] 39)).drewN q)
      case first =>
        by_cases hs : 0 < pt.size
        · have hb := kInt_bd c pt.size hs
          have hkv : kInt c pt.size = kk := by rw [← hkk]; exact (kOf_pos c pt pq psp hs).symm
          have hb3 := hb.2
          rw [hkv] at hb3
          have hb := hb.1
          unfold kInt at hkv
          have hs1 : (0 : Int) < (pt.size : Int) := by omega
          obtain ⟨r1, hr1⟩ : ∃ r1, c.tmod pt.size = r1 := ⟨_, rfl⟩
          rw [hr1] at hb hkv
          have e1 : IntKind.i64.wrap (r1 + pt.size) = r1 + pt.size := IntWalk.i64_in _ (by omega)
          have e2 : IntKind.i64.wrap r1 = r1 := IntWalk.i64_in _ (by omega)
          have hkk3 : Hid (kk ≤ pt.size) := Lib.hid (by omega)
          have hb1 : (0 : Int) ≤ r1 + pt.size := by omega
          have hkvH := Lib.hid hkv
          have hr1H := Lib.hid hr1
          have e3 : IntKind.i64.wrap (kk : Int) = kk := IntWalk.i64_in _ (by omega)
          go_upto_region 11 with fail
          obtain ⟨wa, hwa⟩ : ∃ wa, wr.alloc (.cells #[.string pt, .bool pq, .bool psp] 39) = wa := ⟨_, rfl⟩
          have hcell : wa.cell? ⟨wr.heap.size, 0, none⟩ = some (.string pt) := by rw [← hwa, (Blk.new wr 39 _).cell]; rfl
          rw [hwa]
          have hwaH := Lib.hid hwa
          clear hwa hb
          go_quiet (fail)
          go_wp2_with fail
          go_meet
          exact ⟨rfl, hkk3.out, _, by rw [hwaH.out]⟩
        · have hs1 : pt.size = 0 := by omega
          have hs2 : ¬ (0 : Int) < (pt.size : Int) := by omega
          have hk0 : kk = 0 := by rw [← hkk]; exact kOf_zero c pt pq psp hs1
          clear hs hkk
          subst hk0
          have hs1H := Lib.hid hs1
          clear hs1
          go_wp2_with fail
          go_meet
          exact ⟨rfl, Nat.zero_le _, 0, rfl⟩
      case rest =>
        obtain ⟨rfl, hkk2, q, rfl⟩ := hcut
        clear hkk
        obtain ⟨wa, hwa⟩ : ∃ wa, (wr.alloc (.cells #[.string pt, .bool pq, .bool psp] 39)).drewN q = wa := ⟨_, rfl⟩
        obtain ⟨b0, hb0⟩ : ∃ b0, wr.heap.size = b0 := ⟨_, rfl⟩
        have hBlk : Blk wa b0 39 #[.string pt, .bool pq, .bool psp] := by rw [← hwa, ← hb0]; exact Blk.new wr 39 _
        have hown2 : wa.ownsRow n₀ 39 3 (.slice a7 (k * 2) c7) (k * 2) (pcv (cutsOf c (ps.take k))) := by rw [← hwa]; exact hownH.out.alloc _
        have hbel2 : Below n₀ w wa := by rw [← hwa]; exact below_drewN (hbelH.out.alloc (by omega) _) _
        have hoo : ∀ g, (Value.slice a7 (k * 2) c7).ownBlock = some g → g < b0 := fun g hg => by rw [← hb0]; exact (hownH.out.lt g hg).2
        rw [hwa, hb0]
        have hnb : n₀ ≤ b0 := by omega
        have hH := Lib.hid (And.intro hBlk (And.intro hown2 (And.intro hbel2 hoo)))
        have e0 := hBlk.cell 0
        have e1 := hBlk.cell 1
        have e2 := hBlk.cell 2
        clear hwa hb0 hBlk hown2 hbel2 hoo hownH hbelH
        simp only [List.getElem?_toArray, List.getElem?_cons_zero, List.getElem?_cons_succ] at e0 e1 e2
        go_upto_region 12 with fail
        go_cut [12, 13] (fun s12 s13 wx => ∃ b12 b13 : Nat, s12 = .pointer (some ⟨b12, 0, none⟩) ∧ s13 = .pointer (some ⟨b13, 0, none⟩) ∧ b12 ≠ b13 ∧ b0 < b12 ∧ b0 < b13 ∧ Blk wx b12 39 #[.string pt, .bool pq, .bool psp] ∧ Blk wx b13 39 #[.string pt, .bool pq, .bool psp] ∧ Below (b0 + 1) wa wx)
        case first =>
          go_region_held3 (fun W => W.cell? ⟨b0, 0, none⟩ = some (.string pt) ∧ W.cell? ⟨b0, 1, none⟩ = some (.bool pq) ∧ W.cell? ⟨b0, 2, none⟩ = some (.bool psp)) (go_keep) (fail)
          · go_wp2_with fail
            go_meet
            have hz := hH.out.1.lt
            exact ⟨_, _, rfl, rfl, by omega, by omega, by omega, (Blk.new _ _ _).alloc _, (by have h := Blk.new (wa.alloc (.cells #[.string pt, .bool pq, .bool psp] 39)) 39 #[.string pt, .bool pq, .bool psp]; rw [World.size_alloc] at h; exact h), (((Below.refl _ _).alloc (by omega) _).alloc (by simp; omega) _).drew⟩
          · go_wp2_with fail
            go_meet
            have hz := hH.out.1.lt
            exact ⟨_, _, rfl, rfl, by omega, by omega, by omega, (by have h := Blk.new (wa.alloc (.cells #[.string pt, .bool pq, .bool psp] 39)) 39 #[.string pt, .bool pq, .bool psp]; rw [World.size_alloc] at h; exact h), (Blk.new _ _ _).alloc _, (((Below.refl _ _).alloc (by omega) _).alloc (by simp; omega) _).drew⟩
        case rest =>
          obtain ⟨b12, b13, rfl, rfl, hne, h12, h13, hB12, hB13, hbw⟩ := hcut
          have hb0' : Blk wc b0 39 #[.string pt, .bool pq, .bool psp] := (hbw.block b0 (by omega)).trans hH.out.1
          have e0 := hb0'.cell 0
          have x0 := hB12.cell 0
          have y0 := hB13.cell 0
          have x3 := hB12.frozen 0
          have y3 := hB13.frozen 0
          have hH2 := Lib.hid (And.intro hb0' (And.intro hB12 (And.intro hB13 hbw)))
          simp only [List.getElem?_toArray, List.getElem?_cons_zero] at e0 x0 y0
          clear hb0' hB12 hB13 hbw
          have n1 : ¬ b0 = b12 := by omega
          have n2 : ¬ b0 = b13 := by omega
          have n3 : ¬ b12 = b13 := hne
          have hcs : ∀ (b : Nat) (u : Value), ¬ b0 = b → (wc.setCell ⟨b, 0, none⟩ u).drew.cell? ⟨b0, 0, none⟩ = some (.string pt) := fun b u h => (World.cell?_setCell_other wc ⟨b, 0, none⟩ ⟨b0, 0, none⟩ u (fun e => h (by injection e with e1; exact e1.symm))).trans e0
          have hcs2 : ∀ (b b' : Nat) (u u' : Value), ¬ b0 = b → ¬ b0 = b' → ((wc.setCell ⟨b, 0, none⟩ u).setCell ⟨b', 0, none⟩ u').drew.cell? ⟨b0, 0, none⟩ = some (.string pt) := fun b b' u u' h h' => (World.cell?_setCell_other _ ⟨b', 0, none⟩ ⟨b0, 0, none⟩ u' (fun e => h' (by injection e with e1; exact e1.symm))).trans (hcs b u h)
          have hcsH := Lib.hid hcs
          have hcs2H := Lib.hid hcs2
          clear hcs hcs2
          have hkk3 : (kk : Int) ≤ pt.size := by omega
          have hkk4 : (0 : Int) ≤ kk := by omega
          obtain ⟨wd, rfl⟩ : ∃ wd : World, wd = wc := ⟨_, rfl⟩
          go_upto_region 13 with fail
          go_cut [] (fun wx => Blk wx b12 39 #[.string (pt.extract 0 kk), .bool pq, .bool psp] ∧ Blk wx b13 39 #[.string (pt.extract kk pt.size), .bool pq, .bool psp] ∧ Below (b0 + 1) wa wx)
          case first =>
            go_region_held3 (fun W => W.cell? ⟨b0, 0, none⟩ = some (.string pt)) (first | exact hcsH.out _ _ n1 | exact hcsH.out _ _ n2 | exact hcs2H.out _ _ _ _ n1 n2 | go_keep) (fail)
            go_wp2_with fail
            go_meet
            obtain ⟨z1, z2, z3, z4⟩ := hH2.out
            exact ⟨(z2.set_ 0 _).far (p := ⟨b13, 0, none⟩) (by simpa using n3) _, (z3.far (p := ⟨b12, 0, none⟩) (by simpa using Ne.symm n3) _).set_ 0 _, (((z4.setCell (p := ⟨b12, 0, none⟩) (by show b0 + 1 ≤ b12; omega) _).setCell (p := ⟨b13, 0, none⟩) (by show b0 + 1 ≤ b13; omega) _)).drew⟩
          case rest =>
            obtain ⟨hB12, hB13, hbw⟩ := hcut
            clear e0 x0 y0 x3 y3 hcsH hcs2H
            have x0 := hB12.cell 0
            have x1 := hB12.cell 1
            have x2 := hB12.cell 2
            have y0 := hB13.cell 0
            have y1 := hB13.cell 1
            have y2 := hB13.cell 2
            simp only [List.getElem?_toArray, List.getElem?_cons_zero, List.getElem?_cons_succ] at x0 x1 x2 y0 y1 y2
            have hown3 : wc.ownsRow n₀ 39 3 (.slice a7 (k * 2) c7) (k * 2) (pcv (cutsOf c (ps.take k))) := own_blk hH.out.2.1 (fun q hq => hbw.block q (by have := hH.out.2.2.2 q hq; omega))
            have hbel3 : Below n₀ w wc := hH.out.2.2.1.trans (hbw.mono (by omega))
            have hownH := Lib.hid hown3
            have hbelH := Lib.hid hbel3
            have hwc := hbel3.size
            clear hB12 hB13 hbw hown3 hbel3 hH hH2
            go_wp2_with (at_builtin; refine wpList_append_own _ rfl (.tmp 60) (.tmp 63) 37 rfl n₀ 39 i0 _ 3 24 Try.underlying37 hi hz0 hz1 hz2 rfl (by decide) (.slice a7 (k * 2) c7) (k * 2) (pcv (cutsOf c (ps.take k))) rfl (hownH.out.alloc _) ⟨wc.heap.size, 0, none⟩ 2 2 [.string (pt.extract 0 kk), .bool pq, .bool psp, .string (pt.extract kk pt.size), .bool pq, .bool psp] rfl rfl (World.news_of_block (cs := #[.string (pt.extract 0 kk), .bool pq, .bool psp, .string (pt.extract kk pt.size), .bool pq, .bool psp]) (t := 39) (fr := (0, 0)) (heap_alloc_new wc _)) (by simp [Value.oneCell']) (by unfold maxLen; omega) (by omega) (by simp; omega) ?_; intro v' w2 own2 hgrow _)
            have ho2 := Lib.hid own2
            have hb2 : Hid (Below n₀ w w2) := Lib.hid ((hbelH.out.alloc (by omega) _).grown hgrow (by simp; omega) (fun q e => (hownH.out.lt q e).1))
            clear own2 hgrow
            go_wp2_with fail
            go_roundw
            case rel =>
              have e1 : (m : Int) + pt.size = ((bytesCat (ps.take (k + 1))).length : Int) := by
                have e2 : pt.data.toList.length = pt.size := rfl
                rw [snoc_take hpH.out, bytesCat_snoc, List.length_append, e2, hmH.out]; omega
              have e3 : pcv (cutsOf c (ps.take (k + 1))) = pcv (cutsOf c (ps.take k)) ++ [.string (pt.extract 0 kk), .bool pq, .bool psp, .string (pt.extract kk pt.size), .bool pq, .bool psp] := by
                rw [snoc_take hpH.out, pcv_cut, hkkH.out]
              exact ⟨k + 1, by omega, by go_num, by rw [← e1], by rw [e3, show (k + 1) * 2 = k * 2 + 2 by omega]; exact ho2.out, hb2.out⟩
            case measure => simp [intOf]; omega
    · have hlt' : ¬ (k : Int) < (n : Int) := by omega
      obtain rfl : k = n := by omega
      have htk : ps.take k = ps := by rw [← hnH.out, List.take_length]
      rw [htk] at hown ⊢
      have hcl : (cutsOf c ps).length = k * 2 := by rw [cutsOf_len, hnH.out]
      obtain ⟨m, hm⟩ : ∃ m, (bytesCat ps).length = m := ⟨_, rfl⟩
      have hps : ∀ p ∈ ps, p.t.size ≤ 1048576 := fun p hp => by
        obtain ⟨i, hi⟩ := List.mem_iff_getElem?.1 hp
        have := bytesCat_le hi
        omega
      rw [hm] at hz ⊢
      have hmH := Lib.hid hm
      have hmi : (m : Int) ≤ 1048576 := by omega
      have hbelH := Lib.hid hbel
      have hownH := Lib.hid hown
      have hfa := fields_any ifs av cv ps (by rw [hnH.out]; omega) wr ((hPH.out.below hbel).mono (by omega))
      rw [hnH.out] at hfa
      have hfaH := Lib.hid hfa
      have hpsH := Lib.hid hps
      have hclH := Lib.hid hcl
      clear hbel hown hfa hm hps htk hcl
      by_cases g1 : (2000 : Int) < m
      · go_wp2_with fail
        go_ret
        exact ⟨rfl, hbelH.out⟩
      · by_cases g2 : (200 : Int) < k
        · go_wp2_with fail
          go_ret
          exact ⟨rfl, hbelH.out⟩
        · go_wp2_with fail
          refine hfaH.out.mono ?_
          rintro e w4 ⟨hB4, hcase⟩
          have hown4 := own_blk hownH.out (fun q hq => hB4.block q (hownH.out.lt q hq).2)
          rw [← hclH.out] at hown4
          obtain ⟨_, _, e7, hP7⟩ := pcs_own hown4 (fun p hp => by
            unfold cutsOf at hp
            obtain ⟨q, hq, hq2⟩ := List.mem_flatMap.1 hp
            have h3 := hpsH.out q hq
            unfold cutAt at hq2
            rcases List.mem_cons.1 hq2 with rfl | hq3
            · show (q.t.extract _ _).size ≤ _; rw [ByteArray.size_extract]; omega
            · obtain rfl := List.mem_singleton.1 hq3
              show (q.t.extract _ _).size ≤ _; rw [ByteArray.size_extract]; omega)
          obtain ⟨rfl, -, rfl⟩ := Value.slice.inj e7
          have hfb := fields_any ifs a7 c7 (cutsOf c ps) (by rw [hclH.out]; omega) w4 hP7
          rw [hclH.out, show fieldsOf ((partsOf ifs (cutsOf c ps)).map ptOf) = fieldsOf ((partsOf ifs ps).map ptOf) from cuts_fields ifs ps (kOf c)] at hfb
          have hfbH := Lib.hid hfb
          have hB4H := Lib.hid hB4
          have hcaseH := Lib.hid hcase
          clear hfb hown4 hP7 e7 hB4 hcase
          have hBn : Hid (∀ W5 W : World, Below w4.heap.size w4 W5 → Below W5.heap.size W5 W → Below n₀ w W) := Lib.hid (fun W5 W h5 h => by
            have z4 := hB4H.out.size
            have z5 := h5.size
            exact ((hbelH.out.trans (hB4H.out.mono (by omega))).trans (h5.mono (by omega))).trans (h.mono (by omega)))
          rcases hcaseH.out with ⟨L, va, hL, rfl, hva⟩ | ⟨hL, rfl⟩
          · have hLs := fieldsOf_small hL
            obtain ⟨a1, c1, rfl, _⟩ := hva.view
            have hLsH := Lib.hid hLs
            have hvaH := Lib.hid hva
            have hLH := Lib.hid hL
            clear hLs hva hL hcaseH
            go_wp2_with fail
            refine hfbH.out.mono ?_
            rintro e w5 ⟨hB5, ⟨Lb, vb, hLb, rfl, hvb⟩ | ⟨hLb, rfl⟩⟩
            · rw [hLH.out] at hLb
              obtain rfl := Option.some.inj hLb
              obtain ⟨a1', c1', e1, hv1⟩ := (hvaH.out.beneath hB5).view
              obtain ⟨rfl, -, rfl⟩ := Value.slice.inj e1
              obtain ⟨a2, c2, rfl, hv2⟩ := hvb.view
              have hcall := Lib.hid (same_yes a1 a2 c1 c2 L hLsH.out.1 hLsH.out.2 w5 hv1 hv2)
              have hB5H := Lib.hid hB5
              clear e1 hv1 hv2 hLb hB5 hvb
              go_wp2_with fail
              refine hcall.out.mono ?_
              rintro e w6 ⟨rfl, q, rfl⟩
              go_wp2_with fail
              go_ret
              exact ⟨rfl, below_drewN (hBn.out _ _ hB5H.out (Below.refl _ _)) _⟩
            · rw [hLH.out] at hLb
              cases hLb
          · have hLH := Lib.hid hL
            clear hL hcaseH
            go_wp2_with fail
            refine hfbH.out.mono ?_
            rintro e w5 ⟨hB5, ⟨Lb, vb, hLb, rfl, hvb⟩ | ⟨hLb, rfl⟩⟩
            · rw [hLH.out] at hLb
              cases hLb
            · have hcall := Lib.hid (same_yes none none 0 0 [] (by simp) (by simp) w5 (fun i f h => by simp at h) (fun i f h => by simp at h))
              have hB5H := Lib.hid hB5
              clear hLb hB5
              go_wp2_with fail
              refine hcall.out.mono ?_
              rintro e w6 ⟨rfl, q, rfl⟩
              go_wp2_with fail
              go_ret
              exact ⟨rfl, below_drewN (hBn.out _ _ hB5H.out (Below.refl _ _)) _⟩
end Go.Proofs.Ytlaidmjlgjpgcaa
