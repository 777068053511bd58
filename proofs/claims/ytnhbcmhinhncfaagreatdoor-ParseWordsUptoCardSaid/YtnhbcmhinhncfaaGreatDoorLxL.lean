/- A here-document is read. No condition. -/
import Derived.Test.YtnhbcmhinhncfaaGreatDoorLxJ
import Derived.Test.YtnhbcmhinhncfaaGreatDoorLxK
namespace Go.Proofs.YtnhbcmhinhncfaaGreatDoor
open Go.RowKit Go.PlainAid
attribute [local go_sem] Oper.semAt_some

theorem fr_below {b B : Nat} {v : Option Nat} {w w1 w2 : World} (h : Fr b v w w1) (hB : w.heap.size ≤ B) (hb : Below B w1 w2) : Fr b v w w2 :=
  ⟨hb.os.trans h.os, hb.tape.trans h.tape, hb.output.trans h.output, Nat.le_trans h.size hb.size, fun k h1 h2 h3 => (hb.block k (by omega)).trans (h.block k h1 h2 h3)⟩
theorem isB_set {B b : Nat} {bs : List Value} {w : World} (h : Lib.IsBuilder 80 5 B B bs w) (hb : b < B) (o : Nat) (u : Value) : Lib.IsBuilder 80 5 B B bs (w.setCell ⟨b, o, none⟩ u) :=
  isB_keep h (fun g hg _ => Below.heap_setCell _ _ _ _ (by show g ≠ b; omega))
theorem isB_drewN {B : Nat} {bs : List Value} {w : World} (h : Lib.IsBuilder 80 5 B B bs w) (n : Nat) : Lib.IsBuilder 80 5 B B bs (w.drewN n) :=
  isB_keep h (fun _ _ _ => rfl)
theorem blk_far {B b : Nat} {t : TypeId} {cs : Array Value} {w w1 : World} (h : Blk w b t cs) (hb : b < B) (hw : Below B w w1) : Blk w1 b t cs := (hw.block b hb).trans h
theorem plc_blk {w : World} {b i n0 c0 n1 c1 : Nat} {s : ByteArray} {a0 a1 : Option Addr} (h : Blk w b 92 (rdC s i a0 n0 c0 a1 n1 c1)) : plc b w = i := by
  unfold plc; rw [h.cell 1]; simp [rdC, intOf]
theorem trim_q (L : ByteArray) (w : World) : Calls Tryz.prog 74 #[.string L, .string ⟨#[9]⟩] w fun e w' => e = .returned (.string (tabB L)) ∧ w' = w := Tryz.strings_TrimLeft_one L 9 (by decide) w
theorem writeByte_ten (B : Nat) (l : List UInt8) (w : World) (h : Lib.IsBuilder 80 5 B B (Lib.byteCells l) w) (hlen : l.length + 1 ≤ 1000000) (hBw : B ≤ w.heap.size) :
    Calls Tryz.prog 72 #[.pointer (some ⟨B, 0, none⟩), .int .u8 10] w fun e w' => e = .returned .nilIface ∧ (Lib.BuilderAt 80 5 B B (.pointer (some ⟨B, 0, none⟩)) (Lib.byteCells (l ++ [10])) w' ∧ Below B w w') := writeByte_any B B l 10 w h hlen hBw

set_option maxRecDepth 100000 in
set_option maxHeartbeats 4000000 in
theorem document_plain (s e : ByteArray) (i0 b : Nat) (a0 a1 : Option Addr) (n0 c0 n1 c1 : Nat) (w : World)
    (hB : Blk w b 92 (rdC s i0 a0 n0 c0 a1 n1 c1)) (hs : s.size ≤ 65536) (hi0 : i0 ≤ s.size) :
    Calls Tryz.prog 59 #[.pointer (some ⟨b, 0, none⟩), .string e, .bool false] w fun r w' => r = .returned (docV (docM s e false s.size i0 []).1) ∧ Blk w' b 92 (rdC s (docM s e false s.size i0 []).2 a0 n0 c0 a1 n1 c1) ∧ Fr b none w w' := by
  obtain ⟨B, hBs⟩ : ∃ B, w.heap.size = B := ⟨_, rfl⟩
  have hlt0 := hB.lt
  have hb0 : Hid (Lib.IsBuilder 80 5 B B (Lib.byteCells []) (w.alloc (.cells #[.pointer none, .slice none 0 0] 80))) := Lib.hid (by rw [← hBs]; exact Lib.fresh_isBuilder 80 5 w)
  have hF0 : Hid (Fr b none w (w.alloc (.cells #[.pointer none, .slice none 0 0] 80))) := Lib.hid (fr_below (Fr.refl b none w) (Nat.le_refl _) ((Below.refl _ _).alloc (Nat.le_refl _) _))
  have hR0 : Hid (Blk (w.alloc (.cells #[.pointer none, .slice none 0 0] 80)) b 92 (rdC s i0 a0 n0 c0 a1 n1 c1)) := Lib.hid (hB.alloc _)
  have hBH := Lib.hid hBs
  rw [hBs] at hlt0
  clear hB hBs
  go_enter Tryz.func59, Tryz.ntmps59
  go_wp2
  rw [hBH.out]
  go_loopw [7] (fun v wr => ∃ (i f : Nat) (acc : List UInt8), i ≤ s.size ∧ s.size ≤ i + f ∧ acc.length ≤ 2 * i ∧ v = .bool false ∧ B < wr.heap.size ∧ Hid (docM s e false s.size i0 [] = docM s e false f i acc) ∧ Hid (Blk wr b 92 (rdC s i a0 n0 c0 a1 n1 c1)) ∧ Hid (Lib.IsBuilder 80 5 B B (Lib.byteCells acc) wr) ∧ Hid (Fr b none w wr)) (fun _ wr => s.size - plc b wr)
  case atStart => exact ⟨i0, s.size, [], hi0, by omega, by simp, rfl, by rw [World.size_alloc, hBH.out]; omega, Lib.hid rfl, hR0, hb0, hF0⟩
  case round =>
    obtain ⟨i, f, acc, hi, hf, hac, rfl, hsz, hm, hR, hb, hF⟩ := hrel
    have x0 : wr.cell? ⟨b, 0, none⟩ = some (.string s) := hR.out.cell 0
    have x1 : wr.cell? ⟨b, 1, none⟩ = some (.int .i64 i) := hR.out.cell 1
    have f1 : wr.frozen? ⟨b, 1, none⟩ = false := hR.out.frozen 1
    by_cases hlt : i < s.size
    · obtain ⟨f, rfl⟩ : ∃ g, f = g + 1 := ⟨f - 1, by omega⟩
      have hcut := fun w => cut_line s i (by omega) hi w
      have hnx := next_gt hlt
      have hds := dLine_size (tabs := false) hi
      have hls := lineB_size hi
      have hrl := rem_le hi
      obtain ⟨L, hL⟩ : ∃ L, lineB s i = L := ⟨_, rfl⟩
      obtain ⟨R, hRr⟩ : ∃ R, restB s i = R := ⟨_, rfl⟩
      rw [hL] at hls
      have hl1 : remN s i ≤ i + L.size := by omega
      have hl2 : i + L.size ≤ remN s i := by omega
      clear hls
      have hD : dLine s i false = L := by unfold dLine; rw [hL]; rfl
      rw [hD] at hds
      cases hW : isWhole s i
      · rw [hL, hRr, hW] at hcut
        have hcutH := Lib.hid hcut
        have hN : nextN s i = i + L.size := by unfold nextN; rw [hW]; simp; omega
        rw [hN] at hnx
        obtain ⟨n1', n2, n3⟩ := hnx
        clear hcut
        cases hE : (((L : ByteArray).toList) == e.toList)
        · have hnext := Lib.hid (hm.out.trans (doc_on hlt (by rw [hD]; exact hE)))
          rw [hN, hD] at hnext
          have hlen1 : acc.length + (L).size ≤ 1000000 := by omega
          have hlen2 : (acc ++ (L).data.toList).length + 1 ≤ 1000000 := by rw [List.length_append, ← Lib.size_eq]; omega
          clear hD hN
          go_wp2_with fail
          go_quiet (fail)
          go_wp2_with fail
          go_quiet ((go_at_call 73; exact quiet_of2 (hcutH.out _)))
          go_wp2_with (first | (go_at_call 39; refine (writeString_any B B acc L _ (isB_set (isB_drewN hb.out _) hlt0 1 _) hlen1 (by simpa using Nat.le_of_lt hsz)).mono ?_; rintro e5 w5 ⟨rfl, hb5, hl5⟩; have hs5 := hl5.size; have hb5H := Lib.hid hb5; have hl5H := Lib.hid hl5; clear hl5 hb5) | (go_at_call 72; refine (writeByte_ten B _ _ (.inr hb5H.out) hlen2 (Nat.le_trans (by simpa using Nat.le_of_lt hsz) hs5)).mono ?_; rintro e6 w6 ⟨rfl, hb6, hl6⟩; have hs6 := hl6.size; have hb6H := Lib.hid hb6; have hl6H := Lib.hid (hl5H.out.trans hl6); clear hl6 hb6))
          have hR6 : Hid (Blk w6 b 92 (rdC s (i + L.size) a0 n0 c0 a1 n1 c1)) := Lib.hid (blk_far ((hR.out.drewN _).set_ 1 _) hlt0 hl6H.out)
          have hF6 := Lib.hid (fr_below ((hF.out.drewN _).set_ _) (Nat.le_of_eq hBH.out) hl6H.out)
          go_roundw
          case rel => exact ⟨(i + L.size), f, _, n2, by omega, by rw [List.length_append, List.length_append, ← Lib.size_eq]; simp only [List.length_cons, List.length_nil]; omega, rfl, by have := hs5; have h9 : wr.heap.size ≤ _ := Nat.le_trans (by simp) hs5; omega, hnext, hR6, Lib.hid (.inr hb6H.out), hF6⟩
          case measure => rw [plc_blk hR.out, plc_blk hR6.out]; omega
        · have hres := Lib.hid (hm.out.trans (doc_done hlt (by rw [hD]; exact hE)))
          rw [hN] at hres
          clear hD hN
          go_wp2_with fail
          go_quiet (fail)
          go_wp2_with fail
          go_quiet ((go_at_call 73; exact quiet_of2 (hcutH.out _)))
          go_wp2_with (first | (go_at_call 41; refine (Tryz.Builder_String_any B B acc _ (isB_set (isB_drewN hb.out _) hlt0 1 _) (by simpa using Nat.le_of_lt hsz)).mono ?_; rintro e5 w5 ⟨rfl, hl5⟩; have hl5H := Lib.hid hl5; clear hl5))
          go_ret2
          rw [hres.out]
          exact ⟨rfl, blk_far ((hR.out.drewN _).set_ 1 _) hlt0 hl5H.out, fr_below ((hF.out.drewN _).set_ _) (Nat.le_of_eq hBH.out) hl5H.out⟩
      · rw [hL, hRr, hW] at hcut
        have hcutH := Lib.hid hcut
        have hN : nextN s i = i + L.size + 1 := by unfold nextN; rw [hW]; simp; omega
        rw [hN] at hnx
        obtain ⟨n1', n2, n3⟩ := hnx
        clear hcut
        cases hE : (((L : ByteArray).toList) == e.toList)
        · have hnext := Lib.hid (hm.out.trans (doc_on hlt (by rw [hD]; exact hE)))
          rw [hN, hD] at hnext
          have hlen1 : acc.length + (L).size ≤ 1000000 := by omega
          have hlen2 : (acc ++ (L).data.toList).length + 1 ≤ 1000000 := by rw [List.length_append, ← Lib.size_eq]; omega
          clear hD hN
          go_wp2_with fail
          go_quiet (fail)
          go_wp2_with fail
          go_quiet ((go_at_call 73; exact quiet_of2 (hcutH.out _)))
          go_wp2_with (first | (go_at_call 39; refine (writeString_any B B acc L _ (isB_set (isB_set (isB_drewN hb.out _) hlt0 1 _) hlt0 1 _) hlen1 (by simpa using Nat.le_of_lt hsz)).mono ?_; rintro e5 w5 ⟨rfl, hb5, hl5⟩; have hs5 := hl5.size; have hb5H := Lib.hid hb5; have hl5H := Lib.hid hl5; clear hl5 hb5) | (go_at_call 72; refine (writeByte_ten B _ _ (.inr hb5H.out) hlen2 (Nat.le_trans (by simpa using Nat.le_of_lt hsz) hs5)).mono ?_; rintro e6 w6 ⟨rfl, hb6, hl6⟩; have hs6 := hl6.size; have hb6H := Lib.hid hb6; have hl6H := Lib.hid (hl5H.out.trans hl6); clear hl6 hb6))
          have hR6 : Hid (Blk w6 b 92 (rdC s (i + L.size + 1) a0 n0 c0 a1 n1 c1)) := Lib.hid (blk_far (((hR.out.drewN _).set_ 1 _).set_ 1 _) hlt0 hl6H.out)
          have hF6 := Lib.hid (fr_below (((hF.out.drewN _).set_ _).set_ _) (Nat.le_of_eq hBH.out) hl6H.out)
          go_roundw
          case rel => exact ⟨(i + L.size + 1), f, _, n2, by omega, by rw [List.length_append, List.length_append, ← Lib.size_eq]; simp only [List.length_cons, List.length_nil]; omega, rfl, by have := hs5; have h9 : wr.heap.size ≤ _ := Nat.le_trans (by simp) hs5; omega, hnext, hR6, Lib.hid (.inr hb6H.out), hF6⟩
          case measure => rw [plc_blk hR.out, plc_blk hR6.out]; omega
        · have hres := Lib.hid (hm.out.trans (doc_done hlt (by rw [hD]; exact hE)))
          rw [hN] at hres
          clear hD hN
          go_wp2_with fail
          go_quiet (fail)
          go_wp2_with fail
          go_quiet ((go_at_call 73; exact quiet_of2 (hcutH.out _)))
          go_wp2_with (first | (go_at_call 41; refine (Tryz.Builder_String_any B B acc _ (isB_set (isB_set (isB_drewN hb.out _) hlt0 1 _) hlt0 1 _) (by simpa using Nat.le_of_lt hsz)).mono ?_; rintro e5 w5 ⟨rfl, hl5⟩; have hl5H := Lib.hid hl5; clear hl5))
          go_ret2
          rw [hres.out]
          exact ⟨rfl, blk_far (((hR.out.drewN _).set_ 1 _).set_ 1 _) hlt0 hl5H.out, fr_below (((hF.out.drewN _).set_ _).set_ _) (Nat.le_of_eq hBH.out) hl5H.out⟩
    · have hres := Lib.hid (hm.out.trans (doc_end hlt))
      go_wp2_with fail
      go_quiet (fail)
      go_wp2
      go_ret2
      rw [hres.out]
      exact ⟨rfl, hR.out.drewN _, hF.out.drewN _⟩

set_option maxRecDepth 100000 in
set_option maxHeartbeats 4000000 in
theorem document_tabs (s e : ByteArray) (i0 b : Nat) (a0 a1 : Option Addr) (n0 c0 n1 c1 : Nat) (w : World)
    (hB : Blk w b 92 (rdC s i0 a0 n0 c0 a1 n1 c1)) (hs : s.size ≤ 65536) (hi0 : i0 ≤ s.size) :
    Calls Tryz.prog 59 #[.pointer (some ⟨b, 0, none⟩), .string e, .bool true] w fun r w' => r = .returned (docV (docM s e true s.size i0 []).1) ∧ Blk w' b 92 (rdC s (docM s e true s.size i0 []).2 a0 n0 c0 a1 n1 c1) ∧ Fr b none w w' := by
  obtain ⟨B, hBs⟩ : ∃ B, w.heap.size = B := ⟨_, rfl⟩
  have hlt0 := hB.lt
  have hb0 : Hid (Lib.IsBuilder 80 5 B B (Lib.byteCells []) (w.alloc (.cells #[.pointer none, .slice none 0 0] 80))) := Lib.hid (by rw [← hBs]; exact Lib.fresh_isBuilder 80 5 w)
  have hF0 : Hid (Fr b none w (w.alloc (.cells #[.pointer none, .slice none 0 0] 80))) := Lib.hid (fr_below (Fr.refl b none w) (Nat.le_refl _) ((Below.refl _ _).alloc (Nat.le_refl _) _))
  have hR0 : Hid (Blk (w.alloc (.cells #[.pointer none, .slice none 0 0] 80)) b 92 (rdC s i0 a0 n0 c0 a1 n1 c1)) := Lib.hid (hB.alloc _)
  have hBH := Lib.hid hBs
  rw [hBs] at hlt0
  clear hB hBs
  go_enter Tryz.func59, Tryz.ntmps59
  go_wp2
  rw [hBH.out]
  go_loopw [7] (fun v wr => ∃ (i f : Nat) (acc : List UInt8), i ≤ s.size ∧ s.size ≤ i + f ∧ acc.length ≤ 2 * i ∧ v = .bool false ∧ B < wr.heap.size ∧ Hid (docM s e true s.size i0 [] = docM s e true f i acc) ∧ Hid (Blk wr b 92 (rdC s i a0 n0 c0 a1 n1 c1)) ∧ Hid (Lib.IsBuilder 80 5 B B (Lib.byteCells acc) wr) ∧ Hid (Fr b none w wr)) (fun _ wr => s.size - plc b wr)
  case atStart => exact ⟨i0, s.size, [], hi0, by omega, by simp, rfl, by rw [World.size_alloc, hBH.out]; omega, Lib.hid rfl, hR0, hb0, hF0⟩
  case round =>
    obtain ⟨i, f, acc, hi, hf, hac, rfl, hsz, hm, hR, hb, hF⟩ := hrel
    have x0 : wr.cell? ⟨b, 0, none⟩ = some (.string s) := hR.out.cell 0
    have x1 : wr.cell? ⟨b, 1, none⟩ = some (.int .i64 i) := hR.out.cell 1
    have f1 : wr.frozen? ⟨b, 1, none⟩ = false := hR.out.frozen 1
    by_cases hlt : i < s.size
    · obtain ⟨f, rfl⟩ : ∃ g, f = g + 1 := ⟨f - 1, by omega⟩
      have hcut := fun w => cut_line s i (by omega) hi w
      have hnx := next_gt hlt
      have hds := dLine_size (tabs := true) hi
      have hls := lineB_size hi
      have hrl := rem_le hi
      obtain ⟨L, hL⟩ : ∃ L, lineB s i = L := ⟨_, rfl⟩
      obtain ⟨R, hRr⟩ : ∃ R, restB s i = R := ⟨_, rfl⟩
      rw [hL] at hls
      have hl1 : remN s i ≤ i + L.size := by omega
      have hl2 : i + L.size ≤ remN s i := by omega
      clear hls
      have hD : dLine s i true = tabB L := by unfold dLine; rw [hL]; rfl
      rw [hD] at hds
      cases hW : isWhole s i
      · rw [hL, hRr, hW] at hcut
        have hcutH := Lib.hid hcut
        have hN : nextN s i = i + L.size := by unfold nextN; rw [hW]; simp; omega
        rw [hN] at hnx
        obtain ⟨n1', n2, n3⟩ := hnx
        clear hcut
        cases hE : (((tabB L : ByteArray).toList) == e.toList)
        · have hnext := Lib.hid (hm.out.trans (doc_on hlt (by rw [hD]; exact hE)))
          rw [hN, hD] at hnext
          have hlen1 : acc.length + (tabB L).size ≤ 1000000 := by omega
          have hlen2 : (acc ++ (tabB L).data.toList).length + 1 ≤ 1000000 := by rw [List.length_append, ← Lib.size_eq]; omega
          clear hD hN
          go_wp2_with fail
          go_quiet (fail)
          go_wp2_with fail
          go_quiet ((go_at_call 73; exact quiet_of2 (hcutH.out _)))
          go_wp2_with (first | (go_at_call 74; refine (trim_q L _).mono ?_; rintro e1 w1 ⟨rfl, rfl⟩) | (go_at_call 39; refine (writeString_any B B acc (tabB L) _ (isB_set (isB_drewN hb.out _) hlt0 1 _) hlen1 (by simpa using Nat.le_of_lt hsz)).mono ?_; rintro e5 w5 ⟨rfl, hb5, hl5⟩; have hs5 := hl5.size; have hb5H := Lib.hid hb5; have hl5H := Lib.hid hl5; clear hl5 hb5) | (go_at_call 72; refine (writeByte_ten B _ _ (.inr hb5H.out) hlen2 (Nat.le_trans (by simpa using Nat.le_of_lt hsz) hs5)).mono ?_; rintro e6 w6 ⟨rfl, hb6, hl6⟩; have hs6 := hl6.size; have hb6H := Lib.hid hb6; have hl6H := Lib.hid (hl5H.out.trans hl6); clear hl6 hb6))
          have hR6 : Hid (Blk w6 b 92 (rdC s (i + L.size) a0 n0 c0 a1 n1 c1)) := Lib.hid (blk_far ((hR.out.drewN _).set_ 1 _) hlt0 hl6H.out)
          have hF6 := Lib.hid (fr_below ((hF.out.drewN _).set_ _) (Nat.le_of_eq hBH.out) hl6H.out)
          go_roundw
          case rel => exact ⟨(i + L.size), f, _, n2, by omega, by rw [List.length_append, List.length_append, ← Lib.size_eq]; simp only [List.length_cons, List.length_nil]; omega, rfl, by have := hs5; have h9 : wr.heap.size ≤ _ := Nat.le_trans (by simp) hs5; omega, hnext, hR6, Lib.hid (.inr hb6H.out), hF6⟩
          case measure => rw [plc_blk hR.out, plc_blk hR6.out]; omega
        · have hres := Lib.hid (hm.out.trans (doc_done hlt (by rw [hD]; exact hE)))
          rw [hN] at hres
          clear hD hN
          go_wp2_with fail
          go_quiet (fail)
          go_wp2_with fail
          go_quiet ((go_at_call 73; exact quiet_of2 (hcutH.out _)))
          go_wp2_with (first | (go_at_call 74; refine (trim_q L _).mono ?_; rintro e1 w1 ⟨rfl, rfl⟩) | (go_at_call 41; refine (Tryz.Builder_String_any B B acc _ (isB_set (isB_drewN hb.out _) hlt0 1 _) (by simpa using Nat.le_of_lt hsz)).mono ?_; rintro e5 w5 ⟨rfl, hl5⟩; have hl5H := Lib.hid hl5; clear hl5))
          go_ret2
          rw [hres.out]
          exact ⟨rfl, blk_far ((hR.out.drewN _).set_ 1 _) hlt0 hl5H.out, fr_below ((hF.out.drewN _).set_ _) (Nat.le_of_eq hBH.out) hl5H.out⟩
      · rw [hL, hRr, hW] at hcut
        have hcutH := Lib.hid hcut
        have hN : nextN s i = i + L.size + 1 := by unfold nextN; rw [hW]; simp; omega
        rw [hN] at hnx
        obtain ⟨n1', n2, n3⟩ := hnx
        clear hcut
        cases hE : (((tabB L : ByteArray).toList) == e.toList)
        · have hnext := Lib.hid (hm.out.trans (doc_on hlt (by rw [hD]; exact hE)))
          rw [hN, hD] at hnext
          have hlen1 : acc.length + (tabB L).size ≤ 1000000 := by omega
          have hlen2 : (acc ++ (tabB L).data.toList).length + 1 ≤ 1000000 := by rw [List.length_append, ← Lib.size_eq]; omega
          clear hD hN
          go_wp2_with fail
          go_quiet (fail)
          go_wp2_with fail
          go_quiet ((go_at_call 73; exact quiet_of2 (hcutH.out _)))
          go_wp2_with (first | (go_at_call 74; refine (trim_q L _).mono ?_; rintro e1 w1 ⟨rfl, rfl⟩) | (go_at_call 39; refine (writeString_any B B acc (tabB L) _ (isB_set (isB_set (isB_drewN hb.out _) hlt0 1 _) hlt0 1 _) hlen1 (by simpa using Nat.le_of_lt hsz)).mono ?_; rintro e5 w5 ⟨rfl, hb5, hl5⟩; have hs5 := hl5.size; have hb5H := Lib.hid hb5; have hl5H := Lib.hid hl5; clear hl5 hb5) | (go_at_call 72; refine (writeByte_ten B _ _ (.inr hb5H.out) hlen2 (Nat.le_trans (by simpa using Nat.le_of_lt hsz) hs5)).mono ?_; rintro e6 w6 ⟨rfl, hb6, hl6⟩; have hs6 := hl6.size; have hb6H := Lib.hid hb6; have hl6H := Lib.hid (hl5H.out.trans hl6); clear hl6 hb6))
          have hR6 : Hid (Blk w6 b 92 (rdC s (i + L.size + 1) a0 n0 c0 a1 n1 c1)) := Lib.hid (blk_far (((hR.out.drewN _).set_ 1 _).set_ 1 _) hlt0 hl6H.out)
          have hF6 := Lib.hid (fr_below (((hF.out.drewN _).set_ _).set_ _) (Nat.le_of_eq hBH.out) hl6H.out)
          go_roundw
          case rel => exact ⟨(i + L.size + 1), f, _, n2, by omega, by rw [List.length_append, List.length_append, ← Lib.size_eq]; simp only [List.length_cons, List.length_nil]; omega, rfl, by have := hs5; have h9 : wr.heap.size ≤ _ := Nat.le_trans (by simp) hs5; omega, hnext, hR6, Lib.hid (.inr hb6H.out), hF6⟩
          case measure => rw [plc_blk hR.out, plc_blk hR6.out]; omega
        · have hres := Lib.hid (hm.out.trans (doc_done hlt (by rw [hD]; exact hE)))
          rw [hN] at hres
          clear hD hN
          go_wp2_with fail
          go_quiet (fail)
          go_wp2_with fail
          go_quiet ((go_at_call 73; exact quiet_of2 (hcutH.out _)))
          go_wp2_with (first | (go_at_call 74; refine (trim_q L _).mono ?_; rintro e1 w1 ⟨rfl, rfl⟩) | (go_at_call 41; refine (Tryz.Builder_String_any B B acc _ (isB_set (isB_set (isB_drewN hb.out _) hlt0 1 _) hlt0 1 _) (by simpa using Nat.le_of_lt hsz)).mono ?_; rintro e5 w5 ⟨rfl, hl5⟩; have hl5H := Lib.hid hl5; clear hl5))
          go_ret2
          rw [hres.out]
          exact ⟨rfl, blk_far (((hR.out.drewN _).set_ 1 _).set_ 1 _) hlt0 hl5H.out, fr_below (((hF.out.drewN _).set_ _).set_ _) (Nat.le_of_eq hBH.out) hl5H.out⟩
    · have hres := Lib.hid (hm.out.trans (doc_end hlt))
      go_wp2_with fail
      go_quiet (fail)
      go_wp2
      go_ret2
      rw [hres.out]
      exact ⟨rfl, hR.out.drewN _, hF.out.drewN _⟩
end Go.Proofs.YtnhbcmhinhncfaaGreatDoor
