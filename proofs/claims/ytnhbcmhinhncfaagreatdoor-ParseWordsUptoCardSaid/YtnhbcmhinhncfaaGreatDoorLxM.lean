/- The here-documents behind a line. No condition. -/
import Derived.Test.YtnhbcmhinhncfaaGreatDoorLxL
import Derived.Test.YtnhbcmhinhncfaaGreatDoorLxI
namespace Go.Proofs.YtnhbcmhinhncfaaGreatDoor
open Go.RowKit Go.PlainAid
attribute [local go_sem] Oper.semAt_some

theorem tv_get : ∀ (ts : List Tk) (k j : Nat) (t : Tk), ts[k]? = some t → j < 5 → (tv ts)[k * 5 + j]? = t.cells[j]?
  | [], k, j, t, h, _ => by simp at h
  | a :: ts, 0, j, t, h, hj => by
    obtain rfl : a = t := by simpa using h
    show (a.cells ++ tv ts)[0 * 5 + j]? = _
    rw [Nat.zero_mul, Nat.zero_add, List.getElem?_append_left (by simp [Tk.cells]; omega)]
  | a :: ts, k + 1, j, t, h, hj => by
    show (a.cells ++ tv ts)[(k + 1) * 5 + j]? = _
    have h5 : a.cells.length = 5 := rfl
    rw [List.getElem?_append_right (by omega), h5, show (k + 1) * 5 + j - 5 = k * 5 + j by omega]
    exact tv_get ts k j t (by simpa using h) hj
theorem dv_get : ∀ (ds : List (Nat × Bool)) (k : Nat) (d : Nat × Bool), ds[k]? = some d → (dv ds)[k * 2]? = some (.int .i64 d.1) ∧ (dv ds)[k * 2 + 1]? = some (.bool d.2)
  | [], k, d, h => by simp at h
  | a :: ds, 0, d, h => by
    obtain rfl : a = d := by simpa using h
    exact ⟨rfl, rfl⟩
  | a :: ds, k + 1, d, h => by
    have hc : dv (a :: ds) = .int .i64 a.1 :: .bool a.2 :: dv ds := rfl
    rw [hc, show (k + 1) * 2 = k * 2 + 1 + 1 by omega, List.getElem?_cons_succ, List.getElem?_cons_succ, List.getElem?_cons_succ, List.getElem?_cons_succ]
    exact dv_get ds k d (by simpa using h)
/-- A token whose document is told. -/
def Tk.told (t : Tk) (d : ByteArray) (r : Bool) : Tk := ⟨t.kind, t.text, t.place, d, r⟩
theorem tv_set : ∀ (ts : List Tk) (k : Nat) (t : Tk) (d : ByteArray) (r : Bool), ts[k]? = some t → ((tv ts).set (k * 5 + 3) (.string d)).set (k * 5 + 4) (.bool r) = tv (ts.set k (t.told d r))
  | [], k, t, d, r, h => by simp at h
  | a :: ts, 0, t, d, r, h => by
    obtain rfl : a = t := by simpa using h
    rfl
  | a :: ts, k + 1, t, d, r, h => by
    have hc : tv (a :: ts) = .int .i64 a.kind :: .string a.text :: .int .i64 a.place :: .string a.doc :: .bool a.raw :: tv ts := rfl
    have hc2 : tv ((a :: ts).set (k + 1) (t.told d r)) = .int .i64 a.kind :: .string a.text :: .int .i64 a.place :: .string a.doc :: .bool a.raw :: tv (ts.set k (t.told d r)) := rfl
    rw [hc, hc2, ← tv_set ts k t d r (by simpa using h), show (k + 1) * 5 + 3 = k * 5 + 3 + 1 + 1 + 1 + 1 + 1 by omega, show (k + 1) * 5 + 4 = k * 5 + 4 + 1 + 1 + 1 + 1 + 1 by omega]
    simp only [List.set_cons_succ]

/-- The documents behind a line: the place of an error, the error, the tokens, the place. -/
def docsM (s : ByteArray) : List (Nat × Bool) → List Tk → Nat → Nat × Nat × List Tk × Nat
  | [], ts, i => (0, 0, ts, i)
  | d :: ds, ts, i => match ts[d.1]? with
    | none => (0, 0, ts, i)
    | some t => match (docM s ⟨(unqM t.text).1.toArray⟩ d.2 s.size i []).1 with
      | none => (t.place, 54, ts, (docM s ⟨(unqM t.text).1.toArray⟩ d.2 s.size i []).2)
      | some l => docsM s ds (ts.set d.1 (t.told ⟨l.toArray⟩ (unqM t.text).2)) (docM s ⟨(unqM t.text).1.toArray⟩ d.2 s.size i []).2
theorem docs_bad {s : ByteArray} {d : Nat × Bool} {ds : List (Nat × Bool)} {ts : List Tk} {i j : Nat} {t : Tk} (h : ts[d.1]? = some t) (hd : docM s ⟨(unqM t.text).1.toArray⟩ d.2 s.size i [] = (none, j)) : docsM s (d :: ds) ts i = (t.place, 54, ts, j) := by
  unfold docsM; rw [h]; simp only [hd]
theorem docs_on {s : ByteArray} {d : Nat × Bool} {ds : List (Nat × Bool)} {ts : List Tk} {i j : Nat} {t : Tk} {l : List UInt8} (h : ts[d.1]? = some t) (hd : docM s ⟨(unqM t.text).1.toArray⟩ d.2 s.size i [] = (some l, j)) : docsM s (d :: ds) ts i = docsM s ds (ts.set d.1 (t.told ⟨l.toArray⟩ (unqM t.text).2)) j := by
  conv => lhs; unfold docsM
  rw [h]; simp only [hd]
theorem doc_le {s e : ByteArray} {tabs : Bool} : ∀ (f i : Nat) (acc : List UInt8), i ≤ s.size → i ≤ (docM s e tabs f i acc).2 ∧ (docM s e tabs f i acc).2 ≤ s.size
  | 0, i, acc, hi => ⟨Nat.le_refl _, hi⟩
  | f + 1, i, acc, hi => by
    by_cases h : i < s.size
    · have hn := next_gt h
      cases hE : ((dLine s i tabs).toList == e.toList)
      · rw [doc_on h hE]
        have := doc_le (s := s) (e := e) (tabs := tabs) f (nextN s i) (acc ++ (dLine s i tabs).data.toList ++ [10]) hn.2.1
        omega
      · rw [doc_done h hE]
        show i ≤ nextN s i ∧ nextN s i ≤ s.size
        omega
    · rw [doc_end h]; exact ⟨Nat.le_refl _, hi⟩
theorem document_any (s e : ByteArray) (tabs : Bool) (i0 b : Nat) (a0 a1 : Option Addr) (n0 c0 n1 c1 : Nat) (w : World)
    (hB : Blk w b 92 (rdC s i0 a0 n0 c0 a1 n1 c1)) (hs : s.size ≤ 65536) (hi0 : i0 ≤ s.size) :
    Calls Tryz.prog 59 #[.pointer (some ⟨b, 0, none⟩), .string e, .bool tabs] w fun r w' => r = .returned (docV (docM s e tabs s.size i0 []).1) ∧ Blk w' b 92 (rdC s (docM s e tabs s.size i0 []).2 a0 n0 c0 a1 n1 c1) ∧ Fr b none w w' := by
  cases tabs
  · exact document_plain s e i0 b a0 a1 n0 c0 n1 c1 w hB hs hi0
  · exact document_tabs s e i0 b a0 a1 n0 c0 n1 c1 w hB hs hi0
theorem drew_below {k n : Nat} {w w2 : World} (h : Below k (w.drewN n) w2) : Below k w w2 := ⟨h.os, h.tape, h.output, h.size, h.block⟩
theorem below_of {k n₀ : Nat} {w w1 : World} (h : Below k w w1) (hk : n₀ ≤ k) : Below n₀ w w1 := ⟨h.os, h.tape, h.output, h.size, fun g hg => h.block g (by omega)⟩
theorem infoRd : (Tryz.prog.info? 101).map (fun i => (i.zero, i.size, i.bytes)) = some (some (.agg #[.int .i64 0, .bool false]), 2, 16) := by kernel_rfl

set_option maxRecDepth 100000 in
set_option maxHeartbeats 4000000 in
theorem documents_any {w : World} {b n₀ : Nat} {s : ByteArray} {st : LS} (h : LAt w b n₀ s st) (hs : s.size ≤ 65536) (hp : st.place ≤ s.size) (hd : ∀ d ∈ st.dels, d.1 < st.toks.length) (ht : ∀ t ∈ st.toks, t.text.size ≤ 100000) (hl0 : st.toks.length ≤ 100000) (hl1 : st.dels.length ≤ 100000) :
    Calls Tryz.prog 43 #[.pointer (some ⟨b, 0, none⟩)] w fun e w' => e = .returned (.tuple #[.int .i64 (docsM s st.dels st.toks st.place).1, .int .i64 (docsM s st.dels st.toks st.place).2.1]) ∧ LAt w' b n₀ s ⟨(docsM s st.dels st.toks st.place).2.2.2, (docsM s st.dels st.toks st.place).2.2.1, st.dels⟩ ∧ Below n₀ w w' := by
  obtain ⟨a0, c0, a1, c1, hB, hr, hdl⟩ := h.ex
  obtain ⟨ts0, hts⟩ : ∃ x, st.toks = x := ⟨_, rfl⟩
  obtain ⟨ds0, hds⟩ : ∃ x, st.dels = x := ⟨_, rfl⟩
  obtain ⟨p0, hp0⟩ : ∃ x, st.place = x := ⟨_, rfl⟩
  have hbase := h.base
  have hsz0 := h.size
  rw [hts, hds] at hd
  rw [hts] at ht hl0
  rw [hds] at hl1
  rw [hp0] at hp
  rw [hts, hds, hp0] at hB
  rw [hts] at hr
  rw [hds] at hdl
  rw [hts, hds, hp0]
  clear h hts hds hp0
  obtain ⟨n0, hn0⟩ : ∃ n, ts0.length = n := ⟨_, rfl⟩
  obtain ⟨n1, hn1⟩ : ∃ n, ds0.length = n := ⟨_, rfl⟩
  rw [hn0, hn1] at hB
  rw [hn0] at hr hd hl0
  rw [hn1] at hdl hl1
  have x3 : w.cell? ⟨b, 3, none⟩ = some (.slice a1 n1 c1) := hB.cell 3
  have hBH := Lib.hid hB
  have hrH := Lib.hid hr
  have hdH := Lib.hid hdl
  clear hB hr hdl
  go_enter Tryz.func43, Tryz.ntmps43
  go_wp2
  go_loopw [16] (fun v wr => ∃ (k i : Nat) (ts : List Tk), k ≤ n1 ∧ i ≤ s.size ∧ v = .int .i64 k ∧ ts.length = n0 ∧ (∀ t ∈ ts, t.text.size ≤ 100000) ∧ n₀ ≤ wr.heap.size ∧ Hid (docsM s ds0 ts0 p0 = docsM s (ds0.drop k) ts i) ∧ Hid (Blk wr b 92 (rdC s i a0 n0 c0 a1 n1 c1)) ∧ Hid (wr.ownsRow n₀ 58 5 (.slice a0 n0 c0) n0 (tv ts)) ∧ Hid (wr.ownsRow n₀ 101 2 (.slice a1 n1 c1) n1 (dv ds0)) ∧ Hid (Below n₀ w wr)) (fun v _ => n1 - (intOf v).toNat)
  case atStart => exact ⟨0, p0, ts0, by omega, hp, by go_num, hn0, ht, hsz0, Lib.hid rfl, hBH, hrH, hdH, Lib.hid (Below.refl _ _)⟩
  case round =>
    obtain ⟨k, i, ts, hk, hi, rfl, hlen, htx, hsz, hm, hB, hr, hdl, hbel⟩ := hrel
    by_cases hlt : k < n1
    · obtain ⟨d, hdk⟩ : ∃ d, ds0[k]? = some d := ⟨ds0[k]'(by omega), List.getElem?_eq_getElem _⟩
      have hdn : d.1 < n0 := hd d (List.mem_of_getElem? hdk)
      obtain ⟨t, htk⟩ : ∃ t, ts[d.1]? = some t := ⟨ts[d.1]'(by omega), List.getElem?_eq_getElem _⟩
      have htz := htx t (List.mem_of_getElem? htk)
      obtain ⟨g1, cap1, hv1, _, _⟩ := hdl.out.form (by omega)
      obtain ⟨rfl, rfl⟩ : a1 = some ⟨g1, 0, none⟩ ∧ c1 = cap1 := by simpa using hv1
      obtain ⟨g0, cap0, hv0, _, _⟩ := hr.out.form (by omega)
      obtain ⟨rfl, rfl⟩ : a0 = some ⟨g0, 0, none⟩ ∧ c0 = cap0 := by simpa using hv0
      clear hv0 hv1
      have hg1 := (row_lt hdl.out rfl)
      have hg0 := (row_lt hr.out rfl)
      have hb9 := hB.out.lt
      have hdv := dv_get ds0 k d hdk
      have y0 : wr.cell? ⟨g1, k * 2, none⟩ = some (.int .i64 d.1) := by rw [hdl.out.cellAt _ (by omega)]; exact hdv.1
      have y1 : wr.cell? ⟨g1, k * 2 + 1, none⟩ = some (.bool d.2) := by rw [hdl.out.cellAt _ (by omega)]; exact hdv.2
      have x2 : wr.cell? ⟨b, 2, none⟩ = some (.slice (some ⟨g0, 0, none⟩) n0 c0) := hB.out.cell 2
      have z1 : wr.cell? ⟨g0, d.1 * 5 + 1, none⟩ = some (.string t.text) := by rw [hr.out.cellAt _ (by omega), tv_get ts d.1 1 t htk (by omega)]; rfl
      have z2 : wr.cell? ⟨g0, d.1 * 5 + 2, none⟩ = some (.int .i64 t.place) := by rw [hr.out.cellAt _ (by omega), tv_get ts d.1 2 t htk (by omega)]; rfl
      have z3 : wr.cell? ⟨g0, d.1 * 5 + 3, none⟩ = some (.string t.doc) := by rw [hr.out.cellAt _ (by omega), tv_get ts d.1 3 t htk (by omega)]; rfl
      have z4 : wr.cell? ⟨g0, d.1 * 5 + 4, none⟩ = some (.bool t.raw) := by rw [hr.out.cellAt _ (by omega), tv_get ts d.1 4 t htk (by omega)]; rfl
      have hgb0 : g0 ≠ b := fun e => row_off hB.out (by decide) hr.out (by rw [← e]; rfl)
      have hgb1 : g1 ≠ b := fun e => row_off hB.out (by decide) hdl.out (by rw [← e]; rfl)
      obtain ⟨w1, hw1⟩ : ∃ x, wr.alloc (.cells #[.int .i64 d.1, .bool d.2] 101) = x := ⟨_, rfl⟩
      obtain ⟨B, hBs⟩ : ∃ x, wr.heap.size = x := ⟨_, rfl⟩
      have hN1 : Blk w1 B 101 #[.int .i64 d.1, .bool d.2] := by rw [← hw1, ← hBs]; exact Blk.new _ _ _
      have hB1 : Blk w1 b 92 (rdC s i (some ⟨g0, 0, none⟩) n0 c0 (some ⟨g1, 0, none⟩) n1 c1) := by rw [← hw1]; exact hB.out.alloc _
      have hK1 : ∀ g, g < B → w1.heap[g]? = wr.heap[g]? := fun g hg => by rw [← hw1]; exact Below.heap_alloc _ _ _ (by omega)
      have hS1 : w1.heap.size = B + 1 := by rw [← hw1, World.size_alloc, hBs]
      have hbel1 := Lib.hid (hbel.out.alloc hsz (.cells #[.int .i64 d.1, .bool d.2] 101))
      rw [hw1] at hbel1
      rw [hBs] at hg0 hg1 hb9
      have u0 : w1.cell? ⟨B, 0, none⟩ = some (.int .i64 d.1) := hN1.cell 0
      have u2 : w1.cell? ⟨b, 2, none⟩ = some (.slice (some ⟨g0, 0, none⟩) n0 c0) := hB1.cell 2
      have u3 : w1.cell? ⟨g0, d.1 * 5 + 1, none⟩ = some (.string t.text) := (World.cell?_of_block (hK1 g0 hg0)).trans z1
      have hwH := Lib.hid hw1
      have hsH := Lib.hid hBs
      have hN1H := Lib.hid hN1
      have hB1H := Lib.hid hB1
      clear hw1 hBs hN1 hB1
      have hdle := doc_le (s := s) (e := ⟨(unqM t.text).1.toArray⟩) (tabs := d.2) s.size i [] hi
      have hg10 : g1 ≠ g0 := fun e => by
        have := row_row (by decide) hdl.out hr.out (g := g1) rfl
        rw [e] at this
        exact this rfl
      have hbg : n₀ ≤ g0 := (hr.out.lt g0 rfl).1
      have htx2 : ∀ t' ∈ ts.set d.1 (t.told ⟨((docM s ⟨(unqM t.text).1.toArray⟩ d.2 s.size i []).1.getD []).toArray⟩ (unqM t.text).2), t'.text.size ≤ 100000 := fun t' ht' => by
        rcases List.mem_or_eq_of_mem_set ht' with h | h
        · exact htx t' h
        · rw [h]; exact htz
      rcases hdoc : docM s ⟨(unqM t.text).1.toArray⟩ d.2 s.size i [] with ⟨_ | l, j⟩
      · have hdc : Hid (∀ w, Blk w b 92 (rdC s i (some ⟨g0, 0, none⟩) n0 c0 (some ⟨g1, 0, none⟩) n1 c1) → Calls Tryz.prog 59 #[.pointer (some ⟨b, 0, none⟩), .string ⟨(unqM t.text).1.toArray⟩, .bool d.2] w fun r w' => r = .returned (.tuple #[.string ⟨#[]⟩, .bool false]) ∧ Blk w' b 92 (rdC s j (some ⟨g0, 0, none⟩) n0 c0 (some ⟨g1, 0, none⟩) n1 c1) ∧ Fr b none w w') :=
          Lib.hid (fun w h => by have h9 := document_any s ⟨(unqM t.text).1.toArray⟩ d.2 i b _ _ n0 c0 n1 c1 w h hs hi; rw [hdoc] at h9; exact h9)
        have hres := Lib.hid (hm.out.trans ((congrArg (fun x => docsM s x ts i) (List.drop_eq_getElem_cons (by omega : k < ds0.length))).trans (docs_bad (d := ds0[k]'(by omega)) (t := t) (by rw [(List.getElem?_eq_some_iff.1 hdk).2]; exact htk) (by rw [(List.getElem?_eq_some_iff.1 hdk).2]; exact hdoc))))
        clear hdoc hdle
        go_wp2_with fail
        rw [hwH.out, hsH.out]
        go_quiet (fail)
        go_wp2_with (first | (go_at_call 58; refine (unquoted_any t.text _ htz).mono ?_; rintro e2 w2 ⟨rfl, hb2⟩; have hb2H : Hid (Below (B + 1) w1 w2) := Lib.hid (by rw [← hS1]; exact drew_below hb2); have p1 : w2.cell? ⟨B, 1, none⟩ = some (.bool d.2) := (World.cell?_of_block (hb2H.out.block B (by omega))).trans (hN1H.out.cell 1); clear hb2) | (go_at_call 59; refine (hdc.out _ (blk_far hB1H.out (B := B + 1) (by omega) hb2H.out)).mono ?_; rintro e3 w3 ⟨rfl, hB3, hF3⟩; have q2 : w3.cell? ⟨g0, d.1 * 5 + 2, none⟩ = some (.int .i64 t.place) := (World.cell?_of_block (((hF3.block g0 (Nat.lt_of_lt_of_le (by omega) hb2H.out.size) hgb0 (by simp)).trans (hb2H.out.block g0 (by omega))).trans (hK1 g0 hg0))).trans z2; have hB3H := Lib.hid hB3; have hF3H := Lib.hid hF3; clear hB3 hF3))
        have hK3 : ∀ g, g < B → g ≠ b → w3.heap[g]? = wr.heap[g]? := fun g h1 h2 => ((hF3H.out.block g (Nat.lt_of_lt_of_le (by omega) hb2H.out.size) h2 (by simp)).trans (hb2H.out.block g (by omega))).trans (hK1 g h1)
        have hr3 : w3.ownsRow n₀ 58 5 (.slice (some ⟨g0, 0, none⟩) n0 c0) n0 (tv ts) := row_keep hr.out (fun g hg => by
          obtain rfl : g0 = g := by simpa [Value.ownBlock] using hg
          exact hK3 _ hg0 hgb0)
        have hd3 : w3.ownsRow n₀ 101 2 (.slice (some ⟨g1, 0, none⟩) n1 c1) n1 (dv ds0) := row_keep hdl.out (fun g hg => by
          obtain rfl : g1 = g := by simpa [Value.ownBlock] using hg
          exact hK3 _ hg1 hgb1)
        have hS2 := hb2H.out.size
        have hS3 := hF3H.out.size
        have hb3 := (hbel1.out.trans (below_of hb2H.out (by omega))).trans (hF3H.out.below hbase (by omega) (by simp))
        go_ret2
        rw [hres.out]
        refine ⟨rfl, ⟨⟨some ⟨g0, 0, none⟩, c0, some ⟨g1, 0, none⟩, c1, ?_, ?_, ?_⟩, hbase, by omega⟩, hb3⟩
        · show Blk _ b _ (rdC s j _ ts.length c0 _ ds0.length c1)
          rw [hlen, hn1]; exact hB3H.out
        · show World.ownsRow _ _ _ _ (.slice _ ts.length c0) ts.length _
          rw [hlen]; exact hr3
        · show World.ownsRow _ _ _ _ (.slice _ ds0.length c1) ds0.length _
          rw [hn1]; exact hd3
      · have hdc : Hid (∀ w, Blk w b 92 (rdC s i (some ⟨g0, 0, none⟩) n0 c0 (some ⟨g1, 0, none⟩) n1 c1) → Calls Tryz.prog 59 #[.pointer (some ⟨b, 0, none⟩), .string ⟨(unqM t.text).1.toArray⟩, .bool d.2] w fun r w' => r = .returned (.tuple #[.string ⟨l.toArray⟩, .bool true]) ∧ Blk w' b 92 (rdC s j (some ⟨g0, 0, none⟩) n0 c0 (some ⟨g1, 0, none⟩) n1 c1) ∧ Fr b none w w') :=
          Lib.hid (fun w h => by have h9 := document_any s ⟨(unqM t.text).1.toArray⟩ d.2 i b _ _ n0 c0 n1 c1 w h hs hi; rw [hdoc] at h9; exact h9)
        have hres := Lib.hid (hm.out.trans ((congrArg (fun x => docsM s x ts i) (List.drop_eq_getElem_cons (by omega : k < ds0.length))).trans (docs_on (d := ds0[k]'(by omega)) (t := t) (by rw [(List.getElem?_eq_some_iff.1 hdk).2]; exact htk) (by rw [(List.getElem?_eq_some_iff.1 hdk).2]; exact hdoc))))
        rw [hdoc] at hdle htx2
        rw [(List.getElem?_eq_some_iff.1 hdk).2] at hres
        clear hdoc
        go_wp2_with fail
        rw [hwH.out, hsH.out]
        go_quiet (fail)
        go_wp2_with (first | (go_at_call 58; refine (unquoted_any t.text _ htz).mono ?_; rintro e2 w2 ⟨rfl, hb2⟩; have hb2H : Hid (Below (B + 1) w1 w2) := Lib.hid (by rw [← hS1]; exact drew_below hb2); have p1 : w2.cell? ⟨B, 1, none⟩ = some (.bool d.2) := (World.cell?_of_block (hb2H.out.block B (by omega))).trans (hN1H.out.cell 1); clear hb2) | (go_at_call 59; refine (hdc.out _ (blk_far hB1H.out (B := B + 1) (by omega) hb2H.out)).mono ?_; rintro e3 w3 ⟨rfl, hB3, hF3⟩; have q2 : w3.cell? ⟨g0, d.1 * 5 + 2, none⟩ = some (.int .i64 t.place) := (World.cell?_of_block (((hF3.block g0 (Nat.lt_of_lt_of_le (by omega) hb2H.out.size) hgb0 (by simp)).trans (hb2H.out.block g0 (by omega))).trans (hK1 g0 hg0))).trans z2; have k0 : w3.heap[g0]? = wr.heap[g0]? := ((hF3.block g0 (Nat.lt_of_lt_of_le (by omega) hb2H.out.size) hgb0 (by simp)).trans (hb2H.out.block g0 (by omega))).trans (hK1 g0 hg0); have c3 : w3.cell? ⟨g0, d.1 * 5 + 3, none⟩ = some (.string t.doc) := (World.cell?_of_block k0).trans z3; have c4 : w3.cell? ⟨g0, d.1 * 5 + 4, none⟩ = some (.bool t.raw) := (World.cell?_of_block k0).trans z4; have fz3 : w3.frozen? ⟨g0, d.1 * 5 + 3, none⟩ = false := (World.frozen?_of_block k0).trans (hr.out.frozenAt _); have fz4 : w3.frozen? ⟨g0, d.1 * 5 + 4, none⟩ = false := (World.frozen?_of_block k0).trans (hr.out.frozenAt _); have hB3H := Lib.hid hB3; have hF3H := Lib.hid hF3; clear hB3 hF3))
        have hK3 : ∀ g, g < B → g ≠ b → w3.heap[g]? = wr.heap[g]? := fun g h1 h2 => ((hF3H.out.block g (Nat.lt_of_lt_of_le (by omega) hb2H.out.size) h2 (by simp)).trans (hb2H.out.block g (by omega))).trans (hK1 g h1)
        have hr3 : w3.ownsRow n₀ 58 5 (.slice (some ⟨g0, 0, none⟩) n0 c0) n0 (tv ts) := row_keep hr.out (fun g hg => by
          obtain rfl : g0 = g := by simpa [Value.ownBlock] using hg
          exact hK3 _ hg0 hgb0)
        have hd3 : w3.ownsRow n₀ 101 2 (.slice (some ⟨g1, 0, none⟩) n1 c1) n1 (dv ds0) := row_keep hdl.out (fun g hg => by
          obtain rfl : g1 = g := by simpa [Value.ownBlock] using hg
          exact hK3 _ hg1 hgb1)
        have hS2 := hb2H.out.size
        have hS3 := hF3H.out.size
        have hb3 := (hbel1.out.trans (below_of hb2H.out (by omega))).trans (hF3H.out.below hbase (by omega) (by simp))
        obtain ⟨hr4, hg4⟩ := hr3.stored (d.1 * 5 + 3) (.string ⟨l.toArray⟩)
        obtain ⟨hr5, hg5⟩ := hr4.stored (d.1 * 5 + 4) (.bool (unqM t.text).2)
        rw [tv_set ts d.1 t _ _ htk] at hr5
        have hB5 := (hB3H.out.far (p := ⟨g0, d.1 * 5 + 3, none⟩) (Ne.symm hgb0) (.string ⟨l.toArray⟩)).far (p := ⟨g0, d.1 * 5 + 4, none⟩) (Ne.symm hgb0) (.bool (unqM t.text).2)
        have hd5 := row_keep hd3 (w1 := (w3.setCell ⟨g0, d.1 * 5 + 3, none⟩ (.string ⟨l.toArray⟩)).setCell ⟨g0, d.1 * 5 + 4, none⟩ (.bool (unqM t.text).2)) (fun g hg => by
          obtain rfl : g1 = g := by simpa [Value.ownBlock] using hg
          exact (Below.heap_setCell _ _ _ _ hg10).trans (Below.heap_setCell _ _ _ _ hg10))
        have hb5 := (hb3.setCell (p := ⟨g0, d.1 * 5 + 3, none⟩) hbg (.string ⟨l.toArray⟩)).setCell (p := ⟨g0, d.1 * 5 + 4, none⟩) hbg (.bool (unqM t.text).2)
        go_roundw
        case rel => exact ⟨k + 1, j, _, by omega, hdle.2, by go_num, by rw [List.length_set]; exact hlen, htx2, by simp; omega, hres, Lib.hid hB5, Lib.hid hr5, Lib.hid hd5, Lib.hid hb5⟩
        case measure => simp [intOf]; omega
    · have hres : Hid (docsM s ds0 ts0 p0 = (0, 0, ts, i)) := Lib.hid (hm.out.trans (by rw [List.drop_of_length_le (by omega)]; rfl))
      go_wp2
      go_ret2
      rw [hres.out]
      refine ⟨rfl, ⟨⟨a0, c0, a1, c1, ?_, ?_, ?_⟩, hbase, hsz⟩, hbel.out⟩
      · show Blk _ b _ (rdC s i a0 ts.length c0 a1 ds0.length c1)
        rw [hlen, hn1]; exact hB.out
      · show World.ownsRow _ _ _ _ (.slice a0 ts.length c0) ts.length _
        rw [hlen]; exact hr.out
      · show World.ownsRow _ _ _ _ (.slice a1 ds0.length c1) ds0.length _
        rw [hn1]; exact hdl.out
end Go.Proofs.YtnhbcmhinhncfaaGreatDoor
