/- The contracts of the reference's has and of its Text of an empty text; the reference's rows. No condition but lengths. -/
import Derived.Test.YtlaidmjlgjpgcaaSplAA
import Derived.Test.YtlaidmjlgjpgcaaSplAB
import Derived.Lib.IndexLaws
namespace Go.Proofs.Ytlaidmjlgjpgcaa
open Go.RowKit
attribute [local go_sem] Oper.semAt_some

theorem isSep_mem (ifs : ByteArray) (b : UInt8) : isSep ifs b = true ↔ b ∈ ifs.data.toList := by
  unfold isSep
  rw [decide_eq_true_iff]
  constructor
  · intro h
    obtain ⟨o, ho⟩ := Int.eq_ofNat_of_zero_le h
    exact List.mem_of_getElem? (Lib.indexByte_some ho).1
  · intro h
    obtain ⟨k, hk⟩ := List.mem_iff_getElem?.1 h
    have h1 := Lib.indexByte_ge ifs.data.toList b
    by_cases g : Lib.indexByte ifs.data.toList b = -1
    · exact absurd hk (Lib.indexByte_none g k)
    · omega

theorem u8_eq {a b : UInt8} : ((a.toNat : Int) == (b.toNat : Int)) = decide (a = b) := by
  by_cases h : a = b
  · subst h; simp
  · rw [decide_eq_false h]
    have : a.toNat ≠ b.toNat := fun e => h (UInt8.toNat_inj.1 e)
    exact beq_eq_false_iff_ne.2 (by omega)

set_option maxHeartbeats 1000000 in
theorem has_any (ifs : ByteArray) (b : UInt8) (w : World) (hs : ifs.size ≤ 9223372036854775807) :
    Calls Try.prog 44 #[.string ifs, .int .u8 (b.toNat : Int)] w fun e w' => e = .returned (.bool (isSep ifs b)) ∧ w = w' := by
  go_enter Try.func44, Try.ntmps44
  go_wp2
  go_loop [5] (fun i => ∃ k : Nat, k ≤ ifs.size ∧ i = .int .i64 k ∧ Hid (∀ j, j < k → ifs.data.toList[j]? ≠ some b)) (fun i => ifs.size - (intOf i).toNat)
  case atStart => exact ⟨0, Nat.zero_le _, rfl, Lib.hid (fun j h => by omega)⟩
  case round =>
    obtain ⟨k, hk, rfl, hno⟩ := hrel
    by_cases hlt : k < ifs.size
    · have hg : Hid (ifs.data.toList[k]? = some ifs[k]) := Lib.hid (List.getElem?_eq_getElem hlt)
      by_cases he : ifs[k] = b
      · have e1 : Hid (isSep ifs b = true) := Lib.hid ((isSep_mem ifs b).2 (by rw [← he]; exact List.mem_of_getElem? hg.out))
        have e2 : ((ifs[k].toNat : Int) == (b.toNat : Int)) = true := by rw [he]; simp
        clear he
        go_wp2
        go_ret
        exact ⟨ret_bool e1.out.symm, rfl⟩
      · have e2 : ((ifs[k].toNat : Int) == (b.toNat : Int)) = false := by rw [u8_eq]; exact decide_eq_false he
        have heH := Lib.hid he
        clear he
        go_wp2
        go_round
        case rel => exact ⟨k + 1, by omega, by go_num, Lib.hid (fun j hj => by
          by_cases h : j = k
          · subst h; rw [hg.out]; exact fun e => heH.out (Option.some.inj e)
          · exact hno.out j (by omega))⟩
        case measure => simp [intOf]; omega
    · have e1 : Hid (isSep ifs b = false) := Lib.hid (by
        by_cases h : isSep ifs b = true
        · obtain ⟨j, hj⟩ := List.mem_iff_getElem?.1 ((isSep_mem ifs b).1 h)
          have hj2 := (List.getElem?_eq_some_iff.1 hj).1
          have e : ifs.data.toList.length = ifs.size := rfl
          exact absurd hj (hno.out j (by omega))
        · simpa using h)
      go_wp2
      go_ret
      exact ⟨ret_bool e1.out.symm, rfl⟩

theorem run_conv_nil (w : World) : Sem.run Try.prog (convert 35 9 (.slice none 0 0)) w = .ok (.string ⟨#[]⟩) w := by kernel_rfl

set_option maxHeartbeats 1000000 in
theorem refText_zero (a : Option Addr) (c : Nat) (w : World) :
    Calls Try.prog 30 #[.slice a 0 c] w fun e w' => e = .returned (.string ⟨#[]⟩) ∧ w = w' := by
  have hr := run_conv_nil w
  go_enter Try.func30, Try.ntmps30
  go_wp2_with fail
  go_loop [4, 3] (fun s4 s3 => s4 = .int .i64 0 ∧ s3 = .slice none 0 0) (fun _ _ => 0)
  case atStart => exact ⟨rfl, rfl⟩
  case round =>
    obtain ⟨rfl, rfl⟩ := hrel
    go_wp2_with fail
    go_ret
    exact ⟨rfl, rfl⟩
theorem refText_all (u : Value) (f : List Ch) (w : World) (hv : FldView w u f) (hl : f.length ≤ 100000) :
    Calls Try.prog 30 #[u] w fun e w' => e = .returned (.string ⟨(txt f).toArray⟩) ∧ Below w.heap.size w w' := by
  by_cases h0 : 0 < f.length
  · exact refText_any u f w hv hl h0
  · obtain ⟨a, c, rfl, _⟩ := hv
    obtain rfl : f = [] := List.eq_nil_of_length_eq_zero (by omega)
    exact (refText_zero a c w).mono fun e w' ⟨h1, h2⟩ => ⟨h1, by rw [← h2]; exact Below.refl _ _⟩

/-- The reference's rows: the fields, the field at hand. -/
structure Rf (n₀ : Nat) (m : Mk) (vf vc : Value) (W : World) : Prop where
  rf : ∃ sl, W.ownsRow n₀ 22 1 vf m.fs.length sl ∧ SlAt n₀ m.fs vc sl W
  rc : W.ownsRow n₀ 33 2 vc m.f.length (chv m.f)
theorem Rf.same {n₀ : Nat} {m : Mk} {vf vc : Value} {w w1 : World} (h : Rf n₀ m vf vc w) (hb : ∀ (g : Nat) (cs : Array Value) (t : TypeId) (fr : Nat × Nat), w.heap[g]? = some (.cells cs t fr) → t = 22 ∨ t = 33 → w1.heap[g]? = w.heap[g]?) : Rf n₀ m vf vc w1 := by
  have key : ∀ {e size : Nat} {v : Value} {k : Nat} {xs : List Value}, (e = 22 ∨ e = 33) → w.ownsRow n₀ e size v k xs → w1.ownsRow n₀ e size v k xs := by
    intro e size v k xs he hr
    refine ⟨hr.1, ?_⟩
    rcases hr.2 with h0 | ⟨g, cap, cur, e1, e2, e3, e4⟩
    · exact .inl h0
    · exact .inr ⟨g, cap, cur, e1, e2, (hb g _ _ _ e3 he).trans e3, e4⟩
  obtain ⟨⟨sl, a, b, c⟩, d⟩ := h
  exact ⟨⟨sl, key (.inl rfl) a, b, fun j v f h1 h2 => ⟨key (.inr rfl) (c j v f h1 h2).1, (c j v f h1 h2).2⟩⟩, key (.inr rfl) d⟩
theorem Rf.alloc {n₀ : Nat} {m : Mk} {vf vc : Value} {w : World} (h : Rf n₀ m vf vc w) (o : Obj) : Rf n₀ m vf vc (w.alloc o) :=
  h.same fun _ _ _ _ hg _ => Below.heap_alloc w o _ (Array.getElem?_eq_some_iff.1 hg).1
theorem Rf.take {n₀ : Nat} {m : Mk} {vf vc v' : Value} {w w1 : World} {c : Ch} (h : Rf n₀ m vf vc w) (hg : w.grownBy w1 vc.ownBlock) (own' : w1.ownsRow n₀ 33 2 v' (m.f.length + 1) (chv m.f ++ [.int .u8 (c.1.toNat : Int), .bool c.2]))
    (hat : v'.ownBlock = vc.ownBlock ∨ v'.ownBlock = some w.heap.size) : Rf n₀ (m.step (.it c)) vf v' w1 := by
  obtain ⟨⟨sl, a, b, s⟩, d⟩ := h
  refine ⟨⟨sl, own_blk a (fun g e => hg.block g (own_lt a e) (row_row (by decide) a d e)), b, fun j v f h1 h2 => ?_⟩, ?_⟩
  · obtain ⟨s1, s2⟩ := s j v f h1 h2
    refine ⟨own_blk s1 (fun g e => hg.block g (own_lt s1 e) (fun e2 => s2 g e e2.symm)), fun g e e2 => ?_⟩
    rcases hat with hat | hat
    · exact s2 g e (hat.symm.trans e2)
    · rw [hat] at e2
      have := own_lt s1 e
      have e3 := Option.some.inj e2
      omega
  · show w1.ownsRow n₀ 33 2 v' (m.f ++ [c]).length (chv (m.f ++ [c]))
    rw [List.length_append, chv_snoc]
    exact own'
theorem Rf.push {n₀ : Nat} {m : Mk} {vf vc v' : Value} {sl : List Value} {w w1 : World} (hs : SlAt n₀ m.fs vc sl w) (hf : w.ownsRow n₀ 22 1 vf m.fs.length sl) (hc : w.ownsRow n₀ 33 2 vc m.f.length (chv m.f)) (hg : w.grownBy w1 vf.ownBlock)
    (own' : w1.ownsRow n₀ 22 1 v' (m.fs.length + 1) (sl ++ [vc])) (b s : Bool) : Rf n₀ ⟨m.fs ++ [m.f], [], b, s⟩ v' (.slice none 0 0) w1 := by
  refine ⟨⟨sl ++ [vc], by rw [List.length_append]; exact own', by rw [List.length_append, List.length_append, hs.1]; rfl, fun j v f h1 h2 => ⟨?_, fun g _ => by simp [Value.ownBlock]⟩⟩, World.ownsRow_nil _ _ _ _⟩
  have key : ∀ {u : Value} {x : List Ch}, w.ownsRow n₀ 33 2 u x.length (chv x) → w1.ownsRow n₀ 33 2 u x.length (chv x) := fun hr => own_blk hr (fun g e => hg.block g (own_lt hr e) (row_row (by decide) hr hf e))
  by_cases hj : j < sl.length
  · rw [List.getElem?_append_left hj] at h1
    rw [List.getElem?_append_left (by rw [← hs.1]; exact hj)] at h2
    exact key (hs.2 j v f h1 h2).1
  · rw [List.getElem?_append_right (by omega)] at h1
    rw [List.getElem?_append_right (by rw [← hs.1]; omega)] at h2
    have hj2 := (List.getElem?_eq_some_iff.1 h1).1
    rw [List.length_singleton] at hj2
    rw [show j - sl.length = 0 by omega] at h1
    rw [← hs.1, show j - sl.length = 0 by omega] at h2
    obtain rfl : vc = v := by simpa using h1
    obtain rfl : m.f = f := by simpa using h2
    exact key hc
theorem Rf.pushNil {n₀ : Nat} {m : Mk} {vf vc v' : Value} {sl : List Value} {w w1 : World} (hs : SlAt n₀ m.fs vc sl w) (hf : w.ownsRow n₀ 22 1 vf m.fs.length sl) (hc : w.ownsRow n₀ 33 2 vc m.f.length (chv m.f)) (hg : w.grownBy w1 vf.ownBlock)
    (own' : w1.ownsRow n₀ 22 1 v' (m.fs.length + 1) (sl ++ [.slice none 0 0])) (b s : Bool) : Rf n₀ ⟨m.fs ++ [[]], m.f, b, s⟩ v' vc w1 := by
  have key : ∀ {u : Value} {x : List Ch}, w.ownsRow n₀ 33 2 u x.length (chv x) → w1.ownsRow n₀ 33 2 u x.length (chv x) := fun hr => own_blk hr (fun g e => hg.block g (own_lt hr e) (row_row (by decide) hr hf e))
  refine ⟨⟨sl ++ [.slice none 0 0], by rw [List.length_append]; exact own', by rw [List.length_append, List.length_append, hs.1]; rfl, fun j v f h1 h2 => ?_⟩, key hc⟩
  by_cases hj : j < sl.length
  · rw [List.getElem?_append_left hj] at h1
    rw [List.getElem?_append_left (by rw [← hs.1]; exact hj)] at h2
    exact ⟨key (hs.2 j v f h1 h2).1, (hs.2 j v f h1 h2).2⟩
  · rw [List.getElem?_append_right (by omega)] at h1
    rw [List.getElem?_append_right (by rw [← hs.1]; omega)] at h2
    have hj2 := (List.getElem?_eq_some_iff.1 h1).1
    rw [List.length_singleton] at hj2
    rw [show j - sl.length = 0 by omega] at h1
    rw [← hs.1, show j - sl.length = 0 by omega] at h2
    obtain rfl : Value.slice none 0 0 = v := by simpa using h1
    obtain rfl : [] = f := by simpa using h2
    exact ⟨World.ownsRow_nil _ _ _ _, fun g e => by simp [Value.ownBlock] at e⟩

theorem step_size (m : Mk) (p : Pt) : (m.step p).fs.length + (m.step p).f.length ≤ m.fs.length + m.f.length + 1 := by
  unfold Mk.step
  rcases p with c | _ | _ | _
  · simp; omega
  · simp
  · cases m.b <;> simp <;> omega
  · cases m.b <;> cases m.s <;> simp <;> omega
theorem fold_size (l : List Pt) : ∀ m : Mk, (fold m l).fs.length + (fold m l).f.length ≤ m.fs.length + m.f.length + l.length := by
  induction l with
  | nil => exact fun m => Nat.le_refl _
  | cons p r ih =>
    intro m
    have h1 := ih (m.step p)
    have h2 := step_size m p
    have e : fold m (p :: r) = fold (m.step p) r := rfl
    rw [e, List.length_cons]
    omega
theorem parts_len (ifs : ByteArray) (ps : List Pc) : (partsOf ifs ps).length ≤ (bytesCat ps).length + ps.length := by
  induction ps with
  | nil => simp [partsOf]
  | cons p ps ih =>
    have e : partsOf ifs (p :: ps) = partsP ifs p ++ partsOf ifs ps := by unfold partsOf; rw [List.flatMap_cons]
    have e2 : bytesCat (p :: ps) = p.t.data.toList ++ bytesCat ps := by unfold bytesCat; rw [List.flatMap_cons]
    have e3 : (partsP ifs p).length ≤ 1 + p.t.data.toList.length := by
      unfold partsP headP bytesP
      cases p.q
      · simp
      · simp; omega
    rw [e, e2, List.length_append, List.length_append, List.length_cons]
    omega
end Go.Proofs.Ytlaidmjlgjpgcaa
