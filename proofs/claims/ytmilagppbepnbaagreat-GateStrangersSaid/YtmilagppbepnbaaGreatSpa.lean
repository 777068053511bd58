/-
  DERIVED: LAID BY THE SHELF's lay-shelf.mjs AT THE DUMP 'toys/ytmilagppbepnbaagreat/ytmilagppbepnbaagreat.cut.gsa' (alias 'Tryz'): THE LIBRARY CONTRACTS THAT ARE PROVED ONCE, OVER ANY PROGRAM AND ANY NUMBERING, AS THEOREMS OF THIS PROGRAM: WITHOUT A WALK: 'shelf_lay' reads the table of numbers off the bodies and has the kernel compare each body; then each contract is ONE APPLICATION. EACH COMMAND STANDS UNDER 'shelf_try': one that errs is rolled back and told in the build's print ('SHELF: NOT LAID: <name>: ..'); THE MODULE's LAST ROW OF PRINT COUNTS THEM ('SHELF: n LAID, m NOT LAID'): READ IT: a contract that is not laid is not there to be used.
-/
import Derived.Shelf.Lay
import Derived.Shelf.LaySoft
import Derived.Shelf.Strings.Builder1
import Derived.Shelf.Small.Bits
import Derived.Shelf.Small.Strs
import Derived.Shelf.Strings.BuilderF
import Derived.Shelf.Strings.BuilderK
import Derived.Shelf.Strconv.Itoa0
import Derived.Shelf.Strings.Search1
import Derived.Shelf.Strings.Search2
import Derived.Shelf.Strings.Cut
import Derived.Shelf.LaysM
import Derived.Shelf.Strings.Shaped
import Derived.Shelf.Strings.Prefix
import Derived.Shelf.Strings.BuilderCap
import Derived.Ground.Names2Prog
import Derived.Shelf.Slices.Clone
import Derived.Shelf.Slices.CompactS
import Derived.Shelf.Slices.SearchI
import Derived.Shelf.Slices.Cells
import Derived.Ground.SlgnProg
import Derived.Shelf.SlicesE.Clone
import Derived.Test.YtmilagppbepnbaaGreatProg
namespace Go.Proofs
open Go.Shelf
shelf_try shelf_lay Lays.n240 Nm 240 at Tryz as Tryz.lays240
shelf_try theorem Tryz.Builder_X72_240 : Builder.X72 Tryz.prog Tryz.lays240_ren where
  sizeBuilder := by kernel_rfl
  liesBuilder := by kernel_rfl
shelf_try open Go.RowKit in
/-- (*strings.Builder).copyCheck (what every writing method calls first): behind it the builder is 'used': 'addr' holds its own address; its bytes are as they were. (LAID: no walk: one application.) -/
theorem Tryz.Builder_copyCheck (B b : Nat) (bs : List Value) (w : World) (h : Lib.IsBuilder 363 5 B b bs w) :
    Calls Tryz.prog 296 #[.pointer (some ⟨b, 0, none⟩)] w fun e w' => e = .returned (.tuple #[]) ∧ (Lib.BuilderAt 363 5 B b (.pointer (some ⟨b, 0, none⟩)) bs w' ∧ Below B w w') := Any.Builder_copyCheck Tryz.lays240 Tryz.Builder_X72_240 B b bs w h
shelf_try #print axioms Tryz.Builder_copyCheck
shelf_try shelf_lay Lays.n167 Nm 167 at Tryz as Tryz.lays167
shelf_try theorem Tryz.Builder_Extra_167 : Builder.Extra Tryz.prog Tryz.lays167_ren where
  sizeBuilder := by kernel_rfl
  liesBuilder := by kernel_rfl
  t5 := Tryz.underlying5
  a5 := Tryz.isAgg5
  z5 := Tryz.sizeOf5
  v5 := Tryz.zeroValue5
  infoByte := by kernel_rfl
  cellsByte := by kernel_rfl
  sizeByte := by kernel_rfl
  neB5 := by decide
shelf_try open Go.RowKit in
/-- (*strings.Builder).WriteByte: "WriteByte appends the byte c to b's buffer. The returned error is always nil.": UNDER Go's OWN LIMIT: the new length takes at most 2^47 bytes. (LAID: no walk: one application.) -/
theorem Tryz.Builder_WriteByte (B b : Nat) (bs : List Value) (c : Int) (w : World) (h : Lib.IsBuilder 363 5 B b bs w) (hlen : bs.length + 1 ≤ 140737488355328) (hBw : B ≤ w.heap.size) :
    Calls Tryz.prog 277 #[.pointer (some ⟨b, 0, none⟩), .int .u8 c] w fun e w' => e = .returned .nilIface ∧ (Lib.BuilderAt 363 5 B b (.pointer (some ⟨b, 0, none⟩)) (bs ++ [.int .u8 c]) w' ∧ Below B w w') := Any.Builder_WriteByte Tryz.lays167 Tryz.Builder_Extra_167 B b bs c w h hlen hBw
shelf_try #print axioms Tryz.Builder_WriteByte
shelf_try shelf_lay Lays.n169 Nm 169 at Tryz as Tryz.lays169
shelf_try open Go.RowKit in
shelf_try #print axioms Tryz.Builder_String
shelf_try open Go.RowKit in
shelf_try #print axioms Tryz.Builder_String_empty
shelf_try open Go.RowKit in
shelf_try #print axioms Tryz.Builder_String_any
shelf_try shelf_lay Lays.n128 Nm 128 at Tryz as Tryz.lays128
shelf_try #print axioms Tryz.bits_Len32
shelf_try shelf_lay Lays.n125 Nm 125 at Tryz as Tryz.lays125
shelf_try #print axioms Tryz.bits_Len
shelf_try shelf_lay Lays.n213 Nm 213 at Tryz as Tryz.lays213
shelf_try open Go.RowKit in
shelf_try #print axioms Tryz.bytealg_CompareString
shelf_try shelf_lay Lays.n106 Nm 106 at Tryz as Tryz.lays106
shelf_try open Go.RowKit in
/-- strings.Compare: "Compare returns an integer comparing two strings lexicographically. The result will be 0 if a == b, -1 if a < b, and +1 if a > b.": IT RETURNS 'Lib.compareBytes a b'; the world is as it was. (LAID: no walk: one application.) -/
theorem Tryz.strings_Compare (a b : ByteArray) (w : World) :
    Calls Tryz.prog 240 #[.string a, .string b] w fun e w' => e = .returned (.int .i64 (Lib.compareBytes a.data.toList b.data.toList)) ∧ w' = w := Any.strings_Compare Tryz.lays106 a b w
shelf_try #print axioms Tryz.strings_Compare
shelf_try open Go.RowKit in
/-- (*strings.Builder).copyCheck (what every writing method calls first): behind it the builder is 'used': 'addr' holds its own address; its bytes are as they were. (THE FORM '_f': OF A BUILDER WHOSE BUFFER's HEAD MAY BE FROZEN: 'Lib.IsBuilderF': one that 'String()' has read.) (LAID: no walk: one application.) -/
theorem Tryz.Builder_copyCheck_f (B b : Nat) (bs : List Value) (w : World) (h : Lib.IsBuilderF 363 5 B b bs w) :
    Calls Tryz.prog 296 #[.pointer (some ⟨b, 0, none⟩)] w fun e w' => e = .returned (.tuple #[]) ∧ (Lib.BuilderAtF 363 5 B b (.pointer (some ⟨b, 0, none⟩)) bs w' ∧ Below B w w') := Any.Builder_copyCheck_f Tryz.lays240 Tryz.Builder_X72_240 B b bs w h
shelf_try #print axioms Tryz.Builder_copyCheck_f
shelf_try open Go.RowKit in
shelf_try #print axioms Tryz.Builder_String_f
shelf_try open Go.RowKit in
shelf_try #print axioms Tryz.Builder_String_empty_f
shelf_try open Go.RowKit in
shelf_try #print axioms Tryz.Builder_String_any_f
shelf_try open Go.RowKit in
/-- (*strings.Builder).copyCheck (what every writing method calls first): behind it the builder is 'used': 'addr' holds its own address; its bytes are as they were. THE FORM '_k': OVER 'Lib.IsBuilderF' (a builder that 'String()' may have read), AND WITH THE FRAME THAT REACHES ABOVE THE BUILDER: 'Lib.OthersKept': every block that is not b and is no row of uint8's stands as it stood: the iterator of a range among them.' has read.) (LAID: no walk: one application.) -/
theorem Tryz.Builder_copyCheck_k (B b : Nat) (bs : List Value) (w : World) (h : Lib.IsBuilderF 363 5 B b bs w) :
    Calls Tryz.prog 296 #[.pointer (some ⟨b, 0, none⟩)] w fun e w' => e = .returned (.tuple #[]) ∧ (Lib.BuilderAtF 363 5 B b (.pointer (some ⟨b, 0, none⟩)) bs w' ∧ Below B w w' ∧ Lib.OthersKept 5 (some b) w w') := Any.Builder_copyCheck_k Tryz.lays240 Tryz.Builder_X72_240 B b bs w h
shelf_try #print axioms Tryz.Builder_copyCheck_k
shelf_try open Go.RowKit in
/-- (*strings.Builder).WriteByte: "WriteByte appends the byte c to b's buffer. The returned error is always nil.": UNDER Go's OWN LIMIT: the new length takes at most 2^47 bytes. (LAID: no walk: one application.) -/
theorem Tryz.Builder_WriteByte_k (B b : Nat) (bs : List Value) (c : Int) (w : World) (h : Lib.IsBuilderF 363 5 B b bs w) (hlen : bs.length + 1 ≤ 140737488355328) (hBw : B ≤ w.heap.size) :
    Calls Tryz.prog 277 #[.pointer (some ⟨b, 0, none⟩), .int .u8 c] w fun e w' => e = .returned .nilIface ∧ (Lib.BuilderAtF 363 5 B b (.pointer (some ⟨b, 0, none⟩)) (bs ++ [.int .u8 c]) w' ∧ Below B w w' ∧ Lib.OthersKept 5 (some b) w w') := Any.Builder_WriteByte_k Tryz.lays167 Tryz.Builder_Extra_167 B b bs c w h hlen hBw
shelf_try #print axioms Tryz.Builder_WriteByte_k
shelf_try open Go.RowKit in
shelf_try #print axioms Tryz.Builder_String_k
shelf_try open Go.RowKit in
shelf_try #print axioms Tryz.Builder_String_empty_k
shelf_try open Go.RowKit in
shelf_try #print axioms Tryz.Builder_String_any_k
shelf_try shelf_lay Lays.n129 Nm 129 at Tryz as Tryz.lays129
shelf_try #print axioms Tryz.bits_Len64
shelf_try shelf_lay Lays.n217 Nm 217 at Tryz as Tryz.lays217
shelf_try open Go.RowKit Go.Lib in
shelf_try #print axioms Tryz.stringslite_IndexByte
shelf_try shelf_lay Lays.n224 Nm 224 at Tryz as Tryz.lays224
shelf_try open Go.RowKit Go.Lib in
shelf_try #print axioms Tryz.bytealg_Cutover
shelf_try shelf_lay Lays.n314 Nm 314 at Tryz as Tryz.lays314
shelf_try open Go.RowKit Go.Lib in
shelf_try #print axioms Tryz.bytealg_hashStr
shelf_try shelf_lay Lays.n267 Nm 267 at Tryz as Tryz.lays267
shelf_try open Go.RowKit Go.Lib in
shelf_try #print axioms Tryz.bytealg_IndexRabinKarp
shelf_try shelf_lay Lays.n219 Nm 219 at Tryz as Tryz.lays219
shelf_try open Go.RowKit Go.Lib in
/-- internal/stringslite.Index (what strings.Index calls) AT A substr OF ONE BYTE c: IT RETURNS 'Lib.indexByte s c'; the world is as it was. (LAID: no walk: one application.) -/
theorem Tryz.stringslite_Index_one (s : ByteArray) (c : UInt8) (w : World) :
    Calls Tryz.prog 306 #[.string s, .string ⟨#[c]⟩] w fun e w' => e = .returned (.int .i64 (Lib.indexByte s.data.toList c)) ∧ w' = w := Any.stringslite_Index_one Tryz.lays219 s c w
shelf_try #print axioms Tryz.stringslite_Index_one
shelf_try open Go.RowKit Go.Lib in
shelf_try #print axioms Tryz.stringslite_Index
shelf_try shelf_lay Lays.n220 Nm 220 at Tryz as Tryz.lays220
shelf_try open Go.RowKit Go.Lib in
shelf_try #print axioms Tryz.stringslite_Cut
shelf_try shelf_lay Lays.n145 Nm 145 at Tryz as Tryz.lays145
shelf_try open Go.RowKit Go.Lib in
shelf_try #print axioms Tryz.strings_Cut
shelf_try shelf_lay LaysM.n219 Nm 219 at Tryz as Tryz.laysM219
shelf_try open Go.RowKit Go.Lib in
shelf_try #print axioms Tryz.stringslite_Index_shaped
shelf_try shelf_lay LaysM.n220 Nm 220 at Tryz as Tryz.laysM220
shelf_try open Go.RowKit Go.Lib in
shelf_try #print axioms Tryz.stringslite_Cut_shaped
shelf_try shelf_lay LaysM.n145 Nm 145 at Tryz as Tryz.laysM145
shelf_try open Go.RowKit Go.Lib in
shelf_try #print axioms Tryz.strings_Cut_shaped
shelf_try shelf_lay Lays.n207 Nm 207 at Tryz as Tryz.lays207
shelf_try open Go.RowKit Go.Lib in
shelf_try #print axioms Tryz.stringslite_HasSuffix
shelf_try shelf_lay Lays.n100 Nm 100 at Tryz as Tryz.lays100
shelf_try open Go.RowKit Go.Lib in
/-- strings.HasSuffix: "HasSuffix reports whether the string s ends with suffix.": IT RETURNS 'Lib.hasSuffix s suffix'; the world is as it was. ('hs': no Go string is longer: a caller has it of every string that it was handed.) (LAID: no walk: one application.) -/
theorem Tryz.strings_HasSuffix (s p : ByteArray) (w : World) (hs : s.size ≤ 9223372036854775807) :
    Calls Tryz.prog 252 #[.string s, .string p] w fun e w' => e = .returned (.bool (Lib.hasSuffix s.data.toList p.data.toList)) ∧ w' = w := Any.strings_HasSuffix Tryz.lays100 s p w hs
shelf_try #print axioms Tryz.strings_HasSuffix
shelf_try open Go.RowKit in
theorem Tryz.Builder_copyCheck_kc (B b : Nat) (bs : List Value) (w : World) (h : Lib.IsBuilderF 363 5 B b bs w) :
    Calls Tryz.prog 296 #[.pointer (some ⟨b, 0, none⟩)] w fun e w' => e = .returned (.tuple #[]) ∧ (Lib.BuilderAtF 363 5 B b (.pointer (some ⟨b, 0, none⟩)) bs w' ∧ Below B w w' ∧ Lib.OthersKept 5 (some b) w w') ∧ w'.cell? ⟨b, 1, none⟩ = w.cell? ⟨b, 1, none⟩ := Any.Builder_copyCheck_kc Tryz.lays240 Tryz.Builder_X72_240 B b bs w h
shelf_try #print axioms Tryz.Builder_copyCheck_kc
shelf_try shelf_lay Lays2.n16 Nm2 16 at Tryz as Tryz.laysNm216
shelf_try open Go.RowKit Go.Lib in
shelf_try #print axioms Tryz.slices_Clone_string
shelf_try open Go.RowKit Go.Lib in
shelf_try #print axioms Tryz.slices_Clone_string_nil
shelf_try open Go.RowKit Go.Lib in
shelf_try #print axioms Tryz.slices_Clone_string_zero
shelf_try shelf_lay Lays.n194 Nm 194 at Tryz as Tryz.lays194
shelf_try open Go.RowKit Go.Lib Go.Sort in
shelf_try #print axioms Tryz.slices_Compact_string_arr
shelf_try open Go.RowKit Go.Lib Go.Sort in
shelf_try #print axioms Tryz.slices_Compact_string
shelf_try open Go.RowKit Go.Lib Go.Sort in
shelf_try #print axioms Tryz.slices_Compact_string_empty
shelf_try shelf_lay Lays2.n37 Nm2 37 at Tryz as Tryz.laysNm237
shelf_try open Go.RowKit Go.Lib in
shelf_try #print axioms Tryz.cmp_isNaN_int2
shelf_try open Go.RowKit Go.Lib Go.Sort in
shelf_try #print axioms Tryz.slices_Compact_string_cells
shelf_try shelf_lay_g SlLaysE0.n41 Slgn 41 at Tryz 223 as Tryz.laysSlE041_f223
shelf_try open Go.RowKit Go.Lib in
shelf_try #print axioms Tryz.slices_Clone
shelf_try open Go.RowKit Go.Lib in
shelf_try #print axioms Tryz.slices_Clone_nil
shelf_tried
end Go.Proofs
