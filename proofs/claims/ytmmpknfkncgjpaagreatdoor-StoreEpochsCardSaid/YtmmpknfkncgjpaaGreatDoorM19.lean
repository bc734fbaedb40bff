/-
  maps.Keys, laid at this program.

  strings.Repeat, laid at this program: a table of numbers, and a fact for each function and type that it reaches.

  slices.Sort at ints, laid at this program.

  slices.Sorted at ints, laid at this program.

  A block's record, as plain bytes: how it is made, what is read out of it; one byte behind the mark that is another one: no record.
-/
import Derived.Shelf.SlIterI.Nil
import Derived.Test.YtmmpknfkncgjpaaGreatDoorProg
import Derived.Shelf.Strings.Repeat
import Derived.Shelf.SortM.Plain
import Derived.Shelf.SortM.SortNone
import Derived.Test.YtmmpknfkncgjpaaGreatDoorM15
import Derived.Test.YtmmpknfkncgjpaaGreatDoorM17
import Derived.Test.YtmmpknfkncgjpaaGreatDoorM16
import Derived.Test.YtmmpknfkncgjpaaGreatDoorM01
import Derived.PlainAid
import Derived.Laws.BytesArg
namespace Go.Proofs.YtmmpknfkncgjpaaGreatDoor
open Go.Shelf
def keysA_ren : Go.Shelf.Ren := ⟨fun | 7 => 77 | 10 => 115 | n => n, fun | 23 => 142 | 26 => 3 | 3 => 144 | 28 => 140 | 0 => 0 | 27 => 139 | 33 => 149 | 4 => 4 | n => n, fun | n => n⟩
theorem keysA : Go.Proofs.SlLaysZI.n7 Tryz.prog keysA_ren := {
  mixed := by kernel_rfl
  f7 := ⟨Tryz.f77.name, by decide, Tryz.func77.trans (congrArg some (by kernel_rfl))⟩
  f10 := ⟨Tryz.f115.name, by decide, Tryz.func115.trans (congrArg some (by kernel_rfl))⟩
  t0 := Tryz.underlying0
  a0 := Tryz.isAgg0
  z0 := Tryz.sizeOf0
  v0 := Tryz.zeroValue0
  t4 := Tryz.underlying4
  a4 := Tryz.isAgg4
  z4 := Tryz.sizeOf4
  v4 := Tryz.zeroValue4
  t23 := Tryz.underlying142
  a23 := Tryz.isAgg142
  z23 := Tryz.sizeOf142
  v23 := Tryz.zeroValue142
  t26 := Tryz.underlying3
  a26 := Tryz.isAgg3
  z26 := Tryz.sizeOf3
  v26 := Tryz.zeroValue3
  t27 := Tryz.underlying139
  a27 := Tryz.isAgg139
  z27 := Tryz.sizeOf139
  v27 := Tryz.zeroValue139
  t28 := Tryz.underlying140
  a28 := Tryz.isAgg140
  z28 := Tryz.sizeOf140
  v28 := Tryz.zeroValue140
  t33 := Tryz.underlying149
  a33 := Tryz.isAgg149
  z33 := Tryz.sizeOf149
  v33 := Tryz.zeroValue149 }
end Go.Proofs.YtmmpknfkncgjpaaGreatDoor

namespace Go.Proofs.YtmmpknfkncgjpaaGreatDoor
open Go.Shelf
def repA_ren : Go.Shelf.Ren := ⟨fun | 105 => 147 | 212 => 170 | 99 => 126 | 165 => 171 | 166 => 172 | 170 => 173 | 169 => 174 | 263 => 183 | 264 => 184 | 206 => 149 | 240 => 185 | 241 => 186 | 276 => 192 | 277 => 193 | n => n, fun | 9 => 9 | 3 => 3 | 4 => 4 | 20 => 20 | 0 => 0 | 46 => 135 | 109 => 248 | 5 => 5 | 72 => 252 | 76 => 107 | 51 => 231 | 146 => 278 | 53 => 32 | 148 => 280 | 70 => 250 | 37 => 73 | 75 => 93 | 127 => 282 | 164 => 286 | 80 => 96 | n => n, fun | n => n⟩
theorem repA : Go.Proofs.Lays.n105 Tryz.prog repA_ren := {
  mixed := by kernel_rfl
  f99 := Tryz.func126.trans (congrArg some (by kernel_rfl))
  f105 := Tryz.func147.trans (congrArg some (by kernel_rfl))
  f165 := Tryz.func171.trans (congrArg some (by kernel_rfl))
  f166 := Tryz.func172.trans (congrArg some (by kernel_rfl))
  f169 := Tryz.func174.trans (congrArg some (by kernel_rfl))
  f170 := Tryz.func173.trans (congrArg some (by kernel_rfl))
  f206 := Tryz.func149.trans (congrArg some (by kernel_rfl))
  f212 := Tryz.func170.trans (congrArg some (by kernel_rfl))
  f240 := Tryz.func185.trans (congrArg some (by kernel_rfl))
  f241 := Tryz.func186.trans (congrArg some (by kernel_rfl))
  f263 := Tryz.func183.trans (congrArg some (by kernel_rfl))
  f264 := Tryz.func184.trans (congrArg some (by kernel_rfl))
  f276 := Tryz.func192.trans (congrArg some (by kernel_rfl))
  f277 := Tryz.func193.trans (congrArg some (by kernel_rfl))
  t0 := Tryz.underlying0
  a0 := Tryz.isAgg0
  z0 := Tryz.sizeOf0
  v0 := Tryz.zeroValue0
  t3 := Tryz.underlying3
  a3 := Tryz.isAgg3
  z3 := Tryz.sizeOf3
  v3 := Tryz.zeroValue3
  t4 := Tryz.underlying4
  a4 := Tryz.isAgg4
  z4 := Tryz.sizeOf4
  v4 := Tryz.zeroValue4
  t5 := Tryz.underlying5
  a5 := Tryz.isAgg5
  z5 := Tryz.sizeOf5
  v5 := Tryz.zeroValue5
  t9 := Tryz.underlying9
  a9 := Tryz.isAgg9
  z9 := Tryz.sizeOf9
  v9 := Tryz.zeroValue9
  t20 := Tryz.underlying20
  a20 := Tryz.isAgg20
  z20 := Tryz.sizeOf20
  v20 := Tryz.zeroValue20
  t37 := Tryz.underlying73
  a37 := Tryz.isAgg73
  z37 := Tryz.sizeOf73
  v37 := Tryz.zeroValue73
  t46 := Tryz.underlying135
  a46 := Tryz.isAgg135
  z46 := Tryz.sizeOf135
  v46 := Tryz.zeroValue135
  t51 := Tryz.underlying231
  a51 := Tryz.isAgg231
  z51 := Tryz.sizeOf231
  v51 := Tryz.zeroValue231
  t53 := Tryz.underlying32
  a53 := Tryz.isAgg32
  z53 := Tryz.sizeOf32
  v53 := Tryz.zeroValue32
  t70 := Tryz.underlying250
  a70 := Tryz.isAgg250
  z70 := Tryz.sizeOf250
  v70 := Tryz.zeroValue250
  t72 := Tryz.underlying252
  a72 := Tryz.isAgg252
  z72 := Tryz.sizeOf252
  v72 := Tryz.zeroValue252
  t75 := Tryz.underlying93
  a75 := Tryz.isAgg93
  z75 := Tryz.sizeOf93
  v75 := Tryz.zeroValue93
  t76 := Tryz.underlying107
  a76 := Tryz.isAgg107
  z76 := Tryz.sizeOf107
  v76 := Tryz.zeroValue107
  t109 := Tryz.underlying248
  a109 := Tryz.isAgg248
  z109 := Tryz.sizeOf248
  v109 := Tryz.zeroValue248
  t127 := Tryz.underlying282
  a127 := Tryz.isAgg282
  z127 := Tryz.sizeOf282
  v127 := Tryz.zeroValue282
  t146 := Tryz.underlying278
  a146 := Tryz.isAgg278
  z146 := Tryz.sizeOf278
  v146 := Tryz.zeroValue278
  t148 := Tryz.underlying280
  a148 := Tryz.isAgg280
  z148 := Tryz.sizeOf280
  v148 := Tryz.zeroValue280
  t164 := Tryz.underlying286
  a164 := Tryz.isAgg286
  z164 := Tryz.sizeOf286
  v164 := Tryz.zeroValue286 }
end Go.Proofs.YtmmpknfkncgjpaaGreatDoor

namespace Go.Proofs.YtmmpknfkncgjpaaGreatDoor
open Go.Shelf
def sortA_ren : Go.Shelf.Ren := ⟨fun | 5 => 114 | 8 => 141 | 7 => 140 | 19 => 163 | 20 => 164 | 10 => 154 | 11 => 155 | 12 => 156 | 13 => 157 | 14 => 158 | 15 => 159 | 16 => 160 | 17 => 161 | 18 => 162 | 30 => 175 | 31 => 176 | 32 => 177 | 33 => 178 | 34 => 179 | 35 => 180 | 40 => 187 | n => n, fun | 23 => 49 | 25 => 3 | 3 => 3 | 32 => 135 | 22 => 49 | 0 => 0 | 44 => 231 | 46 => 32 | 4 => 4 | 36 => 235 | 35 => 234 | 41 => 193 | 5 => 5 | 9 => 9 | 53 => 265 | 57 => 163 | 63 => 283 | 64 => 284 | n => n, fun | n => n⟩
theorem sortA : Go.Proofs.SlLaysM.n5 Tryz.prog sortA_ren := {
  mixed := by kernel_rfl
  f5 := ⟨Tryz.f114.name, by decide, Tryz.func114.trans (congrArg some (by kernel_rfl))⟩
  f7 := ⟨Tryz.f140.name, by decide, Tryz.func140.trans (congrArg some (by kernel_rfl))⟩
  f8 := Tryz.func141.trans (congrArg some (by kernel_rfl))
  f10 := ⟨Tryz.f154.name, by decide, Tryz.func154.trans (congrArg some (by kernel_rfl))⟩
  f11 := ⟨Tryz.f155.name, by decide, Tryz.func155.trans (congrArg some (by kernel_rfl))⟩
  f12 := ⟨Tryz.f156.name, by decide, Tryz.func156.trans (congrArg some (by kernel_rfl))⟩
  f13 := ⟨Tryz.f157.name, by decide, Tryz.func157.trans (congrArg some (by kernel_rfl))⟩
  f14 := ⟨Tryz.f158.name, by decide, Tryz.func158.trans (congrArg some (by kernel_rfl))⟩
  f15 := ⟨Tryz.f159.name, by decide, Tryz.func159.trans (congrArg some (by kernel_rfl))⟩
  f16 := ⟨Tryz.f160.name, by decide, Tryz.func160.trans (congrArg some (by kernel_rfl))⟩
  f17 := ⟨Tryz.f161.name, by decide, Tryz.func161.trans (congrArg some (by kernel_rfl))⟩
  f18 := ⟨Tryz.f162.name, by decide, Tryz.func162.trans (congrArg some (by kernel_rfl))⟩
  f19 := Tryz.func163.trans (congrArg some (by kernel_rfl))
  f20 := Tryz.func164.trans (congrArg some (by kernel_rfl))
  f30 := ⟨Tryz.f175.name, by decide, Tryz.func175.trans (congrArg some (by kernel_rfl))⟩
  f31 := Tryz.func176.trans (congrArg some (by kernel_rfl))
  f32 := Tryz.func177.trans (congrArg some (by kernel_rfl))
  f33 := ⟨Tryz.f178.name, by decide, Tryz.func178.trans (congrArg some (by kernel_rfl))⟩
  f34 := ⟨Tryz.f179.name, by decide, Tryz.func179.trans (congrArg some (by kernel_rfl))⟩
  f35 := ⟨Tryz.f180.name, by decide, Tryz.func180.trans (congrArg some (by kernel_rfl))⟩
  f40 := ⟨Tryz.f187.name, by decide, Tryz.func187.trans (congrArg some (by kernel_rfl))⟩
  t0 := Tryz.underlying0
  a0 := Tryz.isAgg0
  z0 := Tryz.sizeOf0
  v0 := Tryz.zeroValue0
  t3 := Tryz.underlying3
  a3 := Tryz.isAgg3
  z3 := Tryz.sizeOf3
  v3 := Tryz.zeroValue3
  t4 := Tryz.underlying4
  a4 := Tryz.isAgg4
  z4 := Tryz.sizeOf4
  v4 := Tryz.zeroValue4
  t5 := Tryz.underlying5
  a5 := Tryz.isAgg5
  z5 := Tryz.sizeOf5
  v5 := Tryz.zeroValue5
  t9 := Tryz.underlying9
  a9 := Tryz.isAgg9
  z9 := Tryz.sizeOf9
  v9 := Tryz.zeroValue9
  t22 := Tryz.underlying49
  a22 := Tryz.isAgg49
  z22 := Tryz.sizeOf49
  v22 := Tryz.zeroValue49
  t23 := Tryz.underlying49
  a23 := Tryz.isAgg49
  z23 := Tryz.sizeOf49
  v23 := Tryz.zeroValue49
  t25 := Tryz.underlying3
  a25 := Tryz.isAgg3
  z25 := Tryz.sizeOf3
  v25 := Tryz.zeroValue3
  t32 := Tryz.underlying135
  a32 := Tryz.isAgg135
  z32 := Tryz.sizeOf135
  v32 := Tryz.zeroValue135
  t35 := Tryz.underlying234
  a35 := Tryz.isAgg234
  z35 := Tryz.sizeOf234
  v35 := Tryz.zeroValue234
  t36 := Tryz.underlying235
  a36 := Tryz.isAgg235
  z36 := Tryz.sizeOf235
  v36 := Tryz.zeroValue235
  t41 := Tryz.underlying193
  a41 := Tryz.isAgg193
  z41 := Tryz.sizeOf193
  v41 := Tryz.zeroValue193
  t44 := Tryz.underlying231
  a44 := Tryz.isAgg231
  z44 := Tryz.sizeOf231
  v44 := Tryz.zeroValue231
  t46 := Tryz.underlying32
  a46 := Tryz.isAgg32
  z46 := Tryz.sizeOf32
  v46 := Tryz.zeroValue32
  t53 := Tryz.underlying265
  a53 := Tryz.isAgg265
  z53 := Tryz.sizeOf265
  v53 := Tryz.zeroValue265
  t57 := Tryz.underlying163
  a57 := Tryz.isAgg163
  z57 := Tryz.sizeOf163
  v57 := Tryz.zeroValue163
  t63 := Tryz.underlying283
  a63 := Tryz.isAgg283
  z63 := Tryz.sizeOf283
  v63 := Tryz.zeroValue283
  t64 := Tryz.underlying284
  a64 := Tryz.isAgg284
  z64 := Tryz.sizeOf284
  v64 := Tryz.zeroValue284 }
end Go.Proofs.YtmmpknfkncgjpaaGreatDoor

namespace Go.Proofs.YtmmpknfkncgjpaaGreatDoor
open Go.Shelf
def sortedA_ren : Go.Shelf.Ren := ⟨fun | 6 => 76 | 8 => 113 | 9 => 114 | 11 => 139 | 13 => 141 | 12 => 140 | 23 => 163 | 24 => 164 | 14 => 154 | 15 => 155 | 16 => 156 | 17 => 157 | 18 => 158 | 19 => 159 | 20 => 160 | 21 => 161 | 22 => 162 | 25 => 175 | 26 => 176 | 27 => 177 | 28 => 178 | 29 => 179 | 30 => 180 | 31 => 187 | n => n, fun | 26 => 3 | 28 => 140 | 24 => 49 | 0 => 0 | 3 => 3 | 37 => 135 | 48 => 231 | 50 => 32 | 4 => 4 | 40 => 235 | 39 => 234 | 45 => 193 | 5 => 5 | 9 => 9 | 51 => 265 | 55 => 163 | 57 => 283 | 58 => 284 | 33 => 149 | n => n, fun | n => n⟩
theorem sortedA : Go.Proofs.SlLaysZI.n6 Tryz.prog sortedA_ren := {
  mixed := by kernel_rfl
  f6 := ⟨Tryz.f76.name, by decide, Tryz.func76.trans (congrArg some (by kernel_rfl))⟩
  f8 := ⟨Tryz.f113.name, by decide, Tryz.func113.trans (congrArg some (by kernel_rfl))⟩
  f11 := ⟨Tryz.f139.name, by decide, Tryz.func139.trans (congrArg some (by kernel_rfl))⟩
  t0 := Tryz.underlying0
  a0 := Tryz.isAgg0
  z0 := Tryz.sizeOf0
  v0 := Tryz.zeroValue0
  t24 := Tryz.underlying49
  a24 := Tryz.isAgg49
  z24 := Tryz.sizeOf49
  v24 := Tryz.zeroValue49
  t26 := Tryz.underlying3
  a26 := Tryz.isAgg3
  z26 := Tryz.sizeOf3
  v26 := Tryz.zeroValue3
  t28 := Tryz.underlying140
  a28 := Tryz.isAgg140
  z28 := Tryz.sizeOf140
  v28 := Tryz.zeroValue140
  i26 := by kernel_rfl }
end Go.Proofs.YtmmpknfkncgjpaaGreatDoor

namespace Go.Proofs.YtmmpknfkncgjpaaGreatDoor
open Go.RowKit Go.PlainAid Go.Lib

/-! ### bytes as numbers -/
theorem extract_nums (bs : List Int) (a e : Nat) : (strOfNums bs).extract a e = strOfNums ((bs.drop a).take (e - a)) := by
  unfold strOfNums
  rw [ByteArray.extract_mk]
  simp [List.map_take, List.map_drop]
theorem nums_append (a b : List Int) : strOfNums (a ++ b) = strOfNums a ++ strOfNums b := by
  apply ByteArray.ext; simp [strOfNums]
theorem lev1 (n : Int) (h0 : 0 ≤ n) (h : n < 256) : lev (strOfNums (leb n 1)) 1 = n := by
  have b0 := bt_str _ (byt_leb n 1) 0 (by simp [leb])
  simp only [leb, List.take, List.getElem_cons_zero] at b0
  simp only [leb, List.take, lev, b0]; omega
theorem lev2 (n : Int) (h0 : 0 ≤ n) (h : n < 65536) : lev (strOfNums (leb n 2)) 2 = n := by
  have b0 := bt_str _ (byt_leb n 2) 0 (by simp [leb])
  have b1 := bt_str _ (byt_leb n 2) 1 (by simp [leb])
  simp only [leb, List.take, List.getElem_cons_zero, List.getElem_cons_succ] at b0 b1
  simp only [leb, List.take, lev, b0, b1]; omega
theorem lev8 (n : Int) (h0 : 0 ≤ n) (h : n ≤ 9223372036854775807) : lev (strOfNums (leb n 8)) 8 = n := by
  have hb := byt_leb n 8
  have b0 := bt_str _ hb 0 (by simp [leb])
  have b1 := bt_str _ hb 1 (by simp [leb])
  have b2 := bt_str _ hb 2 (by simp [leb])
  have b3 := bt_str _ hb 3 (by simp [leb])
  have b4 := bt_str _ hb 4 (by simp [leb])
  have b5 := bt_str _ hb 5 (by simp [leb])
  have b6 := bt_str _ hb 6 (by simp [leb])
  have b7 := bt_str _ hb 7 (by simp [leb])
  simp only [leb, List.take, List.getElem_cons_zero, List.getElem_cons_succ] at b0 b1 b2 b3 b4 b5 b6 b7
  simp only [leb, List.take, lev, b0, b1, b2, b3, b4, b5, b6, b7]
  omega
theorem bt7_leb (n : Int) (h0 : 0 ≤ n) (h : n ≤ 9223372036854775807) : bt (strOfNums (leb n 8)) 7 ≤ 127 := by
  have b7 := bt_str _ (byt_leb n 8) 7 (by simp [leb])
  have e : (leb n 8)[7]'(by simp [leb]) = n / 72057594037927936 % 256 := by simp [leb]
  rw [e] at b7
  rw [b7]
  omega

/-! ### blocks and their records -/
/-- A block. -/
structure Bk where
  id : Int
  ver : Int
  data : ByteArray
deriving DecidableEq
def Bk.zero : Bk := ⟨0, 0, ⟨#[]⟩⟩
instance : Inhabited Bk := ⟨Bk.zero⟩
def argOk (b : Bk) (m : Int) : Prop := 0 ≤ b.id ∧ b.id < 256 ∧ 1 ≤ b.ver ∧ b.ver ≤ 1099511627776 ∧ 0 ≤ m ∧ m ≤ 1
instance (b : Bk) (m : Int) : Decidable (argOk b m) := by unfold argOk; infer_instance
/-- What Record answers. -/
def refE (b : Bk) (m : Int) : Int := if argOk b m then (if 16 < b.data.size then 11 else 0) else 1
theorem refE_zero {b : Bk} {m : Int} : refE b m = 0 ↔ argOk b m ∧ b.data.size ≤ 16 := by
  unfold refE
  split
  · split
    · simp; omega
    · next h1 h2 => simp [h1]; omega
  · next h1 => simp [h1]
theorem refE_mark {b : Bk} (h : refE b 1 = 0) : refE b 0 = 0 := by
  obtain ⟨⟨h1, h2, h3, h4, h5⟩, h6⟩ := refE_zero.1 h
  exact refE_zero.2 ⟨⟨h1, h2, h3, h4, by omega⟩, h6⟩
/-- The numbers ahead of the data. -/
def hdr (b : Bk) : List Int := leb b.id 1 ++ leb b.ver 8 ++ leb b.data.size 2
theorem hdr_len (b : Bk) : (hdr b).length = 11 := by simp [hdr, leb_len]
def bodyB (b : Bk) : ByteArray := strOfNums (hdr b) ++ b.data ++ str (zeros (16 - b.data.size))
def sealB (b : Bk) : ByteArray := bodyB b ++ four (sumOf (bodyB b))
def recB (b : Bk) (m : Int) : ByteArray := strOfNums [m] ++ sealB b
theorem zeros_size (k : Nat) : (str (zeros k)).size = k := by rw [str_size]; simp [zeros]
theorem bodyB_size {b : Bk} (h : b.data.size ≤ 16) : (bodyB b).size = 27 := by
  unfold bodyB
  rw [ByteArray.size_append, ByteArray.size_append, strOfNums_size, hdr_len, zeros_size]; omega
theorem sealB_size {b : Bk} (h : b.data.size ≤ 16) : (sealB b).size = 31 := by
  unfold sealB; rw [ByteArray.size_append, bodyB_size h, four_size]
theorem recB_size {b : Bk} (h : b.data.size ≤ 16) (m : Int) : (recB b m).size = 32 := by
  unfold recB; rw [ByteArray.size_append, sealB_size h, strOfNums_size]; rfl
/-- What is read out of a record's body. -/
theorem body_at (b : Bk) (a e : Nat) (he : e ≤ 11) : (bodyB b).extract a e = strOfNums (((hdr b).drop a).take (e - a)) := by
  unfold bodyB
  rw [ByteArray.append_assoc, ByteArray.extract_append]
  have hz : (strOfNums (hdr b)).size = 11 := by rw [strOfNums_size, hdr_len]
  rw [hz, extract_nums]
  have : (b.data ++ str (zeros (16 - b.data.size))).extract (a - 11) (e - 11) = ByteArray.empty := by
    rw [ByteArray.extract_eq_empty_iff]; omega
  rw [this, ByteArray.append_empty]
theorem body_id (b : Bk) (h : refE b 1 = 0) : lev ((bodyB b).extract 0 1) 1 = b.id := by
  obtain ⟨⟨h1, h2, _⟩, _⟩ := refE_zero.1 h
  rw [body_at b 0 1 (by omega), show ((hdr b).drop 0).take (1 - 0) = leb b.id 1 by simp [hdr, leb]]
  exact lev1 _ h1 h2
theorem body_v (b : Bk) : (bodyB b).extract 1 9 = strOfNums (leb b.ver 8) := by
  rw [body_at b 1 9 (by omega), show ((hdr b).drop 1).take (9 - 1) = leb b.ver 8 by simp [hdr, leb]]
theorem body_ver (b : Bk) (h : refE b 1 = 0) : lev ((bodyB b).extract 1 9) 8 = b.ver ∧ bt ((bodyB b).extract 1 9) 7 ≤ 127 := by
  obtain ⟨⟨_, _, h1, h2, _⟩, _⟩ := refE_zero.1 h
  rw [body_v]
  exact ⟨lev8 _ (by omega) (by omega), bt7_leb _ (by omega) (by omega)⟩
theorem body_len (b : Bk) (h : refE b 1 = 0) : lev ((bodyB b).extract 9 11) 2 = b.data.size := by
  obtain ⟨_, h1⟩ := refE_zero.1 h
  rw [body_at b 9 11 (by omega), show ((hdr b).drop 9).take (11 - 9) = leb b.data.size 2 by simp [hdr, leb]]
  exact lev2 _ (by omega) (by omega)
theorem body_data (b : Bk) : (bodyB b).extract 11 (11 + b.data.size) = b.data := by
  unfold bodyB
  have hz : (strOfNums (hdr b)).size = 11 := by rw [strOfNums_size, hdr_len]
  rw [ByteArray.append_assoc, ByteArray.extract_append, hz, ByteArray.extract_append]
  rw [show (strOfNums (hdr b)).extract 11 (11 + b.data.size) = ByteArray.empty by rw [ByteArray.extract_eq_empty_iff, hz]; omega]
  rw [show (str (zeros (16 - b.data.size))).extract (11 - 11 - b.data.size) (11 + b.data.size - 11 - b.data.size) = ByteArray.empty by rw [ByteArray.extract_eq_empty_iff]; omega]
  rw [show b.data.extract (11 - 11) (11 + b.data.size - 11) = b.data by rw [show 11 + b.data.size - 11 = b.data.size by omega]; exact ByteArray.extract_zero_size]
  simp
theorem bodyB_inj {b c : Bk} (hb : refE b 1 = 0) (hc : refE c 1 = 0) (h : bodyB b = bodyB c) : b = c := by
  have h1 := body_id b hb
  have h2 := (body_ver b hb).1
  have h3 := body_len b hb
  have h4 := body_data b
  rw [h] at h1 h2 h3 h4
  rw [body_id c hc] at h1
  rw [(body_ver c hc).1] at h2
  rw [body_len c hc] at h3
  have e : b.data.size = c.data.size := by omega
  rw [e, body_data c] at h4
  cases b; cases c; simp_all
theorem sealB_open (b : Bk) : openOf (sealB b) = (bodyB b, true) := openOf_yes _
theorem recB_inj {b c : Bk} {m m' : Int} (hb : refE b 1 = 0) (hc : refE c 1 = 0) (h : recB b m = recB c m') : b = c := by
  have h1 := (app_inj (by rw [sealB_size (refE_zero.1 hb).2, sealB_size (refE_zero.1 hc).2]) h).2
  have h2 := sealB_open b
  rw [h1, sealB_open c] at h2
  exact bodyB_inj hb hc (Prod.mk.inj h2).1.symm

/-- The block that lies in a sector of these bytes, if one does. -/
noncomputable def parse (s : ByteArray) : Option Bk := open Classical in if h : ∃ b, refE b 1 = 0 ∧ recB b 1 = s then some h.choose else none
theorem parse_of {b : Bk} {s : ByteArray} (h : refE b 1 = 0) (he : recB b 1 = s) : parse s = some b := by
  have hx : ∃ b, refE b 1 = 0 ∧ recB b 1 = s := ⟨b, h, he⟩
  unfold parse
  rw [dif_pos hx]
  obtain ⟨h1, h2⟩ := hx.choose_spec
  rw [recB_inj h1 h (h2.trans he.symm)]
theorem parse_some {b : Bk} {s : ByteArray} (h : parse s = some b) : refE b 1 = 0 ∧ recB b 1 = s := by
  unfold parse at h
  split at h
  · next hx => cases h; exact hx.choose_spec
  · cases h
theorem parse_none {s : ByteArray} (h : ∀ b, refE b 1 = 0 → recB b 1 ≠ s) : parse s = none := by
  cases hp : parse s with
  | none => rfl
  | some b => exact absurd (parse_some hp).2 (h b (parse_some hp).1)
theorem parse_size {b : Bk} {s : ByteArray} (h : parse s = some b) : s.size = 32 := by
  obtain ⟨h1, rfl⟩ := parse_some h; exact recB_size (refE_zero.1 h1).2 1
theorem rec_head (b : Bk) (m : Int) (h0 : 0 ≤ m) (h1 : m ≤ 255) : bt (recB b m) 0 = m := by
  have hl : 0 < (recB b m).size := by unfold recB; rw [ByteArray.size_append, strOfNums_size]; simp; omega
  unfold bt
  rw [dif_pos hl]
  have hg : (recB b m).data.toList[0]? = some (UInt8.ofNat m.toNat) := by unfold recB; simp [ByteArray.data_append, strOfNums]
  have : (recB b m)[0]'hl = UInt8.ofNat m.toNat := by
    have := List.getElem?_eq_some_iff.1 hg
    obtain ⟨_, h2⟩ := this
    exact h2
  rw [this]
  simp [UInt8.toNat_ofNat']; omega
theorem rec_ne (b c : Bk) : recB b 0 ≠ recB c 1 := fun h => by
  have h1 := rec_head b 0 (by omega) (by omega)
  rw [h, rec_head c 1 (by omega) (by omega)] at h1; omega
/-- A sector whose first byte is another one. -/
theorem parse_head {s : ByteArray} (h : bt s 0 ≠ 1) : parse s = none := parse_none fun c _ he => h (by rw [← he]; exact rec_head c 1 (by omega) (by omega))
theorem parse_zeros : parse (str (zeros 32)) = none := parse_head (by decide +kernel)
/-- One byte behind the mark is another one. -/
theorem parse_other {b : Bk} (h : refE b 1 = 0) {t : ByteArray} {k : Nat} {x y : UInt8} (hk : 1 ≤ k) (hk2 : k < 32) (hx : (recB b 1).data.toList[k]? = some x) (hxy : x ≠ y)
    (ht : t.data.toList = (recB b 1).data.toList.take k ++ y :: (recB b 1).data.toList.drop (k + 1)) : parse t = none := by
  refine parse_none fun c hc he => ?_
  have hz := (refE_zero.1 h).2
  have hl : (recB b 1).data.toList = UInt8.ofNat 1 :: (sealB b).data.toList := by simp [recB, ByteArray.data_append, strOfNums]
  have hlc : (recB c 1).data.toList = UInt8.ofNat 1 :: (sealB c).data.toList := by simp [recB, ByteArray.data_append, strOfNums]
  obtain ⟨j, rfl⟩ : ∃ j, k = j + 1 := ⟨k - 1, by omega⟩
  rw [hl] at hx ht
  rw [← he, hlc] at ht
  simp only [List.take_succ_cons, List.drop_succ_cons, List.cons_append, List.cons.injEq, true_and] at ht
  simp only [List.getElem?_cons_succ] at hx
  have h3 := openOf_other (bodyB b) j x y (sealB c) (by have := sealB_size hz; unfold sealB at this; omega) hx hxy ht
  rw [sealB_open c] at h3
  cases h3
end Go.Proofs.YtmmpknfkncgjpaaGreatDoor
