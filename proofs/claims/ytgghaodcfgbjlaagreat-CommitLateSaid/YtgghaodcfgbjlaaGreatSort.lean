/-
  THE LIBRARY'S slices.Sort AT []int, LAID AT THIS PROGRAM.
-/
import Derived.Shelf.Sort.Plain
import Derived.Ground.Names2Prog
import Derived.Shelf.Slices.CompactI
import Derived.Shelf.Slices.In.SortNone
import Derived.Test.YtgghaodcfgbjlaaGreatRows
namespace Go.Proofs.YtgghaodcfgbjlaaGreat.Srt
open Go.Shelf
def lays189_ren:Go.Shelf.Ren:=⟨fun | 189=>94 | 125=>151 | 257=>150 | 128=>200 | 129=>201 | 294=>191 | 295=>192 | 296=>193 | 297=>194 | 298=>195 | 299=>196 | 216=>197 | 300=>198 | 301=>199 | 328=>220 | 329=>221 | 330=>222 | 331=>223 | 332=>224 | 215=>212 | 343=>230 | n=>n,fun | 28=>27 | 3=>3 | 46=>231 | 0=>0 | 51=>266 | 53=>268 | 4=>4 | 183=>259 | 182=>258 | 131=>192 | 5=>5 | 9=>9 | 218=>279 | 222=>283 | 228=>289 | 229=>144 | n=>n,fun | n=>n⟩
theorem lays189:Go.Proofs.Lays.n189 Tryz.prog lays189_ren:={
  mixed:=by kernel_rfl
  f125:=Tryz.func151.trans (congrArg some (by kernel_rfl))
  f128:=Tryz.func200.trans (congrArg some (by kernel_rfl))
  f129:=Tryz.func201.trans (congrArg some (by kernel_rfl))
  f189:=Tryz.func94.trans (congrArg some (by kernel_rfl))
  f215:=Tryz.func212.trans (congrArg some (by kernel_rfl))
  f216:=Tryz.func197.trans (congrArg some (by kernel_rfl))
  f257:=Tryz.func150.trans (congrArg some (by kernel_rfl))
  f294:=Tryz.func191.trans (congrArg some (by kernel_rfl))
  f295:=Tryz.func192.trans (congrArg some (by kernel_rfl))
  f296:=Tryz.func193.trans (congrArg some (by kernel_rfl))
  f297:=Tryz.func194.trans (congrArg some (by kernel_rfl))
  f298:=Tryz.func195.trans (congrArg some (by kernel_rfl))
  f299:=Tryz.func196.trans (congrArg some (by kernel_rfl))
  f300:=Tryz.func198.trans (congrArg some (by kernel_rfl))
  f301:=Tryz.func199.trans (congrArg some (by kernel_rfl))
  f328:=Tryz.func220.trans (congrArg some (by kernel_rfl))
  f329:=Tryz.func221.trans (congrArg some (by kernel_rfl))
  f330:=Tryz.func222.trans (congrArg some (by kernel_rfl))
  f331:=Tryz.func223.trans (congrArg some (by kernel_rfl))
  f332:=Tryz.func224.trans (congrArg some (by kernel_rfl))
  f343:=Tryz.func230.trans (congrArg some (by kernel_rfl))
  t0:=Tryz.underlying0
  a0:=Tryz.isAgg0
  z0:=Tryz.sizeOf0
  v0:=Tryz.zeroValue0
  t3:=Tryz.underlying3
  a3:=Tryz.isAgg3
  z3:=Tryz.sizeOf3
  v3:=Tryz.zeroValue3
  t4:=Tryz.underlying4
  a4:=Tryz.isAgg4
  z4:=Tryz.sizeOf4
  v4:=Tryz.zeroValue4
  t5:=Tryz.underlying5
  a5:=Tryz.isAgg5
  z5:=Tryz.sizeOf5
  v5:=Tryz.zeroValue5
  t9:=Tryz.underlying9
  a9:=Tryz.isAgg9
  z9:=Tryz.sizeOf9
  v9:=Tryz.zeroValue9
  t28:=Tryz.underlying27
  a28:=Tryz.isAgg27
  z28:=Tryz.sizeOf27
  v28:=Tryz.zeroValue27
  t46:=Tryz.underlying231
  a46:=Tryz.isAgg231
  z46:=Tryz.sizeOf231
  v46:=Tryz.zeroValue231
  t51:=Tryz.underlying266
  a51:=Tryz.isAgg266
  z51:=Tryz.sizeOf266
  v51:=Tryz.zeroValue266
  t53:=Tryz.underlying268
  a53:=Tryz.isAgg268
  z53:=Tryz.sizeOf268
  v53:=Tryz.zeroValue268
  t131:=Tryz.underlying192
  a131:=Tryz.isAgg192
  z131:=Tryz.sizeOf192
  v131:=Tryz.zeroValue192
  t182:=Tryz.underlying258
  a182:=Tryz.isAgg258
  z182:=Tryz.sizeOf258
  v182:=Tryz.zeroValue258
  t183:=Tryz.underlying259
  a183:=Tryz.isAgg259
  z183:=Tryz.sizeOf259
  v183:=Tryz.zeroValue259
  t218:=Tryz.underlying279
  a218:=Tryz.isAgg279
  z218:=Tryz.sizeOf279
  v218:=Tryz.zeroValue279
  t222:=Tryz.underlying283
  a222:=Tryz.isAgg283
  z222:=Tryz.sizeOf283
  v222:=Tryz.zeroValue283
  t228:=Tryz.underlying289
  a228:=Tryz.isAgg289
  z228:=Tryz.sizeOf289
  v228:=Tryz.zeroValue289
  t229:=Tryz.underlying144
  a229:=Tryz.isAgg144
  z229:=Tryz.sizeOf144
  v229:=Tryz.zeroValue144 }
open Go.Sort Go.RowKit in
theorem slices_Sort_int (blk off cap:Nat) (zs:List Int) (w:World) (hH:Holds (Value.int .i64) w blk off zs.toArray) (hblk:blk<w.heap.size) (hsz:zs.length<4611686018427387904):
    Calls Tryz.prog 94 #[.slice (some ⟨blk,off,none⟩) zs.length cap] w fun e w' =>
      e=.returned (.tuple #[])∧∃n os,w' =grow (putRow (Value.int .i64) (Sort.ahead w n) blk off (zs.mergeSort fun x y=>decide (x≤y)).toArray) os:=Any.slices_Sort_int lays189 blk off cap zs w hH hblk hsz
def laysNm220_ren:Go.Shelf.Ren:=⟨fun | 20=>95 | n=>n,fun | 22=>27 | 3=>3 | 4=>4 | 0=>0 | n=>n,fun | n=>n⟩
theorem laysNm220:Go.Proofs.Lays2.n20 Tryz.prog laysNm220_ren:={
  mixed:=by kernel_rfl
  f20:=Tryz.func95.trans (congrArg some (by kernel_rfl))
  t0:=Tryz.underlying0
  a0:=Tryz.isAgg0
  z0:=Tryz.sizeOf0
  v0:=Tryz.zeroValue0
  t3:=Tryz.underlying3
  a3:=Tryz.isAgg3
  z3:=Tryz.sizeOf3
  v3:=Tryz.zeroValue3
  t4:=Tryz.underlying4
  a4:=Tryz.isAgg4
  z4:=Tryz.sizeOf4
  v4:=Tryz.zeroValue4
  t22:=Tryz.underlying27
  a22:=Tryz.isAgg27
  z22:=Tryz.sizeOf27
  v22:=Tryz.zeroValue27
  i3:=by kernel_rfl }
open Go.RowKit Go.Lib Go.Sort in
theorem slices_Compact_int_arr (blk off cap:Nat) (d:Array Int) (w:World) (hH:Holds encI w blk off d) (hsz:d.size≤9223372036854775807) (hcap:d.size≤cap):
    Calls Tryz.prog 95 #[.slice (some ⟨blk,off,none⟩) d.size cap] w fun e w' =>e=.returned (.slice (some ⟨blk,off,none⟩) (compactUpTo d d.size).length cap)∧∃q,w' =putRow encI (Sort.ahead w q) blk off (compactUpTo d d.size++List.replicate (d.size - (compactUpTo d d.size).length) 0).toArray:=Any.slices_Compact_int_arr laysNm220 blk off cap d w hH hsz hcap
open Go.RowKit Go.Lib Go.Sort in
theorem slices_Compact_int (blk off cap:Nat) (zs:List Int) (w:World) (hH:Holds (Value.int .i64) w blk off zs.toArray) (hsz:zs.length≤9223372036854775807) (hcap:zs.length≤cap):
    Calls Tryz.prog 95 #[.slice (some ⟨blk,off,none⟩) zs.length cap] w fun e w' =>e=.returned (.slice (some ⟨blk,off,none⟩) (Lib.compact zs).length cap)∧∃q,w' =putRow (Value.int .i64) (Sort.ahead w q) blk off (Lib.compact zs++List.replicate (zs.length - (Lib.compact zs).length) 0).toArray:=Any.slices_Compact_int laysNm220 blk off cap zs w hH hsz hcap
open Go.RowKit Go.Lib Go.Sort in
theorem slices_Compact_int_empty (a:Option Addr) (cap:Nat) (w:World):
    Calls Tryz.prog 95 #[.slice a 0 cap] w fun e w' =>e=.returned (.slice a 0 cap)∧w' =w:=Any.slices_Compact_int_empty laysNm220 a cap w
open Go.RowKit Go.Sort in
theorem slices_Sort_int_none (p:Option Addr) (cap:Nat) (w:World):
    Calls Tryz.prog 94 #[.slice p 0 cap] w fun e w' =>e=.returned (.tuple #[])∧w' =w:=Any.slices_Sort_int_none lays189 p cap w
end Go.Proofs.YtgghaodcfgbjlaaGreat.Srt
