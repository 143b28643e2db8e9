/- Shelf Bv Bw Bx By -/
import Derived.Shelf.Strings.Builder1
import Derived.Shelf.Strings.OnBuilder
import Derived.Shelf.Strconv.Itoa0
import Derived.Shelf.Strconv.Itoa1
import Derived.Shelf.LaysM
import Derived.Shelf.Strconv.Itoa2
import Derived.Shelf.Strconv.Itoa3
import Derived.Ground.Names2Prog
import Derived.Test.YtejhccmclanlmaaGreatDoorProg
import Derived.Lib.ItoaLen
import Derived.Test.YtejhccmclanlmaaGreatDoorV39
set_option linter.all false
set_option maxRecDepth 100000
set_option maxHeartbeats 8000000
namespace Go.Proofs
open Go.Shelf
def Tryz.lays169_ren:Go.Shelf.Ren:=⟨fun|169=>63|n=>n,fun|70=>133|9=>9|0=>0|72=>136|37=>134|127=>177|3=>3|5=>5|n=>n,fun|n=>n⟩
theorem Tryz.lays169:Go.Proofs.Lays.n169 Tryz.prog Tryz.lays169_ren:={
 mixed:=by kernel_rfl
 f169:=Tryz.func63.trans (congrArg some (by kernel_rfl))
 t0:=Tryz.underlying0
 a0:=Tryz.isAgg0
 z0:=Tryz.sizeOf0
 v0:=Tryz.zeroValue0
 t3:=Tryz.underlying3
 a3:=Tryz.isAgg3
 z3:=Tryz.sizeOf3
 v3:=Tryz.zeroValue3
 t9:=Tryz.underlying9
 a9:=Tryz.isAgg9
 z9:=Tryz.sizeOf9
 v9:=Tryz.zeroValue9
 t37:=Tryz.underlying134
 a37:=Tryz.isAgg134
 z37:=Tryz.sizeOf134
 v37:=Tryz.zeroValue134
 t70:=Tryz.underlying133
 a70:=Tryz.isAgg133
 z70:=Tryz.sizeOf133
 v70:=Tryz.zeroValue133
 t72:=Tryz.underlying136
 a72:=Tryz.isAgg136
 z72:=Tryz.sizeOf136
 v72:=Tryz.zeroValue136
 t127:=Tryz.underlying177
 a127:=Tryz.isAgg177
 z127:=Tryz.sizeOf177
 v127:=Tryz.zeroValue177}
theorem Tryz.Builder_Extra_169:Builder.Extra Tryz.prog Tryz.lays169_ren:={
 sizeBuilder:=by kernel_rfl
 liesBuilder:=by kernel_rfl
 t5:=Tryz.underlying5
 a5:=Tryz.isAgg5
 z5:=Tryz.sizeOf5
 v5:=Tryz.zeroValue5
 infoByte:=by kernel_rfl
 cellsByte:=by kernel_rfl
 sizeByte:=by kernel_rfl
 neB5:=by decide}
open Go.RowKit in
theorem Tryz.Builder_String_any (B b:Nat) (l:List UInt8) (w:World) (h:Lib.IsBuilder 136 5 B b (Lib.byteCells l) w) (hBw:B≤w.heap.size):
  Calls Tryz.prog 63 #[.pointer (some ⟨b,0,none⟩)] w fun e w'=>e=.returned (.string ⟨l.toArray⟩)∧Below B w w':=Any.Builder_String_any Tryz.lays169 Tryz.Builder_Extra_169 B b l w h hBw
def Tryz.lays156_ren:Go.Shelf.Ren:=⟨fun|156=>90|165=>126|166=>61|169=>63|240=>88|241=>149|276=>124|277=>172|n=>n,fun|31=>174|9=>9|3=>3|4=>4|0=>0|20=>20|72=>136|76=>139|70=>133|37=>134|75=>138|127=>177|164=>209|5=>5|80=>142|n=>n,fun|n=>n⟩
theorem Tryz.lays156:Go.Proofs.Lays.n156 Tryz.prog Tryz.lays156_ren:={
 mixed:=by kernel_rfl
 f156:=Tryz.func90.trans (congrArg some (by kernel_rfl))
 f165:=Tryz.func126.trans (congrArg some (by kernel_rfl))
 f166:=Tryz.func61.trans (congrArg some (by kernel_rfl))
 f169:=Tryz.func63.trans (congrArg some (by kernel_rfl))
 f240:=Tryz.func88.trans (congrArg some (by kernel_rfl))
 f241:=Tryz.func149.trans (congrArg some (by kernel_rfl))
 f276:=Tryz.func124.trans (congrArg some (by kernel_rfl))
 f277:=Tryz.func172.trans (congrArg some (by kernel_rfl))
 t0:=Tryz.underlying0
 a0:=Tryz.isAgg0
 z0:=Tryz.sizeOf0
 v0:=Tryz.zeroValue0
 t3:=Tryz.underlying3
 a3:=Tryz.isAgg3
 z3:=Tryz.sizeOf3
 v3:=Tryz.zeroValue3
 t4:=Tryz.underlying4
 a4:=Tryz.isAgg4
 z4:=Tryz.sizeOf4
 v4:=Tryz.zeroValue4
 t9:=Tryz.underlying9
 a9:=Tryz.isAgg9
 z9:=Tryz.sizeOf9
 v9:=Tryz.zeroValue9
 t20:=Tryz.underlying20
 a20:=Tryz.isAgg20
 z20:=Tryz.sizeOf20
 v20:=Tryz.zeroValue20
 t31:=Tryz.underlying174
 a31:=Tryz.isAgg174
 z31:=Tryz.sizeOf174
 v31:=Tryz.zeroValue174
 t37:=Tryz.underlying134
 a37:=Tryz.isAgg134
 z37:=Tryz.sizeOf134
 v37:=Tryz.zeroValue134
 t70:=Tryz.underlying133
 a70:=Tryz.isAgg133
 z70:=Tryz.sizeOf133
 v70:=Tryz.zeroValue133
 t72:=Tryz.underlying136
 a72:=Tryz.isAgg136
 z72:=Tryz.sizeOf136
 v72:=Tryz.zeroValue136
 t75:=Tryz.underlying138
 a75:=Tryz.isAgg138
 z75:=Tryz.sizeOf138
 v75:=Tryz.zeroValue138
 t76:=Tryz.underlying139
 a76:=Tryz.isAgg139
 z76:=Tryz.sizeOf139
 v76:=Tryz.zeroValue139
 t127:=Tryz.underlying177
 a127:=Tryz.isAgg177
 z127:=Tryz.sizeOf177
 v127:=Tryz.zeroValue177
 t164:=Tryz.underlying209
 a164:=Tryz.isAgg209
 z164:=Tryz.sizeOf209
 v164:=Tryz.zeroValue209}
theorem Tryz.Builder_Extra_156:Builder.Extra Tryz.prog Tryz.lays156_ren:={
 sizeBuilder:=by kernel_rfl
 liesBuilder:=by kernel_rfl
 t5:=Tryz.underlying5
 a5:=Tryz.isAgg5
 z5:=Tryz.sizeOf5
 v5:=Tryz.zeroValue5
 infoByte:=by kernel_rfl
 cellsByte:=by kernel_rfl
 sizeByte:=by kernel_rfl
 neB5:=by decide}
open Go.RowKit in
theorem Tryz.strings_Join (bk o c:Nat) (xs:List ByteArray) (sep:ByteArray) (w:World) (hcells:∀ (j:Nat) x,xs[j]? = some x→w.cell? ⟨bk,o+j,none⟩=some (.string x)) (hbk:bk<w.heap.size) (hN:xs.length≤140737488355328) (hcap:xs.length≤c) (hlen:(Lib.join (xs.map (·.data.toList)) sep.data.toList).length≤140737488355328):
  Calls Tryz.prog 90 #[.slice (some ⟨bk,o,none⟩) xs.length c,.string sep] w fun e w'=>e=.returned (.string ⟨(Lib.join (xs.map (·.data.toList)) sep.data.toList).toArray⟩)∧Below w.heap.size w w':=Any.strings_Join Tryz.lays156 Tryz.Builder_Extra_156 bk o c xs sep w hcells hbk hN hcap hlen
def Tryz.laysM171_ren:Go.Shelf.Ren:=⟨fun|171=>89|243=>125|246=>148|283=>168|284=>169|285=>170|286=>171|129=>181|317=>180|318=>182|319=>183|320=>184|337=>191|338=>192|n=>n,fun|3=>3|9=>9|2=>2|4=>4|171=>243|0=>0|53=>244|37=>134|5=>5|173=>247|212=>257|51=>258|20=>20|213=>259|46=>194|232=>269|233=>270|n=>n,fun|17=>0|18=>2|19=>3|n=>n⟩
theorem Tryz.laysM171:Go.Proofs.LaysM.n171 Tryz.prog Tryz.laysM171_ren:={
 mixed:=by kernel_rfl
 f129:=Tryz.func181.trans (congrArg some (by kernel_rfl))
 f171:=Tryz.func89.trans (congrArg some (by kernel_rfl))
 f243:=Tryz.func125.trans (congrArg some (by kernel_rfl))
 f246:=Tryz.func148.trans (congrArg some (by kernel_rfl))
 f283:=Tryz.func168.trans (congrArg some (by kernel_rfl))
 f284:=Tryz.func169.trans (congrArg some (by kernel_rfl))
 f285:=Tryz.func170.trans (congrArg some (by kernel_rfl))
 f286:=Tryz.func171.trans (congrArg some (by kernel_rfl))
 f317:=Tryz.func180.trans (congrArg some (by kernel_rfl))
 f318:=Tryz.func182.trans (congrArg some (by kernel_rfl))
 f319:=Tryz.func183.trans (congrArg some (by kernel_rfl))
 f320:=Tryz.func184.trans (congrArg some (by kernel_rfl))
 f337:=Tryz.func191.trans (congrArg some (by kernel_rfl))
 f338:=Tryz.func192.trans (congrArg some (by kernel_rfl))
 t0:=Tryz.underlying0
 a0:=Tryz.isAgg0
 z0:=Tryz.sizeOf0
 v0:=Tryz.zeroValue0
 t2:=Tryz.underlying2
 a2:=Tryz.isAgg2
 z2:=Tryz.sizeOf2
 v2:=Tryz.zeroValue2
 t3:=Tryz.underlying3
 a3:=Tryz.isAgg3
 z3:=Tryz.sizeOf3
 v3:=Tryz.zeroValue3
 t4:=Tryz.underlying4
 a4:=Tryz.isAgg4
 z4:=Tryz.sizeOf4
 v4:=Tryz.zeroValue4
 t5:=Tryz.underlying5
 a5:=Tryz.isAgg5
 z5:=Tryz.sizeOf5
 v5:=Tryz.zeroValue5
 t9:=Tryz.underlying9
 a9:=Tryz.isAgg9
 z9:=Tryz.sizeOf9
 v9:=Tryz.zeroValue9
 t20:=Tryz.underlying20
 a20:=Tryz.isAgg20
 z20:=Tryz.sizeOf20
 v20:=Tryz.zeroValue20
 t37:=Tryz.underlying134
 a37:=Tryz.isAgg134
 z37:=Tryz.sizeOf134
 v37:=Tryz.zeroValue134
 t46:=Tryz.underlying194
 a46:=Tryz.isAgg194
 z46:=Tryz.sizeOf194
 v46:=Tryz.zeroValue194
 t51:=Tryz.underlying258
 a51:=Tryz.isAgg258
 z51:=Tryz.sizeOf258
 v51:=Tryz.zeroValue258
 t53:=Tryz.underlying244
 a53:=Tryz.isAgg244
 z53:=Tryz.sizeOf244
 v53:=Tryz.zeroValue244
 t171:=Tryz.underlying243
 a171:=Tryz.isAgg243
 z171:=Tryz.sizeOf243
 v171:=Tryz.zeroValue243
 t173:=Tryz.underlying247
 a173:=Tryz.isAgg247
 z173:=Tryz.sizeOf247
 v173:=Tryz.zeroValue247
 t212:=Tryz.underlying257
 a212:=Tryz.isAgg257
 z212:=Tryz.sizeOf257
 v212:=Tryz.zeroValue257
 t213:=Tryz.underlying259
 a213:=Tryz.isAgg259
 z213:=Tryz.sizeOf259
 t232:=Tryz.underlying269
 a232:=Tryz.isAgg269
 z232:=Tryz.sizeOf269
 v232:=Tryz.zeroValue269
 t233:=Tryz.underlying270
 a233:=Tryz.isAgg270
 z233:=Tryz.sizeOf270
 v233:=Tryz.zeroValue270
 g17:=by kernel_rfl
 g18:=by kernel_rfl
 g19:=by kernel_rfl
 i0:=by kernel_rfl
 i2:=by kernel_rfl
 i3:=by kernel_rfl
 i4:=by kernel_rfl
 i5:=by kernel_rfl
 i9:=by kernel_rfl
 i20:=by kernel_rfl
 i37:=by kernel_rfl
 i46:=by kernel_rfl
 i51:=by kernel_rfl
 i53:=by kernel_rfl
 i171:=by kernel_rfl
 i173:=by kernel_rfl
 i212:=by kernel_rfl
 i232:=by kernel_rfl
 i233:=by kernel_rfl
 m17:=by kernel_rfl
 m18:=by kernel_rfl
 m19:=by kernel_rfl}
open Go.RowKit Go.Sort Go.Lib in
theorem Tryz.strconv_Itoa (n:Int) (h0:-9223372036854775808≤n) (h1:n≤9223372036854775807) (w:World) (htab:Lib.TabIs Tryz.prog w "internal/strconv.uint64pow10" .u64 Lib.pow10Tab):
  Calls Tryz.prog 89 #[.int .i64 n] w fun e w'=>e=.returned (.string ⟨(Lib.itoa n).toArray⟩)∧∃ k os,w'=grow (w.drewN k) os:=Any.strconv_Itoa Tryz.laysM171 n h0 h1 w htab
def Tryz.lays171_ren:Go.Shelf.Ren:=⟨fun|171=>89|243=>125|246=>148|283=>168|284=>169|285=>170|286=>171|129=>181|317=>180|318=>182|319=>183|320=>184|337=>191|338=>192|n=>n,fun|3=>3|9=>9|2=>2|4=>4|171=>243|0=>0|53=>244|37=>134|5=>5|173=>247|212=>257|51=>258|20=>20|213=>259|46=>194|232=>269|233=>270|n=>n,fun|17=>0|18=>2|19=>3|n=>n⟩
theorem Tryz.lays171:Go.Proofs.Lays.n171 Tryz.prog Tryz.lays171_ren:={
 mixed:=by kernel_rfl
 f129:=Tryz.func181.trans (congrArg some (by kernel_rfl))
 f171:=Tryz.func89.trans (congrArg some (by kernel_rfl))
 f243:=Tryz.func125.trans (congrArg some (by kernel_rfl))
 f246:=Tryz.func148.trans (congrArg some (by kernel_rfl))
 f283:=Tryz.func168.trans (congrArg some (by kernel_rfl))
 f284:=Tryz.func169.trans (congrArg some (by kernel_rfl))
 f285:=Tryz.func170.trans (congrArg some (by kernel_rfl))
 f286:=Tryz.func171.trans (congrArg some (by kernel_rfl))
 f317:=Tryz.func180.trans (congrArg some (by kernel_rfl))
 f318:=Tryz.func182.trans (congrArg some (by kernel_rfl))
 f319:=Tryz.func183.trans (congrArg some (by kernel_rfl))
 f320:=Tryz.func184.trans (congrArg some (by kernel_rfl))
 f337:=Tryz.func191.trans (congrArg some (by kernel_rfl))
 f338:=Tryz.func192.trans (congrArg some (by kernel_rfl))
 t0:=Tryz.underlying0
 a0:=Tryz.isAgg0
 z0:=Tryz.sizeOf0
 v0:=Tryz.zeroValue0
 t2:=Tryz.underlying2
 a2:=Tryz.isAgg2
 z2:=Tryz.sizeOf2
 v2:=Tryz.zeroValue2
 t3:=Tryz.underlying3
 a3:=Tryz.isAgg3
 z3:=Tryz.sizeOf3
 v3:=Tryz.zeroValue3
 t4:=Tryz.underlying4
 a4:=Tryz.isAgg4
 z4:=Tryz.sizeOf4
 v4:=Tryz.zeroValue4
 t5:=Tryz.underlying5
 a5:=Tryz.isAgg5
 z5:=Tryz.sizeOf5
 v5:=Tryz.zeroValue5
 t9:=Tryz.underlying9
 a9:=Tryz.isAgg9
 z9:=Tryz.sizeOf9
 v9:=Tryz.zeroValue9
 t20:=Tryz.underlying20
 a20:=Tryz.isAgg20
 z20:=Tryz.sizeOf20
 v20:=Tryz.zeroValue20
 t37:=Tryz.underlying134
 a37:=Tryz.isAgg134
 z37:=Tryz.sizeOf134
 v37:=Tryz.zeroValue134
 t46:=Tryz.underlying194
 a46:=Tryz.isAgg194
 z46:=Tryz.sizeOf194
 v46:=Tryz.zeroValue194
 t51:=Tryz.underlying258
 a51:=Tryz.isAgg258
 z51:=Tryz.sizeOf258
 v51:=Tryz.zeroValue258
 t53:=Tryz.underlying244
 a53:=Tryz.isAgg244
 z53:=Tryz.sizeOf244
 v53:=Tryz.zeroValue244
 t171:=Tryz.underlying243
 a171:=Tryz.isAgg243
 z171:=Tryz.sizeOf243
 v171:=Tryz.zeroValue243
 t173:=Tryz.underlying247
 a173:=Tryz.isAgg247
 z173:=Tryz.sizeOf247
 v173:=Tryz.zeroValue247
 t212:=Tryz.underlying257
 a212:=Tryz.isAgg257
 z212:=Tryz.sizeOf257
 v212:=Tryz.zeroValue257
 t213:=Tryz.underlying259
 a213:=Tryz.isAgg259
 z213:=Tryz.sizeOf259
 t232:=Tryz.underlying269
 a232:=Tryz.isAgg269
 z232:=Tryz.sizeOf269
 v232:=Tryz.zeroValue269
 t233:=Tryz.underlying270
 a233:=Tryz.isAgg270
 z233:=Tryz.sizeOf270
 v233:=Tryz.zeroValue270
 g17:=by kernel_rfl
 g18:=by kernel_rfl
 g19:=by kernel_rfl}
open Go.RowKit Go.Sort Go.Lib in
theorem Tryz.strconv_Itoa_small (i:Nat) (hi:i<100) (w:World):
  Calls Tryz.prog 89 #[.int .i64 i] w fun e w'=>e=.returned (.string ⟨(Lib.decDigits i).toArray⟩)∧w'=w:=Any.strconv_Itoa_small Tryz.lays171 i hi w
open Go.RowKit in
theorem Tryz.Builder_WriteString (B b:Nat) (bs:List Value) (s:ByteArray) (w:World) (h:Lib.IsBuilder 136 5 B b bs w) (hlen:bs.length+s.size≤140737488355328) (hBw:B≤w.heap.size):
  Calls Tryz.prog 61 #[.pointer (some ⟨b,0,none⟩),.string s] w fun e w'=>e=.returned (.tuple #[.int .i64 s.size,.nilIface])∧(Lib.BuilderAt 136 5 B b (.pointer (some ⟨b,0,none⟩)) (bs++Lib.strCells s) w'∧Below B w w'):=Any.Builder_WriteString {Tryz.lays156 with} Tryz.Builder_Extra_156 B b bs s w h hlen hBw
end Go.Proofs
namespace Go.Proofs.YtejhccmclanlmaaGreatDoor
open Go.RowKit Go.Proofs.Tryz
variable {w w':World}
def itS (n:Int):ByteArray:=⟨(Lib.itoa n).toArray⟩
def Zdp (L:List Int):List UInt8:=Lib.join (L.map Lib.itoa) [32]++[10]
def Zs6 (L:List Int):List Value:=L.map fun n=>.string (itS n)
def Zfn (w:World) (n:Int):Prop:=∀ wx:World,Below w.heap.size w wx→Calls prog 89 #[.int .i64 n] wx fun e w'=>e=.returned (.string (itS n))∧Below wx.heap.size wx w'
theorem Zfn.keep {n:Int} (h:Zfn w n) (hb:Below w.heap.size w w'):Zfn w' n:=fun wx hx=>h wx (Zb hb hx)
theorem Zlq (w:World) (i:Nat) (hi:i<100):Zfn w (i:Int):=fun wx _=>(Tryz.strconv_Itoa_small i hi wx).mono (by
 rintro e w' ⟨rfl,rfl⟩;exact ⟨by rw [itS,Lib.itoa_nonneg],br⟩)
theorem Tryz.info9x:(prog.info? 9).map (fun i=>(i.zero,i.size,i.bytes))=some (some (.string ⟨#[]⟩),1,16):=by kernel_rfl
theorem Zq7 (L:List Int) (n:Int):Zs6 (L++[n])=Zs6 L++[.string (itS n)]:=by simp [Zs6]
theorem Zwa (L:List Int) (a:Option Addr) (cap:Nat) (w:World) (hL:Z4 w a L) (hne:L≠[]) (hl:L.length≤1000) (hI:∀ n∈L,Zfn w n) (hlen:(Lib.join (L.map Lib.itoa) [32]).length≤1000000):
  Calls prog 62 #[.slice a L.length cap] w fun e w'=>e=.returned (.string ⟨(Zdp L).toArray⟩)∧Below w.heap.size w w':=by
 have HI:=hid hI;have a8:=hid hlen;have HL:=hid hL;have ah:=hid hne;clear hI hlen hL hne;go_enter func62,ntmps62;go_wp2;go_loopw [3,8] (fun v i wr=>∃ j:Nat,j≤L.length∧i=.int .i64 j∧wr.ownsRow w.heap.size 9 1 v j (Zs6 (L.take j))∧Below w.heap.size w wr) (fun _ i _=>L.length-(intOf i).toNat)
 case atStart=>exact ⟨0,zl,rfl,World.ownsRow_nil _ _ _ _,br⟩
 case round=>
  obtain ⟨j,hj,rfl,a0,a6⟩:=hrel;by_cases hlt:j<L.length
  ·have ar:(j:Int)<(L.length:Int):=by omega
   have au:(0:Int)≤(j:Int):=by omega
   obtain ⟨b,o,e0,c0⟩:=HL.out j hlt;have c1:=Zg a6 c0 lr;subst e0;have CI:=hid (HI.out L[j] (List.getElem_mem hlt) wr a6);have ac:=hid a0;have aa:=hid a6;have ai:Hid (Zs6 (L.take (j+1))=Zs6 (L.take j)++[.string (itS L[j])]):=hid (by rw [List.take_succ_eq_append_getElem hlt,Zq7]);have aj:Hid (j+1≤L.length):=hid hlt;clear a0 a6 c0;generalize L[j]=n at *
   go_wp2_with fail;refine CI.out.mono ?_;rintro e w1 ⟨rfl,a7⟩;have q2:=Za w1 (.cells #[.string (itS n)] 9);have R2:=Zc w1 w1.heap.size [.string (itS n)] 9 rfl;have ak:Hid (Q9 (w1.alloc (.cells #[.string (itS n)] 9)) (some ⟨w1.heap.size,0,none⟩) [.string (itS n)]):=hid fun _=>⟨_,0,rfl,fun j u hu=>by rw [Nat.zero_add];exact R2.cell j u hu⟩
   have a9:=hid (Zy (Zy ac a7) q2);have a5:=hid (Zb (Zb aa a7) q2);have ab:Hid (w.heap.size≤(w1.alloc (.cells #[.string (itS n)] 9)).heap.size):=hid a5.out.size;clear q2 R2 a7 CI ac c1;go_wp2_with (at_builtin;refine Js rfl _ _ 174 9 rfl _ 1 16 underlying174 Tryz.info9x rfl (by omega) w.heap.size u3 j (Zs6 (L.take j)) rfl a9.out 1 [.string (itS n)] rfl (by simp [Value.oneCell']) _ _ rfl ak.out (by simp [maxLen];omega) (by omega) ab.out ?_);intro v8 w8 a3 a4;have al:Hid (w8.ownsRow w.heap.size 9 1 v8 (j+1) (Zs6 (L.take (j+1)))):=hid (by rw [ai.out];exact a3);have am:=hid (a5.out.grown a4 a5.out.size (fun k hk=>Zv a9 k hk));clear a3 a4;go_wp2;go_roundw
   case rel=>exact ⟨j+1,aj.out,by go_num,al.out,am.out⟩
   case measure=>(simp [intOf];omega)
  ·have an:j=L.length:=by omega
   subst an;have aw:¬ (L.length:Int)<(L.length:Int):=by omega
   rw [List.take_length] at a0;obtain ⟨a2,c2,rfl,ad,-,a1,ae⟩:=Zu a0;obtain ⟨b,o,rfl,af⟩:=a1 (by intro e;exact ah.out (by simpa [Zs6] using e));obtain ⟨rfl,-,ag⟩:=ae b o rfl;have HE:Hid ((L.map itS).map (·.data.toList)=L.map Lib.itoa):=hid (by simp [itS,Function.comp_def]);have CJ:=hid (Tryz.strings_Join b 0 c2 (L.map itS) ⟨#[32]⟩ wr (fun j x hx=>af j _ (by simp only [Zs6,List.getElem?_map] at hx ⊢;cases h:L[j]? with|none=>rw [h] at hx;cases hx|some y=>rw [h] at hx;simp at hx;subst hx;rfl)) ag (by simp;omega) (by simpa using ad) (by rw [HE.out];have:=a8.out;show (Lib.join (L.map Lib.itoa) [32]).length≤_;omega));rw [HE.out,List.length_map] at CJ;have aa:=hid a6;clear a0 af ad ag a6 a1 ae;go_wp2_with fail;refine CJ.out.mono ?_;rintro e w1 ⟨rfl,a7⟩;have ao:=hid (Zb aa a7);have ap:Hid ((Lib.join (L.map Lib.itoa) [32]).length≤1000000):=a8;have aq:Hid (Zdp L=Lib.join (L.map Lib.itoa) [32]++[10]):=hid rfl;clear a7 aa CJ;have ax:¬ 9223372036854775807<(Lib.join (List.map Lib.itoa L) [32]).length+1:=by have:=ap.out;omega
   go_wp2;go_ret;exact ⟨by rw [aq.out];congr 2,ao.out⟩
def evN (x:EvT):List Int:=[x.1,x.2.1,x.2.2.1,x.2.2.2]
def Jk (E:List EvT):List UInt8:=E.flatMap fun x=>Zdp (evN x)
theorem Zl9 (E:List EvT) (x:EvT):Jk (E++[x])=Jk E++Zdp (evN x):=by simp [Jk]
theorem Zox (E:List EvT) (h:∀ x∈E,(Zdp (evN x)).length≤1000):(Jk E).length≤1000*E.length:=by
 induction E with
 | nil=>simp [Jk]
 | cons x E ih=>
  have h1:=h x (by simp);have h2:=ih (fun y hy=>h y (by simp [hy]));have e:Jk (x::E)=Zdp (evN x)++Jk E:=by simp [Jk]
  rw [e,List.length_append,List.length_cons];omega
theorem Zb5 {T e:TypeId} {B b:Nat} {bs:List Value} (h:Lib.IsBuilder T e B b bs w) (hb:Below w.heap.size w w'):Lib.IsBuilder T e B b bs w':=by
 have go:∀ p,Lib.BuilderAt T e B b p bs w→Lib.BuilderAt T e B b p bs w':=by
  rintro p ⟨hB,v,h1,h2,h3⟩;have a0:b<w.heap.size:=Lib.BuilderAt.lt ⟨hB,v,h1,h2,h3⟩;exact ⟨hB,v,(hb.block b a0).trans h1,Zy h2 hb,h3⟩
 exact h.elim (fun x=>.inl (go _ x)) (fun x=>.inr (go _ x))
theorem Zw2 (E:List EvT) (a:Option Addr) (cap:Nat) (w:World) (hE:Zev w a E) (hl:E.length≤1000000000) (hI:∀ x∈E,∀ n∈evN x,Zfn w n) (hlen:∀ x∈E,(Zdp (evN x)).length≤1000):
  Calls prog 37 #[.slice a E.length cap] w fun e w'=>e=.returned (.string ⟨(Jk E).toArray⟩)∧Below w.heap.size w w':=by
 have HI:=hid hI;have a1:=hid hlen;have HE:=hid hE;have af:Hid (Lib.IsBuilder 136 5 w.heap.size w.heap.size [] (w.alloc (.cells #[.pointer none,.slice none 0 0] 136))):=hid (.inl ⟨lr,.slice none 0 0,Zc w w.heap.size [.pointer none,.slice none 0 0] 136 rfl,World.ownsRow_nil _ _ _ _,by simp [Value.ownBlock]⟩);have ag:=hid (Za w (.cells #[.pointer none,.slice none 0 0] 136));clear hI hlen hE;go_enter func37,ntmps37;go_wp2;go_loopw [8] (fun i wr=>∃ j:Nat,j≤E.length∧i=.int .i64 j∧Lib.IsBuilder 136 5 w.heap.size w.heap.size (Lib.byteCells (Jk (E.take j))) wr∧Below w.heap.size w wr) (fun i _=>E.length-(intOf i).toNat)
 case atStart=>exact ⟨0,zl,rfl,af.out,ag.out⟩
 case round=>
  obtain ⟨j,hj,rfl,a5,a0⟩:=hrel;have a6:=hid a0;have a4:=hid a5;by_cases hlt:j<E.length
  ·have ao:(j:Int)<(E.length:Int):=by omega
   have ap:(0:Int)≤(j:Int):=by omega
   obtain ⟨b,o,e0,c0,c1,c2,c3⟩:=HE.out j hlt;have d0:=Zg a0 c0 lr;have d1:=Zg a0 c1 lr;have d2:=Zg a0 c2 lr;have d3:=Zg a0 c3 lr;subst e0;have ah:Hid (Jk (E.take (j+1))=Jk (E.take j)++Zdp (evN E[j])):=hid (by rw [List.take_succ_eq_append_getElem hlt,Zl9]);have ai:=hid (HI.out E[j] (List.getElem_mem hlt));have ab:=hid (a1.out E[j] (List.getElem_mem hlt));have aj:Hid ((Jk (E.take j)).length≤1000*E.length):=hid (Nat.le_trans (Zox (E.take j) (fun x hx=>a1.out x (List.mem_of_mem_take hx))) (by simp;omega));have ak:Hid (j+1≤E.length):=hid hlt;clear c0 c1 c2 c3 a0 a5;generalize E[j]=x at *
   obtain ⟨n1,n2,n3,n4⟩:=x;dsimp only at d0 d1 d2 d3;have q1:=Za wr (.cells #[.int .i64 n1,.int .i64 n2,.int .i64 n3,.int .i64 n4] 92);have q2:=Za (wr.alloc (.cells #[.int .i64 n1,.int .i64 n2,.int .i64 n3,.int .i64 n4] 92)) (.cells #[.int .i64 n1,.int .i64 n2,.int .i64 n3,.int .i64 n4] 3);have R2:=Zc (wr.alloc (.cells #[.int .i64 n1,.int .i64 n2,.int .i64 n3,.int .i64 n4] 92)) (wr.heap.size+1) [.int .i64 n1,.int .i64 n2,.int .i64 n3,.int .i64 n4] 3 (by simp);have a7:=hid (Zb (Zb a6 q1) q2);have a2:=hid (Zb5 (Zb5 a4 q1) q2);have CL:=hid (Zwa [n1,n2,n3,n4] (some ⟨wr.heap.size+1,0,none⟩) 4 ((wr.alloc (.cells #[.int .i64 n1,.int .i64 n2,.int .i64 n3,.int .i64 n4] 92)).alloc (.cells #[.int .i64 n1,.int .i64 n2,.int .i64 n3,.int .i64 n4] 3)) (fun i hi=>⟨_,0,rfl,R2.cell (0+i) _ (by rw [Nat.zero_add];match i,hi with|0,_=>rfl|1,_=>rfl|2,_=>rfl|3,_=>rfl)⟩) (by simp) (by simp) (fun n hn=>(ai.out n hn).keep a7.out) (by have:=ab.out;simp only [Zdp,List.length_append] at this;show (Lib.join (List.map Lib.itoa [n1,n2,n3,n4]) [32]).length≤_;simp only [evN] at this;omega));clear q1 q2 R2;go_wp2_with fail;refine CL.out.mono ?_;rintro e w3 ⟨rfl,a8⟩;have a3:=hid (Zb5 a2 a8);have a9:=hid (Zb a7 a8);have CW:=hid (Tryz.Builder_WriteString w.heap.size w.heap.size _ ⟨(Zdp [n1,n2,n3,n4]).toArray⟩ w3 a3.out (by rw [Lib.byteCells_length];have:=aj.out;have:=ab.out;show _+(Zdp (evN (n1,n2,n3,n4))).toArray.size≤_;simp only [List.size_toArray];omega) a9.out.size);clear a8 a2 a4 a7 CL d0 d1 d2 d3;go_wp2_with fail;refine CW.out.mono ?_;rintro e w4 ⟨rfl,ac,ad⟩;have al:=hid (a9.out.trans ad);have aa:Hid (Lib.IsBuilder 136 5 w.heap.size w.heap.size (Lib.byteCells (Jk (E.take (j+1)))) w4):=hid (by rw [ah.out,Lib.byteCells_append];exact .inr ac);clear ac ad CW a3 a9;go_wp2;go_roundw
   case rel=>exact ⟨j+1,ak.out,by go_num,aa.out,al.out⟩
   case measure=>(simp [intOf];omega)
  ·have am:j=E.length:=by omega
   subst am;have aq:¬ (E.length:Int)<(E.length:Int):=by omega
   rw [List.take_length] at a4;have CS:=hid (Tryz.Builder_String_any w.heap.size w.heap.size (Jk E) wr a4 a6.out.size);clear a5 a0;go_wp2_with fail;refine CS.out.mono ?_;rintro e w1 ⟨rfl,ae⟩;have an:=hid (a6.out.trans ae);clear ae CS;go_wp2;go_ret;exact ⟨rfl,an.out⟩
theorem Zi3 (C:Zm) (B:Mem) (S:Zcm) (M:Zg0) (dom:Nat) (w:World) (hC:Z1 w B C) (hS:Q8 w M S) (hsc:Qo C S=0) (hc5:C.sl.length≤B.c5) (hd:(dom:Int)<C.d)
  (hl:((J9 C (ps S)).1 dom).evs.length≤1000000000) (hI:∀ x∈((J9 C (ps S)).1 dom).evs,∀ n∈evN x,Zfn w n) (hlen:∀ x∈((J9 C (ps S)).1 dom).evs,(Zdp (evN x)).length≤1000) :
  Calls prog 16 #[cv C B,sv S M,.int .i64 (dom:Int)] w fun e w'=>e=.returned (.tuple #[.string ⟨(Jk ((J9 C (ps S)).1 dom).evs).toArray⟩,.int .i64 0])∧Below w.heap.size w w':=by
 have q1:=Za w (.cells (cl C B) 27);have q2:=Za (w.alloc (.cells (cl C B) 27)) (.cells (sl S M) 31);have HB:=hid (Zb q1 q2);have X0:=hid ((Zc w w.heap.size (cl C B).toList 27 rfl).below q2 lr);have X1:=hid (Zc (w.alloc (.cells (cl C B) 27)) (w.heap.size+1) (sl S M).toList 31 (by simp));have CE:=hid (Zdd C B S M _ ((hC.keep q1).keep q2) ((hS.keep q1).keep q2) hsc hc5);have HL:=hid hl;have HI:=hid hI;have a0:=hid hlen;have HD:=hid hd;have ab:Hid (C.d≤4):=hid (by have:=(Y1 (Zbm hsc).1.cfg).2.2.2;omega);clear q1 q2 hC hS hsc hc5 hl hI hlen hd;obtain ⟨a5,a6,a7,a8,c5,c6,c7,c8⟩:=B;obtain ⟨aA,aR,cA,cR⟩:=M;obtain ⟨LL,RR,rd⟩:=S;dsimp only [cv,cl,sv,sl] at *
 obtain ⟨g0,g1,g2,g3,g4,g5,g6,g7,g8⟩:=X0.out.q9 rfl rfl rfl rfl rfl rfl rfl rfl rfl;obtain ⟨s0,s1,s2⟩:=X1.out.q3 rfl rfl rfl;go_enter func16,ntmps16;go_wp2_with fail;refine CE.out.mono ?_;rintro e w3 ⟨gd,n,rfl,a1,a2⟩;obtain ⟨hn,As,a3⟩:=a1;have HN:=hid hn;have a4:=hid (Zb HB a2);have ac:dom<n:=by have:=HD.out;omega
 obtain ⟨hp,a9⟩:=a3 dom ac;have CT:=hid (Zw2 _ (As dom).aE (As dom).cE w3 a9.evs HL (fun x hx n hn=>(HI.out x hx n hn).keep a4) a0);have p6:=hp.c6;simp only [Nat.zero_add] at p6;have af:n≤4:=by have:=HN.out;have:=ab.out;omega
 clear hn a3 hp a9 a2 CE X0 X1 HB;clear g0 g1 g2 g3 g4 g5 g6 g7 g8 s0 s1 s2;generalize hq:Jk ((J9 C (ps ⟨LL,RR,rd⟩)).1 dom).evs=T at *
 have HT:=hid hq;clear hq;generalize ((J9 C (ps ⟨LL,RR,rd⟩)).1 dom).evs.length=m at *
 have ag:(dom:Int)<(n:Int):=by omega
 have ah:(0:Int)≤(dom:Int):=by omega
 have ad:Hid (inR (dom:Int) 0 ((n:Int)-1)=true):=hid (by simp [inR];omega);have ai:IntKind.i64.wrap ((n:Int)-1)=(n:Int)-1:=by rw [IntKind.wrap_i64];omega
 go_wp2_with fail;refine (Zs _ _ _ _).mono ?_;rintro e w4 ⟨rfl,rfl⟩;rw [ad.out];go_wp2_with fail;refine CT.out.mono ?_;rintro e w5 ⟨rfl,aa⟩;have ae:=hid (Zb a4 aa);clear aa;go_wp2;refine bodyPost_ret (v:=.tuple #[.string ⟨T.toArray⟩,.int .i64 0]) (by simp [results,results16,go_sem]) rfl ⟨by rw [HT.out],ae.out⟩
theorem it0:Lib.itoa 0=[48]:=by
 have h:=Lib.itoa_nonneg 0;rw [Lib.decDigits_one (by omega)] at h;exact h
theorem it1:Lib.itoa 1=[49]:=by
 have h:=Lib.itoa_nonneg 1;rw [Lib.decDigits_one (by omega)] at h;exact h
theorem it2:Lib.itoa 2=[50]:=by
 have h:=Lib.itoa_nonneg 2;rw [Lib.decDigits_one (by omega)] at h;exact h
theorem it3:Lib.itoa 3=[51]:=by
 have h:=Lib.itoa_nonneg 3;rw [Lib.decDigits_one (by omega)] at h;exact h
theorem it6:Lib.itoa 6=[54]:=by
 have h:=Lib.itoa_nonneg 6;rw [Lib.decDigits_one (by omega)] at h;exact h
theorem it7:Lib.itoa 7=[55]:=by
 have h:=Lib.itoa_nonneg 7;rw [Lib.decDigits_one (by omega)] at h;exact h
theorem Yas:Lib.itoa 13=[49,51]:=by
 have h:=Lib.itoa_nonneg 13;rw [Lib.decDigits_two (by omega) (by omega)] at h;exact h
theorem Ya0:Lib.itoa 30=[51,48]:=by
 have h:=Lib.itoa_nonneg 30;rw [Lib.decDigits_two (by omega) (by omega)] at h;exact h
theorem Yat:Lib.itoa 50=[53,48]:=by
 have h:=Lib.itoa_nonneg 50;rw [Lib.decDigits_two (by omega) (by omega)] at h;exact h
theorem Yax:Lib.itoa 80=[56,48]:=by
 have h:=Lib.itoa_nonneg 80;rw [Lib.decDigits_two (by omega) (by omega)] at h;exact h
theorem Yan:Lib.itoa 90=[57,48]:=by
 have h:=Lib.itoa_nonneg 90;rw [Lib.decDigits_two (by omega) (by omega)] at h;exact h
def Zzg:List UInt8:=[48,32,49,32,48,32,48,10,48,32,50,32,48,32,48,10,48,32,51,32,48,32,48,10,51,32,55,32,48,32,48,10,53,48,32,50,32,48,32,49,10,51,48,32,54,32,48,32,48,10,56,48,32,54,32,48,32,49,10,57,48,32,49,51,32,48,32,48,10]
theorem Zi2:Zhh.evs=[(0,1,0,0),(0,2,0,0),(0,3,0,0),(3,7,0,0),(50,2,0,1),(30,6,0,0),(80,6,0,1),(90,13,0,0)]:=Zve
theorem Zo0:Jk Zhh.evs=Zzg:=by
 rw [Zi2];simp only [Jk,Zdp,evN,List.flatMap_cons,List.flatMap_nil,List.map_cons,List.map_nil,it0,it1,it2,it3,it6,it7,Yas,Ya0,Yat,Yax,Yan];rfl
theorem Zkh:∀ x∈Zhh.evs,∀ n∈evN x,0≤n∧n<100:=by
 rw [Zi2]
 decide
theorem Zjx {x:EvT} (h:∀ n∈evN x,-9223372036854775808≤n∧n≤9223372036854775807):(Zdp (evN x)).length≤1000:=by
 obtain ⟨a,b,c,d⟩:=x;have h1:=Lib.itoa_length_le a (h a (by simp [evN])).1 (h a (by simp [evN])).2;have h2:=Lib.itoa_length_le b (h b (by simp [evN])).1 (h b (by simp [evN])).2;have h3:=Lib.itoa_length_le c (h c (by simp [evN])).1 (h c (by simp [evN])).2;have h4:=Lib.itoa_length_le d (h d (by simp [evN])).1 (h d (by simp [evN])).2;simp only [Zdp,evN,List.map_cons,List.map_nil,List.length_append,Lib.join_length,Lib.lens,List.length_cons,List.length_nil,List.sum_cons,List.sum_nil];omega
theorem Yam (A:Mem) (aA:Option Addr) (w:World) (hC:Z1 w A Jw) (h5:Jw.sl.length≤A.c5) (hS:Q8 w ⟨aA,none,1,0⟩ Zca):
  Calls prog 8 #[cv Jw A,.agg #[.slice aA 1 1,.slice none 0 0,.int .i64 1]] w fun e w'=>∃ gd,e=.returned (.tuple #[.slice (some ⟨gd,0,none⟩) 1 1,.int .i64 2,.int .i64 0])∧w'.cell? ⟨gd,2,none⟩=some (.int .i64 1)∧Below w.heap.size w w':=by
 refine Calls.mono (Zdd Jw A Zca ⟨aA,none,1,0⟩ w hC hS Zfd h5) ?_;rintro e w' ⟨gd,n,rfl,⟨hn,As,hd⟩,hb⟩;have a0:n=1:=by have h1:Jw.d=1:=rfl;omega
 subst a0
 have:=(hd 0 (by omega)).1.c2
 rw [Zoh] at this;rw [Zr0];exact ⟨gd,rfl,this,hb⟩
theorem Zzz (A:Mem) (aA:Option Addr) (w:World) (hC:Z1 w A Jw) (h5:Jw.sl.length≤A.c5) (hS:Q8 w ⟨aA,none,1,0⟩ Zca):
  Calls prog 16 #[cv Jw A,.agg #[.slice aA 1 1,.slice none 0 0,.int .i64 1],.int .i64 0] w (RB (.tuple #[.string ⟨Zzg.toArray⟩,.int .i64 0]) w):=by
 refine Calls.mono (Zi3 Jw A Zca ⟨aA,none,1,0⟩ 0 w hC hS Zfd h5 (by decide) ?_ ?_ ?_) ?_
 ·show Zhh.evs.length≤_
  rw [Zi2]
  decide
 ·intro x hx n hn
  have h:=Zkh x hx n hn;have h2:=Zlq w n.toNat (by omega)
  rwa [show (n.toNat:Int)=n by omega] at h2
 ·intro x hx
  exact Zjx fun n hn=>by have:=Zkh x hx n hn;omega
 ·rintro e w' ⟨rfl,hb⟩
  refine ⟨?_,hb⟩;show Ending.returned (.tuple #[.string ⟨(Jk Zhh.evs).toArray⟩,.int .i64 0])=_
  rw [Zo0]
theorem Zzm (A:Mem) (aA:Option Addr) (w:World) (hC:Z1 w A Jw) (hS:Q8 w ⟨aA,none,1,0⟩ Zca):
  Calls prog 15 #[cv Jw A,.agg #[.slice aA 1 1,.slice none 0 0,.int .i64 1]] w (RB (.int .i64 0) w):=by
 have h:=Jv Jw A Zca ⟨aA,none,1,0⟩ w hC hS;rw [Zfd] at h;exact h
theorem Zh3:Zyv 7:=by
 intro w;have q1:=Za w (.cells #[.int .i64 6,.int .i64 0,.int .i64 0] 63);have q2:=Za (w.alloc (.cells #[.int .i64 6,.int .i64 0,.int .i64 0] 63)) (.cells #[.slice (some ⟨w.heap.size,0,none⟩) 1 1] 56);have q3:=Za ((w.alloc (.cells #[.int .i64 6,.int .i64 0,.int .i64 0] 63)).alloc (.cells #[.slice (some ⟨w.heap.size,0,none⟩) 1 1] 56)) (.cells #[.slice (some ⟨w.heap.size+1,0,none⟩) 1 1,.slice none 0 0,.int .i64 1] 31);have HB:=hid (Zb q1 (Zb q2 q3));have R1:=((Zc w w.heap.size [.int .i64 6,.int .i64 0,.int .i64 0] 63 rfl).below q2 lr).below q3 lr;have R2:=(Zc (w.alloc (.cells #[.int .i64 6,.int .i64 0,.int .i64 0] 63)) (w.heap.size+1) [.slice (some ⟨w.heap.size,0,none⟩) 1 1] 56 (by simp)).below q3 lr;have X:=hid (Zc ((w.alloc (.cells #[.int .i64 6,.int .i64 0,.int .i64 0] 63)).alloc (.cells #[.slice (some ⟨w.heap.size,0,none⟩) 1 1] 56)) (w.heap.size+1+1) [.slice (some ⟨w.heap.size+1,0,none⟩) 1 1,.slice none 0 0,.int .i64 1] 31 (by simp));have HS:Hid (Q8 (((w.alloc (.cells #[.int .i64 6,.int .i64 0,.int .i64 0] 63)).alloc (.cells #[.slice (some ⟨w.heap.size,0,none⟩) 1 1] 56)).alloc (.cells #[.slice (some ⟨w.heap.size+1,0,none⟩) 1 1,.slice none 0 0,.int .i64 1] 31)) ⟨some ⟨w.heap.size+1,0,none⟩,none,1,0⟩ Zca):=hid (by
  refine ⟨fun i hi=>?_,fun i hi=>absurd hi (by simp [Zca]),by simp [Zca],by simp [Zca]⟩;obtain rfl:i=0:=by simp [Zca] at hi;exact hi
  refine ⟨_,_,some ⟨w.heap.size,0,none⟩,1,rfl,R2.cell 0 _ rfl,fun j hj=>?_,by simp [Zca],by simp [Zca]⟩;obtain rfl:j=0:=by simp [Zca] at hj;exact hj
  exact ⟨_,_,rfl,R1.cell 0 _ rfl,R1.cell 1 _ rfl,R1.cell 2 _ rfl⟩)
 clear q1 q2 q3 R1 R2;go_enter func7,ntmps7;go_upto_region 2 with fail;generalize World.alloc (World.alloc (World.alloc w _) _) _=W at *
 generalize w.heap.size+1+1=bs at *
 generalize w.heap.size+1=ba at *
 obtain ⟨s0,s1,s2⟩:=X.out.q3 rfl rfl rfl;have a1:Below W.heap.size W W.drew:=br.drew;have CO:=hid (Zb0 W.drew);go_cut [2,3,4] (fun t u v wx=>∃ gd,t=.slice (some ⟨gd,0,none⟩) 1 1∧u=.int .i64 2∧v=.int .i64 0∧wx.cell? ⟨gd,2,none⟩=some (.int .i64 1)∧Below W.heap.size W wx)
 case first=>
  go_region_with (first
   | (go_at_call 17;with_reducible refine Calls.mono CO.out ?_;rintro e w2 ⟨A,rfl,a2,h5,a3⟩;have a7:=hid a2;have H5:=hid h5;have a4:=hid (Zb a1 a3);have a8:=hid (HS.out.keep a4.out);have X2:=hid (X.out.below a4.out lr);have t0:=X2.out.cell 0 _ rfl;have t1:=X2.out.cell 1 _ rfl;have t2:=X2.out.cell 2 _ rfl;clear a2 h5 a3)
   | (go_at_call 8;with_reducible refine Calls.mono (Yam A (some ⟨ba,0,none⟩) w2 a7.out H5.out a8.out) ?_;rintro e w3 ⟨gd,rfl,aa,a5⟩;have ad:=hid aa;have a6:=hid (Zb a4.out a5);clear aa a5))
  all_goals
   go_wp2;go_meet;exact ⟨gd,rfl,rfl,rfl,ad.out,a6.out⟩
 case rest=>
  obtain ⟨W1,rfl⟩:∃ x,x=wc:=⟨_,rfl⟩
  obtain ⟨gd,rfl,rfl,rfl,ab,a0⟩:=hcut;have ae:=hid ab;have af:=hid (Zb HB a0);have ac:=hid (HS.out.keep a0);have Xc:=hid (X.out.below a0 lr);clear s0 s1 s2 a1 CO ab a0;obtain ⟨s0,s1,s2⟩:=Xc.out.q3 rfl rfl rfl;have a1:Below W1.heap.size W1 W1.drew:=br.drew;have CO:=hid (Zb0 W1.drew);go_upto_region 3 with fail;go_cut [5,6] (fun t u wx=>t=.string ⟨Zzg.toArray⟩∧u=.int .i64 0∧Below W1.heap.size W1 wx)
  case first=>
   go_region_with (first
    | (go_at_call 17;with_reducible refine Calls.mono CO.out ?_;rintro e w2 ⟨A,rfl,a2,h5,a3⟩;have a7:=hid a2;have H5:=hid h5;have a4:=hid (Zb a1 a3);have a8:=hid (ac.out.keep a4.out);have X2:=hid (Xc.out.below a4.out lr);have t0:=X2.out.cell 0 _ rfl;have t1:=X2.out.cell 1 _ rfl;have t2:=X2.out.cell 2 _ rfl;clear a2 h5 a3)
    | (go_at_call 16;with_reducible refine Calls.mono (Zzz A (some ⟨ba,0,none⟩) w2 a7.out H5.out a8.out) ?_;rintro e w3 ⟨rfl,a5⟩;have a6:=hid (Zb a4.out a5);clear a5))
   all_goals
    go_wp2;go_meet;exact ⟨rfl,rfl,a6.out⟩
  case rest=>
   obtain ⟨W2,rfl⟩:∃ x,x=wc:=⟨_,rfl⟩
   obtain ⟨rfl,rfl,a0⟩:=hcut;have a9:=hid (Zb af a0);have ag:=hid (ac.out.keep a0);have g2:=Zg a0 ae.out lr;have Xd:=hid (Xc.out.below a0 lr);clear s0 s1 s2 a1 CO a0;obtain ⟨s0,s1,s2⟩:=Xd.out.q3 rfl rfl rfl;have a1:Below W2.heap.size W2 W2.drew:=br.drew;have CO:=hid (Zb0 W2.drew);have HK:Hid (∀ w',Below W2.heap.size W2 w'→w'.cell? ⟨bs,0,none⟩=some (.slice (some ⟨ba,0,none⟩) 1 1)∧w'.cell? ⟨bs,1,none⟩=some (.slice none 0 0)∧w'.cell? ⟨bs,2,none⟩=some (.int .i64 1)∧w'.cell? ⟨gd,2,none⟩=some (.int .i64 1)):=hid fun w' hb=>⟨Zg hb s0 lr,Zg hb s1 lr,Zg hb s2 lr,Zg hb g2 lr⟩
   unfold Zzg;go_upto_region 4 with fail;go_region_held3 (fun w'=>w'.cell? ⟨bs,0,none⟩=some (.slice (some ⟨ba,0,none⟩) 1 1)∧w'.cell? ⟨bs,1,none⟩=some (.slice none 0 0)∧w'.cell? ⟨bs,2,none⟩=some (.int .i64 1)∧w'.cell? ⟨gd,2,none⟩=some (.int .i64 1))
    (first|with_reducible exact HK.out _ hB3|with_reducible exact HK.out _ hB2|with_reducible exact HK.out _ a1|go_keep)
    (first
     | (go_at_call 17;with_reducible refine Calls.mono CO.out ?_;rintro e w2 ⟨A,rfl,a2,h5,a3⟩;have hB2:=Zb a1 a3)
     | (go_at_call 15;with_reducible refine Calls.mono (Zzm A (some ⟨ba,0,none⟩) w2 a2 (ag.out.keep hB2)) ?_;rintro e w3 ⟨rfl,a5⟩;have hB3:=Zb hB2 a5))
   have a6:=hid (Zb a9 hB3);clear HK hB3 hB2;go_wp2;go_ret;exact ⟨rfl,a6.out⟩
end Go.Proofs.YtejhccmclanlmaaGreatDoor
