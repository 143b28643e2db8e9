/- Texts joined: Shelf Bv Bw Bx By. -/
import Derived.Shelf.Strings.Builder1
import Derived.Shelf.Strings.OnBuilder
import Derived.Shelf.Strconv.Itoa0
import Derived.Shelf.Strconv.Itoa1
import Derived.Shelf.LaysM
import Derived.Shelf.Strconv.Itoa2
import Derived.Shelf.Strconv.Itoa3
import Derived.Ground.Names2Prog
import Derived.Test.YtejhccmclanlmaaGreatDoorProg
import Derived.Lib.ItoaLen
import Derived.Test.YtejhccmclanlmaaGreatDoorK12
import Derived.Test.YtejhccmclanlmaaGreatDoorK51
import Derived.Test.YtejhccmclanlmaaGreatDoorK53
set_option linter.unusedVariables false
set_option maxRecDepth 100000
namespace Go.Proofs
open Go.Shelf
def Tryz.lays169_ren:Go.Shelf.Ren:=⟨fun|169=>63|n=>n,fun|70=>133|9=>9|0=>0|72=>136|37=>134|127=>177|3=>3|5=>5|n=>n,fun|n=>n⟩
theorem Tryz.lays169:Go.Proofs.Lays.n169 Tryz.prog Tryz.lays169_ren:={
 mixed:=by kernel_rfl
 f169:=Tryz.func63.trans (congrArg some (by kernel_rfl))
 t0:=Tryz.underlying0
 a0:=Tryz.isAgg0
 z0:=Tryz.sizeOf0
 v0:=Tryz.zeroValue0
 t3:=Tryz.underlying3
 a3:=Tryz.isAgg3
 z3:=Tryz.sizeOf3
 v3:=Tryz.zeroValue3
 t9:=Tryz.underlying9
 a9:=Tryz.isAgg9
 z9:=Tryz.sizeOf9
 v9:=Tryz.zeroValue9
 t37:=Tryz.underlying134
 a37:=Tryz.isAgg134
 z37:=Tryz.sizeOf134
 v37:=Tryz.zeroValue134
 t70:=Tryz.underlying133
 a70:=Tryz.isAgg133
 z70:=Tryz.sizeOf133
 v70:=Tryz.zeroValue133
 t72:=Tryz.underlying136
 a72:=Tryz.isAgg136
 z72:=Tryz.sizeOf136
 v72:=Tryz.zeroValue136
 t127:=Tryz.underlying177
 a127:=Tryz.isAgg177
 z127:=Tryz.sizeOf177
 v127:=Tryz.zeroValue177 }
theorem Tryz.Builder_Extra_169:Builder.Extra Tryz.prog Tryz.lays169_ren:={
 sizeBuilder:=by kernel_rfl
 liesBuilder:=by kernel_rfl
 t5:=Tryz.underlying5
 a5:=Tryz.isAgg5
 z5:=Tryz.sizeOf5
 v5:=Tryz.zeroValue5
 infoByte:=by kernel_rfl
 cellsByte:=by kernel_rfl
 sizeByte:=by kernel_rfl
 neB5:=by decide }
open Go.RowKit in
theorem Tryz.Builder_String_any (B b:Nat) (l:List UInt8) (w:World) (h:Lib.IsBuilder 136 5 B b (Lib.byteCells l) w) (hBw:B≤w.heap.size) :
  Calls Tryz.prog 63 #[.pointer (some ⟨b,0,none⟩)] w fun e w'=>e=.returned (.string ⟨l.toArray⟩)∧Below B w w':=Any.Builder_String_any Tryz.lays169 Tryz.Builder_Extra_169 B b l w h hBw
def Tryz.lays156_ren:Go.Shelf.Ren:=⟨fun|156=>90|165=>126|166=>61|169=>63|240=>88|241=>149|276=>124|277=>172|n=>n,fun|31=>174|9=>9|3=>3|4=>4|0=>0|20=>20|72=>136|76=>139|70=>133|37=>134|75=>138|127=>177|164=>209|5=>5|80=>142|n=>n,fun|n=>n⟩
theorem Tryz.lays156:Go.Proofs.Lays.n156 Tryz.prog Tryz.lays156_ren:={
 mixed:=by kernel_rfl
 f156:=Tryz.func90.trans (congrArg some (by kernel_rfl))
 f165:=Tryz.func126.trans (congrArg some (by kernel_rfl))
 f166:=Tryz.func61.trans (congrArg some (by kernel_rfl))
 f169:=Tryz.func63.trans (congrArg some (by kernel_rfl))
 f240:=Tryz.func88.trans (congrArg some (by kernel_rfl))
 f241:=Tryz.func149.trans (congrArg some (by kernel_rfl))
 f276:=Tryz.func124.trans (congrArg some (by kernel_rfl))
 f277:=Tryz.func172.trans (congrArg some (by kernel_rfl))
 t0:=Tryz.underlying0
 a0:=Tryz.isAgg0
 z0:=Tryz.sizeOf0
 v0:=Tryz.zeroValue0
 t3:=Tryz.underlying3
 a3:=Tryz.isAgg3
 z3:=Tryz.sizeOf3
 v3:=Tryz.zeroValue3
 t4:=Tryz.underlying4
 a4:=Tryz.isAgg4
 z4:=Tryz.sizeOf4
 v4:=Tryz.zeroValue4
 t9:=Tryz.underlying9
 a9:=Tryz.isAgg9
 z9:=Tryz.sizeOf9
 v9:=Tryz.zeroValue9
 t20:=Tryz.underlying20
 a20:=Tryz.isAgg20
 z20:=Tryz.sizeOf20
 v20:=Tryz.zeroValue20
 t31:=Tryz.underlying174
 a31:=Tryz.isAgg174
 z31:=Tryz.sizeOf174
 v31:=Tryz.zeroValue174
 t37:=Tryz.underlying134
 a37:=Tryz.isAgg134
 z37:=Tryz.sizeOf134
 v37:=Tryz.zeroValue134
 t70:=Tryz.underlying133
 a70:=Tryz.isAgg133
 z70:=Tryz.sizeOf133
 v70:=Tryz.zeroValue133
 t72:=Tryz.underlying136
 a72:=Tryz.isAgg136
 z72:=Tryz.sizeOf136
 v72:=Tryz.zeroValue136
 t75:=Tryz.underlying138
 a75:=Tryz.isAgg138
 z75:=Tryz.sizeOf138
 v75:=Tryz.zeroValue138
 t76:=Tryz.underlying139
 a76:=Tryz.isAgg139
 z76:=Tryz.sizeOf139
 v76:=Tryz.zeroValue139
 t127:=Tryz.underlying177
 a127:=Tryz.isAgg177
 z127:=Tryz.sizeOf177
 v127:=Tryz.zeroValue177
 t164:=Tryz.underlying209
 a164:=Tryz.isAgg209
 z164:=Tryz.sizeOf209
 v164:=Tryz.zeroValue209 }
theorem Tryz.Builder_Extra_156:Builder.Extra Tryz.prog Tryz.lays156_ren:={
 sizeBuilder:=by kernel_rfl
 liesBuilder:=by kernel_rfl
 t5:=Tryz.underlying5
 a5:=Tryz.isAgg5
 z5:=Tryz.sizeOf5
 v5:=Tryz.zeroValue5
 infoByte:=by kernel_rfl
 cellsByte:=by kernel_rfl
 sizeByte:=by kernel_rfl
 neB5:=by decide }
open Go.RowKit in
theorem Tryz.strings_Join (bk o c:Nat) (xs:List ByteArray) (sep:ByteArray) (w:World) (hcells:∀ (j:Nat) x,xs[j]? = some x→w.cell? ⟨bk,o+j,none⟩=some (.string x)) (hbk:bk<w.heap.size) (hN:xs.length≤140737488355328) (hcap:xs.length≤c) (hlen:(Lib.join (xs.map (·.data.toList)) sep.data.toList).length≤140737488355328) :
  Calls Tryz.prog 90 #[.slice (some ⟨bk,o,none⟩) xs.length c,.string sep] w fun e w'=>e=.returned (.string ⟨(Lib.join (xs.map (·.data.toList)) sep.data.toList).toArray⟩)∧Below w.heap.size w w':=Any.strings_Join Tryz.lays156 Tryz.Builder_Extra_156 bk o c xs sep w hcells hbk hN hcap hlen
def Tryz.laysM171_ren:Go.Shelf.Ren:=⟨fun|171=>89|243=>125|246=>148|283=>168|284=>169|285=>170|286=>171|129=>181|317=>180|318=>182|319=>183|320=>184|337=>191|338=>192|n=>n,fun|3=>3|9=>9|2=>2|4=>4|171=>243|0=>0|53=>244|37=>134|5=>5|173=>247|212=>257|51=>258|20=>20|213=>259|46=>194|232=>269|233=>270|n=>n,fun|17=>0|18=>2|19=>3|n=>n⟩
def Tryz.lays171_ren:Go.Shelf.Ren:=⟨fun|171=>89|243=>125|246=>148|283=>168|284=>169|285=>170|286=>171|129=>181|317=>180|318=>182|319=>183|320=>184|337=>191|338=>192|n=>n,fun|3=>3|9=>9|2=>2|4=>4|171=>243|0=>0|53=>244|37=>134|5=>5|173=>247|212=>257|51=>258|20=>20|213=>259|46=>194|232=>269|233=>270|n=>n,fun|17=>0|18=>2|19=>3|n=>n⟩
theorem Tryz.lays171:Go.Proofs.Lays.n171 Tryz.prog Tryz.lays171_ren:={
 mixed:=by kernel_rfl
 f129:=Tryz.func181.trans (congrArg some (by kernel_rfl))
 f171:=Tryz.func89.trans (congrArg some (by kernel_rfl))
 f243:=Tryz.func125.trans (congrArg some (by kernel_rfl))
 f246:=Tryz.func148.trans (congrArg some (by kernel_rfl))
 f283:=Tryz.func168.trans (congrArg some (by kernel_rfl))
 f284:=Tryz.func169.trans (congrArg some (by kernel_rfl))
 f285:=Tryz.func170.trans (congrArg some (by kernel_rfl))
 f286:=Tryz.func171.trans (congrArg some (by kernel_rfl))
 f317:=Tryz.func180.trans (congrArg some (by kernel_rfl))
 f318:=Tryz.func182.trans (congrArg some (by kernel_rfl))
 f319:=Tryz.func183.trans (congrArg some (by kernel_rfl))
 f320:=Tryz.func184.trans (congrArg some (by kernel_rfl))
 f337:=Tryz.func191.trans (congrArg some (by kernel_rfl))
 f338:=Tryz.func192.trans (congrArg some (by kernel_rfl))
 t0:=Tryz.underlying0
 a0:=Tryz.isAgg0
 z0:=Tryz.sizeOf0
 v0:=Tryz.zeroValue0
 t2:=Tryz.underlying2
 a2:=Tryz.isAgg2
 z2:=Tryz.sizeOf2
 v2:=Tryz.zeroValue2
 t3:=Tryz.underlying3
 a3:=Tryz.isAgg3
 z3:=Tryz.sizeOf3
 v3:=Tryz.zeroValue3
 t4:=Tryz.underlying4
 a4:=Tryz.isAgg4
 z4:=Tryz.sizeOf4
 v4:=Tryz.zeroValue4
 t5:=Tryz.underlying5
 a5:=Tryz.isAgg5
 z5:=Tryz.sizeOf5
 v5:=Tryz.zeroValue5
 t9:=Tryz.underlying9
 a9:=Tryz.isAgg9
 z9:=Tryz.sizeOf9
 v9:=Tryz.zeroValue9
 t20:=Tryz.underlying20
 a20:=Tryz.isAgg20
 z20:=Tryz.sizeOf20
 v20:=Tryz.zeroValue20
 t37:=Tryz.underlying134
 a37:=Tryz.isAgg134
 z37:=Tryz.sizeOf134
 v37:=Tryz.zeroValue134
 t46:=Tryz.underlying194
 a46:=Tryz.isAgg194
 z46:=Tryz.sizeOf194
 v46:=Tryz.zeroValue194
 t51:=Tryz.underlying258
 a51:=Tryz.isAgg258
 z51:=Tryz.sizeOf258
 v51:=Tryz.zeroValue258
 t53:=Tryz.underlying244
 a53:=Tryz.isAgg244
 z53:=Tryz.sizeOf244
 v53:=Tryz.zeroValue244
 t171:=Tryz.underlying243
 a171:=Tryz.isAgg243
 z171:=Tryz.sizeOf243
 v171:=Tryz.zeroValue243
 t173:=Tryz.underlying247
 a173:=Tryz.isAgg247
 z173:=Tryz.sizeOf247
 v173:=Tryz.zeroValue247
 t212:=Tryz.underlying257
 a212:=Tryz.isAgg257
 z212:=Tryz.sizeOf257
 v212:=Tryz.zeroValue257
 t213:=Tryz.underlying259
 a213:=Tryz.isAgg259
 z213:=Tryz.sizeOf259
 t232:=Tryz.underlying269
 a232:=Tryz.isAgg269
 z232:=Tryz.sizeOf269
 v232:=Tryz.zeroValue269
 t233:=Tryz.underlying270
 a233:=Tryz.isAgg270
 z233:=Tryz.sizeOf270
 v233:=Tryz.zeroValue270
 g17:=by kernel_rfl
 g18:=by kernel_rfl
 g19:=by kernel_rfl }
open Go.RowKit Go.Sort Go.Lib in
theorem Tryz.strconv_Itoa_small (i:Nat) (hi:i<100) (w:World) :
  Calls Tryz.prog 89 #[.int .i64 i] w fun e w'=>e=.returned (.string ⟨(Lib.decDigits i).toArray⟩)∧w'=w:=Any.strconv_Itoa_small Tryz.lays171 i hi w
open Go.RowKit in
theorem Tryz.Builder_WriteString (B b:Nat) (bs:List Value) (s:ByteArray) (w:World) (h:Lib.IsBuilder 136 5 B b bs w) (hlen:bs.length+s.size≤140737488355328) (hBw:B≤w.heap.size) :
  Calls Tryz.prog 61 #[.pointer (some ⟨b,0,none⟩),.string s] w fun e w'=>e=.returned (.tuple #[.int .i64 s.size,.nilIface])∧(Lib.BuilderAt 136 5 B b (.pointer (some ⟨b,0,none⟩)) (bs++Lib.strCells s) w'∧Below B w w'):=Any.Builder_WriteString { Tryz.lays156 with } Tryz.Builder_Extra_156 B b bs s w h hlen hBw
end Go.Proofs
namespace Go.Proofs.YtejhccmclanlmaaGreatDoor
open Go.RowKit
def itS (n:Int):ByteArray:=⟨(Lib.itoa n).toArray⟩
def lineL (L:List Int):List UInt8:=Lib.join (L.map Lib.itoa) [32]++[10]
def strs (L:List Int):List Value:=L.map fun n=>.string (itS n)
def ItoaAt (w:World) (n:Int):Prop:=∀ wx:World,Below w.heap.size w wx→Calls Tryz.prog 89 #[.int .i64 n] wx fun e w'=>e=.returned (.string (itS n))∧Below wx.heap.size wx w'
theorem ItoaAt.keep {w w':World} {n:Int} (h:ItoaAt w n) (hb:Below w.heap.size w w'):ItoaAt w' n:=fun wx hx=>h wx (btrans hb hx)
theorem itoaAt_small (w:World) (i:Nat) (hi:i<100):ItoaAt w (i:Int):=fun wx _=>(Tryz.strconv_Itoa_small i hi wx).mono (by
 rintro e w' ⟨rfl,rfl⟩
 exact ⟨by rw [itS,Lib.itoa_nonneg],Below.refl _ _⟩)
theorem Tryz.info9x:(Tryz.prog.info? 9).map (fun i=>(i.zero,i.size,i.bytes))=some (some (.string ⟨#[]⟩),1,16):=by kernel_rfl
theorem strs_snoc (L:List Int) (n:Int):strs (L++[n])=strs L++[.string (itS n)]:=by simp [strs]
set_option maxHeartbeats 4000000 in
theorem line_ok (L:List Int) (a:Option Addr) (cap:Nat) (w:World) (hL:IntsIn w a L) (hne:L≠[]) (hl:L.length≤1000) (hI:∀ n∈L,ItoaAt w n) (hlen:(Lib.join (L.map Lib.itoa) [32]).length≤1000000) :
  Calls Tryz.prog 62 #[.slice a L.length cap] w fun e w'=>e=.returned (.string ⟨(lineL L).toArray⟩)∧Below w.heap.size w w':=by
 have HI:=hid hI
 have HLEN:=hid hlen
 have HL:=hid hL
 have HNE:=hid hne
 clear hI hlen hL hne
 go_enter Tryz.func62,Tryz.ntmps62
 go_wp2
 go_loopw [3,8] (fun v i wr=>∃ j:Nat,j≤L.length∧i=.int .i64 j∧wr.ownsRow w.heap.size 9 1 v j (strs (L.take j))∧Below w.heap.size w wr) (fun _ i _=>L.length - (intOf i).toNat)
 case atStart=>exact ⟨0,Nat.zero_le _,rfl,World.ownsRow_nil _ _ _ _,Below.refl _ _⟩
 case round=>
  obtain ⟨j,hj,rfl,hown,hbw⟩:=hrel
  by_cases hlt:j<L.length
  ·have hj1:(j:Int)<(L.length:Int):=by omega
   have hj0:(0:Int)≤(j:Int):=by omega
   obtain ⟨b,o,e0,c0⟩:=HL.out j hlt
   have c1:=bkeep hbw c0 lr
   subst e0
   have CI:=hid (HI.out L[j] (List.getElem_mem hlt) wr hbw)
   have HOW:=hid hown
   have HBW:=hid hbw
   have HTK:Hid (strs (L.take (j+1))=strs (L.take j)++[.string (itS L[j])]):=hid (by rw [List.take_succ_eq_append_getElem hlt,strs_snoc])
   have HJ2:Hid (j+1≤L.length):=hid hlt
   clear hown hbw c0
   generalize L[j]=n at *
   go_wp2_with fail
   refine CI.out.mono ?_
   rintro e w1 ⟨rfl,hb1⟩
   have q2:=below_new w1 (.cells #[.string (itS n)] 9)
   have R2:=rowAt_new2 w1 w1.heap.size [.string (itS n)] 9 rfl
   have HCL:Hid (CellsIn (w1.alloc (.cells #[.string (itS n)] 9)) (some ⟨w1.heap.size,0,none⟩) [.string (itS n)]):=hid fun _=>⟨_,0,rfl,fun j u hu=>by rw [Nat.zero_add];exact R2.cell j u hu⟩
   have HOW2:=hid (owns_below (owns_below HOW.out hb1) q2)
   have HBW2:=hid (btrans (btrans HBW.out hb1) q2)
   have HSZ2:Hid (w.heap.size≤(w1.alloc (.cells #[.string (itS n)] 9)).heap.size):=hid HBW2.out.size
   clear q2 R2 hb1 CI HOW c1
   go_wp2_with (at_builtin;refine wpList_appG rfl _ _ 174 9 rfl _ 1 16 Tryz.underlying174 Tryz.info9x rfl (by omega) w.heap.size u3 j (strs (L.take j)) rfl HOW2.out 1 [.string (itS n)] rfl (by simp [Value.oneCell']) _ _ rfl HCL.out (by simp [maxLen];omega) (by omega) HSZ2.out ?_)
   intro v8 w8 hown8 hgrow
   have HO8:Hid (w8.ownsRow w.heap.size 9 1 v8 (j+1) (strs (L.take (j+1)))):=hid (by rw [HTK.out];exact hown8)
   have HB8:=hid (HBW2.out.grown hgrow HBW2.out.size (fun k hk=>owns_ge HOW2.out k hk))
   clear hown8 hgrow
   go_wp2
   go_roundw
   case rel=>exact ⟨j+1,HJ2.out,by go_num,HO8.out,HB8.out⟩
   case measure=>(simp [intOf];omega)
  ·have hje:j=L.length:=by omega
   subst hje
   have hjj:¬ (L.length:Int)<(L.length:Int):=by omega
   rw [List.take_length] at hown
   obtain ⟨a2,c2,rfl,hc2,-,hcells,hat⟩:=owns_cells hown
   obtain ⟨b,o,rfl,hcl⟩:=hcells (by intro e;exact HNE.out (by simpa [strs] using e))
   obtain ⟨rfl,-,hb2⟩:=hat b o rfl
   have HE:Hid ((L.map itS).map (·.data.toList)=L.map Lib.itoa):=hid (by simp [itS,Function.comp_def])
   have CJ:=hid (Tryz.strings_Join b 0 c2 (L.map itS) ⟨#[32]⟩ wr (fun j x hx=>hcl j _ (by simp only [strs,List.getElem?_map] at hx ⊢;cases h:L[j]? with|none=>rw [h] at hx;cases hx|some y=>rw [h] at hx;simp at hx;subst hx;rfl)) hb2 (by simp;omega) (by simpa using hc2) (by rw [HE.out];have:=HLEN.out;show (Lib.join (L.map Lib.itoa) [32]).length≤_;omega))
   rw [HE.out,List.length_map] at CJ
   have HBW:=hid hbw
   clear hown hcl hc2 hb2 hbw hcells hat
   go_wp2_with fail
   refine CJ.out.mono ?_
   rintro e w1 ⟨rfl,hb1⟩
   have HB1:=hid (btrans HBW.out hb1)
   have HSZ:Hid ((Lib.join (L.map Lib.itoa) [32]).length≤1000000):=HLEN
   have HLL:Hid (lineL L=Lib.join (L.map Lib.itoa) [32]++[10]):=hid rfl
   clear hb1 HBW CJ
   have hov:¬ 9223372036854775807<(Lib.join (List.map Lib.itoa L) [32]).length+1:=by have:=HSZ.out;omega
   go_wp2
   go_ret
   exact ⟨by rw [HLL.out];congr 2,HB1.out⟩
def evN (x:EvT):List Int:=[x.1,x.2.1,x.2.2.1,x.2.2.2]
def traceL (E:List EvT):List UInt8:=E.flatMap fun x=>lineL (evN x)
theorem traceL_snoc (E:List EvT) (x:EvT):traceL (E++[x])=traceL E++lineL (evN x):=by simp [traceL]
theorem traceL_len (E:List EvT) (h:∀ x∈E,(lineL (evN x)).length≤1000):(traceL E).length≤1000 * E.length:=by
 induction E with
 | nil=>simp [traceL]
 | cons x E ih=>
  have h1:=h x (by simp)
  have h2:=ih (fun y hy=>h y (by simp [hy]))
  have e:traceL (x :: E)=lineL (evN x)++traceL E:=by simp [traceL]
  rw [e,List.length_append,List.length_cons]
  omega
theorem builder_below {T e:TypeId} {B b:Nat} {bs:List Value} {w w':World} (h:Lib.IsBuilder T e B b bs w) (hb:Below w.heap.size w w'):Lib.IsBuilder T e B b bs w':=by
 have go:∀ p,Lib.BuilderAt T e B b p bs w→Lib.BuilderAt T e B b p bs w':=by
  rintro p ⟨hB,v,h1,h2,h3⟩
  have hlt:b<w.heap.size:=Lib.BuilderAt.lt ⟨hB,v,h1,h2,h3⟩
  exact ⟨hB,v,(hb.block b hlt).trans h1,owns_below h2 hb,h3⟩
 exact h.elim (fun x=>.inl (go _ x)) (fun x=>.inr (go _ x))
set_option maxHeartbeats 4000000 in
theorem text_ok (E:List EvT) (a:Option Addr) (cap:Nat) (w:World) (hE:EvsIn w a E) (hl:E.length≤1000000000) (hI:∀ x∈E,∀ n∈evN x,ItoaAt w n) (hlen:∀ x∈E,(lineL (evN x)).length≤1000) :
  Calls Tryz.prog 37 #[.slice a E.length cap] w fun e w'=>e=.returned (.string ⟨(traceL E).toArray⟩)∧Below w.heap.size w w':=by
 have HI:=hid hI
 have HLEN:=hid hlen
 have HE:=hid hE
 have HS0:Hid (Lib.IsBuilder 136 5 w.heap.size w.heap.size [] (w.alloc (.cells #[.pointer none,.slice none 0 0] 136))):=hid (.inl ⟨Nat.le_refl _,.slice none 0 0,rowAt_new2 w w.heap.size [.pointer none,.slice none 0 0] 136 rfl,World.ownsRow_nil _ _ _ _,by simp [Value.ownBlock]⟩)
 have HB0:=hid (below_new w (.cells #[.pointer none,.slice none 0 0] 136))
 clear hI hlen hE
 go_enter Tryz.func37,Tryz.ntmps37
 go_wp2
 go_loopw [8] (fun i wr=>∃ j:Nat,j≤E.length∧i=.int .i64 j∧Lib.IsBuilder 136 5 w.heap.size w.heap.size (Lib.byteCells (traceL (E.take j))) wr∧Below w.heap.size w wr) (fun i _=>E.length - (intOf i).toNat)
 case atStart=>exact ⟨0,Nat.zero_le _,rfl,HS0.out,HB0.out⟩
 case round=>
  obtain ⟨j,hj,rfl,hbu,hbw⟩:=hrel
  have HBW:=hid hbw
  have HBU:=hid hbu
  by_cases hlt:j<E.length
  ·have hj1:(j:Int)<(E.length:Int):=by omega
   have hj0:(0:Int)≤(j:Int):=by omega
   obtain ⟨b,o,e0,c0,c1,c2,c3⟩:=HE.out j hlt
   have d0:=bkeep hbw c0 lr
   have d1:=bkeep hbw c1 lr
   have d2:=bkeep hbw c2 lr
   have d3:=bkeep hbw c3 lr
   subst e0
   have HTK:Hid (traceL (E.take (j+1))=traceL (E.take j)++lineL (evN E[j])):=hid (by rw [List.take_succ_eq_append_getElem hlt,traceL_snoc])
   have HIj:=hid (HI.out E[j] (List.getElem_mem hlt))
   have HLj:=hid (HLEN.out E[j] (List.getElem_mem hlt))
   have HTL:Hid ((traceL (E.take j)).length≤1000 * E.length):=hid (Nat.le_trans (traceL_len (E.take j) (fun x hx=>HLEN.out x (List.mem_of_mem_take hx))) (by simp;omega))
   have HJ2:Hid (j+1≤E.length):=hid hlt
   clear c0 c1 c2 c3 hbw hbu
   generalize E[j]=x at *
   obtain ⟨n1,n2,n3,n4⟩:=x
   dsimp only at d0 d1 d2 d3
   have q1:=below_new wr (.cells #[.int .i64 n1,.int .i64 n2,.int .i64 n3,.int .i64 n4] 92)
   have q2:=below_new (wr.alloc (.cells #[.int .i64 n1,.int .i64 n2,.int .i64 n3,.int .i64 n4] 92)) (.cells #[.int .i64 n1,.int .i64 n2,.int .i64 n3,.int .i64 n4] 3)
   have R2:=rowAt_new2 (wr.alloc (.cells #[.int .i64 n1,.int .i64 n2,.int .i64 n3,.int .i64 n4] 92)) (wr.heap.size+1) [.int .i64 n1,.int .i64 n2,.int .i64 n3,.int .i64 n4] 3 (by simp)
   have HB2:=hid (btrans (btrans HBW.out q1) q2)
   have HBU2:=hid (builder_below (builder_below HBU.out q1) q2)
   have CL:=hid (line_ok [n1,n2,n3,n4] (some ⟨wr.heap.size+1,0,none⟩) 4 ((wr.alloc (.cells #[.int .i64 n1,.int .i64 n2,.int .i64 n3,.int .i64 n4] 92)).alloc (.cells #[.int .i64 n1,.int .i64 n2,.int .i64 n3,.int .i64 n4] 3)) (fun i hi=>⟨_,0,rfl,R2.cell (0+i) _ (by rw [Nat.zero_add];match i,hi with|0,_=>rfl|1,_=>rfl|2,_=>rfl|3,_=>rfl)⟩) (by simp) (by simp) (fun n hn=>(HIj.out n hn).keep HB2.out) (by have:=HLj.out;simp only [lineL,List.length_append] at this;show (Lib.join (List.map Lib.itoa [n1,n2,n3,n4]) [32]).length≤_;simp only [evN] at this;omega))
   clear q1 q2 R2
   go_wp2_with fail
   refine CL.out.mono ?_
   rintro e w3 ⟨rfl,hb3⟩
   have HBU3:=hid (builder_below HBU2.out hb3)
   have HB3:=hid (btrans HB2.out hb3)
   have CW:=hid (Tryz.Builder_WriteString w.heap.size w.heap.size _ ⟨(lineL [n1,n2,n3,n4]).toArray⟩ w3 HBU3.out (by rw [Lib.byteCells_length];have:=HTL.out;have:=HLj.out;show _+(lineL (evN (n1,n2,n3,n4))).toArray.size≤_;simp only [List.size_toArray];omega) HB3.out.size)
   clear hb3 HBU2 HBU HB2 CL d0 d1 d2 d3
   go_wp2_with fail
   refine CW.out.mono ?_
   rintro e w4 ⟨rfl,hB4,hb4⟩
   have HB4:=hid (HB3.out.trans hb4)
   have HBU4:Hid (Lib.IsBuilder 136 5 w.heap.size w.heap.size (Lib.byteCells (traceL (E.take (j+1)))) w4):=hid (by rw [HTK.out,Lib.byteCells_append];exact .inr hB4)
   clear hB4 hb4 CW HBU3 HB3
   go_wp2
   go_roundw
   case rel=>exact ⟨j+1,HJ2.out,by go_num,HBU4.out,HB4.out⟩
   case measure=>(simp [intOf];omega)
  ·have hje:j=E.length:=by omega
   subst hje
   have hjj:¬ (E.length:Int)<(E.length:Int):=by omega
   rw [List.take_length] at HBU
   have CS:=hid (Tryz.Builder_String_any w.heap.size w.heap.size (traceL E) wr HBU.out HBW.out.size)
   clear hbu hbw
   go_wp2_with fail
   refine CS.out.mono ?_
   rintro e w1 ⟨rfl,hb1⟩
   have HB1:=hid (HBW.out.trans hb1)
   clear hb1 CS
   go_wp2
   go_ret
   exact ⟨rfl,HB1.out⟩
set_option maxHeartbeats 4000000 in
theorem trace_ok (C:Conf) (B:Mem) (S:ScrT) (M:SMem) (dom:Nat) (w:World) (hC:ConfIn w B C) (hS:ScrIn w M S) (hsc:ckScr C S=0) (hc5:C.sl.length≤B.c5) (hd:(dom:Int)<C.d)
  (hl:((machF C (ps S)).1 dom).evs.length≤1000000000) (hI:∀ x∈((machF C (ps S)).1 dom).evs,∀ n∈evN x,ItoaAt w n) (hlen:∀ x∈((machF C (ps S)).1 dom).evs,(lineL (evN x)).length≤1000) :
  Calls Tryz.prog 16 #[cv C B,sv S M,.int .i64 (dom:Int)] w fun e w'=>e=.returned (.tuple #[.string ⟨(traceL ((machF C (ps S)).1 dom).evs).toArray⟩,.int .i64 0])∧Below w.heap.size w w':=by
 have q1:=below_new w (.cells (cl C B) 27)
 have q2:=below_new (w.alloc (.cells (cl C B) 27)) (.cells (sl S M) 31)
 have HB:=hid (btrans q1 q2)
 have X0:=hid ((rowAt_new2 w w.heap.size (cl C B).toList 27 rfl).below q2 lr)
 have X1:=hid (rowAt_new2 (w.alloc (.cells (cl C B) 27)) (w.heap.size+1) (sl S M).toList 31 (by simp))
 have CE:=hid (runExec_ok C B S M _ ((hC.keep q1).keep q2) ((hS.keep q1).keep q2) hsc hc5)
 have HL:=hid hl
 have HI:=hid hI
 have HLEN:=hid hlen
 have HD:=hid hd
 have hn4:Hid (C.d≤4):=hid (by have:=(conf_nums (scr_ok hsc).1.cfg).2.2.2;omega)
 clear q1 q2 hC hS hsc hc5 hl hI hlen hd
 obtain ⟨a5,a6,a7,a8,c5,c6,c7,c8⟩:=B
 obtain ⟨aA,aR,cA,cR⟩:=M
 obtain ⟨LL,RR,rd⟩:=S
 dsimp only [cv,cl,sv,sl] at *
 have g0:=X0.out.cell 0 _ rfl
 have g1:=X0.out.cell 1 _ rfl
 have g2:=X0.out.cell 2 _ rfl
 have g3:=X0.out.cell 3 _ rfl
 have g4:=X0.out.cell 4 _ rfl
 have g5:=X0.out.cell 5 _ rfl
 have g6:=X0.out.cell 6 _ rfl
 have g7:=X0.out.cell 7 _ rfl
 have g8:=X0.out.cell 8 _ rfl
 have s0:=X1.out.cell 0 _ rfl
 have s1:=X1.out.cell 1 _ rfl
 have s2:=X1.out.cell 2 _ rfl
 go_enter Tryz.func16,Tryz.ntmps16
 go_wp2_with fail
 refine CE.out.mono ?_
 rintro e w3 ⟨gd,n,rfl,hout,hb3⟩
 obtain ⟨hn,As,hds⟩:=hout
 have HN:=hid hn
 have HB3:=hid (btrans HB.out hb3)
 have hdn:dom<n:=by have:=HD.out;omega
 obtain ⟨hp,hdi⟩:=hds dom hdn
 have CT:=hid (text_ok _ (As dom).aE (As dom).cE w3 hdi.evs HL.out (fun x hx n hn=>(HI.out x hx n hn).keep HB3.out) HLEN.out)
 have p6:=hp.c6
 simp only [Nat.zero_add] at p6
 have hn5:n≤4:=by have:=HN.out;have:=hn4.out;omega
 clear hn hds hp hdi hb3 CE X0 X1 HB
 clear g0 g1 g2 g3 g4 g5 g6 g7 g8 s0 s1 s2
 generalize hq:traceL ((machF C (ps ⟨LL,RR,rd⟩)).1 dom).evs=T at *
 have HT:=hid hq
 clear hq
 generalize ((machF C (ps ⟨LL,RR,rd⟩)).1 dom).evs.length=m at *
 have hd1:(dom:Int)<(n:Int):=by omega
 have hd0:(0:Int)≤(dom:Int):=by omega
 have HIR:Hid (inR (dom:Int) 0 ((n:Int) - 1)=true):=hid (by simp [inR];omega)
 have hwr:IntKind.i64.wrap ((n:Int) - 1)=(n:Int) - 1:=by rw [IntKind.wrap_i64];omega
 go_wp2_with fail
 refine (within_any _ _ _ _).mono ?_
 rintro e w4 ⟨rfl,rfl⟩
 rw [HIR.out]
 go_wp2_with fail
 refine CT.out.mono ?_
 rintro e w5 ⟨rfl,hb5⟩
 have HB5:=hid (btrans HB3.out hb5)
 clear hb5
 go_wp2
 refine bodyPost_ret (v:=.tuple #[.string ⟨T.toArray⟩,.int .i64 0]) (by simp [results,Tryz.results16,go_sem]) rfl ⟨by rw [HT.out],HB5.out⟩
theorem it0:Lib.itoa 0=[48]:=by
 have h:=Lib.itoa_nonneg 0
 rw [Lib.decDigits_one (by omega)] at h
 exact h
theorem it1:Lib.itoa 1=[49]:=by
 have h:=Lib.itoa_nonneg 1
 rw [Lib.decDigits_one (by omega)] at h
 exact h
theorem it2:Lib.itoa 2=[50]:=by
 have h:=Lib.itoa_nonneg 2
 rw [Lib.decDigits_one (by omega)] at h
 exact h
theorem it3:Lib.itoa 3=[51]:=by
 have h:=Lib.itoa_nonneg 3
 rw [Lib.decDigits_one (by omega)] at h
 exact h
theorem it6:Lib.itoa 6=[54]:=by
 have h:=Lib.itoa_nonneg 6
 rw [Lib.decDigits_one (by omega)] at h
 exact h
theorem it7:Lib.itoa 7=[55]:=by
 have h:=Lib.itoa_nonneg 7
 rw [Lib.decDigits_one (by omega)] at h
 exact h
theorem it13:Lib.itoa 13=[49,51]:=by
 have h:=Lib.itoa_nonneg 13
 rw [Lib.decDigits_two (by omega) (by omega)] at h
 exact h
theorem it30:Lib.itoa 30=[51,48]:=by
 have h:=Lib.itoa_nonneg 30
 rw [Lib.decDigits_two (by omega) (by omega)] at h
 exact h
theorem it50:Lib.itoa 50=[53,48]:=by
 have h:=Lib.itoa_nonneg 50
 rw [Lib.decDigits_two (by omega) (by omega)] at h
 exact h
theorem it80:Lib.itoa 80=[56,48]:=by
 have h:=Lib.itoa_nonneg 80
 rw [Lib.decDigits_two (by omega) (by omega)] at h
 exact h
theorem it90:Lib.itoa 90=[57,48]:=by
 have h:=Lib.itoa_nonneg 90
 rw [Lib.decDigits_two (by omega) (by omega)] at h
 exact h
def oneT:List UInt8:=[48,32,49,32,48,32,48,10,48,32,50,32,48,32,48,10,48,32,51,32,48,32,48,10,51,32,55,32,48,32,48,10,53,48,32,50,32,48,32,49,10,51,48,32,54,32,48,32,48,10,56,48,32,54,32,48,32,49,10,57,48,32,49,51,32,48,32,48,10]
theorem oneE_evs:oneE.evs=[(0,1,0,0),(0,2,0,0),(0,3,0,0),(3,7,0,0),(50,2,0,1),(30,6,0,0),(80,6,0,1),(90,13,0,0)]:=oneS_evs
theorem oneE_trace:traceL oneE.evs=oneT:=by
 rw [oneE_evs]
 simp only [traceL,lineL,evN,List.flatMap_cons,List.flatMap_nil,List.map_cons,List.map_nil,it0,it1,it2,it3,it6,it7,it13,it30,it50,it80,it90]
 rfl
theorem one_small:∀ x∈oneE.evs,∀ n∈evN x,0≤n∧n<100:=by
 rw [oneE_evs]
 decide
theorem line_len {x:EvT} (h:∀ n∈evN x,-9223372036854775808≤n∧n≤9223372036854775807):(lineL (evN x)).length≤1000:=by
 obtain ⟨a,b,c,d⟩:=x
 have h1:=Lib.itoa_length_le a (h a (by simp [evN])).1 (h a (by simp [evN])).2
 have h2:=Lib.itoa_length_le b (h b (by simp [evN])).1 (h b (by simp [evN])).2
 have h3:=Lib.itoa_length_le c (h c (by simp [evN])).1 (h c (by simp [evN])).2
 have h4:=Lib.itoa_length_le d (h d (by simp [evN])).1 (h d (by simp [evN])).2
 simp only [lineL,evN,List.map_cons,List.map_nil,List.length_append,Lib.join_length,Lib.lens,List.length_cons,List.length_nil,List.sum_cons,List.sum_nil]
 omega
theorem one8 (A:Mem) (aA:Option Addr) (w:World) (hC:ConfIn w A oneC) (h5:oneC.sl.length≤A.c5) (hS:ScrIn w ⟨aA,none,1,0⟩ oneS) :
  Calls Tryz.prog 8 #[cv oneC A,.agg #[.slice aA 1 1,.slice none 0 0,.int .i64 1]] w fun e w'=>∃ gd,e=.returned (.tuple #[.slice (some ⟨gd,0,none⟩) 1 1,.int .i64 2,.int .i64 0])∧w'.cell? ⟨gd,2,none⟩=some (.int .i64 1)∧Below w.heap.size w w':=by
 refine Calls.mono (runExec_ok oneC A oneS ⟨aA,none,1,0⟩ w hC hS oneS_ck h5) ?_
 rintro e w' ⟨gd,n,rfl,⟨hn,As,hd⟩,hb⟩
 have hn1:n=1:=by have h1:oneC.d=1:=rfl;omega
 subst hn1
 have:=(hd 0 (by omega)).1.c2
 rw [oneS_nxt] at this
 rw [oneS_long]
 exact ⟨gd,rfl,this,hb⟩
theorem one16 (A:Mem) (aA:Option Addr) (w:World) (hC:ConfIn w A oneC) (h5:oneC.sl.length≤A.c5) (hS:ScrIn w ⟨aA,none,1,0⟩ oneS) :
  Calls Tryz.prog 16 #[cv oneC A,.agg #[.slice aA 1 1,.slice none 0 0,.int .i64 1],.int .i64 0] w fun e w'=>e=.returned (.tuple #[.string ⟨oneT.toArray⟩,.int .i64 0])∧Below w.heap.size w w':=by
 refine Calls.mono (trace_ok oneC A oneS ⟨aA,none,1,0⟩ 0 w hC hS oneS_ck h5 (by decide) ?_ ?_ ?_) ?_
 ·show oneE.evs.length≤_
  rw [oneE_evs]
  decide
 ·intro x hx n hn
  have h:=one_small x hx n hn
  have h2:=itoaAt_small w n.toNat (by omega)
  rwa [show (n.toNat:Int)=n by omega] at h2
 ·intro x hx
  exact line_len fun n hn=>by have:=one_small x hx n hn;omega
 ·rintro e w' ⟨rfl,hb⟩
  refine ⟨?_,hb⟩
  show Ending.returned (.tuple #[.string ⟨(traceL oneE.evs).toArray⟩,.int .i64 0])=_
  rw [oneE_trace]
theorem one15 (A:Mem) (aA:Option Addr) (w:World) (hC:ConfIn w A oneC) (hS:ScrIn w ⟨aA,none,1,0⟩ oneS) :
  Calls Tryz.prog 15 #[cv oneC A,.agg #[.slice aA 1 1,.slice none 0 0,.int .i64 1]] w fun e w'=>e=.returned (.int .i64 0)∧Below w.heap.size w w':=by
 have h:=checkScr_any oneC A oneS ⟨aA,none,1,0⟩ w hC hS
 rw [oneS_ck] at h
 exact h
set_option maxHeartbeats 8000000 in
theorem execBegun_true:Begun 7:=by
 intro w
 have q1:=below_new w (.cells #[.int .i64 6,.int .i64 0,.int .i64 0] 63)
 have q2:=below_new (w.alloc (.cells #[.int .i64 6,.int .i64 0,.int .i64 0] 63)) (.cells #[.slice (some ⟨w.heap.size,0,none⟩) 1 1] 56)
 have q3:=below_new ((w.alloc (.cells #[.int .i64 6,.int .i64 0,.int .i64 0] 63)).alloc (.cells #[.slice (some ⟨w.heap.size,0,none⟩) 1 1] 56)) (.cells #[.slice (some ⟨w.heap.size+1,0,none⟩) 1 1,.slice none 0 0,.int .i64 1] 31)
 have HB:=hid (btrans q1 (btrans q2 q3))
 have R1:=((rowAt_new2 w w.heap.size [.int .i64 6,.int .i64 0,.int .i64 0] 63 rfl).below q2 lr).below q3 lr
 have R2:=(rowAt_new2 (w.alloc (.cells #[.int .i64 6,.int .i64 0,.int .i64 0] 63)) (w.heap.size+1) [.slice (some ⟨w.heap.size,0,none⟩) 1 1] 56 (by simp)).below q3 lr
 have X:=hid (rowAt_new2 ((w.alloc (.cells #[.int .i64 6,.int .i64 0,.int .i64 0] 63)).alloc (.cells #[.slice (some ⟨w.heap.size,0,none⟩) 1 1] 56)) (w.heap.size+1+1) [.slice (some ⟨w.heap.size+1,0,none⟩) 1 1,.slice none 0 0,.int .i64 1] 31 (by simp))
 have HS:Hid (ScrIn (((w.alloc (.cells #[.int .i64 6,.int .i64 0,.int .i64 0] 63)).alloc (.cells #[.slice (some ⟨w.heap.size,0,none⟩) 1 1] 56)).alloc (.cells #[.slice (some ⟨w.heap.size+1,0,none⟩) 1 1,.slice none 0 0,.int .i64 1] 31)) ⟨some ⟨w.heap.size+1,0,none⟩,none,1,0⟩ oneS):=hid (by
  refine ⟨fun i hi=>?_,fun i hi=>absurd hi (by simp [oneS]),by simp [oneS],by simp [oneS]⟩
  obtain rfl:i=0:=by simp [oneS] at hi;exact hi
  refine ⟨_,_,some ⟨w.heap.size,0,none⟩,1,rfl,R2.cell 0 _ rfl,fun j hj=>?_,by simp [oneS],by simp [oneS]⟩
  obtain rfl:j=0:=by simp [oneS] at hj;exact hj
  exact ⟨_,_,rfl,R1.cell 0 _ rfl,R1.cell 1 _ rfl,R1.cell 2 _ rfl⟩)
 clear q1 q2 q3 R1 R2
 go_enter Tryz.func7,Tryz.ntmps7
 go_upto_region 2 with fail
 generalize World.alloc (World.alloc (World.alloc w _) _) _=W at *
 generalize w.heap.size+1+1=bs at *
 generalize w.heap.size+1=ba at *
 have s0:=X.out.cell 0 _ rfl
 have s1:=X.out.cell 1 _ rfl
 have s2:=X.out.cell 2 _ rfl
 have hbz:Below W.heap.size W W.drew:=(Below.refl _ _).drew
 have CO:=hid (oneV8_any W.drew)
 go_cut [2,3,4] (fun t u v wx=>∃ gd,t=.slice (some ⟨gd,0,none⟩) 1 1∧u=.int .i64 2∧v=.int .i64 0∧wx.cell? ⟨gd,2,none⟩=some (.int .i64 1)∧Below W.heap.size W wx)
 case first=>
  go_region_with (first
   | (go_at_call 17;with_reducible refine Calls.mono CO.out ?_;rintro e w2 ⟨A,rfl,hc2,h5,hb2⟩;have HC2:=hid hc2;have H5:=hid h5;have HB2:=hid (btrans hbz hb2);have HS2:=hid (HS.out.keep HB2.out);have X2:=hid (X.out.below HB2.out lr);have t0:=X2.out.cell 0 _ rfl;have t1:=X2.out.cell 1 _ rfl;have t2:=X2.out.cell 2 _ rfl;clear hc2 h5 hb2)
   | (go_at_call 8;with_reducible refine Calls.mono (one8 A (some ⟨ba,0,none⟩) w2 HC2.out H5.out HS2.out) ?_;rintro e w3 ⟨gd,rfl,hd1,hb3⟩;have HD1:=hid hd1;have HB3:=hid (btrans HB2.out hb3);clear hd1 hb3))
  all_goals
   go_wp2
   go_meet
   exact ⟨gd,rfl,rfl,rfl,HD1.out,HB3.out⟩
 case rest=>
  obtain ⟨W1,rfl⟩:∃ x,x=wc:=⟨_,rfl⟩
  obtain ⟨gd,rfl,rfl,rfl,hda,hbw⟩:=hcut
  have HDA:=hid hda
  have HBW:=hid (btrans HB.out hbw)
  have HSc:=hid (HS.out.keep hbw)
  have Xc:=hid (X.out.below hbw lr)
  clear s0 s1 s2 hbz CO hda hbw
  have s0:=Xc.out.cell 0 _ rfl
  have s1:=Xc.out.cell 1 _ rfl
  have s2:=Xc.out.cell 2 _ rfl
  have hbz:Below W1.heap.size W1 W1.drew:=(Below.refl _ _).drew
  have CO:=hid (oneV8_any W1.drew)
  go_upto_region 3 with fail
  go_cut [5,6] (fun t u wx=>t=.string ⟨oneT.toArray⟩∧u=.int .i64 0∧Below W1.heap.size W1 wx)
  case first=>
   go_region_with (first
    | (go_at_call 17;with_reducible refine Calls.mono CO.out ?_;rintro e w2 ⟨A,rfl,hc2,h5,hb2⟩;have HC2:=hid hc2;have H5:=hid h5;have HB2:=hid (btrans hbz hb2);have HS2:=hid (HSc.out.keep HB2.out);have X2:=hid (Xc.out.below HB2.out lr);have t0:=X2.out.cell 0 _ rfl;have t1:=X2.out.cell 1 _ rfl;have t2:=X2.out.cell 2 _ rfl;clear hc2 h5 hb2)
    | (go_at_call 16;with_reducible refine Calls.mono (one16 A (some ⟨ba,0,none⟩) w2 HC2.out H5.out HS2.out) ?_;rintro e w3 ⟨rfl,hb3⟩;have HB3:=hid (btrans HB2.out hb3);clear hb3))
   all_goals
    go_wp2
    go_meet
    exact ⟨rfl,rfl,HB3.out⟩
  case rest=>
   obtain ⟨W2,rfl⟩:∃ x,x=wc:=⟨_,rfl⟩
   obtain ⟨rfl,rfl,hbw⟩:=hcut
   have HBW2:=hid (btrans HBW.out hbw)
   have HSd:=hid (HSc.out.keep hbw)
   have g2:=bkeep hbw HDA.out lr
   have Xd:=hid (Xc.out.below hbw lr)
   clear s0 s1 s2 hbz CO hbw
   have s0:=Xd.out.cell 0 _ rfl
   have s1:=Xd.out.cell 1 _ rfl
   have s2:=Xd.out.cell 2 _ rfl
   have hbz:Below W2.heap.size W2 W2.drew:=(Below.refl _ _).drew
   have CO:=hid (oneV8_any W2.drew)
   have HK:Hid (∀ w',Below W2.heap.size W2 w'→w'.cell? ⟨bs,0,none⟩=some (.slice (some ⟨ba,0,none⟩) 1 1)∧w'.cell? ⟨bs,1,none⟩=some (.slice none 0 0)∧w'.cell? ⟨bs,2,none⟩=some (.int .i64 1)∧w'.cell? ⟨gd,2,none⟩=some (.int .i64 1)):=hid fun w' hb=>⟨bkeep hb s0 lr,bkeep hb s1 lr,bkeep hb s2 lr,bkeep hb g2 lr⟩
   unfold oneT
   go_upto_region 4 with fail
   go_region_held3 (fun w'=>w'.cell? ⟨bs,0,none⟩=some (.slice (some ⟨ba,0,none⟩) 1 1)∧w'.cell? ⟨bs,1,none⟩=some (.slice none 0 0)∧w'.cell? ⟨bs,2,none⟩=some (.int .i64 1)∧w'.cell? ⟨gd,2,none⟩=some (.int .i64 1))
    (first|with_reducible exact HK.out _ hB3|with_reducible exact HK.out _ hB2|with_reducible exact HK.out _ hbz|go_keep)
    (first
     | (go_at_call 17;with_reducible refine Calls.mono CO.out ?_;rintro e w2 ⟨A,rfl,hc2,h5,hb2⟩;have hB2:=btrans hbz hb2)
     | (go_at_call 15;with_reducible refine Calls.mono (one15 A (some ⟨ba,0,none⟩) w2 hc2 (HSd.out.keep hB2)) ?_;rintro e w3 ⟨rfl,hb3⟩;have hB3:=btrans hB2 hb3))
   have HB3:=hid (btrans HBW2.out hB3)
   clear HK hB3 hB2
   go_wp2
   go_ret
   exact ⟨rfl,HB3.out⟩
end Go.Proofs.YtejhccmclanlmaaGreatDoor
