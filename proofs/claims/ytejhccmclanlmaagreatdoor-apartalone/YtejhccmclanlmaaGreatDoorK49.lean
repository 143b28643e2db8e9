/- Texts joined: Bi. -/
import Derived.Test.YtejhccmclanlmaaGreatDoorK40
import Derived.Test.YtejhccmclanlmaaGreatDoorK45
import Derived.Test.YtejhccmclanlmaaGreatDoorK46
import Derived.Test.YtejhccmclanlmaaGreatDoorK48
set_option linter.unusedVariables false
set_option maxRecDepth 100000
namespace Go.Proofs.YtejhccmclanlmaaGreatDoor
open Go.RowKit
abbrev ps (S:ScrT):Scr:=⟨S.acts,S.arr,S.rounds.toNat⟩
def winX (C:Conf) (S:Scr) (t:TT) (X:(Nat→Dom)×(Nat→Int)):(Nat→Dom)×(Nat→Int):=
 (putF X.1 (slD C t.1) (winF C S.arr (S.acts.getD (slD C t.1) []) t.1 t.2.1 t.2.2 (X.2 (slD C t.1)) (X.1 (slD C t.1))),putF X.2 (slD C t.1) t.2.1)
def winK (C:Conf) (S:Scr) (t:TT) (X:(Nat→Dom)×(Nat→Int)):KT:=
 (runD C (slD C t.1) (S.acts.getD (slD C t.1) []) t.2.2 (t.2.2 - t.2.1).toNat (openF C S.arr (slD C t.1) t.1 (X.1 (slD C t.1)) (X.2 (slD C t.1)) t.2.1) (emptyC C.s.toNat C.w.toNat) t.2.1).2
theorem windowT_ok (K:MK) (w:World) (gd base:Nat) (X:(Nat→Dom)×(Nat→Int)) (As:Nat→DMem) (t:TT) (b:Int) (aK:Option Addr) (cK:Nat) (h:MO K w gd base X.1 As X.2) (hsc:ckScr K.C K.S=0) (hn:K.C.d=(K.n:Int)) (hMI:MI K.C (ps K.S) b X) (hb0:0≤b) (hb:b≤1000000000) (ht:t∈turnsL K.C (ps K.S).rounds) (hK:CacheIn w aK (emptyC K.C.s.toNat K.C.w.toNat)) :
  Calls Tryz.prog 23 #[.pointer (some ⟨K.gm,0,none⟩),.agg #[.int .i64 t.1,.int .i64 t.2.1,.int .i64 t.2.2],.agg #[.slice aK (List.length (emptyC K.C.s.toNat K.C.w.toNat)) cK]] w fun e w'=>∃ (A':DMem) (aK':Option Addr),(∃ cK',e=.returned (.agg #[.slice aK' (List.length (winK K.C (ps K.S) t X)) cK']))∧MO K w' gd base (winX K.C (ps K.S) t X).1 (putF As (slD K.C t.1) A') (winX K.C (ps K.S) t X).2∧CacheIn w' aK' (winK K.C (ps K.S) t X)∧Ext (MX K gd) w w':=by
 obtain ⟨hSO,hlen,harr,hr0⟩:=scr_ok hsc
 obtain ⟨slot,fr,te⟩:=t
 obtain ⟨h1,h2,h3,h4,h5⟩:=turns_ok hSO.cfg hSO.rounds _ ht
 dsimp only at h1 h2 h3 h4 h5 ⊢
 have hsl:=slD_ok hSO.cfg h1
 have hd:slD K.C slot<K.n:=by omega
 have hsd:K.C.sl[slot].1=(slD K.C slot:Int):=by
  have:=hsl.2
  rw [show K.C.sl.getD slot (0,0)=K.C.sl[slot] by simp [h1]] at this
  exact this.symm
 have hac:slD K.C slot<K.S.acts.length:=by omega
 have hL:K.S.acts[slD K.C slot]=(ps K.S).acts.getD (slD K.C slot) []:=by simp [hac]
 have hDI:=hMI.doms (slD K.C slot) hsl.1
 have hz:ckD K.C K.C.sl[slot].1 (X.1 (slD K.C slot))=0:=by rw [hsd];exact hDI.ck
 have hlast:=hMI.last (slD K.C slot)
 have hca:ckArr K.C K.S.arr K.C.sl[slot].1 (X.2 (slD K.C slot)) fr=0:=by
  rw [hsd]
  exact ckArr_at harr (by simp [inR];omega) (by simp [inR];omega) (by simp [inR];omega)
 obtain ⟨⟨s1,s2,s3⟩,s4,s5,s6,s7⟩:=dom_small hDI.ck
 have hev:=hDI.ev
 have hW:=winF_ok (slot:=slot) (arr:=K.S.arr) (last:=X.2 (slD K.C slot)) hSO.cfg hDI (hSO.acts _).1 (hSO.acts _).2 h2 h3 h4
 have htl:(X.1 (slD K.C slot)).tak.length=K.C.ow.length:=(ckShp_iff.1 (ckD_iff.1 hDI.ck).2.1).2.2.2
 refine windowM_ok K w gd base X.1 As X.2 slot (slD K.C slot) fr te _ _ aK cK (openF K.C K.S.arr (slD K.C slot) slot (X.1 (slD K.C slot)) (X.2 (slD K.C slot)) fr) h hd h1 hsd hac hL hK ?_ ?_ ?_
 ·intro wx hbx
  have:=open_any K.C K.B K.M.aR K.S.arr K.M.cR (X.1 (slD K.C slot)) (As (slD K.C slot)) slot (X.2 (slD K.C slot)) fr wx (h.keep hbx).scr.arr (h.keep hbx).scr.lR (h.keep hbx).conf ((h.keep hbx).at_ _ hd).2.dom hSO.cfg h1 hz hca ⟨by omega,by omega,by omega,by omega⟩ (by omega) (by omega) (fun r hr=>by have:=s6 r hr;omega) (fun r hr=>by have:=s7 r hr;omega)
  rw [openF_eq htl,← hsd]
  exact this
 ·intro wx A1 aL cL hbx hD1 hL1
  refine (runWin_ok K.C K.B (slD K.C slot) _ A1 _ aK cK _ aL cL fr te wx (h.keep hbx).conf hD1 (hK.keep hbx) hL1 hW.1 ?_).mono ?_
  ·have:((openF K.C K.S.arr (slD K.C slot) slot (X.1 (slD K.C slot)) (X.2 (slD K.C slot)) fr).evs.length:Int)≤b+1:=(openF_ok (slot:=slot) K.S.arr (X.2 (slD K.C slot)) fr hDI).ev
   omega
  ·rintro e w' ⟨A',aK',cK',e1,_,e3,_,e5⟩
   exact ⟨A',aK',cK',e1,e3,e5⟩
 ·have h9:=hW.2.ev
  unfold winF shutE at h9
  simp only [List.length_append,List.length_singleton] at h9
  have:(te - fr)≤1000:=h5
  change List.length (runD K.C (slD K.C slot) (K.S.acts.getD (slD K.C slot) []) te (te - fr).toNat (openF K.C K.S.arr (slD K.C slot) slot (X.1 (slD K.C slot)) (X.2 (slD K.C slot)) fr) (emptyC K.C.s.toNat K.C.w.toNat) fr).1.evs≤100000000000
  omega
theorem winK_ok {C:Conf} {S:Scr} {t:TT} {X:(Nat→Dom)×(Nat→Int)} {b:Int} (hSO:ScrOk C S) (hMI:MI C S b X) (ht:t∈turnsL C S.rounds):ck (winK C S t X)=0∧Shp C.s.toNat C.w.toNat (winK C S t X):=by
 obtain ⟨h1,h2,h3,h4,h5⟩:=turns_ok hSO.cfg hSO.rounds _ ht
 have hsl:=slD_ok hSO.cfg h1
 have hDI:=hMI.doms (slD C t.1) hsl.1
 obtain ⟨⟨s1,s2⟩,⟨v1,v2⟩,_⟩:=conf_nums hSO.cfg
 have ho:=openF_ok (slot:=t.1) S.arr (X.2 (slD C t.1)) t.2.1 hDI
 constructor
 ·exact (SI.run h2 h4 (hSO.acts _).1 (hSO.acts _).2 (t.2.2 - t.2.1).toNat _ _ t.2.1 (si_begin ho.ck (ck_empty (by omega) (by omega) (by omega) (by omega)) h3) lr).ck
 ·exact Shp.run (by omega) C _ _ _ _ _ _ _ (Shp.empty _ _)
end Go.Proofs.YtejhccmclanlmaaGreatDoor
