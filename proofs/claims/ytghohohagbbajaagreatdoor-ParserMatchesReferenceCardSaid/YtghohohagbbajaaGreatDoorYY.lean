/- part of the proof -/
import Derived.Test.YtghohohagbbajaaGreatDoorYO
import Derived.Test.YtghohohagbbajaaGreatDoorYV
import Derived.Deep.RegionWith
set_option linter.unusedVariables false
set_option linter.unusedSimpArgs false
set_option linter.unusedSectionVars false
namespace Go.Proofs.YtghohohagbbajaaGreatDoor
open Go.RowKit Go.Lib
open Px (Txt TyE VarD DataD TraitD BoundD ImplD ArgD ExprD StmtD ArmD FuncD ModD)
theorem Got.drew {F B:Nat} {off:Bool} {w0 w:World} {acc:List Fact} (h:Got F B off w0 w acc):Got F B off w0 w.drew acc:=by
 obtain⟨⟨v,hI⟩,hF⟩:=h
 exact⟨⟨v,hI.b,hI.l.keep (X:=[]) (Fr.refl [] w).drew (by simp),hI.lt,hI.le⟩,hF.trans (FrF.of (Fr.refl [] w).drew (by simp))⟩
def gB (off:Bool) (b:BoundD):List Fact:=tF [b.param,b.trait] ++ oF off b.off
def gA (off:Bool) (a:ArgD):List Fact:=tF [a.name] ++ (typesF off [a.type] ++ (nF a.capture ++ oF off a.off))
theorem fBs_fl (off:Bool):∀ l:List BoundD,fBs off l=l.flatMap (gB off)
 | []=>rfl
 | b :: r=>by rw[fBs,fBs_fl off r,List.flatMap_cons,gB,List.append_assoc]
theorem boundsF_fl (off:Bool) (l:List BoundD):boundsF off l=nF l.length ++ l.flatMap (gB off):=by rw[boundsF,fBs_fl]
theorem fAs_fl (off:Bool):∀ l:List ArgD,fAs off l=l.flatMap (gA off)
 | []=>rfl
 | b :: r=>by rw[fAs,fAs_fl off r,List.flatMap_cons,gA];simp only[List.append_assoc]
theorem argsF_fl (off:Bool) (l:List ArgD):argsF off l=nF l.length ++ l.flatMap (gA off):=by rw[argsF,fAs_fl]
set_option maxRecDepth 100000 in
set_option maxHeartbeats 1600000 in
theorem Got.bounds {F B:Nat} {off:Bool} {w0 w:World} {acc:List Fact} {sv:Value} {l:List BoundD} (h:Got F B off w0 w acc) (hs:BdsV w F l sv) (hlen:acc.length+(boundsF off l).length≤900000) :
  Calls Tryz.prog 35 #[.pointer (some ⟨F,0,none⟩),sv] w fun e w'=>Got F B off w0 w' (acc ++ boundsF off l)∧FrF F w w'∧e=.returned (.tuple #[]):=by
 obtain⟨ps,cs,rfl⟩:=hs.shape
 rw[boundsF_fl,List.length_append,nF_len] at hlen
 have H0:=hid h.2
 have H:Hid (Got F B off w w acc):=hid ⟨h.1,FrF.refl _ _⟩
 have HS:=hid hs
 have hFw:=h.lt
 clear h hs
 go_enter Tryz.func35,Tryz.ntmps35
 go_wp2_with fail
 refine((H.out.alloc _).number (n:=l.length) (by exact Blk.new _ _ _) (by omega) (by omega)).mono ?_
 rintro e w1 ⟨hG1,hF1,rfl⟩
 have HG1:=hid hG1
 clear hG1 hF1
 go_wp2_with fail
 go_loopw [4] (fun vi wr=>∃ i:Nat,vi=.int .i64 i∧i≤l.length∧Got F B off w wr ((acc ++ nF l.length) ++ (l.take i).flatMap (gB off))) (fun vi _=>l.length - (RowKit.intOf vi).toNat)
 case atStart=>exact⟨0,rfl,by omega,by simpa using HG1.out⟩
 case round =>
  obtain⟨i,rfl,hi,hG⟩:=hrel
  by_cases hlt:i<l.length
  ·obtain⟨t,hx⟩:∃ x,l[i]?=some x:=⟨l[i],List.getElem?_eq_getElem hlt⟩
   obtain⟨g,cap,cur,ds,e,hblk,hgF,hcap,hmax,hrep,hcell⟩:=(HS.out.keep hG.2).at len_boundQ hx
   simp only[Value.slice.injEq] at e
   obtain⟨rfl,_,rfl⟩:=e
   obtain rfl:=bound_full hrep
   have hml:=hmax
   unfold maxLen at hml
   have k0:=hcell 0 (by omega)
   have k1:=hcell 1 (by omega)
   have k2:=hcell 2 (by omega)
   simp only[List.getElem?_cons_succ,List.getElem?_cons_zero,Nat.add_zero] at k0 k1 k2
   have K0:=hid k0
   have K1:=hid k1
   have K2:=hid k2
   have hgl:=hblk.lt
   have hfl:=fl_len (gB off) hx
   obtain⟨ac,hac⟩:∃ ac,ac=(acc ++ nF l.length) ++ (l.take i).flatMap (gB off):=⟨_,rfl⟩
   have hal:ac.length+(gB off t).length≤900000:=by rw[hac];simp only[List.length_append,nF_len] at hfl ⊢;omega
   simp only[gB,List.length_append,nF_len] at hal
   rw[← hac] at hG
   have hd:decide ((i:Int)<(l.length:Int))=true:=by simp;omega
   have hd':decide (i<l.length)=true:=by simp;omega
   have hdI:(i:Int)<(l.length:Int):=by omega
   have HG0:=hid hG
   have HX:=hid hx
   have HAC:=hid hac
   have HB:=hid hblk
   have HREP:=hid hrep
   have hFr:=hG.lt
   clear hG hx hac hblk hcell hfl hrep k0 k1 k2
   have c0:=(HB.out.cell _).trans K0.out
   have c1:=(HB.out.cell _).trans K1.out
   go_wp2_with fail
   have HD:Hid (FrF F wr wr.drew):=hid (FrF.of (Fr.refl [] wr).drew (by simp))
   have HGd:Hid (Got F B off w wr.drew ac):=hid (HG0.out.drew)
   have HBd:Hid (Blk wr.drew g 131 cur):=hid HB.out
   go_region_with (go_at_call 31;refine((HGd.out.alloc _).text (StrV.new (l:=[t.param,t.trait]) (by exact hFr) (by rfl) (by rfl)) (by (try simp only[List.length_append,nF_len]);omega)).mono ?_;rintro e w1 ⟨hG1,hF1,rfl⟩;have HF1:=hid ((HD.out.alloc (.cells #[.string ⟨t.param.toArray⟩,.string ⟨t.trait.toArray⟩] 9)).trans hF1);have HG1:=hid hG1;have HB_1:=hid (HF1.out.keep HB.out (by decide) hgF);have hl_HB_1:=HB_1.out.lt;have c2:=(HB_1.out.cell _).trans K2.out;clear hG1 hF1 c0 c1 HGd HBd)
   all_goals
    go_wp2_with fail
    refine(HG1.out.at t.off (by (try simp only[List.length_append,nF_len]);omega)).mono ?_
    rintro e w2 ⟨hG2,hF2,rfl⟩
    have HF2:=hid (HF1.out.trans hF2)
    have HG2:=hid hG2
    have HB_2:=hid (HF2.out.keep HB.out (by decide) hgF)
    have hl_HB_2:=HB_2.out.lt
    clear hG2 hF2 c2 hl_HB_1
    go_wp2_with fail
    go_roundw
    case rel=>exact⟨i+1,by go_num,by omega,by rw[fl_take _ HX.out,← List.append_assoc,← HAC.out];simpa only [gB,List.append_assoc] using HG2.out⟩
    case measure=>simp[RowKit.intOf];omega
  ·obtain rfl:i=l.length:=by omega
   have hd:decide ((l.length:Int)<(l.length:Int))=false:=by simp
   have HG:=hid hG
   clear hG
   go_wp2_with fail
   first|go_end0|refine bodyPost_ret (results_none rfl _ _ _) rfl ?_
   have e:=HG.out
   rw[List.take_length,List.append_assoc,← boundsF_fl] at e
   exact⟨⟨e.1,H0.out.trans e.2⟩,e.2,rfl⟩
set_option maxRecDepth 100000 in
set_option maxHeartbeats 1600000 in
theorem Got.args {F B:Nat} {off:Bool} {w0 w:World} {acc:List Fact} {sv:Value} {l:List ArgD} (h:Got F B off w0 w acc) (hs:AgsV w F l sv) (hlen:acc.length+(argsF off l).length≤900000) :
  Calls Tryz.prog 70 #[.pointer (some ⟨F,0,none⟩),sv] w fun e w'=>Got F B off w0 w' (acc ++ argsF off l)∧FrF F w w'∧e=.returned (.tuple #[]):=by
 obtain⟨ps,cs,rfl⟩:=hs.shape
 rw[argsF_fl,List.length_append,nF_len] at hlen
 have H0:=hid h.2
 have H:Hid (Got F B off w w acc):=hid ⟨h.1,FrF.refl _ _⟩
 have HS:=hid hs
 have hFw:=h.lt
 clear h hs
 go_enter Tryz.func70,Tryz.ntmps70
 go_wp2_with fail
 refine((H.out.alloc _).number (n:=l.length) (by exact Blk.new _ _ _) (by omega) (by omega)).mono ?_
 rintro e w1 ⟨hG1,hF1,rfl⟩
 have HG1:=hid hG1
 clear hG1 hF1
 go_wp2_with fail
 go_loopw [4] (fun vi wr=>∃ i:Nat,vi=.int .i64 i∧i≤l.length∧Got F B off w wr ((acc ++ nF l.length) ++ (l.take i).flatMap (gA off))) (fun vi _=>l.length - (RowKit.intOf vi).toNat)
 case atStart=>exact⟨0,rfl,by omega,by simpa using HG1.out⟩
 case round =>
  obtain⟨i,rfl,hi,hG⟩:=hrel
  by_cases hlt:i<l.length
  ·obtain⟨t,hx⟩:∃ x,l[i]?=some x:=⟨l[i],List.getElem?_eq_getElem hlt⟩
   obtain⟨g,cap,cur,ds,e,hblk,hgF,hcap,hmax,hrep,hcell⟩:=(HS.out.keep hG.2).at len_argQ hx
   simp only[Value.slice.injEq] at e
   obtain⟨rfl,_,rfl⟩:=e
   obtain⟨s0,p0,n0,c0v,o0,rfl,hrt⟩:=arg_full hrep
   have HRT:=hid hrt
   clear hrt
   have hml:=hmax
   unfold maxLen at hml
   have k0:=hcell 0 (by omega)
   have k1:=hcell 1 (by omega)
   have k2:=hcell 2 (by omega)
   have k3:=hcell 3 (by omega)
   have k4:=hcell 4 (by omega)
   have k5:=hcell 5 (by omega)
   simp only[List.getElem?_cons_succ,List.getElem?_cons_zero,Nat.add_zero] at k0 k1 k2 k3 k4 k5
   have K0:=hid k0
   have K1:=hid k1
   have K2:=hid k2
   have K3:=hid k3
   have K4:=hid k4
   have K5:=hid k5
   have hgl:=hblk.lt
   have hfl:=fl_len (gA off) hx
   obtain⟨ac,hac⟩:∃ ac,ac=(acc ++ nF l.length) ++ (l.take i).flatMap (gA off):=⟨_,rfl⟩
   have hal:ac.length+(gA off t).length≤900000:=by rw[hac];simp only[List.length_append,nF_len] at hfl ⊢;omega
   simp only[gA,List.length_append,nF_len] at hal
   rw[← hac] at hG
   have hd:decide ((i:Int)<(l.length:Int))=true:=by simp;omega
   have hd':decide (i<l.length)=true:=by simp;omega
   have hdI:(i:Int)<(l.length:Int):=by omega
   have HG0:=hid hG
   have HX:=hid hx
   have HAC:=hid hac
   have HB:=hid hblk
   have HREP:=hid hrep
   have hFr:=hG.lt
   clear hG hx hac hblk hcell hfl hrep k0 k1 k2 k3 k4 k5
   have c0:=(HB.out.cell _).trans K0.out
   go_wp2_with fail
   refine((HG0.out.alloc _).text (StrV.new (l:=[t.name]) (by exact hFr) (by rfl) (by rfl)) (by (try simp only[List.length_append,nF_len]);omega)).mono ?_
   rintro e w1 ⟨hG1,hF1,rfl⟩
   have HF1:=hid (((FrF.refl _ wr).alloc (.cells #[.string ⟨t.name.toArray⟩] 9)).trans hF1)
   have HG1:=hid hG1
   have HB_1:=hid (HF1.out.keep HB.out (by decide) hgF)
   have hl_HB_1:=HB_1.out.lt
   clear hG1 hF1 c0
   have c1:=(HB_1.out.cell _).trans K1.out
   have c2:=(HB_1.out.cell _).trans K2.out
   have c3:=(HB_1.out.cell _).trans K3.out
   go_wp2_with fail
   refine((HG1.out.alloc _).types (TysV.one (t:=t.type) HG1.out.lt (HRT.out.keepF HF1.out (no_type fact_ne.2.1 _))) (by (try simp only[List.length_append,nF_len]);omega)).mono ?_
   rintro e w2 ⟨hG2,hF2,rfl⟩
   have HF2:=hid ((HF1.out.alloc (.cells #[.string s0,.slice p0 n0 c0v,.int .i64 o0] 39)).trans hF2)
   have HG2:=hid hG2
   have HB_2:=hid (HF2.out.keep HB.out (by decide) hgF)
   have hl_HB_2:=HB_2.out.lt
   clear hG2 hF2 c1 c2 c3 hl_HB_1
   have c4:=(HB_2.out.cell _).trans K4.out
   go_wp2_with fail
   refine((HG2.out.alloc _).number (by exact Blk.new _ _ _) (by have:=HG2.out.lt;omega) (by (try simp only[List.length_append,nF_len]);omega)).mono ?_
   rintro e w3 ⟨hG3,hF3,rfl⟩
   have HF3:=hid ((HF2.out.alloc (.cells #[.int .i64 t.capture] 3)).trans hF3)
   have HG3:=hid hG3
   have HB_3:=hid (HF3.out.keep HB.out (by decide) hgF)
   have hl_HB_3:=HB_3.out.lt
   clear hG3 hF3 c4 hl_HB_2
   have c5:=(HB_3.out.cell _).trans K5.out
   go_wp2_with fail
   refine(HG3.out.at t.off (by (try simp only[List.length_append,nF_len]);omega)).mono ?_
   rintro e w4 ⟨hG4,hF4,rfl⟩
   have HF4:=hid (HF3.out.trans hF4)
   have HG4:=hid hG4
   have HB_4:=hid (HF4.out.keep HB.out (by decide) hgF)
   have hl_HB_4:=HB_4.out.lt
   clear hG4 hF4 c5 hl_HB_3
   go_wp2_with fail
   go_roundw
   case rel=>exact⟨i+1,by go_num,by omega,by rw[fl_take _ HX.out,← List.append_assoc,← HAC.out];simpa only [gA,List.append_assoc] using HG4.out⟩
   case measure=>simp[RowKit.intOf];omega
  ·obtain rfl:i=l.length:=by omega
   have hd:decide ((l.length:Int)<(l.length:Int))=false:=by simp
   have HG:=hid hG
   clear hG
   go_wp2_with fail
   first|go_end0|refine bodyPost_ret (results_none rfl _ _ _) rfl ?_
   have e:=HG.out
   rw[List.take_length,List.append_assoc,← argsF_fl] at e
   exact⟨⟨e.1,H0.out.trans e.2⟩,e.2,rfl⟩
def stsF (off:Bool) (l:List StmtD):List Fact:=nF l.length ++ l.flatMap (fS off)
def fnsF (off:Bool) (l:List FuncD):List Fact:=nF l.length ++ l.flatMap (fF off)
theorem fSs_fl (off:Bool):∀ l:List StmtD,fSs off l=l.flatMap (fS off)
 | []=>by rw[fSs];rfl
 | t :: r=>by rw[fSs,fSs_fl off r,List.flatMap_cons]
theorem fMs_fl (off:Bool):∀ l:List ArmD,fMs off l=l.flatMap (fM off)
 | []=>by rw[fMs];rfl
 | t :: r=>by rw[fMs,fMs_fl off r,List.flatMap_cons]
theorem fFs_fl (off:Bool):∀ l:List FuncD,fFs off l=l.flatMap (fF off)
 | []=>by rw[fFs];rfl
 | t :: r=>by rw[fFs,fFs_fl off r,List.flatMap_cons]
theorem stsF_fl (off:Bool) (l:List StmtD):stsF off l=nF l.length ++ l.flatMap (fS off):=rfl
theorem fnsF_fl (off:Bool) (l:List FuncD):fnsF off l=nF l.length ++ l.flatMap (fF off):=rfl
theorem fS_mk (off:Bool) (k:Nat) (x:Txt) (l:List Txt) (t:List TyE) (e:ExprD) (th el:List StmtD) (ar:List ArmD) (fn:List FuncD) (o:Nat) :
  fS off (.mk k x l t e th el ar fn o)=(nF k ++ (nF e.kind ++ nF e.num)) ++ (tF [x,e.op,e.name,e.variant] ++ (tF l ++ (tF e.names ++ (typesF off t ++ (typesF off e.type ++ (stsF off th ++ (stsF off el ++ (nF ar.length ++ (ar.flatMap (fM off) ++ (fnsF off fn ++ (oF off o ++ oF off e.off))))))))))):=by
 rw[fS,fSs_fl,fSs_fl,fMs_fl,fFs_fl];simp only[stsF,fnsF,List.append_assoc]
theorem fM_mk (off:Bool) (x:Txt) (l:List Txt) (b:List StmtD) (o:Nat):fM off (.mk x l b o)=tF [x] ++ (tF l ++ (stsF off b ++ oF off o)):=by
 rw[fM,fSs_fl];simp only[stsF,List.append_assoc]
theorem fF_mk (off:Bool) (x:Txt) (p:List Txt) (bs:List BoundD) (c a:List ArgD) (t:TyE) (b:List StmtD) (o:Nat) :
  fF off (.mk x p bs c a t b o)=tF [x] ++ (tF p ++ (boundsF off bs ++ (argsF off c ++ (argsF off a ++ (typesF off [t] ++ (stsF off b ++ oF off o)))))):=by
 rw[fF,fSs_fl];simp only[stsF,List.append_assoc]
def StsC (F B:Nat) (off:Bool) (l:List StmtD):Prop:=∀ (w0 w:World) (acc:List Fact) (sv:Value),Got F B off w0 w acc→StsV w F l sv→acc.length+(stsF off l).length≤900000 →
 Calls Tryz.prog 71 #[.pointer (some ⟨F,0,none⟩),sv] w fun e w'=>Got F B off w0 w' (acc ++ stsF off l)∧FrF F w w'∧e=.returned (.tuple #[])
def FnsC (F B:Nat) (off:Bool) (l:List FuncD):Prop:=∀ (w0 w:World) (acc:List Fact) (sv:Value),Got F B off w0 w acc→FnsV w F l sv→acc.length+(fnsF off l).length≤900000 →
 Calls Tryz.prog 36 #[.pointer (some ⟨F,0,none⟩),sv] w fun e w'=>Got F B off w0 w' (acc ++ fnsF off l)∧FrF F w w'∧e=.returned (.tuple #[])
theorem size_fn {l:List FuncD} {i:Nat} {x:Txt} {p:List Txt} {bs:List BoundD} {c a:List ArgD} {t:TyE} {b:List StmtD} {o:Nat} (h:l[i]?=some (.mk x p bs c a t b o)):SizeOf.sizeOf b<SizeOf.sizeOf l:=by
 have h1:=List.sizeOf_lt_of_mem (List.mem_of_getElem? h)
 rw[FuncD.mk.sizeOf_spec] at h1
 omega
theorem size_st {l:List StmtD} {i:Nat} {k:Nat} {x:Txt} {n:List Txt} {t:List TyE} {e:ExprD} {th el:List StmtD} {ar:List ArmD} {fn:List FuncD} {o:Nat} (h:l[i]?=some (.mk k x n t e th el ar fn o)) :
  SizeOf.sizeOf th<SizeOf.sizeOf l∧SizeOf.sizeOf el<SizeOf.sizeOf l∧SizeOf.sizeOf ar<SizeOf.sizeOf l∧SizeOf.sizeOf fn<SizeOf.sizeOf l:=by
 have h1:=List.sizeOf_lt_of_mem (List.mem_of_getElem? h)
 rw[StmtD.mk.sizeOf_spec] at h1
 omega
theorem size_am {l:List ArmD} {i:Nat} {x:Txt} {n:List Txt} {b:List StmtD} {o:Nat} (h:l[i]?=some (.mk x n b o)):SizeOf.sizeOf b<SizeOf.sizeOf l:=by
 have h1:=List.sizeOf_lt_of_mem (List.mem_of_getElem? h)
 rw[ArmD.mk.sizeOf_spec] at h1
 omega
set_option maxRecDepth 100000 in
set_option maxHeartbeats 1600000 in
theorem fns_step {F B:Nat} {off:Bool} (m:Nat) (ihS:∀ l,SizeOf.sizeOf l<m→StsC F B off l) (l:List FuncD) (hm:SizeOf.sizeOf l<m+1):FnsC F B off l:=by
 intro w0 w acc sv h hs hlen
 obtain⟨ps,cs,rfl⟩:=hs.shape
 rw[fnsF_fl,List.length_append,nF_len] at hlen
 have H0:=hid h.2
 have H:Hid (Got F B off w w acc):=hid ⟨h.1,FrF.refl _ _⟩
 have HS:=hid hs
 have hFw:=h.lt
 clear h hs
 go_enter Tryz.func36,Tryz.ntmps36
 go_wp2_with fail
 refine((H.out.alloc _).number (n:=l.length) (by exact Blk.new _ _ _) (by omega) (by omega)).mono ?_
 rintro e w1 ⟨hG1,hF1,rfl⟩
 have HG1:=hid hG1
 clear hG1 hF1
 go_wp2_with fail
 go_loopw [4] (fun vi wr=>∃ i:Nat,vi=.int .i64 i∧i≤l.length∧Got F B off w wr ((acc ++ nF l.length) ++ (l.take i).flatMap (fF off))) (fun vi _=>l.length - (RowKit.intOf vi).toNat)
 case atStart=>exact⟨0,rfl,by omega,by simpa using HG1.out⟩
 case round =>
  obtain⟨i,rfl,hi,hG⟩:=hrel
  by_cases hlt:i<l.length
  ·obtain⟨t,hx⟩:∃ x,l[i]?=some x:=⟨l[i],List.getElem?_eq_getElem hlt⟩
   obtain⟨g,cap,cur,ds,e,hblk,hgF,hcap,hmax,hrep,hcell⟩:=(HS.out.keep hG.2).at len_funcQ hx
   simp only[Value.slice.injEq] at e
   obtain⟨rfl,_,rfl⟩:=e
   obtain⟨x,p,bs,c,a,tt,b,o,rfl⟩:∃ x p bs c a tt b o,t=FuncD.mk x p bs c a tt b o:=by cases t;exact⟨_,_,_,_,_,_,_,_,rfl⟩
   obtain⟨p1,c1v,p2,c2v,p3,c3v,p4,c4v,ts,tp,tn,tc,to',p6,c6v,rfl,hT,hP,hBS,hC,hA,hSB⟩:=func_full hrep
   have hsz:=size_fn hx
   have HT:=hid hT
   have HP:=hid hP
   have HBS:=hid hBS
   have HC:=hid hC
   have HA:=hid hA
   have HSB:=hid hSB
   clear hT hP hBS hC hA hSB
   have hml:=hmax
   unfold maxLen at hml
   have k0:=hcell 0 (by omega)
   have k1:=hcell 1 (by omega)
   have k2:=hcell 2 (by omega)
   have k3:=hcell 3 (by omega)
   have k4:=hcell 4 (by omega)
   have k5:=hcell 5 (by omega)
   have k6:=hcell 6 (by omega)
   have k7:=hcell 7 (by omega)
   have k8:=hcell 8 (by omega)
   have k9:=hcell 9 (by omega)
   simp only[fcells,List.getElem?_cons_succ,List.getElem?_cons_zero,Nat.add_zero] at k0 k1 k2 k3 k4 k5 k6 k7 k8 k9
   have K0:=hid k0
   have K1:=hid k1
   have K2:=hid k2
   have K3:=hid k3
   have K4:=hid k4
   have K5:=hid k5
   have K6:=hid k6
   have K7:=hid k7
   have K8:=hid k8
   have K9:=hid k9
   have hgl:=hblk.lt
   have hfl:=fl_len (fF off) hx
   obtain⟨ac,hac⟩:∃ ac,ac=(acc ++ nF l.length) ++ (l.take i).flatMap (fF off):=⟨_,rfl⟩
   have hal:ac.length+(fF off (.mk x p bs c a tt b o)).length≤900000:=by rw[hac];simp only[List.length_append,nF_len] at hfl ⊢;omega
   simp only[fF_mk,List.length_append,nF_len] at hal
   rw[← hac] at hG
   have hd:decide ((i:Int)<(l.length:Int))=true:=by simp;omega
   have hd':decide (i<l.length)=true:=by simp;omega
   have hdI:(i:Int)<(l.length:Int):=by omega
   have HG0:=hid hG
   have HX:=hid hx
   have HAC:=hid hac
   have HB:=hid hblk
   have HREP:=hid hrep
   have hFr:=hG.lt
   clear hG hx hac hblk hcell hfl hrep k0 k1 k2 k3 k4 k5 k6 k7 k8 k9
   have c0:=(HB.out.cell _).trans K0.out
   go_wp2_with fail
   refine((HG0.out.alloc _).text (StrV.new (l:=[x]) (by exact hFr) (by rfl) (by rfl)) (by (try simp only[List.length_append,nF_len]);omega)).mono ?_
   rintro e w1 ⟨hG1,hF1,rfl⟩
   have HF1:=hid (((FrF.refl _ wr).alloc (.cells #[.string ⟨x.toArray⟩] 9)).trans hF1)
   have HG1:=hid hG1
   have HB_1:=hid (HF1.out.keep HB.out (by decide) hgF)
   have hl_HB_1:=HB_1.out.lt
   clear hG1 hF1 c0
   have c1:=(HB_1.out.cell _).trans K1.out
   go_wp2_with fail
   refine(HG1.out.text (HP.out.keep HF1.out) (by (try simp only[List.length_append,nF_len]);omega)).mono ?_
   rintro e w2 ⟨hG2,hF2,rfl⟩
   have HF2:=hid (HF1.out.trans hF2)
   have HG2:=hid hG2
   have HB_2:=hid (HF2.out.keep HB.out (by decide) hgF)
   have hl_HB_2:=HB_2.out.lt
   clear hG2 hF2 c1 hl_HB_1
   have c2:=(HB_2.out.cell _).trans K2.out
   go_wp2_with fail
   refine(HG2.out.bounds (HBS.out.keep HF2.out) (by (try simp only[List.length_append,nF_len]);omega)).mono ?_
   rintro e w3 ⟨hG3,hF3,rfl⟩
   have HF3:=hid (HF2.out.trans hF3)
   have HG3:=hid hG3
   have HB_3:=hid (HF3.out.keep HB.out (by decide) hgF)
   have hl_HB_3:=HB_3.out.lt
   clear hG3 hF3 c2 hl_HB_2
   have c3:=(HB_3.out.cell _).trans K3.out
   go_wp2_with fail
   refine(HG3.out.args (HC.out.keep HF3.out) (by (try simp only[List.length_append,nF_len]);omega)).mono ?_
   rintro e w4 ⟨hG4,hF4,rfl⟩
   have HF4:=hid (HF3.out.trans hF4)
   have HG4:=hid hG4
   have HB_4:=hid (HF4.out.keep HB.out (by decide) hgF)
   have hl_HB_4:=HB_4.out.lt
   clear hG4 hF4 c3 hl_HB_3
   have c4:=(HB_4.out.cell _).trans K4.out
   go_wp2_with fail
   refine(HG4.out.args (HA.out.keep HF4.out) (by (try simp only[List.length_append,nF_len]);omega)).mono ?_
   rintro e w5 ⟨hG5,hF5,rfl⟩
   have HF5:=hid (HF4.out.trans hF5)
   have HG5:=hid hG5
   have HB_5:=hid (HF5.out.keep HB.out (by decide) hgF)
   have hl_HB_5:=HB_5.out.lt
   clear hG5 hF5 c4 hl_HB_4
   have c5:=(HB_5.out.cell _).trans K5.out
   have c6:=(HB_5.out.cell _).trans K6.out
   have c7:=(HB_5.out.cell _).trans K7.out
   go_wp2_with fail
   refine((HG5.out.alloc _).types (TysV.one (t:=tt) HG5.out.lt (HT.out.keepF HF5.out (no_type fact_ne.2.1 _))) (by (try simp only[List.length_append,nF_len]);omega)).mono ?_
   rintro e w6 ⟨hG6,hF6,rfl⟩
   have HF6:=hid ((HF5.out.alloc (.cells #[.string ts,.slice tp tn tc,.int .i64 to'] 39)).trans hF6)
   have HG6:=hid hG6
   have HB_6:=hid (HF6.out.keep HB.out (by decide) hgF)
   have hl_HB_6:=HB_6.out.lt
   clear hG6 hF6 c5 c6 c7 hl_HB_5
   have c8:=(HB_6.out.cell _).trans K8.out
   go_wp2_with fail
   refine(ihS b (by omega) _ _ _ _ HG6.out (HSB.out.keep HF6.out) (by (try simp only[List.length_append,nF_len]);omega)).mono ?_
   rintro e w7 ⟨hG7,hF7,rfl⟩
   have HF7:=hid (HF6.out.trans hF7)
   have HG7:=hid hG7
   have HB_7:=hid (HF7.out.keep HB.out (by decide) hgF)
   have hl_HB_7:=HB_7.out.lt
   clear hG7 hF7 c8 hl_HB_6
   have c9:=(HB_7.out.cell _).trans K9.out
   go_wp2_with fail
   refine(HG7.out.at o (by (try simp only[List.length_append,nF_len]);omega)).mono ?_
   rintro e w8 ⟨hG8,hF8,rfl⟩
   have HF8:=hid (HF7.out.trans hF8)
   have HG8:=hid hG8
   have HB_8:=hid (HF8.out.keep HB.out (by decide) hgF)
   have hl_HB_8:=HB_8.out.lt
   clear hG8 hF8 c9 hl_HB_7
   go_wp2_with fail
   go_roundw
   case rel=>exact⟨i+1,by go_num,by omega,by rw[fl_take _ HX.out,← List.append_assoc,← HAC.out];simpa only [fF_mk,List.append_assoc] using HG8.out⟩
   case measure=>simp[RowKit.intOf];omega
  ·obtain rfl:i=l.length:=by omega
   have hd:decide ((l.length:Int)<(l.length:Int))=false:=by simp
   have HG:=hid hG
   clear hG
   go_wp2_with fail
   first|go_end0|refine bodyPost_ret (results_none rfl _ _ _) rfl ?_
   have e:=HG.out
   rw[List.take_length,List.append_assoc,← fnsF_fl] at e
   exact⟨⟨e.1,H0.out.trans e.2⟩,e.2,rfl⟩
set_option maxRecDepth 100000 in
set_option maxHeartbeats 3200000 in
theorem sts_step {F B:Nat} {off:Bool} (m:Nat) (ihS:∀ l,SizeOf.sizeOf l<m→StsC F B off l) (ihF:∀ l,SizeOf.sizeOf l<m→FnsC F B off l) (l:List StmtD) (hm:SizeOf.sizeOf l<m+1):StsC F B off l:=by
 intro w0 w acc sv h hs hlen
 obtain⟨ps,cs,rfl⟩:=hs.shape
 rw[stsF_fl,List.length_append,nF_len] at hlen
 have H0:=hid h.2
 have H:Hid (Got F B off w w acc):=hid ⟨h.1,FrF.refl _ _⟩
 have HS:=hid hs
 have hFw:=h.lt
 clear h hs
 go_enter Tryz.func71,Tryz.ntmps71
 go_wp2_with fail
 refine((H.out.alloc _).number (n:=l.length) (by exact Blk.new _ _ _) (by omega) (by omega)).mono ?_
 rintro e w1 ⟨hG1,hF1,rfl⟩
 have HG1:=hid hG1
 clear hG1 hF1
 go_wp2_with fail
 go_loopw [4] (fun vi wr=>∃ i:Nat,vi=.int .i64 i∧i≤l.length∧Got F B off w wr ((acc ++ nF l.length) ++ (l.take i).flatMap (fS off))) (fun vi _=>l.length - (RowKit.intOf vi).toNat)
 case atStart=>exact⟨0,rfl,by omega,by simpa using HG1.out⟩
 case round =>
  obtain⟨i,rfl,hi,hG⟩:=hrel
  by_cases hlt:i<l.length
  ·obtain⟨t,hx⟩:∃ x,l[i]?=some x:=⟨l[i],List.getElem?_eq_getElem hlt⟩
   obtain⟨g,cap,cur,ds,e,hblk,hgF,hcap,hmax,hrep,hcell⟩:=(HS.out.keep hG.2).at len_stmtQ hx
   simp only[Value.slice.injEq] at e
   obtain⟨rfl,_,rfl⟩:=e
   obtain⟨k,x,nm,ty,ex,th,el,ar,fn,o,rfl⟩:∃ k x nm ty ex th el ar fn o,t=StmtD.mk k x nm ty ex th el ar fn o:=by cases t;exact⟨_,_,_,_,_,_,_,_,_,_,rfl⟩
   obtain⟨p1,c1v,p2,c2v,p3,c3v,p4,c4v,p5,c5v,p6,c6v,p7,c7v,p8,c8v,rfl,h1,h2,h3,h4,h5,h6,h7,h8⟩:=stmt_full hrep
   obtain⟨z1,z2,z3,z4⟩:=size_st hx
   have hml:=hmax
   unfold maxLen at hml
   have k0:=(hblk.cell _).trans (hcell 0 (by omega))
   have k1:=(hblk.cell _).trans (hcell 1 (by omega))
   have k2:=(hblk.cell _).trans (hcell 2 (by omega))
   have k3:=(hblk.cell _).trans (hcell 3 (by omega))
   have k4:=(hblk.cell _).trans (hcell 4 (by omega))
   have k5:=(hblk.cell _).trans (hcell 5 (by omega))
   have k6:=(hblk.cell _).trans (hcell 6 (by omega))
   have k7:=(hblk.cell _).trans (hcell 7 (by omega))
   have k8:=(hblk.cell _).trans (hcell 8 (by omega))
   have k9:=(hblk.cell _).trans (hcell 9 (by omega))
   have k10:=(hblk.cell _).trans (hcell 10 (by omega))
   have k11:=(hblk.cell _).trans (hcell 11 (by omega))
   have k12:=(hblk.cell _).trans (hcell 12 (by omega))
   have k13:=(hblk.cell _).trans (hcell 13 (by omega))
   have k14:=(hblk.cell _).trans (hcell 14 (by omega))
   have k15:=(hblk.cell _).trans (hcell 15 (by omega))
   have k16:=(hblk.cell _).trans (hcell 16 (by omega))
   simp only[scells,List.getElem?_cons_succ,List.getElem?_cons_zero,Nat.add_zero] at k0 k1 k2 k3 k4 k5 k6 k7 k8 k9 k10 k11 k12 k13 k14 k15 k16
   have hgl:=hblk.lt
   have hfl:=fl_len (fS off) hx
   obtain⟨ac,hac⟩:∃ ac,ac=(acc ++ nF l.length) ++ (l.take i).flatMap (fS off):=⟨_,rfl⟩
   have hal:ac.length+(fS off (.mk k x nm ty ex th el ar fn o)).length≤900000:=by rw[hac];simp only[List.length_append,nF_len] at hfl ⊢;omega
   simp only[fS_mk,List.length_append,nF_len] at hal
   rw[← hac] at hG
   have hd:decide ((i:Int)<(l.length:Int))=true:=by simp;omega
   have hd':decide (i<l.length)=true:=by simp;omega
   have hdI:(i:Int)<(l.length:Int):=by omega
   have hFr:=hG.lt
   have HGq:Hid (Got F B off w (wr.alloc (.cells #[.int .i64 k,.string ⟨x.toArray⟩,.slice p1 nm.length c1v,.slice p2 ty.length c2v,.int .i64 ex.kind,.string ⟨ex.op.toArray⟩,.string ⟨ex.name.toArray⟩,.string ⟨ex.variant.toArray⟩,.slice p3 ex.names.length c3v,.int .i64 ex.num,.slice p4 ex.type.length c4v,.int .i64 ex.off,.slice p5 th.length c5v,.slice p6 el.length c6v,.slice p7 ar.length c7v,.slice p8 fn.length c8v,.int .i64 o] 52)) ac):=hid (hG.alloc _)
   have HFq:Hid (FrF F wr (wr.alloc (.cells #[.int .i64 k,.string ⟨x.toArray⟩,.slice p1 nm.length c1v,.slice p2 ty.length c2v,.int .i64 ex.kind,.string ⟨ex.op.toArray⟩,.string ⟨ex.name.toArray⟩,.string ⟨ex.variant.toArray⟩,.slice p3 ex.names.length c3v,.int .i64 ex.num,.slice p4 ex.type.length c4v,.int .i64 ex.off,.slice p5 th.length c5v,.slice p6 el.length c6v,.slice p7 ar.length c7v,.slice p8 fn.length c8v,.int .i64 o] 52))):=hid ((FrF.refl F wr).alloc _)
   have HQ:Hid (Blk (wr.alloc (.cells #[.int .i64 k,.string ⟨x.toArray⟩,.slice p1 nm.length c1v,.slice p2 ty.length c2v,.int .i64 ex.kind,.string ⟨ex.op.toArray⟩,.string ⟨ex.name.toArray⟩,.string ⟨ex.variant.toArray⟩,.slice p3 ex.names.length c3v,.int .i64 ex.num,.slice p4 ex.type.length c4v,.int .i64 ex.off,.slice p5 th.length c5v,.slice p6 el.length c6v,.slice p7 ar.length c7v,.slice p8 fn.length c8v,.int .i64 o] 52)) wr.heap.size 52 #[.int .i64 k,.string ⟨x.toArray⟩,.slice p1 nm.length c1v,.slice p2 ty.length c2v,.int .i64 ex.kind,.string ⟨ex.op.toArray⟩,.string ⟨ex.name.toArray⟩,.string ⟨ex.variant.toArray⟩,.slice p3 ex.names.length c3v,.int .i64 ex.num,.slice p4 ex.type.length c4v,.int .i64 ex.off,.slice p5 th.length c5v,.slice p6 el.length c6v,.slice p7 ar.length c7v,.slice p8 fn.length c8v,.int .i64 o]):=hid (Blk.new _ _ _)
   have hqz:(wr.alloc (.cells #[.int .i64 k,.string ⟨x.toArray⟩,.slice p1 nm.length c1v,.slice p2 ty.length c2v,.int .i64 ex.kind,.string ⟨ex.op.toArray⟩,.string ⟨ex.name.toArray⟩,.string ⟨ex.variant.toArray⟩,.slice p3 ex.names.length c3v,.int .i64 ex.num,.slice p4 ex.type.length c4v,.int .i64 ex.off,.slice p5 th.length c5v,.slice p6 el.length c6v,.slice p7 ar.length c7v,.slice p8 fn.length c8v,.int .i64 o] 52)).heap.size=wr.heap.size+1:=by simp
   have R1:=hid (h1.keep HFq.out)
   have R2:=hid (h2.keep HFq.out)
   have R3:=hid (h3.keep HFq.out)
   have R4:=hid (h4.keep HFq.out)
   have R5:=hid (h5.keep HFq.out)
   have R6:=hid (h6.keep HFq.out)
   have R7:=hid (h7.keep HFq.out)
   have R8:=hid (h8.keep HFq.out)
   have HX:=hid hx
   have HAC:=hid hac
   clear hG hx hac hblk hcell hfl hrep h1 h2 h3 h4 h5 h6 h7 h8
   go_wp2_with fail
   obtain⟨wq,hwq⟩:∃ wq,wq=wr.alloc (.cells #[.int .i64 k,.string ⟨x.toArray⟩,.slice p1 nm.length c1v,.slice p2 ty.length c2v,.int .i64 ex.kind,.string ⟨ex.op.toArray⟩,.string ⟨ex.name.toArray⟩,.string ⟨ex.variant.toArray⟩,.slice p3 ex.names.length c3v,.int .i64 ex.num,.slice p4 ex.type.length c4v,.int .i64 ex.off,.slice p5 th.length c5v,.slice p6 el.length c6v,.slice p7 ar.length c7v,.slice p8 fn.length c8v,.int .i64 o] 52):=⟨_,rfl⟩
   obtain⟨b,hb⟩:∃ b,b=wr.heap.size:=⟨_,rfl⟩
   rw[← hwq] at HGq HFq HQ hqz R1 R2 R3 R4 R5 R6 R7 R8
   rw[← hb] at HQ hqz hFr
   have hbF:b≠F:=by omega
   try rw[← hwq]
   try rw[← hb]
   try rw[← hqz]
   clear hwq hb hgl k0 k1 k2 k3 k4 k5 k6 k7 k8 k9 k10 k11 k12 k13 k14 k15 k16
   have hFq:=HGq.out.lt
   refine((HGq.out.alloc _).number3 (n:=k) (m:=ex.kind) (k:=ex.num) (by exact Blk.new _ _ _) (by omega) (by (try simp only[List.length_append,nF_len]);omega)).mono ?_
   rintro e w1 ⟨hG1,hF1,rfl⟩
   have HF1:=hid (((FrF.refl _ wq).alloc (.cells #[.int .i64 k,.int .i64 ex.kind,.int .i64 ex.num] 3)).trans hF1)
   have HG1:=hid hG1
   have HQ_1:=hid (HF1.out.keep HQ.out farF.h5 hbF)
   have hl_HQ_1:=HQ_1.out.lt
   clear hG1 hF1 
   have q1:=(HQ_1.out.cell 1:w1.cell? ⟨b,1,none⟩=some (.string ⟨x.toArray⟩))
   have q5:=(HQ_1.out.cell 5:w1.cell? ⟨b,5,none⟩=some (.string ⟨ex.op.toArray⟩))
   have q6:=(HQ_1.out.cell 6:w1.cell? ⟨b,6,none⟩=some (.string ⟨ex.name.toArray⟩))
   have q7:=(HQ_1.out.cell 7:w1.cell? ⟨b,7,none⟩=some (.string ⟨ex.variant.toArray⟩))
   go_wp2_with fail
   refine((HG1.out.alloc _).text (StrV.new (l:=[x,ex.op,ex.name,ex.variant]) (by exact HG1.out.lt) (by rfl) (by rfl)) (by (try simp only[List.length_append,nF_len]);omega)).mono ?_
   rintro e w2 ⟨hG2,hF2,rfl⟩
   have HF2:=hid ((HF1.out.alloc (.cells #[.string ⟨x.toArray⟩,.string ⟨ex.op.toArray⟩,.string ⟨ex.name.toArray⟩,.string ⟨ex.variant.toArray⟩] 9)).trans hF2)
   have HG2:=hid hG2
   have HQ_2:=hid (HF2.out.keep HQ.out farF.h5 hbF)
   have hl_HQ_2:=HQ_2.out.lt
   clear hG2 hF2 q1 q5 q6 q7 hl_HQ_1
   have q2:=(HQ_2.out.cell 2:w2.cell? ⟨b,2,none⟩=some (.slice p1 nm.length c1v))
   go_wp2_with fail
   refine(HG2.out.text (R1.out.keep HF2.out) (by (try simp only[List.length_append,nF_len]);omega)).mono ?_
   rintro e w3 ⟨hG3,hF3,rfl⟩
   have HF3:=hid (HF2.out.trans hF3)
   have HG3:=hid hG3
   have HQ_3:=hid (HF3.out.keep HQ.out farF.h5 hbF)
   have hl_HQ_3:=HQ_3.out.lt
   clear hG3 hF3 q2 hl_HQ_2
   have q8:=(HQ_3.out.cell 8:w3.cell? ⟨b,8,none⟩=some (.slice p3 ex.names.length c3v))
   go_wp2_with fail
   refine(HG3.out.text (R3.out.keep HF3.out) (by (try simp only[List.length_append,nF_len]);omega)).mono ?_
   rintro e w4 ⟨hG4,hF4,rfl⟩
   have HF4:=hid (HF3.out.trans hF4)
   have HG4:=hid hG4
   have HQ_4:=hid (HF4.out.keep HQ.out farF.h5 hbF)
   have hl_HQ_4:=HQ_4.out.lt
   clear hG4 hF4 q8 hl_HQ_3
   have q3:=(HQ_4.out.cell 3:w4.cell? ⟨b,3,none⟩=some (.slice p2 ty.length c2v))
   go_wp2_with fail
   refine(HG4.out.types (R2.out.keep HF4.out) (by (try simp only[List.length_append,nF_len]);omega)).mono ?_
   rintro e w5 ⟨hG5,hF5,rfl⟩
   have HF5:=hid (HF4.out.trans hF5)
   have HG5:=hid hG5
   have HQ_5:=hid (HF5.out.keep HQ.out farF.h5 hbF)
   have hl_HQ_5:=HQ_5.out.lt
   clear hG5 hF5 q3 hl_HQ_4
   have q10:=(HQ_5.out.cell 10:w5.cell? ⟨b,10,none⟩=some (.slice p4 ex.type.length c4v))
   go_wp2_with fail
   refine(HG5.out.types (R4.out.keep HF5.out) (by (try simp only[List.length_append,nF_len]);omega)).mono ?_
   rintro e w6 ⟨hG6,hF6,rfl⟩
   have HF6:=hid (HF5.out.trans hF6)
   have HG6:=hid hG6
   have HQ_6:=hid (HF6.out.keep HQ.out farF.h5 hbF)
   have hl_HQ_6:=HQ_6.out.lt
   clear hG6 hF6 q10 hl_HQ_5
   have q12:=(HQ_6.out.cell 12:w6.cell? ⟨b,12,none⟩=some (.slice p5 th.length c5v))
   go_wp2_with fail
   refine(ihS th (by omega) _ _ _ _ HG6.out (R5.out.keep HF6.out) (by (try simp only[List.length_append,nF_len]);omega)).mono ?_
   rintro e w7 ⟨hG7,hF7,rfl⟩
   have HF7:=hid (HF6.out.trans hF7)
   have HG7:=hid hG7
   have HQ_7:=hid (HF7.out.keep HQ.out farF.h5 hbF)
   have hl_HQ_7:=HQ_7.out.lt
   clear hG7 hF7 q12 hl_HQ_6
   have q13:=(HQ_7.out.cell 13:w7.cell? ⟨b,13,none⟩=some (.slice p6 el.length c6v))
   go_wp2_with fail
   refine(ihS el (by omega) _ _ _ _ HG7.out (R6.out.keep HF7.out) (by (try simp only[List.length_append,nF_len]);omega)).mono ?_
   rintro e w8 ⟨hG8,hF8,rfl⟩
   have HF8:=hid (HF7.out.trans hF8)
   have HG8:=hid hG8
   have HQ_8:=hid (HF8.out.keep HQ.out farF.h5 hbF)
   have hl_HQ_8:=HQ_8.out.lt
   clear hG8 hF8 q13 hl_HQ_7
   have q14:=(HQ_8.out.cell 14:w8.cell? ⟨b,14,none⟩=some (.slice p7 ar.length c7v))
   go_wp2_with fail
   refine((HG8.out.alloc _).number (n:=ar.length) (by exact Blk.new _ _ _) (by have:=HG8.out.lt;omega) (by (try simp only[List.length_append,nF_len]);omega)).mono ?_
   rintro e w9 ⟨hG9,hF9,rfl⟩
   have HF9:=hid ((HF8.out.alloc (.cells #[.int .i64 ar.length] 3)).trans hF9)
   have HG9:=hid hG9
   have HQ_9:=hid (HF9.out.keep HQ.out farF.h5 hbF)
   have hl_HQ_9:=HQ_9.out.lt
   clear hG9 hF9 q14 hl_HQ_8
   go_wp2_with fail
   obtain⟨am,HGa,hame⟩:∃ am,Hid (Got F B off w w9 am)∧am=ac ++ (nF k ++ (nF ex.kind ++ nF ex.num)) ++ tF [x,ex.op,ex.name,ex.variant] ++ tF nm ++ tF ex.names ++ typesF off ty ++ typesF off ex.type ++ stsF off th ++ stsF off el ++ nF ar.length:=⟨_,HG9,rfl⟩
   have hal2:am.length+((ar.flatMap (fM off)).length+((fnsF off fn).length+((oF off o).length+(oF off ex.off).length)))≤900000:=by rw[hame];simp only[List.length_append,nF_len];omega
   have HAM:=hid hame
   clear hame
   go_loopw [6] (fun vj wr=>∃ j:Nat,vj=.int .i64 j∧j≤ar.length∧Got F B off w wr (am ++ (ar.take j).flatMap (fM off))∧FrF F wq wr) (fun vj _=>ar.length - (RowKit.intOf vj).toNat)
   case atStart=>exact⟨0,rfl,by omega,by simpa using HGa.out,HF9.out⟩
   case round =>
    obtain⟨j,rfl,hj,hG,hF⟩:=hrel
    have HQi:=hid (hF.keep HQ.out farF.h5 hbF)
    have q14:=(HQi.out.cell 14:wr.cell? ⟨b,14,none⟩=some (.slice p7 ar.length c7v))
    have hl_HQi:=HQi.out.lt
    by_cases hjl:j<ar.length
    ·obtain⟨u,hy⟩:∃ x,ar[j]?=some x:=⟨ar[j],List.getElem?_eq_getElem hjl⟩
     obtain⟨g2,cap2,cur2,ds2,e2,hblk2,hgF2,hcap2,hmax2,hrep2,hcell2⟩:=(R7.out.keep hF).at len_armQ hy
     simp only[Value.slice.injEq] at e2
     obtain⟨rfl,_,rfl⟩:=e2
     obtain⟨ax,an,ab,ao,rfl⟩:∃ ax an ab ao,u=ArmD.mk ax an ab ao:=by cases u;exact⟨_,_,_,_,rfl⟩
     obtain⟨r1,d1v,r2,d2v,rfl,g1,g2s⟩:=arm_full hrep2
     have zz:=size_am hy
     have hml2:=hmax2
     unfold maxLen at hml2
     have m0:=hcell2 0 (by omega)
     have m1:=hcell2 1 (by omega)
     have m2:=hcell2 2 (by omega)
     have m3:=hcell2 3 (by omega)
     simp only[List.getElem?_cons_succ,List.getElem?_cons_zero,Nat.add_zero] at m0 m1 m2 m3
     have M0:=hid m0
     have M1:=hid m1
     have M2:=hid m2
     have M3:=hid m3
     have hgl2:=hblk2.lt
     have hfl2:=fl_len (fM off) hy
     obtain⟨aj,haj⟩:∃ aj,aj=am ++ (ar.take j).flatMap (fM off):=⟨_,rfl⟩
     have hal3:aj.length+(fM off (.mk ax an ab ao)).length≤900000:=by rw[haj];simp only[List.length_append] at hfl2 ⊢;omega
     simp only[fM_mk,List.length_append,nF_len] at hal3
     rw[← haj] at hG
     have hjd:decide ((j:Int)<(ar.length:Int))=true:=by simp;omega
     have hjd':decide (j<ar.length)=true:=by simp;omega
     have hjI:(j:Int)<(ar.length:Int):=by omega
     have hFi:=hG.lt
     have HGi:=hid hG
     have HFi:=hid hF
     have HY:=hid hy
     have HAJ:=hid haj
     have HB2:=hid hblk2
     have G1:=hid g1
     have G2:=hid g2s
     clear hG hF hy haj hblk2 hcell2 hfl2 hrep2 g1 g2s m0 m1 m2 m3
     have m0:=(HB2.out.cell _).trans M0.out
     go_wp2_with fail
     refine((HGi.out.alloc _).text (StrV.new (l:=[ax]) (by exact hFi) (by rfl) (by rfl)) (by (try simp only[List.length_append,nF_len]);omega)).mono ?_
     rintro e w1 ⟨hG1,hF1,rfl⟩
     have HF1:=hid (((FrF.refl _ wr).alloc (.cells #[.string ⟨ax.toArray⟩] 9)).trans hF1)
     have HG1:=hid hG1
     have HB2_1:=hid (HF1.out.keep HB2.out farF.h6 hgF2)
     have hl_HB2_1:=HB2_1.out.lt
     have HQi_1:=hid (HF1.out.keep HQi.out farF.h5 hbF)
     have hl_HQi_1:=HQi_1.out.lt
     clear hG1 hF1 q14 m0
     have q14:=(HQi_1.out.cell 14:w1.cell? ⟨b,14,none⟩=some (.slice (some ⟨g2,0,none⟩) ar.length c7v))
     have m1:=(HB2_1.out.cell _).trans M1.out
     go_wp2_with fail
     refine(HG1.out.text (G1.out.keep HF1.out) (by (try simp only[List.length_append,nF_len]);omega)).mono ?_
     rintro e w2 ⟨hG2,hF2,rfl⟩
     have HF2:=hid (HF1.out.trans hF2)
     have HG2:=hid hG2
     have HB2_2:=hid (HF2.out.keep HB2.out farF.h6 hgF2)
     have hl_HB2_2:=HB2_2.out.lt
     have HQi_2:=hid (HF2.out.keep HQi.out farF.h5 hbF)
     have hl_HQi_2:=HQi_2.out.lt
     clear hG2 hF2 q14 m1 hl_HB2_1 hl_HQi_1
     have q14:=(HQi_2.out.cell 14:w2.cell? ⟨b,14,none⟩=some (.slice (some ⟨g2,0,none⟩) ar.length c7v))
     have m2:=(HB2_2.out.cell _).trans M2.out
     go_wp2_with fail
     refine(ihS ab (by omega) _ _ _ _ HG2.out (G2.out.keep HF2.out) (by (try simp only[List.length_append,nF_len]);omega)).mono ?_
     rintro e w3 ⟨hG3,hF3,rfl⟩
     have HF3:=hid (HF2.out.trans hF3)
     have HG3:=hid hG3
     have HB2_3:=hid (HF3.out.keep HB2.out farF.h6 hgF2)
     have hl_HB2_3:=HB2_3.out.lt
     have HQi_3:=hid (HF3.out.keep HQi.out farF.h5 hbF)
     have hl_HQi_3:=HQi_3.out.lt
     clear hG3 hF3 q14 m2 hl_HB2_2 hl_HQi_2
     have q14:=(HQi_3.out.cell 14:w3.cell? ⟨b,14,none⟩=some (.slice (some ⟨g2,0,none⟩) ar.length c7v))
     have m3:=(HB2_3.out.cell _).trans M3.out
     go_wp2_with fail
     refine(HG3.out.at ao (by (try simp only[List.length_append,nF_len]);omega)).mono ?_
     rintro e w4 ⟨hG4,hF4,rfl⟩
     have HF4:=hid (HF3.out.trans hF4)
     have HG4:=hid hG4
     have HB2_4:=hid (HF4.out.keep HB2.out farF.h6 hgF2)
     have hl_HB2_4:=HB2_4.out.lt
     have HQi_4:=hid (HF4.out.keep HQi.out farF.h5 hbF)
     have hl_HQi_4:=HQi_4.out.lt
     clear hG4 hF4 q14 m3 hl_HB2_3 hl_HQi_3
     go_wp2_with fail
     go_roundw
     case rel=>exact⟨j+1,by go_num,by omega,by rw[fl_take _ HY.out,← List.append_assoc,← HAJ.out];simpa only [fM_mk,List.append_assoc] using HG4.out,HFi.out.trans HF4.out⟩
     case measure=>simp[RowKit.intOf];omega
    ·obtain rfl:j=ar.length:=by omega
     have hjd:decide ((ar.length:Int)<(ar.length:Int))=false:=by simp
     rw[List.take_length] at hG
     have HGi:=hid hG
     have HFi:=hid hF
     clear hG hF
     have q15:=(HQi.out.cell 15:wr.cell? ⟨b,15,none⟩=some (.slice p8 fn.length c8v))
     go_wp2_with fail
     refine(ihF fn (by omega) _ _ _ _ HGi.out (R8.out.keep HFi.out) (by (try simp only[List.length_append,nF_len]);omega)).mono ?_
     rintro e w21 ⟨hG21,hF21,rfl⟩
     have HF21:=hid (HFi.out.trans hF21)
     have HG21:=hid hG21
     have HQ_21:=hid (HF21.out.keep HQ.out farF.h5 hbF)
     have hl_HQ_21:=HQ_21.out.lt
     clear hG21 hF21 q14 q15 hl_HQi
     have q16:=(HQ_21.out.cell 16:w21.cell? ⟨b,16,none⟩=some (.int .i64 o))
     go_wp2_with fail
     refine(HG21.out.at o (by (try simp only[List.length_append,nF_len]);omega)).mono ?_
     rintro e w22 ⟨hG22,hF22,rfl⟩
     have HF22:=hid (HF21.out.trans hF22)
     have HG22:=hid hG22
     have HQ_22:=hid (HF22.out.keep HQ.out farF.h5 hbF)
     have hl_HQ_22:=HQ_22.out.lt
     clear hG22 hF22 q16 hl_HQ_21
     have q11:=(HQ_22.out.cell 11:w22.cell? ⟨b,11,none⟩=some (.int .i64 ex.off))
     go_wp2_with fail
     refine(HG22.out.at ex.off (by (try simp only[List.length_append,nF_len]);omega)).mono ?_
     rintro e w23 ⟨hG23,hF23,rfl⟩
     have HF23:=hid (HF22.out.trans hF23)
     have HG23:=hid hG23
     have HQ_23:=hid (HF23.out.keep HQ.out farF.h5 hbF)
     have hl_HQ_23:=HQ_23.out.lt
     clear hG23 hF23 q11 hl_HQ_22
     go_wp2_with fail
     go_roundw
     case rel=>exact⟨i+1,by go_num,by omega,by rw[fl_take _ HX.out,← List.append_assoc,← HAC.out];have e:=HG23.out;rw[HAM.out] at e;simpa only [fS_mk,List.append_assoc] using e⟩
     case measure=>simp[RowKit.intOf];omega
  ·obtain rfl:i=l.length:=by omega
   have hd:decide ((l.length:Int)<(l.length:Int))=false:=by simp
   have HG:=hid hG
   clear hG
   go_wp2_with fail
   first|go_end0|refine bodyPost_ret (results_none rfl _ _ _) rfl ?_
   have e:=HG.out
   rw[List.take_length,List.append_assoc,← stsF_fl] at e
   exact⟨⟨e.1,H0.out.trans e.2⟩,e.2,rfl⟩
theorem both_lt {F B:Nat} {off:Bool} : ∀ m,(∀ l,SizeOf.sizeOf l<m→StsC F B off l)∧(∀ l,SizeOf.sizeOf l<m→FnsC F B off l):=by
 intro m
 induction m with
 | zero=>exact⟨fun _ h=>by omega,fun _ h=>by omega⟩
 | succ m ih=>exact⟨fun l h=>sts_step m ih.1 ih.2 l h,fun l h=>fns_step m ih.1 l h⟩
theorem fns_any {F B:Nat} {off:Bool} (l:List FuncD):FnsC F B off l:=(both_lt (SizeOf.sizeOf l+1)).2 l (Nat.lt_succ_self _)
end Go.Proofs.YtghohohagbbajaaGreatDoor
