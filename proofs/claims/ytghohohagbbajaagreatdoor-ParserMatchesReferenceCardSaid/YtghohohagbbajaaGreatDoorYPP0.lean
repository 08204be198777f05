/- part of the proof -/
import Derived.Test.YtghohohagbbajaaGreatDoorRows
import Derived.Test.YtghohohagbbajaaGreatDoorYD
import Derived.ProofKit
import Derived.OpenShut
import Derived.LaidMore
import Derived.Lay
import Derived.LaidLaws
import Derived.SizedLaws
import Derived.MakeChecks
import Derived.ChangeMaps5
import Derived.Lib.LaidTab
set_option linter.unusedVariables false
set_option linter.unusedSimpArgs false
set_option linter.unusedSectionVars false
namespace Go.Proofs.YtghohohagbbajaaGreatDoor
open Go.ChangeShapes Go.WideShapes Go.ChangeAt Go.RowKit
theorem own:ownKnob Tryz.prog.godebug=none:=by kernel_rfl
abbrev laidAll:List (String × DataW Unit):=Rows.parserMatchesReferenceRow.laid
theorem asciiTab:(Rows.laid_strings_asciiSpace:DataW Unit)=Lib.tabData .u8 Lib.asciiSpaceTab:=by kernel_rfl
theorem laid_tail {W:World} {x:String × DataW Unit} {r:List (String × DataW Unit)} {ps:List MemPlace} (h:DataW.LaidVars Tryz.prog W (x :: r) ps):∃ q,DataW.LaidVars Tryz.prog W r q:=by
 obtain⟨g,t,cs,fuel,p,q,_,_,_,_,h,_⟩:=h
 exact⟨q,h⟩
theorem libs_of_laid {W:World} (h:laidMetH Tryz.prog laidAll W):Libs W:=by
 rw[MakeChecks.laidMetH_plain _ _ _ (by kernel_rfl)] at h
 obtain⟨ps,h0,_,_⟩:=h
 obtain⟨_,h1⟩:=laid_tail h0
 obtain⟨_,h2⟩:=laid_tail h1
 obtain⟨_,h3⟩:=laid_tail h2
 obtain⟨_,h4⟩:=laid_tail h3
 obtain⟨_,h5⟩:=laid_tail h4
 obtain⟨_,h6⟩:=laid_tail h5
 obtain⟨g,t,cs,fuel,p,q,hg,ht,hv,hd,_,_⟩:=h3
 obtain⟨g',t',cs',fuel',p',q',hg',ht',hv',hd',_,_⟩:=h6
 obtain rfl := Option.some.inj ((show Tryz.prog.globalNamed "strconv.ErrRange" = some 4 by kernel_rfl).symm.trans hg)
 obtain rfl:=Option.some.inj ((show (Tryz.prog.globals[4]?).map (·.type)=some 160 by kernel_rfl).symm.trans ht)
 obtain rfl := Option.some.inj ((show Tryz.prog.globalNamed "strings.asciiSpace" = some 0 by kernel_rfl).symm.trans hg')
 obtain rfl:=Option.some.inj ((show (Tryz.prog.globals[0]?).map (·.type)=some 115 by kernel_rfl).symm.trans ht')
 constructor
 ·have hd2:DataW.trod (fun _=>()) Tryz.prog W 0 (fun _=>true) false fuel' 115 cs'.toList=some (Lib.tabData .u8 Lib.asciiSpaceTab,p'):=by rw[hd',asciiTab]
  unfold Lib.TabIs
  rw[hv',← Lib.cells_of_tab Tryz.underlying115 Tryz.underlying5 (by kernel_rfl) (by kernel_rfl) hd2]
 ·obtain⟨_,u,v,hcs,_,_⟩:=iface_of_trod Tryz.underlying160 hd
  have hc := World.var?_cell (show Tryz.prog.globalNamed "strconv.ErrRange" = some 4 by kernel_rfl) hv 0
  have h1:cs[0]?=some (.iface u v):=by
   have:cs.toList[0]?=some (.iface u v):=by rw[hcs];rfl
   simpa using this
  rw[h1] at hc
  refine⟨.iface u v,hc,.inr ⟨u,v,rfl⟩,?_⟩
  rcases Nat.lt_or_ge 4 W.heap.size with h'|h'
  ·exact h'
  ·exfalso
   simp[World.cell?,Array.getElem?_eq_none h'] at hc
set_option maxRecDepth 100000 in
theorem start_shaped (os:Os) (args:Array Value):((World.laidAll Tryz.prog os laidAll).forCall (fun _ _=>0) ⟨#[],args,[]⟩).Shaped Tryz.prog:=World.shaped_of_ZipB (by kernel_rfl) (by kernel_rfl)
set_option maxRecDepth 100000 in
theorem start_met (os:Os) (args:Array Value):laidMetH Tryz.prog laidAll ((World.laidAll Tryz.prog os laidAll).forCall (fun _ _=>0) ⟨#[],args,[]⟩).memory:=by
 rw[MakeChecks.laidMetH_plain _ _ _ (by kernel_rfl)];exact laidMet_laidAll _ (by kernel_rfl) (by kernel_rfl)
set_option maxRecDepth 100000 in
theorem post_kept {H:Type} {enc:TypeId × Value→H} {f:Func} {s:ChangeSpec} {fresh handsOn again:Bool} {W W':World} {args:Array Value} {v:Value} {ds:List (DataW H)} {before:List MemPlace}
  (hW:DataW.Whole enc Tryz.prog f.params.toList s.vars false W args.toList ds [] before) (hno:s.vars=[])
  (hr:∀ (b:Nat) (sp:Nat→Bool) (hd:Bool),DataW.TrodAll enc Tryz.prog W' b sp hd f.resultTypes.toList (v.resultList f.resultTypes.size) (s.fn H ds).results [])
  (ha:∀ sp:Nat→Bool,DataW.TrodAll enc Tryz.prog W' 0 sp true f.params.toList args.toList (s.fn H ds).args before) (hv:(s.fn H ds).vars=[])
  (hb:Below W.heap.size W W')
  (hok:∀ (j:Nat) (t:TypeId) (r:Value),f.resultTypes[j]?=some t→(v.resultList f.resultTypes.size)[j]?=some r→Value.okWide Tryz.prog W' .any 0 t r) :
  s.post enc Tryz.prog f false fresh handsOn again W args v W':=by
 have hv':∀ sp,DataW.TrodVars enc Tryz.prog W' sp s.vars (s.fn H (ds ++ [])).vars []:=fun sp=>by rw[List.append_nil,hno,hv];rfl
 rw[← List.append_nil ds] at hr ha
 refine⟨ds,[],before,[],before,[],hW,hr _ _ _,ha _,hv' _,World.keptBut_mono (fun p hp=>⟨hp,.inr (by simpa using hp)⟩) (hb.frame (·∈before)),fun _=>?_⟩
 have hlt:∀ p∈before,p.block<W.heap.size:=fun p hp=>hW.lt p hp
 obtain⟨_,_,_,_,_,hz,hn⟩:=hW
 refine⟨hok,_,_,([] ++ before) ++ [],⟨[] ++ before,[],trodAll_append (ha (fun _=>true)) (hr 0 (fun _=>true) true),hv' _,rfl,fun b off hp=>?_,fun h=>by cases h⟩,fun p hp _=>by simpa using hp⟩
 ·have hin:MemPlace.cell b off∈before:=by simpa using hp
  rw[hb.frozen (p:=⟨b,off,none⟩) (hlt _ hin)]
  exact hz b off hin
end Go.Proofs.YtghohohagbbajaaGreatDoor
