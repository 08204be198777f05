/- part of the proof -/
import Derived.Test.YtghohohagbbajaaGreatDoorYBC
import Derived.Test.YtghohohagbbajaaGreatDoorYD
import Derived.Test.YtghohohagbbajaaGreatDoorYO
import Derived.Test.YtghohohagbbajaaGreatDoorYE
import Derived.Test.YtghohohagbbajaaGreatDoorYA
set_option linter.unusedVariables false
set_option linter.unusedSimpArgs false
set_option linter.unusedSectionVars false
namespace Go.Proofs.YtghohohagbbajaaGreatDoor
open Go.RowKit Go.Lib
open Lx (Tk)
open Px (Txt TyE VarD DataD TraitD BoundD ImplD ArgD ExprD StmtD ArmD FuncD ModD)
theorem Inv_below_fr {w w':World} (h:Below w.heap.size w w'):Fr [] w w':=⟨h.os,h.tape,h.output,h.size,fun k hk _=>h.block k hk⟩
theorem Fr.toBelow {w w':World} (h:Fr [] w w'):Below w.heap.size w w':=h.below (Nat.le_refl _) (fun k hk=>by cases hk)
theorem Fr.turn {X:List Nat} {a w w':World} {b:Nat} (h:Fr X a w) (hg:w.grownBy w' (some b)) (hb:a.heap.size≤b):Fr X a w' :=
 h.grown hg (fun k e=>by simp at e;omega)
def putK (L:List (Txt × Nat)) (D:DataW Unit):DataW Unit:=L.foldl (fun D p=>D.put (.string p.1) (.lit (.int .i64 p.2))) D
theorem putK_at (L:List (Txt × Nat)) (hn:(L.map (·.1)).Nodup) (l:Txt) (z:DataW Unit):∀ (D:DataW Unit),Maps.IsMap D →
  (putK L D).atKey (.string l) z=match L.lookup l with|some k=>.lit (.int .i64 k)|none=>D.atKey (.string l) z:=by
 induction L with
 | nil=>intro D _;rfl
 | cons x r ih =>
  intro D h
  obtain⟨x,k⟩:=x
  rw[List.map_cons,List.nodup_cons] at hn
  show (putK r (D.put (.string x) (.lit (.int .i64 k)))).atKey (.string l) z=_
  rw[ih hn.2 _ (h.put _ _),List.lookup_cons]
  by_cases hx:l=x
  ·subst hx
   have:r.lookup l=none:=by
    rw[List.lookup_eq_none_iff]
    intro p hp
    simp
    intro e
    exact hn.1 (List.mem_map.2 ⟨p,hp,e.symm⟩)
   rw[this]
   simp[Maps.atKey_put_same h (k:=.string l) trivial]
  ·have hb:(l == x)=false:=by simpa using hx
   have hne:(Lit.string l)≠.string x:=by intro h;injection h with h;exact hx h
   rw[hb]
   simp only
   cases r.lookup l with
   | none=>simp only;rw[Maps.atKey_put_other hne]
   | some v=>rfl
theorem putK_has (L:List (Txt × Nat)) (hn:(L.map (·.1)).Nodup) (l:Txt):∀ (D:DataW Unit),Maps.IsMap D→Maps.has (putK L D) (.string l)=((L.lookup l).isSome || Maps.has D (.string l)):=by
 induction L with
 | nil=>intro D _;rfl
 | cons x r ih =>
  intro D h
  obtain⟨x,k⟩:=x
  rw[List.map_cons,List.nodup_cons] at hn
  show Maps.has (putK r (D.put (.string x) (.lit (.int .i64 k)))) (.string l)=_
  rw[ih hn.2 _ (h.put _ _),List.lookup_cons]
  by_cases hx:l=x
  ·subst hx
   rw[Maps.has_put_same h (k:=.string l) trivial]
   simp
  ·have hb:(l == x)=false:=by simpa using hx
   have hne:(Lit.string l)≠.string x:=by intro h;injection h with h;exact hx h
   rw[hb,Maps.has_put_other hne]
theorem forms_nodup:(Px.forms.map (·.1)).Nodup:=by decide +kernel
theorem forms_at (l:Txt):(putK Px.forms (.map [])).atKey (.string l) (.lit (.int .i64 0))=.lit (.int .i64 (kindAt l))∧Maps.has (putK Px.forms (.map [])) (.string l)=!(Px.formOf l == 2):=by
 rw[putK_at _ forms_nodup _ _ _ ⟨[],rfl⟩,putK_has _ forms_nodup _ _ ⟨[],rfl⟩]
 unfold kindAt Px.formOf
 cases h:Px.forms.lookup l with
 | none=>exact⟨rfl,rfl⟩
 | some v =>
  have hv:=lookup_mem h
  have h2:v≠2:=by rintro rfl;exact absurd hv (by decide)
  simp[h2]
theorem wpList_insert_own {H:Type} {P:Program} (w:World) {ops:Array Oper} {rest:List Oper} {o:Oper} {a:Act} {Q:Exit→Act→World→Prop}
  (hg:o.guard=none) (m x v:Operand) (t:TypeId) (hop:o.op=Op.insert t m x v)
  (k e:TypeId) (K:Maps.Keyed P k) (ht:P.underlying t=some (.map k e)) (R:Value→Option (DataW H × List MemPlace)) (b n:Nat) (D:DataW H)
  (hm:a.eval m=.map (some b)) (hown:w.ownsMap P k R b n D) (hn:n<maxLen) (key val:Value) (kl:Lit) (hx:a.eval x=key) (hv:a.eval v=val) (hkey:keyOf P k key=some kl)
  (d:DataW H) (ps:List MemPlace) (hval:R val=some (d,ps))
  (hK:∀ w',w'.ownsMap P k R b (n+1) (D.put kl d)→w.grownBy w' (some b)→wpList P ops Q rest (a.put o.dst undef) w') :
  wpList P ops Q (o :: rest) a w:=by
 refine wpList_plain hg fun K' hK'=>?_
 obtain⟨w',hrun,r1,r2⟩:=hown.update K ht hn hkey hval
 unfold Oper.wp
 simp[execOp,hop,hm,hx,hv,hrun,Result.andThen]
 exact hK' _ _ (hK w' r1 r2)
set_option maxRecDepth 100000 in
set_option maxHeartbeats 1600000 in
theorem statements_any (w:World):Calls Tryz.prog 16 #[] w fun e w'=>e=.returned (.map (some w.heap.size))∧FormsAt w' w.heap.size∧Fr [] w w':=by
 have hmm:=@run_makeMap Tryz.prog
 go_enter Tryz.func16,Tryz.ntmps16
 have hM0:(w.alloc (.map #[] 0)).ownsMap Tryz.prog 9 formElem w.heap.size 0 (.map []):=World.ownsMap_made w Tryz.prog 9 formElem
 have HM0:=hid hM0
 have HF0:Hid (Fr [] w (w.alloc (.map #[] 0))):=hid ((Fr.refl _ _).alloc _)
 clear hM0
 go_wp2_with (first|(refine wpList_insert_own _ rfl _ _ _ 75 rfl 9 114 keyed9 Tryz.underlying75 formElem w.heap.size 11 _ rfl HM11.out (by unfold maxLen;omega) (.string ⟨#[102,110]⟩) (formV 13) (.string [102,110]) rfl rfl rfl (.lit (.int .i64 13)) [] (formElem_mk 13 (by decide)) ?_;intro w12 hown12 hgrow12;have HM12:=hid hown12;have HF12:=hid (HF11.out.turn hgrow12 (Nat.le_refl _));clear hown12 hgrow12)|(refine wpList_insert_own _ rfl _ _ _ 75 rfl 9 114 keyed9 Tryz.underlying75 formElem w.heap.size 10 _ rfl HM10.out (by unfold maxLen;omega) (.string ⟨#[115,112,97,119,110]⟩) (formV 12) (.string [115,112,97,119,110]) rfl rfl rfl (.lit (.int .i64 12)) [] (formElem_mk 12 (by decide)) ?_;intro w11 hown11 hgrow11;have HM11:=hid hown11;have HF11:=hid (HF10.out.turn hgrow11 (Nat.le_refl _));clear hown11 hgrow11)|(refine wpList_insert_own _ rfl _ _ _ 75 rfl 9 114 keyed9 Tryz.underlying75 formElem w.heap.size 9 _ rfl HM9.out (by unfold maxLen;omega) (.string ⟨#[115,101,110,100]⟩) (formV 11) (.string [115,101,110,100]) rfl rfl rfl (.lit (.int .i64 11)) [] (formElem_mk 11 (by decide)) ?_;intro w10 hown10 hgrow10;have HM10:=hid hown10;have HF10:=hid (HF9.out.turn hgrow10 (Nat.le_refl _));clear hown10 hgrow10)|(refine wpList_insert_own _ rfl _ _ _ 75 rfl 9 114 keyed9 Tryz.underlying75 formElem w.heap.size 8 _ rfl HM8.out (by unfold maxLen;omega) (.string ⟨#[112,114,105,110,116]⟩) (formV 10) (.string [112,114,105,110,116]) rfl rfl rfl (.lit (.int .i64 10)) [] (formElem_mk 10 (by decide)) ?_;intro w9 hown9 hgrow9;have HM9:=hid hown9;have HF9:=hid (HF8.out.turn hgrow9 (Nat.le_refl _));clear hown9 hgrow9)|(refine wpList_insert_own _ rfl _ _ _ 75 rfl 9 114 keyed9 Tryz.underlying75 formElem w.heap.size 7 _ rfl HM7.out (by unfold maxLen;omega) (.string ⟨#[100,114,111,112]⟩) (formV 9) (.string [100,114,111,112]) rfl rfl rfl (.lit (.int .i64 9)) [] (formElem_mk 9 (by decide)) ?_;intro w8 hown8 hgrow8;have HM8:=hid hown8;have HF8:=hid (HF7.out.turn hgrow8 (Nat.le_refl _));clear hown8 hgrow8)|(refine wpList_insert_own _ rfl _ _ _ 75 rfl 9 114 keyed9 Tryz.underlying75 formElem w.heap.size 6 _ rfl HM6.out (by unfold maxLen;omega) (.string ⟨#[112,97,110,105,99]⟩) (formV 8) (.string [112,97,110,105,99]) rfl rfl rfl (.lit (.int .i64 8)) [] (formElem_mk 8 (by decide)) ?_;intro w7 hown7 hgrow7;have HM7:=hid hown7;have HF7:=hid (HF6.out.turn hgrow7 (Nat.le_refl _));clear hown7 hgrow7)|(refine wpList_insert_own _ rfl _ _ _ 75 rfl 9 114 keyed9 Tryz.underlying75 formElem w.heap.size 5 _ rfl HM5.out (by unfold maxLen;omega) (.string ⟨#[114,101,116,117,114,110]⟩) (formV 7) (.string [114,101,116,117,114,110]) rfl rfl rfl (.lit (.int .i64 7)) [] (formElem_mk 7 (by decide)) ?_;intro w6 hown6 hgrow6;have HM6:=hid hown6;have HF6:=hid (HF5.out.turn hgrow6 (Nat.le_refl _));clear hown6 hgrow6)|(refine wpList_insert_own _ rfl _ _ _ 75 rfl 9 114 keyed9 Tryz.underlying75 formElem w.heap.size 4 _ rfl HM4.out (by unfold maxLen;omega) (.string ⟨#[109,97,116,99,104]⟩) (formV 6) (.string [109,97,116,99,104]) rfl rfl rfl (.lit (.int .i64 6)) [] (formElem_mk 6 (by decide)) ?_;intro w5 hown5 hgrow5;have HM5:=hid hown5;have HF5:=hid (HF4.out.turn hgrow5 (Nat.le_refl _));clear hown5 hgrow5)|(refine wpList_insert_own _ rfl _ _ _ 75 rfl 9 114 keyed9 Tryz.underlying75 formElem w.heap.size 3 _ rfl HM3.out (by unfold maxLen;omega) (.string ⟨#[119,104,105,108,101]⟩) (formV 5) (.string [119,104,105,108,101]) rfl rfl rfl (.lit (.int .i64 5)) [] (formElem_mk 5 (by decide)) ?_;intro w4 hown4 hgrow4;have HM4:=hid hown4;have HF4:=hid (HF3.out.turn hgrow4 (Nat.le_refl _));clear hown4 hgrow4)|(refine wpList_insert_own _ rfl _ _ _ 75 rfl 9 114 keyed9 Tryz.underlying75 formElem w.heap.size 2 _ rfl HM2.out (by unfold maxLen;omega) (.string ⟨#[105,102]⟩) (formV 4) (.string [105,102]) rfl rfl rfl (.lit (.int .i64 4)) [] (formElem_mk 4 (by decide)) ?_;intro w3 hown3 hgrow3;have HM3:=hid hown3;have HF3:=hid (HF2.out.turn hgrow3 (Nat.le_refl _));clear hown3 hgrow3)|(refine wpList_insert_own _ rfl _ _ _ 75 rfl 9 114 keyed9 Tryz.underlying75 formElem w.heap.size 1 _ rfl HM1.out (by unfold maxLen;omega) (.string ⟨#[42]⟩) (formV 3) (.string [42]) rfl rfl rfl (.lit (.int .i64 3)) [] (formElem_mk 3 (by decide)) ?_;intro w2 hown2 hgrow2;have HM2:=hid hown2;have HF2:=hid (HF1.out.turn hgrow2 (Nat.le_refl _));clear hown2 hgrow2)|(refine wpList_insert_own _ rfl _ _ _ 75 rfl 9 114 keyed9 Tryz.underlying75 formElem w.heap.size 0 _ rfl HM0.out (by unfold maxLen;omega) (.string ⟨#[108,101,116]⟩) (formV 1) (.string [108,101,116]) rfl rfl rfl (.lit (.int .i64 1)) [] (formElem_mk 1 (by decide)) ?_;intro w1 hown1 hgrow1;have HM1:=hid hown1;have HF1:=hid (HF0.out.turn hgrow1 (Nat.le_refl _));clear hown1 hgrow1))
 go_ret
 exact⟨rfl,⟨12,_,HM12.out,fun l=>forms_at l⟩,HF12.out⟩
def keyW (j:Nat):ByteArray:=⟨(Px.keys.getD j []).toArray⟩
theorem keyW_size (j:Nat) (h:j<32):(keyW j).size≤maxLen:=by
 have:∀ j,j<32→(keyW j).size≤8:=by decide +kernel
 have:=this j h
 unfold maxLen;omega
theorem keyW_data (j:Nat) (h:j<32):Px.keys.take (j+1)=Px.keys.take j ++ [(keyW j).data.toList]:=by
 have:∀ j,j<32→Px.keys.take (j+1)=Px.keys.take j ++ [(keyW j).data.toList]:=by decide +kernel
 exact this j h
theorem putAll_keys (l:Txt):(putAll (Px.keys.take 32) (.map [])).atKey (.string l) (.lit (.bool false))=.lit (.bool (Px.keyB l)):=by
 rw[show Px.keys.take 32=Px.keys from rfl,putAll_at _ _ _ _ ⟨[],rfl⟩]
 unfold Px.keyB
 cases h:Px.keys.contains l <;> rfl
theorem keyText_ascii:∀ b∈([109,111,100,117,108,101,32,117,115,101,32,100,97,116,97,32,116,114,97,105,116,32,105,109,112,108,32,102,111,114,32,119,104,101,114,101,32,102,110,32,108,101,116,32,105,102,32,101,108,115,101,32,119,104,105,108,101,32,109,97,116,99,104,32,114,101,116,117,114,110,32,112,97,110,105,99,32,100,114,111,112,32,112,114,105,110,116,32,115,101,110,100,32,115,112,97,119,110,32,110,101,119,32,98,111,120,32,117,110,98,111,120,32,105,110,32,97,114,101,110,97,32,97,108,108,111,99,32,99,104,97,110,32,114,101,99,118,32,109,111,118,101,32,73,110,116,32,65,114,101,110,97,32,66,111,120,32,67,104,97,110]:List UInt8),b.toNat<128:=by decide +kernel
theorem keyText_fields:Lib.fields [109,111,100,117,108,101,32,117,115,101,32,100,97,116,97,32,116,114,97,105,116,32,105,109,112,108,32,102,111,114,32,119,104,101,114,101,32,102,110,32,108,101,116,32,105,102,32,101,108,115,101,32,119,104,105,108,101,32,109,97,116,99,104,32,114,101,116,117,114,110,32,112,97,110,105,99,32,100,114,111,112,32,112,114,105,110,116,32,115,101,110,100,32,115,112,97,119,110,32,110,101,119,32,98,111,120,32,117,110,98,111,120,32,105,110,32,97,114,101,110,97,32,97,108,108,111,99,32,99,104,97,110,32,114,101,99,118,32,109,111,118,101,32,73,110,116,32,65,114,101,110,97,32,66,111,120,32,67,104,97,110]=Px.keys:=by decide +kernel
theorem fields_keys (w : World) (hS : Lib.TabIs Tryz.prog w "strings.asciiSpace" .u8 Lib.asciiSpaceTab) :
  Calls Tryz.prog 17 #[.string ⟨(([109,111,100,117,108,101,32,117,115,101,32,100,97,116,97,32,116,114,97,105,116,32,105,109,112,108,32,102,111,114,32,119,104,101,114,101,32,102,110,32].append [108,101,116,32,105,102,32,101,108,115,101,32,119,104,105,108,101,32,109,97,116,99,104,32,114,101,116,117,114,110,32,112,97,110,105,99,32,100,114,111]).append ([112,32,112,114,105,110,116,32,115,101,110,100,32,115,112,97,119,110,32,110,101,119,32,98,111,120,32,117,110,98,111,120,32,105,110,32,97,114,101,110].append [97,32,97,108,108,111,99,32,99,104,97,110,32,114,101,99,118,32,109,111,118,101,32,73,110,116,32,65,114,101,110,97,32,66,111,120,32,67,104,97,110])).toArray⟩] w fun e w' =>
   e=.returned (.slice (some ⟨w.heap.size,0,none⟩) 32 32)∧(∀ j,j<32→w'.cell? ⟨w.heap.size,j,none⟩=some (.string (keyW j)))∧w'.heap.size=w.heap.size+1∧Below w.heap.size w w':=by
 refine(Tryz.strings_Fields _ w (by decide +kernel) (fun j b h=>keyText_ascii b (List.mem_of_getElem? h)) hS).mono ?_
 rintro e w' ⟨rfl,rfl⟩
 refine⟨?_,?_,by simp,(Below.refl _ _).alloc (Nat.le_refl _) _⟩
 ·show Ending.returned (.slice _ (Lib.fields [109,111,100,117,108,101,32,117,115,101,32,100,97,116,97,32,116,114,97,105,116,32,105,109,112,108,32,102,111,114,32,119,104,101,114,101,32,102,110,32,108,101,116,32,105,102,32,101,108,115,101,32,119,104,105,108,101,32,109,97,116,99,104,32,114,101,116,117,114,110,32,112,97,110,105,99,32,100,114,111,112,32,112,114,105,110,116,32,115,101,110,100,32,115,112,97,119,110,32,110,101,119,32,98,111,120,32,117,110,98,111,120,32,105,110,32,97,114,101,110,97,32,97,108,108,111,99,32,99,104,97,110,32,114,101,99,118,32,109,111,118,101,32,73,110,116,32,65,114,101,110,97,32,66,111,120,32,67,104,97,110]).length (Lib.fields [109,111,100,117,108,101,32,117,115,101,32,100,97,116,97,32,116,114,97,105,116,32,105,109,112,108,32,102,111,114,32,119,104,101,114,101,32,102,110,32,108,101,116,32,105,102,32,101,108,115,101,32,119,104,105,108,101,32,109,97,116,99,104,32,114,101,116,117,114,110,32,112,97,110,105,99,32,100,114,111,112,32,112,114,105,110,116,32,115,101,110,100,32,115,112,97,119,110,32,110,101,119,32,98,111,120,32,117,110,98,111,120,32,105,110,32,97,114,101,110,97,32,97,108,108,111,99,32,99,104,97,110,32,114,101,99,118,32,109,111,118,101,32,73,110,116,32,65,114,101,110,97,32,66,111,120,32,67,104,97,110]).length)=_
  rw[keyText_fields];rfl
 ·intro j hj
  rw[World.cell?_alloc_new]
  show ((Lib.fields [109,111,100,117,108,101,32,117,115,101,32,100,97,116,97,32,116,114,97,105,116,32,105,109,112,108,32,102,111,114,32,119,104,101,114,101,32,102,110,32,108,101,116,32,105,102,32,101,108,115,101,32,119,104,105,108,101,32,109,97,116,99,104,32,114,101,116,117,114,110,32,112,97,110,105,99,32,100,114,111,112,32,112,114,105,110,116,32,115,101,110,100,32,115,112,97,119,110,32,110,101,119,32,98,111,120,32,117,110,98,111,120,32,105,110,32,97,114,101,110,97,32,97,108,108,111,99,32,99,104,97,110,32,114,101,99,118,32,109,111,118,101,32,73,110,116,32,65,114,101,110,97,32,66,111,120,32,67,104,97,110]).map fun l=>Value.string ⟨l.toArray⟩).toArray[j]?=_
  rw[keyText_fields]
  have:∀ j,j<32→(Px.keys.map fun l=>Value.string ⟨l.toArray⟩).toArray[j]?=some (Value.string (keyW j)):=by
   intro j hj
   have hl:j<Px.keys.length:=hj
   simp[keyW,List.getD_eq_getElem?_getD,List.getElem?_eq_getElem hl]
  exact this j hj
def ReaderPost (Tb sz:Nat) (ts:List Tk) (w:World) (e:Ending) (w':World):Prop :=
 ∃ c:Ctx,c.size=sz∧c.Tb=Tb∧e=.returned (.pointer (some ⟨c.R,0,none⟩))∧Inv c ts w'∧Fr [] w w'∧w.heap.size≤c.R
def KeysRel (w:World) (R F Sb Kb:Nat) (tv:Value) (sz:Nat) (v:Value) (W:World):Prop :=
 ∃ k:Nat,k≤32∧v=.int .i64 k∧Blk W R 78 #[tv,.int .i64 sz,.map (some Kb),.map (some Sb)]∧(∀ j,j<32→W.cell? ⟨F,j,none⟩=some (.string (keyW j))) ∧
  W.ownsMap (H:=Unit) Tryz.prog 9 (plainElem Tryz.prog 4) Kb k (putAll (Px.keys.take k) (.map []))∧FormsAt W Sb∧Fr [] w W∧F<W.heap.size
set_option maxRecDepth 100000 in
set_option maxHeartbeats 1600000 in
theorem newReader_any (Tb sz:Nat) (tp:Option Addr) (tn tc:Nat) (ts:List Tk) (w:World) (hT:TokV w Tb (.slice tp tn tc) ts) (hTb:Tb<w.heap.size) (hfew:ts.length≤6000) (hsz:sz≤20000) (hnums:∀ t∈ts,t.num≤1000000000) (hwords:∀ t∈ts,t.text.length≤20000)
  (hS : Lib.TabIs Tryz.prog w "strings.asciiSpace" .u8 Lib.asciiSpaceTab) :
  Calls Tryz.prog 9 #[.slice tp tn tc,.int .i64 sz] w (ReaderPost Tb sz ts w):=by
 have hmm:=@run_makeMap Tryz.prog
 have HS:=hid hS
 have HT:=hid hT
 have HN:=hid hnums
 have HW:=hid hwords
 clear hS hT hnums hwords
 go_enter Tryz.func9,Tryz.ntmps9
 go_wp2_with fail
 clear hmm
 have hM0:(w.alloc (.map #[] 0)).ownsMap (H:=Unit) Tryz.prog 9 (plainElem Tryz.prog 4) w.heap.size 0 (.map []):=World.ownsMap_made w Tryz.prog 9 (plainElem Tryz.prog 4)
 have HM0:=hid hM0
 clear hM0
 refine(statements_any _).mono ?_
 rintro e w1 ⟨rfl,hfm,hf⟩
 have HF1:Hid (Fr [] w w1):=hid (((Fr.refl _ _).alloc _).trans hf)
 have HM1:=hid (ownsMap_same HM0.out (hf.block _ (by simp) (by simp)))
 have HFM1:Hid (FormsAt w1 (w.heap.size+1)):=hid (by simpa using hfm)
 have hz1:w.heap.size+1<w1.heap.size:=by
  obtain⟨n,D,ho,_⟩:=hfm
  have:=ho.lt
  simpa using this
 clear hf hfm HM0
 go_wp2_with fail
 have hb2:Below w.heap.size w (w1.alloc (.cells #[.slice tp tn tc,.int .i64 sz,.map (some w.heap.size),.map (some (w.heap.size+1))] 78)):=(HF1.out.alloc _).toBelow
 refine(fields_keys _ ?hs).mono ?_
 case hs=>exact Joins.tab_stays (g:=0) (by kernel_rfl) HS.out hb2 (Nat.le_refl _)
 rintro e w2 ⟨rfl,hc2,hz2,hbb⟩
 have HB2:Hid (Blk w2 w1.heap.size 78 #[.slice tp tn tc,.int .i64 sz,.map (some w.heap.size),.map (some (w.heap.size+1))]):=hid ((Blk.new w1 _ _).keep (Inv_below_fr hbb) (by simp))
 have HM2:=hid (ownsMap_same HM1.out ((hbb.block _ (by simp;omega)).trans (Below.heap_alloc _ _ _ (by omega))))
 have HF2:=hid ((HF1.out.alloc (.cells #[.slice tp tn tc,.int .i64 sz,.map (some w.heap.size),.map (some (w.heap.size+1))] 78)).trans (Inv_below_fr hbb))
 have HFM2:Hid (FormsAt w2 (w.heap.size+1)):=by
  obtain⟨n,D,ho,ha⟩:=HFM1.out
  exact hid ⟨n,D,ownsMap_same ho ((hbb.block _ (by simp;omega)).trans (Below.heap_alloc _ _ _ (by omega))),ha⟩
 have hz2a:w1.heap.size+1<w2.heap.size:=by rw[hz2];simp
 have HC2:Hid (∀ j,j<32→w2.cell? ⟨w1.heap.size+1,j,none⟩=some (.string (keyW j))):=hid (fun j hj=>by simpa using hc2 j hj)
 have hR:w.heap.size+1<w1.heap.size:=hz1
 clear hc2 hz2 hbb hb2 HM1 HF1 HFM1
 go_wp2_with fail
 go_loopw [7,16] (fun _ v W=>KeysRel w w1.heap.size (w1.heap.size+1) (w.heap.size+1) w.heap.size (.slice tp tn tc) sz v W) (fun _ v _=>32 - (RowKit.intOf v).toNat)
 case atStart=>exact⟨0,by omega,rfl,HB2.out,HC2.out,HM2.out,HFM2.out,HF2.out,hz2a⟩
 case round =>
  clear HB2 HC2 HM2 HFM2 HF2 hz2a
  obtain⟨k,hk,rfl,hB,hC,hM,hFM,hF,hY⟩:=hrel
  by_cases hlt:k<32
  ·have h1:=hC k hlt
   have h2:wr.cell? ⟨w1.heap.size,2,none⟩=some (.map (some w.heap.size)):=hB.cell 2
   have HB:=hid hB
   have HC:=hid hC
   have HM:=hid hM
   have HFM:=hid hFM
   have HF:=hid hF
   have HSB:=hid (keyW_size k hlt)
   clear hB hC hM hFM hF
   go_wp2_with (at_mapUpdate;refine wpList_mapUpdate_own _ rfl _ _ _ 74 rfl 9 4 keyed9 Tryz.underlying74 _ w.heap.size k _ rfl HM.out (by unfold maxLen;omega) _ _ _ rfl rfl (WideMaps.keyOf_string_mk Tryz.underlying9 HSB.out) _ [] (plainElem_bool Tryz.underlying4 true) ?_;intro w3 hown3 hgrow3)
   clear h1 h2
   have HO3:=hid hown3
   have HG3:=hid hgrow3
   clear hown3 hgrow3
   go_roundw
   case rel =>
    refine⟨k+1,by omega,by go_num,?_,fun j hj=>(cell_grown HG3.out hY (by omega)).trans (HC.out j hj),by rw[keyW_data k hlt,putAll_snoc];exact HO3.out,?_,HF.out.turn HG3.out (Nat.le_refl _),Nat.lt_of_lt_of_le hY HG3.out.size⟩
    ·exact(HG3.out.block _ HB.out.lt (by simp;omega)).trans HB.out
    ·obtain⟨n,D,ho,ha⟩:=HFM.out
     exact⟨n,D,ownsMap_same ho (HG3.out.block _ ho.lt (by simp)),ha⟩
   case measure=>simp[RowKit.intOf];omega
  ·obtain rfl:k=32:=by omega
   have HB:=hid hB
   have HM:=hid hM
   have HFM:=hid hFM
   have HF:=hid hF
   clear hB hC hM hFM hF hlt
   go_wp2
   go_ret
   refine⟨⟨w1.heap.size,Tb,w.heap.size,w.heap.size+1,sz⟩,rfl,rfl,rfl,?_,HF.out,?_⟩
   ·exact⟨⟨_,HB.out,HT.out.same (HF.out.block _ hTb (by simp))⟩,⟨32,_,HM.out,putAll_keys⟩,HFM.out,Nat.lt_of_lt_of_le hTb HF.out.size,⟨by simp;omega,by simp;omega,by simp;omega⟩,hfew,hsz,HN.out,HW.out⟩
   ·simp;omega
abbrev zeroM:Value:=.agg #[.string ⟨#[]⟩,.slice none 0 0,.slice none 0 0,.slice none 0 0,.slice none 0 0,.slice none 0 0]
def ParsePost (w:World) (r:Option ModD × Nat × Nat) (e:Ending) (w':World):Prop :=
 Fr [] w w' ∧
 match r with
 | (some M,_,_)=>∃ cs,e=.returned (.tuple #[.agg cs.toArray,.int .i64 0,.int .i64 0])∧Rep w' (fun k=>w.heap.size≤k) (modQ M) cs
 | (none,er,at')=>e=.returned (.tuple #[zeroM,.int .i64 er,.int .i64 at'])
theorem toks_get:∀ (ts:List Tk) (i:Nat) (t:Tk),ts[i]?=some t→∀ j,j<4→(tksCells ts)[i * 4+j]?=(tokCells t)[j]?:=by
 intro ts
 induction ts with
 | nil=>intro i t h;simp at h
 | cons u r ih =>
  intro i t h j hj
  cases i with
  | zero =>
   simp at h;subst h
   match j,hj with
   | 0,_=>rfl
   | 1,_=>rfl
   | 2,_=>rfl
   | 3,_=>rfl
  | succ i =>
   simp at h
   have:=ih i t h j hj
   rw[← this]
   show (tksCells (u :: r))[(i+1) * 4+j]?=_
   have e:tksCells (u :: r)=tokCells u ++ tksCells r:=rfl
   rw[e,List.getElem?_append_right (by simp[tokCells];omega)]
   congr 1
   simp[tokCells];omega
theorem tok_num (l:List UInt8):(Lx.tokAt l).2.2≤1000000000:=by
 unfold Lx.tokAt
 repeat' split
 all_goals first|(simp;done)|(simp at *;omega)
theorem lex_facts {l:List UInt8} {ts:List Tk} {at':Nat} (h:Lx.lexL l=(ts,0,at')):at'=0∧l.length≤20000∧ts.length≤6000∧(∀ t∈ts,t.num≤1000000000)∧(∀ t∈ts,t.text.length≤20000):=by
 obtain⟨h1,h2,h3,h4⟩:=Lx.lex_chain l (by rw[h])
 rw[h] at h2 h3 h4
 simp only at h2 h3 h4
 refine⟨h2,h1,h3,?_,?_⟩
 ·intro t ht
  obtain⟨i,hi,hx⟩:=List.getElem_of_mem ht
  obtain⟨_,g2,_,_,_⟩:=Lx.chain_at l ts _ i t h4 (by rw[List.getElem?_eq_getElem hi,hx])
  have:=tok_num (l.drop t.off)
  rw[g2] at this
  exact this
 ·intro t ht
  obtain⟨i,hi,hx⟩:=List.getElem_of_mem ht
  obtain⟨_,_,_,_,g5⟩:=Lx.chain_at l ts _ i t h4 (by rw[List.getElem?_eq_getElem hi,hx])
  omega
theorem tokv_of {w:World} {base:Nat} {a:Option Addr} {cap:Nat} {ts:List Tk} (h:w.ownsRow base 73 4 (.slice a ts.length cap) ts.length (tksCells ts)) (h0:ts.length=0→True) :
  ∃ Tb,Tb<w.heap.size+1∧(ts≠[]→Tb<w.heap.size)∧TokV w Tb (.slice a ts.length cap) ts:=by
 by_cases hn:ts=[]
 ·subst hn
  exact⟨w.heap.size,by omega,fun h=>absurd rfl h,.inl ⟨rfl,a,cap,rfl⟩⟩
 ·obtain⟨g,c,e,h1,h2,h3,h4⟩:=row_cell h (by simpa using hn)
  simp only[Value.slice.injEq] at e
  obtain⟨rfl,_,rfl⟩:=e
  refine⟨g,by omega,fun _=>h2,.inr ⟨hn,0,cap,rfl,h3,fun i t hi j hj=>?_⟩⟩
  have hi':i<ts.length:=by
   rcases Nat.lt_or_ge i ts.length with h|h
   ·exact h
   ·rw[List.getElem?_eq_none h] at hi;cases hi
  rw[Nat.zero_add,h4 _ (by omega)]
  exact toks_get ts i t hi j hj
def Px.parseP (l:List UInt8):Option ModD × Nat × Nat :=
 match Lx.lexL l with
 | (ts,0,_) =>
  match Px.module l.length 6001 ts with
  | .ok m _=>(some m,0,0)
  | .bad []=>(none,5,l.length)
  | .bad (t :: _)=>(none,4,t.off)
 | (_,e,o)=>(none,e,o)
theorem parseP_ok {l:List UInt8} {ts:List Tk} {at':Nat} (h:Lx.lexL l=(ts,0,at')):Px.parseP l=match Px.module l.length 6001 ts with
  | .ok m _=>(some m,0,0)
  | .bad []=>(none,5,l.length)
  | .bad (t :: _)=>(none,4,t.off):=by
 unfold Px.parseP
 rw[h]
 show (match Px.module l.length 6001 ts with
  | .ok m _=>(some m,0,0)
  | .bad []=>(none,5,l.length)
  | .bad (t :: _)=>(none,4,t.off))=_
 cases Px.module l.length 6001 ts with
 | ok m r=>rfl
 | bad r=>cases r <;> rfl
theorem parseP_err {l:List UInt8} {ts:List Tk} {er at':Nat} (h:Lx.lexL l=(ts,er,at')) (he:er≠0):Px.parseP l=(none,er,at'):=by
 unfold Px.parseP
 rw[h]
 cases er with
 | zero=>exact absurd rfl he
 | succ n=>rfl
set_option maxRecDepth 100000 in
set_option maxHeartbeats 1600000 in
theorem parse_any (s:ByteArray) (w:World) (hs:s.size≤140737488355328) (hL:Libs w) :
  Calls Tryz.prog 5 #[.string s] w (ParsePost w (Px.parseP s.data.toList)):=by
 obtain⟨ts,er,at',hr⟩:∃ ts er at',Lx.lexL s.data.toList=(ts,er,at'):=⟨_,_,_,rfl⟩
 have hlen:s.data.toList.length=s.size:=by simp
 have HL:=hid hL
 by_cases h0:er=0
 ·subst h0
  have hp:=parseP_ok hr
  obtain⟨rfl,f1,f2,f3,f4⟩:=lex_facts hr
  rw[hlen] at f1 hp
  have HP:=hid hp
  have HR:=hid hr
  have HF3:=hid f3
  have HF4:=hid f4
  clear hr hp hlen hL f3 f4
  go_enter Tryz.func5,Tryz.ntmps5
  go_wp2_with fail
  refine(lex_spec s _ hs (HL.out.below ((Below.refl _ w).alloc (Nat.le_refl _) _) (Nat.le_refl _)) _ _ _ HR.out).mono ?_
  rintro e w1 ⟨a,cap,rfl,hrow,hb1⟩
  have HB1:Hid (Below w.heap.size w w1):=hid (((Below.refl _ w).alloc (Nat.le_refl _) _).trans (hb1.mono (by simp)))
  have HD1:Hid (Blk w1 w.heap.size 29 #[.string ⟨#[]⟩,.slice none 0 0,.slice none 0 0,.slice none 0 0,.slice none 0 0,.slice none 0 0]):=hid ((Blk.new w _ _).keep (Inv_below_fr hb1) (by simp))
  have hz1:w.heap.size<w1.heap.size:=HD1.out.lt
  obtain⟨Tb,ht1,ht2,ht3⟩:=tokv_of hrow (fun _=>trivial)
  obtain⟨Tb',ht4,ht5⟩:∃ Tb',Tb'<w1.heap.size∧TokV w1 Tb' (.slice a ts.length cap) ts:=by
   by_cases hn:ts=[]
   ·exact⟨w.heap.size,hz1,.inl ⟨hn,a,cap,by rw[hn];rfl⟩⟩
   ·exact⟨Tb,ht2 hn,ht3⟩
  have HT:=hid ht5
  clear hb1 hrow ht1 ht2 ht3 ht5
  go_wp2_with fail
  refine(newReader_any Tb' s.size a ts.length cap ts _ HT.out ht4 f2 f1 HF3.out HF4.out (HL.out.below HB1.out (Nat.le_refl _)).1).mono ?_
  rintro e w2 ⟨c,hcs,hct,rfl,hi,hf,hcR⟩
  have HI:=hid hi
  have HF2:=hid hf
  have hD2:=HD1.out.keep hf (by simp)
  have HD2:=hid hD2
  have HCS:=hid hcs
  have hz2:w1.heap.size≤w2.heap.size:=hf.size
  have hRR:c.R<w2.heap.size:=hi.lt.1
  clear hi hf hcs hct hD2
  go_wp2_with fail
  refine(read_any c ts w2 HI.out 6001 (by omega)).mono ?_
  rintro e w3 ⟨hf3,hm⟩
  rw[HCS.out] at hm
  have hp:=HP.out
  have hF:Fr [] w w3:=by
   have h1:Fr [c.R] w w2:=Fr.trans (b:=w1) (Fr.of_below HB1.out (Nat.le_refl _) _) (HF2.out.mono (fun k _ hk=>by cases hk))
   refine(h1.trans hf3).drop (X:=[]) ?_
   omega
  have hD3:=HD2.out.keep hf3 (by simp;omega)
  have HD3:=hid hD3
  have hlD:w.heap.size<w3.heap.size:=hD3.lt
  have HFF:=hid hF
  have hz3:w2.heap.size≤w3.heap.size:=hf3.size
  clear hf3 hF hD3
  cases hq:Px.module s.size 6001 ts with
  | ok M r =>
   rw[hq] at hm hp
   obtain⟨cs,rfl,hrep⟩:=hm
   obtain⟨y1,y2,y3,y4,y5,y6,rfl⟩:=cells_6 (hrep.len.trans rfl)
   obtain⟨s1,rfl⟩:=hrep.kind 0 rfl (kind_modQ M 0 rfl)
   obtain⟨p2,n2,c2,rfl⟩:=hrep.kind 1 rfl (kind_modQ M 1 rfl)
   obtain⟨p3,n3,c3,rfl⟩:=hrep.kind 2 rfl (kind_modQ M 2 rfl)
   obtain⟨p4,n4,c4,rfl⟩:=hrep.kind 3 rfl (kind_modQ M 3 rfl)
   obtain⟨p5,n5,c5,rfl⟩:=hrep.kind 4 rfl (kind_modQ M 4 rfl)
   obtain⟨p6,n6,c6,rfl⟩:=hrep.kind 5 rfl (kind_modQ M 5 rfl)
   have HREP:=hid hrep
   have HPP:=hid hp
   clear hrep hp hq
   obtain⟨a0,a1,a2,a3,a4,a5,b0,b1,b2,b3,b4,b5⟩:=HD3.out.cf6
   go_wp2_with fail
   refine bodyPost_ret (v:=.tuple #[.agg #[.string s1,.slice p2 n2 c2,.slice p3 n3 c3,.slice p4 n4 c4,.slice p5 n5 c5,.slice p6 n6 c6],.int .i64 0,.int .i64 0]) (by simp[results,Tryz.results5,go_sem,a0,a1,a2,a3,a4,a5,hlD]) rfl ?_
   have hfs:Fr [w.heap.size] w3 ((((((w3.setCell ⟨w.heap.size,0,none⟩ (.string s1)).setCell ⟨w.heap.size,1,none⟩ (.slice p2 n2 c2)).setCell ⟨w.heap.size,2,none⟩ (.slice p3 n3 c3)).setCell ⟨w.heap.size,3,none⟩ (.slice p4 n4 c4)).setCell ⟨w.heap.size,4,none⟩ (.slice p5 n5 c5)).setCell ⟨w.heap.size,5,none⟩ (.slice p6 n6 c6)):=by
    repeat' (first|with_reducible exact Fr.refl _ _|with_reducible refine Fr.setCell ?_ (Or.inl ?_) _|(simp;done))
   unfold ParsePost
   rw[HPP.out]
   exact⟨((HFF.out.mono (fun k _ hk=>by cases hk)).trans hfs).drop (Nat.le_refl _),_,rfl,rep_own (b:=w.heap.size) HREP.out (X:=[w.heap.size]) hfs (by simp;omega) (by omega)⟩
  | bad r =>
   rw[hq] at hm hp
   have he:e=.returned (.tuple #[zeroM,.int .i64 (errOf r),.int .i64 (offOf s.size r)]):=by rw[← HCS.out];rw[HCS.out];exact hm
   subst he
   have HPP:Hid (Px.parseP s.data.toList=(none,errOf r,offOf s.size r)):=hid (by rw[hp];cases r <;> rfl)
   clear hm hp hq
   obtain⟨a0,a1,a2,a3,a4,a5,b0,b1,b2,b3,b4,b5⟩:=HD3.out.cf6
   go_wp2_with fail
   refine bodyPost_ret (v:=.tuple #[zeroM,.int .i64 (errOf r),.int .i64 (offOf s.size r)]) (by simp[results,Tryz.results5,go_sem,a0,a1,a2,a3,a4,a5,hlD]) rfl ?_
   have hfs:Fr [w.heap.size] w3 ((((((w3.setCell ⟨w.heap.size,0,none⟩ (.string ⟨#[]⟩)).setCell ⟨w.heap.size,1,none⟩ (.slice none 0 0)).setCell ⟨w.heap.size,2,none⟩ (.slice none 0 0)).setCell ⟨w.heap.size,3,none⟩ (.slice none 0 0)).setCell ⟨w.heap.size,4,none⟩ (.slice none 0 0)).setCell ⟨w.heap.size,5,none⟩ (.slice none 0 0)):=by
    repeat' (first|with_reducible exact Fr.refl _ _|with_reducible refine Fr.setCell ?_ (Or.inl ?_) _|(simp;done))
   unfold ParsePost
   rw[HPP.out]
   exact⟨((HFF.out.mono (fun k _ hk=>by cases hk)).trans hfs).drop (Nat.le_refl _),rfl⟩
 ·have hp:=parseP_err hr h0
  have he0:((er:Int) != 0)=true:=by simp;omega
  have HP:=hid hp
  have HR:=hid hr
  clear hr hp hlen hL h0
  go_enter Tryz.func5,Tryz.ntmps5
  go_wp2_with fail
  refine(lex_spec s _ hs (HL.out.below ((Below.refl _ w).alloc (Nat.le_refl _) _) (Nat.le_refl _)) _ _ _ HR.out).mono ?_
  rintro e w1 ⟨a,cap,rfl,hrow,hb1⟩
  have HB1:Hid (Fr [] w w1):=hid (((Fr.refl _ w).alloc _).trans (Inv_below_fr hb1))
  have HD1:Hid (Blk w1 w.heap.size 29 #[.string ⟨#[]⟩,.slice none 0 0,.slice none 0 0,.slice none 0 0,.slice none 0 0,.slice none 0 0]):=hid ((Blk.new w _ _).keep (Inv_below_fr hb1) (by simp))
  have hlD:=HD1.out.lt
  clear hb1 hrow
  obtain⟨a0,a1,a2,a3,a4,a5,b0,b1,b2,b3,b4,b5⟩:=HD1.out.cf6
  go_wp2_with fail
  refine bodyPost_ret (v:=.tuple #[zeroM,.int .i64 er,.int .i64 at']) (by simp[results,Tryz.results5,go_sem,a0,a1,a2,a3,a4,a5,hlD]) rfl ?_
  have hfs:Fr [w.heap.size] w1 ((((((w1.setCell ⟨w.heap.size,0,none⟩ (.string ⟨#[]⟩)).setCell ⟨w.heap.size,1,none⟩ (.slice none 0 0)).setCell ⟨w.heap.size,2,none⟩ (.slice none 0 0)).setCell ⟨w.heap.size,3,none⟩ (.slice none 0 0)).setCell ⟨w.heap.size,4,none⟩ (.slice none 0 0)).setCell ⟨w.heap.size,5,none⟩ (.slice none 0 0)):=by
   repeat' (first|with_reducible exact Fr.refl _ _|with_reducible refine Fr.setCell ?_ (Or.inl ?_) _|(simp;done))
  unfold ParsePost
  rw[HP.out]
  exact⟨((HB1.out.mono (fun k _ hk=>by cases hk)).trans hfs).drop (Nat.le_refl _),rfl⟩
theorem parse_spec (s:ByteArray) (w:World) (hs:s.size≤140737488355328) (hL:Libs w) (r:Option ModD × Nat × Nat) (h:Px.parseP s.data.toList=r) :
  Calls Tryz.prog 5 #[.string s] w (ParsePost w r):=by
 subst h;exact parse_any s w hs hL
theorem RowV.get {w:World} {N:Nat→Prop} {E s n:Nat} {q:Q} {v:Value} (h:RowV w N E s n q v) (hn:n≠0) :
  ∃ g cap xs,v=.slice (some ⟨g,0,none⟩) n cap∧N g∧g<w.heap.size∧n≤cap∧cap≤maxLen∧xs.length=n * s∧(∀ j,j<n * s→w.cell? ⟨g,j,none⟩=xs[j]?)∧Rep w N q xs:=by
 rcases h with ⟨_,rfl,_⟩|⟨g,cap,cur,xs,rfl,b,hg,c0,c1,c2,c3,c4,c5,hq⟩
 ·exact absurd rfl hn
 ·refine⟨g,cap,xs,rfl,hg,(Array.getElem?_eq_some_iff.1 c0).1,c1,c2,c5,fun j hj=>?_,hq⟩
  have e:w.cell? ⟨g,j,none⟩=cur[j]?:=by simp[World.cell?,c0]
  rw[e,← c4,List.getElem?_take,if_pos hj];simp
theorem RowV.none {w:World} {N:Nat→Prop} {E s:Nat} {q:Q} {v:Value} (h:RowV w N E s 0 q v):v=.slice none 0 0:=by
 rcases h with ⟨h,_⟩|⟨g,cap,cur,xs,rfl,b,_⟩
 ·exact h
 ·exact absurd rfl b
abbrev pt1:ByteArray:=⟨#[109,111,100,117,108,101,32,109,59]⟩
abbrev pt2:ByteArray:=⟨#[109,111,100,117,108,101,32,109,59,32,102,110,32,102,40,41,32,45,62,32,73,110,116,32,123,32,108,101,116,32,120,32,61,32,53,59,32,114,101,116,117,114,110,32,120,59,32,125]⟩
abbrev pt3:ByteArray:=⟨#[109,111,100,117,108,101,32,109,59,32,102,110,32,102,40,41,32,45,62,32,73,110,116,32,123,32,108,101,116,32,120,32,61,32,59,32,125]⟩
abbrev pt4:ByteArray:=⟨#[109,111,100,117,108,101,32,109,59,32,100,97,116,97]⟩
abbrev pt5:ByteArray:=⟨#[109,111,100,117,108,101,32,105,102,59]⟩
abbrev pt6:ByteArray:=⟨#[109,111,100,117,108,101,32,109,59,32,36]⟩
abbrev pt7:ByteArray:=⟨#[109,111,100,117,108,101,32,109,59,32,100,97,116,97,32,108,105,115,116,60,84,62,32,123,32,110,105,108,44,32,99,111,110,115,40,84,44,32,66,111,120,60,108,105,115,116,60,84,62,62,41,32,125,32,100,114,111,112,32,51,59]⟩
theorem ptr1:Px.parseP pt1.data.toList=(some ⟨[109],[],[],[],[],[]⟩,0,0):=by kernel_rfl
theorem ptr2:Px.parseP pt2.data.toList=(some ⟨[109],[],[],[],[],[.mk [102] [] [] [] [] (.mk [73,110,116] [] 20) [.mk 1 [120] [] [] ⟨1,[],[],[],[],5,[],34⟩ [] [] [] [] 26,.mk 7 [120] [] [] Px.expr0 [] [] [] [] 37] 10]⟩,0,0):=by kernel_rfl
theorem ptr3:Px.parseP pt3.data.toList=(none,4,34):=by kernel_rfl
theorem ptr4:Px.parseP pt4.data.toList=(none,5,14):=by kernel_rfl
theorem ptr5:Px.parseP pt5.data.toList=(none,4,7):=by kernel_rfl
theorem ptr6:Px.parseP pt6.data.toList=(none,3,10):=by kernel_rfl
theorem ptr7:Px.parseP pt7.data.toList=(some ⟨[109],[],[⟨[108,105,115,116],[[84]],[⟨[110,105,108],[],25⟩,⟨[99,111,110,115],[.mk [84] [] 35,.mk [66,111,120] [.mk [108,105,115,116] [.mk [84] [] 47] 42] 38],30⟩],3,10⟩],[],[],[]⟩,0,0):=by kernel_rfl
end Go.Proofs.YtghohohagbbajaaGreatDoor
