/- part of the proof -/
import Derived.Test.YtghohohagbbajaaGreatDoorYB
import Derived.Maps.OwnSet
import Derived.Carry
import Derived.Lib.SlBytesConst
import Derived.Test.YtghohohagbbajaaGreatDoorYC
set_option linter.unusedVariables false
set_option linter.unusedSimpArgs false
set_option linter.unusedSectionVars false
namespace Go.Proofs.YtghohohagbbajaaGreatDoor
open Go.RowKit Go.Lib
theorem conv_const (w:World) (C:Array Value) (n c N:Nat) (h:w.heap.size=N) :
  (convert 107 107 (.slice (some ⟨N,0,none⟩) n c)).run Tryz.prog (w.alloc (.cells C 5))=.ok (.slice (some ⟨N,0,none⟩) n c) (w.alloc (.cells C 5 (C.size,C.size+1))):=by
 subst h;exact Lib.run_convert_bytes_const (P:=Tryz.prog) w 107 5 C n c Tryz.underlying107 Tryz.underlying5
structure TabF (W:World) (b m:Nat) (f:Nat→Nat):Prop where
 cls:∀ i,i<256→W.cell? ⟨b,i,none⟩=some (.int .u8 (f i))
 map:W.cell? ⟨b,256,none⟩=some (.map (some m))
 free:∀ i,W.frozen? ⟨b,i,none⟩=false
def upd (f:Nat→Nat) (c v:Nat) (i:Nat):Nat:=if i=c then v else f i
def bl (k:Nat):Nat:=[32,9,13,10].getD k 0
def fA (k i:Nat):Nat:=if i∈[32,9,13,10].take k then 1 else 0
def rng (f:Nat→Nat) (lo v n i:Nat):Nat:=if lo≤i∧i<lo+n then v else f i
theorem bl_lt (k:Nat) (h:k<4):bl k<256:=by
 match k,h with
 | 0,_=>decide
 | 1,_=>decide
 | 2,_=>decide
 | 3,_=>decide
theorem fA_step (k:Nat) (h:k<4) (i:Nat):upd (fA k) (bl k) 1 i=fA (k+1) i:=by
 unfold upd fA
 match k,h with
 | 0,_=>simp[bl]
 | 1,_=>simp[bl];split <;> simp_all
 | 2,_=>simp[bl];split <;> simp_all
 | 3,_=>simp[bl];split <;> simp_all
theorem rng_step (f:Nat→Nat) (lo v n i:Nat):upd (rng f lo v n) (lo+n) v i=rng f lo v (n+1) i:=by
 unfold upd rng
 by_cases h:i=lo+n
 ·rw[if_pos h,if_pos (by omega)]
 ·rw[if_neg h]
  by_cases h2:lo≤i∧i<lo+n
  ·rw[if_pos h2,if_pos (by omega)]
  ·rw[if_neg h2,if_neg (by omega)]
theorem rng_zero (f:Nat→Nat) (lo v i:Nat):rng f lo v 0 i=f i:=by
 unfold rng;rw[if_neg (by omega)]
theorem TabF.congr {W:World} {b m:Nat} {f g:Nat→Nat} (h:TabF W b m f) (e:∀ i,f i=g i):TabF W b m g:=⟨fun i hi=>by rw[← e];exact h.cls i hi,h.map,h.free⟩
theorem TabF.set {W:World} {b m:Nat} {f:Nat→Nat} (h:TabF W b m f) (c v:Nat) (hc:c<256):TabF (W.setCell ⟨b,c,none⟩ (.int .u8 v)) b m (upd f c v):=by
 refine⟨fun i hi=>?_,?_,fun i=>?_⟩
 ·unfold upd
  by_cases e:i=c
  ·subst e
   rw[if_pos rfl];exact World.cell?_setCell_same' _ _ _ (by rw[h.cls i hi];rfl)
  ·rw[if_neg e,World.cell?_setCell_other _ _ _ _ (fun h=>by have h':c=_:=congrArg Addr.off h;dsimp only at h';omega)];exact h.cls i hi
 ·rw[World.cell?_setCell_other _ _ _ _ (fun h=>by have h':c=_:=congrArg Addr.off h;dsimp only at h';omega)];exact h.map
 ·rw[World.frozen?_setCell];exact h.free i
def f2:Nat→Nat→Nat:=rng (fA 4) 97 4
def f3:Nat→Nat→Nat:=rng (f2 26) 65 4
def f4:Nat→Nat→Nat:=rng (f3 26) 48 8
theorem f_all (i:Nat) (h:i<256):upd (upd (f4 10) 35 2) 95 16 i=Lx.clsN i:=by
 have:∀ i,i<256→upd (upd (f4 10) 35 2) 95 16 i=Lx.clsN i:=by decide +kernel
 exact this i h
set_option maxRecDepth 100000 in
theorem zc (v:Value):Tryz.zeroCells106.setIfInBounds 256 v=(List.replicate 256 (Value.int .u8 0) ++ [v]).toArray:=by kernel_rfl
theorem zc_low (v:Value) (i:Nat) (h:i<256):(Tryz.zeroCells106.setIfInBounds 256 v)[i]?=some (.int .u8 0):=by
 rw[zc,List.getElem?_toArray,List.getElem?_append_left (by rw[List.length_replicate];exact h),List.getElem?_replicate,if_pos h]
theorem zc_top (v:Value):(Tryz.zeroCells106.setIfInBounds 256 v)[256]?=some v:=by
 rw[zc,List.getElem?_toArray,List.getElem?_append_right (by rw[List.length_replicate];exact Nat.le_refl _),List.length_replicate];rfl
theorem tab_start (w:World) (m:Nat):TabF (w.alloc (.cells (Tryz.zeroCells106.setIfInBounds 256 (.map (some m))) 106)) w.heap.size m (fA 0) :=
 ⟨fun i hi=>by rw[World.cell?_alloc_new,zc_low _ _ hi];simp[fA],by rw[World.cell?_alloc_new,zc_top],fun i=>World.frozen?_alloc_at _ _ _ _ rfl⟩
theorem TabF.alloc {W:World} {b m:Nat} {f:Nat→Nat} (h:TabF W b m f) (hb:b<W.heap.size) (o:Obj):TabF (W.alloc o) b m f :=
 ⟨fun i hi=>(World.cell?_alloc_past _ _ _ hb).trans (h.cls i hi),(World.cell?_alloc_past _ _ _ hb).trans h.map,fun i=>by rw[World.frozen?_of_block (w:=W) (Below.heap_alloc _ _ _ hb)];exact h.free i⟩
theorem bl_row (w:World) (j:Nat) (h:j<4):(w.alloc (.cells #[Value.int IntKind.u8 32,Value.int IntKind.u8 9,Value.int IntKind.u8 13,Value.int IntKind.u8 10] 5 (4,5))).cell? ⟨w.heap.size,j,none⟩=some (.int .u8 (bl j)):=by
 rw[World.cell?_alloc_mark]
 match j,h with
 | 0,_=>rfl
 | 1,_=>rfl
 | 2,_=>rfl
 | 3,_=>rfl
def symB (j:Nat):ByteArray:=⟨(Lx.syms.getD j []).toArray⟩
theorem ascii_const:∀ b∈([60,32,62,32,40,32,41,32,123,32,125,32,91,32,93,32,44,32,59,32,58,32,58,58,32,46,32,61,32,61,61,32,43,32,45,32,42,32,38,32,38,33,32,45,62]:List UInt8),b.toNat<128:=by decide +kernel
theorem fields_const (w : World) (hS : Lib.TabIs Tryz.prog w "strings.asciiSpace" .u8 Lib.asciiSpaceTab) :
  Calls Tryz.prog 17 #[.string ⟨#[60,32,62,32,40,32,41,32,123,32,125,32,91,32,93,32,44,32,59,32,58,32,58,58,32,46,32,61,32,61,61,32,43,32,45,32,42,32,38,32,38,33,32,45,62]⟩] w fun e w' =>
   e=.returned (.slice (some ⟨w.heap.size,0,none⟩) 21 21)∧(∀ j,j<21→w'.cell? ⟨w.heap.size,j,none⟩=some (.string (symB j)))∧w'.heap.size=w.heap.size+1∧Below w.heap.size w w':=by
 refine(Tryz.strings_Fields _ w (by decide) (fun j b h=>ascii_const b (List.mem_of_getElem? h)) hS).mono ?_
 rintro e w' ⟨rfl,rfl⟩
 have hf:Lib.fields [60,32,62,32,40,32,41,32,123,32,125,32,91,32,93,32,44,32,59,32,58,32,58,58,32,46,32,61,32,61,61,32,43,32,45,32,42,32,38,32,38,33,32,45,62]=Lx.syms:=by decide +kernel
 refine⟨?_,?_,by simp,(Below.refl _ _).alloc (Nat.le_refl _) _⟩
 ·show Ending.returned (.slice _ (Lib.fields [60,32,62,32,40,32,41,32,123,32,125,32,91,32,93,32,44,32,59,32,58,32,58,58,32,46,32,61,32,61,61,32,43,32,45,32,42,32,38,32,38,33,32,45,62]).length (Lib.fields [60,32,62,32,40,32,41,32,123,32,125,32,91,32,93,32,44,32,59,32,58,32,58,58,32,46,32,61,32,61,61,32,43,32,45,32,42,32,38,32,38,33,32,45,62]).length)=_
  rw[hf];rfl
 ·intro j hj
  rw[World.cell?_alloc_new]
  show ((Lib.fields [60,32,62,32,40,32,41,32,123,32,125,32,91,32,93,32,44,32,59,32,58,32,58,58,32,46,32,61,32,61,61,32,43,32,45,32,42,32,38,32,38,33,32,45,62]).map fun l=>Value.string ⟨l.toArray⟩).toArray[j]?=_
  rw[hf]
  have:∀ j,j<21→(Lx.syms.map fun l=>Value.string ⟨l.toArray⟩).toArray[j]?=some (Value.string (symB j)):=by
   intro j hj
   have hl:j<Lx.syms.length:=hj
   simp[symB,List.getD_eq_getElem?_getD,List.getElem?_eq_getElem hl]
  exact this j hj
def putAll (L:List (List UInt8)) (D:DataW Unit):DataW Unit:=L.foldl (fun D l=>D.put (.string l) (.lit (.bool true))) D
theorem putAll_at (L:List (List UInt8)) (l:List UInt8) (z:DataW Unit):∀ (D:DataW Unit),Maps.IsMap D→(putAll L D).atKey (.string l) z=if L.contains l then .lit (.bool true) else D.atKey (.string l) z:=by
 induction L with
 | nil=>intro D _;rfl
 | cons x r ih =>
  intro D h
  show (putAll r (D.put (.string x) (.lit (.bool true)))).atKey (.string l) z=_
  rw[ih _ (h.put _ _)]
  by_cases hr:l∈r
  ·simp[hr]
  ·by_cases hx:l=x
   ·subst hx
    simp[hr,Maps.atKey_put_same h (k:=.string l) trivial]
   ·have hne:(Lit.string l)≠.string x:=by intro h;injection h with h;exact hx h
    rw[Maps.atKey_put_other hne]
    simp[hr,hx]
theorem TabF.keep {W W':World} {b m B:Nat} {f:Nat→Nat} (h:TabF W b m f) (hb:Below B W W') (hB:b<B):TabF W' b m f :=
 ⟨fun i hi=>(hb.cell (p:=⟨b,i,none⟩) hB).trans (h.cls i hi),(hb.cell (p:=⟨b,256,none⟩) hB).trans h.map,fun i=>(hb.frozen (p:=⟨b,i,none⟩) hB).trans (h.free i)⟩
theorem ownsMap_keep {W W':World} {k:TypeId} {R:Value→Option (DataW Unit × List MemPlace)} {b n B:Nat} {D:DataW Unit} (h:W.ownsMap Tryz.prog k R b n D) (hb:Below B W W') (hB:b<B):W'.ownsMap Tryz.prog k R b n D:=by
 obtain⟨es,cl,ho,hr⟩:=h
 exact⟨es,cl,(hb.block b hB).trans ho,hr⟩
theorem TabF.grown {W W':World} {b m r:Nat} {f:Nat→Nat} (h:TabF W b m f) (hg:W.grownBy W' (some r)) (hb:b<W.heap.size) (hr:b≠r):TabF W' b m f:=by
 have e:W'.heap[b]?=W.heap[b]?:=hg.block b hb (fun e=>hr (by simpa using e))
 exact⟨fun i hi=>(World.cell?_of_block (w:=W) e).trans (h.cls i hi),(World.cell?_of_block (w:=W) e).trans h.map,fun i=>(World.frozen?_of_block (w:=W) e).trans (h.free i)⟩
theorem cell_grown {W W':World} {b r o:Nat} (hg:W.grownBy W' (some r)) (hb:b<W.heap.size) (hr:b≠r):W'.cell? ⟨b,o,none⟩=W.cell? ⟨b,o,none⟩ :=
 World.cell?_of_block (w:=W) (hg.block b hb (fun e=>hr (by simpa using e)))
theorem symB_size (j:Nat) (h:j<21):(symB j).size≤maxLen:=by
 have:∀ j,j<21→(symB j).size≤2:=by decide +kernel
 have:=this j h
 unfold maxLen;omega
theorem symB_data (j:Nat) (h:j<21):Lx.syms.take (j+1)=Lx.syms.take j ++ [(symB j).data.toList]:=by
 have:∀ j,j<21→Lx.syms.take (j+1)=Lx.syms.take j ++ [(symB j).data.toList]:=by decide +kernel
 exact this j h
theorem putAll_snoc (L:List (List UInt8)) (x:List UInt8) (D:DataW Unit):putAll (L ++ [x]) D=(putAll L D).put (.string x) (.lit (.bool true)):=by
 simp[putAll,List.foldl_append]
theorem putAll_syms (l:List UInt8):(putAll (Lx.syms.take 21) (.map [])).atKey (.string l) (.lit (.bool false))=.lit (.bool (Lx.isSym l)):=by
 rw[show Lx.syms.take 21=Lx.syms from rfl,putAll_at _ _ _ _ ⟨[],rfl⟩]
 unfold Lx.isSym
 cases h:Lx.syms.contains l <;> rfl
set_option maxRecDepth 100000 in
theorem newTables_any (w : World) (hS : Lib.TabIs Tryz.prog w "strings.asciiSpace" .u8 Lib.asciiSpaceTab) (hE : ErrAt w) : Calls Tryz.prog 14 #[] w fun e w' => e = .returned (.pointer (some ⟨w.heap.size + 1, 0, none⟩)) ∧ TabsM w' (w.heap.size + 1) w.heap.size ∧ Below w.heap.size w w' := by
 have hmm:=@run_makeMap Tryz.prog
 have kc:=conv_const
 have HS:=hid hS
 have HE:=hid hE
 clear hS hE
 go_enter Tryz.func14,Tryz.ntmps14
 go_wp2
 clear hmm kc
 go_loopw [3,15] (fun _ v W=>∃ k:Nat,k≤4∧v=.int .i64 k∧TabF W (w.heap.size+1) w.heap.size (fA k)∧(∀ j,j<4→W.cell? ⟨w.heap.size+1+1,j,none⟩=some (.int .u8 (bl j)))∧W.ownsMap (H:=Unit) Tryz.prog 9 (plainElem Tryz.prog 4) w.heap.size 0 (.map [])∧Below w.heap.size w W∧w.heap.size+1+1<W.heap.size) (fun _ v _=>4 - (RowKit.intOf v).toNat)
 case atStart =>
  refine⟨0,by omega,rfl,?_,?_,?_,?_,?_⟩
  ·have:=(tab_start (w.alloc (Obj.map #[] 0)) w.heap.size).alloc (by simp) (.cells #[Value.int IntKind.u8 32,Value.int IntKind.u8 9,Value.int IntKind.u8 13,Value.int IntKind.u8 10] 5 (4,5))
   simpa using this
  ·intro j hj
   have:=bl_row ((w.alloc (Obj.map #[] 0)).alloc (Obj.cells (Tryz.zeroCells106.setIfInBounds 256 (Value.map (some w.heap.size))) 106)) j hj
   simpa using this
  ·exact((World.ownsMap_made w Tryz.prog 9 (plainElem Tryz.prog 4)).alloc _).alloc _
  ·exact(((Below.refl _ w).alloc (Nat.le_refl _) _).alloc (by simp) _).alloc (by simp;omega) _
  ·simp
 case round =>
  obtain⟨k,hk,rfl,hT,hR,hM,hB,hZ⟩:=hrel
  by_cases hlt:k<4
  ·have hb:=bl_lt k hlt
   have hb2:(bl k:Int)<256:=by omega
   have h1:=hR k hlt
   have h2:=hT.cls (bl k) hb
   have h3:=hT.free (bl k)
   have HT:=hid hT
   have HR:=hid hR
   have HM:=hid hM
   clear hT hR hM
   go_wp2
   clear h1 h2 h3
   go_roundw
   case rel =>
    refine⟨k+1,by omega,by go_num,(HT.out.set (bl k) 1 hb).congr (fA_step k hlt),fun j hj=>?_,HM.out.setCell (by simp) _,hB.setCell (by simp) _,by simpa using hZ⟩
    rw[World.cell?_setCell_other _ _ _ _ (fun h=>by have h':w.heap.size+1=_:=congrArg Addr.block h;dsimp only at h';omega)];exact HR.out j hj
   case measure=>simp[RowKit.intOf];omega
  ·obtain rfl:k=4:=by omega
   clear hR
   have HT:=hid hT
   have HM:=hid hM
   clear hT hM hlt
   go_wp2
   go_loopw [4] (fun v W=>∃ k:Nat,k≤26∧v=.int .u8 ((97+k:Nat):Int)∧TabF W (w.heap.size+1) w.heap.size (f2 k)∧W.ownsMap (H:=Unit) Tryz.prog 9 (plainElem Tryz.prog 4) w.heap.size 0 (.map [])∧Below w.heap.size w W∧w.heap.size+1+1<W.heap.size) (fun v _=>123 - (RowKit.intOf v).toNat)
   case atStart=>exact⟨0,by omega,rfl,HT.out.congr (fun i=>(rng_zero _ _ _ i).symm),HM.out,hB,hZ⟩
   case round =>
    clear HT HM hB hZ
    obtain⟨k,hk,rfl,hT,hM,hB,hZ⟩:=hrel
    have HT:=hid hT
    have HM:=hid hM
    by_cases hlt:k<26
    ·have h2:=hT.cls (97+k) (by omega)
     have h3:=hT.free (97+k)
     clear hT hM
     go_wp2
     clear h2 h3
     go_roundw
     case rel=>exact⟨k+1,by omega,by go_num,(HT.out.set (97+k) 4 (by omega)).congr (rng_step _ _ _ k),HM.out.setCell (by simp) _,hB.setCell (by simp) _,by simpa using hZ⟩
     case measure=>simp[RowKit.intOf];omega
    ·clear hT hM
     obtain rfl:k=26:=by omega
     clear hlt
     go_wp2
     go_loopw [5] (fun v W=>∃ k:Nat,k≤26∧v=.int .u8 ((65+k:Nat):Int)∧TabF W (w.heap.size+1) w.heap.size (f3 k)∧W.ownsMap (H:=Unit) Tryz.prog 9 (plainElem Tryz.prog 4) w.heap.size 0 (.map [])∧Below w.heap.size w W∧w.heap.size+1+1<W.heap.size) (fun v _=>91 - (RowKit.intOf v).toNat)
     case atStart=>exact⟨0,by omega,rfl,HT.out.congr (fun i=>(rng_zero _ _ _ i).symm),HM.out,hB,hZ⟩
     case round =>
      clear HT HM hB hZ
      obtain⟨k,hk,rfl,hT,hM,hB,hZ⟩:=hrel
      have HT:=hid hT
      have HM:=hid hM
      by_cases hlt:k<26
      ·have h2:=hT.cls (65+k) (by omega)
       have h3:=hT.free (65+k)
       clear hT hM
       go_wp2
       clear h2 h3
       go_roundw
       case rel=>exact⟨k+1,by omega,by go_num,(HT.out.set (65+k) 4 (by omega)).congr (rng_step _ _ _ k),HM.out.setCell (by simp) _,hB.setCell (by simp) _,by simpa using hZ⟩
       case measure=>simp[RowKit.intOf];omega
      ·clear hT hM
       obtain rfl:k=26:=by omega
       clear hlt
       go_wp2
       go_loopw [6] (fun v W=>∃ k:Nat,k≤10∧v=.int .u8 ((48+k:Nat):Int)∧TabF W (w.heap.size+1) w.heap.size (f4 k)∧W.ownsMap (H:=Unit) Tryz.prog 9 (plainElem Tryz.prog 4) w.heap.size 0 (.map [])∧Below w.heap.size w W∧w.heap.size+1+1<W.heap.size) (fun v _=>58 - (RowKit.intOf v).toNat)
       case atStart=>exact⟨0,by omega,rfl,HT.out.congr (fun i=>(rng_zero _ _ _ i).symm),HM.out,hB,hZ⟩
       case round =>
        clear HT HM hB hZ
        obtain⟨k,hk,rfl,hT,hM,hB,hZ⟩:=hrel
        have HT:=hid hT
        have HM:=hid hM
        by_cases hlt:k<10
        ·have h2:=hT.cls (48+k) (by omega)
         have h3:=hT.free (48+k)
         clear hT hM
         go_wp2
         clear h2 h3
         go_roundw
         case rel=>exact⟨k+1,by omega,by go_num,(HT.out.set (48+k) 8 (by omega)).congr (rng_step _ _ _ k),HM.out.setCell (by simp) _,hB.setCell (by simp) _,by simpa using hZ⟩
         case measure=>simp[RowKit.intOf];omega
        ·clear hT hM
         obtain rfl:k=10:=by omega
         clear hlt
         have h1:=HT.out.cls 35 (by omega)
         have h2:=HT.out.cls 95 (by omega)
         have h3:=HT.out.free 35
         have h4:=HT.out.free 95
         go_wp2_with fail
         clear h1 h2 h3 h4
         obtain⟨W4,rfl⟩:∃ W4:World,W4=wr:=⟨_,rfl⟩
         refine(fields_const _ ?hs).mono ?_
         case hs=>exact Joins.tab_stays (g:=0) (by kernel_rfl) HS.out ((hB.setCell (by simp) _).setCell (by simp) _) (Nat.le_refl _)
         rintro e w' ⟨rfl,hc5,hz5,hb5⟩
         have HT5:=hid ((((HT.out.set 35 2 (by omega)).set 95 16 (by omega)).keep hb5 (by simp;omega)))
         have HM5:=hid (ownsMap_keep ((HM.out.setCell (a:=⟨w.heap.size+1,35,none⟩) (by simp) (Value.int .u8 (2:Nat))).setCell (a:=⟨w.heap.size+1,95,none⟩) (by simp) (Value.int .u8 (16:Nat))) hb5 (by simp;omega))
         have hB5:Below w.heap.size w w':=((hB.setCell (by simp) _).setCell (by simp) _).trans (hb5.mono (by simp;omega))
         have hz6:W4.heap.size<w'.heap.size:=by rw[hz5];simp
         have HC5:Hid (∀ j,j<21→w'.cell? ⟨W4.heap.size,j,none⟩=some (.string (symB j))):=by
          apply hid;intro j hj;simpa using hc5 j hj
         clear hc5 hz5 hb5 hB HT HM
         go_wp2_with fail
         go_loopw [8,62] (fun _ v W=>∃ k:Nat,k≤21∧v=.int .i64 k∧TabF W (w.heap.size+1) w.heap.size (upd (upd (f4 10) 35 2) 95 16)∧(∀ j,j<21→W.cell? ⟨W4.heap.size,j,none⟩=some (.string (symB j)))∧W.ownsMap (H:=Unit) Tryz.prog 9 (plainElem Tryz.prog 4) w.heap.size k (putAll (Lx.syms.take k) (.map []))∧Below w.heap.size w W∧W4.heap.size<W.heap.size) (fun _ v _=>21 - (RowKit.intOf v).toNat)
         case atStart=>exact⟨0,by omega,rfl,HT5.out,HC5.out,HM5.out,hB5,hz6⟩
         case round =>
          clear HT5 HC5 HM5 hB5 hz6
          obtain⟨k,hk,rfl,hT,hC,hM,hB,hY⟩:=hrel
          by_cases hlt:k<21
          ·have h1:=hC k hlt
           have h2:=hT.map
           have HT:=hid hT
           have HC:=hid hC
           have HM:=hid hM
           have HSB:=hid (symB_size k hlt)
           clear hT hC hM
           go_wp2_with (at_mapUpdate;refine wpList_mapUpdate_own _ rfl _ _ _ 74 rfl 9 4 keyed9 Tryz.underlying74 _ w.heap.size k _ rfl HM.out (by unfold maxLen;omega) _ _ _ rfl rfl (WideMaps.keyOf_string_mk Tryz.underlying9 HSB.out) _ [] (plainElem_bool Tryz.underlying4 true) ?_;intro w1 hown1 hgrow1)
           clear h1 h2
           go_roundw
           case rel=>exact⟨k+1,by omega,by go_num,HT.out.grown hgrow1 (by omega) (by omega),fun j hj=>(cell_grown hgrow1 hY (by omega)).trans (HC.out j hj),by rw[symB_data k hlt,putAll_snoc];exact hown1,hB.grown hgrow1 (by omega) (fun j e=>by simp at e;omega),Nat.lt_of_lt_of_le hY hgrow1.size⟩
           case measure=>simp[RowKit.intOf];omega
          ·obtain rfl:k=21:=by omega
           have HT:=hid hT
           have HM:=hid hM
           clear hT hC hM hlt
           go_wp2
           go_ret
           exact⟨rfl,⟨by omega,by omega,fun i hi=>by rw[HT.out.cls i hi,f_all i hi],⟨21,_,HT.out.map,HM.out,putAll_syms⟩,HE.out.below hB (Nat.le_refl _)⟩,hB⟩
end Go.Proofs.YtghohohagbbajaaGreatDoor
namespace Go.Proofs.YtghohohagbbajaaGreatDoor
open Go.RowKit Go.Shelf
attribute [local go_sem] Oper.semAt_some
def Libs (w : World) : Prop := Lib.TabIs Tryz.prog w "strings.asciiSpace" .u8 Lib.asciiSpaceTab ∧ ErrAt w
theorem Libs.below {w w':World} {B:Nat} (h:Libs w) (hb:Below B w w') (hB:w.heap.size≤B):Libs w' :=
 ⟨Joins.tab_stays (g:=0) (by kernel_rfl) h.1 hb hB,h.2.below hb hB⟩
def okAll (pre:List Lx.Yd):Prop:=pre.length≤6000∧∀ y∈pre,y.err=0
def lexV (r:List Lx.Tk × Nat × Nat) (v:Value):Value:=.tuple #[v,.int .i64 r.2.1,.int .i64 r.2.2]
def LexPost (w:World) (r:List Lx.Tk × Nat × Nat) (e:Ending) (w':World):Prop :=
 ∃ v,e=.returned (lexV r v)∧w'.ownsRow w.heap.size 73 4 v r.1.length (tksCells r.1)∧(r.1=[]→v=.slice none 0 0)∧Below w.heap.size w w'
theorem collect_ok (q:List Lx.Yd):∀ (n:Nat) (r:List Lx.Yd) (acc:List Lx.Tk),n+q.length≤6000→(∀ y∈q,y.err=0)→Lx.collect n (q ++ r) acc=Lx.collect (n+q.length) r (acc ++ q.map (·.tk)):=by
 induction q with
 | nil=>intro n r acc _ _;simp
 | cons y q ih =>
  intro n r acc hn hq
  have h0:y.err=0:=hq y (by simp)
  simp only[List.length_cons] at hn
  rw[List.cons_append,Lx.collect,if_neg (by omega),if_neg (by omega),ih (n+1) r _ (by omega) (fun z hz=>hq z (by simp[hz]))]
  simp only[List.length_cons,List.map_cons,List.append_assoc,List.cons_append,List.nil_append]
  rw[show n+1+q.length=n+(q.length+1) from by omega]
theorem collect_done (ys:List Lx.Yd) (h:okAll ys):Lx.collect 0 ys []=(ys.map (·.tk),0,0):=by
 have:=collect_ok ys 0 [] [] (by have:=h.1;omega) h.2
 rw[List.append_nil] at this
 rw[this];simp[Lx.collect]
def Stops (pre:List Lx.Yd) (er off:Nat):Prop:=∃ q y,pre=q ++ [y]∧okAll q∧((y.err≠0∧er=y.err)∨(y.err=0∧q.length=6000∧er=2))∧off=y.tk.off
theorem collect_stop (ys pre:List Lx.Yd) (er off:Nat) (hp:pre <+: ys) (h:Stops pre er off):Lx.collect 0 ys []=([],er,off):=by
 obtain⟨q,y,rfl,hq,hc,rfl⟩:=h
 obtain⟨r,rfl⟩:=hp
 rw[List.append_assoc,collect_ok q 0 _ [] (by have:=hq.1;omega) hq.2,List.cons_append,Lx.collect]
 rcases hc with ⟨h1,rfl⟩|⟨h1,h2,rfl⟩
 ·rw[if_pos h1]
 ·rw[if_neg (by omega),if_pos (by omega)]
structure LxInv (n0 nb:Nat) (w:World) (pre:List Lx.Yd) (W:World):Prop where
 list:∃ v,Boxed W (n0+1+1+1) 53 v∧W.ownsRow nb 73 4 v pre.length (tksCells (pre.map (·.tk)))∧(pre.length=0→v=.slice none 0 0)
 r2:Boxed W n0 53 (.slice none 0 0)
 r3:Boxed W (n0+1) 30 (.int .i64 0)
 r4:Boxed W (n0+1+1) 3 (.int .i64 0)
 below:Below n0 w W
 ok:okAll pre
 room:nb≤W.heap.size
structure InvX (n0:Nat) (w:World) (pre:List Lx.Yd) (W:World) (er off:Nat):Prop where
 r2:Boxed W n0 53 (.slice none 0 0)
 r3:Boxed W (n0+1) 30 (.int .i64 er)
 r4:Boxed W (n0+1+1) 3 (.int .i64 off)
 below:Below n0 w W
 stops:Stops pre er off
theorem boxed_keep {X Y:World} {row:Option Nat} {b:Nat} {t:TypeId} {v:Value} (h:Boxed X b t v) (hg:X.grownBy Y row) (hr:∀ r,row=some r→∃ o:Obj,X.heap[r]?=some o∧o.isCells=false):Boxed Y b t v :=
 h.kept hg (fun e'=>by
  obtain⟨o,ho,hc⟩:=hr b e'.symm
  rw[show X.heap[b]?=_ from h] at ho;cases ho;cases hc)
theorem row_keep {X Y:World} {row:Option Nat} {base k:Nat} {v:Value} {xs:List Value} (h:X.ownsRow base 73 4 v k xs) (hg:X.grownBy Y row) (hr:∀ r,row=some r→∃ o:Obj,X.heap[r]?=some o∧o.isCells=false):Y.ownsRow base 73 4 v k xs:=by
 refine h.kept hg ?_
 rcases h.2 with ⟨rfl,_⟩|⟨g,cap,cur,rfl,_,hgb,_⟩
 ·exact .inl rfl
 ·refine .inr fun e'=>?_
  obtain⟨o,ho,hc⟩:=hr g (by simpa [Value.ownBlock] using e'.symm)
  rw[hgb] at ho;cases ho;cases hc
theorem LxInv.own {n0 nb B:Nat} {w:World} (hn:n0≤w.heap.size) (hB:n0≤B):OwnFrom B (LxInv n0 nb w):=fun s X Y row hs hg hr=>by
 have hr':∀ r,row=some r→∃ o:Obj,X.heap[r]?=some o∧o.isCells=false:=fun r e=>(hr r e).2
 obtain⟨v,h1,h2,h3⟩:=hs.list
 exact⟨⟨v,boxed_keep h1 hg hr',row_keep h2 hg hr',h3⟩,boxed_keep hs.r2 hg hr',boxed_keep hs.r3 hg hr',boxed_keep hs.r4 hg hr',ownFrom_below (β:=Unit) hn hB () X Y row hs.below hg hr,hs.ok,Nat.le_trans hs.room hg.size⟩
theorem InvX.own {n0 B:Nat} {w:World} (hn:n0≤w.heap.size) (hB:n0≤B) (c:Code):OwnFrom B (fun pre W=>c=.ret∧∃ er off,InvX n0 w pre W er off):=fun s X Y row hs hg hr=>by
 have hr':∀ r,row=some r→∃ o:Obj,X.heap[r]?=some o∧o.isCells=false:=fun r e=>(hr r e).2
 obtain⟨hc,er,off,hs⟩:=hs
 exact⟨hc,er,off,boxed_keep hs.r2 hg hr',boxed_keep hs.r3 hg hr',boxed_keep hs.r4 hg hr',ownFrom_below (β:=Unit) hn hB () X Y row hs.below hg hr,hs.stops⟩
theorem LxInv.alloc {n0 nb:Nat} {w:World} {pre:List Lx.Yd} {W:World} (hn:n0≤w.heap.size) (h:LxInv n0 nb w pre W) (o:Obj):LxInv n0 nb w pre (W.alloc o) :=
 LxInv.own hn (Nat.le_refl _) pre W _ none h (World.grownBy_alloc W o none) (fun r e=>by cases e)
def TokBox (W:World) (B:Nat) (y:Lx.Yd):Prop:=W.heap[B]?=some (.cells #[.int .i64 y.tk.kind,.string ⟨y.tk.text.toArray⟩,.int .i64 y.tk.num,.int .i64 y.tk.off] 73 (0,0))
theorem TokBox.lt {W:World} {B:Nat} {y:Lx.Yd} (h:TokBox W B y):B<W.heap.size:=(Array.getElem?_eq_some_iff.1 h).1
theorem TokBox.ne {W:World} {B C:Nat} {y:Lx.Yd} {t:TypeId} {v:Value} (h:TokBox W B y) (h':Boxed W C t v):B≠C:=fun e=>by
 subst e
 have:=(show W.heap[B]?=_ from h).symm.trans h'
 simp at this
theorem TokBox.cell {W:World} {B:Nat} {y:Lx.Yd} (h:TokBox W B y) (i:Nat):W.cell? ⟨B,i,none⟩=#[Value.int .i64 y.tk.kind,.string ⟨y.tk.text.toArray⟩,.int .i64 y.tk.num,.int .i64 y.tk.off][i]?:=by simp[World.cell?,show W.heap[B]?=_ from h]
theorem boxed_other {W:World} {b c:Nat} {t:TypeId} {v:Value} (u:Value) (h:Boxed W b t v) (hne:b≠c):Boxed (W.setCell ⟨c,0,none⟩ u) b t v :=
 h.kept (grownBy_setCell' W c u) (by simpa using hne)
theorem LxInv.stop {n0 nb:Nat} {w:World} {pre:List Lx.Yd} {W:World} (h:LxInv n0 nb w pre W) (y:Lx.Yd) (er:Nat) (hs:Stops (pre ++ [y]) er y.tk.off) :
  InvX n0 w (pre ++ [y]) (((W.setCell ⟨n0,0,none⟩ (.slice none 0 0)).setCell ⟨n0+1,0,none⟩ (.int .i64 er)).setCell ⟨n0+1+1,0,none⟩ (.int .i64 y.tk.off)).drew er y.tk.off:=by
 refine⟨?_,?_,?_,?_,hs⟩
 ·exact boxed_other _ (boxed_other _ (h.r2.set _) (by omega)) (by omega)
 ·exact boxed_other _ ((boxed_other _ h.r3 (by omega)).set _) (by omega)
 ·exact(boxed_other _ (boxed_other _ h.r4 (by omega)) (by omega)).set _
 ·exact(((h.below.setCell (p:=⟨n0,0,none⟩) (Nat.le_refl _) _).setCell (p:=⟨n0+1,0,none⟩) (by simp) _).setCell (p:=⟨n0+1+1,0,none⟩) (by simp;omega) _).drew
theorem stop_keeps (B n0:Nat) (W:World) (a b c:Value):KeepsFrom B W (((W.setCell ⟨n0,0,none⟩ a).setCell ⟨n0+1,0,none⟩ b).setCell ⟨n0+1+1,0,none⟩ c).drew :=
 ((((KeepsOthers.setCell W _ _).trans (KeepsOthers.setCell _ _ _)).trans (KeepsOthers.setCell _ _ _)).trans (KeepsOthers.drew _)).from B
theorem row_shape {W:World} {base k:Nat} {v:Value} {xs:List Value} (h:W.ownsRow base 73 4 v k xs):∃ a cap,v=.slice a k cap:=by
 rcases h.2 with ⟨rfl,rfl⟩|⟨g,cap,_,rfl,_⟩
 ·exact⟨none,0,rfl⟩
 ·exact⟨_,cap,rfl⟩
theorem row_mono {W:World} {base base' k:Nat} {v:Value} {xs:List Value} (h:W.ownsRow base 73 4 v k xs) (hb:base'≤base):W.ownsRow base' 73 4 v k xs:=by
 refine⟨h.1,?_⟩
 rcases h.2 with h|⟨g,cap,cur,e1,e2,e3⟩
 ·exact .inl h
 ·exact .inr ⟨g,cap,cur,e1,by omega,e3⟩
theorem LxInv.append {n0 nb:Nat} {w:World} {pre:List Lx.Yd} {W w1:World} {y:Lx.Yd} {v v':Value} {row:Option Nat} {tmp:Obj}
  (hn:n0≤w.heap.size) (hnb:n0+1+1+1<nb) (h:LxInv n0 nb w pre W) (hbox:Boxed W (n0+1+1+1) 53 v) (hlt:pre.length<6000) (he:y.err=0)
  (hown:w1.ownsRow nb 73 4 v' (pre.length+1) (tksCells (pre.map (·.tk)) ++ tkCells y.tk)) (hg:(W.alloc tmp).grownBy w1 row)
  (hr:∀ r,row=some r→nb≤r∧∃ cur,(W.alloc tmp).heap[r]?=some (.cells cur 73 (0,0))∧2 * 4≤cur.size) :
  Boxed w1 (n0+1+1+1) 53 v∧LxInv n0 nb w (pre ++ [y]) (w1.setCell ⟨n0+1+1+1,0,none⟩ v')∧KeepsOthers W (w1.setCell ⟨n0+1+1+1,0,none⟩ v') ∧
   ∀ K:Nat→Prop,(∀ k,K k→k<nb∧k≠n0+1+1+1)→KP K W (w1.setCell ⟨n0+1+1+1,0,none⟩ v'):=by
 have hne:∀ b,b<nb→some b≠row:=fun b hb e=>by have:=(hr b e.symm).1;omega
 have hv1:Boxed w1 (n0+1+1+1) 53 v:=(hbox.alloc tmp).kept hg (hne _ hnb)
 have k2:Boxed w1 n0 53 (.slice none 0 0):=(h.r2.alloc tmp).kept hg (hne _ (by omega))
 have k3:Boxed w1 (n0+1) 30 (.int .i64 0):=(h.r3.alloc tmp).kept hg (hne _ (by omega))
 have k4:Boxed w1 (n0+1+1) 3 (.int .i64 0):=(h.r4.alloc tmp).kept hg (hne _ (by omega))
 have hB1:Below n0 w w1:=(h.below.alloc (by have:=h.below.size;omega) tmp).grown hg (by have:=h.below.size;simp;omega) (fun k e=>by have:=(hr k e).1;omega)
 refine⟨hv1,⟨⟨v',hv1.set v',?_,fun h0=>by simp at h0⟩,boxed_other _ k2 (by omega),boxed_other _ k3 (by omega),boxed_other _ k4 (by omega),hB1.setCell (p:=⟨n0+1+1+1,0,none⟩) (by simp;omega) _,?_,?_⟩,?_,?_⟩
 ·have:=hown.kept (grownBy_setCell' w1 (n0+1+1+1) v') (.inr (hv1.not_row (by decide) hown).symm)
  simpa [tksCells_snoc] using this
 ·refine⟨by simp;omega,fun z hz=>?_⟩
  rcases List.mem_append.1 hz with hz|hz
  ·exact h.ok.2 z hz
  ·simp at hz;rw[hz];exact he
 ·have h1:=h.room
  have h2:=hg.size
  simp at h2 ⊢;omega
 ·refine((KeepsOthers.alloc W tmp).trans (KeepsOthers.of_grownBy hg fun j o ej hj=>?_)).trans (KeepsOthers.setCell _ _ _)
  obtain⟨_,cur,hc,_⟩:=hr j ej
  rw[hc] at hj;cases hj;rfl
 ·intro K hK
  refine⟨by have h2:=hg.size;simp at h2 ⊢;omega,fun k o ho hk=>?_⟩
  have hlt':k<W.heap.size:=(Array.getElem?_eq_some_iff.1 ho).1
  have hne3:k≠n0+1+1+1:=by
   rcases hk with hk|⟨c,rfl,_⟩
   ·exact(hK k hk).2
   ·intro e;subst e
    have:=(show W.heap[n0+1+1+1]?=_ from hbox).symm.trans ho
    simp at this
  have hner:some k≠row:=by
   rcases hk with hk|⟨c,rfl,hc⟩
   ·exact hne k (hK k hk).1
   ·intro e
    obtain⟨_,cur,hcur,hsz⟩:=hr k e.symm
    rw[Below.heap_alloc _ _ _ hlt',ho] at hcur
    injection hcur with hcur
    injection hcur with hcur _ _
    subst hcur
    omega
  have e1:=hg.block k (by simp;omega) hner
  rw[Below.heap_setCell _ _ _ _ hne3,e1,Below.heap_alloc _ _ _ hlt']
  exact ho
theorem tk_new (w:World) (t:Lx.Tk) (j:Nat) (u:Value) (hj:(tkCells t)[j]?=some u):(w.alloc (.cells #[.int .i64 t.kind,.string ⟨t.text.toArray⟩,.int .i64 t.num,.int .i64 t.off] 73)).cell? ((⟨w.heap.size,0,none⟩:Addr).add j)=some u:=by
 have e:((⟨w.heap.size,0,none⟩:Addr).add j)=⟨w.heap.size,0+j,none⟩:=by unfold Addr.add;split <;> simp_all
 rw[e,Nat.zero_add,World.cell?_alloc_new]
 simpa [tkCells] using hj
attribute [local go_sem] Oper.semAt_some
theorem KPb {K:Nat→Prop} {n:Nat} (hK:∀ k,K k→k<n):∀ (W:World) (l:Nat) (o o':Obj),n≤l→W.heap[l]?=some o→o.isCells=false→o.isWalk=false→KP K W (W.putObj l o'):=fun W l o o' hl ho hc _=>by
 refine⟨by simp,fun k x hx hk=>?_⟩
 have hne:k≠l:=by
  rcases hk with hk|⟨c,rfl,_⟩
  ·have:=hK k hk;omega
  ·intro e;subst e;rw[ho] at hx;cases hx;cases hc
 exact(World.putObj_heap_other (by omega)).trans hx
set_option maxRecDepth 100000 in
set_option maxHeartbeats 2000000 in
theorem lex_short (s:ByteArray) (w:World) (h:s.size≤20000) (hL:Libs w) :
  Calls Tryz.prog 8 #[.string s] w (LexPost w (Lx.lexL s.data.toList)):=by
 have hd:decide (20000<(s.size:Int))=false:=by simp;omega
 have HL:=Lib.hid hL
 have hE:4<w.heap.size:=by obtain⟨_,_,_,h3⟩:=hL.2;exact h3
 clear hL
 obtain⟨i0,hi,hz0,hz1,hz2⟩:=info_parts info30
 refine(callsIn_wide (n:=5)).1 ?_
 refine callsIn_of_wp_marks Tryz.func8 rfl trivial ?_ rfl
 simp only[Tryz.ntmps8,List.size_toArray,List.length_cons,List.length_nil,Nat.reduceAdd,Nat.reduceSub,Array.replicate_succ,Array.replicate_zero,List.push_toArray,List.append_toArray,List.nil_append,List.cons_append]
 gi_wp2
 obtain⟨W4,hW4⟩:∃ W4,W4=(((w.alloc (.cells #[.slice none 0 0] 53)).alloc (.cells #[.int .i64 0] 30)).alloc (.cells #[.int .i64 0] 3)).alloc (.cells #[.slice none 0 0] 53):=⟨_,rfl⟩
 have hz4:W4.heap.size=w.heap.size+4:=by rw[hW4];simp
 have hB4:Below w.heap.size w W4:=by rw[hW4];exact((((Below.refl _ w).alloc (Nat.le_refl _) _).alloc (by simp) _).alloc (by simp;omega) _).alloc (by simp;omega) _
 have b2:Boxed W4 w.heap.size 53 (.slice none 0 0):=by rw[hW4];exact(((Boxed.new w 53 (.slice none 0 0)).alloc _).alloc _).alloc _
 have b3:Boxed W4 (w.heap.size+1) 30 (.int .i64 0):=by
  rw[hW4];have:=((Boxed.new (w.alloc (.cells #[.slice none 0 0] 53)) 30 (.int .i64 0)).alloc (.cells #[.int .i64 0] 3)).alloc (.cells #[.slice none 0 0] 53);rwa [World.size_alloc] at this
 have b4:Boxed W4 (w.heap.size+1+1) 3 (.int .i64 0):=by
  rw[hW4];have:=(Boxed.new ((w.alloc (.cells #[.slice none 0 0] 53)).alloc (.cells #[.int .i64 0] 30)) 3 (.int .i64 0)).alloc (.cells #[.slice none 0 0] 53);rwa [World.size_alloc,World.size_alloc] at this
 have b5:Boxed W4 (w.heap.size+1+1+1) 53 (.slice none 0 0):=by
  rw[hW4];have:=Boxed.new (((w.alloc (.cells #[.slice none 0 0] 53)).alloc (.cells #[.int .i64 0] 30)).alloc (.cells #[.int .i64 0] 3)) 53 (.slice none 0 0);rwa [World.size_alloc,World.size_alloc,World.size_alloc] at this
 rw[← hW4]
 clear hW4
 have HZ4:=Lib.hid hz4
 clear hz4
 refine⟨trivial,(callsIn_wide.2 (newTables_any W4 (HL.out.below hB4 (Nat.le_refl _)).1 (HL.out.below hB4 (Nat.le_refl _)).2)).mono ?_⟩
 rintro e w5 ⟨rfl,hT5,hB5⟩
 have HT5:=Lib.hid hT5
 have hz5:=hT5.1
 clear hT5
 gi_wp2
 refine⟨trivial,(callsIn_wide.2 (tokens_any s _ w5)).mono ?_⟩
 rintro e w6 ⟨rfl,rfl⟩
 gi_wp2
 have hn4:w.heap.size+4≤W4.heap.size:=by have:=HZ4.out;omega
 have hB6:Below W4.heap.size W4 ((w5.alloc (.cells #[.pointer (some ⟨W4.heap.size+1,0,none⟩)] 69)).alloc (.cells #[.string s] 9)):=(hB5.alloc hB5.size _).alloc (by have:=hB5.size;simp;omega) _
 have hB56:Below w5.heap.size w5 ((w5.alloc (.cells #[.pointer (some ⟨W4.heap.size+1,0,none⟩)] 69)).alloc (.cells #[.string s] 9)):=((Below.refl _ w5).alloc (Nat.le_refl _) _).alloc (by simp) _
 have hB06:=hB4.trans (hB6.mono (by omega:w.heap.size≤W4.heap.size))
 have keep6:∀ b t v,b<W4.heap.size→Boxed W4 b t v→Boxed ((w5.alloc (.cells #[.pointer (some ⟨W4.heap.size+1,0,none⟩)] 69)).alloc (.cells #[.string s] 9)) b t v:=fun b t v hb h=>(hB6.block b hb).trans h
 have c1:((w5.alloc (.cells #[.pointer (some ⟨W4.heap.size+1,0,none⟩)] 69)).alloc (.cells #[.string s] 9)).cell? ⟨w5.heap.size,0,none⟩=some (.pointer (some ⟨W4.heap.size+1,0,none⟩)) :=
  ((Boxed.new w5 69 (.pointer (some ⟨W4.heap.size+1,0,none⟩))).alloc _).cell
 have c2:((w5.alloc (.cells #[.pointer (some ⟨W4.heap.size+1,0,none⟩)] 69)).alloc (.cells #[.string s] 9)).cell? ⟨w5.heap.size+1,0,none⟩=some (.string s):=by
  have:=(Boxed.new (w5.alloc (.cells #[.pointer (some ⟨W4.heap.size+1,0,none⟩)] 69)) 9 (.string s)).cell;rwa [World.size_alloc] at this
 have hT6:TabsM ((w5.alloc (.cells #[.pointer (some ⟨W4.heap.size+1,0,none⟩)] 69)).alloc (.cells #[.string s] 9)) (W4.heap.size+1) W4.heap.size:=HT5.out.kept hB56.size (fun k o _ ho=>(hB56.block k (Array.getElem?_eq_some_iff.1 ho).1).trans ho)
 have hI6:LxInv w.heap.size (w5.heap.size+1+1) w [] ((w5.alloc (.cells #[.pointer (some ⟨W4.heap.size+1,0,none⟩)] 69)).alloc (.cells #[.string s] 9)) :=
  ⟨⟨_,keep6 _ _ _ (by omega) b5,World.ownsRow_nil _ _ _ _,fun _=>rfl⟩,keep6 _ _ _ (by omega) b2,keep6 _ _ _ (by omega) b3,keep6 _ _ _ (by omega) b4,hB06,by simp[okAll],by simp⟩
 have hs5:=hB5.size
 refine wpIn_rangeFunc_ownH rfl (by omega) (gf:=37) (lb:=#[.pointer (some ⟨w5.heap.size,0,none⟩),.pointer (some ⟨w5.heap.size+1,0,none⟩)]) rfl trivial (enters_of Tryz.func37 (by kernel_rfl) rfl)
  (iter_stops (fun k=>k<w.heap.size∨(W4.heap.size≤k∧k<w5.heap.size+1+1)) s (W4.heap.size+1) W4.heap.size w5.heap.size (by omega) _ (by simp) ⟨.inr ⟨by omega,by omega⟩,.inr ⟨by omega,by omega⟩,.inr ⟨by omega,by omega⟩,.inr ⟨by omega,by omega⟩,.inl hE⟩ c1 c2 hT6 4 (by omega))
  (fun h k=>h.trans k) (KPb (by intro k hk;simp;omega)) (Below.refl _ _) (fun _=>rfl)
  (LxInv w.heap.size (w5.heap.size+1+1) w) (fun c pre W=>c=.ret∧∃ er off,InvX w.heap.size w pre W er off) (LxInv.own (Nat.le_refl _) (by simp;omega)) (fun c=>InvX.own (Nat.le_refl _) (by simp;omega) c) hI6
  (fun y a' W=>∃ Bx,TokBox W Bx y∧a'={ tmps:=#[Value.string s,undef,.pointer (some ⟨w.heap.size,0,none⟩),.pointer (some ⟨w.heap.size+1,0,none⟩),.pointer (some ⟨w.heap.size+1+1,0,none⟩),.pointer (some ⟨w.heap.size+1+1+1,0,none⟩),.pointer (some ⟨Bx,0,none⟩),.int .i64 y.err,.string s,.int .i64 s.size,.bool false,.pointer (some ⟨W4.heap.size+1,0,none⟩),.string s,
   .func (.func 37) #[] #[.pointer (some ⟨w5.heap.size,0,none⟩),.pointer (some ⟨w5.heap.size+1,0,none⟩)],.agg #[.int .i64 y.tk.kind,.string ⟨y.tk.text.toArray⟩,.int .i64 y.tk.num,.int .i64 y.tk.off],.int .i64 y.err,undef,undef,undef,undef,undef,undef,undef,undef,undef,undef,undef,undef,undef,undef,undef,undef,undef],defers:=[] }) ?hAx ?assign ?body ?done ?stop
 case hAx =>
  intro y a' u X Y row hs hg hr
  obtain⟨Bx,h2,h3⟩:=hs
  refine⟨Bx,(hg.block Bx h2.lt (fun e'=>?_)).trans h2,h3⟩
  obtain⟨_,o,ho,hc⟩:=hr Bx e'.symm
  rw[show X.heap[Bx]?=_ from h2] at ho;cases ho;cases hc
 case assign =>
  intro l pre y W K hi hK
  simp only[encY]
  gi_wp2
  exact hK _ _ ((KeepsOthers.alloc _ _).from _) (KP.of_below ((Below.refl _ W).alloc (Nat.le_refl _) _)) (hi.alloc (Nat.le_refl _) _) ⟨W.heap.size,World.alloc_heap_new W _,rfl⟩
 case body =>
  rintro l pre y a' W hl ⟨r,hr⟩ hinv ⟨Bx,hTok,rfl⟩ hlen
  obtain⟨v,hbox,hrow,hnil⟩:=hinv.list
  have t0:=hTok.cell 0
  have t1:=hTok.cell 1
  have t2:=hTok.cell 2
  have t3:=hTok.cell 3
  simp only[List.getElem?_toArray,List.getElem?_cons_zero,List.getElem?_cons_succ] at t0 t1 t2 t3
  have x2:Bx≠w.heap.size:=hTok.ne hinv.r2
  have x3:Bx≠w.heap.size+1:=hTok.ne hinv.r3
  have x4:Bx≠w.heap.size+1+1:=hTok.ne hinv.r4
  have y2:=hinv.r2.cell
  have y3:=hinv.r3.cell
  have y4:=hinv.r4.cell
  have z2:=hinv.r2.frozen
  have z3:=hinv.r3.frozen
  have z4:=hinv.r4.frozen
  have y5:=hbox.cell
  have z5:=hbox.frozen
  obtain⟨av,cap,rfl⟩:=row_shape hrow
  have hpl:=hinv.ok.1
  by_cases he:y.err=0
  ·have he1:((y.err:Int) == 0)=true:=by simp;omega
   have he2:((y.err:Int) != 0)=false:=by simp;omega
   by_cases hl6:pre.length=6000
   ·have hl1:((pre.length:Int) == 6000)=true:=by simp;omega
    have ST:Hid (Stops (pre ++ [y]) 2 y.tk.off):=Lib.hid ⟨pre,y,rfl,hinv.ok,.inr ⟨he,hl6,rfl⟩,rfl⟩
    clear he hl6
    gi_wp2
    gi_region
    all_goals gi_wp2
    all_goals exact⟨stop_keeps _ _ _ _ _ _,rfl,2,y.tk.off,hinv.stop y 2 ST.out⟩
   ·have hl1:((pre.length:Int) == 6000)=false:=by simp;omega
    have HE:=Lib.hid he
    have hlt:pre.length<6000:=by omega
    clear he hl6
    gi_wp2_with (gi_at_builtin;go_loud (refine wpListIn_append_row _ rfl _ _ 53 rfl (w5.heap.size+1+1) 73 i0 _ 4 40 Tryz.underlying53 hi hz0 hz1 hz2 rfl (by decide) _ pre.length _ rfl (hrow.alloc _) hnil ⟨W.heap.size,0,none⟩ 1 (tkCells y.tk) rfl rfl ?c1 ?c2 (by unfold maxLen;omega) (by omega) (by have:=hinv.room;simp;omega) ?_))
    case c1=>exact tk_new W y.tk
    case c2=>simp[tkCells,Value.oneCell']
    intro v' w1 row hown' hgrow hrow'
    obtain⟨hv1,hi1,hk1,hk2⟩:=LxInv.append (Nat.le_refl _) (by omega) hinv hbox hlt HE.out hown' hgrow hrow'
    obtain⟨g',cap',rfl⟩:=ownsRow_succ hown'
    have hc1:=hv1.cell
    have hf1:=hv1.frozen
    gi_wp2
    exact⟨hk1.from _,hk2 _ (by intro k hk;omega),hi1⟩
  ·have he1:((y.err:Int) == 0)=false:=by simp;omega
   have he2:((y.err:Int) != 0)=true:=by simp;omega
   have ST:Hid (Stops (pre ++ [y]) y.err y.tk.off):=Lib.hid ⟨pre,y,rfl,hinv.ok,.inl ⟨he,rfl⟩,rfl⟩
   clear he
   gi_wp2
   gi_region
   all_goals gi_wp2
   all_goals exact⟨stop_keeps _ _ _ _ _ _,rfl,y.err,y.tk.off,hinv.stop y y.err ST.out⟩
 case done =>
  rintro D ys W hD rfl hinv hK
  obtain⟨v,hbox,hrow,hnil⟩:=hinv.list
  have y2:=hinv.r2.cell
  have y3:=hinv.r3.cell
  have y4:=hinv.r4.cell
  have z2:=hinv.r2.frozen
  have z3:=hinv.r3.frozen
  have z4:=hinv.r4.frozen
  have y5:=hbox.cell
  obtain⟨av,cap,rfl⟩:=row_shape hrow
  gi_wp2
  have hK':=(((KeepsOthers.setCell W ⟨w.heap.size,0,none⟩ (.slice av (Lx.allYields s.data.toList).length cap)).trans (KeepsOthers.setCell _ ⟨w.heap.size+1,0,none⟩ (.int .i64 0))).trans (KeepsOthers.setCell _ ⟨w.heap.size+1+1,0,none⟩ (.int .i64 0))).same D _ hK rfl
  have q2:Boxed (((W.setCell ⟨w.heap.size,0,none⟩ (.slice av (Lx.allYields s.data.toList).length cap)).setCell ⟨w.heap.size+1,0,none⟩ (.int .i64 0)).setCell ⟨w.heap.size+1+1,0,none⟩ (.int .i64 0)) w.heap.size 53 (.slice av (Lx.allYields s.data.toList).length cap):=boxed_other _ (boxed_other _ (hinv.r2.set _) (by omega)) (by omega)
  have q3:Boxed (((W.setCell ⟨w.heap.size,0,none⟩ (.slice av (Lx.allYields s.data.toList).length cap)).setCell ⟨w.heap.size+1,0,none⟩ (.int .i64 0)).setCell ⟨w.heap.size+1+1,0,none⟩ (.int .i64 0)) (w.heap.size+1) 30 (.int .i64 0):=boxed_other _ ((boxed_other _ hinv.r3 (by omega)).set _) (by omega)
  have q4:Boxed (((W.setCell ⟨w.heap.size,0,none⟩ (.slice av (Lx.allYields s.data.toList).length cap)).setCell ⟨w.heap.size+1,0,none⟩ (.int .i64 0)).setCell ⟨w.heap.size+1+1,0,none⟩ (.int .i64 0)) (w.heap.size+1+1) 3 (.int .i64 0):=(boxed_other _ (boxed_other _ hinv.r4 (by omega)) (by omega)).set _
  have qb:=(((hinv.below.setCell (p:=⟨w.heap.size,0,none⟩) (Nat.le_refl _) (.slice av (Lx.allYields s.data.toList).length cap)).setCell (p:=⟨w.heap.size+1,0,none⟩) (by simp) (.int .i64 0)).setCell (p:=⟨w.heap.size+1+1,0,none⟩) (by simp;omega) (.int .i64 0))
  have qr:=((hrow.kept (grownBy_setCell' W w.heap.size (.slice av (Lx.allYields s.data.toList).length cap)) (.inr (hinv.r2.not_row (by decide) hrow).symm)))
  have qr2:=qr.kept (grownBy_setCell' _ (w.heap.size+1) (.int .i64 0)) (.inr ((hinv.r3.not_row (by decide) hrow).symm))
  have qr3:=qr2.kept (grownBy_setCell' _ (w.heap.size+1+1) (.int .i64 0)) (.inr ((hinv.r4.not_row (by decide) hrow).symm))
  refine⟨by simp,.inl ⟨_,_,rfl,run_takeDeferred hK',?_⟩⟩
  have hg:=grownBy_putObj' (((W.setCell ⟨w.heap.size,0,none⟩ (.slice av (Lx.allYields s.data.toList).length cap)).setCell ⟨w.heap.size+1,0,none⟩ (.int .i64 0)).setCell ⟨w.heap.size+1+1,0,none⟩ (.int .i64 0)) D (.deferred none)
  have hr:∀ r,some D=some r→∃ o:Obj,(((W.setCell ⟨w.heap.size,0,none⟩ (.slice av (Lx.allYields s.data.toList).length cap)).setCell ⟨w.heap.size+1,0,none⟩ (.int .i64 0)).setCell ⟨w.heap.size+1+1,0,none⟩ (.int .i64 0)).heap[r]?=some o∧o.isCells=false:=fun r e=>by cases e;exact⟨_,hK',rfl⟩
  have k2:=(boxed_keep q2 hg hr).cell
  have k3:=(boxed_keep q3 hg hr).cell
  have k4:=(boxed_keep q4 hg hr).cell
  have kr:=row_mono (row_keep qr3 hg hr) (by omega:w.heap.size≤w5.heap.size+1+1)
  have kb:Below w.heap.size w _:=qb.grown hg qb.size (fun k e=>by cases e;simp at hD;omega)
  have hlex:Lx.lexL s.data.toList=((Lx.allYields s.data.toList).map (·.tk),0,0):=by unfold Lx.lexL;rw[if_neg (by simp;omega),collect_done _ hinv.ok]
  refine⟨.tuple #[.slice av (Lx.allYields s.data.toList).length cap,.int .i64 0,.int .i64 0],by simp[results,Tryz.results8,go_sem,k2,k3,k4],.slice av (Lx.allYields s.data.toList).length cap,?_,?_,?_,kb⟩
  ·rw[hlex];rfl
  ·rw[hlex];simpa using kr
  ·rw[hlex];intro h0;exact hnil (by simpa using h0)
 case stop =>
  rintro D c pre W hD hpre ⟨rfl,er,off,hx⟩ hK
  gi_wp2
  refine⟨by simp,.inl ⟨_,_,rfl,run_takeDeferred hK,?_⟩⟩
  have hg:=grownBy_putObj' W D (.deferred none)
  have hr:∀ r,some D=some r→∃ o:Obj,W.heap[r]?=some o∧o.isCells=false:=fun r e=>by cases e;exact⟨_,hK,rfl⟩
  have k2:=(boxed_keep hx.r2 hg hr).cell
  have k3:=(boxed_keep hx.r3 hg hr).cell
  have k4:=(boxed_keep hx.r4 hg hr).cell
  have kb:Below w.heap.size w _:=hx.below.grown hg hx.below.size (fun k e=>by cases e;simp at hD;omega)
  have hlex:Lx.lexL s.data.toList=([],er,off):=by unfold Lx.lexL;rw[if_neg (by simp;omega),collect_stop _ _ _ _ hpre hx.stops]
  refine⟨.tuple #[.slice none 0 0,.int .i64 er,.int .i64 off],by simp[results,Tryz.results8,go_sem,k2,k3,k4],.slice none 0 0,?_,?_,?_,kb⟩
  ·rw[hlex];rfl
  ·rw[hlex];exact World.ownsRow_nil _ _ _ _
  ·rw[hlex];intro _;rfl
end Go.Proofs.YtghohohagbbajaaGreatDoor
