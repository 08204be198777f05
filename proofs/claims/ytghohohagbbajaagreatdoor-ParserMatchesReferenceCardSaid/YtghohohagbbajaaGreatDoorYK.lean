/- part of the proof -/
import Derived.WalkKit
import Derived.Deep.Draws
import Derived.ArgAppend
import Derived.Laws.OwnMore
import Derived.Maps.AppendAt
import Derived.Deep.RegionHeld3
import Derived.Deep.AppendSrc
set_option linter.unusedVariables false
set_option linter.unusedSimpArgs false
set_option linter.unusedSectionVars false
namespace Go.Proofs.YtghohohagbbajaaGreatDoor
open Go.RowKit
theorem alloc_new (w:World) (o:Obj):(w.alloc o).heap[w.heap.size]?=some o:=by
  show (w.heap.push o)[w.heap.size]?=_
  simp
structure Fr (X:List Nat) (w w':World):Prop where
  os:w'.os=w.os
  tape:w'.tape=w.tape
  output:w'.output=w.output
  size:w.heap.size≤w'.heap.size
  block:∀ k,k<w.heap.size→k ∉ X→w'.heap[k]?=w.heap[k]?
theorem Fr.refl (X:List Nat) (w:World):Fr X w w:=⟨rfl,rfl,rfl,Nat.le_refl _,fun _ _ _=>rfl⟩
theorem Fr.trans {X:List Nat} {a b c:World} (h:Fr X a b) (k:Fr X b c):Fr X a c :=
  ⟨k.os.trans h.os,k.tape.trans h.tape,k.output.trans h.output,Nat.le_trans h.size k.size,fun i hi hx=>(k.block i (Nat.lt_of_lt_of_le hi h.size) hx).trans (h.block i hi hx)⟩
theorem Fr.mono {X Y:List Nat} {w w':World} (h:Fr X w w') (hs:∀ k,k<w.heap.size→k∈X→k∈Y):Fr Y w w' :=
  ⟨h.os,h.tape,h.output,h.size,fun k hk hn=>h.block k hk (fun hx=>hn (hs k hk hx))⟩
theorem Fr.drop {X:List Nat} {k:Nat} {w w':World} (h:Fr (k :: X) w w') (hk:w.heap.size≤k):Fr X w w' :=
  h.mono (fun i hi hx=>by rcases List.mem_cons.1 hx with rfl|hx;omega;exact hx)
theorem Fr.more {X:List Nat} (k:Nat) {w w':World} (h:Fr X w w'):Fr (k :: X) w w':=h.mono (fun _ _ hx=>List.mem_cons_of_mem _ hx)
theorem Fr.alloc {X:List Nat} {a w:World} (h:Fr X a w) (o:Obj):Fr X a (w.alloc o) :=
  h.trans ⟨rfl,rfl,rfl,by simp,fun k hk _=>Below.heap_alloc _ _ _ hk⟩
theorem Fr.drew {X:List Nat} {a w:World} (h:Fr X a w):Fr X a w.drew:=⟨h.os,h.tape,h.output,h.size,h.block⟩
theorem Fr.drewN {X:List Nat} {a w:World} (h:Fr X a w) (n:Nat):Fr X a (w.drewN n):=⟨h.os,h.tape,h.output,h.size,h.block⟩
theorem Fr.setCell {X:List Nat} {a w:World} (h:Fr X a w) {p:Addr} (hp:p.block∈X∨a.heap.size≤p.block) (u:Value):Fr X a (w.setCell p u):=by
  refine⟨h.os,h.tape,h.output,by simp[World.setCell];exact h.size,fun k hk hx=>?_⟩
  rw[Below.heap_setCell _ _ _ _ (by rintro rfl;rcases hp with hp|hp;exact hx hp;omega)]
  exact h.block k hk hx
theorem Fr.of_below {B:Nat} {w w':World} (h:Below B w w') (hB:w.heap.size≤B) (X:List Nat):Fr X w w' :=
  ⟨h.os,h.tape,h.output,h.size,fun k hk _=>h.block k (Nat.lt_of_lt_of_le hk hB)⟩
theorem Fr.below {X:List Nat} {w w':World} (h:Fr X w w') {B:Nat} (hB:B≤w.heap.size) (hX:∀ k∈X,B≤k):Below B w w' :=
  ⟨h.os,h.tape,h.output,h.size,fun k hk=>h.block k (by omega) (fun hx=>by have:=hX k hx;omega)⟩
theorem Fr.cell {X:List Nat} {w w':World} (h:Fr X w w') {k:Nat} (hk:k<w.heap.size) (hx:k ∉ X) (o:Nat):w'.cell? ⟨k,o,none⟩=w.cell? ⟨k,o,none⟩ :=
  World.cell?_of_block (w:=w) (h.block k hk hx)
theorem Fr.frozen {X:List Nat} {w w':World} (h:Fr X w w') {k:Nat} (hk:k<w.heap.size) (hx:k ∉ X) (o:Nat):w'.frozen? ⟨k,o,none⟩=w.frozen? ⟨k,o,none⟩ :=
  World.frozen?_of_block (w:=w) (h.block k hk hx)
def Blk (w:World) (b:Nat) (T:Nat) (cs:Array Value):Prop:=w.heap[b]?=some (.cells cs T (0,0))
theorem Blk.lt {w:World} {b T:Nat} {cs:Array Value} (h:Blk w b T cs):b<w.heap.size:=(Array.getElem?_eq_some_iff.1 h).1
theorem Blk.cell {w:World} {b T:Nat} {cs:Array Value} (h:Blk w b T cs) (i:Nat):w.cell? ⟨b,i,none⟩=cs[i]?:=by
  unfold Blk at h;simp[World.cell?,h]
theorem Blk.frozen {w:World} {b T:Nat} {cs:Array Value} (h:Blk w b T cs) (i:Nat):w.frozen? ⟨b,i,none⟩=false:=by
  unfold Blk at h;simp[World.frozen?,h]
theorem Blk.new (w:World) (T:Nat) (cs:Array Value):Blk (w.alloc (.cells cs T)) w.heap.size T cs:=alloc_new w _
theorem Blk.new_at {w:World} {b T:Nat} {cs:Array Value} (h:w.heap.size=b):Blk (w.alloc (.cells cs T)) b T cs:=by subst h;exact Blk.new _ _ _
theorem Blk.keep {X:List Nat} {w w':World} {b T:Nat} {cs:Array Value} (h:Blk w b T cs) (hf:Fr X w w') (hx:b ∉ X):Blk w' b T cs:=(hf.block b h.lt hx).trans h
theorem Blk.alloc {w:World} {b T:Nat} {cs:Array Value} (h:Blk w b T cs) (o:Obj):Blk (w.alloc o) b T cs:=(Below.heap_alloc _ _ _ h.lt).trans h
theorem Blk.set {w:World} {b T:Nat} {cs:Array Value} (h:Blk w b T cs) (i:Nat) (v:Value):Blk (w.setCell ⟨b,i,none⟩ v) b T (cs.setIfInBounds i v):=by
  unfold Blk at *
  simp[World.setCell,Array.getElem?_modify,h]
theorem Blk.other {w:World} {b T:Nat} {cs:Array Value} (h:Blk w b T cs) {p:Addr} (hp:b≠p.block) (v:Value):Blk (w.setCell p v) b T cs:=(Below.heap_setCell _ _ _ _ hp).trans h
inductive Q where
  | nil
  | int (n:Int) (r:Q)
  | str (t:List UInt8) (r:Q)
  | sl (E:Nat) (size:Nat) (n:Nat) (q:Q) (r:Q)
def Q.app:Q→Q→Q
  | .nil,y=>y
  | .int n r,y=>.int n (r.app y)
  | .str t r,y=>.str t (r.app y)
  | .sl E s n q r,y=>.sl E s n q (r.app y)
theorem Q.app_nil:∀ (x:Q),x.app .nil=x
  | .nil=>rfl
  | .int n r=>by rw[Q.app,Q.app_nil r]
  | .str t r=>by rw[Q.app,Q.app_nil r]
  | .sl E s n q r=>by rw[Q.app,Q.app_nil r]
theorem Q.app_app:∀ (x y z:Q),(x.app y).app z=x.app (y.app z)
  | .nil,_,_=>rfl
  | .int n r,y,z=>by rw[Q.app,Q.app,Q.app,Q.app_app r]
  | .str t r,y,z=>by rw[Q.app,Q.app,Q.app,Q.app_app r]
  | .sl E s n q r,y,z=>by rw[Q.app,Q.app,Q.app,Q.app_app r]
def Rep (w:World) (N:Nat→Prop):Q→List Value→Prop
  | .nil,cs=>cs=[]
  | .int n r,cs=>∃ cs',cs=.int .i64 n :: cs'∧Rep w N r cs'
  | .str t r,cs=>∃ cs',cs=.string ⟨t.toArray⟩ :: cs'∧Rep w N r cs'
  | .sl E s n q r,cs=>∃ v cs',cs=v :: cs' ∧
      ((v=.slice none 0 0∧n=0∧Rep w N q []) ∨
       ∃ g cap cur xs,v=.slice (some ⟨g,0,none⟩) n cap∧n≠0∧N g∧w.heap[g]?=some (.cells cur E (0,0))∧n≤cap∧cap≤maxLen∧cur.size=cap * s∧cur.toList.take (n * s)=xs∧xs.length=n * s∧Rep w N q xs)∧Rep w N r cs'
def RowV (w:World) (N:Nat→Prop) (E s n:Nat) (q:Q) (v:Value):Prop :=
  (v=.slice none 0 0∧n=0∧Rep w N q []) ∨
   ∃ g cap cur xs,v=.slice (some ⟨g,0,none⟩) n cap∧n≠0∧N g∧w.heap[g]?=some (.cells cur E (0,0))∧n≤cap∧cap≤maxLen∧cur.size=cap * s∧cur.toList.take (n * s)=xs∧xs.length=n * s∧Rep w N q xs
theorem rep_sl {w:World} {N:Nat→Prop} {E s n:Nat} {q r:Q} {cs:List Value} : Rep w N (.sl E s n q r) cs ↔ ∃ v cs',cs=v :: cs'∧RowV w N E s n q v∧Rep w N r cs':=by
  rw[Rep];rfl
theorem rep_int {w:World} {N:Nat→Prop} {n:Int} {r:Q} {cs:List Value} : Rep w N (.int n r) cs ↔ ∃ cs',cs=.int .i64 n :: cs'∧Rep w N r cs':=by rw[Rep]
theorem rep_str {w:World} {N:Nat→Prop} {t:List UInt8} {r:Q} {cs:List Value} : Rep w N (.str t r) cs ↔ ∃ cs',cs=.string ⟨t.toArray⟩ :: cs'∧Rep w N r cs':=by rw[Rep]
theorem rep_nil {w:World} {N:Nat→Prop} {cs:List Value} : Rep w N .nil cs ↔ cs=[]:=by rw[Rep]
theorem Rep.mono {w w':World} {N N':Nat→Prop} : ∀ {q:Q} {cs:List Value},Rep w N q cs→(∀ k,N k→k<w.heap.size→N' k∧w'.heap[k]?=w.heap[k]?)→Rep w' N' q cs
  | .nil,cs,h,_=>by rw[Rep] at *;exact h
  | .int n r,cs,h,hk=>by
    rw[Rep] at *
    obtain⟨c,e,h⟩:=h
    exact⟨c,e,Rep.mono h hk⟩
  | .str n r,cs,h,hk=>by
    rw[Rep] at *
    obtain⟨c,e,h⟩:=h
    exact⟨c,e,Rep.mono h hk⟩
  | .sl E s n q r,cs,h,hk=>by
    rw[Rep] at *
    obtain⟨v,c,e,h1,h⟩:=h
    refine⟨v,c,e,?_,Rep.mono h hk⟩
    rcases h1 with ⟨a,b,hq⟩|⟨g,cap,cur,xs,a,b,hN,hg,c1,c2,c3,c4,c5,hq⟩
    · exact .inl ⟨a,b,Rep.mono hq hk⟩
    · have hl:g<w.heap.size:=(Array.getElem?_eq_some_iff.1 hg).1
      exact .inr ⟨g,cap,cur,xs,a,b,(hk g hN hl).1,(hk g hN hl).2.trans hg,c1,c2,c3,c4,c5,Rep.mono hq hk⟩
theorem Rep.app {w:World} {N:Nat→Prop} : ∀ {x y:Q} {cs ds:List Value},Rep w N x cs→Rep w N y ds→Rep w N (x.app y) (cs ++ ds)
  | .nil,y,cs,ds,h,h'=>by rw[Rep] at h;subst h;exact h'
  | .int n r,y,cs,ds,h,h'=>by
    rw[Rep] at h
    obtain⟨c,rfl,h⟩:=h
    rw[Q.app,Rep]
    exact⟨c ++ ds,rfl,Rep.app h h'⟩
  | .str n r,y,cs,ds,h,h'=>by
    rw[Rep] at h
    obtain⟨c,rfl,h⟩:=h
    rw[Q.app,Rep]
    exact⟨c ++ ds,rfl,Rep.app h h'⟩
  | .sl E s n q r,y,cs,ds,h,h'=>by
    rw[Rep] at h
    obtain⟨v,c,rfl,h1,h⟩:=h
    rw[Q.app,Rep]
    exact⟨v,c ++ ds,rfl,h1,Rep.app h h'⟩
theorem Rep.split {w:World} {N:Nat→Prop} : ∀ {x y:Q} {cs:List Value},Rep w N (x.app y) cs→∃ a b,cs=a ++ b∧Rep w N x a∧Rep w N y b
  | .nil,y,cs,h=>⟨[],cs,rfl,by rw[Rep],h⟩
  | .int n r,y,cs,h=>by
    rw[Q.app,Rep] at h
    obtain⟨c,rfl,h⟩:=h
    obtain⟨a,b,rfl,h1,h2⟩:=Rep.split h
    exact⟨_ :: a,b,rfl,by rw[Rep];exact⟨a,rfl,h1⟩,h2⟩
  | .str n r,y,cs,h=>by
    rw[Q.app,Rep] at h
    obtain⟨c,rfl,h⟩:=h
    obtain⟨a,b,rfl,h1,h2⟩:=Rep.split h
    exact⟨_ :: a,b,rfl,by rw[Rep];exact⟨a,rfl,h1⟩,h2⟩
  | .sl E s n q r,y,cs,h=>by
    rw[Q.app,Rep] at h
    obtain⟨v,c,rfl,h0,h⟩:=h
    obtain⟨a,b,rfl,h1,h2⟩:=Rep.split h
    exact⟨_ :: a,b,rfl,by rw[Rep];exact⟨v,a,rfl,h0,h1⟩,h2⟩
theorem RowV.mono {w w':World} {N N':Nat→Prop} {E s n:Nat} {q:Q} {v:Value} (h:RowV w N E s n q v) (hk:∀ k,N k→k<w.heap.size→N' k∧w'.heap[k]?=w.heap[k]?):RowV w' N' E s n q v:=by
  rcases h with ⟨a,b,hq⟩|⟨g,cap,cur,xs,a,b,hN,hg,c1,c2,c3,c4,c5,hq⟩
  · exact .inl ⟨a,b,Rep.mono hq hk⟩
  · have hl:g<w.heap.size:=(Array.getElem?_eq_some_iff.1 hg).1
    exact .inr ⟨g,cap,cur,xs,a,b,(hk g hN hl).1,(hk g hN hl).2.trans hg,c1,c2,c3,c4,c5,Rep.mono hq hk⟩
theorem RowV.nil (w:World) (N:Nat→Prop) (E s:Nat):RowV w N E s 0 .nil (.slice none 0 0):=.inl ⟨rfl,rfl,by rw[Rep]⟩
theorem rep_one {w:World} {N:Nat→Prop} : ∀ {q:Q} {cs:List Value},Rep w N q cs→∀ u∈cs,u.oneCell'=true
  | .nil,cs,h,u,hu=>by rw[Rep] at h;subst h;cases hu
  | .int n r,cs,h,u,hu=>by
    rw[Rep] at h
    obtain⟨c,rfl,h⟩:=h
    rcases List.mem_cons.1 hu with rfl|hu
    · rfl
    · exact rep_one h u hu
  | .str n r,cs,h,u,hu=>by
    rw[Rep] at h
    obtain⟨c,rfl,h⟩:=h
    rcases List.mem_cons.1 hu with rfl|hu
    · rfl
    · exact rep_one h u hu
  | .sl E s n q r,cs,h,u,hu=>by
    rw[Rep] at h
    obtain⟨v,c,rfl,h1,h⟩:=h
    rcases List.mem_cons.1 hu with rfl|hu
    · rcases h1 with ⟨rfl,_⟩|⟨_,_,_,_,rfl,_⟩ <;> rfl
    · exact rep_one h u hu
def ListAt (w:World) (B E s n:Nat) (q:Q) (v:Value):Prop :=
  (v=.slice none 0 0∧n=0∧q=.nil) ∨
  ∃ g cap cur xs,v=.slice (some ⟨g,0,none⟩) n cap∧n≠0∧B≤g∧w.heap[g]?=some (.cells cur E (0,0))∧n≤cap∧cap≤maxLen∧cur.size=cap * s∧cur.toList.take (n * s)=xs∧xs.length=n * s∧Rep w (fun k=>B≤k∧k≠g) q xs
theorem ListAt.row {w:World} {B E s n:Nat} {q:Q} {v:Value} (h:ListAt w B E s n q v):RowV w (fun k=>B≤k) E s n q v:=by
  rcases h with ⟨h1,h2,rfl⟩|⟨g,cap,cur,xs,a,b,c,d,e,f,i,j,k,hq⟩
  · exact .inl ⟨h1,h2,by rw[Rep]⟩
  · exact .inr ⟨g,cap,cur,xs,a,b,c,d,e,f,i,j,k,hq.mono (fun k hk _=>⟨hk.1,rfl⟩)⟩
theorem ListAt.keep {w w':World} {B E s n:Nat} {q:Q} {v:Value} (h:ListAt w B E s n q v) {X:List Nat} (hf:Fr X w w') (hX:∀ k∈X,k<B):ListAt w' B E s n q v:=by
  rcases h with h|⟨g,cap,cur,xs,a,b,c,d,e,f,i,j,k,hq⟩
  · exact .inl h
  · have hl:g<w.heap.size:=(Array.getElem?_eq_some_iff.1 d).1
    refine .inr ⟨g,cap,cur,xs,a,b,c,(hf.block g hl (fun hx=>by have:=hX g hx;omega)).trans d,e,f,i,j,k,hq.mono (fun k hk hl=>⟨hk,hf.block k hl (fun hx=>by have:=hX k hx;omega)⟩)⟩
theorem ListAt.own {w:World} {B E s n:Nat} {q:Q} {v:Value} (h:ListAt w B E s n q v):∀ k,v.ownBlock=some k→B≤k∧k<w.heap.size:=by
  rcases h with ⟨rfl,_⟩|⟨g,cap,cur,xs,rfl,b,c,d,_⟩
  · intro k hk;simp[Value.ownBlock] at hk
  · intro k hk
    simp[Value.ownBlock] at hk
    subst hk
    exact⟨c,(Array.getElem?_eq_some_iff.1 d).1⟩
theorem ListAt.one {w:World} {B E s g:Nat} {q:Q} {xs:List Value} (hB:B≤g) (hg:w.heap[g]?=some (.cells xs.toArray E (0,0))) (hl:xs.length=s) (hq:Rep w (fun k=>B≤k∧k≠g) q xs):ListAt w B E s 1 q (.slice (some ⟨g,0,none⟩) 1 1) :=
  .inr ⟨g,1,xs.toArray,xs,rfl,by decide,hB,hg,by decide,by unfold maxLen;decide,by simp[hl],by rw[Nat.one_mul,← hl];simp,by omega,hq⟩
theorem ListAt.mono {w:World} {B B' E s n:Nat} {q:Q} {v:Value} (h:ListAt w B E s n q v) (hB:B'≤B):ListAt w B' E s n q v:=by
  rcases h with h|⟨g,cap,cur,xs,a,b,c,d,e,f,i,j,k,hq⟩
  · exact .inl h
  · exact .inr ⟨g,cap,cur,xs,a,b,by omega,d,e,f,i,j,k,hq.mono (fun k hk _=>⟨⟨by have:=hk.1;omega,hk.2⟩,rfl⟩)⟩
theorem ListAt.of_fresh {w:World} {B E s n b:Nat} {q:Q} {v:Value} {xs:List Value} (h:w.ownsRow b E s v n xs) (hn:n≠0) (hB:B≤b) (hq:Rep w (fun k=>B≤k∧k<b) q xs):ListAt w B E s n q v:=by
  obtain⟨h1,h2⟩:=h
  rcases h2 with ⟨_,rfl⟩|⟨g,cap,cur,rfl,hb,hg,c1,c2,c3,c4⟩
  · exact absurd rfl hn
  · exact .inr ⟨g,cap,cur,xs,rfl,hn,by omega,hg,c1,c2,c3,c4,h1,hq.mono (fun k hk _=>⟨⟨hk.1,by have:=hk.2;omega⟩,rfl⟩)⟩
theorem run_append_list {P:Program} (w:World) (B t ty e:Nat) (i:TypeInfo) (z:Value) (size bytes:Nat) (ht:P.underlying t=some (.slice e)) (hi:P.info? e=some i) (hz:i.zero=some z)
    (hsize:i.size=size) (hby:i.bytes=bytes) (hzs:z.cells.size=size) (hsz:0<size)
    (v:Value) (n m:Nat) (q qn:Q) (hL:ListAt w B e size n q v)
    (a:Addr) (c:Nat) (news:List Value) (hm:m≠0) (hl:news.length=m * size) (hnews:∀ j u,news[j]?=some u→w.cell? (a.add j)=some u) (hq:Rep w (fun k=>B≤k∧some k≠v.ownBlock) qn news)
    (hn:n+m≤1000000) (hbytes:bytes≤1000) (hB:B≤w.heap.size) :
    ∃ v' w',(Builtin.append_ #[t,t] ty #[v,.slice (some a) m c]).run P w=.ok v' w'∧ListAt w' B e size (n+m) (q.app qn) v'∧w.grownBy w' v.ownBlock:=by
  have h1:=rep_one hq
  have hb:(n+m) * bytes≤140737488355328:=Nat.le_trans (Nat.mul_le_mul hn hbytes) (by decide)
  have h63:n+m≤maxLen:=Nat.le_trans hn (by unfold maxLen;decide)
  have lift:∀ w':World,w.grownBy w' v.ownBlock→Rep w' (fun k=>B≤k∧some k≠v.ownBlock∧k<w.heap.size) qn news:=fun w' hg=>hq.mono (fun k hk hlt=>⟨⟨hk.1,hk.2,hlt⟩,hg.block k hlt hk.2⟩)
  rcases hL with ⟨rfl,rfl,rfl⟩|⟨g,cap,cur,xs,rfl,hne,hBg,hg,hnc,hcm,hcs,htk,hxl,hrep⟩
  · obtain⟨v',w',hr,h2,h3,_⟩:=run_append_own w w.heap.size t ty e i z size bytes ht hi hz hsize hby hzs hsz (.slice none 0 0) 0 [] (World.ownsRow_nil w _ e size) a m c news hl hnews h1 h63 hb (Nat.le_refl _)
    refine⟨v',w',hr,ListAt.of_fresh h2 (by omega) hB ?_,h3⟩
    exact(lift w' h3).mono (fun k hk _=>⟨⟨hk.1,hk.2.2⟩,rfl⟩)
  · have hown:w.ownsRow B e size (.slice (some ⟨g,0,none⟩) n cap) n xs:=⟨hxl,.inr ⟨g,cap,cur,rfl,hBg,hg,hnc,hcm,hcs,htk⟩⟩
    have hob:(Value.slice (some ⟨g,0,none⟩) n cap).ownBlock=some g:=rfl
    by_cases hroom:n+m≤cap
    · obtain⟨w',hr,h2,h3⟩:=run_append_fits w B t ty e i size ht hi hsize g n cap xs hown a m c news hl hnews h1 hroom
      refine⟨_,w',hr,?_,h3⟩
      obtain⟨k1,k2⟩:=h2
      rcases k2 with ⟨k2,_⟩|⟨g',cap',cur',k2,hb',hg',c1,c2,c3,c4⟩
      · cases k2
      · simp only[Value.slice.injEq,Option.some.injEq,Addr.mk.injEq,and_true,true_and] at k2
        obtain⟨rfl,rfl⟩:=k2
        refine .inr ⟨g,cap,cur',xs ++ news,rfl,by omega,hBg,hg',c1,c2,c3,c4,k1,Rep.app ?_ ?_⟩
        · exact hrep.mono (fun k hk hlt=>⟨hk,h3.block k hlt (by intro e;cases e;exact hk.2 rfl)⟩)
        · exact(lift w' h3).mono (fun k hk _=>⟨⟨hk.1,fun e=>hk.2.1 (by rw[hob,e])⟩,rfl⟩)
    · obtain⟨v',w',hr,h2,h3⟩:=run_append_arg_grows w t ty e i z size bytes ht hi hz hsize hby hzs hsz ⟨g,0,none⟩ n cap xs hown.1 (hown.cells (g:=g) rfl) a m c news hl hnews (by omega) h63 hb
      have h3':w.grownBy w' (some g):=⟨h3.os,h3.tape,h3.output,h3.size,fun k hk _=>h3.block k hk (by simp)⟩
      refine⟨v',w',hr,ListAt.of_fresh h2 (by omega) hB (Rep.app ?_ ?_),h3'⟩
      · exact hrep.mono (fun k hk hlt=>⟨⟨hk.1,hlt⟩,h3.block k hlt (by simp)⟩)
      · exact(lift w' h3').mono (fun k hk _=>⟨⟨hk.1,hk.2.2⟩,rfl⟩)
theorem wpList_append_list {P:Program} (w:World) {ops:Array Oper} {rest:List Oper} {o:Oper} {a:Act} {K:Exit→Act→World→Prop}
    (hg:o.guard=none) (s x:Operand) (t:Nat) (hop:o.op=Op.call { callee:=Callee.builtin Builtin.append,args:=#[s,x],argTypes:=#[t,t] })
    (B e:Nat) (i:TypeInfo) (z:Value) (size bytes:Nat) (h1:P.underlying t=some (.slice e)) (h2:P.info? e=some i) (h3:i.zero=some z) (h4:i.size=size) (h5:i.bytes=bytes) (h6:z.cells.size=size) (h7:0<size)
    (v:Value) (n m:Nat) (q qn:Q) (hs:a.eval s=v) (hL:ListAt w B e size n q v) (ad:Addr) (c:Nat) (news:List Value) (hx:a.eval x=.slice (some ad) m c) (hm:m≠0) (hn:news.length=m * size)
    (hc:∀ j u,news[j]?=some u→w.cell? (ad.add j)=some u) (hq:Rep w (fun k=>B≤k∧some k≠v.ownBlock) qn news) (b1:n+m≤1000000) (b2:bytes≤1000) (b3:B≤w.heap.size)
    (hK:∀ v' w',ListAt w' B e size (n+m) (q.app qn) v'→w.grownBy w' v.ownBlock→wpList P ops K rest (a.put o.dst v') w') :
    wpList P ops K (o :: rest) a w:=by
  refine wpList_plain hg fun K' hK'=>?_
  obtain⟨v',w',hrun,r1,r2⟩:=run_append_list (P:=P) w B t o.type e i z size bytes h1 h2 h3 h4 h5 h6 h7 v n m q qn hL ad c news hm hn hc hq b1 b2 b3
  unfold Oper.wp
  simp[execOp,hop,resolve,invoke,builtin,hs,hx,hrun,Result.andThen]
  exact hK' _ _ (hK v' w' r1 r2)
theorem append_ready {R B E s n:Nat} {q qb:Q} {v:Value} {wr w2 w3:World} {news:List Value} (hL:ListAt wr B E s n q v) (hw:wr.heap.size≤w2.heap.size) (hf:Fr [R] wr w3) (hR:R<B) (hB:B≤wr.heap.size)
    (hrep:Rep w3 (fun k=>w2.heap.size≤k) qb news) (E':Nat) :
    ListAt (w3.alloc (.cells news.toArray E')) B E s n q v∧(∀ j u,news[j]?=some u→(w3.alloc (.cells news.toArray E')).cell? ((⟨w3.heap.size,0,none⟩:Addr).add j)=some u) ∧
      Rep (w3.alloc (.cells news.toArray E')) (fun k=>B≤k∧some k≠v.ownBlock) qb news∧B≤(w3.alloc (.cells news.toArray E')).heap.size:=by
  have hz:=hf.size
  refine⟨(hL.keep hf (by simpa using hR)).keep (X:=[]) ((Fr.refl _ _).alloc _) (by simp),fun j u hj=>?_,hrep.mono (fun k hk hl=>⟨⟨by omega,fun e=>?_⟩,Below.heap_alloc _ _ _ hl⟩),by simp;omega⟩
  · have hb:=(Blk.new w3 E' news.toArray).cell j
    have e:(⟨w3.heap.size,0,none⟩:Addr).add j=⟨w3.heap.size,j,none⟩:=by
      simp only[Addr.add,Nat.zero_add]
      split
      · rename_i h;subst h;rfl
      · rfl
    rw[e,hb];simpa using hj
  · have:=(hL.own k e.symm).2
    omega
theorem step_append_list {P:Program} (w:World) {ops:Array Oper} {o:Oper} {a:Act} {K:Act→World→Prop} {QQ:Exit→Act→World→Prop} {E:Prop} (hgd:o.guard=none) (s x:Operand) (t:Nat)
    (ho:o.op=Op.call { callee:=Callee.builtin Builtin.append,args:=#[s,x],argTypes:=#[t,t] })
    (B e:Nat) (i:TypeInfo) (z:Value) (size bytes:Nat) (h1:P.underlying t=some (.slice e)) (h2:P.info? e=some i) (h3:i.zero=some z) (h4:i.size=size) (h5:i.bytes=bytes) (h6:z.cells.size=size) (h7:0<size)
    (v:Value) (n m:Nat) (q qn:Q) (hs:a.eval s=v) (hL:ListAt w B e size n q v) (ad:Addr) (c:Nat) (news:List Value) (hx:a.eval x=.slice (some ad) m c) (hm:m≠0) (hn:news.length=m * size)
    (hc:∀ j u,news[j]?=some u→w.cell? (ad.add j)=some u) (hq:Rep w (fun k=>B≤k∧some k≠v.ownBlock) qn news) (b1:n+m≤1000000) (b2:bytes≤1000) (b3:B≤w.heap.size)
    (hK:∀ p c' w',ListAt w' B e size (n+m) (q.app qn) (.slice p (n+m) c')→w.grownBy w' v.ownBlock→K (a.put o.dst (.slice p (n+m) c')) w') :
    if Region.wanted o (yielded ops a.tmps)=true then Oper.wp P o a w K QQ else E:=by
  have hw:Region.wanted o (yielded ops a.tmps)=true:=by simp[Region.wanted,hgd]
  rw[if_pos hw]
  obtain⟨v',w',hr,r1,r2⟩:=run_append_list (P:=P) w B t o.type e i z size bytes h1 h2 h3 h4 h5 h6 h7 v n m q qn hL ad c news hm hn hc hq b1 b2 b3
  obtain⟨p,c',rfl⟩:∃ p c',v'=.slice p (n+m) c':=by
    rcases r1 with ⟨rfl,h0,_⟩|⟨g,cap,_,_,rfl,_⟩
    · rw[h0];exact⟨_,_,rfl⟩
    · exact⟨_,_,rfl⟩
  unfold Oper.wp execOp
  simp only[ho,resolve,invoke,builtin,Sem.run_bind,Sem.run_pure,Result.andThen_ok,List.map_toArray,List.map_cons,List.map_nil,hs,hx,hr]
  exact hK p c' w' r1 r2
theorem ListAt.shape {w:World} {B E s n:Nat} {q:Q} {v:Value} (h:ListAt w B E s n q v):∃ p c,v=.slice p n c:=by
  rcases h with ⟨rfl,rfl,_⟩|⟨_,_,_,_,rfl,_⟩ <;> exact⟨_,_,rfl⟩
theorem row_cells {w:World} {E s n g:Nat} {cur:Array Value} {xs:List Value} (hg:w.heap[g]?=some (.cells cur E (0,0))) (ht:cur.toList.take (n * s)=xs) :
    ∀ j u,xs[j]?=some u→w.cell? ((⟨g,0,none⟩:Addr).add j)=some u:=by
  intro j u hj
  have e:(⟨g,0,none⟩:Addr).add j=⟨g,j,none⟩:=by
    simp only[Addr.add,Nat.zero_add]
    split
    · rename_i h;subst h;rfl
    · rfl
  have e2:w.cell? ⟨g,j,none⟩=cur[j]?:=by simp[World.cell?,hg]
  rw[e,e2]
  rw[← ht,List.getElem?_take] at hj
  split at hj
  · simpa using hj
  · cases hj
theorem run_append_src {P:Program} (w:World) (B t ty e:Nat) (i:TypeInfo) (z:Value) (size bytes:Nat) (ht:P.underlying t=some (.slice e)) (hi:P.info? e=some i) (hz:i.zero=some z)
    (hsize:i.size=size) (hby:i.bytes=bytes) (hzs:z.cells.size=size) (hsz:0<size)
    (v v2:Value) (n m:Nat) (q qn:Q) (hL:ListAt w B e size n q v) (hn0:n≠0) (hR:RowV w (fun k=>B≤k∧some k≠v.ownBlock) e size m qn v2)
    (hn:n+m≤1000000) (hbytes:bytes≤1000) (hB:B≤w.heap.size) :
    ∃ v' w',(Builtin.append_ #[t,t] ty #[v,v2]).run P w=.ok v' w'∧ListAt w' B e size (n+m) (q.app qn) v'∧w.grownBy w' v.ownBlock:=by
  rcases hR with ⟨rfl,rfl,hq⟩|⟨g2,cap2,cur2,xs2,rfl,hm0,hN2,hg2,c1,c2,c3,c4,c5,hq⟩
  · rcases hL with ⟨_,rfl,_⟩|⟨g,cap,cur,xs,rfl,hne,hBg,hg,hnc,hcm,hcs,htk,hxl,hrep⟩
    · exact absurd rfl hn0
    · have hrun:=run_append_room_src (P:=P) (w:=w) t t ty e i ht hi g 0 n cap (.slice none 0 0) 0 [] (Src.ofNil w ht 0) (by omega) (fun j hj=>by cases hj) (fun j hj=>by cases hj)
      refine⟨_,_,hrun,?_,?_⟩
      · refine .inr ⟨g,cap,cur,xs,rfl,by omega,hBg,by simpa [World.setCells] using hg,hnc,hcm,hcs,htk,hxl,?_⟩
        have:=Rep.app hrep (hq.mono (N':=fun k=>B≤k∧k≠g) (fun k hk _=>⟨⟨hk.1,fun e=>hk.2 (by subst e;rfl)⟩,rfl⟩))
        rw[List.append_nil] at this
        simpa [World.setCells] using this
      · exact⟨rfl,rfl,rfl,by simp[World.setCells],fun k _ _=>by simp[World.setCells]⟩
  · obtain⟨v',w',hr,h1,h2⟩:=run_append_list (P:=P) w B t ty e i z size bytes ht hi hz hsize hby hzs hsz v n m q qn hL ⟨g2,0,none⟩ cap2 xs2 hm0 c5 (row_cells hg2 c4) hq hn hbytes hB
    exact⟨v',w',hr,h1,h2⟩
theorem step_append_src {P:Program} (w:World) {ops:Array Oper} {o:Oper} {a:Act} {K:Act→World→Prop} {QQ:Exit→Act→World→Prop} {E:Prop} (hgd:o.guard=none) (s x:Operand) (t:Nat)
    (ho:o.op=Op.call { callee:=Callee.builtin Builtin.append,args:=#[s,x],argTypes:=#[t,t] })
    (B e:Nat) (i:TypeInfo) (z:Value) (size bytes:Nat) (h1:P.underlying t=some (.slice e)) (h2:P.info? e=some i) (h3:i.zero=some z) (h4:i.size=size) (h5:i.bytes=bytes) (h6:z.cells.size=size) (h7:0<size)
    (v v2:Value) (n m:Nat) (q qn:Q) (hs:a.eval s=v) (hx:a.eval x=v2) (hL:ListAt w B e size n q v) (hn0:n≠0) (hR:RowV w (fun k=>B≤k∧some k≠v.ownBlock) e size m qn v2) (b1:n+m≤1000000) (b2:bytes≤1000) (b3:B≤w.heap.size)
    (hK:∀ p c' w',ListAt w' B e size (n+m) (q.app qn) (.slice p (n+m) c')→w.grownBy w' v.ownBlock→K (a.put o.dst (.slice p (n+m) c')) w') :
    if Region.wanted o (yielded ops a.tmps)=true then Oper.wp P o a w K QQ else E:=by
  have hw:Region.wanted o (yielded ops a.tmps)=true:=by simp[Region.wanted,hgd]
  rw[if_pos hw]
  obtain⟨v',w',hr,r1,r2⟩:=run_append_src (P:=P) w B t o.type e i z size bytes h1 h2 h3 h4 h5 h6 h7 v v2 n m q qn hL hn0 hR b1 b2 b3
  obtain⟨p,c',rfl⟩:∃ p c',v'=.slice p (n+m) c':=r1.shape
  unfold Oper.wp execOp
  simp only[ho,resolve,invoke,builtin,Sem.run_bind,Sem.run_pure,Result.andThen_ok,List.map_toArray,List.map_cons,List.map_nil,hs,hx,hr]
  exact hK p c' w' r1 r2
end Go.Proofs.YtghohohagbbajaaGreatDoor
