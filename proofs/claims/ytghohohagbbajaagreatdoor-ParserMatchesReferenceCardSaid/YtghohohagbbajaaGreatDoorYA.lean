/- part of the proof -/
set_option linter.unusedVariables false
set_option linter.unusedSimpArgs false
set_option linter.unusedSectionVars false
namespace Go.Proofs.YtghohohagbbajaaGreatDoor.Lx
def clsN (i:Nat):Nat :=
 if i=32∨i=9∨i=13∨i=10 then 1
 else if (97≤i∧i≤122)∨(65≤i∧i≤90) then 4
 else if 48≤i∧i≤57 then 8
 else if i=35 then 2
 else if i=95 then 16
 else 0
def blankB (c:UInt8):Bool:=clsN c.toNat == 1
def letterB (c:UInt8):Bool:=clsN c.toNat == 4
def digitB (c:UInt8):Bool:=clsN c.toNat == 8
def wordB (c:UInt8):Bool:=clsN c.toNat == 4 || clsN c.toNat == 8 || clsN c.toNat == 16
def runLen (p:UInt8→Bool):List UInt8→Nat
 | []=>0
 | c :: r=>if p c then runLen p r+1 else 0
def gapLen:Bool→List UInt8→Nat
 | _,[]=>0
 | false,c :: r=>if blankB c then gapLen false r+1 else if c == 35 then gapLen true r+1 else 0
 | true,c :: r=>if c == 10 then gapLen false r+1 else gapLen true r+1
def numVal (acc:Nat) (l:List UInt8):Nat:=l.foldl (fun a c=>10 * a+(c.toNat - 48)) acc
theorem numVal_nil (acc:Nat):numVal acc []=acc:=by simp only[numVal,List.foldl_nil]
theorem numVal_cons (acc:Nat) (c:UInt8) (r:List UInt8):numVal acc (c :: r)=numVal (10 * acc+(c.toNat - 48)) r:=by simp only[numVal,List.foldl_cons]
theorem numVal_ge (l:List UInt8):∀ (acc:Nat),acc≤numVal acc l:=by
 induction l with
 | nil=>intro acc;rw[numVal_nil];exact Nat.le_refl _
 | cons c r ih =>
  intro acc
  rw[numVal_cons]
  exact Nat.le_trans (by omega) (ih _)
def syms:List (List UInt8):=[[60],[62],[40],[41],[123],[125],[91],[93],[44],[59],[58],[58,58],[46],[61],[61,61],[43],[45],[42],[38],[38,33],[45,62]]
def isSym (t:List UInt8):Bool:=syms.contains t
def symFrom:Nat→List UInt8→Nat
 | 0,_=>0
 | n+1,l=>if isSym (l.take (n+1)) then n+1 else symFrom n l
def symLen (l:List UInt8):Nat:=symFrom (min 2 l.length) l
def tokAt (l:List UInt8):Nat × Nat × Nat :=
 match l with
 | []=>(0,0,3)
 | c :: _ =>
  if letterB c then
   if 24<runLen wordB l then (0,0,2) else (1,runLen wordB l,0)
  else if digitB c then
   if 10<runLen digitB l∨1000000000<numVal 0 (l.take (runLen digitB l)) then (0,0,2)
   else (2,runLen digitB l,numVal 0 (l.take (runLen digitB l)))
  else if symLen l=0 then (0,0,3) else (3,symLen l,0)
structure Tk where
 kind:Nat
 text:List UInt8
 num:Nat
 off:Nat
deriving DecidableEq,Repr
structure Yd where
 tk:Tk
 err:Nat
deriving DecidableEq,Repr
def posEnd (l:List UInt8) (k:Nat):Nat:=k+gapLen false (l.drop k)
def yields (l:List UInt8):Nat→Nat→List Yd
 | 0,_=>[]
 | f+1,k =>
  if k<l.length then
   if (tokAt (l.drop k)).1=0 then [⟨⟨0,[],0,k⟩,(tokAt (l.drop k)).2.2⟩]
   else ⟨⟨(tokAt (l.drop k)).1,(l.drop k).take (tokAt (l.drop k)).2.1,(tokAt (l.drop k)).2.2,k⟩,0⟩ :: yields l f (posEnd l (k+(tokAt (l.drop k)).2.1))
  else []
def allYields (l:List UInt8):List Yd:=yields l (l.length+1) (posEnd l 0)
def collect:Nat→List Yd→List Tk→List Tk × Nat × Nat
 | _,[],acc=>(acc,0,0)
 | n,y :: r,acc =>
  if y.err≠0 then ([],y.err,y.tk.off)
  else if n=6000 then ([],2,y.tk.off)
  else collect (n+1) r (acc ++ [y.tk])
def lexL (l:List UInt8):List Tk × Nat × Nat :=
 if 20000<l.length then ([],2,20000) else collect 0 (allYields l) []
theorem runLen_take (p:UInt8→Bool):∀ (l:List UInt8) (m:Nat),runLen p (l.take m)=min (runLen p l) m:=by
 intro l
 induction l with
 | nil=>intro m;simp[runLen]
 | cons c r ih =>
  intro m
  cases m with
  | zero=>simp[runLen]
  | succ m =>
   simp only[List.take_succ_cons,runLen]
   by_cases h:p c=true
   ·simp only[h,if_true];rw[ih];omega
   ·simp[h]
theorem symFrom_le (n:Nat) (l:List UInt8):symFrom n l≤n:=by
 induction n with
 | zero=>exact Nat.le_refl _
 | succ n ih=>unfold symFrom;split <;> omega
theorem symLen_cases (l:List UInt8):symLen l=if 2≤l.length∧isSym (l.take 2)=true then 2 else if 1≤l.length∧isSym (l.take 1)=true then 1 else 0:=by
 unfold symLen
 by_cases h2:2≤l.length
 ·rw[Nat.min_eq_left h2]
  by_cases hs:isSym (l.take 2)=true
  ·simp[symFrom,hs,h2]
  ·have h1:1≤l.length:=by omega
   simp[symFrom,hs,h1]
 ·by_cases h1:1≤l.length
  ·have e:min 2 l.length=1:=by omega
   rw[e]
   simp[symFrom,h2,h1]
  ·have e:min 2 l.length=0:=by omega
   rw[e];simp[symFrom,h2,h1]
theorem symLen_take (l:List UInt8) (m:Nat) (h:symLen l≠0) (hm:symLen l≤m):symLen (l.take m)=symLen l:=by
 rw[symLen_cases] at h hm
 rw[symLen_cases (l.take m),symLen_cases l]
 by_cases h2:2≤l.length∧isSym (l.take 2)=true
 ·rw[if_pos h2] at hm ⊢
  rw[if_pos]
  refine⟨by rw[List.length_take];omega,by rw[List.take_take,Nat.min_eq_left hm];exact h2.2⟩
 ·rw[if_neg h2] at hm h ⊢
  by_cases h1:1≤l.length∧isSym (l.take 1)=true
  ·rw[if_pos h1] at hm ⊢
   rw[if_neg,if_pos]
   ·exact⟨by rw[List.length_take];omega,by rw[List.take_take,Nat.min_eq_left hm];exact h1.2⟩
   ·rintro⟨a,b⟩
    rw[List.length_take] at a
    rw[List.take_take,Nat.min_eq_left (by omega)] at b
    exact h2 ⟨by omega,b⟩
  ·rw[if_neg h1] at h;exact absurd rfl h
theorem letter_word' (c:UInt8) (h:letterB c=true):wordB c=true:=by simp[letterB] at h;simp[wordB,h]
theorem tok_take (l:List UInt8) (m:Nat) (h:(tokAt l).1≠0) (hm:(tokAt l).2.1≤m):tokAt (l.take m)=tokAt l:=by
 cases l with
 | nil=>exact absurd rfl h
 | cons c r =>
  cases m with
  | zero =>
   exfalso
   unfold tokAt at h hm
   by_cases hl:letterB c=true
   ·have:=letter_word' c hl
    simp only[hl,if_true] at h hm
    by_cases hx:24<runLen wordB (c :: r)
    ·rw[if_pos hx] at h;exact h rfl
    ·rw[if_neg hx] at hm;simp[runLen,this] at hm
   ·have hl':letterB c=false:=by simpa using hl
    by_cases hd:digitB c=true
    ·simp only[hl',hd,Bool.false_eq_true,if_false,if_true] at h hm
     split at h
     ·exact h rfl
     ·rename_i hx;rw[if_neg hx] at hm;simp[runLen,hd] at hm
    ·have hd':digitB c=false:=by simpa using hd
     simp only[hl',hd',Bool.false_eq_true,if_false] at h hm
     split at h
     ·exact h rfl
     ·rename_i hx;rw[if_neg hx] at hm;simp at hm;exact hx hm
  | succ m =>
   rw[List.take_succ_cons]
   unfold tokAt at h hm ⊢
   by_cases hl:letterB c=true
   ·simp only[hl,if_true] at h hm ⊢
    have e:=runLen_take wordB (c :: r) (m+1)
    rw[List.take_succ_cons] at e
    by_cases hx:24<runLen wordB (c :: r)
    ·rw[if_pos hx] at h;exact absurd rfl h
    ·rw[if_neg hx] at hm ⊢
     simp only at hm
     rw[Nat.min_eq_left hm] at e
     rw[e,if_neg hx]
   ·have hl':letterB c=false:=by simpa using hl
    by_cases hd:digitB c=true
    ·simp only[hl',hd,Bool.false_eq_true,if_false,if_true] at h hm ⊢
     have e:=runLen_take digitB (c :: r) (m+1)
     rw[List.take_succ_cons] at e
     by_cases hx:10<runLen digitB (c :: r)∨1000000000<numVal 0 ((c :: r).take (runLen digitB (c :: r)))
     ·rw[if_pos hx] at h;exact absurd rfl h
     ·rw[if_neg hx] at hm ⊢
      simp only at hm
      rw[Nat.min_eq_left hm] at e
      have e2:(c :: r.take m).take (runLen digitB (c :: r))=(c :: r).take (runLen digitB (c :: r)):=by
       rw[← List.take_succ_cons,List.take_take,Nat.min_eq_left hm]
      rw[e,e2,if_neg hx]
    ·have hd':digitB c=false:=by simpa using hd
     simp only[hl',hd',Bool.false_eq_true,if_false] at h hm ⊢
     by_cases hx:symLen (c :: r)=0
     ·rw[if_pos hx] at h;exact absurd rfl h
     ·rw[if_neg hx] at hm ⊢
      have e:=symLen_take (c :: r) (m+1) hx hm
      rw[List.take_succ_cons] at e
      rw[e,if_neg hx]
theorem tok_err' (l:List UInt8) (h:(tokAt l).1=0):(tokAt l).2.2=2∨(tokAt l).2.2=3:=by
 unfold tokAt at *
 repeat' split at h
 all_goals first|(simp at h;done)|(simp_all;done)|skip
theorem posEnd_ge (l:List UInt8) (k:Nat):k≤posEnd l k:=by unfold posEnd;omega
theorem tok_pos' (l:List UInt8) (h:(tokAt l).1≠0):0<(tokAt l).2.1:=by
 rcases Nat.eq_zero_or_pos (tokAt l).2.1 with h0|h0
 ·exfalso
  have:=tok_take l 0 h (by omega)
  rw[List.take_zero] at this
  rw[← this] at h;exact h rfl
 ·exact h0
theorem yields_fuel (l:List UInt8):∀ (f f' k:Nat),l.length - k<f→l.length - k<f'→yields l f k=yields l f' k:=by
 intro f
 induction f with
 | zero=>intro f' k h;omega
 | succ f ih =>
  intro f' k h h'
  cases f' with
  | zero=>omega
  | succ f' =>
   unfold yields
   by_cases hk:k<l.length
   ·rw[if_pos hk,if_pos hk]
    by_cases ht:(tokAt (l.drop k)).1=0
    ·rw[if_pos ht,if_pos ht]
    ·rw[if_neg ht,if_neg ht]
     have h1:=tok_pos' _ ht
     have h2:=posEnd_ge l (k+(tokAt (l.drop k)).2.1)
     rw[ih f' _ (by omega) (by omega)]
   ·rw[if_neg hk,if_neg hk]
def okAll (pre:List Yd):Prop:=pre.length≤6000∧∀ y∈pre,y.err=0
theorem collect_ok (q:List Yd):∀ (n:Nat) (r:List Yd) (acc:List Tk),n+q.length≤6000→(∀ y∈q,y.err=0)→collect n (q ++ r) acc=collect (n+q.length) r (acc ++ q.map (·.tk)):=by
 induction q with
 | nil=>intro n r acc _ _;simp
 | cons y q ih =>
  intro n r acc hn hq
  have h0:y.err=0:=hq y (by simp)
  simp only[List.length_cons] at hn
  rw[List.cons_append,collect,if_neg (by omega),if_neg (by omega),ih (n+1) r _ (by omega) (fun z hz=>hq z (by simp[hz]))]
  simp only[List.length_cons,List.map_cons,List.append_assoc,List.cons_append,List.nil_append]
  rw[show n+1+q.length=n+(q.length+1) from by omega]
theorem collect_done (ys:List Yd) (h:okAll ys):collect 0 ys []=(ys.map (·.tk),0,0):=by
 have:=collect_ok ys 0 [] [] (by have:=h.1;omega) h.2
 rw[List.append_nil] at this
 rw[this];simp[collect]
def Stop (q:List Yd) (y:Yd) (er:Nat):Prop:=okAll q∧((y.err≠0∧er=y.err)∨(y.err=0∧q.length=6000∧er=2))
theorem collect_stop (q:List Yd) (y:Yd) (r:List Yd) (er:Nat) (h:Stop q y er):collect 0 (q ++ y :: r) []=([],er,y.tk.off):=by
 rw[collect_ok q 0 _ [] (by have:=h.1.1;omega) h.1.2,collect]
 rcases h.2 with ⟨h1,rfl⟩|⟨h1,h2,rfl⟩
 ·rw[if_pos h1]
 ·rw[if_neg (by omega),if_pos (by omega)]
theorem okAll_or (ys:List Yd):okAll ys∨∃ q y r er,ys=q ++ y :: r∧Stop q y er:=by
 suffices h:∀ (r q:List Yd),okAll q→okAll (q ++ r)∨∃ q' y r' er,q ++ r=q' ++ y :: r'∧Stop q' y er by
  simpa using h ys [] ⟨by simp,by simp⟩
 intro r
 induction r with
 | nil=>intro q h;left;simpa using h
 | cons y r ih =>
  intro q hq
  by_cases he:y.err=0
  ·by_cases hl:q.length=6000
   ·right;exact⟨q,y,r,2,rfl,hq,.inr ⟨he,hl,rfl⟩⟩
   ·have:=ih (q ++ [y]) ⟨by have:=hq.1;simp;omega,fun z hz=>by
     rcases List.mem_append.1 hz with hz|hz
     ·exact hq.2 z hz
     ·simp at hz;rw[hz];exact he⟩
    simpa using this
  ·right;exact⟨q,y,r,y.err,rfl,hq,.inl ⟨he,rfl⟩⟩
theorem lex_ok (l:List UInt8) (h:(lexL l).2.1=0):l.length≤20000∧(lexL l).2.2=0∧okAll (allYields l)∧(lexL l).1=(allYields l).map (·.tk):=by
 by_cases hl:20000<l.length
 ·have e:lexL l=([],2,20000):=by unfold lexL;rw[if_pos hl]
  rw[e] at h;simp at h
 ·have e:lexL l=collect 0 (allYields l) []:=by unfold lexL;rw[if_neg hl]
  rcases okAll_or (allYields l) with hok|⟨q,y,r,er,hy,hs⟩
  ·rw[e,collect_done _ hok];exact⟨by omega,rfl,hok,rfl⟩
  ·rw[e,hy,collect_stop _ _ _ _ hs] at h
   rcases hs.2 with ⟨h1,rfl⟩|⟨_,_,rfl⟩
   ·exact absurd h h1
   ·exact absurd h (by simp)
theorem lex_long (l:List UInt8) (h:20000<l.length):lexL l=([],2,20000):=by unfold lexL;rw[if_pos h]
def Chain (l:List UInt8):Nat→List Tk→Prop
 | k,[]=>l.length≤k
 | k,t :: r=>k<l.length∧t.off=k∧t.kind≠0∧tokAt (l.drop k)=(t.kind,t.text.length,t.num)∧t.text=(l.drop k).take t.text.length ∧
   0<t.text.length∧k+t.text.length≤l.length∧Chain l (posEnd l (k+t.text.length)) r
theorem tok_len (l:List UInt8) (h:(tokAt l).1≠0):(tokAt l).2.1≤l.length:=by
 rcases Nat.lt_or_ge l.length (tokAt l).2.1 with h0|h0
 ·exfalso
  -- a list is what its beginning of its own length is
  have h1:tokAt l=tokAt l:=rfl
  cases l with
  | nil=>exact h rfl
  | cons c r =>
   unfold tokAt at h h0
   have w1:runLen wordB (c :: r)≤(c :: r).length:=by
    have:=runLen_take wordB (c :: r) (c :: r).length;rw[List.take_length] at this;omega
   have w2:runLen digitB (c :: r)≤(c :: r).length:=by
    have:=runLen_take digitB (c :: r) (c :: r).length;rw[List.take_length] at this;omega
   have w3:symLen (c :: r)≤(c :: r).length:=by
    have:=symFrom_le (min 2 (c :: r).length) (c :: r);unfold symLen;omega
   by_cases hl:letterB c=true
   ·simp only[hl,if_true] at h h0
    by_cases hx:24<runLen wordB (c :: r)
    ·rw[if_pos hx] at h;exact h rfl
    ·rw[if_neg hx] at h0;simp only at h0;omega
   ·have hl':letterB c=false:=by simpa using hl
    by_cases hd:digitB c=true
    ·simp only[hl',hd,Bool.false_eq_true,if_false,if_true] at h h0
     by_cases hx:10<runLen digitB (c :: r)∨1000000000<numVal 0 ((c :: r).take (runLen digitB (c :: r)))
     ·rw[if_pos hx] at h;exact h rfl
     ·rw[if_neg hx] at h0;simp only at h0;omega
    ·have hd':digitB c=false:=by simpa using hd
     simp only[hl',hd',Bool.false_eq_true,if_false] at h h0
     by_cases hx:symLen (c :: r)=0
     ·rw[if_pos hx] at h;exact h rfl
     ·rw[if_neg hx] at h0;simp only at h0;omega
 ·exact h0
theorem chain_of (l:List UInt8):∀ (f k:Nat),l.length - k<f→(∀ y∈yields l f k,y.err=0)→Chain l k ((yields l f k).map (·.tk)):=by
 intro f
 induction f with
 | zero=>intro k h;omega
 | succ f ih =>
  intro k hf h
  unfold yields at h ⊢
  by_cases hk:k<l.length
  ·rw[if_pos hk] at h ⊢
   by_cases ht:(tokAt (l.drop k)).1=0
   ·rw[if_pos ht] at h
    have:=h _ (List.mem_singleton.2 rfl)
    rcases tok_err' _ ht with h2|h2 <;> rw[h2] at this <;> simp at this
   ·rw[if_neg ht] at h ⊢
    have hp:=tok_pos' _ ht
    have hl:=tok_len _ ht
    have hlen:((l.drop k).take (tokAt (l.drop k)).2.1).length=(tokAt (l.drop k)).2.1:=by rw[List.length_take];omega
    rw[List.length_drop] at hl
    have hg:=posEnd_ge l (k+(tokAt (l.drop k)).2.1)
    refine⟨hk,rfl,ht,?_,?_,?_,?_,?_⟩
    ·simp only[hlen]
    ·simp only[hlen]
    ·simp only[hlen];exact hp
    ·simp only[hlen];omega
    ·simp only[hlen]
     exact ih _ (by omega) (fun y hy=>h y (by simp[hy]))
  ·rw[if_neg hk]
   show l.length≤k
   omega
theorem lex_chain (l:List UInt8) (h:(lexL l).2.1=0):l.length≤20000∧(lexL l).2.2=0∧(lexL l).1.length≤6000∧Chain l (posEnd l 0) (lexL l).1:=by
 obtain⟨h1,h2,h3,h4⟩:=lex_ok l h
 rw[h4]
 refine⟨h1,h2,by simpa using h3.1,?_⟩
 exact chain_of l _ _ (by omega) h3.2
theorem chain_at (l:List UInt8):∀ (ts:List Tk) (k i:Nat) (t:Tk),Chain l k ts→ts[i]?=some t →
  t.kind≠0∧tokAt (l.drop t.off)=(t.kind,t.text.length,t.num)∧t.text=(l.drop t.off).take t.text.length∧0<t.text.length∧t.off+t.text.length≤l.length:=by
 intro ts
 induction ts with
 | nil=>intro k i t _ h;simp at h
 | cons a r ih =>
  intro k i t h hi
  obtain⟨h1,h2,h3,h4,h5,h6,h7,h8⟩:=h
  cases i with
  | zero =>
   simp at hi;subst hi
   subst h2
   exact⟨h3,h4,h5,h6,h7⟩
  | succ i=>exact ih _ i t h8 (by simpa using hi)
def Whole (t:Tk):Prop:=t.kind≠0∧tokAt t.text=(t.kind,t.text.length,t.num)∧0<t.text.length
theorem chain_whole (l:List UInt8) (ts:List Tk) (k:Nat) (h:Chain l k ts):∀ t∈ts,Whole t:=by
 intro t ht
 obtain⟨i,hi,hx⟩:=List.getElem_of_mem ht
 obtain⟨h1,h2,h3,h4,h5⟩:=chain_at l ts k i t h (by rw[List.getElem?_eq_getElem hi,hx])
 refine⟨h1,?_,h4⟩
 have:=tok_take (l.drop t.off) t.text.length (by rw[h2];exact h1) (by rw[h2];exact Nat.le_refl _)
 rw[← h3,h2] at this
 exact this
end Go.Proofs.YtghohohagbbajaaGreatDoor.Lx
