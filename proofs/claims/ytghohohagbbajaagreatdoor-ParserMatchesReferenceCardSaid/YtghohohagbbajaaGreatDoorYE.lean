/- part of the proof -/
import Derived.Test.YtghohohagbbajaaGreatDoorYD
import Derived.Test.YtghohohagbbajaaGreatDoorYA
set_option linter.unusedVariables false
set_option linter.unusedSimpArgs false
set_option linter.unusedSectionVars false
namespace Go.Proofs.YtghohohagbbajaaGreatDoor
open Go.RowKit Go.Lib
theorem lex_any (s:ByteArray) (w:World) (hs:s.size≤140737488355328) (hL:Libs w) :
  Calls Tryz.prog 8 #[.string s] w (LexPost w (Lx.lexL s.data.toList)):=by
 by_cases h:s.size≤20000
 ·exact lex_short s w h hL
 ·refine(lex_long s w (by omega) hs).mono ?_
  rintro e w' ⟨rfl,hb⟩
  have hlex:Lx.lexL s.data.toList=([],2,20000):=by unfold Lx.lexL;rw[if_pos (by simp;omega)]
  rw[hlex]
  exact⟨_,rfl,World.ownsRow_nil _ _ _ _,fun _=>rfl,hb⟩
theorem row_cell {W:World} {base k:Nat} {v:Value} {xs:List Value} (h:W.ownsRow base 73 4 v k xs) (hk:k≠0) :
  ∃ g cap,v=.slice (some ⟨g,0,none⟩) k cap∧base≤g∧g<W.heap.size∧k≤cap∧∀ j,j<k * 4→W.cell? ⟨g,j,none⟩=xs[j]?:=by
 rcases h.2 with ⟨_,h0⟩|⟨g,cap,cur,rfl,hb,hg,hn,_,hc,ht⟩
 ·exact absurd h0 hk
 ·refine⟨g,cap,rfl,hb,(Array.getElem?_eq_some_iff.1 hg).1,hn,fun j hj=>?_⟩
  have e:W.cell? ⟨g,j,none⟩=cur[j]?:=by simp[World.cell?,hg]
  rw[e,← ht,List.getElem?_take,if_pos hj];simp
theorem lex_spec (s:ByteArray) (w:World) (hs:s.size≤140737488355328) (hL:Libs w) (ts:List Lx.Tk) (er at':Nat) (h:Lx.lexL s.data.toList=(ts,er,at')) :
  Calls Tryz.prog 8 #[.string s] w fun e w'=>∃ a cap,e=.returned (.tuple #[.slice a ts.length cap,.int .i64 er,.int .i64 at'])∧w'.ownsRow w.heap.size 73 4 (.slice a ts.length cap) ts.length (tksCells ts)∧Below w.heap.size w w':=by
 refine(lex_any s w hs hL).mono ?_
 rintro e w' ⟨v,rfl,h1,h2,hb⟩
 rw[h] at *
 obtain⟨a,cap,rfl⟩:=row_shape h1
 exact⟨a,cap,rfl,h1,hb⟩
end Go.Proofs.YtghohohagbbajaaGreatDoor
