/- part of the proof -/
import Derived.Test.YtcdlnhfgehhkcaaQ28
import Derived.Test.YtcdlnhfgehhkcaaQ05
set_option linter.unusedVariables false
set_option linter.unusedSimpArgs false
set_option linter.unusedSectionVars false
namespace Go.Proofs.Ytcdlnhfgehhkcaa
open Go.RowKit Go.Lib
open Un (kd nm ar size sizes acc accs fits stored valid)
set_option maxRecDepth 100000 in
set_option maxHeartbeats 1600000 in
theorem f_low (ds : List Int) (p n : Int) (ps cs : List Value) (t : Ty) (w : World) (hp : ProgV w (fun _ => True) ds ps) (h : TyV w (fun _ => True) t cs) (hn : n < 1) : Calls Try.prog 58 #[.agg ps.toArray,.int .i64 p,.agg cs.toArray,.int .i64 n] w (LookP false w):=by
 obtain ⟨p0,n0,c0,p1,n1,c1,dv,p3,n3,c3,p4,n4,c4,p5,n5,c5,p6,n6,c6,m,rfl,hd⟩:=hp
 obtain ⟨pt,ct,rfl,hat⟩:=h.shape
 obtain ⟨pd,cd,rfl⟩:=hd.shape
 have en : decide (n < 1) = true:=decide_eq_true hn
 have done : ∀ o o' : Obj,Fr [] w ((w.alloc o).alloc o'):=fun o o' => ((Fr.refl _ _).alloc _).alloc _
 clear h hat hd hn
 go_enter Try.func58,Try.ntmps58
 go_wp2_with fail
 go_ret
 exact ⟨rfl,done _ _⟩
set_option maxRecDepth 100000 in
set_option maxHeartbeats 1600000 in
theorem f_i1a (ds : List Int) (p n : Int) (ps cs : List Value) (t : Ty) (w : World) (hp : ProgV w (fun _ => True) ds ps) (h : TyV w (fun _ => True) t cs) (hn : 1 ≤ n) (hk : kd t = 1) (h1 : nm t ≠ 0) : Calls Try.prog 58 #[.agg ps.toArray,.int .i64 p,.agg cs.toArray,.int .i64 n] w (LookP false w):=by
 obtain ⟨p0,n0,c0,p1,n1,c1,dv,p3,n3,c3,p4,n4,c4,p5,n5,c5,p6,n6,c6,m,rfl,hd⟩:=hp
 obtain ⟨pt,ct,rfl,hat⟩:=h.shape
 obtain ⟨pd,cd,rfl⟩:=hd.shape
 have en : decide (n < 1) = false:=decide_eq_false (by omega)
 have e1 : (nm t == 0) = false:=by simpa using h1
 rw [hk]
 have done : ∀ o o' : Obj,Fr [] w ((w.alloc o).alloc o'):=fun o o' => ((Fr.refl _ _).alloc _).alloc _
 clear h hat hd hn hk h1
 go_enter Try.func58,Try.ntmps58
 go_wp2_with fail
 go_ret
 exact ⟨rfl,done _ _⟩
set_option maxRecDepth 100000 in
set_option maxHeartbeats 1600000 in
theorem f_i1b (ds : List Int) (p n : Int) (ps cs : List Value) (t : Ty) (w : World) (hp : ProgV w (fun _ => True) ds ps) (h : TyV w (fun _ => True) t cs) (hn : 1 ≤ n) (hk : kd t = 1) (h1 : nm t = 0) (h2 : (ar t).length ≠ 0) : Calls Try.prog 58 #[.agg ps.toArray,.int .i64 p,.agg cs.toArray,.int .i64 n] w (LookP false w):=by
 obtain ⟨p0,n0,c0,p1,n1,c1,dv,p3,n3,c3,p4,n4,c4,p5,n5,c5,p6,n6,c6,m,rfl,hd⟩:=hp
 obtain ⟨pt,ct,rfl,hat⟩:=h.shape
 obtain ⟨pd,cd,rfl⟩:=hd.shape
 have en : decide (n < 1) = false:=decide_eq_false (by omega)
 have e1 : (nm t == 0) = true:=by simpa using h1
 have e2 : ((ar t).length == 0) = false:=by simpa using h2
 have e3 : (((ar t).length : Int) == 0) = false:=by simp;intro h;exact h2 (by rw [h];rfl)
 rw [hk]
 have done : ∀ o o' : Obj,Fr [] w ((w.alloc o).alloc o'):=fun o o' => ((Fr.refl _ _).alloc _).alloc _
 clear h hat hd hn hk h1 h2
 go_enter Try.func58,Try.ntmps58
 go_wp2_with fail
 go_ret
 exact ⟨rfl,done _ _⟩
set_option maxRecDepth 100000 in
set_option maxHeartbeats 1600000 in
theorem f_i1c (ds : List Int) (p n : Int) (ps cs : List Value) (t : Ty) (w : World) (hp : ProgV w (fun _ => True) ds ps) (h : TyV w (fun _ => True) t cs) (hn : 1 ≤ n) (hk : kd t = 1) (h1 : nm t = 0) (h2 : (ar t).length = 0) : Calls Try.prog 58 #[.agg ps.toArray,.int .i64 p,.agg cs.toArray,.int .i64 n] w (LookP true w):=by
 obtain ⟨p0,n0,c0,p1,n1,c1,dv,p3,n3,c3,p4,n4,c4,p5,n5,c5,p6,n6,c6,m,rfl,hd⟩:=hp
 obtain ⟨pt,ct,rfl,hat⟩:=h.shape
 obtain ⟨pd,cd,rfl⟩:=hd.shape
 have en : decide (n < 1) = false:=decide_eq_false (by omega)
 have e1 : (nm t == 0) = true:=by simpa using h1
 rw [h2]
 rw [hk]
 have done : ∀ o o' : Obj,Fr [] w ((w.alloc o).alloc o'):=fun o o' => ((Fr.refl _ _).alloc _).alloc _
 clear h hat hd hn hk h1 h2
 go_enter Try.func58,Try.ntmps58
 go_wp2_with fail
 go_ret
 exact ⟨rfl,done _ _⟩
set_option maxRecDepth 100000 in
set_option maxHeartbeats 1600000 in
theorem f_i6a (ds : List Int) (p n : Int) (ps cs : List Value) (t : Ty) (w : World) (hp : ProgV w (fun _ => True) ds ps) (h : TyV w (fun _ => True) t cs) (hn : 1 ≤ n) (hk : kd t = 6) (h1 : nm t ≠ 0) : Calls Try.prog 58 #[.agg ps.toArray,.int .i64 p,.agg cs.toArray,.int .i64 n] w (LookP false w):=by
 obtain ⟨p0,n0,c0,p1,n1,c1,dv,p3,n3,c3,p4,n4,c4,p5,n5,c5,p6,n6,c6,m,rfl,hd⟩:=hp
 obtain ⟨pt,ct,rfl,hat⟩:=h.shape
 obtain ⟨pd,cd,rfl⟩:=hd.shape
 have en : decide (n < 1) = false:=decide_eq_false (by omega)
 have e1 : (nm t == 0) = false:=by simpa using h1
 rw [hk]
 have done : ∀ o o' : Obj,Fr [] w ((w.alloc o).alloc o'):=fun o o' => ((Fr.refl _ _).alloc _).alloc _
 clear h hat hd hn hk h1
 go_enter Try.func58,Try.ntmps58
 go_wp2_with fail
 go_ret
 exact ⟨rfl,done _ _⟩
set_option maxRecDepth 100000 in
set_option maxHeartbeats 1600000 in
theorem f_i6b (ds : List Int) (p n : Int) (ps cs : List Value) (t : Ty) (w : World) (hp : ProgV w (fun _ => True) ds ps) (h : TyV w (fun _ => True) t cs) (hn : 1 ≤ n) (hk : kd t = 6) (h1 : nm t = 0) (h2 : (ar t).length ≠ 0) : Calls Try.prog 58 #[.agg ps.toArray,.int .i64 p,.agg cs.toArray,.int .i64 n] w (LookP false w):=by
 obtain ⟨p0,n0,c0,p1,n1,c1,dv,p3,n3,c3,p4,n4,c4,p5,n5,c5,p6,n6,c6,m,rfl,hd⟩:=hp
 obtain ⟨pt,ct,rfl,hat⟩:=h.shape
 obtain ⟨pd,cd,rfl⟩:=hd.shape
 have en : decide (n < 1) = false:=decide_eq_false (by omega)
 have e1 : (nm t == 0) = true:=by simpa using h1
 have e2 : ((ar t).length == 0) = false:=by simpa using h2
 have e3 : (((ar t).length : Int) == 0) = false:=by simp;intro h;exact h2 (by rw [h];rfl)
 rw [hk]
 have done : ∀ o o' : Obj,Fr [] w ((w.alloc o).alloc o'):=fun o o' => ((Fr.refl _ _).alloc _).alloc _
 clear h hat hd hn hk h1 h2
 go_enter Try.func58,Try.ntmps58
 go_wp2_with fail
 go_ret
 exact ⟨rfl,done _ _⟩
set_option maxRecDepth 100000 in
set_option maxHeartbeats 1600000 in
theorem f_i6c (ds : List Int) (p n : Int) (ps cs : List Value) (t : Ty) (w : World) (hp : ProgV w (fun _ => True) ds ps) (h : TyV w (fun _ => True) t cs) (hn : 1 ≤ n) (hk : kd t = 6) (h1 : nm t = 0) (h2 : (ar t).length = 0) : Calls Try.prog 58 #[.agg ps.toArray,.int .i64 p,.agg cs.toArray,.int .i64 n] w (LookP true w):=by
 obtain ⟨p0,n0,c0,p1,n1,c1,dv,p3,n3,c3,p4,n4,c4,p5,n5,c5,p6,n6,c6,m,rfl,hd⟩:=hp
 obtain ⟨pt,ct,rfl,hat⟩:=h.shape
 obtain ⟨pd,cd,rfl⟩:=hd.shape
 have en : decide (n < 1) = false:=decide_eq_false (by omega)
 have e1 : (nm t == 0) = true:=by simpa using h1
 rw [h2]
 rw [hk]
 have done : ∀ o o' : Obj,Fr [] w ((w.alloc o).alloc o'):=fun o o' => ((Fr.refl _ _).alloc _).alloc _
 clear h hat hd hn hk h1 h2
 go_enter Try.func58,Try.ntmps58
 go_wp2_with fail
 go_ret
 exact ⟨rfl,done _ _⟩
set_option maxRecDepth 100000 in
set_option maxHeartbeats 1600000 in
theorem f_pa (ds : List Int) (p n : Int) (ps cs : List Value) (t : Ty) (w : World) (hp : ProgV w (fun _ => True) ds ps) (h : TyV w (fun _ => True) t cs) (hn : 1 ≤ n) (hk : kd t = 5) (h1 : nm t < 0) : Calls Try.prog 58 #[.agg ps.toArray,.int .i64 p,.agg cs.toArray,.int .i64 n] w (LookP false w):=by
 obtain ⟨p0,n0,c0,p1,n1,c1,dv,p3,n3,c3,p4,n4,c4,p5,n5,c5,p6,n6,c6,m,rfl,hd⟩:=hp
 obtain ⟨pt,ct,rfl,hat⟩:=h.shape
 obtain ⟨pd,cd,rfl⟩:=hd.shape
 have en : decide (n < 1) = false:=decide_eq_false (by omega)
 have e1 : decide (0 ≤ nm t) = false:=decide_eq_false (by omega)
 rw [hk]
 have done : ∀ o o' : Obj,Fr [] w ((w.alloc o).alloc o'):=fun o o' => ((Fr.refl _ _).alloc _).alloc _
 clear h hat hd hn hk h1
 go_enter Try.func58,Try.ntmps58
 go_wp2_with fail
 go_ret
 exact ⟨rfl,done _ _⟩
set_option maxRecDepth 100000 in
set_option maxHeartbeats 1600000 in
theorem f_pb (ds : List Int) (p n : Int) (ps cs : List Value) (t : Ty) (w : World) (hp : ProgV w (fun _ => True) ds ps) (h : TyV w (fun _ => True) t cs) (hn : 1 ≤ n) (hk : kd t = 5) (h1 : 0 ≤ nm t) (h2 : p ≤ nm t) : Calls Try.prog 58 #[.agg ps.toArray,.int .i64 p,.agg cs.toArray,.int .i64 n] w (LookP false w):=by
 obtain ⟨p0,n0,c0,p1,n1,c1,dv,p3,n3,c3,p4,n4,c4,p5,n5,c5,p6,n6,c6,m,rfl,hd⟩:=hp
 obtain ⟨pt,ct,rfl,hat⟩:=h.shape
 obtain ⟨pd,cd,rfl⟩:=hd.shape
 have en : decide (n < 1) = false:=decide_eq_false (by omega)
 have e1 : decide (0 ≤ nm t) = true:=decide_eq_true h1
 have e2 : decide (nm t < p) = false:=decide_eq_false (by omega)
 rw [hk]
 have done : ∀ o o' : Obj,Fr [] w ((w.alloc o).alloc o'):=fun o o' => ((Fr.refl _ _).alloc _).alloc _
 clear h hat hd hn hk h1 h2
 go_enter Try.func58,Try.ntmps58
 go_wp2_with fail
 go_ret
 exact ⟨rfl,done _ _⟩
set_option maxRecDepth 100000 in
set_option maxHeartbeats 1600000 in
theorem f_pc (ds : List Int) (p n : Int) (ps cs : List Value) (t : Ty) (w : World) (hp : ProgV w (fun _ => True) ds ps) (h : TyV w (fun _ => True) t cs) (hn : 1 ≤ n) (hk : kd t = 5) (h1 : 0 ≤ nm t) (h2 : nm t < p) (h3 : (ar t).length ≠ 0) : Calls Try.prog 58 #[.agg ps.toArray,.int .i64 p,.agg cs.toArray,.int .i64 n] w (LookP false w):=by
 obtain ⟨p0,n0,c0,p1,n1,c1,dv,p3,n3,c3,p4,n4,c4,p5,n5,c5,p6,n6,c6,m,rfl,hd⟩:=hp
 obtain ⟨pt,ct,rfl,hat⟩:=h.shape
 obtain ⟨pd,cd,rfl⟩:=hd.shape
 have en : decide (n < 1) = false:=decide_eq_false (by omega)
 have e1 : decide (0 ≤ nm t) = true:=decide_eq_true h1
 have e2 : decide (nm t < p) = true:=decide_eq_true h2
 have e3 : (((ar t).length : Int) == 0) = false:=by simp;intro h;exact h3 (by rw [h];rfl)
 have e4 : ((ar t).length == 0) = false:=by simpa using h3
 rw [hk]
 have done : ∀ o o' : Obj,Fr [] w ((w.alloc o).alloc o'):=fun o o' => ((Fr.refl _ _).alloc _).alloc _
 clear h hat hd hn hk h1 h2 h3
 go_enter Try.func58,Try.ntmps58
 go_wp2_with fail
 go_ret
 exact ⟨rfl,done _ _⟩
set_option maxRecDepth 100000 in
set_option maxHeartbeats 1600000 in
theorem f_pd (ds : List Int) (p n : Int) (ps cs : List Value) (t : Ty) (w : World) (hp : ProgV w (fun _ => True) ds ps) (h : TyV w (fun _ => True) t cs) (hn : 1 ≤ n) (hk : kd t = 5) (h1 : 0 ≤ nm t) (h2 : nm t < p) (h3 : (ar t).length = 0) : Calls Try.prog 58 #[.agg ps.toArray,.int .i64 p,.agg cs.toArray,.int .i64 n] w (LookP true w):=by
 obtain ⟨p0,n0,c0,p1,n1,c1,dv,p3,n3,c3,p4,n4,c4,p5,n5,c5,p6,n6,c6,m,rfl,hd⟩:=hp
 obtain ⟨pt,ct,rfl,hat⟩:=h.shape
 obtain ⟨pd,cd,rfl⟩:=hd.shape
 have en : decide (n < 1) = false:=decide_eq_false (by omega)
 have e1 : decide (0 ≤ nm t) = true:=decide_eq_true h1
 have e2 : decide (nm t < p) = true:=decide_eq_true h2
 rw [h3]
 rw [hk]
 have done : ∀ o o' : Obj,Fr [] w ((w.alloc o).alloc o'):=fun o o' => ((Fr.refl _ _).alloc _).alloc _
 clear h hat hd hn hk h1 h2 h3
 go_enter Try.func58,Try.ntmps58
 go_wp2_with fail
 go_ret
 exact ⟨rfl,done _ _⟩
set_option maxRecDepth 100000 in
set_option maxHeartbeats 1600000 in
theorem f_da (ds : List Int) (p n : Int) (ps cs : List Value) (t : Ty) (w : World) (hp : ProgV w (fun _ => True) ds ps) (h : TyV w (fun _ => True) t cs) (hn : 1 ≤ n) (hk : kd t = 2) (h1 : nm t < 0) : Calls Try.prog 58 #[.agg ps.toArray,.int .i64 p,.agg cs.toArray,.int .i64 n] w (LookP false w):=by
 obtain ⟨p0,n0,c0,p1,n1,c1,dv,p3,n3,c3,p4,n4,c4,p5,n5,c5,p6,n6,c6,m,rfl,hd⟩:=hp
 obtain ⟨pt,ct,rfl,hat⟩:=h.shape
 obtain ⟨pd,cd,rfl⟩:=hd.shape
 have en : decide (n < 1) = false:=decide_eq_false (by omega)
 have e1 : decide (nm t < 0) = true:=decide_eq_true h1
 rw [hk]
 have done : ∀ o o' : Obj,Fr [] w ((w.alloc o).alloc o'):=fun o o' => ((Fr.refl _ _).alloc _).alloc _
 clear h hat hd hn hk h1
 go_enter Try.func58,Try.ntmps58
 go_wp2_with fail
 go_ret
 exact ⟨rfl,done _ _⟩
set_option maxRecDepth 100000 in
set_option maxHeartbeats 1600000 in
theorem f_db (ds : List Int) (p n : Int) (ps cs : List Value) (t : Ty) (w : World) (hp : ProgV w (fun _ => True) ds ps) (h : TyV w (fun _ => True) t cs) (hn : 1 ≤ n) (hk : kd t = 2) (h1 : 0 ≤ nm t) (h2 : (ds.length : Int) ≤ nm t) : Calls Try.prog 58 #[.agg ps.toArray,.int .i64 p,.agg cs.toArray,.int .i64 n] w (LookP false w):=by
 obtain ⟨p0,n0,c0,p1,n1,c1,dv,p3,n3,c3,p4,n4,c4,p5,n5,c5,p6,n6,c6,m,rfl,hd⟩:=hp
 obtain ⟨pt,ct,rfl,hat⟩:=h.shape
 obtain ⟨pd,cd,rfl⟩:=hd.shape
 have en : decide (n < 1) = false:=decide_eq_false (by omega)
 have e1 : decide (nm t < 0) = false:=decide_eq_false (by omega)
 have e2 : decide ((ds.length : Int) ≤ nm t) = true:=decide_eq_true h2
 rw [hk]
 have done : ∀ o o' : Obj,Fr [] w ((w.alloc o).alloc o'):=fun o o' => ((Fr.refl _ _).alloc _).alloc _
 clear h hat hd hn hk h1 h2
 go_enter Try.func58,Try.ntmps58
 go_wp2_with fail
 go_ret
 exact ⟨rfl,done _ _⟩
set_option maxRecDepth 100000 in
set_option maxHeartbeats 1600000 in
theorem f_dc (ds : List Int) (p n : Int) (ps cs : List Value) (t : Ty) (w : World) (hp : ProgV w (fun _ => True) ds ps) (h : TyV w (fun _ => True) t cs) (hn : 1 ≤ n) (hk : kd t = 2) (i : Nat) (hi0 : nm t = i) (hi : i < ds.length) (h3 : ((ar t).length : Int) ≠ ds[i]) : Calls Try.prog 58 #[.agg ps.toArray,.int .i64 p,.agg cs.toArray,.int .i64 n] w (LookP false w):=by
 obtain ⟨p0,n0,c0,p1,n1,c1,dv,p3,n3,c3,p4,n4,c4,p5,n5,c5,p6,n6,c6,m,rfl,hd⟩:=hp
 obtain ⟨pt,ct,rfl,hat⟩:=h.shape
 obtain ⟨pd,cd,rfl⟩:=hd.shape
 have en : decide (n < 1) = false:=decide_eq_false (by omega)
 obtain ⟨bd,od,cap,hdv,g2,gl⟩:=hd.el hi
 simp only [Value.slice.injEq,true_and] at hdv
 obtain ⟨rfl,rfl⟩:=hdv
 have hdl:=(InN.slLen hd : ds.length ≤ maxLen)
 unfold maxLen at hdl
 have e1 : decide ((i : Int) < 0) = false:=decide_eq_false (by omega)
 have e2 : decide ((ds.length : Int) ≤ (i : Int)) = false:=decide_eq_false (by omega)
 have e22 : decide (ds.length ≤ i) = false:=decide_eq_false (by omega)
 have e5 : decide (i < ds.length) = true:=decide_eq_true hi
 have e6 : (i : Int) < (ds.length : Int):=by omega
 rw [hi0]
 obtain ⟨x,hx⟩ : ∃ x,x = ds[i]:=⟨_,rfl⟩
 rw [← hx] at g2
 rw [← hx] at h3
 have e3 : (((ar t).length : Int) != x) = true:=by simpa using h3
 rw [hk]
 have done : ∀ o o' : Obj,Fr [] w ((w.alloc o).alloc o'):=fun o o' => ((Fr.refl _ _).alloc _).alloc _
 clear h hat hd hn hk hi0 h3 hx
 go_enter Try.func58,Try.ntmps58
 go_wp2_with fail
 go_ret
 exact ⟨rfl,done _ _⟩
set_option maxRecDepth 100000 in
set_option maxHeartbeats 1600000 in
theorem f_o3a (ds : List Int) (p n : Int) (ps cs : List Value) (t : Ty) (w : World) (hp : ProgV w (fun _ => True) ds ps) (h : TyV w (fun _ => True) t cs) (hn : 1 ≤ n) (hk : kd t = 3) (h1 : nm t ≠ 0) : Calls Try.prog 58 #[.agg ps.toArray,.int .i64 p,.agg cs.toArray,.int .i64 n] w (LookP false w):=by
 obtain ⟨p0,n0,c0,p1,n1,c1,dv,p3,n3,c3,p4,n4,c4,p5,n5,c5,p6,n6,c6,m,rfl,hd⟩:=hp
 obtain ⟨pt,ct,rfl,hat⟩:=h.shape
 obtain ⟨pd,cd,rfl⟩:=hd.shape
 have en : decide (n < 1) = false:=decide_eq_false (by omega)
 have e1 : (nm t != 0) = true:=by simpa using h1
 rw [hk]
 have done : ∀ o o' : Obj,Fr [] w ((w.alloc o).alloc o'):=fun o o' => ((Fr.refl _ _).alloc _).alloc _
 clear h hat hd hn hk h1
 go_enter Try.func58,Try.ntmps58
 go_wp2_with fail
 go_ret
 exact ⟨rfl,done _ _⟩
set_option maxRecDepth 100000 in
set_option maxHeartbeats 1600000 in
theorem f_o3b (ds : List Int) (p n : Int) (ps cs : List Value) (t : Ty) (w : World) (hp : ProgV w (fun _ => True) ds ps) (h : TyV w (fun _ => True) t cs) (hn : 1 ≤ n) (hk : kd t = 3) (h1 : nm t = 0) (h2 : (ar t).length ≠ 1) : Calls Try.prog 58 #[.agg ps.toArray,.int .i64 p,.agg cs.toArray,.int .i64 n] w (LookP false w):=by
 obtain ⟨p0,n0,c0,p1,n1,c1,dv,p3,n3,c3,p4,n4,c4,p5,n5,c5,p6,n6,c6,m,rfl,hd⟩:=hp
 obtain ⟨pt,ct,rfl,hat⟩:=h.shape
 obtain ⟨pd,cd,rfl⟩:=hd.shape
 have en : decide (n < 1) = false:=decide_eq_false (by omega)
 have e1 : (nm t != 0) = false:=by simp [h1]
 have e2 : (((ar t).length : Int) != 1) = true:=by simp;omega
 have e3 : ((ar t).length != 1) = true:=by simpa using h2
 rw [hk]
 have done : ∀ o o' : Obj,Fr [] w ((w.alloc o).alloc o'):=fun o o' => ((Fr.refl _ _).alloc _).alloc _
 clear h hat hd hn hk h1 h2
 go_enter Try.func58,Try.ntmps58
 go_wp2_with fail
 go_ret
 exact ⟨rfl,done _ _⟩
set_option maxRecDepth 100000 in
set_option maxHeartbeats 1600000 in
theorem f_o4a (ds : List Int) (p n : Int) (ps cs : List Value) (t : Ty) (w : World) (hp : ProgV w (fun _ => True) ds ps) (h : TyV w (fun _ => True) t cs) (hn : 1 ≤ n) (hk : kd t = 4) (h1 : nm t ≠ 0) : Calls Try.prog 58 #[.agg ps.toArray,.int .i64 p,.agg cs.toArray,.int .i64 n] w (LookP false w):=by
 obtain ⟨p0,n0,c0,p1,n1,c1,dv,p3,n3,c3,p4,n4,c4,p5,n5,c5,p6,n6,c6,m,rfl,hd⟩:=hp
 obtain ⟨pt,ct,rfl,hat⟩:=h.shape
 obtain ⟨pd,cd,rfl⟩:=hd.shape
 have en : decide (n < 1) = false:=decide_eq_false (by omega)
 have e1 : (nm t != 0) = true:=by simpa using h1
 rw [hk]
 have done : ∀ o o' : Obj,Fr [] w ((w.alloc o).alloc o'):=fun o o' => ((Fr.refl _ _).alloc _).alloc _
 clear h hat hd hn hk h1
 go_enter Try.func58,Try.ntmps58
 go_wp2_with fail
 go_ret
 exact ⟨rfl,done _ _⟩
set_option maxRecDepth 100000 in
set_option maxHeartbeats 1600000 in
theorem f_o4b (ds : List Int) (p n : Int) (ps cs : List Value) (t : Ty) (w : World) (hp : ProgV w (fun _ => True) ds ps) (h : TyV w (fun _ => True) t cs) (hn : 1 ≤ n) (hk : kd t = 4) (h1 : nm t = 0) (h2 : (ar t).length ≠ 1) : Calls Try.prog 58 #[.agg ps.toArray,.int .i64 p,.agg cs.toArray,.int .i64 n] w (LookP false w):=by
 obtain ⟨p0,n0,c0,p1,n1,c1,dv,p3,n3,c3,p4,n4,c4,p5,n5,c5,p6,n6,c6,m,rfl,hd⟩:=hp
 obtain ⟨pt,ct,rfl,hat⟩:=h.shape
 obtain ⟨pd,cd,rfl⟩:=hd.shape
 have en : decide (n < 1) = false:=decide_eq_false (by omega)
 have e1 : (nm t != 0) = false:=by simp [h1]
 have e2 : (((ar t).length : Int) != 1) = true:=by simp;omega
 have e3 : ((ar t).length != 1) = true:=by simpa using h2
 rw [hk]
 have done : ∀ o o' : Obj,Fr [] w ((w.alloc o).alloc o'):=fun o o' => ((Fr.refl _ _).alloc _).alloc _
 clear h hat hd hn hk h1 h2
 go_enter Try.func58,Try.ntmps58
 go_wp2_with fail
 go_ret
 exact ⟨rfl,done _ _⟩
set_option maxRecDepth 100000 in
set_option maxHeartbeats 1600000 in
theorem f_o8a (ds : List Int) (p n : Int) (ps cs : List Value) (t : Ty) (w : World) (hp : ProgV w (fun _ => True) ds ps) (h : TyV w (fun _ => True) t cs) (hn : 1 ≤ n) (hk : kd t = 8) (h1 : nm t ≠ 0) : Calls Try.prog 58 #[.agg ps.toArray,.int .i64 p,.agg cs.toArray,.int .i64 n] w (LookP false w):=by
 obtain ⟨p0,n0,c0,p1,n1,c1,dv,p3,n3,c3,p4,n4,c4,p5,n5,c5,p6,n6,c6,m,rfl,hd⟩:=hp
 obtain ⟨pt,ct,rfl,hat⟩:=h.shape
 obtain ⟨pd,cd,rfl⟩:=hd.shape
 have en : decide (n < 1) = false:=decide_eq_false (by omega)
 have e1 : (nm t != 0) = true:=by simpa using h1
 rw [hk]
 have done : ∀ o o' : Obj,Fr [] w ((w.alloc o).alloc o'):=fun o o' => ((Fr.refl _ _).alloc _).alloc _
 clear h hat hd hn hk h1
 go_enter Try.func58,Try.ntmps58
 go_wp2_with fail
 go_ret
 exact ⟨rfl,done _ _⟩
set_option maxRecDepth 100000 in
set_option maxHeartbeats 1600000 in
theorem f_o8b (ds : List Int) (p n : Int) (ps cs : List Value) (t : Ty) (w : World) (hp : ProgV w (fun _ => True) ds ps) (h : TyV w (fun _ => True) t cs) (hn : 1 ≤ n) (hk : kd t = 8) (h1 : nm t = 0) (h2 : (ar t).length ≠ 1) : Calls Try.prog 58 #[.agg ps.toArray,.int .i64 p,.agg cs.toArray,.int .i64 n] w (LookP false w):=by
 obtain ⟨p0,n0,c0,p1,n1,c1,dv,p3,n3,c3,p4,n4,c4,p5,n5,c5,p6,n6,c6,m,rfl,hd⟩:=hp
 obtain ⟨pt,ct,rfl,hat⟩:=h.shape
 obtain ⟨pd,cd,rfl⟩:=hd.shape
 have en : decide (n < 1) = false:=decide_eq_false (by omega)
 have e1 : (nm t != 0) = false:=by simp [h1]
 have e2 : (((ar t).length : Int) != 1) = true:=by simp;omega
 have e3 : ((ar t).length != 1) = true:=by simpa using h2
 rw [hk]
 have done : ∀ o o' : Obj,Fr [] w ((w.alloc o).alloc o'):=fun o o' => ((Fr.refl _ _).alloc _).alloc _
 clear h hat hd hn hk h1 h2
 go_enter Try.func58,Try.ntmps58
 go_wp2_with fail
 go_ret
 exact ⟨rfl,done _ _⟩
set_option maxRecDepth 100000 in
set_option maxHeartbeats 1600000 in
theorem f_o7a (ds : List Int) (p n : Int) (ps cs : List Value) (t : Ty) (w : World) (hp : ProgV w (fun _ => True) ds ps) (h : TyV w (fun _ => True) t cs) (hn : 1 ≤ n) (hk : kd t = 7) (h1 : nm t ≠ 0) : Calls Try.prog 58 #[.agg ps.toArray,.int .i64 p,.agg cs.toArray,.int .i64 n] w (LookP false w):=by
 obtain ⟨p0,n0,c0,p1,n1,c1,dv,p3,n3,c3,p4,n4,c4,p5,n5,c5,p6,n6,c6,m,rfl,hd⟩:=hp
 obtain ⟨pt,ct,rfl,hat⟩:=h.shape
 obtain ⟨pd,cd,rfl⟩:=hd.shape
 have en : decide (n < 1) = false:=decide_eq_false (by omega)
 have e1 : (nm t != 0) = true:=by simpa using h1
 rw [hk]
 have done : ∀ o o' : Obj,Fr [] w ((w.alloc o).alloc o'):=fun o o' => ((Fr.refl _ _).alloc _).alloc _
 clear h hat hd hn hk h1
 go_enter Try.func58,Try.ntmps58
 go_wp2_with fail
 go_ret
 exact ⟨rfl,done _ _⟩
set_option maxRecDepth 100000 in
set_option maxHeartbeats 1600000 in
theorem f_o7b (ds : List Int) (p n : Int) (ps cs : List Value) (t : Ty) (w : World) (hp : ProgV w (fun _ => True) ds ps) (h : TyV w (fun _ => True) t cs) (hn : 1 ≤ n) (hk : kd t = 7) (h1 : nm t = 0) (h2 : (ar t).length ≠ 1) : Calls Try.prog 58 #[.agg ps.toArray,.int .i64 p,.agg cs.toArray,.int .i64 n] w (LookP false w):=by
 obtain ⟨p0,n0,c0,p1,n1,c1,dv,p3,n3,c3,p4,n4,c4,p5,n5,c5,p6,n6,c6,m,rfl,hd⟩:=hp
 obtain ⟨pt,ct,rfl,hat⟩:=h.shape
 obtain ⟨pd,cd,rfl⟩:=hd.shape
 have en : decide (n < 1) = false:=decide_eq_false (by omega)
 have e1 : (nm t != 0) = false:=by simp [h1]
 have e2 : (((ar t).length : Int) != 1) = true:=by simp;omega
 have e3 : ((ar t).length != 1) = true:=by simpa using h2
 rw [hk]
 have done : ∀ o o' : Obj,Fr [] w ((w.alloc o).alloc o'):=fun o o' => ((Fr.refl _ _).alloc _).alloc _
 clear h hat hd hn hk h1 h2
 go_enter Try.func58,Try.ntmps58
 go_wp2_with fail
 go_ret
 exact ⟨rfl,done _ _⟩
set_option maxRecDepth 100000 in
set_option maxHeartbeats 1600000 in
theorem f_other (ds : List Int) (p n : Int) (ps cs : List Value) (t : Ty) (w : World) (hp : ProgV w (fun _ => True) ds ps) (h : TyV w (fun _ => True) t cs) (hn : 1 ≤ n) (hk : kd t < 1 ∨ 8 < kd t) : Calls Try.prog 58 #[.agg ps.toArray,.int .i64 p,.agg cs.toArray,.int .i64 n] w (LookP false w):=by
 obtain ⟨p0,n0,c0,p1,n1,c1,dv,p3,n3,c3,p4,n4,c4,p5,n5,c5,p6,n6,c6,m,rfl,hd⟩:=hp
 obtain ⟨pt,ct,rfl,hat⟩:=h.shape
 obtain ⟨pd,cd,rfl⟩:=hd.shape
 have en : decide (n < 1) = false:=decide_eq_false (by omega)
 have k1 : (kd t == 1) = false:=by simp;omega
 have k2 : (kd t == 2) = false:=by simp;omega
 have k3 : (kd t == 3) = false:=by simp;omega
 have k4 : (kd t == 4) = false:=by simp;omega
 have k5 : (kd t == 5) = false:=by simp;omega
 have k6 : (kd t == 6) = false:=by simp;omega
 have k7 : (kd t == 7) = false:=by simp;omega
 have k8 : (kd t == 8) = false:=by simp;omega
 have done : ∀ o o' : Obj,Fr [] w ((w.alloc o).alloc o'):=fun o o' => ((Fr.refl _ _).alloc _).alloc _
 clear h hat hd hn hk
 go_enter Try.func58,Try.ntmps58
 go_wp2_with fail
 go_ret
 exact ⟨rfl,done _ _⟩
set_option maxRecDepth 100000 in
set_option maxHeartbeats 1600000 in
theorem f_o7c (ds : List Int) (p n : Int) (ps cs : List Value) (t : Ty) (w : World) (hp : ProgV w (fun _ => True) ds ps) (h : TyV w (fun _ => True) t cs) (hn : 1 ≤ n) (hn8 : n ≤ 8) (hk : kd t = 7) (h1 : nm t = 0) (z : Nat) (hz : (ar t).length = z) (h2 : z = 1) (x0 : Ty) (hx0 : (ar t)[0]? = some x0) (hx6 : kd x0 = 6) (g : Bool)
  (ih : ∀ (cs : List Value) (wx : World),Fr [] w wx → TyV wx (fun _ => True) x0 cs → Calls Try.prog 58 #[.agg ps.toArray,.int .i64 p,.agg cs.toArray,.int .i64 (n - 1)] wx (LookP g wx)) : Calls Try.prog 58 #[.agg ps.toArray,.int .i64 p,.agg cs.toArray,.int .i64 n] w (LookP g w):=by
 obtain ⟨p0,n0,c0,p1,n1,c1,dv,p3,n3,c3,p4,n4,c4,p5,n5,c5,p6,n6,c6,m,rfl,hd⟩:=hp
 obtain ⟨pt,ct,rfl,hat⟩:=h.shape
 obtain ⟨pd,cd,rfl⟩:=hd.shape
 have en : decide (n < 1) = false:=decide_eq_false (by omega)
 have e1 : (nm t != 0) = false:=by simp [h1]
 have e2 : ((z : Int) != 1) = false:=by simp;omega
 have e7 : decide (0 < z) = true:=decide_eq_true (by omega)
 have e8 : (0 : Int) < (z : Int):=by omega
 have e9 : 0 < z:=by omega
 obtain ⟨b9,o9,rfl,hat9⟩:=TysV.elem (s:=ar t) (n:=(ar t).length) hat hx0
 obtain ⟨q9,d9,k9,hb9,y0,y1,y2⟩:=hat9.el (Fr.refl [] w) (by simp) hx0
 rw [Nat.zero_mul,Nat.add_zero] at y0 y1 y2
 have e6 : (kd x0 == 6) = true:=by simp [hx6]
 obtain ⟨l,hl⟩ : ∃ l,l = ar t:=⟨_,rfl⟩
 rw [hz]
 rw [hk]
 obtain ⟨T0,hT0⟩ : ∃ T0,T0 = w.heap.size:=⟨_,rfl⟩
 obtain ⟨w1,hw1⟩ : ∃ w1,w1 = (w.alloc (.cells #[.slice p0 n0 c0,.slice p1 n1 c1,.slice pd ds.length cd,.slice p3 n3 c3,.slice p4 n4 c4,.slice p5 n5 c5,.slice p6 n6 c6,.int .i64 m] 32)).alloc (.cells #[.int .i64 7,.int .i64 (nm t),.slice (some ⟨b9,o9,none⟩) z ct] 24):=⟨_,rfl⟩
 have HF1 : Hid (Fr [] w w1):=hid (by rw [hw1];exact ((Fr.refl _ _).alloc _).alloc _)
 have HP1 : Hid (Blk w1 T0 32 #[.slice p0 n0 c0,.slice p1 n1 c1,.slice pd ds.length cd,.slice p3 n3 c3,.slice p4 n4 c4,.slice p5 n5 c5,.slice p6 n6 c6,.int .i64 m]):=hid (by rw [hw1,hT0];exact (Blk.new _ _ _).alloc _)
 have HT1 : Hid (Blk w1 (T0 + 1) 24 #[.int .i64 7,.int .i64 (nm t),.slice (some ⟨b9,o9,none⟩) z ct]):=hid (by rw [hw1,hT0];exact Blk.new_at (by simp))
 have HT0 : Hid (w.heap.size = T0):=hid hT0.symm
 obtain ⟨wd,hwd⟩ : ∃ wd,wd = w1.drew:=⟨_,rfl⟩
 have hfd : Fr [] w1 wd:=by rw [hwd];exact (Fr.refl _ _).drew
 have HFW : Hid (Fr [] w wd):=hid (HF1.out.trans hfd)
 have HPD:=hid (HP1.out.keep hfd (by simp))
 have HTD:=hid (HT1.out.keep hfd (by simp))
 have HFM:=hid (ih _ wd HFW.out (k9.keep0 HFW.out))
 have HCE : Hid (wd.cell? ⟨T0 + 1,2,none⟩ = some (.slice (some ⟨b9,o9,none⟩) z ct) ∧ T0 + 1 < wd.heap.size ∧ wd.cell? ⟨b9,o9,none⟩ = some (.int .i64 (kd x0)) ∧ wd.cell? ⟨b9,o9 + 1,none⟩ = some (.int .i64 (nm x0)) ∧ wd.cell? ⟨b9,o9 + 2,none⟩ = some (.slice q9 (ar x0).length d9) ∧ wd.cell? ⟨T0,0,none⟩ = some (.slice p0 n0 c0) ∧ wd.cell? ⟨T0,1,none⟩ = some (.slice p1 n1 c1) ∧ wd.cell? ⟨T0,2,none⟩ = some (.slice pd ds.length cd) ∧ wd.cell? ⟨T0,3,none⟩ = some (.slice p3 n3 c3) ∧ wd.cell? ⟨T0,4,none⟩ = some (.slice p4 n4 c4) ∧ wd.cell? ⟨T0,5,none⟩ = some (.slice p5 n5 c5) ∧ wd.cell? ⟨T0,6,none⟩ = some (.slice p6 n6 c6) ∧ wd.cell? ⟨T0,7,none⟩ = some (.int .i64 m) ∧ T0 < wd.heap.size):=hid
    ⟨HTD.out.cell 2,HTD.out.lt,(HFW.out.cell hb9 (by simp) _).trans y0,(HFW.out.cell hb9 (by simp) _).trans y1,(HFW.out.cell hb9 (by simp) _).trans y2,HPD.out.cell 0,HPD.out.cell 1,HPD.out.cell 2,HPD.out.cell 3,HPD.out.cell 4,HPD.out.cell 5,HPD.out.cell 6,HPD.out.cell 7,HPD.out.lt⟩
 clear h hat hd hk ih hz hl h1 h2 hat9 k9 hx0 hx6 hfd
 go_enter Try.func58,Try.ntmps58
 go_wp2_with fail
 rw [← hw1,HT0.out]
 clear hw1 hT0 y1 y2
 refine wp_region_any (by kernel_rfl) ?_
 change wpAny _ _ _ _ _ _ _ (World.drew _)
 rw [← hwd]
 clear hwd
 obtain ⟨z2,zl,z3,z4,z5,v0,v1,v2,v3,v4,v5,v6,v7,vl⟩:=HCE.out
 all_goals (refine wpAny_take (i:=1) (v:=.int .i64 p) rfl ?_ ?_ ?_ (fun _ _ _ h => h) (Or.inl ⟨by rfl,?_⟩) ?_;(focus (decide +kernel));(focus (decide +kernel));(focus (decide +kernel));(focus (intro w;go_simp;first | done | with_reducible rfl | exact IntWalk.i64_in _ (by omega))))
 all_goals (refine wpAny_take (i:=6) (v:=.int .i64 n) rfl ?_ ?_ ?_ (fun _ _ _ h => h) (Or.inl ⟨by rfl,?_⟩) ?_;(focus (decide +kernel));(focus (decide +kernel));(focus (decide +kernel));(focus (intro w;go_simp;first | done | with_reducible rfl | exact IntWalk.i64_in _ (by omega))))
 all_goals (refine wpAny_take (i:=7) (v:=.int .i64 (n - 1)) rfl ?_ ?_ ?_ (fun _ _ _ h => h) (Or.inl ⟨by rfl,?_⟩) ?_;(focus (decide +kernel));(focus (decide +kernel));(focus (decide +kernel));(focus (intro w;go_simp;first | done | with_reducible rfl | exact IntWalk.i64_in _ (by omega))))
 iterate 5 (all_goals (first | (refine wpAny_ready (rs:=[0,2]) ?_ (by simp) ?_;(focus (decide +kernel));refine AllReady.cons rfl (fun K hK => ?_) (AllReady.cons rfl (fun K hK => ?_) AllReady.nil) <;> (go_simp;refine hK _ _ ?_;clear hK K)) | (refine wpAny_ready (rs:=[0,3]) ?_ (by simp) ?_;(focus (decide +kernel));refine AllReady.cons rfl (fun K hK => ?_) (AllReady.cons rfl (fun K hK => ?_) AllReady.nil) <;> (go_simp;refine hK _ _ ?_;clear hK K)) | (refine wpAny_ready (rs:=[0,4]) ?_ (by simp) ?_;(focus (decide +kernel));refine AllReady.cons rfl (fun K hK => ?_) (AllReady.cons rfl (fun K hK => ?_) AllReady.nil) <;> (go_simp;refine hK _ _ ?_;clear hK K)) | (refine wpAny_ready (rs:=[0,5]) ?_ (by simp) ?_;(focus (decide +kernel));refine AllReady.cons rfl (fun K hK => ?_) (AllReady.cons rfl (fun K hK => ?_) AllReady.nil) <;> (go_simp;refine hK _ _ ?_;clear hK K)) | (refine wpAny_ready (rs:=[2]) ?_ (by simp) ?_;(focus (decide +kernel));refine AllReady.cons rfl (fun K hK => ?_) AllReady.nil;go_simp;refine hK _ _ ?_;clear hK K) | (refine wpAny_ready (rs:=[3]) ?_ (by simp) ?_;(focus (decide +kernel));refine AllReady.cons rfl (fun K hK => ?_) AllReady.nil;go_simp;refine hK _ _ ?_;clear hK K) | (refine wpAny_ready (rs:=[4]) ?_ (by simp) ?_;(focus (decide +kernel));refine AllReady.cons rfl (fun K hK => ?_) AllReady.nil;go_simp;refine hK _ _ ?_;clear hK K) | (refine wpAny_ready (rs:=[5]) ?_ (by simp) ?_;(focus (decide +kernel));refine AllReady.cons rfl (fun K hK => ?_) AllReady.nil;go_simp;refine hK _ _ ?_;clear hK K) | (refine wpAny_ready (rs:=[0]) ?_ (by simp) ?_;(focus (decide +kernel));refine AllReady.cons rfl (fun K hK => ?_) AllReady.nil;go_simp;refine hK _ _ ?_;clear hK K)))
 all_goals (refine wpAny_ready (rs:=[8]) ?_ (by simp) ?_;(focus (decide +kernel));refine AllReady.cons rfl (fun K hK => ?_) AllReady.nil;go_simp;go_at_call 58;(with_reducible refine HFM.out.mono ?_);rintro e wm ⟨rfl,hf⟩;have HM:=hid hf;clear hf;refine hK _ _ ?_;clear hK K)
 all_goals (refine wpAny_ready (rs:=[9]) ?_ (by simp) ?_;(focus (decide +kernel));refine AllReady.cons rfl (fun K hK => ?_) AllReady.nil;go_simp;refine hK _ _ ?_;clear hK K)
 all_goals (refine wpAny_done (by decide +kernel) ?_ _)
 all_goals (try go_wp2_with fail)
 all_goals
  go_ret
  exact ⟨rfl,HFW.out.trans HM.out⟩
end Go.Proofs.Ytcdlnhfgehhkcaa
