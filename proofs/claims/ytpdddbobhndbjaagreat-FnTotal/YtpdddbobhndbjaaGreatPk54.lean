import Derived.Test.YtpdddbobhndbjaaGreatPk09
namespace Go.Proofs.YtpdddbobhndbjaaGreat
open Go.RowKit
set_option linter.unusedVariables false
set_option maxHeartbeats 6400000
set_option maxRecDepth 20000
def ML (n:Nat) (r:RunM):Prop:=r.h.mem.length=n
theorem qO {n:Nat} {c:Prop} [Decidable c] {a b:RunM} (ha:c->ML n a) (hb:¬c->ML n b):ML n (if c then a else b):=by
 by_cases h:c
 ·rw [if_pos h];exact ha h
 ·rw [if_neg h];exact hb h
theorem fR (plain:Bool) (pick kind:Int):∀(ps:List bF) (r:RunM),(ao plain pick kind r ps).1.h.mem=r.h.mem
 | [],r=>rfl
 | p::ps,r=>by
  unfold ao;split
  ·exact fR plain pick kind ps _
  ·rfl
theorem qP (plain:Bool) (pick:Int) (r:RunM) (kind va w:Int):(aL plain pick r kind va w).1.h.mem=r.h.mem:=by
 unfold aL;split
 ·split
  ·exact fR plain pick kind _ r
  ·exact fR plain pick kind _ r
 ·exact fR plain pick kind _ r
theorem Ac {n:Nat} (plain:Bool) (pick:Int) {r:RunM} (kind va w:Int) (h:ML n r):ML n (aL plain pick r kind va w).1:=by
 unfold ML;rw [qP];exact h
theorem yV {n:Nat} (plain:Bool) {pick ea w:Int} {r:RunM} (hp:0<=pick∧pick<=255) (hv:inU ea) (hw:1<=w∧w<=8) (hr:ROk r) (h:ML n r) (hc:(aL plain pick r 2 ea w).1.cause=0) (x:Int) (m:Nat):ML n (dh (aL plain pick r 2 ea w) (da x m)):=by
 have k:=gY plain (kind:=2) hp ⟨by omega,by omega⟩ hv hw hr;have i:=jB (plain:=plain) (pick:=pick) (r:=r) (kind:=2) (va:=ea) (w:=w) hc;have:=(xA (aL plain pick r 2 ea w).2 (aL plain pick r 2 ea w).1.h.mem (da x m) k.1.h.mem (nm m x) i k.2).1;show (iz (aL plain pick r 2 ea w).1.h.mem (aL plain pick r 2 ea w).2 (da x m)).length=n;rw [this,qP];exact h
theorem Du (h:HartM) (b s:Int):inU (eaM h b s):=by
 unfold eaM inU;omega
theorem CQ {n:Nat} {r:RunM} (h:ML n r) (a x:Int):ML n (ct r a x):=h
theorem BJ {n:Nat} {r:RunM} (h:ML n r) (a x:Int):ML n (bT r a x):=h
theorem BK {n:Nat} {r:RunM} {h':HartM} (h:ML n r) (e:h'.mem=r.h.mem):ML n (bE r h'):=by
 unfold ML;show h'.mem.length=n;rw [e];exact h
theorem Dv {n:Nat} (plain:Bool) {pick pc op a b c s word:Int} {r:RunM} (hp:0<=pick∧pick<=255) (hc:0<=c) (hr:ROk r) (h:ML n r):ML n (doM plain pick r pc op a b c s word):=by
 unfold doM oA kl uD;repeat' (with_reducible refine qO (fun _=>?_) (fun _=>?_))
 all_goals try (with_reducible refine CQ ?_ _ _)
 all_goals first
  | with_reducible exact h
  | with_reducible exact BJ h _ _
  | with_reducible exact Ac plain pick _ _ _ h
  | ((with_reducible refine yV plain hp (Du _ _ _) ?_ hr h (by assumption) _ _);first | exact jU c hc | exact ⟨by omega,by omega⟩)
  | ((with_reducible refine BK h ?_);rfl)
  | (unfold ML;split <;> exact h)
theorem BL (plain:Bool) {pick:Int} {h:HartM} (hp:0<=pick∧pick<=255) (hh:HOk h):(dU plain pick h).h.mem.length=h.mem.length:=by
 have h1:ML h.mem.length (cL plain pick h):=rfl;have k1:=jF plain pick hh;show ML h.mem.length (dU plain pick h);unfold dU oB;refine qO (fun _=>?_) (fun _=>rfl);unfold eD;generalize cL plain pick h=r at h1 k1 |-;refine qO (fun _=>qO (fun _=>qO (fun _=>?_) (fun _=>h1)) (fun _=>h1)) (fun _=>h1);unfold jR fm;exact Dv plain hp (by omega) (oU (iS k1 plain hp (by omega) k1.h.pc)) h1
theorem Ad (plain:Bool):∀(ps:List Int) (h:HartM),HOk h->(∀y∈ps,0<=y∧y<=255)->(dX plain ps h).2.mem.length=h.mem.length∧(dX plain ps h).1.length=ps.length∧HOk (dX plain ps h).2
 | [],h,hk,_=>⟨rfl,rfl,hk⟩
 | y::ps,h,hk,hp=>by
  have h1:=hp y (by simp);have:=Ad plain ps (dU plain y h).h (nj plain h1 hk).h (fun z hz=>hp z (by simp [hz]));rw [dX];exact ⟨this.1.trans (BL plain h1 hk),by simp [this.2.1],this.2.2⟩
end Go.Proofs.YtpdddbobhndbjaaGreat
