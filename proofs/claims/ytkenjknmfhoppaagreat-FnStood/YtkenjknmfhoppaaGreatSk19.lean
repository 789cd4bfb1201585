import Derived.Test.YtkenjknmfhoppaaGreatSk09
namespace Go.Proofs.YtkenjknmfhoppaaGreat
open Go.RowKit
set_option linter.unusedVariables false
set_option maxHeartbeats 6400000
set_option maxRecDepth 20000
section
attribute [local go_sem ↓] Go.wp_at_zero Go.wp_at_succ
theorem yL:∀(rs:List ef) (i j:Nat) (hi:i<rs.length),j<3->(dc rs)[i*3+j]?=(sy rs[i])[j]?
 | r::rs,0,j,hi,hj=>by
  simp only [dc,List.getElem_cons_zero,Nat.zero_mul,Nat.zero_add];rw [List.getElem?_append_left (by simpa [sy] using hj)]
 | r::rs,i+1,j,hi,hj=>by
  simp only [dc,List.getElem_cons_succ];rw [List.getElem?_append_right (by simp [sy];omega)];have:(i+1)*3+j-(sy r).length=i*3+j:=by simp [sy];omega
  rw [this];exact yL rs i j (by simpa using hi) hj
theorem yM {w:World} {b off n:Nat} {rs:List ef} (h:RowC w (some (AD b off)) n 3 (dc rs)) (hn:rs.length=n) (k:Nat) (x:ef) (hx:rs[k]?=some x) (j:Nat) (v:Value) (hj:j<3) (hv:(sy x)[j]?=some v):
 w.cell? ⟨b,off+k*3+j,none⟩=some v:=by
 obtain ⟨h1,h2⟩:=h;obtain ⟨hk,rfl⟩:=List.getElem?_eq_some_iff.1 hx;rcases h2 with h2 | ⟨b',off',e,_,hc⟩
 ·omega
 ·simp at e;obtain ⟨rfl,rfl⟩:=e;have:=hc (k*3+j) v (by rw [yL rs k j hk hj];exact hv);rw [<-Nat.add_assoc] at this;exact this
end
end Go.Proofs.YtkenjknmfhoppaaGreat
