import Derived.Test.YtaoaifmkhbgaiaaGreatPk18
import Derived.Test.YtaoaifmkhbgaiaaGreatPk06
namespace Go.Proofs.YtaoaifmkhbgaiaaGreat
open Go.RowKit
set_option linter.unusedVariables false
attribute [local go_sem ↓] Go.wp_at_zero Go.wp_at_succ
theorem wk:∀(rs:List ef) (i j:Nat) (hi:i<rs.length),j<3→(cD rs)[i*3+j]?=(rr rs[i])[j]?
 | r::rs,0,j,hi,hj=>by
  simp only [cD,List.getElem_cons_zero,Nat.zero_mul,Nat.zero_add];rw [List.getElem?_append_left (by simpa [rr] using hj)]
 | r::rs,i+1,j,hi,hj=>by
  simp only [cD,List.getElem_cons_succ];rw [List.getElem?_append_right (by simp [rr];omega)];have:(i+1)*3+j-(rr r).length=i*3+j:=by simp [rr];omega
  rw [this];exact wk rs i j (by simpa using hi) hj
theorem mg {w:World} {b off n:Nat} {rs:List ef} (h:RowC w (some ⟨b,off,none⟩) n 3 (cD rs)) (hn:rs.length=n) (k:Nat) (x:ef) (hx:rs[k]?=some x) (j:Nat) (v:Value) (hj:j<3) (hv:(rr x)[j]?=some v):
 w.cell? ⟨b,off+k*3+j,none⟩=some v:=by
 obtain ⟨h1,h2⟩:=h;obtain ⟨hk,rfl⟩:=List.getElem?_eq_some_iff.1 hx;rcases h2 with h2 | ⟨b',off',e,_,hc⟩
 ·omega
 ·simp at e;obtain ⟨rfl,rfl⟩:=e;have:=hc (k*3+j) v (by rw [wk rs k j hk hj];exact hv);rw [←Nat.add_assoc] at this;exact this
end Go.Proofs.YtaoaifmkhbgaiaaGreat
