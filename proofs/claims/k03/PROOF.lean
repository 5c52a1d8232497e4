import PyProof.Rows.All
import Wide.All
import OpenK.AllK
import Wide.FinOn
import HandS.ForMost
import HandS.IsInst
import HandS.TupLe
import KE.DataCmp
import KE.SortData
import HandS.Evl
import PySem.Challenge.RW_passring_k03_a_token
set_option Elab.async false
set_option maxRecDepth 100000
set_option maxHeartbeats 4000000
namespace Pr
open PySem L2
/-! ### my own short words -/
theorem upd_other {H : Hp} {a p : Addr} {o x : HO} (h : H a = some x) (n : H p = Option.none) : upd H p o a = some x := by rw [upd_ne (ne_of_none h n)]; exact h
theorem upd_at {H : Hp} {a p : Addr} {o x : HO} (h : H a = some x) (n : a ≠ p) : upd H p o a = some x := by rw [upd_ne n]; exact h
theorem upd_free {H : Hp} {a p : Addr} {o : HO} (h : H a = Option.none) (n : a ≠ p) : upd H p o a = Option.none := by rw [upd_ne n]; exact h
theorem same_at {H H' : Hp} {a : Addr} {x : HO} (s : Same H H') (h : H a = some x) : H' a = some x := s _ _ h
theorem same_new {H : Hp} {p : Addr} {o : HO} (n : H p = Option.none) : Same H (upd H p o) := fun _ _ e => upd_other e n
theorem same_snoc {H H' : Hp} {p : Addr} {o : HO} (s : Same H H') (n : H' p = Option.none) : Same H (upd H' p o) := s.trans (same_new n)
theorem same_mut {H H' : Hp} {p : Addr} {o : HO} (s : Same H H') (n : H p = Option.none) : Same H (upd H' p o) := fun b x e => by rw [upd_ne (ne_of_none e n)]; exact s b x e
theorem same_tup {K : PySem.W.Frag} {H H' : Hp} {a : Addr} {xs : List V} (e : Same H H') (h : SqT K H a xs) : SqT K H' a xs := by
  rcases h with (h | ⟨o, h⟩) | h
  · exact .inl (.inl (e _ _ h))
  · exact .inl (.inr ⟨o, e _ _ h⟩)
  · exact .inr h
theorem i_ne {x : V} {C D : Prop} (k : D) : if (!decide (x = x)) = true then C else D := by rw [decide_eq_true rfl]; exact iteF k
theorem i_eq {x : V} {C D : Prop} (k : C) : if decide (x = x) = true then C else D := by rw [decide_eq_true rfl]; exact iteT k
theorem i_nn {x : V} {C D : Prop} (h : x ≠ .non) (k : C) : if (!decide (x = .non)) = true then C else D := by rw [decide_eq_false h]; exact k
theorem i_isn {x : V} {C D : Prop} (h : x ≠ .non) (k : D) : if decide (x = .non) = true then C else D := by rw [decide_eq_false h]; exact iteF k
theorem i_nt {C D : Prop} (k : D) : if (!true) = true then C else D := k
theorem i_nf {C D : Prop} (k : C) : if (!false) = true then C else D := k
theorem i_t {C D : Prop} (k : C) : if true = true then C else D := iteT k
theorem i_f {C D : Prop} (k : D) : if false = true then C else D := iteF k
theorem hd_of {A : Around} {k : Nat} (hr : Room k A) : A.units + 64 < cLine := hr.units
section
variable {K : PySem.W.Frag} {σ : St} {H : Hp} {Q : VK} {v x y : V} {i j : Int} {n : Nat} {ta tb tc te tv : TE} {t u : TT} {ts tr : TA} {D : Ends} {s1 s2 : TS} {r : R2}
theorem w_var (h : σ[n]? = some (some v)) (k : Q v H) : tVar n σ H Q := ⟨v, h, k⟩
theorem w_c (k : Q v H) : tC v σ H Q := k
theorem w_op (k : ta σ H fun x H1 => tb σ H1 fun y H2 => r x y H2 Q) : tOp r ta tb σ H Q := k
theorem w_I0 {g : Int → Int → V} (k : Q (g i j) H) : rI0 g (.int i) (.int j) H Q := ⟨i, j, rfl, rfl, k⟩
theorem w_mod {g : Int → Int → V} (h : 0 < j) (k : Q (g i j) H) : rI (fun _ j => 0 < j) g (.int i) (.int j) H Q := ⟨i, j, rfl, rfl, h, k⟩
theorem w_div {g : Int → Int → V} (h : 0 < j ∧ j < 1073741824) (k : Q (g i j) H) : rI CDiv g (.int i) (.int j) H Q := ⟨i, j, rfl, rfl, h, k⟩
theorem w_pow {g : Int → Int → V} (h : 0 ≤ j ∧ j ≤ 1000000 ∧ i.natAbs < 2 ^ 64) (k : Q (g i j) H) : rI CPow g (.int i) (.int j) H Q := ⟨i, j, rfl, rfl, h, k⟩
theorem w_mulR {g : Int → Int → V} (h : -(2 ^ 64) < j ∧ j < 2 ^ 64) (k : Q (g i j) H) : rI CMul g (.int i) (.int j) H Q := ⟨i, j, rfl, rfl, .inr h, k⟩
theorem w_mulL {g : Int → Int → V} (h : -(2 ^ 64) < i ∧ i < 2 ^ 64) (k : Q (g i j) H) : rI CMul g (.int i) (.int j) H Q := ⟨i, j, rfl, rfl, .inl h, k⟩
theorem w_eq (h : scal x y = true) (k : Q (.bl (decide (x = y))) H) : rEq x y H Q := ⟨h, k⟩
theorem w_ne (h : scal x y = true) (k : Q (.bl (!decide (x = y))) H) : rNe x y H Q := ⟨h, k⟩
theorem w_ixL {p : Addr} {xs : List V} (h : SqL K H p xs) (a : atI xs i = some v) (k : Q v H) : rIx K (.ref p) (.int i) H Q := .inl ⟨p, xs, i, v, rfl, rfl, h, a, k⟩
theorem w_ixT {p : Addr} {xs : List V} (h : SqT K H p xs) (a : atI xs i = some v) (k : Q v H) : rIx K (.ref p) (.int i) H Q := .inr (.inl ⟨p, xs, i, v, rfl, rfl, h, a, k⟩)
theorem w_seq (k : s1 { D with nx := s2 D } σ H) : tSeq s1 s2 D σ H := k
theorem w_next (k : D.nx σ H) : tNext D σ H := k
theorem w_ret (k : te σ H D.rt) : tRet te D σ H := k
theorem w_retN (k : D.rt .non H) : tRetN D σ H := k
theorem w_drop (k : te σ H fun _ H1 => D.nx σ H1) : tDrop te D σ H := k
theorem w_set {m : Nat} (k : te σ H fun x H1 => D.nx (σ.set m (some x)) H1) : tAsg te (gName m) D σ H := k
theorem w_ifS {c : TT} (k : c σ H fun b H1 => if b = true then s1 D σ H1 else s2 D σ H1) : tIfS c s1 s2 D σ H := k
def tstK (x : V) (H : Hp) (Q : Bool → Hp → Prop) : Prop := ∃ k, x = .bl k ∧ Q k H
variable {QB : Bool → Hp → Prop} {QA : List V → Hp → Prop}
theorem w_test (k : te σ H fun x H' => tstK x H' QB) : tTest te σ H QB := k
theorem w_tstK {b : Bool} (k : QB b H) : tstK (.bl b) H QB := ⟨b, rfl, k⟩
def truK (K : PySem.W.Frag) (x : V) (H : Hp) (Q : Bool → Hp → Prop) : Prop := ∃ k, TruV K x H k ∧ Q k H
def tTr (K : PySem.W.Frag) (ta : TE) : TT := fun σ H Q => ta σ H fun x H' => truK K x H' Q
theorem pt_tr {X : Cx} {a : Expr} (ha : PE X a ta) (he : ∀ whole, isTrue a X.env whole = (do let v ← whole; standAt a.pos; holding [v] (truthy v))) : PT X a (tTr X.K ta) := pt_truth ha he
theorem w_tr (k : ta σ H fun x H' => truK K x H' QB) : tTr K ta σ H QB := k
theorem w_truB {b : Bool} (k : QB b H) : truK K (.bl b) H QB := ⟨b, rfl, k⟩
theorem w_truL {p : Addr} {xs : List V} (h : SqL K H p xs) (k : QB (!xs.isEmpty) H) : truK K (.ref p) H QB := ⟨_, .inl ⟨xs, h, rfl⟩, k⟩
theorem w_truN (k : QB false H) : truK K .non H QB := ⟨_, rfl, k⟩
theorem w_and (k : t σ H fun c H1 => if c = true then u σ H1 QB else QB false H1) : tAnd t u σ H QB := k
theorem w_or (k : t σ H fun c H1 => if c = true then QB true H1 else u σ H1 QB) : tOr t u σ H QB := k
theorem w_orB {b c : Bool} {Pr : Hp → Prop} (h1 : ∀ R : Bool → Hp → Prop, (∀ H2, Pr H2 → R b H2) → t σ H R) (h2 : ∀ H2, Pr H2 → ∀ R : Bool → Hp → Prop, R c H2 → u σ H2 R) (k : ∀ H2, Pr H2 → QB (b || c) H2) : tOr t u σ H QB := by
  refine h1 _ fun H2 p => ?_
  cases b with
  | true => exact iteT (k H2 p)
  | false => exact iteF (h2 H2 p _ (k H2 p))
theorem w_not (k : t σ H fun c H1 => QB (!c) H1) : tNot t σ H QB := k
def andK (tb : TE) (σ : St) (x : V) (H : Hp) (Q : VK) : Prop := ∃ c, x = .bl c ∧ if c = true then tb σ H Q else Q (.bl false) H
def orK (tb : TE) (σ : St) (x : V) (H : Hp) (Q : VK) : Prop := ∃ c, x = .bl c ∧ if c = true then Q (.bl true) H else tb σ H Q
def notK (x : V) (H : Hp) (Q : VK) : Prop := ∃ c, x = .bl c ∧ Q (.bl (!c)) H
theorem w_andV (k : ta σ H fun x H1 => andK tb σ x H1 Q) : tAndV ta tb σ H Q := k
theorem w_orV (k : ta σ H fun x H1 => orK tb σ x H1 Q) : tOrV ta tb σ H Q := k
theorem w_notV (k : ta σ H fun x H1 => notK x H1 Q) : tNotV ta σ H Q := k
theorem w_andK {b : Bool} (k : if b = true then tb σ H Q else Q (.bl false) H) : andK tb σ (.bl b) H Q := ⟨b, rfl, k⟩
theorem w_orK {b : Bool} (k : if b = true then Q (.bl true) H else tb σ H Q) : orK tb σ (.bl b) H Q := ⟨b, rfl, k⟩
theorem w_notK {b : Bool} (k : Q (.bl (!b)) H) : notK (.bl b) H Q := ⟨b, rfl, k⟩
theorem w_nil (k : QA [] H) : tNil σ H QA := k
theorem w_cons (k : ta σ H fun x H1 => tr σ H1 fun xs H2 => QA (x :: xs) H2) : tCons ta tr σ H QA := k
theorem w_CB {r : List V → Hp → VK → Prop} (k : ts σ H fun vs H1 => r vs H1 Q) : tCB r ts σ H Q := k
theorem w_call {sp : Sp} {dvs : List V} {E : XK} (k : ts σ H fun vs H1 => sp (vs ++ dvs) H1 Q E) : tCall sp dvs E ts σ H Q := k
def newK (f : List V → HO) (xs : List V) (H : Hp) (Q : VK) : Prop := xs.length ≤ sizeLine ∧ ∀ p, H p = Option.none → Q (.ref p) (upd H p (f xs))
theorem w_tup (k : ts σ H fun xs H1 => newK HO.tup xs H1 Q) : tTup ts σ H Q := k
theorem w_lst (k : ts σ H fun xs H1 => newK HO.lst xs H1 Q) : tLst ts σ H Q := k
theorem w_new {f : List V → HO} {xs : List V} (h : xs.length ≤ 1000) (k : ∀ p, H p = Option.none → Q (.ref p) (upd H p (f xs))) : newK f xs H Q := ⟨Nat.le_trans h (by decide), k⟩
theorem w_newS {f : List V → HO} {xs : List V} (h : xs.length ≤ 1000) (k : ∀ p H', H p = Option.none → Same H H' → H' p = some (f xs) → Q (.ref p) H') : newK f xs H Q := ⟨Nat.le_trans h (by decide), fun p np => k p _ np (same_new np) upd_same⟩
def fldK (K : PySem.W.Frag) (f : Str) (x : V) (H : Hp) (Q : VK) : Prop := ∃ a C dx fs v, x = .ref a ∧ H a = some (.ins C dx fs) ∧ Cls K C ∧ NoAttr K C f ∧ fs.lookup f = some v ∧ Q v H
theorem w_fld {f : Str} (k : ta σ H fun x H1 => fldK K f x H1 Q) : tFld K ta f σ H Q := k
theorem w_fldK {f : Str} {a C dx : Addr} {fs : List (Str × V)} (h : H a = some (.ins C dx fs)) (c : Cls K C) (na : NoAttr K C f) (l : fs.lookup f = some v) (k : Q v H) : fldK K f (.ref a) H Q := ⟨a, C, dx, fs, v, rfl, h, c, na, l, k⟩
def sfldK (K : PySem.W.Frag) (f : Str) (y x : V) (H : Hp) (N : Hp → Prop) : Prop := ∃ a C dx fs, x = .ref a ∧ H a = some (.ins C dx fs) ∧ Cls K C ∧ NoAttr K C f ∧ fs.length < 1000 ∧ N (upd H a (.ins C dx (putF f y fs)))
theorem w_sfld {f : Str} (k : tv σ H fun y H1 => ta σ H1 fun x H2 => sfldK K f y x H2 fun H3 => D.nx σ H3) : sFld K ta tv f D σ H := k
theorem w_sfldK {f : Str} {a C dx : Addr} {fs : List (Str × V)} {N : Hp → Prop} (h : H a = some (.ins C dx fs)) (c : Cls K C) (na : NoAttr K C f) (l : fs.length < 1000) (k : N (upd H a (.ins C dx (putF f y fs)))) : sfldK K f y (.ref a) H N := ⟨a, C, dx, fs, rfl, h, c, na, l, k⟩
def aug2K (a C : Addr) (f : Str) (z : V) (H : Hp) (N : Hp → Prop) : Prop := ∃ dx' fs', H a = some (.ins C dx' fs') ∧ fs'.length < 1000 ∧ N (upd H a (.ins C dx' (putF f z fs')))
def augK (K : PySem.W.Frag) (f : Str) (tv : TE) (rd : V → V → Hp → VK → Prop) (σ : St) (x : V) (H : Hp) (N : Hp → Prop) : Prop := ∃ a C dx fs v, x = .ref a ∧ H a = some (.ins C dx fs) ∧ Cls K C ∧ NoAttr K C f ∧ fs.lookup f = some v ∧ tv σ H fun y H2 => rd v y H2 fun z H3 => aug2K a C f z H3 N
theorem w_fldaug {f : Str} {rd : V → V → Hp → VK → Prop} (k : ta σ H fun x H1 => augK K f tv rd σ x H1 fun H3 => D.nx σ H3) : sFldAug K ta tv rd f D σ H := k
theorem w_augK {f : Str} {rd : V → V → Hp → VK → Prop} {a C dx : Addr} {fs : List (Str × V)} {N : Hp → Prop} (h : H a = some (.ins C dx fs)) (c : Cls K C) (na : NoAttr K C f) (l : fs.lookup f = some v) (k : tv σ H fun y H2 => rd v y H2 fun z H3 => aug2K a C f z H3 N) : augK K f tv rd σ (.ref a) H N := ⟨a, C, dx, fs, v, rfl, h, c, na, l, k⟩
theorem w_aug2K {f : Str} {a C dx : Addr} {fs : List (Str × V)} {z : V} {N : Hp → Prop} (h : H a = some (.ins C dx fs)) (l : fs.length < 1000) (k : N (upd H a (.ins C dx (putF f z fs)))) : aug2K a C f z H N := ⟨dx, fs, h, l, k⟩
theorem w_rAdd (k : Q (.int (i + j)) H) : rAdd (.int i) (.int j) H Q := ⟨i, j, rfl, rfl, k⟩
theorem w_rSub (k : Q (.int (i - j)) H) : rSub (.int i) (.int j) H Q := ⟨i, j, rfl, rfl, k⟩
def makeK (C : Addr) (sp : Sp) (dvs : List V) (E : XK) (vs : List V) (H1 : Hp) (Q : VK) : Prop := ∀ x dx, H1 x = Option.none → H1 dx = Option.none → dx ≠ x → sp (.ref x :: (vs ++ dvs)) (upd (upd H1 dx (.own x)) x (.ins C dx [])) (fun v H2 => v = .non ∧ Q (.ref x) H2) E
theorem w_make {C : Addr} {sp : Sp} {dvs : List V} {E : XK} (k : ts σ H fun vs H1 => makeK C sp dvs E vs H1 Q) : tMake C sp dvs E ts σ H Q := k
theorem w_un {r : V → Hp → VK → Prop} (k : ta σ H fun x H1 => r x H1 Q) : tUn r ta σ H Q := k
theorem w_rU {g : Int → V} (k : Q (g i) H) : rU g (.int i) H Q := ⟨i, rfl, k⟩
theorem same_born {H : Hp} {x dx C : Addr} (nx : H x = Option.none) (nd : H dx = Option.none) : Same H (upd (upd H dx (.own x)) x (.ins C dx [])) := fun b o e => by
  rw [upd_ne (ne_of_none e nx), upd_ne (ne_of_none e nd)]; exact e
def methK (C : Addr) (m : Str) (sp : Sp) (dvs : List V) (E : XK) (t : TA) (σ : St) (x : V) (H : Hp) (Q : VK) : Prop := ∃ a dx fs, x = .ref a ∧ H a = some (.ins C dx fs) ∧ fs.lookup m = Option.none ∧ t σ H fun vs H2 => sp (x :: (vs ++ dvs)) H2 Q E
theorem w_meth {C : Addr} {m : Str} {sp : Sp} {dvs : List V} {E : XK} (k : ta σ H fun x H1 => methK C m sp dvs E ts σ x H1 Q) : tMeth C m sp dvs E ta ts σ H Q := k
theorem w_methK {C a dx : Addr} {m : Str} {sp : Sp} {dvs : List V} {E : XK} {fs : List (Str × V)} (h : H a = some (.ins C dx fs)) (l : fs.lookup m = Option.none) (k : ts σ H fun vs H2 => sp (.ref a :: (vs ++ dvs)) H2 Q E) : methK C m sp dvs E ts σ (.ref a) H Q := ⟨a, dx, fs, rfl, h, l, k⟩
theorem w_bm {T : String} {r : V → List V → Hp → VK → Prop} (k : ta σ H fun x H1 => tyV K T x H1 ∧ ts σ H1 fun xs H2 => r x xs H2 Q) : tBM K T r ta ts σ H Q := k
theorem w_tyL {p : Addr} {xs : List V} {R : Prop} (h : SqL K H p xs) (k : R) : tyV K "list" (.ref p) H ∧ R := ⟨.inl ⟨rfl, xs, h⟩, k⟩
theorem w_append {l : Addr} {xs : List V} (h : H l = some (.lst xs)) (hl : xs.length < sizeLine) (k : Q .non (upd H l (.lst (xs ++ [y])))) : rAppend (.ref l) [y] H Q := ⟨l, xs, y, rfl, rfl, h, hl, k⟩
def rIsNo : R2 := fun x y H Q => y = .non ∧ Q (.bl (decide (x = .non))) H
def rNotNo : R2 := fun x y H Q => y = .non ∧ Q (.bl (!decide (x = .non))) H
theorem op_isNo {X : Cx} : OpR X (compareOp .Is) rIsNo := op_isN
theorem op_notNo {X : Cx} : OpR X (compareOp .IsNot) rNotNo := op_notN
theorem w_pop0 {l : Addr} {x : V} {xs : List V} (h : H l = some (.lst (x :: xs))) (k : Q x (upd H l (.lst xs))) : rPopAt (.ref l) [.int 0] H Q :=
  ⟨l, x :: xs, 0, 0, x, rfl, rfl, h, by decide, by decide, by simp [seqIndex?], rfl, k⟩
theorem w_isNo (k : Q (.bl (decide (x = .non))) H) : rIsNo x .non H Q := ⟨rfl, k⟩
theorem w_notNo (k : Q (.bl (!decide (x = .non))) H) : rNotNo x .non H Q := ⟨rfl, k⟩
def rListOf (K : PySem.W.Frag) : List V → Hp → VK → Prop := fun xs H Q => ∃ p ys, xs = [.ref p] ∧ (SqL K H p ys ∨ SqT K H p ys) ∧ ∀ l, H l = none → Q (.ref l) (upd H l (.lst ys))
theorem call_listOf {X : Cx} : CallR X (.type "list") (rListOf X.K) := call_list_of
theorem w_listOf {p : Addr} {ys : List V} (h : SqL K H p ys) (k : ∀ l H', H l = Option.none → Same H H' → H' l = some (.lst ys) → Q (.ref l) H') : rListOf K [.ref p] H Q := ⟨p, ys, rfl, .inl h, fun l n => k l _ n (same_new n) upd_same⟩
def rLenS (K : PySem.W.Frag) : List V → Hp → VK → Prop := fun xs H Q => ∃ p ys, xs = [.ref p] ∧ (SqL K H p ys ∨ SqT K H p ys) ∧ Q (.int ys.length) H
theorem call_lenS {X : Cx} : CallR X (.builtin "len") (rLenS X.K) := call_len_seq
theorem w_lenL {p : Addr} {ys : List V} (h : SqL K H p ys) (k : Q (.int ys.length) H) : rLenS K [.ref p] H Q := ⟨p, ys, rfl, .inl h, k⟩
theorem w_lenT {p : Addr} {ys : List V} (h : SqT K H p ys) (k : Q (.int ys.length) H) : rLenS K [.ref p] H Q := ⟨p, ys, rfl, .inr h, k⟩
def forK (J : It) (g : TG) (tb : TS) (D : Ends) (σ : St) (H : Hp) : Prop := ∃ W : Nat → Nat → St → Hp → Prop, (∃ m, W 0 m σ H) ∧ ∀ i m σ H, W i m σ H →
  (J.stop i H ∧ D.nx σ H) ∨ (J.go i H ∧ ∃ N : St → Hp → Prop, (∀ σ' H', N σ' H' → ∃ m', m' < m ∧ W (i + 1) m' σ' H') ∧ ∀ x H', J.yld i H x H' → g x σ H' fun σ2 H2 => tb { D with nx := N, ct := N, bk := D.nx } σ2 H2)
variable {wi : TI} {g : TG} {gs : TGs} {tb : TS} {R : It → Hp → Prop} {QG : St → Hp → Prop} {xs : List V}
theorem w_for (k : wi σ H fun J H1 => forK J g tb D σ H1) : tFor wi g tb D σ H := k
def rng1K (R : It → Hp → Prop) (vs : List V) (H : Hp) : Prop := ∃ j : Int, vs = [.int j] ∧ -(2 ^ 62) ≤ j ∧ j < 2 ^ 62 ∧ R (Itr 0 j.toNat) H
def rng2K (R : It → Hp → Prop) (vs : List V) (H : Hp) : Prop := ∃ i j : Int, vs = [.int i, .int j] ∧ (-(2 ^ 62) ≤ i ∧ i < 2 ^ 62 ∧ -(2 ^ 62) ≤ j ∧ j < 2 ^ 62) ∧ R (Itr i (j - i).toNat) H
theorem w_rng1 (k : ts σ H fun vs H1 => rng1K R vs H1) : iRng1 ts σ H R := k
theorem w_rng2 (k : ts σ H fun vs H1 => rng2K R vs H1) : iRng2 ts σ H R := k
theorem w_rng1K (h : -(2 ^ 62) ≤ j ∧ j < 2 ^ 62) (k : R (Itr 0 j.toNat) H) : rng1K R [.int j] H := ⟨j, rfl, h.1, h.2, k⟩
theorem w_rng2K (h : -(2 ^ 62) ≤ i ∧ i < 2 ^ 62 ∧ -(2 ^ 62) ≤ j ∧ j < 2 ^ 62) (k : R (Itr i (j - i).toNat) H) : rng2K R [.int i, .int j] H := ⟨i, j, rfl, h, k⟩
def iLK (K : PySem.W.Frag) (R : It → Hp → Prop) (x : V) (H : Hp) : Prop := ∃ a, x = .ref a ∧ (∃ xs, SqL K H a xs) ∧ R (Itl K a) H
theorem w_iL (k : ta σ H fun x H1 => iLK K R x H1) : iList K ta σ H R := k
theorem w_iLK {a : Addr} (h : SqL K H a xs) (k : R (Itl K a) H) : iLK K R (.ref a) H := ⟨a, rfl, ⟨xs, h⟩, k⟩
theorem w_gN {m : Nat} (k : QG (σ.set m (some v)) H) : gName m v σ H QG := k
theorem w_gT {m : Nat} {a : Addr} (h : SqT K H a xs) (l : xs.length = m) (k : gs xs σ H QG) : gTup K m gs (.ref a) σ H QG := ⟨a, xs, rfl, h, l, k⟩
theorem w_g0 (k : QG σ H) : gNil [] σ H QG := ⟨rfl, k⟩
theorem w_gC (k : g v σ H fun σ' H' => gs xs σ' H' QG) : gCons g gs (v :: xs) σ H QG := ⟨v, xs, rfl, k⟩
def lcK (J : It) (g : TG) (tt : TT) (te : TE) (vs : List Nat) (σ : St) (H1 : Hp) (Q : VK) : Prop := ∀ D, H1 D = Option.none → ∃ W : Nat → Nat → Hp → Prop, (∃ m, W 0 m (upd H1 D (.lst []))) ∧ ∀ i m H, W i m H →
  (J.stop i H ∧ Q (.ref D) H) ∨ (J.go i H ∧ ∃ Nx : Hp → Prop, (∀ H', Nx H' → ∃ m', m' < m ∧ W (i + 1) m' H') ∧ ∀ x H', J.yld i H x H' → g x (wipe σ vs) H' fun σ2 H2 => wipe σ2 vs = wipe σ vs ∧ tt σ2 H2 fun b H3 =>
    if b = true then te σ2 H3 fun y H4 => ∃ acc, H4 D = some (.lst acc) ∧ acc.length < sizeLine ∧ Nx (upd H4 D (.lst (acc ++ [y]))) else Nx H3)
theorem w_lc {vs : List Nat} (k : wi σ H fun J H1 => lcK J g t te vs σ H1 Q) : tLc wi g t te vs σ H Q := k
theorem w_yes (k : QB true H) : tYes σ H QB := k
theorem w_all {a : Addr} (bs : List Bool) (h : SqL K H a (bs.map V.bl)) (k : Q (.bl (bs.all id)) H) : rAll K [.ref a] H Q := ⟨a, bs, rfl, h, k⟩
theorem w_asg (k : te σ H fun x H1 => g x σ H1 D.nx) : tAsg te g D σ H := k
end
section
variable {X : Cx} {K : PySem.W.Frag} {e o value l tg : Expr} {es : List Expr} {f name : Str} {pos pos' tpos apos cpos : Pos} {ta te to tv tl : TE} {ts : TA} {T id : String}
theorem k_fld (he : PE X e ta) (hb : attributeBase e f X.env (eval e X.env) = eval e X.env) (hK : X.K = K := by rfl) : PE X (.Attribute e f pos) (tFld K ta f) := by subst hK; exact pe_fld he hb
theorem k_sfld (ha : PE X o ta) (hv : PE X value tv) (hs : swapsWith value (some (.Attribute o f pos')) pos.line X.env = pure false) (hK : X.K = K := by rfl) : PS X (.Assign [.Attribute o f pos'] value pos) (sFld K ta tv f) := by subst hK; exact ps_fld ha hv hs
theorem k_fldaug {op : Operator} {rd : V → V → Hp → VK → Prop} (ha : PE X o ta) (hv : PE X value tv) (hop : InOp X op rd) (hK : X.K = K := by rfl) : PS X (.AugAssign (.Attribute o f tpos) op value pos) (sFldAug K ta tv rd f) := by subst hK; exact ps_fldaug ha hv hop
theorem k_list (hl : PE X l tl) (hK : X.K = K := by rfl) : PI X tg l (iList K tl) := by subst hK; exact pi_list hl
theorem k_gtup {es : List Expr} {k : Nat} {t : TGs} (n : Nat) (hc : X.calm = true) (h : PGs X es t)
    (hn : (assignEach es X.env).length = n := by rfl) (hst : (assignEach es X.env).findIdx? (·.1) = none := by rfl) (hK : X.K = K := by rfl) : PG X (.Tuple es k pos) (gTup K n t) := by subst hK; exact pg_tup hc h hn hst
theorem k_bm0 {r : V → List V → Hp → VK → Prop} (pa : PlainAttrs T) (slot : Slot T name id) (hty : typeOf (.builtin id) = pure (.type "method_descriptor")) (hm : MtR X id r) (ho : PE X o to)
    (hbase : attributeBase o name X.env (eval o X.env) = eval o X.env := by rfl) (hline : (apos.endLine == cpos.line) = true := by rfl) (hK : X.K = K := by rfl) : PE X (.Call (.Attribute o name apos) [] [] cpos) (tBM0 K T r to) := by
  subst hK; exact pe_bm0 pa slot hty hm ho hbase hline
theorem k_bm {r : V → List V → Hp → VK → Prop} (pa : PlainAttrs T) (slot : Slot T name id) (hty : typeOf (.builtin id) = pure (.type "method_descriptor")) (hm : MtR X id r) (ho : PE X o to) (ha : PA X (e :: es) ts)
    (hbase : attributeBase o name X.env (eval o X.env) = eval o X.env := by rfl)
    (hfew : ((backTo cpos (starEach (e :: es) X.env)).all (fun x => !x.1) && (backToKw cpos (keywordEach [] X.env)).all (fun x => x.1.isSome)
      && decide ((e :: es).length + ([] : List Keyword).length + (if ([] : List Keyword).isEmpty then 0 else 1) < 30)) = true := by rfl)
    (hline : (apos.endLine == cpos.line) = true := by rfl) (hs : starEach (e :: es) X.env = (false, eval e X.env) :: starEach es X.env := by rfl) (hplain : (backTo cpos (starEach es X.env)).any (·.1) = false := by rfl) (hK : X.K = K := by rfl) :
    PE X (.Call (.Attribute o name apos) (e :: es) [] cpos) (tBM K T r to ts) := by
  subst hK; exact pe_bm pa slot hty hm ho ha hbase hfew hline hs hplain
theorem k_tr (ha : PE X e ta) (he : ∀ whole, isTrue e X.env whole = (do let v ← whole; standAt e.pos; holding [v] (truthy v))) (hK : X.K = K := by rfl) : PT X e (tTr K ta) := by subst hK; exact pt_tr ha he
end
/-! one step of a reading; a heap's place -/
local macro_rules | `(tactic| k_memK) => `(tactic| first
  | assumption
  | exact upd_same
  | (refine upd_other ?_ (by assumption); k_memK)
  | (refine upd_at ?_ (by assumption); k_memK)
  | (refine upd_at ?_ (Ne.symm (by assumption)); k_memK)
  | (refine same_at (by assumption) ?_; k_memK))
/- where a list, a tuple stands -/
local macro_rules | `(tactic| k_upd) => `(tactic| first
  | assumption
  | exact SqL.of (by k_memK)
  | (refine Same.seq (by assumption) ?_; k_upd))
local macro_rules | `(tactic| k_ownIn) => `(tactic| first
  | assumption
  | exact SqT.of (by k_memK)
  | (refine same_tup (by assumption) ?_; k_ownIn))
local macro_rules | `(tactic| k_updF) => `(tactic| first
  | with_reducible refine' w_seq ?_
  | with_reducible refine' w_op ?_
  | ((with_reducible refine' w_var ?hh ?_); (case hh => rfl))
  | with_reducible refine' w_c ?_
  | with_reducible refine' w_I0 ?_
  | with_reducible refine' w_set ?_
  | with_reducible refine' w_cons ?_
  | with_reducible refine' w_nil ?_
  | with_reducible refine' w_CB ?_
  | with_reducible refine' w_call ?_
  | with_reducible refine' w_ret ?_
  | with_reducible refine' w_drop ?_
  | with_reducible refine' w_next ?_
  | with_reducible refine' w_ifS ?_
  | with_reducible refine' w_test ?_
  | with_reducible refine' w_tstK ?_
  | with_reducible refine' w_tr ?_
  | with_reducible refine' w_truB ?_
  | with_reducible refine' w_and ?_
  | with_reducible refine' w_or ?_
  | with_reducible refine' w_not ?_
  | with_reducible refine' w_andV ?_
  | with_reducible refine' w_orV ?_
  | with_reducible refine' w_notV ?_
  | with_reducible refine' w_andK ?_
  | with_reducible refine' w_orK ?_
  | with_reducible refine' w_notK ?_
  | with_reducible refine' w_tup ?_
  | with_reducible refine' w_lst ?_
  | with_reducible refine' w_fld ?_
  | with_reducible refine' w_sfld ?_
  | with_reducible refine' w_meth ?_
  | with_reducible refine' w_bm ?_
  | with_reducible refine' w_retN ?_
  | ((with_reducible refine' w_eq ?hh ?_); (case hh => rfl))
  | ((with_reducible refine' w_ne ?hh ?_); (case hh => rfl))
  | ((with_reducible refine' w_mod ?hh ?_); (case hh => (first | assumption | (show (0 : Int) < _; first | decide | omega))))
  | ((with_reducible refine' w_div ?hh ?_); (case hh => (exact ⟨by decide, by decide⟩)))
  | ((with_reducible refine' w_pow ?hh ?_); (case hh => (exact ⟨by decide, by decide, by decide⟩)))
  | ((with_reducible refine' w_mulR ?hh ?_); (case hh => (exact ⟨by decide, by decide⟩)))
  | ((with_reducible refine' w_mulL ?hh ?_); (case hh => (exact ⟨by decide, by decide⟩)))
  | ((with_reducible refine' w_ixT ?hh ?ha ?_); (case hh => k_ownIn); (case ha => (first | rfl | exact atI_nat (j := 0) rfl)))
  | ((with_reducible refine' w_ixL ?hh ?ha ?_); (case hh => k_upd); (case ha => (first | rfl | exact atI_nat (j := 0) rfl)))
  | ((with_reducible refine' w_tyL ?hh ?_); (case hh => k_upd))
  | with_reducible refine' i_ne ?_
  | with_reducible refine' i_eq ?_
  | ((with_reducible refine' i_nn ?hh ?_); (case hh => (intro h; cases h)))
  | ((with_reducible refine' i_isn ?hh ?_); (case hh => (intro h; cases h)))
  | with_reducible refine' i_nt ?_
  | with_reducible refine' i_nf ?_
  | with_reducible refine' i_t ?_
  | with_reducible refine' i_f ?_
  | with_reducible refine' w_isNo ?_
  | with_reducible refine' w_notNo ?_
  | ((with_reducible refine' w_lenL ?hh ?_); (case hh => k_upd))
  | ((with_reducible refine' w_lenT ?hh ?_); (case hh => k_ownIn))
  | with_reducible refine' w_for ?_
  | with_reducible refine' w_rng1 ?_
  | with_reducible refine' w_rng2 ?_
  | with_reducible refine' w_iL ?_
  | ((with_reducible refine' w_rng1K ?hh ?_); (case hh => omega))
  | ((with_reducible refine' w_rng2K ?hh ?_); (case hh => (first | omega | (simp only [List.length_map]; omega))))
  | ((with_reducible refine' w_iLK ?hh ?_); (case hh => k_upd))
  | with_reducible refine' w_lc ?_
  | with_reducible refine' w_yes ?_
  | with_reducible refine' w_gN ?_
  | ((with_reducible refine' w_gT ?hh ?hl ?_); (case hh => k_ownIn); (case hl => rfl))
  | with_reducible refine' w_g0 ?_
  | with_reducible refine' w_gC ?_
  | with_reducible refine' w_asg ?_
  | with_reducible refine' w_make ?_
  | with_reducible refine' w_un ?_
  | with_reducible refine' w_rU ?_
  | with_reducible refine' w_fldaug ?_
  | with_reducible refine' w_rAdd ?_
  | with_reducible refine' w_rSub ?_
  | ((with_reducible refine' w_augK ?hh ?hc ?hn ?hl ?_); (case hh => k_memK); (case hc => assumption); (case hn => assumption); (case hl => rfl))
  | ((with_reducible refine' w_aug2K ?hh ?hl ?_); (case hh => k_memK); (case hl => (exact of_decide_eq_true rfl)))
  | ((with_reducible refine' w_methK ?hh ?hl ?_); (case hh => k_memK); (case hl => rfl))
  | ((with_reducible refine' w_sfldK ?hh ?hc ?hn ?hl ?_); (case hh => k_memK); (case hc => assumption); (case hn => assumption); (case hl => (exact of_decide_eq_true rfl)))
  | ((with_reducible refine' w_fldK ?hh ?hc ?hn ?hl ?_); (case hh => k_memK); (case hc => assumption); (case hn => assumption); (case hl => rfl)))
local macro_rules | `(tactic| k_allIn) => `(tactic| repeat k_updF)
def top (i : Nat) : Stmt := PySem.Challenge.pw_passring_k03_a_token.main.body.getD i (.Pass ⟨0, 0, 0, 0⟩)
abbrev s_Token_init : Stmt := inClass (top 1) 0
abbrev s_Token_stamp : Stmt := inClass (top 1) 1
abbrev s_Token_hear : Stmt := inClass (top 1) 2
abbrev s_Token_begin_round : Stmt := inClass (top 1) 3
abbrev s_law_whole : Stmt := top 3
abbrev s_law_cell_at : Stmt := top 4
abbrev s_law_mixed : Stmt := top 5
abbrev s_law_same : Stmt := top 6
abbrev s_law : Stmt := top 7
theorem sc_Token_init : FnScope ["self", "number", "maker", "at"] ["self", "number", "maker", "at"] (defScope s_Token_init) := ⟨rfl, rfl, rfl, by decide +kernel, rfl, by decide +kernel, by decide +kernel⟩
theorem sc_Token_stamp : FnScope ["self"] ["self"] (defScope s_Token_stamp) := ⟨rfl, rfl, rfl, by decide +kernel, rfl, by decide +kernel, by decide +kernel⟩
theorem sc_Token_hear : FnScope ["self", "need", "station"] ["self", "need", "station"] (defScope s_Token_hear) := ⟨rfl, rfl, rfl, by decide +kernel, rfl, by decide +kernel, by decide +kernel⟩
theorem sc_Token_begin_round : FnScope ["self"] ["self"] (defScope s_Token_begin_round) := ⟨rfl, rfl, rfl, by decide +kernel, rfl, by decide +kernel, by decide +kernel⟩
theorem sc_law_whole : FnScope ["_law_found"] ["_law_found"] (defScope s_law_whole) := ⟨rfl, rfl, rfl, by decide +kernel, rfl, by decide +kernel, by decide +kernel⟩
theorem sc_law_cell_at : FnScope ["_law_script", "_law_k"] ["_law_script", "_law_k"] (defScope s_law_cell_at) := ⟨rfl, rfl, rfl, by decide +kernel, rfl, by decide +kernel, by decide +kernel⟩
theorem sc_law_mixed : FnScope ["_law_cell", "_law_k", "_law_mixed_here"] ["_law_cell", "_law_k"] (defScope s_law_mixed) := ⟨rfl, rfl, rfl, by decide +kernel, rfl, by decide +kernel, by decide +kernel⟩
theorem sc_law_same : FnScope ["_law_found", "_law_due", "_law_k"] ["_law_found", "_law_due"] (defScope s_law_same) := ⟨rfl, rfl, rfl, by decide +kernel, rfl, by decide +kernel, by decide +kernel⟩
theorem sc_law : FnScope ["_law_script", "_law_number", "_law_maker", "_law_at", "_law_token", "_law_best", "_law_winner", "_law_k", "_law_pick", "_law_need"] ["_law_script"] (defScope s_law) := ⟨rfl, rfl, rfl, by decide +kernel, rfl, by decide +kernel, by decide +kernel⟩
structure Ad where
  Token : Addr
  Token_init : Addr
  Token_init_d : FuncData
  Token_stamp : Addr
  Token_stamp_d : FuncData
  Token_hear : Addr
  Token_hear_d : FuncData
  Token_begin_round : Addr
  Token_begin_round_d : FuncData
  law_whole : Addr
  law_whole_d : FuncData
  law_cell_at : Addr
  law_cell_at_d : FuncData
  law_mixed : Addr
  law_mixed_d : FuncData
  law_same : Addr
  law_same_d : FuncData
  law : Addr
  law_d : FuncData
structure Txt (K : PySem.W.Frag) (mg : Str → Option Value) (A : Ad) : Prop where
  F_Token_init : Fun K "__init__" "Token.__init__" s_Token_init A.Token_init A.Token_init_d
  b_Token_init : Binds K A.Token_init_d ["self", "number", "maker", "at"] []
  F_Token_stamp : Fun K "stamp" "Token.stamp" s_Token_stamp A.Token_stamp A.Token_stamp_d
  b_Token_stamp : Binds K A.Token_stamp_d ["self"] []
  m_Token_stamp : Meth K A.Token "stamp" A.Token_stamp
  F_Token_hear : Fun K "hear" "Token.hear" s_Token_hear A.Token_hear A.Token_hear_d
  b_Token_hear : Binds K A.Token_hear_d ["self", "need", "station"] []
  m_Token_hear : Meth K A.Token "hear" A.Token_hear
  F_Token_begin_round : Fun K "begin_round" "Token.begin_round" s_Token_begin_round A.Token_begin_round A.Token_begin_round_d
  b_Token_begin_round : Binds K A.Token_begin_round_d ["self"] []
  m_Token_begin_round : Meth K A.Token "begin_round" A.Token_begin_round
  F_law_whole : Fun K "_law_whole" "_law_whole" s_law_whole A.law_whole A.law_whole_d
  b_law_whole : Binds K A.law_whole_d ["_law_found"] []
  g_law_whole : mg "_law_whole" = some (.ref A.law_whole)
  F_law_cell_at : Fun K "_law_cell_at" "_law_cell_at" s_law_cell_at A.law_cell_at A.law_cell_at_d
  b_law_cell_at : Binds K A.law_cell_at_d ["_law_script", "_law_k"] []
  g_law_cell_at : mg "_law_cell_at" = some (.ref A.law_cell_at)
  F_law_mixed : Fun K "_law_mixed" "_law_mixed" s_law_mixed A.law_mixed A.law_mixed_d
  b_law_mixed : Binds K A.law_mixed_d ["_law_cell", "_law_k"] []
  g_law_mixed : mg "_law_mixed" = some (.ref A.law_mixed)
  F_law_same : Fun K "_law_same" "_law_same" s_law_same A.law_same A.law_same_d
  b_law_same : Binds K A.law_same_d ["_law_found", "_law_due"] []
  g_law_same : mg "_law_same" = some (.ref A.law_same)
  F_law : Fun K "law" "law" s_law A.law A.law_d
  b_law : Binds K A.law_d ["_law_script"] []
  g_law : mg "law" = some (.ref A.law)
  g_Token : mg "Token" = some (.ref A.Token)
  cl_Token : Cls K A.Token
  M_Token : Mk K A.Token A.Token_init
  a_Token_number : NoAttr K A.Token "number"
  a_Token_maker : NoAttr K A.Token "maker"
  a_Token_at : NoAttr K A.Token "at"
  a_Token_winner : NoAttr K A.Token "winner"
  a_Token_best : NoAttr K A.Token "best"
  n_all : mg "all" = none
  n_bool : mg "bool" = none
  n_int : mg "int" = none
  n_isinstance : mg "isinstance" = none
  n_len : mg "len" = none
  n_list : mg "list" = none
  n_min : mg "min" = none
  n_range : mg "range" = none
  n_str : mg "str" = none
  n_tuple : mg "tuple" = none
/-! ### the law's helpers: whole, mixed, same, held -/
def spWhole : Sp := fun vs H Q _ => ∃ (m : Int), vs = [.int m] ∧ Q (.bl true) H
def mixA (c k : Int) : Int := (c + 7919 * k) * 48271 % 2147483647
def mix (c k : Int) : Int := mixA c k * (mixA c k % 65537 + k + 1) % 2147483647
theorem mix_lo (c k : Int) : 0 ≤ mix c k := Int.emod_nonneg _ (by decide)
theorem mix_hi (c k : Int) : mix c k < 2147483647 := Int.emod_lt_of_pos _ (by decide)
def spMixed : Sp := fun vs H Q _ => ∃ (c k : Int), vs = [.int c, .int k] ∧ -100000 ≤ k ∧ k ≤ 100000 ∧ Q (.int (mix c k)) H
/-- two things that are the same, of nesting below n -/
def SameV : Nat → Hp → V → V → Prop
  | 0, _, _, _ => False
  | n + 1, H, x, y => (x = .non ∧ y = .non) ∨ (∃ i, x = .int i ∧ y = .int i) ∨ (∃ s, x = .str s ∧ y = .str s) ∨
    ∃ (a b : Addr) (xs ys : List V), x = .ref a ∧ y = .ref b ∧ ((H a = some (.tup xs) ∧ H b = some (.tup ys)) ∨ (H a = some (.lst xs) ∧ H b = some (.lst ys))) ∧
      xs.length = ys.length ∧ xs.length < sizeLine ∧ ∀ (i : Nat) (u v : V), xs[i]? = some u → ys[i]? = some v → SameV n H u v
theorem SameV.mono {n : Nat} : ∀ {H H' : Hp} {x y : V}, Same H H' → SameV n H x y → SameV n H' x y := by
  induction n with
  | zero => intro _ _ _ _ _ h; exact h.elim
  | succ n ih =>
    intro H H' x y s h
    rcases h with h | h | h | ⟨a, b, xs, ys, ex, ey, hab, hl, hz, hi⟩
    · exact .inl h
    · exact .inr (.inl h)
    · exact .inr (.inr (.inl h))
    · refine .inr (.inr (.inr ⟨a, b, xs, ys, ex, ey, ?_, hl, hz, fun i u v hu hv => ih s (hi i u v hu hv)⟩))
      rcases hab with ⟨h1, h2⟩ | ⟨h1, h2⟩
      · exact .inl ⟨s _ _ h1, s _ _ h2⟩
      · exact .inr ⟨s _ _ h1, s _ _ h2⟩
def spSame (n : Nat) : Sp := fun vs H Q _ => ∃ (x y : V), vs = [x, y] ∧ SameV n H x y ∧ ∀ H', Same H H' → Q (.bl true) H'
theorem SameV.non {n : Nat} {H : Hp} : SameV (n + 1) H .non .non := .inl ⟨rfl, rfl⟩
theorem SameV.int {n : Nat} {H : Hp} (i : Int) : SameV (n + 1) H (.int i) (.int i) := .inr (.inl ⟨i, rfl, rfl⟩)
theorem SameV.str {n : Nat} {H : Hp} (s : Str) : SameV (n + 1) H (.str s) (.str s) := .inr (.inr (.inl ⟨s, rfl, rfl⟩))
theorem SameV.tup {n : Nat} {H : Hp} {a b : Addr} {xs ys : List V} (h1 : H a = some (.tup xs)) (h2 : H b = some (.tup ys)) (hl : xs.length = ys.length) (hz : xs.length < sizeLine) (hi : ∀ (i : Nat) (u v : V), xs[i]? = some u → ys[i]? = some v → SameV n H u v) : SameV (n + 1) H (.ref a) (.ref b) :=
  .inr (.inr (.inr ⟨a, b, xs, ys, rfl, rfl, .inl ⟨h1, h2⟩, hl, hz, hi⟩))
theorem SameV.lst {n : Nat} {H : Hp} {a b : Addr} {xs ys : List V} (h1 : H a = some (.lst xs)) (h2 : H b = some (.lst ys)) (hl : xs.length = ys.length) (hz : xs.length < sizeLine) (hi : ∀ (i : Nat) (u v : V), xs[i]? = some u → ys[i]? = some v → SameV n H u v) : SameV (n + 1) H (.ref a) (.ref b) :=
  .inr (.inr (.inr ⟨a, b, xs, ys, rfl, rfl, .inr ⟨h1, h2⟩, hl, hz, hi⟩))
section
variable {P : Program} {w : World} {K : PySem.W.Frag} {mg : Str → Option Value} {base : Heap} {Z : Ad}
theorem ok_law_whole (T : Txt K mg Z) : FnOk P w K mg base CX0 1 Z.law_whole Z.law_whole_d ["_law_found"] spWhole := by
  refine T.F_law_whole.ok sc_law_whole (fun vs H Q E h => ?_) (fun cdv A outer s H vs Q E hr h => ?_)
  · obtain ⟨m, rfl, _⟩ := h
    rfl
  · obtain ⟨m, rfl, k⟩ := h
    refine ⟨_, (pss_one (ps_ret (pe_and (pe_callB (r := rIsi K) call_isi (by rfl) T.n_isinstance (by decide +kernel) (pa_cons (pv 0) (pa_cons (pe_bltn (v := .ty "int") (by rfl) T.n_int (by decide +kernel) rfl) pa_nil))) (pe_one (pe_not (pe_callB (r := rIsi K) call_isi (by rfl) T.n_isinstance (by decide +kernel) (pa_cons (pv 0) (pa_cons (pe_bltn (v := .ty "bool") (by rfl) T.n_bool (by decide +kernel) rfl) pa_nil)))))))), ?_⟩
    k_allIn
    refine ⟨_, _, _, _, true, rfl, .ty "int", .base (.int m), kit_ty (by decide +kernel), ?_⟩
    k_allIn
    refine ⟨_, _, _, _, false, rfl, .ty "bool", .base (.int m), kit_ty (by decide +kernel), ?_⟩
    k_allIn
    exact k
theorem ok_law_mixed (T : Txt K mg Z) : FnOk P w K mg base CX0 1 Z.law_mixed Z.law_mixed_d ["_law_cell", "_law_k"] spMixed := by
  refine T.F_law_mixed.ok sc_law_mixed (fun vs H Q E h => ?_) (fun cdv A outer s H vs Q E hr h => ?_)
  · obtain ⟨c, k, rfl, _⟩ := h
    rfl
  · obtain ⟨c, j, rfl, h1, h2, k⟩ := h
    refine ⟨_, (pss_cons (ps_set (i := 2) sc_law_mixed.nd rfl (Or.inl rfl) (pe_op op_mod (pe_op op_mul (pe_op op_add (pv 0) (pe_op op_mul pe_int (pv 1))) pe_int) pe_int))
      (pss_one (ps_ret (pe_op op_mod (pe_op op_mul (pv 2) (pe_op op_add (pe_op op_add (pe_op op_mod (pv 2) pe_int) (pv 1)) pe_int)) pe_int)))), ?_⟩
    k_allIn
    have b1 : 0 ≤ (c + 7919 * j) * 48271 % 2147483647 := Int.emod_nonneg _ (by decide)
    have b2 : (c + 7919 * j) * 48271 % 2147483647 < 2147483647 := Int.emod_lt_of_pos _ (by decide)
    refine w_mulL (by omega) ?_
    k_allIn
    exact k
end
section
variable {P : Program} {w : World} {K : PySem.W.Frag} {mg : Str → Option Value} {base : Heap} {Z : Ad}
theorem isi {x : V} {t : String} {c : String} {b : Bool} {H : Hp} {Q : VK} (ty : TyX K H x (.type t)) (e : kitB t c = some b) (q : Q (.bl b) H) : rIsi K [x, .ty c] H Q := ⟨x, .ty c, _, _, b, rfl, .ty c, ty, kit_ty e, q⟩
theorem all_rep : ∀ n : Nat, (List.replicate n true).all id = true
  | 0 => rfl
  | n + 1 => by rw [List.replicate_succ, List.all_cons, all_rep n]; rfl
theorem sz62 {n : Nat} (h : n < sizeLine) : n < 4611686018427387904 := Nat.lt_of_lt_of_le h (by decide)
theorem small {n : Nat} (h : n ≤ 100000) : n < sizeLine := Nat.lt_of_le_of_lt h (by decide)
theorem ok_law_same (T : Txt K mg Z) : ∀ n : Nat, FnOk P w K mg base CX0 (n + 1) Z.law_same Z.law_same_d ["_law_found", "_law_due"] (spSame n) := by
  intro n
  induction n with
  | zero =>
    refine T.F_law_same.ok sc_law_same (fun vs H Q E h => ?_) (fun cdv A outer s H vs Q E hr h => ?_)
    · obtain ⟨x, y, rfl, h, _⟩ := h
      rfl
    · obtain ⟨x, y, rfl, h, _⟩ := h
      exact h.elim
  | succ n ih =>
    have G_law_whole := ok_law_whole (P := P) (w := w) (base := base) T
    have G_law_same := ih
    refine T.F_law_same.ok sc_law_same (fun vs H Q E h => ?_) (fun cdv A outer s H vs Q E hr h => ?_)
    · obtain ⟨x, y, rfl, h, _⟩ := h
      rfl
    · obtain ⟨x, y, rfl, h, k⟩ := h
      refine ⟨_, (pss_cons (ps_if (k_tr (K := K) (pe_callB (r := rIsi K) call_isi (by rfl) T.n_isinstance (by decide +kernel) (pa_cons (pv 1) (pa_cons (pe_bltn (v := .ty "str") (by rfl) T.n_str (by decide +kernel) rfl) pa_nil))) (fun _ => rfl))
        (pss_one (ps_ret (pe_and (pe_callB (r := rIsi K) call_isi (by rfl) T.n_isinstance (by decide +kernel) (pa_cons (pv 0) (pa_cons (pe_bltn (v := .ty "str") (by rfl) T.n_str (by decide +kernel) rfl) pa_nil))) (pe_one (pe_cmpR op_eq (pv 0) (pv 1) (nomark _))))))
        pss_nil)
      (pss_cons (ps_if (PW.pt (pw_or (pt_cmpR op_isNo (pv 1) pe_non (nomark _)) (pw_or1 (pt_cmpR op_isNo (pv 0) pe_non (nomark _)))))
        (pss_one (ps_ret (pe_and (pe_cmpR op_isNo (pv 0) pe_non (nomark _)) (pe_one (pe_cmpR op_isNo (pv 1) pe_non (nomark _))))))
        pss_nil)
      (pss_cons (ps_if (PW.pt (pw_or (PW.pt (pw_and (k_tr (K := K) (pe_callB (r := rIsi K) call_isi (by rfl) T.n_isinstance (by decide +kernel) (pa_cons (pv 1) (pa_cons (pe_bltn (v := .ty "tuple") (by rfl) T.n_tuple (by decide +kernel) rfl) pa_nil))) (fun _ => rfl)) (pw_and1 (k_tr (K := K) (pe_callB (r := rIsi K) call_isi (by rfl) T.n_isinstance (by decide +kernel) (pa_cons (pv 0) (pa_cons (pe_bltn (v := .ty "tuple") (by rfl) T.n_tuple (by decide +kernel) rfl) pa_nil))) (fun _ => rfl))))) (pw_or1 (PW.pt (pw_and (k_tr (K := K) (pe_callB (r := rIsi K) call_isi (by rfl) T.n_isinstance (by decide +kernel) (pa_cons (pv 1) (pa_cons (pe_bltn (v := .ty "list") (by rfl) T.n_list (by decide +kernel) rfl) pa_nil))) (fun _ => rfl)) (pw_and1 (k_tr (K := K) (pe_callB (r := rIsi K) call_isi (by rfl) T.n_isinstance (by decide +kernel) (pa_cons (pv 0) (pa_cons (pe_bltn (v := .ty "list") (by rfl) T.n_list (by decide +kernel) rfl) pa_nil))) (fun _ => rfl))))))))
        (pss_cons (ps_if (pt_cmpR op_ne (pe_callB (r := rLenS K) call_lenS (by rfl) T.n_len PySem.boot_len (pa_cons (pv 0) pa_nil)) (pe_callB (r := rLenS K) call_lenS (by rfl) T.n_len PySem.boot_len (pa_cons (pv 1) pa_nil)) (nomark _))
          (pss_one (ps_ret pe_bl))
          pss_nil)
        (pss_one (ps_ret (pe_callB (r := rAll K) (cr_all rfl) (by rfl) T.n_all (by decide +kernel) (pa_cons (pe_lc (own := [("_law_k", 2)]) (g := gName 2) rfl sc_law_same.nd (pi_range1 (by rfl) T.n_range (pa_cons (pe_callB (r := rLenS K) call_lenS (by rfl) T.n_len PySem.boot_len (pa_cons (pv 1) pa_nil)) pa_nil)) (blkOk_by (own := [("_law_k", 2)]) (N := ["_law_found", "_law_due", "_law_k"]) (sc := defScope s_law_same) (by decide +kernel)) (fun _ _ _ _ _ => pg_name (i := 2) sc_law_same.nd rfl (Or.inl rfl)) (fun _ _ _ _ _ => pts_nil) (fun _ _ _ _ _ => (pe_call G_law_same (hr.mono (by omega)) rfl T.g_law_same T.F_law_same.kp T.b_law_same .nil pass0 (pa_cons (pe_ix (r := rIx K) ix_seq (pv 0) (pv 2) (fun _ _ => rfl)) (pa_cons (pe_ix (r := rIx K) ix_seq (pv 1) (pv 2) (fun _ _ => rfl)) pa_nil))))) pa_nil)))))
        pss_nil)
      (pss_one (ps_ret (pe_and (pe_call G_law_whole (hr.mono (by omega)) rfl T.g_law_whole T.F_law_whole.kp T.b_law_whole .nil pass0 (pa_cons (pv 1) pa_nil)) (pe_and (pe_call G_law_whole (hr.mono (by omega)) rfl T.g_law_whole T.F_law_whole.kp T.b_law_whole .nil pass0 (pa_cons (pv 0) pa_nil)) (pe_one (pe_cmpR op_eq (pv 0) (pv 1) (nomark _)))))))))), ?_⟩
      rcases h with ⟨rfl, rfl⟩ | ⟨i, rfl, rfl⟩ | ⟨z, rfl, rfl⟩ | ⟨a, b, xs, ys, rfl, rfl, hab, hl, hz, hi⟩
      · k_allIn
        refine isi (.base .non) (b := false) (by decide +kernel) ?_
        k_allIn
        exact k _ (Same.refl _)
      · k_allIn
        refine isi (.base (.int i)) (b := false) (by decide +kernel) ?_
        k_allIn
        refine isi (.base (.int i)) (b := false) (by decide +kernel) ?_
        k_allIn
        refine isi (.base (.int i)) (b := false) (by decide +kernel) ?_
        k_allIn
        refine ⟨i, rfl, ?_⟩
        k_allIn
        refine ⟨i, rfl, ?_⟩
        k_allIn
        rw [decide_eq_true rfl]
        exact k _ (Same.refl _)
      · k_allIn
        refine isi (.base (.str z)) (b := true) (by decide +kernel) ?_
        k_allIn
        refine isi (.base (.str z)) (b := true) (by decide +kernel) ?_
        k_allIn
        rw [decide_eq_true rfl]
        exact k _ (Same.refl _)
      · rcases hab with ⟨ha, hb⟩ | ⟨ha, hb⟩
        · k_allIn
          refine isi (.base (.tup hb)) (b := false) (by decide +kernel) ?_
          k_allIn
          refine isi (.base (.tup hb)) (b := true) (by decide +kernel) ?_
          k_allIn
          refine isi (.base (.tup ha)) (b := true) (by decide +kernel) ?_
          k_allIn
          rw [hl]
          have h62 : (ys.length : Int) < 4611686018427387904 := by have := sz62 (show ys.length < sizeLine by rw [← hl]; exact hz); omega
          k_allIn
          refine fun D hD => ?_
          refine lc_range (Pv := fun i H' => Same H H' ∧ H' D = some (.lst ((List.replicate i true).map V.bl))) ⟨same_new hD, upd_same⟩ ?_ ?_
          · rintro i H' hi' ⟨s1, e1⟩
            have hiy : i < ys.length := by omega
            have hix : i < xs.length := by omega
            have ha' := s1 _ _ ha
            have hb' := s1 _ _ hb
            k_allIn
            refine ⟨rfl, ?_⟩
            k_allIn
            refine w_ixT (SqT.of ha') (at_of (j := i) (by omega) (List.getElem?_eq_getElem hix)) ?_
            k_allIn
            refine w_ixT (SqT.of hb') (at_of (j := i) (by omega) (List.getElem?_eq_getElem hiy)) ?_
            k_allIn
            refine ⟨_, _, rfl, (hi i _ _ (List.getElem?_eq_getElem hix) (List.getElem?_eq_getElem hiy)).mono s1, fun H2 s2 => ?_⟩
            refine ⟨_, s2 _ _ e1, (by rw [List.length_map, List.length_replicate]; exact Nat.lt_trans hi' (by rw [← hl]; exact hz)), same_mut (s1.trans s2) hD, ?_⟩
            rw [upd_same, List.replicate_succ', List.map_append]
            rfl
          · rintro H' ⟨s1, e1⟩
            k_allIn
            refine w_all _ (SqL.of e1) ?_
            rw [all_rep]
            exact k _ s1
        · k_allIn
          refine isi (.base (.lst hb)) (b := false) (by decide +kernel) ?_
          k_allIn
          refine isi (.base (.lst hb)) (b := false) (by decide +kernel) ?_
          k_allIn
          refine isi (.base (.lst hb)) (b := true) (by decide +kernel) ?_
          k_allIn
          refine isi (.base (.lst ha)) (b := true) (by decide +kernel) ?_
          k_allIn
          rw [hl]
          have h62 : (ys.length : Int) < 4611686018427387904 := by have := sz62 (show ys.length < sizeLine by rw [← hl]; exact hz); omega
          k_allIn
          refine fun D hD => ?_
          refine lc_range (Pv := fun i H' => Same H H' ∧ H' D = some (.lst ((List.replicate i true).map V.bl))) ⟨same_new hD, upd_same⟩ ?_ ?_
          · rintro i H' hi' ⟨s1, e1⟩
            have hiy : i < ys.length := by omega
            have hix : i < xs.length := by omega
            have ha' := s1 _ _ ha
            have hb' := s1 _ _ hb
            k_allIn
            refine ⟨rfl, ?_⟩
            k_allIn
            refine w_ixL (SqL.of ha') (at_of (j := i) (by omega) (List.getElem?_eq_getElem hix)) ?_
            k_allIn
            refine w_ixL (SqL.of hb') (at_of (j := i) (by omega) (List.getElem?_eq_getElem hiy)) ?_
            k_allIn
            refine ⟨_, _, rfl, (hi i _ _ (List.getElem?_eq_getElem hix) (List.getElem?_eq_getElem hiy)).mono s1, fun H2 s2 => ?_⟩
            refine ⟨_, s2 _ _ e1, (by rw [List.length_map, List.length_replicate]; exact Nat.lt_trans hi' (by rw [← hl]; exact hz)), same_mut (s1.trans s2) hD, ?_⟩
            rw [upd_same, List.replicate_succ', List.map_append]
            rfl
          · rintro H' ⟨s1, e1⟩
            k_allIn
            refine w_all _ (SqL.of e1) ?_
            rw [all_rep]
            exact k _ s1
end
/-! ### a cell of the script -/
def spCellAt (K : PySem.W.Frag) : Sp := fun vs H Q _ => ∃ (a : Addr) (ns : List Int) (i : Nat), vs = [.ref a, .int (i : Int)] ∧ SqL K H a (ns.map V.int) ∧ Q (.int (ns.getD i 0)) H
section
variable {P : Program} {w : World} {K : PySem.W.Frag} {mg : Str → Option Value} {base : Heap} {Z : Ad}
theorem ok_law_cell_at (T : Txt K mg Z) : FnOk P w K mg base CX0 1 Z.law_cell_at Z.law_cell_at_d ["_law_script", "_law_k"] (spCellAt K) := by
  refine T.F_law_cell_at.ok sc_law_cell_at (fun vs H Q E h => ?_) (fun cdv A outer s H vs Q E hr h => ?_)
  · obtain ⟨a, ns, i, rfl, _⟩ := h
    rfl
  · obtain ⟨a, ns, i, rfl, ha, k⟩ := h
    refine ⟨_, (pss_cons (ps_if (pt_cmpR op_lt (pv 1) (pe_callB (r := rLenS K) call_lenS (by rfl) T.n_len PySem.boot_len (pa_cons (pv 0) pa_nil)) (nomark _))
        (pss_one (ps_ret (pe_ix (r := rIx K) ix_seq (pv 0) (pv 1) (fun _ _ => rfl))))
        pss_nil)
      (pss_one (ps_ret pe_int))), ?_⟩
    k_allIn
    rw [List.length_map]
    k_allIn
    refine ite2 (fun c => ?_) (fun c => ?_)
    · have hl : i < ns.length := by have := of_decide_eq_true c; omega
      k_allIn
      refine w_ixL ha (atI_nat (j := i) (by rw [List.getElem?_map, List.getElem?_eq_getElem hl]; rfl)) ?_
      rw [List.getD_eq_getElem?_getD, List.getElem?_eq_getElem hl] at k
      exact k
    · have hl : ns.length ≤ i := by have := of_decide_eq_false (eq_false_of_ne_true c); omega
      k_allIn
      rw [List.getD_eq_getElem?_getD, List.getElem?_eq_none hl] at k
      exact k
end
/-! ### data that stand in the heap -/
mutual
inductive Rp (H : Hp) : V → PyData → Prop
  | non : Rp H .non .none
  | int (i : Int) : Rp H (.int i) (.int i)
  | str (x : Str) : Rp H (.str x) (.str x)
  | lst {a : Addr} {xs : List V} {ds : List PyData} : H a = some (.lst xs) → RpAll H xs ds → Rp H (.ref a) (.list ds)
  | tup {a : Addr} {xs : List V} {ds : List PyData} : H a = some (.tup xs) → RpAll H xs ds → Rp H (.ref a) (.tuple ds)
inductive RpAll (H : Hp) : List V → List PyData → Prop
  | nil : RpAll H [] []
  | cons {v : V} {vs : List V} {d : PyData} {ds : List PyData} : Rp H v d → RpAll H vs ds → RpAll H (v :: vs) (d :: ds)
end
mutual
def okD : PyData → Bool
  | .none => true
  | .bool _ => false
  | .int _ => true
  | .str x => PyData.strOk x
  | .list ds => decide (ds.length < sizeLine) && okAll ds
  | .tuple ds => decide (ds.length < sizeLine) && okAll ds
  | .dict _ => false
def okAll : List PyData → Bool
  | [] => true
  | d :: ds => okD d && okAll ds
end
theorem RpAll.len {H : Hp} : ∀ {xs : List V} {ds : List PyData}, RpAll H xs ds → xs.length = ds.length
  | _, _, .nil => rfl
  | _, _, .cons _ t => congrArg (· + 1) (RpAll.len t)
mutual
theorem Rp.mono {H H' : Hp} (s : Same H H') : ∀ (d : PyData) (v : V), Rp H v d → Rp H' v d
  | .none, _, h => by cases h; exact .non
  | .bool _, _, h => nomatch h
  | .int i, _, h => by cases h; exact .int i
  | .str x, _, h => by cases h; exact .str x
  | .list ds, _, h => by cases h with | lst h1 h2 => exact .lst (s _ _ h1) (RpAll.mono s ds _ h2)
  | .tuple ds, _, h => by cases h with | tup h1 h2 => exact .tup (s _ _ h1) (RpAll.mono s ds _ h2)
  | .dict _, _, h => nomatch h
theorem RpAll.mono {H H' : Hp} (s : Same H H') : ∀ (ds : List PyData) (vs : List V), RpAll H vs ds → RpAll H' vs ds
  | [], _, h => by cases h; exact .nil
  | d :: ds, _, h => by cases h with | cons h1 h2 => exact .cons (Rp.mono s d _ h1) (RpAll.mono s ds _ h2)
end
mutual
theorem Rp.dp {K : PySem.W.Frag} {H : Hp} : ∀ (d : PyData) (v : V), Rp H v d → Dp K H v d
  | .none, _, h => by cases h; exact .non
  | .bool _, _, h => nomatch h
  | .int i, _, h => by cases h; exact .int i
  | .str x, _, h => by cases h; exact .str x
  | .list ds, _, h => by cases h with | lst h1 h2 => exact .lst (SqL.of h1) (RpAll.dp ds _ h2)
  | .tuple ds, _, h => by cases h with | tup h1 h2 => exact .tup (SqT.of h1) (RpAll.dp ds _ h2)
  | .dict _, _, h => nomatch h
theorem RpAll.dp {K : PySem.W.Frag} {H : Hp} : ∀ (ds : List PyData) (vs : List V), RpAll H vs ds → DpAll K H vs ds
  | [], _, h => by cases h; exact .nil
  | d :: ds, _, h => by cases h with | cons h1 h2 => exact .cons (Rp.dp d _ h1) (RpAll.dp ds _ h2)
end
mutual
theorem okD_lay : ∀ d : PyData, okD d = true → d.canLay0 = true
  | .none, _ => rfl
  | .bool _, h => nomatch h
  | .int _, _ => rfl
  | .str x, h => by rw [okD] at h; rw [PyData.canLay0]; exact h
  | .list ds, h => by rw [okD, Bool.and_eq_true] at h; rw [PyData.canLay0]; exact okAll_lay ds h.2
  | .tuple ds, h => by rw [okD, Bool.and_eq_true] at h; rw [PyData.canLay0]; exact okAll_lay ds h.2
  | .dict _, h => nomatch h
theorem okAll_lay : ∀ ds : List PyData, okAll ds = true → PyData.canLayAll0 ds = true
  | [], _ => rfl
  | d :: ds, h => by rw [okAll, Bool.and_eq_true] at h; rw [PyData.canLayAll0, okD_lay d h.1, okAll_lay ds h.2]; rfl
end
mutual
theorem Rp.same {H : Hp} : ∀ (d : PyData) (x y : V), okD d = true → Rp H x d → Rp H y d → ∀ n, d.depth < n → SameV n H x y
  | _, _, _, _, _, _, 0, h => absurd h (Nat.not_lt_zero _)
  | .none, _, _, _, hx, hy, n + 1, _ => by cases hx; cases hy; exact SameV.non
  | .bool _, _, _, h, _, _, _, _ => nomatch h
  | .int i, _, _, _, hx, hy, n + 1, _ => by cases hx; cases hy; exact SameV.int i
  | .str s, _, _, _, hx, hy, n + 1, _ => by cases hx; cases hy; exact SameV.str s
  | .list ds, _, _, h, hx, hy, n + 1, hn => by
    rw [okD, Bool.and_eq_true] at h
    rw [PyData.depth] at hn
    cases hx with
    | lst h1 h2 =>
      cases hy with
      | lst k1 k2 => exact SameV.lst h1 k1 (by rw [h2.len, k2.len]) (by rw [h2.len]; exact of_decide_eq_true h.1) (fun i u v hu hv => RpAll.same ds _ _ h.2 h2 k2 i u v hu hv n (by omega))
  | .tuple ds, _, _, h, hx, hy, n + 1, hn => by
    rw [okD, Bool.and_eq_true] at h
    rw [PyData.depth] at hn
    cases hx with
    | tup h1 h2 =>
      cases hy with
      | tup k1 k2 => exact SameV.tup h1 k1 (by rw [h2.len, k2.len]) (by rw [h2.len]; exact of_decide_eq_true h.1) (fun i u v hu hv => RpAll.same ds _ _ h.2 h2 k2 i u v hu hv n (by omega))
  | .dict _, _, _, h, _, _, _, _ => nomatch h
theorem RpAll.same {H : Hp} : ∀ (ds : List PyData) (xs ys : List V), okAll ds = true → RpAll H xs ds → RpAll H ys ds → ∀ (i : Nat) (u v : V), xs[i]? = some u → ys[i]? = some v → ∀ n, PyData.depthAll ds < n → SameV n H u v
  | [], _, _, _, hx, _, i, u, v, hu, _, _, _ => by cases hx; simp at hu
  | d :: ds, _, _, h, hx, hy, i, u, v, hu, hv, n, hn => by
    rw [okAll, Bool.and_eq_true] at h
    rw [PyData.depthAll] at hn
    cases hx with
    | cons h1 h2 =>
      cases hy with
      | cons k1 k2 =>
        cases i with
        | zero =>
          simp at hu hv
          subst hu hv
          exact Rp.same d _ _ h.1 h1 k1 n (by omega)
        | succ i => exact RpAll.same ds _ _ h.2 h2 k2 i u v (by simpa using hu) (by simpa using hv) n (by omega)
end
theorem RpAll.app {H : Hp} : ∀ {xs ys : List V} {ds es : List PyData}, RpAll H xs ds → RpAll H ys es → RpAll H (xs ++ ys) (ds ++ es)
  | _, _, _, _, .nil, h => h
  | _, _, _, _, .cons a t, h => .cons a (RpAll.app t h)
theorem RpAll.one {H : Hp} {x : V} {d : PyData} (h : Rp H x d) : RpAll H [x] [d] := .cons h .nil
theorem okAll_app : ∀ ds es : List PyData, okAll (ds ++ es) = (okAll ds && okAll es)
  | [], _ => rfl
  | d :: ds, es => by rw [List.cons_append, okAll, okAll, okAll_app ds es, Bool.and_assoc]
/-! ### what stands beside the places that change -/
/-- all but what stands at these places is as it was -/
def Fr (H H' : Hp) (ps : List Addr) : Prop := ∀ b o, H b = some o → b ∉ ps → H' b = some o
theorem Fr.refl (H : Hp) (ps : List Addr) : Fr H H ps := fun _ _ e _ => e
theorem Fr.trans {H H1 H2 : Hp} {ps : List Addr} (a : Fr H H1 ps) (b : Fr H1 H2 ps) : Fr H H2 ps := fun c o e n => b c o (a c o e n) n
theorem Fr.of {H H' : Hp} {ps : List Addr} (s : Same H H') : Fr H H' ps := fun b o e _ => s b o e
theorem upd_none {H : Hp} {a b : Addr} {o : HO} (e : upd H a o b = Option.none) : H b = Option.none := by
  by_cases h : b = a
  · subst h
    rw [upd_same] at e
    cases e
  · rwa [upd_ne h] at e
theorem Fr.upd {H H' : Hp} {ps : List Addr} {p : Addr} {o : HO} (a : Fr H H' ps) (m : p ∈ ps) : Fr H (upd H' p o) ps := fun b x e n => by
  rw [upd_ne (fun q => n (by rw [q]; exact m))]
  exact a b x e n
def off (H : Hp) (M : List Addr) : Hp := fun b => if b ∈ M then Option.none else H b
theorem off_sub (H : Hp) (M : List Addr) : Same (off H M) H := fun b o e => by
  unfold off at e
  by_cases h : b ∈ M
  · rw [if_pos h] at e; cases e
  · rw [if_neg h] at e; exact e
theorem off_in {H : Hp} {M : List Addr} {b : Addr} {o : HO} (e : H b = some o) (n : b ∉ M) : off H M b = some o := by
  unfold off
  rw [if_neg n]
  exact e
theorem off_not {H : Hp} {M : List Addr} {b : Addr} {o : HO} (e : off H M b = some o) : b ∉ M := fun h => by
  unfold off at e
  rw [if_pos h] at e
  cases e
theorem off_mono {H H' : Hp} {M : List Addr} (f : Fr H H' M) : Same (off H M) (off H' M) := fun b o e => off_in (f b o (off_sub _ _ b o e) (off_not e)) (off_not e)
theorem Fr.wide {H H' : Hp} {ps qs : List Addr} (f : Fr H H' ps) (h : ∀ x, x ∈ ps → x ∈ qs) : Fr H H' qs := fun b o e n => f b o e (fun m => n (h b m))
theorem Fr.same {H0 H H' : Hp} {ps : List Addr} (s : Same H0 H) (f : Fr H H' ps) (n : ∀ x, x ∈ ps → H0 x = Option.none) : Same H0 H' := fun b o e => f b o (s b o e) fun m => by
  rw [n b m] at e
  cases e
theorem Fr.at {H H' : Hp} {ps : List Addr} {b : Addr} {o : HO} (f : Fr H H' ps) (e : H b = some o) (n : b ∉ ps) : H' b = some o := f b o e n
/-! ### a token -/
structure TokSt where
  num : Int
  mkr : Int
  at_ : Int
  win : Option Int
  best : Option (Int × Int)
def oV : Option Int → V
  | none => .non
  | some i => .int i
/-- where the best need stands, what it is -/
def BestAt (H : Hp) (v : V) : Option (Int × Int) → Prop
  | none => v = .non
  | some b => ∃ a, v = .ref a ∧ H a = some (.tup [.int b.1, .int b.2])
theorem BestAt.mono {H H' : Hp} {v : V} {b : Option (Int × Int)} (s : Same H H') (h : BestAt H v b) : BestAt H' v b := by
  cases b with
  | none => exact h
  | some b => obtain ⟨a, e, h⟩ := h; exact ⟨a, e, s _ _ h⟩
theorem BestAt.keep {H H' : Hp} {v : V} {b : Option (Int × Int)} {ps : List Addr} (f : Fr H H' ps) (nt : ∀ y, y ∈ ps → ∀ ys, H y ≠ some (.tup ys)) (h : BestAt H v b) : BestAt H' v b := by
  cases b with
  | none => exact h
  | some b => obtain ⟨a, e, h⟩ := h; exact ⟨a, e, f _ _ h fun m => nt _ m _ h⟩
def tkF (t : TokSt) (bv : V) : List (Str × V) := [("number", .int t.num), ("maker", .int t.mkr), ("at", .int t.at_), ("winner", oV t.win), ("best", bv)]
structure TokAt (C : Addr) (H : Hp) (p : Addr) (t : TokSt) : Prop where
  ob : ∃ dx bv, H p = some (.ins C dx (tkF t bv)) ∧ BestAt H bv t.best
theorem TokAt.mono {C : Addr} {H H' : Hp} {p : Addr} {t : TokSt} (m : Same H H') (x : TokAt C H p t) : TokAt C H' p t := by
  obtain ⟨dx, bv, h1, h2⟩ := x
  exact ⟨dx, bv, m _ _ h1, h2.mono m⟩
theorem TokAt.keep {C : Addr} {H H' : Hp} {p : Addr} {t : TokSt} {ps : List Addr} (x : TokAt C H p t) (f : Fr H H' ps) (np : p ∉ ps) (nt : ∀ y, y ∈ ps → ∀ ys, H y ≠ some (.tup ys)) : TokAt C H' p t := by
  obtain ⟨dx, bv, h1, h2⟩ := x
  exact ⟨dx, bv, f _ _ h1 np, h2.keep f nt⟩
def hearT (t : TokSt) (need s : Int) : TokSt :=
  match t.best with
  | none => { t with best := some (need, s) }
  | some b => if b.1 < need then { t with best := some (need, s) } else t
def beginT (t : TokSt) : TokSt := { t with win := t.best.map (·.2), best := none }
def spTkInit (C : Addr) : Sp := fun vs H Q _ => ∃ (p dx : Addr) (n m a : Int), vs = [.ref p, .int n, .int m, .int a] ∧ H p = some (.ins C dx []) ∧
  ∀ H' : Hp, TokAt C H' p ⟨n, m, a, none, none⟩ → Fr H H' [p] → Q .non H'
def spTkStamp (C : Addr) : Sp := fun vs H Q _ => ∃ (p : Addr) (t : TokSt), vs = [.ref p] ∧ TokAt C H p t ∧
  ∀ (q : Addr) (H' : Hp), H q = none → Same H H' → H' q = some (.tup [.int t.num, .int t.mkr]) → Q (.ref q) H'
def spTkHear (C : Addr) : Sp := fun vs H Q _ => ∃ (p : Addr) (t : TokSt) (need s : Int), vs = [.ref p, .int need, .int s] ∧ TokAt C H p t ∧
  ∀ H' : Hp, TokAt C H' p (hearT t need s) → Fr H H' [p] → Q .non H'
def spTkBegin (C : Addr) : Sp := fun vs H Q _ => ∃ (p : Addr) (t : TokSt), vs = [.ref p] ∧ TokAt C H p t ∧
  ∀ H' : Hp, TokAt C H' p (beginT t) → Fr H H' [p] → Q .non H'
section
variable {P : Program} {w : World} {K : PySem.W.Frag} {mg : Str → Option Value} {base : Heap} {Z : Ad}
theorem ok_Token_init (T : Txt K mg Z) : FnOk P w K mg base CX0 1 Z.Token_init Z.Token_init_d ["self", "number", "maker", "at"] (spTkInit Z.Token) := by
  refine T.F_Token_init.ok sc_Token_init (fun vs H Q E h => ?_) (fun cdv A outer s H vs Q E hr h => ?_)
  · obtain ⟨p, dx, n, m, a, rfl, _⟩ := h
    rfl
  · obtain ⟨p, dx, n, m, a, rfl, hp, k⟩ := h
    refine ⟨_, (pss_cons (k_sfld (K := K) (pv 0) (pv 1) rfl)
      (pss_cons (k_sfld (K := K) (pv 0) (pv 2) rfl)
      (pss_cons (k_sfld (K := K) (pv 0) (pv 3) rfl)
      (pss_cons (k_sfld (K := K) (pv 0) pe_non rfl)
      (pss_one (k_sfld (K := K) (pv 0) pe_non rfl)))))), ?_⟩
    have hc := T.cl_Token
    have n1 := T.a_Token_number
    have n2 := T.a_Token_maker
    have n3 := T.a_Token_at
    have n4 := T.a_Token_winner
    have n5 := T.a_Token_best
    k_allIn
    refine k _ ⟨dx, .non, by k_memK, rfl⟩ ?_
    exact Fr.upd (Fr.upd (Fr.upd (Fr.upd (Fr.upd (Fr.refl _ _) (by simp)) (by simp)) (by simp)) (by simp)) (by simp)
theorem ok_Token_stamp (T : Txt K mg Z) : FnOk P w K mg base CX0 1 Z.Token_stamp Z.Token_stamp_d ["self"] (spTkStamp Z.Token) := by
  refine T.F_Token_stamp.ok sc_Token_stamp (fun vs H Q E h => ?_) (fun cdv A outer s H vs Q E hr h => ?_)
  · obtain ⟨p, t, rfl, _⟩ := h
    rfl
  · obtain ⟨p, t, rfl, ⟨dx, bv, hp, hb⟩, k⟩ := h
    refine ⟨_, (pss_one (ps_ret (pe_tup (pa_cons (k_fld (K := K) (pv 0) rfl) (pa_cons (k_fld (K := K) (pv 0) rfl) pa_nil))))), ?_⟩
    have hc := T.cl_Token
    have n1 := T.a_Token_number
    have n2 := T.a_Token_maker
    k_allIn
    refine w_newS (by simp) fun q H1 nq s1 e1 => ?_
    exact k q H1 nq s1 e1
theorem ok_Token_hear (T : Txt K mg Z) : FnOk P w K mg base CX0 1 Z.Token_hear Z.Token_hear_d ["self", "need", "station"] (spTkHear Z.Token) := by
  refine T.F_Token_hear.ok sc_Token_hear (fun vs H Q E h => ?_) (fun cdv A outer s H vs Q E hr h => ?_)
  · obtain ⟨p, t, need, st, rfl, _⟩ := h
    rfl
  · obtain ⟨p, t, need, st, rfl, ⟨dx, bv, hp, hb⟩, k⟩ := h
    obtain ⟨tn, tm, ta, tw, best⟩ := t
    refine ⟨_, (pss_one (ps_if (PW.pt (pw_or (pt_cmpR op_isNo (k_fld (K := K) (pv 0) rfl) pe_non (nomark _)) (pw_or1 (pt_cmpR op_gt (pv 1) (pe_ix (r := rIx K) ix_seq (k_fld (K := K) (pv 0) rfl) pe_int (fun _ _ => rfl)) (nomark _)))))
        (pss_one (k_sfld (K := K) (pv 0) (pe_tup (pa_cons (pv 1) (pa_cons (pv 2) pa_nil))) rfl))
        pss_nil)), ?_⟩
    have hc := T.cl_Token
    have n5 := T.a_Token_best
    cases best with
    | none =>
      have hb' : bv = .non := hb
      subst hb'
      k_allIn
      refine w_newS (by simp) fun q H1 nq s1 e1 => ?_
      k_allIn
      have a1 : q ≠ p := ne_of e1 (s1 _ _ hp) (by intro z; cases z)
      refine k _ ⟨dx, .ref q, by k_memK, ⟨q, rfl, by k_memK⟩⟩ (Fr.upd (Fr.of s1) (by simp))
    | some b =>
      obtain ⟨q0, hb1, hb2⟩ := hb
      subst hb1
      k_allIn
      refine ite2 (fun c => ?_) (fun c => ?_)
      · k_allIn
        refine w_newS (by simp) fun q H1 nq s1 e1 => ?_
        k_allIn
        have a1 : q ≠ p := ne_of e1 (s1 _ _ hp) (by intro z; cases z)
        refine k _ ?_ (Fr.upd (Fr.of s1) (by simp))
        have c' : b.1 < need := of_decide_eq_true c
        unfold hearT
        simp only
        rw [if_pos c']
        exact ⟨dx, .ref q, by k_memK, ⟨q, rfl, by k_memK⟩⟩
      · k_allIn
        refine k _ ?_ (Fr.refl _ _)
        have c' : ¬ b.1 < need := of_decide_eq_false (eq_false_of_ne_true c)
        unfold hearT
        simp only
        rw [if_neg c']
        exact ⟨dx, .ref q0, hp, ⟨q0, rfl, hb2⟩⟩
theorem ok_Token_begin_round (T : Txt K mg Z) : FnOk P w K mg base CX0 1 Z.Token_begin_round Z.Token_begin_round_d ["self"] (spTkBegin Z.Token) := by
  refine T.F_Token_begin_round.ok sc_Token_begin_round (fun vs H Q E h => ?_) (fun cdv A outer s H vs Q E hr h => ?_)
  · obtain ⟨p, t, rfl, _⟩ := h
    rfl
  · obtain ⟨p, t, rfl, ⟨dx, bv, hp, hb⟩, k⟩ := h
    obtain ⟨tn, tm, ta, tw, best⟩ := t
    refine ⟨_, (pss_cons (k_sfld (K := K) (pv 0) pe_non rfl)
      (pss_cons (ps_if (pt_cmpR op_notNo (k_fld (K := K) (pv 0) rfl) pe_non (nomark _))
        (pss_one (k_sfld (K := K) (pv 0) (pe_ix (r := rIx K) ix_seq (k_fld (K := K) (pv 0) rfl) pe_int (fun _ _ => rfl)) rfl))
        pss_nil)
      (pss_one (k_sfld (K := K) (pv 0) pe_non rfl)))), ?_⟩
    have hc := T.cl_Token
    have n4 := T.a_Token_winner
    have n5 := T.a_Token_best
    cases best with
    | none =>
      have hb' : bv = .non := hb
      subst hb'
      k_allIn
      exact k _ ⟨dx, .non, by k_memK, rfl⟩ (Fr.upd (Fr.upd (Fr.refl _ _) (by simp)) (by simp))
    | some b =>
      obtain ⟨q0, hb1, hb2⟩ := hb
      subst hb1
      have a1 : q0 ≠ p := ne_of hb2 hp (by intro z; cases z)
      k_allIn
      exact k _ ⟨dx, .non, by k_memK, rfl⟩ (Fr.upd (Fr.upd (Fr.upd (Fr.refl _ _) (by simp)) (by simp)) (by simp))
end
def spLaw (K : PySem.W.Frag) : Sp := fun vs H Q _ => ∃ (a : Addr) (ns : List Int), vs = [.ref a] ∧ SqL K H a (ns.map V.int) ∧ ns.length ≤ 63 ∧ ∀ H', Q (.bl true) H'
theorem BestAt.rp {H : Hp} {v : V} {b : Option (Int × Int)} (h : BestAt H v b) : ∃ d : PyData, okD d = true ∧ d.depth ≤ 1 ∧ ∀ v', BestAt H v' b → Rp H v' d := by
  cases b with
  | none => exact ⟨.none, rfl, by decide, fun v' h' => by have e : v' = .non := h'; subst e; exact .non⟩
  | some b => exact ⟨.tuple [.int b.1, .int b.2], rfl, by simp [PyData.depth, PyData.depthAll], fun v' ⟨a, e, h'⟩ => by subst e; exact .tup h' (.cons (.int _) (.cons (.int _) .nil))⟩
theorem same_best {H : Hp} {v v' : V} {b : Option (Int × Int)} {n : Nat} (h : BestAt H v b) (h' : BestAt H v' b) : SameV (n + 2) H v v' := by
  obtain ⟨d, h1, h2, h3⟩ := h.rp
  exact Rp.same d v v' h1 (h3 _ h) (h3 _ h') _ (by omega)
theorem same_oV {H : Hp} {o : Option Int} {n : Nat} : SameV (n + 1) H (oV o) (oV o) := by
  cases o with
  | none => exact SameV.non
  | some i => exact SameV.int i
theorem two (b0 b1 z : Int) : ∃ y, atI [V.int b0, V.int b1] (z % 2) = some (.int y) := by
  have h : z % 2 = 0 ∨ z % 2 = 1 := by omega
  rcases h with h | h <;> rw [h] <;> exact ⟨_, rfl⟩
section
variable {P : Program} {w : World} {K : PySem.W.Frag} {mg : Str → Option Value} {base : Heap} {Z : Ad}
theorem ok_law (T : Txt K mg Z) : FnOk P w K mg base CX0 4 Z.law Z.law_d ["_law_script"] (spLaw K) := by
  have G_Token_init := ok_Token_init (P := P) (w := w) (base := base) T
  have G_Token_stamp := ok_Token_stamp (P := P) (w := w) (base := base) T
  have G_Token_hear := ok_Token_hear (P := P) (w := w) (base := base) T
  have G_Token_begin_round := ok_Token_begin_round (P := P) (w := w) (base := base) T
  have G_law_mixed := ok_law_mixed (P := P) (w := w) (base := base) T
  have G_law_cell_at := ok_law_cell_at (P := P) (w := w) (base := base) T
  have G_law_same := ok_law_same (P := P) (w := w) (base := base) T 2
  refine T.F_law.ok sc_law (fun vs H Q E h => ?_) (fun cdv A outer s H vs Q E hr h => ?_)
  · obtain ⟨a, ns, rfl, _⟩ := h
    rfl
  · obtain ⟨a, ns, rfl, hS, hl, k⟩ := h
    refine ⟨_, (pss_cons (ps_set (i := 1) sc_law.nd rfl (Or.inl rfl) (pe_op op_add pe_int (pe_op op_mod (pe_call G_law_cell_at (hr.mono (by omega)) rfl T.g_law_cell_at T.F_law_cell_at.kp T.b_law_cell_at .nil pass0 (pa_cons (pv 0) (pa_cons pe_int pa_nil))) (pe_op op_pow pe_int pe_int))))
      (pss_cons (ps_set (i := 2) sc_law.nd rfl (Or.inl rfl) (pe_op op_mod (pe_call G_law_cell_at (hr.mono (by omega)) rfl T.g_law_cell_at T.F_law_cell_at.kp T.b_law_cell_at .nil pass0 (pa_cons (pv 0) (pa_cons pe_int pa_nil))) pe_int))
      (pss_cons (ps_set (i := 3) sc_law.nd rfl (Or.inl rfl) (pe_op op_mod (pe_call G_law_cell_at (hr.mono (by omega)) rfl T.g_law_cell_at T.F_law_cell_at.kp T.b_law_cell_at .nil pass0 (pa_cons (pv 0) (pa_cons pe_int pa_nil))) pe_int))
      (pss_cons (ps_set (i := 4) sc_law.nd rfl (Or.inl rfl) (pe_make T.M_Token G_Token_init (hr.mono (by omega)) rfl T.g_Token T.b_Token_init .nil pass0 (pa_cons (pv 1) (pa_cons (pv 2) (pa_cons (pv 3) pa_nil)))))
      (pss_cons (ps_set (i := 5) sc_law.nd rfl (Or.inl rfl) pe_non)
      (pss_cons (ps_set (i := 6) sc_law.nd rfl (Or.inl rfl) pe_non)
      (pss_cons (ps_for PassesOwn.never rfl (pi_range2 (by rfl) T.n_range (pa_cons pe_int (pa_cons (pe_callB (call_min2 rfl) (by rfl) T.n_min (by decide +kernel) (pa_cons (pe_callB (r := rLenS K) call_lenS (by rfl) T.n_len PySem.boot_len (pa_cons (pv 0) pa_nil)) (pa_cons pe_int pa_nil))) pa_nil))) (pg_name (i := 7) sc_law.nd rfl (Or.inl rfl))
        (pss_cons (ps_set (i := 8) sc_law.nd rfl (Or.inl rfl) (pe_call G_law_mixed (hr.mono (by omega)) rfl T.g_law_mixed T.F_law_mixed.kp T.b_law_mixed .nil pass0 (pa_cons (pe_ix (r := rIx K) ix_seq (pv 0) (pv 7) (fun _ _ => rfl)) (pa_cons (pv 7) pa_nil))))
        (Evl.pss_cut (ps_if (pt_cmpR op_eq (pe_op op_mod (pv 8) pe_int) pe_int (nomark _))
          (pss_cons (ps_if (pt_cmpR op_notNo (pe_meth0 (pv 4) T.cl_Token T.m_Token_begin_round G_Token_begin_round (hr.mono (by omega)) T.b_Token_begin_round .nil pass0) pe_non (nomark _))
            (pss_one (ps_ret pe_bl))
            pss_nil)
          (pss_cons (ps_set (i := 6) sc_law.nd rfl (Or.inl rfl) pe_non)
          (pss_cons (ps_if (pt_cmpR op_notNo (pv 5) pe_non (nomark _))
            (pss_one (ps_set (i := 6) sc_law.nd rfl (Or.inl rfl) (pe_ix (r := rIx K) ix_seq (pv 5) pe_int (fun _ _ => rfl))))
            pss_nil)
          (pss_one (ps_set (i := 5) sc_law.nd rfl (Or.inl rfl) pe_non)))))
          (pss_cons (ps_set (i := 9) sc_law.nd rfl (Or.inl rfl) (pe_ix (r := rIx K) ix_seq (pe_lst (pa_cons (pe_op op_mod (pe_op op_fdiv (pv 8) pe_int) pe_int) (pa_cons (pe_op op_mod (pe_ix (r := rIx K) ix_seq (pv 0) (pv 7) (fun _ _ => rfl)) (pe_op op_pow pe_int pe_int)) pa_nil))) (pe_op op_mod (pe_op op_fdiv (pv 8) pe_int) pe_int) (fun _ _ => rfl)))
          (pss_cons (ps_if (pt_cmpR op_notNo (pe_meth (pv 4) T.cl_Token T.m_Token_hear G_Token_hear (hr.mono (by omega)) T.b_Token_hear .nil pass0 (pa_cons (pv 9) (pa_cons (pe_op op_mod (pe_op op_fdiv (pv 8) pe_int) pe_int) pa_nil))) pe_non (nomark _))
            (pss_one (ps_ret pe_bl))
            pss_nil)
          (pss_one (ps_if (PW.pt (pw_or (pt_cmpR op_isNo (pv 5) pe_non (nomark _)) (pw_or1 (pt_cmpR op_gt (pv 9) (pe_ix (r := rIx K) ix_seq (pv 5) pe_int (fun _ _ => rfl)) (nomark _)))))
            (pss_one (ps_set (i := 5) sc_law.nd rfl (Or.inl rfl) (pe_tup (pa_cons (pv 9) (pa_cons (pe_op op_mod (pe_op op_fdiv (pv 8) pe_int) pe_int) pa_nil)))))
            pss_nil)))))
        (pss_one (ps_if (PW.pt (pw_or (pt_not (k_tr (K := K) (pe_call G_law_same (hr.mono (by omega)) rfl T.g_law_same T.F_law_same.kp T.b_law_same .nil pass0 (pa_cons (k_fld (K := K) (pv 4) rfl) (pa_cons (pv 5) pa_nil))) (fun _ => rfl))) (pw_or1 (pt_not (k_tr (K := K) (pe_call G_law_same (hr.mono (by omega)) rfl T.g_law_same T.F_law_same.kp T.b_law_same .nil pass0 (pa_cons (k_fld (K := K) (pv 4) rfl) (pa_cons (pv 6) pa_nil))) (fun _ => rfl))))))
          (pss_one (ps_ret pe_bl))
          pss_nil)))))
      (pss_cons (ps_if (pt_not (k_tr (K := K) (pe_call G_law_same (hr.mono (by omega)) rfl T.g_law_same T.F_law_same.kp T.b_law_same .nil pass0 (pa_cons (pe_meth0 (pv 4) T.cl_Token T.m_Token_stamp G_Token_stamp (hr.mono (by omega)) T.b_Token_stamp .nil pass0) (pa_cons (pe_tup (pa_cons (pv 1) (pa_cons (pv 2) pa_nil))) pa_nil))) (fun _ => rfl)))
        (pss_one (ps_ret pe_bl))
        pss_nil)
      (pss_one (ps_ret (pe_and (pe_cmpR op_eq (k_fld (K := K) (pv 4) rfl) (pv 1) (nomark _)) (pe_and (pe_cmpR op_eq (k_fld (K := K) (pv 4) rfl) (pv 2) (nomark _)) (pe_one (pe_cmpR op_eq (k_fld (K := K) (pv 4) rfl) (pv 3) (nomark _))))))))))))))), ?_⟩
    k_allIn
    refine ⟨a, ns, 0, rfl, hS, ?_⟩
    k_allIn
    refine ⟨a, ns, 1, rfl, hS, ?_⟩
    k_allIn
    refine ⟨a, ns, 2, rfl, hS, ?_⟩
    k_allIn
    generalize 1 + ns.getD 0 0 % 10 ^ Int.toNat 12 = num
    generalize ns.getD 1 0 % 12 = mkr
    generalize ns.getD 2 0 % 12 = plc
    refine fun p dp np nd _ => ⟨p, dp, _, _, _, rfl, upd_same, fun H1 tk1 fr1 => ⟨rfl, ?_⟩⟩
    have s1 : Same H H1 := Fr.same (same_born np nd) fr1 (fun x m => by cases List.mem_singleton.mp m; exact np)
    have hS1 := s1.seq hS
    k_allIn
    refine ⟨_, _, rfl, ?_⟩
    rw [List.length_map]
    have hb : (if (33 : Int) < (ns.length : Int) then (33 : Int) else (ns.length : Int)) ≤ 33 := by
      by_cases c : (33 : Int) < (ns.length : Int)
      · rw [if_pos c]; omega
      · rw [if_neg c]; omega
    have hb2 : (if (33 : Int) < (ns.length : Int) then (33 : Int) else (ns.length : Int)) ≤ ns.length := by
      by_cases c : (33 : Int) < (ns.length : Int)
      · rw [if_pos c]; omega
      · rw [if_neg c]; omega
    have hb3 : 0 ≤ (if (33 : Int) < (ns.length : Int) then (33 : Int) else (ns.length : Int)) := by
      by_cases c : (33 : Int) < (ns.length : Int)
      · rw [if_pos c]; omega
      · rw [if_neg c]; omega
    generalize (if (33 : Int) < (ns.length : Int) then (33 : Int) else (ns.length : Int)) = top at *
    k_allIn
    refine for_range (fun i σ H' => ∃ (t : TokSt) (bv : V) (v7 v8 v9 : Option V), σ = [some (.ref a), some (.int num), some (.int mkr), some (.int plc), some (.ref p), some bv, some (oV t.win), v7, v8, v9] ∧
      t.num = num ∧ t.mkr = mkr ∧ t.at_ = plc ∧ Same H H' ∧ TokAt Z.Token H' p t ∧ BestAt H' bv t.best) ⟨⟨num, mkr, plc, none, none⟩, .non, none, none, none, rfl, rfl, rfl, rfl, s1, tk1, rfl⟩ ?_ ?_
    · rintro i σ H' hi ⟨t, bv, v7, v8, v9, rfl, en, em, ea, s0, tk, bt⟩
      have hin : i + 3 < ns.length := by omega
      have hat : ∀ H2, Same H H2 → SqL K H2 a (ns.map V.int) := fun H2 s => s.seq hS
      have hai : atI (ns.map V.int) (3 + (i : Int)) = some (.int ns[i + 3]) := at_of (j := i + 3) (by omega) (by rw [List.getElem?_map, List.getElem?_eq_getElem hin]; rfl)
      k_allIn
      refine w_ixL (hat _ s0) hai ?_
      k_allIn
      refine ⟨_, _, rfl, by omega, by omega, ?_⟩
      k_allIn
      generalize mix ns[i + 3] (3 + (i : Int)) = pick at *
      obtain ⟨dx, bv', hp, hb'⟩ := id tk.ob
      refine ⟨fun σ' H2 => ∃ (t : TokSt) (bv : V) (v9 : Option V), σ' = [some (.ref a), some (.int num), some (.int mkr), some (.int plc), some (.ref p), some bv, some (oV t.win), some (.int (3 + (i : Int))), some (.int pick), v9] ∧
        t.num = num ∧ t.mkr = mkr ∧ t.at_ = plc ∧ Same H H2 ∧ TokAt Z.Token H2 p t ∧ BestAt H2 bv t.best, ?_, ?_⟩
      · k_allIn
        refine ite2 (fun c1 => ?_) (fun c1 => ?_)
        · k_allIn
          refine ⟨p, t, rfl, tk, fun H2 tk2 fr2 => ?_⟩
          have s2 : Same H H2 := Fr.same s0 fr2 (fun x m => by cases List.mem_singleton.mp m; exact np)
          have b2 : BestAt H2 bv t.best := bt.keep fr2 fun y m ys => by cases List.mem_singleton.mp m; rw [hp]; intro z; cases z
          k_allIn
          cases hbest : t.best with
          | none =>
            rw [hbest] at b2
            have e : bv = .non := b2
            subst e
            k_allIn
            refine ⟨beginT t, .non, v9, ?_, en, em, ea, s2, tk2, rfl⟩
            unfold beginT
            rw [hbest]
            rfl
          | some b =>
            rw [hbest] at b2
            obtain ⟨q, e, hq⟩ := b2
            subst e
            k_allIn
            refine ⟨beginT t, .non, v9, ?_, en, em, ea, s2, tk2, rfl⟩
            unfold beginT
            rw [hbest]
            rfl
        · k_allIn
          refine w_ixL (hat _ s0) hai ?_
          k_allIn
          refine w_newS (by simp) fun l H2 nl s2 e2 => ?_
          k_allIn
          obtain ⟨need, hneed⟩ := two (pick / 4 % 10) (ns[i + 3] % 10 ^ Int.toNat 9) (pick / 64)
          refine w_ixL (SqL.of e2) hneed ?_
          k_allIn
          refine ⟨p, t, need, pick / 128 % 12, rfl, tk.mono s2, fun H3 tk3 fr3 => ?_⟩
          have s3 : Same H H3 := Fr.same (s0.trans s2) fr3 (fun x m => by cases List.mem_singleton.mp m; exact np)
          have b3 : BestAt H3 bv t.best := (bt.mono s2).keep fr3 fun y m ys => by cases List.mem_singleton.mp m; rw [s2 _ _ hp]; intro z; cases z
          k_allIn
          cases hbest : t.best with
          | none =>
            rw [hbest] at b3
            have e : bv = .non := b3
            subst e
            k_allIn
            refine w_newS (by simp) fun q H4 nq s4 e4 => ?_
            k_allIn
            have ht : hearT t need (pick / 128 % 12) = { t with best := some (need, pick / 128 % 12) } := by unfold hearT; rw [hbest]
            rw [ht] at tk3
            exact ⟨{ t with best := some (need, pick / 128 % 12) }, .ref q, _, rfl, en, em, ea, s3.trans s4, tk3.mono s4, ⟨q, rfl, e4⟩⟩
          | some b =>
            rw [hbest] at b3
            obtain ⟨q, e, hq⟩ := b3
            subst e
            k_allIn
            refine ite2 (fun c => ?_) (fun c => ?_)
            · k_allIn
              refine w_newS (by simp) fun q H4 nq s4 e4 => ?_
              k_allIn
              have c' : b.1 < need := of_decide_eq_true c
              have ht : hearT t need (pick / 128 % 12) = { t with best := some (need, pick / 128 % 12) } := by unfold hearT; rw [hbest]; exact if_pos c'
              rw [ht] at tk3
              exact ⟨{ t with best := some (need, pick / 128 % 12) }, .ref q, _, rfl, en, em, ea, s3.trans s4, tk3.mono s4, ⟨q, rfl, e4⟩⟩
            · k_allIn
              have c' : ¬ b.1 < need := of_decide_eq_false (eq_false_of_ne_true c)
              have ht : hearT t need (pick / 128 % 12) = t := by unfold hearT; rw [hbest]; exact if_neg c'
              rw [ht] at tk3
              refine ⟨_, .ref q, _, rfl, en, em, ea, s3, tk3, ?_⟩
              rw [hbest]
              exact ⟨q, rfl, hq⟩
      · rintro σ' H2 ⟨t, bv, v9, rfl, en, em, ea, s2, tk2, b2⟩
        obtain ⟨dx, bv', hp, hb'⟩ := id tk2.ob
        have hc := T.cl_Token
        have n4 := T.a_Token_winner
        have n5 := T.a_Token_best
        k_allIn
        refine ⟨_, _, rfl, same_best hb' b2, fun H3 s3 => ?_⟩
        have hp3 := s3 _ _ hp
        k_allIn
        refine ⟨_, _, rfl, same_oV, fun H4 s4 => ?_⟩
        k_allIn
        exact ⟨t, bv, _, _, _, rfl, en, em, ea, (s2.trans s3).trans s4, (tk2.mono s3).mono s4, (b2.mono s3).mono s4⟩
    · rintro σ H2 ⟨t, bv, v7, v8, v9, rfl, en, em, ea, s2, tk2, b2⟩
      obtain ⟨dx, bv', hp, hb'⟩ := id tk2.ob
      have hc := T.cl_Token
      have n1 := T.a_Token_number
      have n2 := T.a_Token_maker
      have n3 := T.a_Token_at
      subst en
      subst em
      subst ea
      k_allIn
      refine ⟨p, t, rfl, tk2, fun q H3 nq s3 e3 => ?_⟩
      k_allIn
      refine w_newS (by simp) fun q' H4 nq' s4 e4 => ?_
      k_allIn
      have r : ∀ x, H4 x = some (.tup [.int t.num, .int t.mkr]) → Rp H4 (.ref x) (.tuple [.int t.num, .int t.mkr]) := fun x e => .tup e (.cons (.int _) (.cons (.int _) .nil))
      refine ⟨_, _, rfl, Rp.same (.tuple [.int t.num, .int t.mkr]) _ _ rfl (r _ (s4 _ _ e3)) (r _ e4) 2 (by simp [PyData.depth, PyData.depthAll]), fun H5 s5 => ?_⟩
      have hp5 : H5 p = _ := s5 _ _ (s4 _ _ (s3 _ _ hp))
      k_allIn
      rw [decide_eq_true rfl]
      exact k _
end
theorem all_mk {l : PySem.W.OpenLaw} {w : World} {K : PySem.W.Frag} {h : Heap} {mg : Str → Option Value} {fa C_Token f0 f1 f2 f3 f4 f5 f6 f7 f8 : Addr} (X : K.In h) (G : h.Ns mainGlobals mg) (hfa : mg "law" = some (.ref fa))
    {od0 an0 : Option Addr} {sl0 : Array (Option Value)} {oc0 kV0 dc0 pm0 cd0 ct0 : Value} {od1 an1 : Option Addr} {sl1 : Array (Option Value)} {oc1 kV1 dc1 pm1 cd1 ct1 : Value} {od2 an2 : Option Addr} {sl2 : Array (Option Value)} {oc2 kV2 dc2 pm2 cd2 ct2 : Value} {od3 an3 : Option Addr} {sl3 : Array (Option Value)} {oc3 kV3 dc3 pm3 cd3 ct3 : Value} {od4 an4 : Option Addr} {sl4 : Array (Option Value)} {oc4 kV4 dc4 pm4 cd4 ct4 : Value} {od5 an5 : Option Addr} {sl5 : Array (Option Value)} {oc5 kV5 dc5 pm5 cd5 ct5 : Value} {od6 an6 : Option Addr} {sl6 : Array (Option Value)} {oc6 kV6 dc6 pm6 cd6 ct6 : Value} {od7 an7 : Option Addr} {sl7 : Array (Option Value)} {oc7 kV7 dc7 pm7 cd7 ct7 : Value} {od8 an8 : Option Addr} {sl8 : Array (Option Value)} {oc8 kV8 dc8 pm8 cd8 ct8 : Value}
    (aC_Token : PySem.W.nsIn K mainGlobals "Token" = some (some (.ref C_Token)))
    (a0 : PySem.W.findIn K (.ref C_Token) "__init__" = some (some (.ref f0)))
    (i0 : PySem.W.isFn K (.ref f0) = true)
    (l0 : K.lookup f0 = some ⟨oc0, od0, .func (PySem.W.fnOf "__init__" "Token.__init__" (defArgs s_Token_init) (defBody s_Token_init) (defScope s_Token_init) .none kV0 dc0 pm0 an0 cd0 ct0), sl0⟩)
    (c0 : PySem.W.codeIn K cd0 "Token.__init__" = true)
    (k0 : PySem.W.keepIn K (.ref f0) = true)
    (a1 : PySem.W.findIn K (.ref C_Token) "stamp" = some (some (.ref f1)))
    (i1 : PySem.W.isFn K (.ref f1) = true)
    (l1 : K.lookup f1 = some ⟨oc1, od1, .func (PySem.W.fnOf "stamp" "Token.stamp" (defArgs s_Token_stamp) (defBody s_Token_stamp) (defScope s_Token_stamp) .none kV1 dc1 pm1 an1 cd1 ct1), sl1⟩)
    (c1 : PySem.W.codeIn K cd1 "Token.stamp" = true)
    (k1 : PySem.W.keepIn K (.ref f1) = true)
    (a2 : PySem.W.findIn K (.ref C_Token) "hear" = some (some (.ref f2)))
    (i2 : PySem.W.isFn K (.ref f2) = true)
    (l2 : K.lookup f2 = some ⟨oc2, od2, .func (PySem.W.fnOf "hear" "Token.hear" (defArgs s_Token_hear) (defBody s_Token_hear) (defScope s_Token_hear) .none kV2 dc2 pm2 an2 cd2 ct2), sl2⟩)
    (c2 : PySem.W.codeIn K cd2 "Token.hear" = true)
    (k2 : PySem.W.keepIn K (.ref f2) = true)
    (a3 : PySem.W.findIn K (.ref C_Token) "begin_round" = some (some (.ref f3)))
    (i3 : PySem.W.isFn K (.ref f3) = true)
    (l3 : K.lookup f3 = some ⟨oc3, od3, .func (PySem.W.fnOf "begin_round" "Token.begin_round" (defArgs s_Token_begin_round) (defBody s_Token_begin_round) (defScope s_Token_begin_round) .none kV3 dc3 pm3 an3 cd3 ct3), sl3⟩)
    (c3 : PySem.W.codeIn K cd3 "Token.begin_round" = true)
    (k3 : PySem.W.keepIn K (.ref f3) = true)
    (a4 : PySem.W.nsIn K mainGlobals "_law_whole" = some (some (.ref f4)))
    (l4 : K.lookup f4 = some ⟨oc4, od4, .func (PySem.W.fnOf "_law_whole" "_law_whole" (defArgs s_law_whole) (defBody s_law_whole) (defScope s_law_whole) .none kV4 dc4 pm4 an4 cd4 ct4), sl4⟩)
    (c4 : PySem.W.codeIn K cd4 "_law_whole" = true)
    (k4 : PySem.W.keepIn K (.ref f4) = true)
    (a5 : PySem.W.nsIn K mainGlobals "_law_cell_at" = some (some (.ref f5)))
    (l5 : K.lookup f5 = some ⟨oc5, od5, .func (PySem.W.fnOf "_law_cell_at" "_law_cell_at" (defArgs s_law_cell_at) (defBody s_law_cell_at) (defScope s_law_cell_at) .none kV5 dc5 pm5 an5 cd5 ct5), sl5⟩)
    (c5 : PySem.W.codeIn K cd5 "_law_cell_at" = true)
    (k5 : PySem.W.keepIn K (.ref f5) = true)
    (a6 : PySem.W.nsIn K mainGlobals "_law_mixed" = some (some (.ref f6)))
    (l6 : K.lookup f6 = some ⟨oc6, od6, .func (PySem.W.fnOf "_law_mixed" "_law_mixed" (defArgs s_law_mixed) (defBody s_law_mixed) (defScope s_law_mixed) .none kV6 dc6 pm6 an6 cd6 ct6), sl6⟩)
    (c6 : PySem.W.codeIn K cd6 "_law_mixed" = true)
    (k6 : PySem.W.keepIn K (.ref f6) = true)
    (a7 : PySem.W.nsIn K mainGlobals "_law_same" = some (some (.ref f7)))
    (l7 : K.lookup f7 = some ⟨oc7, od7, .func (PySem.W.fnOf "_law_same" "_law_same" (defArgs s_law_same) (defBody s_law_same) (defScope s_law_same) .none kV7 dc7 pm7 an7 cd7 ct7), sl7⟩)
    (c7 : PySem.W.codeIn K cd7 "_law_same" = true)
    (k7 : PySem.W.keepIn K (.ref f7) = true)
    (a8 : PySem.W.nsIn K mainGlobals "law" = some (some (.ref f8)))
    (l8 : K.lookup f8 = some ⟨oc8, od8, .func (PySem.W.fnOf "law" "law" (defArgs s_law) (defBody s_law) (defScope s_law) .none kV8 dc8 pm8 an8 cd8 ct8), sl8⟩)
    (c8 : PySem.W.codeIn K cd8 "law" = true)
    (k8 : PySem.W.keepIn K (.ref f8) = true)
    (pg_Token : PySem.W.plainGet K C_Token Str.empty = true)
    (hd_Token : PySem.W.hasDictIn K C_Token = true)
    (po_Token : PySem.W.plainOver K C_Token = true)
    (sa_Token : PySem.W.findIn K (.ref C_Token) "__setattr__" = some (some (.builtin "object.__setattr__")))
    (mk_Token : PySem.W.makesIn K C_Token = true)
    (kc_Token : PySem.W.keepIn K (.ref C_Token) = true)
    (no_Token_number : PySem.W.findIn K (.ref C_Token) "number" = some none)
    (no_Token_maker : PySem.W.findIn K (.ref C_Token) "maker" = some none)
    (no_Token_at : PySem.W.findIn K (.ref C_Token) "at" = some none)
    (no_Token_winner : PySem.W.findIn K (.ref C_Token) "winner" = some none)
    (no_Token_best : PySem.W.findIn K (.ref C_Token) "best" = some none)
    (z_all : PySem.W.nsIn K mainGlobals "all" = some none)
    (z_bool : PySem.W.nsIn K mainGlobals "bool" = some none)
    (z_int : PySem.W.nsIn K mainGlobals "int" = some none)
    (z_isinstance : PySem.W.nsIn K mainGlobals "isinstance" = some none)
    (z_len : PySem.W.nsIn K mainGlobals "len" = some none)
    (z_list : PySem.W.nsIn K mainGlobals "list" = some none)
    (z_min : PySem.W.nsIn K mainGlobals "min" = some none)
    (z_range : PySem.W.nsIn K mainGlobals "range" = some none)
    (z_str : PySem.W.nsIn K mainGlobals "str" = some none)
    (z_tuple : PySem.W.nsIn K mainGlobals "tuple" = some none) :
    ∃ fd : FuncData, (∀ (s : Shared) (v : Value), BindsTo s fd ⟨[v], []⟩ [("_law_script", v)]) ∧ ∀ base : Heap, K.In base → base.Ns mainGlobals mg → FnOk l.prog w K mg base CX0 4 fa fd ["_law_script"] (spLaw K) := by
  have e := hfa.symm.trans (PySem.W.mg_of X G a8)
  cases e
  have F0 := fun_mk (st := s_Token_init) l0 c0 k0
  have F1 := fun_mk (st := s_Token_stamp) l1 c1 k1
  have F2 := fun_mk (st := s_Token_hear) l2 c2 k2
  have F3 := fun_mk (st := s_Token_begin_round) l3 c3 k3
  have F4 := fun_mk (st := s_law_whole) l4 c4 k4
  have F5 := fun_mk (st := s_law_cell_at) l5 c5 k5
  have F6 := fun_mk (st := s_law_mixed) l6 c6 k6
  have F7 := fun_mk (st := s_law_same) l7 c7 k7
  have F8 := fun_mk (st := s_law) l8 c8 k8
  have b0 := F0.binds (ps := ["self", "number", "maker", "at"]) fun _ _ _ _ _ _ us hl => match us, hl with | [_, _, _, _], _ => rfl
  have b1 := F1.binds (ps := ["self"]) fun _ _ _ _ _ _ us hl => match us, hl with | [_], _ => rfl
  have b2 := F2.binds (ps := ["self", "need", "station"]) fun _ _ _ _ _ _ us hl => match us, hl with | [_, _, _], _ => rfl
  have b3 := F3.binds (ps := ["self"]) fun _ _ _ _ _ _ us hl => match us, hl with | [_], _ => rfl
  have b4 := F4.binds (ps := ["_law_found"]) fun _ _ _ _ _ _ us hl => match us, hl with | [_], _ => rfl
  have b5 := F5.binds (ps := ["_law_script", "_law_k"]) fun _ _ _ _ _ _ us hl => match us, hl with | [_, _], _ => rfl
  have b6 := F6.binds (ps := ["_law_cell", "_law_k"]) fun _ _ _ _ _ _ us hl => match us, hl with | [_, _], _ => rfl
  have b7 := F7.binds (ps := ["_law_found", "_law_due"]) fun _ _ _ _ _ _ us hl => match us, hl with | [_, _], _ => rfl
  have b8 := F8.binds (ps := ["_law_script"]) fun _ _ _ _ _ _ us hl => match us, hl with | [_], _ => rfl
  have T : Txt K mg ⟨C_Token, _, _, _, _, _, _, _, _, _, _, _, _, _, _, _, _, _, _⟩ := ⟨F0, b0, F1, b1, ⟨a1, i1, k1⟩, F2, b2, ⟨a2, i2, k2⟩, F3, b3, ⟨a3, i3, k3⟩, F4, b4, PySem.W.mg_of X G a4, F5, b5, PySem.W.mg_of X G a5, F6, b6, PySem.W.mg_of X G a6, F7, b7, PySem.W.mg_of X G a7, F8, b8, PySem.W.mg_of X G a8, PySem.W.mg_of X G aC_Token, ⟨pg_Token, hd_Token, po_Token, sa_Token⟩, ⟨mk_Token, a0, i0, kc_Token⟩, no_Token_number, no_Token_maker, no_Token_at, no_Token_winner, no_Token_best, PySem.W.mg_none_of X G z_all, PySem.W.mg_none_of X G z_bool, PySem.W.mg_none_of X G z_int, PySem.W.mg_none_of X G z_isinstance, PySem.W.mg_none_of X G z_len, PySem.W.mg_none_of X G z_list, PySem.W.mg_none_of X G z_min, PySem.W.mg_none_of X G z_range, PySem.W.mg_none_of X G z_str, PySem.W.mg_none_of X G z_tuple⟩
  exact ⟨PySem.W.fnOf "law" "law" (defArgs s_law) (defBody s_law) (defScope s_law) .none kV8 dc8 pm8 an8 cd8 ct8, fun s v => .of_eq rfl, fun base _ _ => ok_law T⟩
end Pr
open PySem PySem.W PyProof.Rows
set_option maxRecDepth 100000 in
set_option maxHeartbeats 0 in
theorem PySem.Challenge.cw_passring_k03_a_token_holds : PySem.Challenge.rw_passring_k03_a_token.Holds := by
  w_on; o_law; k_head; (case hw => w_witness2)
  k_fill
  refine L2.walk_of (l := PySem.Challenge.rw_passring_k03_a_token) (n := 63) (k := 4) (x := "_law_script") (CX := fun _ => L2.CX0) (sp := fun w => Pr.spLaw _) rfl (by decide) rfl ⟨rfl, by decide, by decide⟩ (fun w h Y => PySem.W.kIn_of Y) ?F (fun _ _ a ns hl _ hS => ⟨a, ns, rfl, hS, hl, fun _ => rfl⟩) (fun _ _ _ _ _ h => h)
  case F =>
    intro w mg fa h KX G hmg
    refine' Pr.all_mk KX G hmg ?aC_Token ?a0 ?i0 ?l0 ?c0 ?k0 ?a1 ?i1 ?l1 ?c1 ?k1 ?a2 ?i2 ?l2 ?c2 ?k2 ?a3 ?i3 ?l3 ?c3 ?k3 ?a4 ?l4 ?c4 ?k4 ?a5 ?l5 ?c5 ?k5 ?a6 ?l6 ?c6 ?k6 ?a7 ?l7 ?c7 ?k7 ?a8 ?l8 ?c8 ?k8 ?pg_Token ?hd_Token ?po_Token ?sa_Token ?mk_Token ?kc_Token ?no_Token_number ?no_Token_maker ?no_Token_at ?no_Token_winner ?no_Token_best ?z_all ?z_bool ?z_int ?z_isinstance ?z_len ?z_list ?z_min ?z_range ?z_str ?z_tuple
    (case aC_Token => k_is)
    (case a0 => k_is)
    (case i0 => k_is)
    (case l0 => k_is)
    (case c0 => k_is)
    (case k0 => k_is)
    (case a1 => k_is)
    (case i1 => k_is)
    (case l1 => k_is)
    (case c1 => k_is)
    (case k1 => k_is)
    (case a2 => k_is)
    (case i2 => k_is)
    (case l2 => k_is)
    (case c2 => k_is)
    (case k2 => k_is)
    (case a3 => k_is)
    (case i3 => k_is)
    (case l3 => k_is)
    (case c3 => k_is)
    (case k3 => k_is)
    (case a4 => k_is)
    (case l4 => k_is)
    (case c4 => k_is)
    (case k4 => k_is)
    (case a5 => k_is)
    (case l5 => k_is)
    (case c5 => k_is)
    (case k5 => k_is)
    (case a6 => k_is)
    (case l6 => k_is)
    (case c6 => k_is)
    (case k6 => k_is)
    (case a7 => k_is)
    (case l7 => k_is)
    (case c7 => k_is)
    (case k7 => k_is)
    (case a8 => k_is)
    (case l8 => k_is)
    (case c8 => k_is)
    (case k8 => k_is)
    (case pg_Token => k_is)
    (case hd_Token => k_is)
    (case po_Token => k_is)
    (case sa_Token => k_is)
    (case mk_Token => k_is)
    (case kc_Token => k_is)
    (case no_Token_number => k_is)
    (case no_Token_maker => k_is)
    (case no_Token_at => k_is)
    (case no_Token_winner => k_is)
    (case no_Token_best => k_is)
    (case z_all => k_is)
    (case z_bool => k_is)
    (case z_int => k_is)
    (case z_isinstance => k_is)
    (case z_len => k_is)
    (case z_list => k_is)
    (case z_min => k_is)
    (case z_range => k_is)
    (case z_str => k_is)
    (case z_tuple => k_is)

