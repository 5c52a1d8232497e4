import PyProof.Rows.All
import Wide.All
import OpenK.AllK
import Wide.FinOn
import HandS.ForMost
import HandS.IsInst
import HandS.TupLe
import KE.DataCmp
import KE.SortData
import PySem.Challenge.RW_passring_k01_rules
set_option Elab.async false
set_option maxRecDepth 100000
set_option maxHeartbeats 4000000
namespace Pr
open PySem L2
/-! ### my own short words -/
theorem upd_other {H : Hp} {a p : Addr} {o x : HO} (h : H a = some x) (n : H p = Option.none) : upd H p o a = some x := by rw [upd_ne (ne_of_none h n)]; exact h
theorem upd_at {H : Hp} {a p : Addr} {o x : HO} (h : H a = some x) (n : a ≠ p) : upd H p o a = some x := by rw [upd_ne n]; exact h
theorem upd_free {H : Hp} {a p : Addr} {o : HO} (h : H a = Option.none) (n : a ≠ p) : upd H p o a = Option.none := by rw [upd_ne n]; exact h
theorem same_at {H H' : Hp} {a : Addr} {x : HO} (s : Same H H') (h : H a = some x) : H' a = some x := s _ _ h
theorem same_new {H : Hp} {p : Addr} {o : HO} (n : H p = Option.none) : Same H (upd H p o) := fun _ _ e => upd_other e n
theorem same_snoc {H H' : Hp} {p : Addr} {o : HO} (s : Same H H') (n : H' p = Option.none) : Same H (upd H' p o) := s.trans (same_new n)
theorem same_mut {H H' : Hp} {p : Addr} {o : HO} (s : Same H H') (n : H p = Option.none) : Same H (upd H' p o) := fun b x e => by rw [upd_ne (ne_of_none e n)]; exact s b x e
theorem same_tup {K : PySem.W.Frag} {H H' : Hp} {a : Addr} {xs : List V} (e : Same H H') (h : SqT K H a xs) : SqT K H' a xs := by
  rcases h with (h | ⟨o, h⟩) | h
  · exact .inl (.inl (e _ _ h))
  · exact .inl (.inr ⟨o, e _ _ h⟩)
  · exact .inr h
theorem i_ne {x : V} {C D : Prop} (k : D) : if (!decide (x = x)) = true then C else D := by rw [decide_eq_true rfl]; exact iteF k
theorem i_eq {x : V} {C D : Prop} (k : C) : if decide (x = x) = true then C else D := by rw [decide_eq_true rfl]; exact iteT k
theorem i_nn {x : V} {C D : Prop} (h : x ≠ .non) (k : C) : if (!decide (x = .non)) = true then C else D := by rw [decide_eq_false h]; exact k
theorem i_isn {x : V} {C D : Prop} (h : x ≠ .non) (k : D) : if decide (x = .non) = true then C else D := by rw [decide_eq_false h]; exact iteF k
theorem i_nt {C D : Prop} (k : D) : if (!true) = true then C else D := k
theorem i_nf {C D : Prop} (k : C) : if (!false) = true then C else D := k
theorem i_t {C D : Prop} (k : C) : if true = true then C else D := iteT k
theorem i_f {C D : Prop} (k : D) : if false = true then C else D := iteF k
theorem hd_of {A : Around} {k : Nat} (hr : Room k A) : A.units + 64 < cLine := hr.units
section
variable {K : PySem.W.Frag} {σ : St} {H : Hp} {Q : VK} {v x y : V} {i j : Int} {n : Nat} {ta tb tc te tv : TE} {t u : TT} {ts tr : TA} {D : Ends} {s1 s2 : TS} {r : R2}
theorem w_var (h : σ[n]? = some (some v)) (k : Q v H) : tVar n σ H Q := ⟨v, h, k⟩
theorem w_c (k : Q v H) : tC v σ H Q := k
theorem w_op (k : ta σ H fun x H1 => tb σ H1 fun y H2 => r x y H2 Q) : tOp r ta tb σ H Q := k
theorem w_I0 {g : Int → Int → V} (k : Q (g i j) H) : rI0 g (.int i) (.int j) H Q := ⟨i, j, rfl, rfl, k⟩
theorem w_mod {g : Int → Int → V} (h : 0 < j) (k : Q (g i j) H) : rI (fun _ j => 0 < j) g (.int i) (.int j) H Q := ⟨i, j, rfl, rfl, h, k⟩
theorem w_div {g : Int → Int → V} (h : 0 < j ∧ j < 1073741824) (k : Q (g i j) H) : rI CDiv g (.int i) (.int j) H Q := ⟨i, j, rfl, rfl, h, k⟩
theorem w_pow {g : Int → Int → V} (h : 0 ≤ j ∧ j ≤ 1000000 ∧ i.natAbs < 2 ^ 64) (k : Q (g i j) H) : rI CPow g (.int i) (.int j) H Q := ⟨i, j, rfl, rfl, h, k⟩
theorem w_mulR {g : Int → Int → V} (h : -(2 ^ 64) < j ∧ j < 2 ^ 64) (k : Q (g i j) H) : rI CMul g (.int i) (.int j) H Q := ⟨i, j, rfl, rfl, .inr h, k⟩
theorem w_mulL {g : Int → Int → V} (h : -(2 ^ 64) < i ∧ i < 2 ^ 64) (k : Q (g i j) H) : rI CMul g (.int i) (.int j) H Q := ⟨i, j, rfl, rfl, .inl h, k⟩
theorem w_eq (h : scal x y = true) (k : Q (.bl (decide (x = y))) H) : rEq x y H Q := ⟨h, k⟩
theorem w_ne (h : scal x y = true) (k : Q (.bl (!decide (x = y))) H) : rNe x y H Q := ⟨h, k⟩
theorem w_ixL {p : Addr} {xs : List V} (h : SqL K H p xs) (a : atI xs i = some v) (k : Q v H) : rIx K (.ref p) (.int i) H Q := .inl ⟨p, xs, i, v, rfl, rfl, h, a, k⟩
theorem w_ixT {p : Addr} {xs : List V} (h : SqT K H p xs) (a : atI xs i = some v) (k : Q v H) : rIx K (.ref p) (.int i) H Q := .inr (.inl ⟨p, xs, i, v, rfl, rfl, h, a, k⟩)
theorem w_seq (k : s1 { D with nx := s2 D } σ H) : tSeq s1 s2 D σ H := k
theorem w_next (k : D.nx σ H) : tNext D σ H := k
theorem w_ret (k : te σ H D.rt) : tRet te D σ H := k
theorem w_retN (k : D.rt .non H) : tRetN D σ H := k
theorem w_drop (k : te σ H fun _ H1 => D.nx σ H1) : tDrop te D σ H := k
theorem w_set {m : Nat} (k : te σ H fun x H1 => D.nx (σ.set m (some x)) H1) : tAsg te (gName m) D σ H := k
theorem w_ifS {c : TT} (k : c σ H fun b H1 => if b = true then s1 D σ H1 else s2 D σ H1) : tIfS c s1 s2 D σ H := k
def tstK (x : V) (H : Hp) (Q : Bool → Hp → Prop) : Prop := ∃ k, x = .bl k ∧ Q k H
variable {QB : Bool → Hp → Prop} {QA : List V → Hp → Prop}
theorem w_test (k : te σ H fun x H' => tstK x H' QB) : tTest te σ H QB := k
theorem w_tstK {b : Bool} (k : QB b H) : tstK (.bl b) H QB := ⟨b, rfl, k⟩
def truK (K : PySem.W.Frag) (x : V) (H : Hp) (Q : Bool → Hp → Prop) : Prop := ∃ k, TruV K x H k ∧ Q k H
def tTr (K : PySem.W.Frag) (ta : TE) : TT := fun σ H Q => ta σ H fun x H' => truK K x H' Q
theorem pt_tr {X : Cx} {a : Expr} (ha : PE X a ta) (he : ∀ whole, isTrue a X.env whole = (do let v ← whole; standAt a.pos; holding [v] (truthy v))) : PT X a (tTr X.K ta) := pt_truth ha he
theorem w_tr (k : ta σ H fun x H' => truK K x H' QB) : tTr K ta σ H QB := k
theorem w_truB {b : Bool} (k : QB b H) : truK K (.bl b) H QB := ⟨b, rfl, k⟩
theorem w_truL {p : Addr} {xs : List V} (h : SqL K H p xs) (k : QB (!xs.isEmpty) H) : truK K (.ref p) H QB := ⟨_, .inl ⟨xs, h, rfl⟩, k⟩
theorem w_truN (k : QB false H) : truK K .non H QB := ⟨_, rfl, k⟩
theorem w_and (k : t σ H fun c H1 => if c = true then u σ H1 QB else QB false H1) : tAnd t u σ H QB := k
theorem w_or (k : t σ H fun c H1 => if c = true then QB true H1 else u σ H1 QB) : tOr t u σ H QB := k
theorem w_orB {b c : Bool} {Pr : Hp → Prop} (h1 : ∀ R : Bool → Hp → Prop, (∀ H2, Pr H2 → R b H2) → t σ H R) (h2 : ∀ H2, Pr H2 → ∀ R : Bool → Hp → Prop, R c H2 → u σ H2 R) (k : ∀ H2, Pr H2 → QB (b || c) H2) : tOr t u σ H QB := by
  refine h1 _ fun H2 p => ?_
  cases b with
  | true => exact iteT (k H2 p)
  | false => exact iteF (h2 H2 p _ (k H2 p))
theorem w_not (k : t σ H fun c H1 => QB (!c) H1) : tNot t σ H QB := k
def andK (tb : TE) (σ : St) (x : V) (H : Hp) (Q : VK) : Prop := ∃ c, x = .bl c ∧ if c = true then tb σ H Q else Q (.bl false) H
def orK (tb : TE) (σ : St) (x : V) (H : Hp) (Q : VK) : Prop := ∃ c, x = .bl c ∧ if c = true then Q (.bl true) H else tb σ H Q
def notK (x : V) (H : Hp) (Q : VK) : Prop := ∃ c, x = .bl c ∧ Q (.bl (!c)) H
theorem w_andV (k : ta σ H fun x H1 => andK tb σ x H1 Q) : tAndV ta tb σ H Q := k
theorem w_orV (k : ta σ H fun x H1 => orK tb σ x H1 Q) : tOrV ta tb σ H Q := k
theorem w_notV (k : ta σ H fun x H1 => notK x H1 Q) : tNotV ta σ H Q := k
theorem w_andK {b : Bool} (k : if b = true then tb σ H Q else Q (.bl false) H) : andK tb σ (.bl b) H Q := ⟨b, rfl, k⟩
theorem w_orK {b : Bool} (k : if b = true then Q (.bl true) H else tb σ H Q) : orK tb σ (.bl b) H Q := ⟨b, rfl, k⟩
theorem w_notK {b : Bool} (k : Q (.bl (!b)) H) : notK (.bl b) H Q := ⟨b, rfl, k⟩
theorem w_nil (k : QA [] H) : tNil σ H QA := k
theorem w_cons (k : ta σ H fun x H1 => tr σ H1 fun xs H2 => QA (x :: xs) H2) : tCons ta tr σ H QA := k
theorem w_CB {r : List V → Hp → VK → Prop} (k : ts σ H fun vs H1 => r vs H1 Q) : tCB r ts σ H Q := k
theorem w_call {sp : Sp} {dvs : List V} {E : XK} (k : ts σ H fun vs H1 => sp (vs ++ dvs) H1 Q E) : tCall sp dvs E ts σ H Q := k
def newK (f : List V → HO) (xs : List V) (H : Hp) (Q : VK) : Prop := xs.length ≤ sizeLine ∧ ∀ p, H p = Option.none → Q (.ref p) (upd H p (f xs))
theorem w_tup (k : ts σ H fun xs H1 => newK HO.tup xs H1 Q) : tTup ts σ H Q := k
theorem w_lst (k : ts σ H fun xs H1 => newK HO.lst xs H1 Q) : tLst ts σ H Q := k
theorem w_new {f : List V → HO} {xs : List V} (h : xs.length ≤ 1000) (k : ∀ p, H p = Option.none → Q (.ref p) (upd H p (f xs))) : newK f xs H Q := ⟨Nat.le_trans h (by decide), k⟩
theorem w_newS {f : List V → HO} {xs : List V} (h : xs.length ≤ 1000) (k : ∀ p H', H p = Option.none → Same H H' → H' p = some (f xs) → Q (.ref p) H') : newK f xs H Q := ⟨Nat.le_trans h (by decide), fun p np => k p _ np (same_new np) upd_same⟩
def fldK (K : PySem.W.Frag) (f : Str) (x : V) (H : Hp) (Q : VK) : Prop := ∃ a C dx fs v, x = .ref a ∧ H a = some (.ins C dx fs) ∧ Cls K C ∧ NoAttr K C f ∧ fs.lookup f = some v ∧ Q v H
theorem w_fld {f : Str} (k : ta σ H fun x H1 => fldK K f x H1 Q) : tFld K ta f σ H Q := k
theorem w_fldK {f : Str} {a C dx : Addr} {fs : List (Str × V)} (h : H a = some (.ins C dx fs)) (c : Cls K C) (na : NoAttr K C f) (l : fs.lookup f = some v) (k : Q v H) : fldK K f (.ref a) H Q := ⟨a, C, dx, fs, v, rfl, h, c, na, l, k⟩
def sfldK (K : PySem.W.Frag) (f : Str) (y x : V) (H : Hp) (N : Hp → Prop) : Prop := ∃ a C dx fs, x = .ref a ∧ H a = some (.ins C dx fs) ∧ Cls K C ∧ NoAttr K C f ∧ fs.length < 1000 ∧ N (upd H a (.ins C dx (putF f y fs)))
theorem w_sfld {f : Str} (k : tv σ H fun y H1 => ta σ H1 fun x H2 => sfldK K f y x H2 fun H3 => D.nx σ H3) : sFld K ta tv f D σ H := k
theorem w_sfldK {f : Str} {a C dx : Addr} {fs : List (Str × V)} {N : Hp → Prop} (h : H a = some (.ins C dx fs)) (c : Cls K C) (na : NoAttr K C f) (l : fs.length < 1000) (k : N (upd H a (.ins C dx (putF f y fs)))) : sfldK K f y (.ref a) H N := ⟨a, C, dx, fs, rfl, h, c, na, l, k⟩
def aug2K (a C : Addr) (f : Str) (z : V) (H : Hp) (N : Hp → Prop) : Prop := ∃ dx' fs', H a = some (.ins C dx' fs') ∧ fs'.length < 1000 ∧ N (upd H a (.ins C dx' (putF f z fs')))
def augK (K : PySem.W.Frag) (f : Str) (tv : TE) (rd : V → V → Hp → VK → Prop) (σ : St) (x : V) (H : Hp) (N : Hp → Prop) : Prop := ∃ a C dx fs v, x = .ref a ∧ H a = some (.ins C dx fs) ∧ Cls K C ∧ NoAttr K C f ∧ fs.lookup f = some v ∧ tv σ H fun y H2 => rd v y H2 fun z H3 => aug2K a C f z H3 N
theorem w_fldaug {f : Str} {rd : V → V → Hp → VK → Prop} (k : ta σ H fun x H1 => augK K f tv rd σ x H1 fun H3 => D.nx σ H3) : sFldAug K ta tv rd f D σ H := k
theorem w_augK {f : Str} {rd : V → V → Hp → VK → Prop} {a C dx : Addr} {fs : List (Str × V)} {N : Hp → Prop} (h : H a = some (.ins C dx fs)) (c : Cls K C) (na : NoAttr K C f) (l : fs.lookup f = some v) (k : tv σ H fun y H2 => rd v y H2 fun z H3 => aug2K a C f z H3 N) : augK K f tv rd σ (.ref a) H N := ⟨a, C, dx, fs, v, rfl, h, c, na, l, k⟩
theorem w_aug2K {f : Str} {a C dx : Addr} {fs : List (Str × V)} {z : V} {N : Hp → Prop} (h : H a = some (.ins C dx fs)) (l : fs.length < 1000) (k : N (upd H a (.ins C dx (putF f z fs)))) : aug2K a C f z H N := ⟨dx, fs, h, l, k⟩
theorem w_rAdd (k : Q (.int (i + j)) H) : rAdd (.int i) (.int j) H Q := ⟨i, j, rfl, rfl, k⟩
theorem w_rSub (k : Q (.int (i - j)) H) : rSub (.int i) (.int j) H Q := ⟨i, j, rfl, rfl, k⟩
def makeK (C : Addr) (sp : Sp) (dvs : List V) (E : XK) (vs : List V) (H1 : Hp) (Q : VK) : Prop := ∀ x dx, H1 x = Option.none → H1 dx = Option.none → dx ≠ x → sp (.ref x :: (vs ++ dvs)) (upd (upd H1 dx (.own x)) x (.ins C dx [])) (fun v H2 => v = .non ∧ Q (.ref x) H2) E
theorem w_make {C : Addr} {sp : Sp} {dvs : List V} {E : XK} (k : ts σ H fun vs H1 => makeK C sp dvs E vs H1 Q) : tMake C sp dvs E ts σ H Q := k
theorem w_un {r : V → Hp → VK → Prop} (k : ta σ H fun x H1 => r x H1 Q) : tUn r ta σ H Q := k
theorem w_rU {g : Int → V} (k : Q (g i) H) : rU g (.int i) H Q := ⟨i, rfl, k⟩
theorem same_born {H : Hp} {x dx C : Addr} (nx : H x = Option.none) (nd : H dx = Option.none) : Same H (upd (upd H dx (.own x)) x (.ins C dx [])) := fun b o e => by
  rw [upd_ne (ne_of_none e nx), upd_ne (ne_of_none e nd)]; exact e
def methK (C : Addr) (m : Str) (sp : Sp) (dvs : List V) (E : XK) (t : TA) (σ : St) (x : V) (H : Hp) (Q : VK) : Prop := ∃ a dx fs, x = .ref a ∧ H a = some (.ins C dx fs) ∧ fs.lookup m = Option.none ∧ t σ H fun vs H2 => sp (x :: (vs ++ dvs)) H2 Q E
theorem w_meth {C : Addr} {m : Str} {sp : Sp} {dvs : List V} {E : XK} (k : ta σ H fun x H1 => methK C m sp dvs E ts σ x H1 Q) : tMeth C m sp dvs E ta ts σ H Q := k
theorem w_methK {C a dx : Addr} {m : Str} {sp : Sp} {dvs : List V} {E : XK} {fs : List (Str × V)} (h : H a = some (.ins C dx fs)) (l : fs.lookup m = Option.none) (k : ts σ H fun vs H2 => sp (.ref a :: (vs ++ dvs)) H2 Q E) : methK C m sp dvs E ts σ (.ref a) H Q := ⟨a, dx, fs, rfl, h, l, k⟩
theorem w_bm {T : String} {r : V → List V → Hp → VK → Prop} (k : ta σ H fun x H1 => tyV K T x H1 ∧ ts σ H1 fun xs H2 => r x xs H2 Q) : tBM K T r ta ts σ H Q := k
theorem w_tyL {p : Addr} {xs : List V} {R : Prop} (h : SqL K H p xs) (k : R) : tyV K "list" (.ref p) H ∧ R := ⟨.inl ⟨rfl, xs, h⟩, k⟩
theorem w_append {l : Addr} {xs : List V} (h : H l = some (.lst xs)) (hl : xs.length < sizeLine) (k : Q .non (upd H l (.lst (xs ++ [y])))) : rAppend (.ref l) [y] H Q := ⟨l, xs, y, rfl, rfl, h, hl, k⟩
def rIsNo : R2 := fun x y H Q => y = .non ∧ Q (.bl (decide (x = .non))) H
def rNotNo : R2 := fun x y H Q => y = .non ∧ Q (.bl (!decide (x = .non))) H
theorem op_isNo {X : Cx} : OpR X (compareOp .Is) rIsNo := op_isN
theorem op_notNo {X : Cx} : OpR X (compareOp .IsNot) rNotNo := op_notN
theorem w_pop0 {l : Addr} {x : V} {xs : List V} (h : H l = some (.lst (x :: xs))) (k : Q x (upd H l (.lst xs))) : rPopAt (.ref l) [.int 0] H Q :=
  ⟨l, x :: xs, 0, 0, x, rfl, rfl, h, by decide, by decide, by simp [seqIndex?], rfl, k⟩
theorem w_isNo (k : Q (.bl (decide (x = .non))) H) : rIsNo x .non H Q := ⟨rfl, k⟩
theorem w_notNo (k : Q (.bl (!decide (x = .non))) H) : rNotNo x .non H Q := ⟨rfl, k⟩
def rListOf (K : PySem.W.Frag) : List V → Hp → VK → Prop := fun xs H Q => ∃ p ys, xs = [.ref p] ∧ (SqL K H p ys ∨ SqT K H p ys) ∧ ∀ l, H l = none → Q (.ref l) (upd H l (.lst ys))
theorem call_listOf {X : Cx} : CallR X (.type "list") (rListOf X.K) := call_list_of
theorem w_listOf {p : Addr} {ys : List V} (h : SqL K H p ys) (k : ∀ l H', H l = Option.none → Same H H' → H' l = some (.lst ys) → Q (.ref l) H') : rListOf K [.ref p] H Q := ⟨p, ys, rfl, .inl h, fun l n => k l _ n (same_new n) upd_same⟩
def rLenS (K : PySem.W.Frag) : List V → Hp → VK → Prop := fun xs H Q => ∃ p ys, xs = [.ref p] ∧ (SqL K H p ys ∨ SqT K H p ys) ∧ Q (.int ys.length) H
theorem call_lenS {X : Cx} : CallR X (.builtin "len") (rLenS X.K) := call_len_seq
theorem w_lenL {p : Addr} {ys : List V} (h : SqL K H p ys) (k : Q (.int ys.length) H) : rLenS K [.ref p] H Q := ⟨p, ys, rfl, .inl h, k⟩
theorem w_lenT {p : Addr} {ys : List V} (h : SqT K H p ys) (k : Q (.int ys.length) H) : rLenS K [.ref p] H Q := ⟨p, ys, rfl, .inr h, k⟩
def forK (J : It) (g : TG) (tb : TS) (D : Ends) (σ : St) (H : Hp) : Prop := ∃ W : Nat → Nat → St → Hp → Prop, (∃ m, W 0 m σ H) ∧ ∀ i m σ H, W i m σ H →
  (J.stop i H ∧ D.nx σ H) ∨ (J.go i H ∧ ∃ N : St → Hp → Prop, (∀ σ' H', N σ' H' → ∃ m', m' < m ∧ W (i + 1) m' σ' H') ∧ ∀ x H', J.yld i H x H' → g x σ H' fun σ2 H2 => tb { D with nx := N, ct := N, bk := D.nx } σ2 H2)
variable {wi : TI} {g : TG} {gs : TGs} {tb : TS} {R : It → Hp → Prop} {QG : St → Hp → Prop} {xs : List V}
theorem w_for (k : wi σ H fun J H1 => forK J g tb D σ H1) : tFor wi g tb D σ H := k
def rng1K (R : It → Hp → Prop) (vs : List V) (H : Hp) : Prop := ∃ j : Int, vs = [.int j] ∧ -(2 ^ 62) ≤ j ∧ j < 2 ^ 62 ∧ R (Itr 0 j.toNat) H
def rng2K (R : It → Hp → Prop) (vs : List V) (H : Hp) : Prop := ∃ i j : Int, vs = [.int i, .int j] ∧ (-(2 ^ 62) ≤ i ∧ i < 2 ^ 62 ∧ -(2 ^ 62) ≤ j ∧ j < 2 ^ 62) ∧ R (Itr i (j - i).toNat) H
theorem w_rng1 (k : ts σ H fun vs H1 => rng1K R vs H1) : iRng1 ts σ H R := k
theorem w_rng2 (k : ts σ H fun vs H1 => rng2K R vs H1) : iRng2 ts σ H R := k
theorem w_rng1K (h : -(2 ^ 62) ≤ j ∧ j < 2 ^ 62) (k : R (Itr 0 j.toNat) H) : rng1K R [.int j] H := ⟨j, rfl, h.1, h.2, k⟩
theorem w_rng2K (h : -(2 ^ 62) ≤ i ∧ i < 2 ^ 62 ∧ -(2 ^ 62) ≤ j ∧ j < 2 ^ 62) (k : R (Itr i (j - i).toNat) H) : rng2K R [.int i, .int j] H := ⟨i, j, rfl, h, k⟩
def iLK (K : PySem.W.Frag) (R : It → Hp → Prop) (x : V) (H : Hp) : Prop := ∃ a, x = .ref a ∧ (∃ xs, SqL K H a xs) ∧ R (Itl K a) H
theorem w_iL (k : ta σ H fun x H1 => iLK K R x H1) : iList K ta σ H R := k
theorem w_iLK {a : Addr} (h : SqL K H a xs) (k : R (Itl K a) H) : iLK K R (.ref a) H := ⟨a, rfl, ⟨xs, h⟩, k⟩
theorem w_gN {m : Nat} (k : QG (σ.set m (some v)) H) : gName m v σ H QG := k
theorem w_gT {m : Nat} {a : Addr} (h : SqT K H a xs) (l : xs.length = m) (k : gs xs σ H QG) : gTup K m gs (.ref a) σ H QG := ⟨a, xs, rfl, h, l, k⟩
theorem w_g0 (k : QG σ H) : gNil [] σ H QG := ⟨rfl, k⟩
theorem w_gC (k : g v σ H fun σ' H' => gs xs σ' H' QG) : gCons g gs (v :: xs) σ H QG := ⟨v, xs, rfl, k⟩
def lcK (J : It) (g : TG) (tt : TT) (te : TE) (vs : List Nat) (σ : St) (H1 : Hp) (Q : VK) : Prop := ∀ D, H1 D = Option.none → ∃ W : Nat → Nat → Hp → Prop, (∃ m, W 0 m (upd H1 D (.lst []))) ∧ ∀ i m H, W i m H →
  (J.stop i H ∧ Q (.ref D) H) ∨ (J.go i H ∧ ∃ Nx : Hp → Prop, (∀ H', Nx H' → ∃ m', m' < m ∧ W (i + 1) m' H') ∧ ∀ x H', J.yld i H x H' → g x (wipe σ vs) H' fun σ2 H2 => wipe σ2 vs = wipe σ vs ∧ tt σ2 H2 fun b H3 =>
    if b = true then te σ2 H3 fun y H4 => ∃ acc, H4 D = some (.lst acc) ∧ acc.length < sizeLine ∧ Nx (upd H4 D (.lst (acc ++ [y]))) else Nx H3)
theorem w_lc {vs : List Nat} (k : wi σ H fun J H1 => lcK J g t te vs σ H1 Q) : tLc wi g t te vs σ H Q := k
theorem w_yes (k : QB true H) : tYes σ H QB := k
theorem w_all {a : Addr} (bs : List Bool) (h : SqL K H a (bs.map V.bl)) (k : Q (.bl (bs.all id)) H) : rAll K [.ref a] H Q := ⟨a, bs, rfl, h, k⟩
theorem w_asg (k : te σ H fun x H1 => g x σ H1 D.nx) : tAsg te g D σ H := k
end
section
variable {X : Cx} {K : PySem.W.Frag} {e o value l tg : Expr} {es : List Expr} {f name : Str} {pos pos' tpos apos cpos : Pos} {ta te to tv tl : TE} {ts : TA} {T id : String}
theorem k_fld (he : PE X e ta) (hb : attributeBase e f X.env (eval e X.env) = eval e X.env) (hK : X.K = K := by rfl) : PE X (.Attribute e f pos) (tFld K ta f) := by subst hK; exact pe_fld he hb
theorem k_sfld (ha : PE X o ta) (hv : PE X value tv) (hs : swapsWith value (some (.Attribute o f pos')) pos.line X.env = pure false) (hK : X.K = K := by rfl) : PS X (.Assign [.Attribute o f pos'] value pos) (sFld K ta tv f) := by subst hK; exact ps_fld ha hv hs
theorem k_fldaug {op : Operator} {rd : V → V → Hp → VK → Prop} (ha : PE X o ta) (hv : PE X value tv) (hop : InOp X op rd) (hK : X.K = K := by rfl) : PS X (.AugAssign (.Attribute o f tpos) op value pos) (sFldAug K ta tv rd f) := by subst hK; exact ps_fldaug ha hv hop
theorem k_list (hl : PE X l tl) (hK : X.K = K := by rfl) : PI X tg l (iList K tl) := by subst hK; exact pi_list hl
theorem k_gtup {es : List Expr} {k : Nat} {t : TGs} (n : Nat) (hc : X.calm = true) (h : PGs X es t)
    (hn : (assignEach es X.env).length = n := by rfl) (hst : (assignEach es X.env).findIdx? (·.1) = none := by rfl) (hK : X.K = K := by rfl) : PG X (.Tuple es k pos) (gTup K n t) := by subst hK; exact pg_tup hc h hn hst
theorem k_bm0 {r : V → List V → Hp → VK → Prop} (pa : PlainAttrs T) (slot : Slot T name id) (hty : typeOf (.builtin id) = pure (.type "method_descriptor")) (hm : MtR X id r) (ho : PE X o to)
    (hbase : attributeBase o name X.env (eval o X.env) = eval o X.env := by rfl) (hline : (apos.endLine == cpos.line) = true := by rfl) (hK : X.K = K := by rfl) : PE X (.Call (.Attribute o name apos) [] [] cpos) (tBM0 K T r to) := by
  subst hK; exact pe_bm0 pa slot hty hm ho hbase hline
theorem k_bm {r : V → List V → Hp → VK → Prop} (pa : PlainAttrs T) (slot : Slot T name id) (hty : typeOf (.builtin id) = pure (.type "method_descriptor")) (hm : MtR X id r) (ho : PE X o to) (ha : PA X (e :: es) ts)
    (hbase : attributeBase o name X.env (eval o X.env) = eval o X.env := by rfl)
    (hfew : ((backTo cpos (starEach (e :: es) X.env)).all (fun x => !x.1) && (backToKw cpos (keywordEach [] X.env)).all (fun x => x.1.isSome)
      && decide ((e :: es).length + ([] : List Keyword).length + (if ([] : List Keyword).isEmpty then 0 else 1) < 30)) = true := by rfl)
    (hline : (apos.endLine == cpos.line) = true := by rfl) (hs : starEach (e :: es) X.env = (false, eval e X.env) :: starEach es X.env := by rfl) (hplain : (backTo cpos (starEach es X.env)).any (·.1) = false := by rfl) (hK : X.K = K := by rfl) :
    PE X (.Call (.Attribute o name apos) (e :: es) [] cpos) (tBM K T r to ts) := by
  subst hK; exact pe_bm pa slot hty hm ho ha hbase hfew hline hs hplain
theorem k_tr (ha : PE X e ta) (he : ∀ whole, isTrue e X.env whole = (do let v ← whole; standAt e.pos; holding [v] (truthy v))) (hK : X.K = K := by rfl) : PT X e (tTr K ta) := by subst hK; exact pt_tr ha he
end
/-! one step of a reading; a heap's place -/
local macro_rules | `(tactic| k_memK) => `(tactic| first
  | assumption
  | exact upd_same
  | (refine upd_other ?_ (by assumption); k_memK)
  | (refine upd_at ?_ (by assumption); k_memK)
  | (refine upd_at ?_ (Ne.symm (by assumption)); k_memK)
  | (refine same_at (by assumption) ?_; k_memK))
/- where a list, a tuple stands -/
local macro_rules | `(tactic| k_upd) => `(tactic| first
  | assumption
  | exact SqL.of (by k_memK)
  | (refine Same.seq (by assumption) ?_; k_upd))
local macro_rules | `(tactic| k_ownIn) => `(tactic| first
  | assumption
  | exact SqT.of (by k_memK)
  | (refine same_tup (by assumption) ?_; k_ownIn))
local macro_rules | `(tactic| k_updF) => `(tactic| first
  | with_reducible refine' w_seq ?_
  | with_reducible refine' w_op ?_
  | ((with_reducible refine' w_var ?hh ?_); (case hh => rfl))
  | with_reducible refine' w_c ?_
  | with_reducible refine' w_I0 ?_
  | with_reducible refine' w_set ?_
  | with_reducible refine' w_cons ?_
  | with_reducible refine' w_nil ?_
  | with_reducible refine' w_CB ?_
  | with_reducible refine' w_call ?_
  | with_reducible refine' w_ret ?_
  | with_reducible refine' w_drop ?_
  | with_reducible refine' w_next ?_
  | with_reducible refine' w_ifS ?_
  | with_reducible refine' w_test ?_
  | with_reducible refine' w_tstK ?_
  | with_reducible refine' w_tr ?_
  | with_reducible refine' w_truB ?_
  | with_reducible refine' w_and ?_
  | with_reducible refine' w_or ?_
  | with_reducible refine' w_not ?_
  | with_reducible refine' w_andV ?_
  | with_reducible refine' w_orV ?_
  | with_reducible refine' w_notV ?_
  | with_reducible refine' w_andK ?_
  | with_reducible refine' w_orK ?_
  | with_reducible refine' w_notK ?_
  | with_reducible refine' w_tup ?_
  | with_reducible refine' w_lst ?_
  | with_reducible refine' w_fld ?_
  | with_reducible refine' w_sfld ?_
  | with_reducible refine' w_meth ?_
  | with_reducible refine' w_bm ?_
  | with_reducible refine' w_retN ?_
  | ((with_reducible refine' w_eq ?hh ?_); (case hh => rfl))
  | ((with_reducible refine' w_ne ?hh ?_); (case hh => rfl))
  | ((with_reducible refine' w_mod ?hh ?_); (case hh => (first | assumption | (show (0 : Int) < _; first | decide | omega))))
  | ((with_reducible refine' w_div ?hh ?_); (case hh => (exact ⟨by decide, by decide⟩)))
  | ((with_reducible refine' w_pow ?hh ?_); (case hh => (exact ⟨by decide, by decide, by decide⟩)))
  | ((with_reducible refine' w_mulR ?hh ?_); (case hh => (exact ⟨by decide, by decide⟩)))
  | ((with_reducible refine' w_mulL ?hh ?_); (case hh => (exact ⟨by decide, by decide⟩)))
  | ((with_reducible refine' w_ixT ?hh ?ha ?_); (case hh => k_ownIn); (case ha => (first | rfl | exact atI_nat (j := 0) rfl)))
  | ((with_reducible refine' w_ixL ?hh ?ha ?_); (case hh => k_upd); (case ha => (first | rfl | exact atI_nat (j := 0) rfl)))
  | ((with_reducible refine' w_tyL ?hh ?_); (case hh => k_upd))
  | with_reducible refine' i_ne ?_
  | with_reducible refine' i_eq ?_
  | ((with_reducible refine' i_nn ?hh ?_); (case hh => (intro h; cases h)))
  | ((with_reducible refine' i_isn ?hh ?_); (case hh => (intro h; cases h)))
  | with_reducible refine' i_nt ?_
  | with_reducible refine' i_nf ?_
  | with_reducible refine' i_t ?_
  | with_reducible refine' i_f ?_
  | with_reducible refine' w_isNo ?_
  | with_reducible refine' w_notNo ?_
  | ((with_reducible refine' w_lenL ?hh ?_); (case hh => k_upd))
  | ((with_reducible refine' w_lenT ?hh ?_); (case hh => k_ownIn))
  | with_reducible refine' w_for ?_
  | with_reducible refine' w_rng1 ?_
  | with_reducible refine' w_rng2 ?_
  | with_reducible refine' w_iL ?_
  | ((with_reducible refine' w_rng1K ?hh ?_); (case hh => omega))
  | ((with_reducible refine' w_rng2K ?hh ?_); (case hh => (first | omega | (simp only [List.length_map]; omega))))
  | ((with_reducible refine' w_iLK ?hh ?_); (case hh => k_upd))
  | with_reducible refine' w_lc ?_
  | with_reducible refine' w_yes ?_
  | with_reducible refine' w_gN ?_
  | ((with_reducible refine' w_gT ?hh ?hl ?_); (case hh => k_ownIn); (case hl => rfl))
  | with_reducible refine' w_g0 ?_
  | with_reducible refine' w_gC ?_
  | with_reducible refine' w_asg ?_
  | with_reducible refine' w_make ?_
  | with_reducible refine' w_un ?_
  | with_reducible refine' w_rU ?_
  | with_reducible refine' w_fldaug ?_
  | with_reducible refine' w_rAdd ?_
  | with_reducible refine' w_rSub ?_
  | ((with_reducible refine' w_augK ?hh ?hc ?hn ?hl ?_); (case hh => k_memK); (case hc => assumption); (case hn => assumption); (case hl => rfl))
  | ((with_reducible refine' w_aug2K ?hh ?hl ?_); (case hh => k_memK); (case hl => (exact of_decide_eq_true rfl)))
  | ((with_reducible refine' w_methK ?hh ?hl ?_); (case hh => k_memK); (case hl => rfl))
  | ((with_reducible refine' w_sfldK ?hh ?hc ?hn ?hl ?_); (case hh => k_memK); (case hc => assumption); (case hn => assumption); (case hl => (exact of_decide_eq_true rfl)))
  | ((with_reducible refine' w_fldK ?hh ?hc ?hn ?hl ?_); (case hh => k_memK); (case hc => assumption); (case hn => assumption); (case hl => rfl)))
local macro_rules | `(tactic| k_allIn) => `(tactic| repeat k_updF)
def top (i : Nat) : Stmt := PySem.Challenge.pw_passring_k01_rules.main.body.getD i (.Pass ⟨0, 0, 0, 0⟩)
abbrev s_greater : Stmt := top 1
abbrev s_next_on : Stmt := top 2
abbrev s_limit : Stmt := top 3
abbrev s_bound : Stmt := top 4
abbrev s_law_whole : Stmt := top 6
abbrev s_law_cell_at : Stmt := top 7
abbrev s_law_next : Stmt := top 8
abbrev s_law : Stmt := top 9
theorem sc_greater : FnScope ["one", "other"] ["one", "other"] (defScope s_greater) := ⟨rfl, rfl, rfl, by decide +kernel, rfl, by decide +kernel, by decide +kernel⟩
theorem sc_next_on : FnScope ["on", "at", "many", "ahead", "station"] ["on", "at"] (defScope s_next_on) := ⟨rfl, rfl, rfl, by decide +kernel, rfl, by decide +kernel, by decide +kernel⟩
theorem sc_limit : FnScope ["many", "station"] ["many", "station"] (defScope s_limit) := ⟨rfl, rfl, rfl, by decide +kernel, rfl, by decide +kernel, by decide +kernel⟩
theorem sc_bound : FnScope ["many", "rounds"] ["many"] (defScope s_bound) := ⟨rfl, rfl, rfl, by decide +kernel, rfl, by decide +kernel, by decide +kernel⟩
theorem sc_law_whole : FnScope ["_law_found"] ["_law_found"] (defScope s_law_whole) := ⟨rfl, rfl, rfl, by decide +kernel, rfl, by decide +kernel, by decide +kernel⟩
theorem sc_law_cell_at : FnScope ["_law_script", "_law_k"] ["_law_script", "_law_k"] (defScope s_law_cell_at) := ⟨rfl, rfl, rfl, by decide +kernel, rfl, by decide +kernel, by decide +kernel⟩
theorem sc_law_next : FnScope ["_law_on", "_law_at", "_law_far"] ["_law_on", "_law_at"] (defScope s_law_next) := ⟨rfl, rfl, rfl, by decide +kernel, rfl, by decide +kernel, by decide +kernel⟩
theorem sc_law : FnScope ["_law_script", "_law_cell", "_law_one", "_law_far", "_law_number", "_law_other", "_law_first", "_law_second", "_law_found", "_law_many", "_law_on", "_law_bits", "_law_k", "_law_at", "_law_due"] ["_law_script"] (defScope s_law) := ⟨rfl, rfl, rfl, by decide +kernel, rfl, by decide +kernel, by decide +kernel⟩
structure Ad where
  greater : Addr
  greater_d : FuncData
  next_on : Addr
  next_on_d : FuncData
  limit : Addr
  limit_d : FuncData
  bound : Addr
  bound_d : FuncData
  law_whole : Addr
  law_whole_d : FuncData
  law_cell_at : Addr
  law_cell_at_d : FuncData
  law_next : Addr
  law_next_d : FuncData
  law : Addr
  law_d : FuncData
structure Txt (K : PySem.W.Frag) (mg : Str → Option Value) (A : Ad) : Prop where
  F_greater : Fun K "greater" "greater" s_greater A.greater A.greater_d
  b_greater : Binds K A.greater_d ["one", "other"] []
  g_greater : mg "greater" = some (.ref A.greater)
  F_next_on : Fun K "next_on" "next_on" s_next_on A.next_on A.next_on_d
  b_next_on : Binds K A.next_on_d ["on", "at"] []
  g_next_on : mg "next_on" = some (.ref A.next_on)
  F_limit : Fun K "limit" "limit" s_limit A.limit A.limit_d
  b_limit : Binds K A.limit_d ["many", "station"] []
  g_limit : mg "limit" = some (.ref A.limit)
  F_bound : Fun K "bound" "bound" s_bound A.bound A.bound_d
  b_bound : Binds K A.bound_d ["many"] []
  g_bound : mg "bound" = some (.ref A.bound)
  F_law_whole : Fun K "_law_whole" "_law_whole" s_law_whole A.law_whole A.law_whole_d
  b_law_whole : Binds K A.law_whole_d ["_law_found"] []
  g_law_whole : mg "_law_whole" = some (.ref A.law_whole)
  F_law_cell_at : Fun K "_law_cell_at" "_law_cell_at" s_law_cell_at A.law_cell_at A.law_cell_at_d
  b_law_cell_at : Binds K A.law_cell_at_d ["_law_script", "_law_k"] []
  g_law_cell_at : mg "_law_cell_at" = some (.ref A.law_cell_at)
  F_law_next : Fun K "_law_next" "_law_next" s_law_next A.law_next A.law_next_d
  b_law_next : Binds K A.law_next_d ["_law_on", "_law_at"] []
  g_law_next : mg "_law_next" = some (.ref A.law_next)
  F_law : Fun K "law" "law" s_law A.law A.law_d
  b_law : Binds K A.law_d ["_law_script"] []
  g_law : mg "law" = some (.ref A.law)
  n_bool : mg "bool" = none
  n_int : mg "int" = none
  n_isinstance : mg "isinstance" = none
  n_len : mg "len" = none
  n_list : mg "list" = none
  n_max : mg "max" = none
  n_range : mg "range" = none
/-! two pairs of ints, one > the other -/
def gr (n m n' m' : Int) : Bool := if n = n' then decide (m' < m) else decide (n' < n)
def rGtP (K : PySem.W.Frag) : R2 := fun x y H Q => ∃ (a b : Addr) (n m n' m' : Int), x = .ref a ∧ y = .ref b ∧ SqT K H a [.int n, .int m] ∧ SqT K H b [.int n', .int m'] ∧ Q (.bl (gr n m n' m')) H
theorem gr_lt (n m n' m' : Int) : PySem.W.dataLt (.tuple [.int n', .int m']) (.tuple [.int n, .int m]) = gr n m n' m' := by
  rw [PySem.W.dataLt_ii]
  unfold gr
  by_cases h : n = n'
  · subst h
    rw [if_pos rfl]
    have : (n < n ∨ n = n ∧ m' < m) ↔ m' < m := by omega
    exact decide_eq_decide.mpr this
  · rw [if_neg h]
    have : (n' < n ∨ n' = n ∧ m' < m) ↔ n' < n := by omega
    exact decide_eq_decide.mpr this
theorem op_gtP {X : Cx} (hu : X.A.units + 64 < cLine) : OpR X (compareOp .Gt) (rGtP X.K) := by
  intro pins s σ H x y v u Q I rx ry h
  obtain ⟨a, b, n, m, n', m', rfl, rfl, ha, hb, q⟩ := h
  have d1 : Dp X.K H (.ref a) (.tuple [.int n, .int m]) := .tup ha (.cons (.int n) (.cons (.int m) .nil))
  have d2 : Dp X.K H (.ref b) (.tuple [.int n', .int m']) := .tup hb (.cons (.int n') (.cons (.int m') .nil))
  obtain ⟨as, r1⟩ := Dp.reads I _ _ v d1 rx
  obtain ⟨bs, r2⟩ := Dp.reads I _ _ u d2 ry
  refine PySem.W.gt_data r1 r2 (by simp [PySem.W.alike, PySem.W.alikeAll]) (fun z => nomatch z) ?_ ?_
  · have : min (PyData.depth (.tuple [.int n, .int m])) (PyData.depth (.tuple [.int n', .int m'])) ≤ 64 := by
      simp [PyData.depth, PyData.depthAll]
    omega
  · rw [gr_lt]
    exact ⟨.bl _, H, I, rfl, q⟩
def spGreater (K : PySem.W.Frag) : Sp := fun vs H Q _ => ∃ (a b : Addr) (n m n' m' : Int), vs = [.ref a, .ref b] ∧ SqT K H a [.int n, .int m] ∧ SqT K H b [.int n', .int m'] ∧ Q (.bl (gr n m n' m')) H
/-! ### next_on -/
/-- the first place on from at + 1 + i, k places looked at -/
def nx (on : List Bool) (at_ : Int) : Nat → Nat → V
  | _, 0 => .non
  | i, k + 1 => if on.getD ((at_ + (1 + (i : Int))) % (on.length : Int)).toNat false = true then .int ((at_ + (1 + (i : Int))) % (on.length : Int)) else nx on at_ (i + 1) k
def spNext (K : PySem.W.Frag) : Sp := fun vs H Q _ => ∃ (a : Addr) (on : List Bool) (j : Int), vs = [.ref a, .int j] ∧ SqL K H a (on.map V.bl) ∧ 0 < on.length ∧ on.length ≤ 12 ∧ Q (nx on j 0 on.length) H
def spLimit : Sp := fun vs H Q _ => ∃ (m k : Int), vs = [.int m, .int k] ∧ 0 ≤ m ∧ m ≤ 12 ∧ Q (.int (m + 1 + 2 * m * k)) H
def spBound : Sp := fun vs H Q _ => ∃ (m : Int), vs = [.int m] ∧ 0 ≤ m ∧ m ≤ 12 ∧ Q (.int ((m + 10) * m)) H
def spWhole : Sp := fun vs H Q _ => ∃ (m : Int), vs = [.int m] ∧ Q (.bl true) H
def spCellAt (K : PySem.W.Frag) : Sp := fun vs H Q _ => ∃ (a : Addr) (ns : List Int) (i : Nat), vs = [.ref a, .int (i : Int)] ∧ SqL K H a (ns.map V.int) ∧ Q (.int (ns.getD i 0)) H
def spLaw (K : PySem.W.Frag) : Sp := fun vs H Q _ => ∃ (a : Addr) (ns : List Int), vs = [.ref a] ∧ SqL K H a (ns.map V.int) ∧ ns.length ≤ 63 ∧ ∀ H', Q (.bl true) H'
section
variable {P : Program} {w : World} {K : PySem.W.Frag} {mg : Str → Option Value} {base : Heap} {Z : Ad}
theorem ok_greater (T : Txt K mg Z) : FnOk P w K mg base CX0 1 Z.greater Z.greater_d ["one", "other"] (spGreater K) := by
  refine T.F_greater.ok sc_greater (fun vs H Q E h => ?_) (fun cdv A outer s H vs Q E hr h => ?_)
  · obtain ⟨a, b, n, m, n', m', rfl, _⟩ := h
    rfl
  · obtain ⟨a, b, n, m, n', m', rfl, ha, hb, k⟩ := h
    refine ⟨_, (pss_cons (ps_if (pt_cmpR op_ne (pe_ix (r := rIx K) ix_seq (pv 0) pe_int (fun _ _ => rfl)) (pe_ix (r := rIx K) ix_seq (pv 1) pe_int (fun _ _ => rfl)) (nomark _))
        (pss_one (ps_ret (pe_cmpR op_gt (pe_ix (r := rIx K) ix_seq (pv 0) pe_int (fun _ _ => rfl)) (pe_ix (r := rIx K) ix_seq (pv 1) pe_int (fun _ _ => rfl)) (nomark _))))
        pss_nil)
      (pss_one (ps_ret (pe_cmpR op_gt (pe_ix (r := rIx K) ix_seq (pv 0) pe_int (fun _ _ => rfl)) (pe_ix (r := rIx K) ix_seq (pv 1) pe_int (fun _ _ => rfl)) (nomark _))))), ?_⟩
    k_allIn
    refine ite2 (fun e => ?_) (fun e => ?_)
    · k_allIn
      have c : ¬ n = n' := fun q => by subst q; simp at e
      unfold gr at k
      rw [if_neg c] at k
      exact k
    · k_allIn
      have c : n = n' := by simpa using e
      unfold gr at k
      rw [if_pos c] at k
      exact k
theorem nx_end (on : List Bool) (j : Int) (i : Nat) : nx on j i 0 = .non := rfl
theorem nx_yes {on : List Bool} {j : Int} {i k : Nat} (h : on.getD ((j + (1 + (i : Int))) % (on.length : Int)).toNat false = true) : nx on j i (k + 1) = .int ((j + (1 + (i : Int))) % (on.length : Int)) := by
  show (if _ then _ else _) = _
  rw [if_pos h]
theorem nx_no {on : List Bool} {j : Int} {i k : Nat} (h : on.getD ((j + (1 + (i : Int))) % (on.length : Int)).toNat false = false) : nx on j i (k + 1) = nx on j (i + 1) k := by
  show (if _ then _ else _) = _
  rw [if_neg (by rw [h]; decide)]
/-- a bool at a place that a remainder tells -/
theorem atI_rem {on : List Bool} {z : Int} (h : 0 < on.length) : atI (on.map V.bl) (z % (on.length : Int)) = some (.bl (on.getD (z % (on.length : Int)).toNat false)) := by
  have h1 : 0 ≤ z % (on.length : Int) := Int.emod_nonneg _ (by omega)
  have h2 : z % (on.length : Int) < on.length := Int.emod_lt_of_pos _ (by omega)
  have h3 : (z % (on.length : Int)).toNat < on.length := by omega
  refine at_of (j := (z % (on.length : Int)).toNat) (by omega) ?_
  rw [List.getElem?_map, List.getD_eq_getElem?_getD, List.getElem?_eq_getElem h3]
  rfl
theorem nx_kind (on : List Bool) (j : Int) : ∀ (k i : Nat), nx on j i k = .non ∨ ∃ x : Int, nx on j i k = .int x
  | 0, i => .inl rfl
  | k + 1, i => by
    cases h : on.getD ((j + (1 + (i : Int))) % (on.length : Int)).toNat false with
    | true => exact .inr ⟨_, nx_yes h⟩
    | false =>
      rw [nx_no h]
      exact nx_kind on j k (i + 1)
theorem ok_next_on (T : Txt K mg Z) : FnOk P w K mg base CX0 1 Z.next_on Z.next_on_d ["on", "at"] (spNext K) := by
  refine T.F_next_on.ok sc_next_on (fun vs H Q E h => ?_) (fun cdv A outer s H vs Q E hr h => ?_)
  · obtain ⟨a, on, j, rfl, _⟩ := h
    rfl
  · obtain ⟨a, on, j, rfl, ha, h0, h12, k⟩ := h
    refine ⟨_, (pss_cons (ps_set (i := 2) sc_next_on.nd rfl (Or.inl rfl) (pe_callB (r := rLenS K) call_lenS (by rfl) T.n_len PySem.boot_len (pa_cons (pv 0) pa_nil)))
      (pss_cons (ps_for PassesOwn.never rfl (pi_range2 (by rfl) T.n_range (pa_cons pe_int (pa_cons (pe_op op_add (pv 2) pe_int) pa_nil))) (pg_name (i := 3) sc_next_on.nd rfl (Or.inl rfl))
        (pss_cons (ps_set (i := 4) sc_next_on.nd rfl (Or.inl rfl) (pe_op op_mod (pe_op op_add (pv 1) (pv 3)) (pv 2)))
        (pss_one (ps_if (k_tr (K := K) (pe_ix (r := rIx K) ix_seq (pv 0) (pv 4) (fun _ _ => rfl)) (fun _ => rfl))
          (pss_one (ps_ret (pv 4)))
          pss_nil))))
      (pss_one (ps_ret pe_non)))), ?_⟩
    k_allIn
    refine for_range (fun i σ H' => ∃ v3 v4, σ = [some (.ref a), some (.int j), some (.int (on.length : Int)), v3, v4] ∧ H' = H ∧ nx on j i (on.length - i) = nx on j 0 on.length) ⟨none, none, by rw [List.length_map]; rfl, rfl, rfl⟩ ?_ ?_
    · rintro i σ H' hi ⟨v3, v4, rfl, rfl, e⟩
      rw [List.length_map] at hi
      have hi' : i < on.length := by omega
      have hp : (0 : Int) < on.length := by omega
      have ek : on.length - i = (on.length - (i + 1)) + 1 := by omega
      rw [ek] at e
      k_allIn
      refine w_ixL ha (atI_rem h0) ?_
      k_allIn
      refine ite2 (fun c => ?_) (fun c => ?_)
      · k_allIn
        rw [nx_yes c] at e
        rw [← e] at k
        exact k
      · k_allIn
        rw [nx_no (by simpa using c)] at e
        exact ⟨_, _, rfl, rfl, e⟩
    · rintro σ H' ⟨v3, v4, rfl, rfl, e⟩
      k_allIn
      have e0 : on.length - (((List.map V.bl on).length : Int) + 1 - 1).toNat = 0 := by rw [List.length_map]; omega
      rw [e0] at e
      rw [← e] at k
      exact k
theorem ok_law_next (T : Txt K mg Z) : FnOk P w K mg base CX0 1 Z.law_next Z.law_next_d ["_law_on", "_law_at"] (spNext K) := by
  refine T.F_law_next.ok sc_law_next (fun vs H Q E h => ?_) (fun cdv A outer s H vs Q E hr h => ?_)
  · obtain ⟨a, on, j, rfl, _⟩ := h
    rfl
  · obtain ⟨a, on, j, rfl, ha, h0, h12, k⟩ := h
    refine ⟨_, (pss_cons (ps_for PassesOwn.never rfl (pi_range2 (by rfl) T.n_range (pa_cons pe_int (pa_cons (pe_op op_add (pe_callB (r := rLenS K) call_lenS (by rfl) T.n_len PySem.boot_len (pa_cons (pv 0) pa_nil)) pe_int) pa_nil))) (pg_name (i := 2) sc_law_next.nd rfl (Or.inl rfl))
        (pss_one (ps_if (k_tr (K := K) (pe_ix (r := rIx K) ix_seq (pv 0) (pe_op op_mod (pe_op op_add (pv 1) (pv 2)) (pe_callB (r := rLenS K) call_lenS (by rfl) T.n_len PySem.boot_len (pa_cons (pv 0) pa_nil))) (fun _ _ => rfl)) (fun _ => rfl))
          (pss_one (ps_ret (pe_op op_mod (pe_op op_add (pv 1) (pv 2)) (pe_callB (r := rLenS K) call_lenS (by rfl) T.n_len PySem.boot_len (pa_cons (pv 0) pa_nil)))))
          pss_nil)))
      (pss_one (ps_ret pe_non))), ?_⟩
    k_allIn
    refine for_range (fun i σ H' => ∃ v2, σ = [some (.ref a), some (.int j), v2] ∧ H' = H ∧ nx on j i (on.length - i) = nx on j 0 on.length) ⟨none, rfl, rfl, rfl⟩ ?_ ?_
    · rintro i σ H' hi ⟨v2, rfl, rfl, e⟩
      rw [List.length_map] at hi
      have hi' : i < on.length := by omega
      have hp : (0 : Int) < on.length := by omega
      have ek : on.length - i = (on.length - (i + 1)) + 1 := by omega
      rw [ek] at e
      k_allIn
      rw [List.length_map]
      k_allIn
      refine w_ixL ha (atI_rem h0) ?_
      k_allIn
      refine ite2 (fun c => ?_) (fun c => ?_)
      · k_allIn
        rw [List.length_map]
        k_allIn
        rw [nx_yes c] at e
        rw [← e] at k
        exact k
      · k_allIn
        rw [nx_no (by simpa using c)] at e
        exact ⟨_, rfl, rfl, e⟩
    · rintro σ H' ⟨v2, rfl, rfl, e⟩
      k_allIn
      have e0 : on.length - (((List.map V.bl on).length : Int) + 1 - 1).toNat = 0 := by rw [List.length_map]; omega
      rw [e0] at e
      rw [← e] at k
      exact k
theorem ok_limit (T : Txt K mg Z) : FnOk P w K mg base CX0 1 Z.limit Z.limit_d ["many", "station"] spLimit := by
  refine T.F_limit.ok sc_limit (fun vs H Q E h => ?_) (fun cdv A outer s H vs Q E hr h => ?_)
  · obtain ⟨m, k, rfl, _⟩ := h
    rfl
  · obtain ⟨m, j, rfl, h0, h12, k⟩ := h
    refine ⟨_, (pss_one (ps_ret (pe_op op_add (pe_op op_add (pv 0) pe_int) (pe_op op_mul (pe_op op_mul pe_int (pv 0)) (pv 1))))), ?_⟩
    k_allIn
    refine w_mulL (by omega) ?_
    k_allIn
    exact k
theorem ok_bound (T : Txt K mg Z) : FnOk P w K mg base CX0 1 Z.bound Z.bound_d ["many"] spBound := by
  refine T.F_bound.ok sc_bound (fun vs H Q E h => ?_) (fun cdv A outer s H vs Q E hr h => ?_)
  · obtain ⟨m, rfl, _⟩ := h
    rfl
  · obtain ⟨m, rfl, h0, h12, k⟩ := h
    refine ⟨_, (pss_cons (ps_set (i := 1) sc_bound.nd rfl (Or.inl rfl) (pe_op op_add (pv 0) pe_int))
      (pss_one (ps_ret (pe_op op_mul (pv 1) (pv 0))))), ?_⟩
    k_allIn
    refine w_mulL (by omega) ?_
    k_allIn
    exact k
theorem ok_law_whole (T : Txt K mg Z) : FnOk P w K mg base CX0 1 Z.law_whole Z.law_whole_d ["_law_found"] spWhole := by
  refine T.F_law_whole.ok sc_law_whole (fun vs H Q E h => ?_) (fun cdv A outer s H vs Q E hr h => ?_)
  · obtain ⟨m, rfl, _⟩ := h
    rfl
  · obtain ⟨m, rfl, k⟩ := h
    refine ⟨_, (pss_one (ps_ret (pe_and (pe_callB (r := rIsi K) call_isi (by rfl) T.n_isinstance (by decide +kernel) (pa_cons (pv 0) (pa_cons (pe_bltn (v := .ty "int") (by rfl) T.n_int (by decide +kernel) rfl) pa_nil))) (pe_one (pe_not (pe_callB (r := rIsi K) call_isi (by rfl) T.n_isinstance (by decide +kernel) (pa_cons (pv 0) (pa_cons (pe_bltn (v := .ty "bool") (by rfl) T.n_bool (by decide +kernel) rfl) pa_nil)))))))), ?_⟩
    k_allIn
    refine ⟨_, _, _, _, true, rfl, .ty "int", .base (.int m), kit_ty (by decide +kernel), ?_⟩
    k_allIn
    refine ⟨_, _, _, _, false, rfl, .ty "bool", .base (.int m), kit_ty (by decide +kernel), ?_⟩
    k_allIn
    exact k
theorem ok_law_cell_at (T : Txt K mg Z) : FnOk P w K mg base CX0 1 Z.law_cell_at Z.law_cell_at_d ["_law_script", "_law_k"] (spCellAt K) := by
  refine T.F_law_cell_at.ok sc_law_cell_at (fun vs H Q E h => ?_) (fun cdv A outer s H vs Q E hr h => ?_)
  · obtain ⟨a, ns, i, rfl, _⟩ := h
    rfl
  · obtain ⟨a, ns, i, rfl, ha, k⟩ := h
    refine ⟨_, (pss_cons (ps_if (pt_cmpR op_lt (pv 1) (pe_callB (r := rLenS K) call_lenS (by rfl) T.n_len PySem.boot_len (pa_cons (pv 0) pa_nil)) (nomark _))
        (pss_one (ps_ret (pe_ix (r := rIx K) ix_seq (pv 0) (pv 1) (fun _ _ => rfl))))
        pss_nil)
      (pss_one (ps_ret pe_int))), ?_⟩
    k_allIn
    rw [List.length_map]
    k_allIn
    refine ite2 (fun c => ?_) (fun c => ?_)
    · have hl : i < ns.length := by have := of_decide_eq_true c; omega
      k_allIn
      refine w_ixL ha (atI_nat (j := i) (by rw [List.getElem?_map, List.getElem?_eq_getElem hl]; rfl)) ?_
      rw [List.getD_eq_getElem?_getD, List.getElem?_eq_getElem hl] at k
      exact k
    · have hl : ns.length ≤ i := by have := of_decide_eq_false (eq_false_of_ne_true c); omega
      k_allIn
      rw [List.getD_eq_getElem?_getD, List.getElem?_eq_none hl] at k
      exact k
theorem four (b0 b1 b2 b3 : Int) (z : Int) : ∃ y, atI [V.int b0, V.int b1, V.int b2, V.int b3] (z % 4) = some (.int y) := by
  have h : z % 4 = 0 ∨ z % 4 = 1 ∨ z % 4 = 2 ∨ z % 4 = 3 := by omega
  rcases h with h | h | h | h <;> rw [h] <;> exact ⟨_, rfl⟩
theorem ok_law (T : Txt K mg Z) : FnOk P w K mg base CX0 2 Z.law Z.law_d ["_law_script"] (spLaw K) := by
  have G_greater := ok_greater (P := P) (w := w) (base := base) T
  have G_next_on := ok_next_on (P := P) (w := w) (base := base) T
  have G_law_next := ok_law_next (P := P) (w := w) (base := base) T
  have G_limit := ok_limit (P := P) (w := w) (base := base) T
  have G_bound := ok_bound (P := P) (w := w) (base := base) T
  have G_law_whole := ok_law_whole (P := P) (w := w) (base := base) T
  have G_law_cell_at := ok_law_cell_at (P := P) (w := w) (base := base) T
  refine T.F_law.ok sc_law (fun vs H Q E h => ?_) (fun cdv A outer s H vs Q E hr h => ?_)
  · obtain ⟨a, ns, rfl, _⟩ := h
    rfl
  · obtain ⟨a, ns, rfl, hS, hl, k⟩ := h
    refine ⟨_, (pss_cons (ps_set (i := 1) sc_law.nd rfl (Or.inl rfl) (pe_op op_mod (pe_call G_law_cell_at (hr.mono (by omega)) rfl T.g_law_cell_at T.F_law_cell_at.kp T.b_law_cell_at .nil pass0 (pa_cons (pv 0) (pa_cons pe_int pa_nil))) (pe_op op_pow pe_int pe_int)))
      (pss_cons (ps_set (i := 2) sc_law.nd rfl (Or.inl rfl) (pe_tup (pa_cons (pv 1) (pa_cons (pe_op op_mod (pe_call G_law_cell_at (hr.mono (by omega)) rfl T.g_law_cell_at T.F_law_cell_at.kp T.b_law_cell_at .nil pass0 (pa_cons (pv 0) (pa_cons pe_int pa_nil))) pe_int) pa_nil))))
      (pss_cons (ps_set (i := 3) sc_law.nd rfl (Or.inl rfl) (pe_op op_mod (pe_call G_law_cell_at (hr.mono (by omega)) rfl T.g_law_cell_at T.F_law_cell_at.kp T.b_law_cell_at .nil pass0 (pa_cons (pv 0) (pa_cons pe_int pa_nil))) (pe_op op_pow pe_int pe_int)))
      (pss_cons (ps_set (i := 4) sc_law.nd rfl (Or.inl rfl) (pe_ix (r := rIx K) ix_seq (pe_lst (pa_cons (pv 1) (pa_cons (pe_op op_add (pv 1) pe_int) (pa_cons (pe_callB (call_max2 rfl) (by rfl) T.n_max (by decide +kernel) (pa_cons (pe_op op_sub (pv 1) pe_int) (pa_cons pe_int pa_nil))) (pa_cons (pv 3) pa_nil))))) (pe_op op_mod (pe_call G_law_cell_at (hr.mono (by omega)) rfl T.g_law_cell_at T.F_law_cell_at.kp T.b_law_cell_at .nil pass0 (pa_cons (pv 0) (pa_cons pe_int pa_nil))) pe_int) (fun _ _ => rfl)))
      (pss_cons (ps_set (i := 5) sc_law.nd rfl (Or.inl rfl) (pe_tup (pa_cons (pv 4) (pa_cons (pe_op op_mod (pe_call G_law_cell_at (hr.mono (by omega)) rfl T.g_law_cell_at T.F_law_cell_at.kp T.b_law_cell_at .nil pass0 (pa_cons (pv 0) (pa_cons pe_int pa_nil))) pe_int) pa_nil))))
      (pss_cons (ps_for PassesOwn.never rfl (k_list (K := K) (pe_lst (pa_cons (pe_tup (pa_cons (pv 2) (pa_cons (pv 5) pa_nil))) (pa_cons (pe_tup (pa_cons (pv 5) (pa_cons (pv 2) pa_nil))) (pa_cons (pe_tup (pa_cons (pv 2) (pa_cons (pv 2) pa_nil))) pa_nil))))) (k_gtup (K := K) 2 rfl (pgs_cons (pg_name (i := 6) sc_law.nd rfl (Or.inl rfl)) (pgs_cons (pg_name (i := 7) sc_law.nd rfl (Or.inl rfl)) pgs_nil)))
        (pss_cons (ps_set (i := 8) sc_law.nd rfl (Or.inl rfl) (pe_call G_greater (hr.mono (by omega)) rfl T.g_greater T.F_greater.kp T.b_greater .nil pass0 (pa_cons (pv 6) (pa_cons (pv 7) pa_nil))))
        (pss_one (ps_if (PW.pt (pw_or (pt_not (k_tr (K := K) (pe_callB (r := rIsi K) call_isi (by rfl) T.n_isinstance (by decide +kernel) (pa_cons (pv 8) (pa_cons (pe_bltn (v := .ty "bool") (by rfl) T.n_bool (by decide +kernel) rfl) pa_nil))) (fun _ => rfl))) (pw_or1 (pt_cmpR op_ne (pv 8) (pe_cmpR (r := rGtP K) (op_gtP (hd_of hr)) (pv 6) (pv 7) (nomark _)) (nomark _)))))
          (pss_one (ps_ret pe_bl))
          pss_nil))))
      (pss_cons (ps_set (i := 9) sc_law.nd rfl (Or.inl rfl) (pe_op op_add pe_int (pe_op op_mod (pe_call G_law_cell_at (hr.mono (by omega)) rfl T.g_law_cell_at T.F_law_cell_at.kp T.b_law_cell_at .nil pass0 (pa_cons (pv 0) (pa_cons pe_int pa_nil))) pe_int)))
      (pss_cons (ps_set (i := 10) sc_law.nd rfl (Or.inl rfl) (pe_lst pa_nil))
      (pss_cons (ps_set (i := 11) sc_law.nd rfl (Or.inl rfl) (pe_call G_law_cell_at (hr.mono (by omega)) rfl T.g_law_cell_at T.F_law_cell_at.kp T.b_law_cell_at .nil pass0 (pa_cons (pv 0) (pa_cons pe_int pa_nil))))
      (pss_cons (ps_for PassesOwn.never rfl (pi_range1 (by rfl) T.n_range (pa_cons (pv 9) pa_nil)) (pg_name (i := 12) sc_law.nd rfl (Or.inl rfl))
        (pss_cons (ps_expr (k_bm (K := K) PySem.F.plainAttrs_list PySem.F.slot_list_append PySem.F.type_list_append mt_append (pv 10) (pa_cons (pe_cmpR op_eq (pe_op op_mod (pv 11) pe_int) pe_int (nomark _)) pa_nil)))
        (pss_one (ps_set (i := 11) sc_law.nd rfl (Or.inl rfl) (pe_op op_fdiv (pv 11) pe_int)))))
      (pss_cons (ps_set (i := 13) sc_law.nd rfl (Or.inl rfl) (pe_op op_mod (pe_call G_law_cell_at (hr.mono (by omega)) rfl T.g_law_cell_at T.F_law_cell_at.kp T.b_law_cell_at .nil pass0 (pa_cons (pv 0) (pa_cons pe_int pa_nil))) (pv 9)))
      (pss_cons (ps_set (i := 8) sc_law.nd rfl (Or.inl rfl) (pe_call G_next_on (hr.mono (by omega)) rfl T.g_next_on T.F_next_on.kp T.b_next_on .nil pass0 (pa_cons (pe_callTy (r := rListOf K) call_listOf (by rfl) T.n_list (by decide +kernel) (pa_cons (pv 10) pa_nil)) (pa_cons (pv 13) pa_nil))))
      (pss_cons (ps_set (i := 14) sc_law.nd rfl (Or.inl rfl) (pe_call G_law_next (hr.mono (by omega)) rfl T.g_law_next T.F_law_next.kp T.b_law_next .nil pass0 (pa_cons (pv 10) (pa_cons (pv 13) pa_nil))))
      (pss_cons (ps_if (PW.pt (pw_or (pt_cmpR op_ne (pv 8) (pv 14) (nomark _)) (pw_or (pt_cmpR op_ne (pe_cmpR op_isNo (pv 8) pe_non (nomark _)) (pe_cmpR op_isNo (pv 14) pe_non (nomark _)) (nomark _)) (pw_or1 (PW.pt (pw_and (pt_cmpR op_notNo (pv 14) pe_non (nomark _)) (pw_and1 (pt_not (k_tr (K := K) (pe_call G_law_whole (hr.mono (by omega)) rfl T.g_law_whole T.F_law_whole.kp T.b_law_whole .nil pass0 (pa_cons (pv 8) pa_nil)) (fun _ => rfl))))))))))
        (pss_one (ps_ret pe_bl))
        pss_nil)
      (pss_cons (ps_if (pt_cmpR op_ne (pe_call G_limit (hr.mono (by omega)) rfl T.g_limit T.F_limit.kp T.b_limit .nil pass0 (pa_cons (pv 9) (pa_cons (pv 13) pa_nil))) (pe_op op_add (pe_op op_add (pv 9) pe_int) (pe_op op_mul (pe_op op_mul pe_int (pv 9)) (pv 13))) (nomark _))
        (pss_one (ps_ret pe_bl))
        pss_nil)
      (pss_one (ps_ret (pe_cmpR op_eq (pe_call G_bound (hr.mono (by omega)) rfl T.g_bound T.F_bound.kp T.b_bound .nil pass0 (pa_cons (pv 9) pa_nil)) (pe_op op_mul (pe_op op_add (pv 9) pe_int) (pv 9)) (nomark _))))))))))))))))))), ?_⟩
    k_allIn
    refine ⟨a, ns, 0, rfl, hS, ?_⟩
    k_allIn
    refine ⟨a, ns, 1, rfl, hS, ?_⟩
    k_allIn
    refine w_newS (by simp) fun p H1 np s1 e1 => ?_
    k_allIn
    refine ⟨a, ns, 2, rfl, by k_upd, ?_⟩
    k_allIn
    refine ⟨_, _, rfl, ?_⟩
    k_allIn
    refine w_newS (by simp) fun l H2 nl s2 e2 => ?_
    k_allIn
    refine ⟨a, ns, 3, rfl, by k_upd, ?_⟩
    k_allIn
    generalize ns.getD 0 0 % 10 ^ Int.toNat 12 = c0 at *
    obtain ⟨num, hnum⟩ := four c0 (c0 + 1) (if 0 > c0 - 1 then 0 else c0 - 1) (ns.getD 2 0 % 10 ^ Int.toNat 12) (ns.getD 3 0)
    refine w_ixL (SqL.of e2) hnum ?_
    k_allIn
    refine ⟨a, ns, 4, rfl, by k_upd, ?_⟩
    k_allIn
    refine w_newS (by simp) fun q H3 nq s3 e3 => ?_
    k_allIn
    refine w_newS (by simp) fun t1 H4 n4 s4 e4 => ?_
    k_allIn
    refine w_newS (by simp) fun t2 H5 n5 s5 e5 => ?_
    k_allIn
    refine w_newS (by simp) fun t3 H6 n6 s6 e6 => ?_
    k_allIn
    refine w_newS (by simp) fun l2 H7 n7 s7 e7 => ?_
    k_allIn
    have hp : H7 p = some (.tup [.int c0, .int (ns.getD 1 0 % 12)]) := by k_memK
    have hq : H7 q = some (.tup [.int num, .int (ns.getD 4 0 % 12)]) := by k_memK
    have h1 : H7 t1 = some (.tup [.ref p, .ref q]) := by k_memK
    have h2 : H7 t2 = some (.tup [.ref q, .ref p]) := by k_memK
    have h3 : H7 t3 = some (.tup [.ref p, .ref p]) := by k_memK
    have hS7 : SqL K H7 a (ns.map V.int) := by k_upd
    refine for_list (xs := [.ref t1, .ref t2, .ref t3]) (fun i σ H' => ∃ v6 v7 v8, σ = [some (.ref a), some (.int c0), some (.ref p), some (.int (ns.getD 2 0 % 10 ^ Int.toNat 12)), some (.int num), some (.ref q), v6, v7, v8, none, none, none, none, none, none] ∧ H' = H7) ⟨none, none, none, rfl, rfl⟩ (fun i σ H' _ ⟨_, _, _, _, e⟩ => by rw [e]; k_upd) ?_ ?_
    · rintro i x σ H' hi ⟨v6, v7, v8, rfl, rfl⟩
      obtain ⟨t, u1, u2, n, m, n', m', rfl, ht, hu1, hu2⟩ : ∃ t u1 u2 n m n' m', x = .ref t ∧ H' t = some (.tup [.ref u1, .ref u2]) ∧ H' u1 = some (.tup [.int n, .int m]) ∧ H' u2 = some (.tup [.int n', .int m']) := by
        match i, hi with
        | 0, hi => exact ⟨t1, p, q, _, _, _, _, (Option.some.inj hi).symm, h1, hp, hq⟩
        | 1, hi => exact ⟨t2, q, p, _, _, _, _, (Option.some.inj hi).symm, h2, hq, hp⟩
        | 2, hi => exact ⟨t3, p, p, _, _, _, _, (Option.some.inj hi).symm, h3, hp, hp⟩
        | i + 3, hi => simp at hi
      k_allIn
      refine ⟨u1, u2, n, m, n', m', rfl, by k_ownIn, by k_ownIn, ?_⟩
      k_allIn
      refine ⟨_, _, _, _, true, rfl, .ty "bool", .base (.bl _), kit_ty (by decide +kernel), ?_⟩
      k_allIn
      refine ⟨u1, u2, n, m, n', m', rfl, rfl, by k_ownIn, by k_ownIn, ?_⟩
      k_allIn
      exact ⟨_, _, _, rfl, rfl⟩
    · rintro σ Hb ⟨v6, v7, v8, rfl, rfl⟩
      k_allIn
      refine ⟨a, ns, 5, rfl, by k_upd, ?_⟩
      k_allIn
      refine w_newS (by simp) fun lo H8 no s8 e8 => ?_
      k_allIn
      refine ⟨a, ns, 6, rfl, by k_upd, ?_⟩
      k_allIn
      obtain ⟨many, em, m1, m12⟩ : ∃ m : Nat, 1 + ns.getD 5 0 % 12 = (m : Int) ∧ 1 ≤ m ∧ m ≤ 12 := ⟨(1 + ns.getD 5 0 % 12).toNat, by omega, by omega, by omega⟩
      rw [em]
      k_allIn
      refine for_range (fun i σ H' => ∃ (v12 : Option V) (z : Int) (bs : List Bool), σ = [some (.ref a), some (.int c0), some (.ref p), some (.int (ns.getD 2 0 % 10 ^ Int.toNat 12)), some (.int num), some (.ref q), v6, v7, v8, some (.int (many : Int)), some (.ref lo), some (.int z), v12, none, none]
        ∧ bs.length = i ∧ Same Hb H' ∧ H' lo = some (.lst (bs.map V.bl))) ⟨none, _, [], rfl, rfl, s8, e8⟩ ?_ ?_
      · rintro i σ H' hi ⟨v12, z, bs, rfl, hb, sb, eb⟩
        k_allIn
        refine w_append (by k_memK) (small1000 (by rw [List.length_map]; omega)) ?_
        k_allIn
        exact ⟨_, _, bs ++ [_], rfl, by rw [List.length_append, hb]; rfl, same_mut sb no, by rw [upd_same, List.map_append]; rfl⟩
      · rintro σ H9 ⟨v12, z, bs, rfl, hb, sb, eb⟩
        have hb' : bs.length = many := by omega
        k_allIn
        refine ⟨a, ns, 7, rfl, by k_upd, ?_⟩
        have hm0 : (0 : Int) < (many : Int) := by omega
        k_allIn
        refine w_listOf (by k_upd) fun l3 H10 n10 s10 e10 => ?_
        k_allIn
        generalize ns.getD 7 0 % (many : Int) = at_ at *
        refine ⟨l3, bs, at_, rfl, by k_upd, by omega, by omega, ?_⟩
        k_allIn
        refine ⟨lo, bs, at_, rfl, by k_upd, by omega, by omega, ?_⟩
        have hv := nx_kind bs at_ bs.length 0
        generalize nx bs at_ 0 bs.length = v at *
        rcases hv with rfl | ⟨x, rfl⟩
        · k_allIn
          refine ⟨_, _, rfl, by omega, by omega, ?_⟩
          k_allIn
          refine w_mulL (by omega) ?_
          k_allIn
          refine ⟨_, rfl, by omega, by omega, ?_⟩
          k_allIn
          refine w_mulL (by omega) ?_
          k_allIn
          rw [decide_eq_true rfl]
          exact k _
        · k_allIn
          refine ⟨_, rfl, ?_⟩
          k_allIn
          refine ⟨_, _, rfl, by omega, by omega, ?_⟩
          k_allIn
          refine w_mulL (by omega) ?_
          k_allIn
          refine ⟨_, rfl, by omega, by omega, ?_⟩
          k_allIn
          refine w_mulL (by omega) ?_
          k_allIn
          rw [decide_eq_true rfl]
          exact k _
end
theorem all_mk {l : PySem.W.OpenLaw} {w : World} {K : PySem.W.Frag} {h : Heap} {mg : Str → Option Value} {fa f0 f1 f2 f3 f4 f5 f6 f7 : Addr} (X : K.In h) (G : h.Ns mainGlobals mg) (hfa : mg "law" = some (.ref fa))
    {od0 an0 : Option Addr} {sl0 : Array (Option Value)} {oc0 kV0 dc0 pm0 cd0 ct0 : Value} {od1 an1 : Option Addr} {sl1 : Array (Option Value)} {oc1 kV1 dc1 pm1 cd1 ct1 : Value} {od2 an2 : Option Addr} {sl2 : Array (Option Value)} {oc2 kV2 dc2 pm2 cd2 ct2 : Value} {od3 an3 : Option Addr} {sl3 : Array (Option Value)} {oc3 kV3 dc3 pm3 cd3 ct3 : Value} {od4 an4 : Option Addr} {sl4 : Array (Option Value)} {oc4 kV4 dc4 pm4 cd4 ct4 : Value} {od5 an5 : Option Addr} {sl5 : Array (Option Value)} {oc5 kV5 dc5 pm5 cd5 ct5 : Value} {od6 an6 : Option Addr} {sl6 : Array (Option Value)} {oc6 kV6 dc6 pm6 cd6 ct6 : Value} {od7 an7 : Option Addr} {sl7 : Array (Option Value)} {oc7 kV7 dc7 pm7 cd7 ct7 : Value}
    (a0 : PySem.W.nsIn K mainGlobals "greater" = some (some (.ref f0)))
    (l0 : K.lookup f0 = some ⟨oc0, od0, .func (PySem.W.fnOf "greater" "greater" (defArgs s_greater) (defBody s_greater) (defScope s_greater) .none kV0 dc0 pm0 an0 cd0 ct0), sl0⟩)
    (c0 : PySem.W.codeIn K cd0 "greater" = true)
    (k0 : PySem.W.keepIn K (.ref f0) = true)
    (a1 : PySem.W.nsIn K mainGlobals "next_on" = some (some (.ref f1)))
    (l1 : K.lookup f1 = some ⟨oc1, od1, .func (PySem.W.fnOf "next_on" "next_on" (defArgs s_next_on) (defBody s_next_on) (defScope s_next_on) .none kV1 dc1 pm1 an1 cd1 ct1), sl1⟩)
    (c1 : PySem.W.codeIn K cd1 "next_on" = true)
    (k1 : PySem.W.keepIn K (.ref f1) = true)
    (a2 : PySem.W.nsIn K mainGlobals "limit" = some (some (.ref f2)))
    (l2 : K.lookup f2 = some ⟨oc2, od2, .func (PySem.W.fnOf "limit" "limit" (defArgs s_limit) (defBody s_limit) (defScope s_limit) .none kV2 dc2 pm2 an2 cd2 ct2), sl2⟩)
    (c2 : PySem.W.codeIn K cd2 "limit" = true)
    (k2 : PySem.W.keepIn K (.ref f2) = true)
    (a3 : PySem.W.nsIn K mainGlobals "bound" = some (some (.ref f3)))
    (l3 : K.lookup f3 = some ⟨oc3, od3, .func (PySem.W.fnOf "bound" "bound" (defArgs s_bound) (defBody s_bound) (defScope s_bound) .none kV3 dc3 pm3 an3 cd3 ct3), sl3⟩)
    (c3 : PySem.W.codeIn K cd3 "bound" = true)
    (k3 : PySem.W.keepIn K (.ref f3) = true)
    (a4 : PySem.W.nsIn K mainGlobals "_law_whole" = some (some (.ref f4)))
    (l4 : K.lookup f4 = some ⟨oc4, od4, .func (PySem.W.fnOf "_law_whole" "_law_whole" (defArgs s_law_whole) (defBody s_law_whole) (defScope s_law_whole) .none kV4 dc4 pm4 an4 cd4 ct4), sl4⟩)
    (c4 : PySem.W.codeIn K cd4 "_law_whole" = true)
    (k4 : PySem.W.keepIn K (.ref f4) = true)
    (a5 : PySem.W.nsIn K mainGlobals "_law_cell_at" = some (some (.ref f5)))
    (l5 : K.lookup f5 = some ⟨oc5, od5, .func (PySem.W.fnOf "_law_cell_at" "_law_cell_at" (defArgs s_law_cell_at) (defBody s_law_cell_at) (defScope s_law_cell_at) .none kV5 dc5 pm5 an5 cd5 ct5), sl5⟩)
    (c5 : PySem.W.codeIn K cd5 "_law_cell_at" = true)
    (k5 : PySem.W.keepIn K (.ref f5) = true)
    (a6 : PySem.W.nsIn K mainGlobals "_law_next" = some (some (.ref f6)))
    (l6 : K.lookup f6 = some ⟨oc6, od6, .func (PySem.W.fnOf "_law_next" "_law_next" (defArgs s_law_next) (defBody s_law_next) (defScope s_law_next) .none kV6 dc6 pm6 an6 cd6 ct6), sl6⟩)
    (c6 : PySem.W.codeIn K cd6 "_law_next" = true)
    (k6 : PySem.W.keepIn K (.ref f6) = true)
    (a7 : PySem.W.nsIn K mainGlobals "law" = some (some (.ref f7)))
    (l7 : K.lookup f7 = some ⟨oc7, od7, .func (PySem.W.fnOf "law" "law" (defArgs s_law) (defBody s_law) (defScope s_law) .none kV7 dc7 pm7 an7 cd7 ct7), sl7⟩)
    (c7 : PySem.W.codeIn K cd7 "law" = true)
    (k7 : PySem.W.keepIn K (.ref f7) = true)
    (z_bool : PySem.W.nsIn K mainGlobals "bool" = some none)
    (z_int : PySem.W.nsIn K mainGlobals "int" = some none)
    (z_isinstance : PySem.W.nsIn K mainGlobals "isinstance" = some none)
    (z_len : PySem.W.nsIn K mainGlobals "len" = some none)
    (z_list : PySem.W.nsIn K mainGlobals "list" = some none)
    (z_max : PySem.W.nsIn K mainGlobals "max" = some none)
    (z_range : PySem.W.nsIn K mainGlobals "range" = some none) :
    ∃ fd : FuncData, (∀ (s : Shared) (v : Value), BindsTo s fd ⟨[v], []⟩ [("_law_script", v)]) ∧ ∀ base : Heap, K.In base → base.Ns mainGlobals mg → FnOk l.prog w K mg base CX0 2 fa fd ["_law_script"] (spLaw K) := by
  have e := hfa.symm.trans (PySem.W.mg_of X G a7)
  cases e
  have F0 := fun_mk (st := s_greater) l0 c0 k0
  have F1 := fun_mk (st := s_next_on) l1 c1 k1
  have F2 := fun_mk (st := s_limit) l2 c2 k2
  have F3 := fun_mk (st := s_bound) l3 c3 k3
  have F4 := fun_mk (st := s_law_whole) l4 c4 k4
  have F5 := fun_mk (st := s_law_cell_at) l5 c5 k5
  have F6 := fun_mk (st := s_law_next) l6 c6 k6
  have F7 := fun_mk (st := s_law) l7 c7 k7
  have b0 := F0.binds (ps := ["one", "other"]) fun _ _ _ _ _ _ us hl => match us, hl with | [_, _], _ => rfl
  have b1 := F1.binds (ps := ["on", "at"]) fun _ _ _ _ _ _ us hl => match us, hl with | [_, _], _ => rfl
  have b2 := F2.binds (ps := ["many", "station"]) fun _ _ _ _ _ _ us hl => match us, hl with | [_, _], _ => rfl
  have b3 := F3.binds (ps := ["many"]) fun _ _ _ _ _ _ us hl => match us, hl with | [_], _ => rfl
  have b4 := F4.binds (ps := ["_law_found"]) fun _ _ _ _ _ _ us hl => match us, hl with | [_], _ => rfl
  have b5 := F5.binds (ps := ["_law_script", "_law_k"]) fun _ _ _ _ _ _ us hl => match us, hl with | [_, _], _ => rfl
  have b6 := F6.binds (ps := ["_law_on", "_law_at"]) fun _ _ _ _ _ _ us hl => match us, hl with | [_, _], _ => rfl
  have b7 := F7.binds (ps := ["_law_script"]) fun _ _ _ _ _ _ us hl => match us, hl with | [_], _ => rfl
  have T : Txt K mg ⟨_, _, _, _, _, _, _, _, _, _, _, _, _, _, _, _⟩ := ⟨F0, b0, PySem.W.mg_of X G a0, F1, b1, PySem.W.mg_of X G a1, F2, b2, PySem.W.mg_of X G a2, F3, b3, PySem.W.mg_of X G a3, F4, b4, PySem.W.mg_of X G a4, F5, b5, PySem.W.mg_of X G a5, F6, b6, PySem.W.mg_of X G a6, F7, b7, PySem.W.mg_of X G a7, PySem.W.mg_none_of X G z_bool, PySem.W.mg_none_of X G z_int, PySem.W.mg_none_of X G z_isinstance, PySem.W.mg_none_of X G z_len, PySem.W.mg_none_of X G z_list, PySem.W.mg_none_of X G z_max, PySem.W.mg_none_of X G z_range⟩
  exact ⟨PySem.W.fnOf "law" "law" (defArgs s_law) (defBody s_law) (defScope s_law) .none kV7 dc7 pm7 an7 cd7 ct7, fun s v => .of_eq rfl, fun base _ _ => ok_law T⟩
end Pr
open PySem PySem.W PyProof.Rows
set_option maxRecDepth 100000 in
set_option maxHeartbeats 0 in
theorem PySem.Challenge.cw_passring_k01_rules_holds : PySem.Challenge.rw_passring_k01_rules.Holds := by
  w_on; o_law; k_head; (case hw => w_witness2)
  k_fill
  refine L2.walk_of (l := PySem.Challenge.rw_passring_k01_rules) (n := 63) (k := 2) (x := "_law_script") (CX := fun _ => L2.CX0) (sp := fun w => Pr.spLaw _) rfl (by decide) rfl ⟨rfl, by decide, by decide⟩ (fun w h Y => PySem.W.kIn_of Y) ?F (fun _ _ a ns hl _ hS => ⟨a, ns, rfl, hS, hl, fun _ => rfl⟩) (fun _ _ _ _ _ h => h)
  case F =>
    intro w mg fa h KX G hmg
    refine' Pr.all_mk KX G hmg ?a0 ?l0 ?c0 ?k0 ?a1 ?l1 ?c1 ?k1 ?a2 ?l2 ?c2 ?k2 ?a3 ?l3 ?c3 ?k3 ?a4 ?l4 ?c4 ?k4 ?a5 ?l5 ?c5 ?k5 ?a6 ?l6 ?c6 ?k6 ?a7 ?l7 ?c7 ?k7 ?z_bool ?z_int ?z_isinstance ?z_len ?z_list ?z_max ?z_range
    (case a0 => k_is)
    (case l0 => k_is)
    (case c0 => k_is)
    (case k0 => k_is)
    (case a1 => k_is)
    (case l1 => k_is)
    (case c1 => k_is)
    (case k1 => k_is)
    (case a2 => k_is)
    (case l2 => k_is)
    (case c2 => k_is)
    (case k2 => k_is)
    (case a3 => k_is)
    (case l3 => k_is)
    (case c3 => k_is)
    (case k3 => k_is)
    (case a4 => k_is)
    (case l4 => k_is)
    (case c4 => k_is)
    (case k4 => k_is)
    (case a5 => k_is)
    (case l5 => k_is)
    (case c5 => k_is)
    (case k5 => k_is)
    (case a6 => k_is)
    (case l6 => k_is)
    (case c6 => k_is)
    (case k6 => k_is)
    (case a7 => k_is)
    (case l7 => k_is)
    (case c7 => k_is)
    (case k7 => k_is)
    (case z_bool => k_is)
    (case z_int => k_is)
    (case z_isinstance => k_is)
    (case z_len => k_is)
    (case z_list => k_is)
    (case z_max => k_is)
    (case z_range => k_is)

