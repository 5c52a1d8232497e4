import PyProof.Rows.All
import Wide.All
import OpenK.AllK
import Wide.FinOn
import HandS.ForMost
import HandS.IsInst
import HandS.TupLe
import KE.DataCmp
import KE.SortData
import HandS.Evl
import HandS.Flow
import KE.SortKeyHeap
import KE.KSortKey
import HandS.Lambda
import HandS.Nested
import HandS.EndTab
import KE.KNestM
import KE.KLam
import HandS.ForExc
import HandS.TryMany
import HandS.TryOnly
import HandS.More
import HandS.ExcIs
import KE.DataFind
import HandS.StrMore
import HandS.FStr
import HandS.Text
import PyProof.NeKinds
import PySem.Challenge.RW_passring_k10_whole_desk
set_option Elab.async false
set_option maxRecDepth 100000
set_option maxHeartbeats 4000000
set_option autoImplicit false
namespace RG
/-! ### the mirror: a ring as plain data -/
abbrev Stamp := Nat × Nat
def slt (a b : Stamp) : Bool := decide (a.1 < b.1 ∨ (a.1 = b.1 ∧ a.2 < b.2))
structure Tok where
  sp : Stamp
  pl : Nat
  win : Option Nat
  best : Option (Int × Nat)
structure Stn where
  on : Bool
  seen : Stamp
  sil : Nat
  told : Nat
  line : List (Int × Int)
inductive Rw where
  | sent (t s : Nat) (r m : Int)
  | made (t s n : Nat)
  | drop (t s : Nat) (p : Stamp)
  | lost (t : Nat) (p : Stamp)
structure Ring where
  many : Nat
  st : Nat → Stn
  tk : List Tok
  rw : List Rw
  time : Nat
def up {α : Type} (f : Nat → α) (i : Nat) (v : α) : Nat → α := fun j => if j = i then v else f j
theorem up_same {α : Type} (f : Nat → α) (i : Nat) (v : α) : up f i v i = v := by simp [up]
theorem up_ne {α : Type} (f : Nat → α) {i j : Nat} (v : α) (h : j ≠ i) : up f i v j = f j := by simp [up, h]
/-- the next one on behind p, from p + i, k looked at -/
def nxF (on : Nat → Bool) (many p : Nat) : Nat → Nat → Option Nat
  | _, 0 => none
  | i, k + 1 => if on ((p + i) % many) = true then some ((p + i) % many) else nxF on many p (i + 1) k
def nxO (on : Nat → Bool) (many p : Nat) : Option Nat := nxF on many p 1 many
def nx (on : Nat → Bool) (many p : Nat) : Nat := (nxO on many p).getD 0
def hear (t : Tok) (need : Int) (s : Nat) : Tok :=
  match t.best with
  | none => { t with best := some (need, s) }
  | some b => if b.1 < need then { t with best := some (need, s) } else t
def beginR (t : Tok) : Tok := { t with win := t.best.map (·.2), best := none }
def arrive (t : Tok) (here : Nat) : Tok := { (if here ≤ t.pl then beginR t else t) with pl := here }
/-- the winner sends -/
def sends (time here : Nat) (t : Tok) (s : Stn) : Tok × Stn × List Rw :=
  match s.line with
  | [] => (t, s, [])
  | e :: rest => if t.win = some here then ({ t with win := none }, { s with line := rest, told := 0 }, [.sent time here e.1 e.2]) else (t, s, [])
def tells (here : Nat) (t : Tok) (s : Stn) : Tok × Stn :=
  match s.line with
  | [] => (t, s)
  | e :: _ => (hear t (e.1 + s.told) here, { s with told := s.told + 1 })
structure Acc where
  st : Nat → Stn
  hd : Nat → Bool
  left : List Tok
  rw : List Rw
def goTok (many time : Nat) (a : Acc) (t : Tok) : Acc :=
  let here := nx (fun i => (a.st i).on) many t.pl
  if slt t.sp (a.st here).seen = true then { a with hd := up a.hd here true, rw := a.rw ++ [.drop time here t.sp] }
  else
    let x := sends time here (arrive t here) { a.st here with seen := t.sp }
    let y := tells here x.1 x.2.1
    { st := up a.st here y.2, hd := up a.hd here true, left := a.left ++ [y.1], rw := a.rw ++ x.2.2 }
def insTok (t : Tok) : List Tok → List Tok
  | [] => [t]
  | u :: us => if slt u.sp t.sp = true then t :: u :: us else u :: insTok t us
def born (R : Ring) (i : Nat) : Ring :=
  let p : Stamp := ((R.st i).seen.1 + 1, i)
  { R with st := up R.st i { R.st i with seen := p, sil := 0 }, tk := insTok ⟨p, i, none, none⟩ R.tk, rw := R.rw ++ [.made R.time i p.1] }
def limit (many i : Nat) : Nat := many + 1 + 2 * many * i
def bornIf (R : Ring) (i : Nat) : Ring := if (R.st i).on = true ∧ limit R.many i < (R.st i).sil then born R i else R
def acc0 (R : Ring) : Acc := ⟨R.st, fun _ => false, [], R.rw⟩
def went (R : Ring) : Acc := R.tk.foldl (goTok R.many (R.time + 1)) (acc0 R)
def silent (a : Acc) : Nat → Stn := fun i => { a.st i with sil := if a.hd i = true then 0 else (a.st i).sil + 1 }
def moved (R : Ring) : Ring := { R with st := silent (went R), tk := (went R).left, rw := (went R).rw, time := R.time + 1 }
def step (R : Ring) : Ring := (List.range R.many).foldl bornIf (moved R)
def lose (R : Ring) (k : Nat) : Ring :=
  match R.tk[k]? with
  | none => R
  | some t => { R with tk := R.tk.eraseIdx k, rw := R.rw ++ [.lost R.time t.sp] }
def put (R : Ring) (i : Nat) (r m : Int) : Ring := { R with st := up R.st i { R.st i with line := (R.st i).line ++ [(r, m)] } }
def off (R : Ring) (i : Nat) : Ring :=
  { R with st := up R.st i { R.st i with on := false }, tk := R.tk.filter (fun t => t.pl != i), rw := R.rw ++ (R.tk.filter (fun t => t.pl == i)).map fun t => .lost R.time t.sp }
def turnOn (R : Ring) (i : Nat) : Ring := { R with st := up R.st i { R.st i with on := true, sil := 0 } }
def ring0 (many : Nat) : Ring := born ⟨many, fun _ => ⟨true, (0, 0), 0, 0, []⟩, [], [], 0⟩ 0

/-! ### stamps -/
theorem slt_iff (a b : Stamp) : slt a b = true ↔ a.1 < b.1 ∨ (a.1 = b.1 ∧ a.2 < b.2) := by simp [slt]
theorem slt_not (a b : Stamp) : slt a b = false ↔ ¬ (a.1 < b.1 ∨ (a.1 = b.1 ∧ a.2 < b.2)) := by simp [slt]
theorem slt_irr (a : Stamp) : slt a a = false := by rw [slt_not]; omega
theorem slt_tr {a b c : Stamp} (h1 : slt a b = true) (h2 : slt b c = true) : slt a c = true := by
  rw [slt_iff] at *; omega
/-- a ≤ b < c -/
theorem sle_lt {a b c : Stamp} (h1 : slt b a = false) (h2 : slt b c = true) : slt a c = true := by
  rw [slt_iff] at *; rw [slt_not] at h1; omega
theorem slt_le {a b c : Stamp} (h1 : slt a b = true) (h2 : slt c b = false) : slt a c = true := by
  rw [slt_iff] at *; rw [slt_not] at h2; omega
theorem sle_tr {a b c : Stamp} (h1 : slt b a = false) (h2 : slt c b = false) : slt c a = false := by
  rw [slt_not] at *; omega
theorem slt_asym {a b : Stamp} (h : slt a b = true) : slt b a = false := by
  rw [slt_iff] at h; rw [slt_not]; omega
theorem slt_or {a b : Stamp} (h : slt a b = false) : a = b ∨ slt b a = true := by
  rw [slt_not] at h
  by_cases e : a = b
  · exact .inl e
  · refine .inr ?_
    rw [slt_iff]
    obtain ⟨a1, a2⟩ := a
    obtain ⟨b1, b2⟩ := b
    simp only [Prod.mk.injEq] at *
    omega

/-! ### the next one -/
section
variable {on : Nat → Bool} {many p : Nat}
theorem nxF_some {x : Nat} : ∀ {k i : Nat}, nxF on many p i k = some x → ∃ j, i ≤ j ∧ j < i + k ∧ x = (p + j) % many ∧ on x = true ∧ ∀ l, i ≤ l → l < j → on ((p + l) % many) = false
  | 0, _, h => by simp [nxF] at h
  | k + 1, i, h => by
    rw [nxF] at h
    by_cases c : on ((p + i) % many) = true
    · rw [if_pos c] at h
      cases h
      exact ⟨i, Nat.le_refl _, by omega, rfl, c, fun l h1 h2 => by omega⟩
    · rw [if_neg c] at h
      obtain ⟨j, h1, h2, h3, h4, h5⟩ := nxF_some h
      refine ⟨j, by omega, by omega, h3, h4, fun l h6 h7 => ?_⟩
      by_cases e : l = i
      · subst e; simpa using c
      · exact h5 l (by omega) h7
theorem nxF_ex : ∀ {k i j : Nat}, i ≤ j → j < i + k → on ((p + j) % many) = true → ∃ x, nxF on many p i k = some x
  | 0, _, _, h1, h2, _ => by omega
  | k + 1, i, j, h1, h2, h3 => by
    rw [nxF]
    by_cases c : on ((p + i) % many) = true
    · exact ⟨_, by rw [if_pos c]⟩
    · rw [if_neg c]
      refine nxF_ex (j := j) ?_ (by omega) h3
      by_cases e : i = j
      · subst e; exact absurd h3 c
      · omega
/-- what nx tells, where one is on -/
theorem nx_spec (h : ∃ x, x < many ∧ on x = true) (hp : p < many) : ∃ j, 1 ≤ j ∧ j ≤ many ∧ nx on many p = (p + j) % many ∧ nxO on many p = some (nx on many p) ∧ on (nx on many p) = true ∧ nx on many p < many ∧ ∀ l, 1 ≤ l → l < j → on ((p + l) % many) = false := by
  obtain ⟨x, hx, ho⟩ := h
  have hex : ∃ j, 1 ≤ j ∧ j < 1 + many ∧ (p + j) % many = x := by
    by_cases c : p < x
    · exact ⟨x - p, by omega, by omega, by rw [show p + (x - p) = x by omega]; exact Nat.mod_eq_of_lt hx⟩
    · refine ⟨x + many - p, by omega, by omega, ?_⟩
      rw [show p + (x + many - p) = x + many by omega, Nat.add_mod_right]
      exact Nat.mod_eq_of_lt hx
  obtain ⟨j, h1, h2, h3⟩ := hex
  obtain ⟨y, hy⟩ := nxF_ex (on := on) (many := many) (p := p) (k := many) h1 h2 (by rw [h3]; exact ho)
  obtain ⟨j', g1, g2, g3, g4, g5⟩ := nxF_some hy
  have e : nx on many p = y := by unfold nx nxO; rw [hy]; rfl
  refine ⟨j', g1, by omega, by rw [e]; exact g3, ?_, by rw [e]; exact g4, ?_, g5⟩
  · rw [e]; exact hy
  · rw [e, g3]
    exact Nat.mod_lt _ (by omega)
end
end RG
namespace RG
/-! ### going round -/
def cN (f : Nat → Bool) (a : Nat) : Nat → Nat
  | 0 => 0
  | k + 1 => cN f a k + (if f (a + k) = true then 1 else 0)
theorem cN_add (f : Nat → Bool) (a k : Nat) : ∀ l : Nat, cN f a (k + l) = cN f a k + cN f (a + k) l
  | 0 => rfl
  | l + 1 => by
    show cN f a (k + l) + _ = cN f a k + (cN f (a + k) l + _)
    rw [cN_add f a k l, show a + k + l = a + (k + l) by omega, show k.add l = k + l from rfl]
    omega
theorem cN_congr {f g : Nat → Bool} {a b : Nat} : ∀ {k : Nat}, (∀ i, i < k → f (a + i) = g (b + i)) → cN f a k = cN g b k
  | 0, _ => rfl
  | k + 1, h => by
    show cN f a k + _ = cN g b k + _
    rw [cN_congr (k := k) fun i hi => h i (by omega), h k (by omega)]
theorem cN_none {f : Nat → Bool} {a : Nat} : ∀ {k : Nat}, (∀ i, i < k → f (a + i) = false) → cN f a k = 0
  | 0, _ => rfl
  | k + 1, h => by
    show cN f a k + _ = 0
    rw [cN_none (k := k) fun i hi => h i (by omega), h k (by omega)]
    rfl
theorem cN_le (f : Nat → Bool) (a : Nat) : ∀ k : Nat, cN f a k ≤ k
  | 0 => Nat.le_refl _
  | k + 1 => by
    have := cN_le f a k
    show cN f a k + _ ≤ k + 1
    split <;> omega
theorem cN_mono (f : Nat → Bool) (a k l : Nat) (h : k ≤ l) : cN f a k ≤ cN f a l := by
  rw [show l = k + (l - k) by omega, cN_add]
  omega
/-- how many are on -/
def cnt (on : Nat → Bool) (many : Nat) : Nat := cN on 0 many
/-- how many are on among the f behind p -/
def ahead (on : Nat → Bool) (many p f : Nat) : Nat := cN (fun i => on ((p + i) % many)) 1 f
theorem mod2 {a n : Nat} (h : a < 2 * n) : a % n = if a < n then a else a - n := by
  by_cases c : a < n
  · rw [if_pos c, Nat.mod_eq_of_lt c]
  · rw [if_neg c, Nat.mod_eq_sub_mod (by omega), Nat.mod_eq_of_lt (by omega)]
theorem ahead_all (on : Nat → Bool) {many p : Nat} (hp : p < many) : ahead on many p many = cnt on many := by
  unfold ahead cnt
  have e1 : cN (fun i => on ((p + i) % many)) 1 many = cN (fun i => on ((p + i) % many)) 1 (many - 1 - p) + cN (fun i => on ((p + i) % many)) (1 + (many - 1 - p)) (p + 1) := by
    have := cN_add (fun i => on ((p + i) % many)) 1 (many - 1 - p) (p + 1)
    rw [← this]
    congr 1
    omega
  have e2 : cN on 0 many = cN on 0 (p + 1) + cN on (0 + (p + 1)) (many - 1 - p) := by
    have := cN_add on 0 (p + 1) (many - 1 - p)
    rw [← this]
    congr 1
    omega
  rw [e1, e2]
  have e3 : cN (fun i => on ((p + i) % many)) 1 (many - 1 - p) = cN on (0 + (p + 1)) (many - 1 - p) := cN_congr fun i hi => by
    show on ((p + (1 + i)) % many) = on (0 + (p + 1) + i)
    rw [Nat.mod_eq_of_lt (by omega)]
    congr 1
    omega
  have e4 : cN (fun i => on ((p + i) % many)) (1 + (many - 1 - p)) (p + 1) = cN on 0 (p + 1) := cN_congr fun i hi => by
    show on ((p + (1 + (many - 1 - p) + i)) % many) = on (0 + i)
    rw [mod2 (by omega), if_neg (by omega)]
    congr 1
    omega
  rw [e3, e4]
  omega
theorem ahead_le (on : Nat → Bool) {many p f : Nat} (hp : p < many) (hf : f ≤ many) : ahead on many p f ≤ cnt on many := by
  rw [← ahead_all on hp]
  exact cN_mono _ _ _ _ hf
def nxI (on : Nat → Bool) (many : Nat) : Nat → Nat → Nat
  | 0, p => p
  | j + 1, p => nxI on many j (nx on many p)
theorem nxI_succ (on : Nat → Bool) (many : Nat) : ∀ (j p : Nat), nxI on many (j + 1) p = nx on many (nxI on many j p)
  | 0, _ => rfl
  | j + 1, p => nxI_succ on many j (nx on many p)
section
variable {on : Nat → Bool} {many : Nat}
theorem nx_lt (h : ∃ x, x < many ∧ on x = true) {p : Nat} (hp : p < many) : nx on many p < many := by
  obtain ⟨_, _, _, _, _, _, h, _⟩ := nx_spec h hp; exact h
theorem nx_on (h : ∃ x, x < many ∧ on x = true) {p : Nat} (hp : p < many) : on (nx on many p) = true := by
  obtain ⟨_, _, _, _, _, h, _, _⟩ := nx_spec h hp; exact h
theorem nxI_lt (h : ∃ x, x < many ∧ on x = true) : ∀ (j : Nat) {p : Nat}, p < many → nxI on many j p < many
  | 0, _, hp => hp
  | j + 1, _, hp => nxI_lt h j (nx_lt h hp)
theorem nxI_on (h : ∃ x, x < many ∧ on x = true) : ∀ (j : Nat) {p : Nat}, p < many → on p = true → on (nxI on many j p) = true
  | 0, _, _, ho => ho
  | j + 1, _, hp, _ => nxI_on h j (nx_lt h hp) (nx_on h hp)
/-- each one that is on is come to -/
theorem reach (h : ∃ x, x < many ∧ on x = true) : ∀ (f p : Nat), p < many → 1 ≤ f → f ≤ many → on ((p + f) % many) = true → ∃ j, 1 ≤ j ∧ j ≤ ahead on many p f ∧ nxI on many j p = (p + f) % many := by
  intro f
  induction f using Nat.strongRecOn with
  | ind f ih =>
    intro p hp h1 hf ho
    obtain ⟨j, j1, j2, j3, _, j5, j6, j7⟩ := nx_spec h hp
    have hjf : j ≤ f := by
      by_cases c : j ≤ f
      · exact c
      · have := j7 f h1 (by omega)
        rw [ho] at this
        cases this
    have hj : ahead on many p j = 1 := by
      unfold ahead
      rw [show j = (j - 1) + 1 by omega]
      show cN _ 1 (j - 1) + _ = 1
      rw [cN_none fun i hi => j7 (1 + i) (by omega) (by omega)]
      have e : (p + (1 + (j - 1))) % many = nx on many p := by rw [j3, show 1 + (j - 1) = j by omega]
      simp only [e, j5, if_true]
    by_cases c : j = f
    · subst c
      exact ⟨1, Nat.le_refl _, by rw [hj]; exact Nat.le_refl _, by show nx on many p = _; exact j3⟩
    · have e0 : (nx on many p + (f - j)) % many = (p + f) % many := by
        rw [j3, Nat.mod_add_mod]
        congr 1
        omega
      obtain ⟨k, k1, k2, k3⟩ := ih (f - j) (by omega) (nx on many p) j6 (by omega) (by omega) (by rw [e0]; exact ho)
      have e1 : ahead on many p f = 1 + ahead on many (nx on many p) (f - j) := by
        rw [← hj]
        unfold ahead
        have := cN_add (fun i => on ((p + i) % many)) 1 j (f - j)
        rw [show j + (f - j) = f by omega] at this
        rw [this]
        congr 1
        refine cN_congr fun i _ => ?_
        show on ((p + (1 + j + i)) % many) = on ((nx on many p + (1 + i)) % many)
        rw [j3, Nat.mod_add_mod]
        congr 2
        omega
      exact ⟨k + 1, by omega, by omega, by show nxI on many k (nx on many p) = _; rw [k3, e0]⟩
/-- .. within as many steps as are on -/
theorem reach_all (h : ∃ x, x < many ∧ on x = true) {p x : Nat} (hp : p < many) (hx : x < many) (ho : on x = true) : ∃ j, 1 ≤ j ∧ j ≤ cnt on many ∧ nxI on many j p = x := by
  have hex : ∃ f, 1 ≤ f ∧ f ≤ many ∧ (p + f) % many = x := by
    by_cases c : p < x
    · exact ⟨x - p, by omega, by omega, by rw [show p + (x - p) = x by omega]; exact Nat.mod_eq_of_lt hx⟩
    · refine ⟨x + many - p, by omega, by omega, ?_⟩
      rw [show p + (x + many - p) = x + many by omega, Nat.add_mod_right]
      exact Nat.mod_eq_of_lt hx
  obtain ⟨f, f1, f2, f3⟩ := hex
  obtain ⟨j, j1, j2, j3⟩ := reach h f p hp f1 f2 (by rw [f3]; exact ho)
  exact ⟨j, j1, Nat.le_trans j2 (ahead_le on hp f2), by rw [j3, f3]⟩
theorem nx_inj (h : ∃ x, x < many ∧ on x = true) {p q : Nat} (hp : p < many) (hq : q < many) (op : on p = true) (oq : on q = true) (e : nx on many p = nx on many q) : p = q := by
  obtain ⟨a, a1, a2, a3, _, _, _, a7⟩ := nx_spec h hp
  obtain ⟨b, b1, b2, b3, _, _, _, b7⟩ := nx_spec h hq
  have e' : (p + a) % many = (q + b) % many := by rw [← a3, ← b3, e]
  rw [mod2 (by omega), mod2 (by omega)] at e'
  by_cases c : p = q
  · exact c
  · exfalso
    by_cases d : a < b
    · have := b7 (b - a) (by omega) (by omega)
      have e2 : (q + (b - a)) % many = p := by
        rw [mod2 (by omega)]
        split at e' <;> split at e' <;> split <;> omega
      rw [e2, op] at this
      cases this
    · by_cases d' : b < a
      · have := a7 (a - b) (by omega) (by omega)
        have e2 : (p + (a - b)) % many = q := by
          rw [mod2 (by omega)]
          split at e' <;> split at e' <;> split <;> omega
        rw [e2, oq] at this
        cases this
      · split at e' <;> split at e' <;> omega
/-- from one that is on to one that is on: within fewer steps than are on -/
theorem reach_lt (h : ∃ x, x < many ∧ on x = true) {p x : Nat} (hp : p < many) (hx : x < many) (op : on p = true) (ho : on x = true) : ∃ j, j < cnt on many ∧ nxI on many j p = x := by
  have hc : cnt on many = ahead on many p (many - 1) + 1 := by
    rw [← ahead_all on hp]
    have e0 : many = (many - 1) + 1 := by omega
    have e1 : (p + (1 + (many - 1))) % many = p := by
      rw [show 1 + (many - 1) = many by omega, Nat.add_mod_right]
      exact Nat.mod_eq_of_lt hp
    have : ahead on many p ((many - 1) + 1) = ahead on many p (many - 1) + 1 := by
      show cN _ 1 (many - 1) + _ = _
      rw [if_pos (show on ((p + (1 + (many - 1))) % many) = true by rw [e1]; exact op)]
      rfl
    rw [← this, ← e0]
  by_cases e : p = x
  · exact ⟨0, by omega, e⟩
  · have hex : ∃ f, 1 ≤ f ∧ f < many ∧ (p + f) % many = x := by
      by_cases d : p < x
      · exact ⟨x - p, by omega, by omega, by rw [show p + (x - p) = x by omega]; exact Nat.mod_eq_of_lt hx⟩
      · refine ⟨x + many - p, by omega, by omega, ?_⟩
        rw [show p + (x + many - p) = x + many by omega, Nat.add_mod_right]
        exact Nat.mod_eq_of_lt hx
    obtain ⟨f, f1, f2, f3⟩ := hex
    obtain ⟨j, j1, j2, j3⟩ := reach h f p hp f1 (by omega) (by rw [f3]; exact ho)
    have : ahead on many p f ≤ ahead on many p (many - 1) := cN_mono _ _ _ _ (by omega)
    exact ⟨j, by omega, by rw [j3, f3]⟩
end
end RG
namespace RG
/-! ### what holds of a ring -/
structure WF (R : Ring) : Prop where
  pos : 1 ≤ R.many
  pl : ∀ t, t ∈ R.tk → t.pl < R.many ∧ (R.st t.pl).on = true
  kn : ∀ t, t ∈ R.tk → slt (R.st t.pl).seen t.sp = false
  mkr : ∀ t, t ∈ R.tk → slt (R.st t.sp.2).seen t.sp = false
  srt : R.tk.Pairwise fun a b => slt b.sp a.sp = true
  told : ∀ i, (R.st i).line = [] → (R.st i).told = 0
def onF (R : Ring) : Nat → Bool := fun i => (R.st i).on
theorem foldl_inv {α β : Type} (f : β → α → β) (P : List α → β → Prop) : ∀ (l done : List α) (b : β), P done b → (∀ d t r b, done ++ l = d ++ t :: r → P d b → P (d ++ [t]) (f b t)) → P (done ++ l) (l.foldl f b)
  | [], done, b, h, _ => by rw [List.append_nil]; exact h
  | t :: l, done, b, h, s => by
    have := foldl_inv f P l (done ++ [t]) (f b t) (s done t l b rfl h) fun d t' r b' e p => s d t' r b' (by rw [List.append_assoc] at e; exact e) p
    rw [List.append_assoc] at this
    exact this
theorem sends_tok {time here : Nat} {t : Tok} {s : Stn} : (sends time here t s).1.sp = t.sp ∧ (sends time here t s).1.pl = t.pl ∧ (sends time here t s).1.best = t.best := by
  unfold sends
  cases s.line with
  | nil => exact ⟨rfl, rfl, rfl⟩
  | cons e r => by_cases c : t.win = some here <;> simp [c]
theorem sends_st {time here : Nat} {t : Tok} {s : Stn} : (sends time here t s).2.1.on = s.on ∧ (sends time here t s).2.1.seen = s.seen ∧ (sends time here t s).2.1.sil = s.sil := by
  unfold sends
  cases s.line with
  | nil => exact ⟨rfl, rfl, rfl⟩
  | cons e r => by_cases c : t.win = some here <;> simp [c]
theorem hear_tok {t : Tok} {n : Int} {s : Nat} : (hear t n s).sp = t.sp ∧ (hear t n s).pl = t.pl ∧ (hear t n s).win = t.win := by
  unfold hear
  cases t.best with
  | none => exact ⟨rfl, rfl, rfl⟩
  | some b => by_cases c : b.1 < n <;> simp [c]
theorem tells_tok {here : Nat} {t : Tok} {s : Stn} : (tells here t s).1.sp = t.sp ∧ (tells here t s).1.pl = t.pl ∧ (tells here t s).1.win = t.win := by
  unfold tells
  cases s.line with
  | nil => exact ⟨rfl, rfl, rfl⟩
  | cons e r => exact hear_tok
theorem tells_st {here : Nat} {t : Tok} {s : Stn} : (tells here t s).2.on = s.on ∧ (tells here t s).2.seen = s.seen ∧ (tells here t s).2.line = s.line ∧ (tells here t s).2.sil = s.sil := by
  unfold tells
  cases h : s.line with
  | nil => exact ⟨rfl, rfl, h, rfl⟩
  | cons e r => exact ⟨rfl, rfl, rfl, rfl⟩
theorem arrive_tok {t : Tok} {here : Nat} : (arrive t here).sp = t.sp ∧ (arrive t here).pl = here := by
  unfold arrive beginR
  by_cases c : here ≤ t.pl <;> simp [c]
/-- a row of a message sent -/
def isSent : Rw → Bool
  | .sent .. => true
  | _ => false
theorem sends_line {time here : Nat} {t : Tok} {s : Stn} : ((sends time here t s).2.1.line = s.line ∧ (sends time here t s).2.2 = [] ∧ (sends time here t s).2.1.told = s.told) ∨
    ∃ e, s.line = e :: (sends time here t s).2.1.line ∧ (sends time here t s).2.2 = [.sent time here e.1 e.2] ∧ (sends time here t s).2.1.told = 0 ∧ t.win = some here := by
  unfold sends
  cases h : s.line with
  | nil => exact .inl ⟨h, rfl, rfl⟩
  | cons e r =>
    by_cases c : t.win = some here
    · simp [c]
    · simp [c, h]
/-- one token's going, dropped or not -/
theorem goTok_drop {many time : Nat} {a : Acc} {t : Tok} (h : slt t.sp (a.st (nx (fun i => (a.st i).on) many t.pl)).seen = true) :
    goTok many time a t = { a with hd := up a.hd (nx (fun i => (a.st i).on) many t.pl) true, rw := a.rw ++ [.drop time (nx (fun i => (a.st i).on) many t.pl) t.sp] } := by
  unfold goTok
  simp only [h, if_true]
structure GI (R : Ring) (done : List Tok) (a : Acc) : Prop where
  on : ∀ i, (a.st i).on = (R.st i).on
  mono : ∀ i, slt (a.st i).seen (R.st i).seen = false
  tok : ∀ t', t' ∈ a.left → ∃ t, t ∈ done ∧ t'.sp = t.sp ∧ t'.pl = nx (onF R) R.many t.pl ∧ slt (a.st t'.pl).seen t'.sp = false
  sub : (a.left.map (·.sp)).Sublist (done.map (·.sp))
  plc : a.left.Pairwise fun x y => x.pl ≠ y.pl
  hit : ∀ t, t ∈ done → slt (a.st (nx (onF R) R.many t.pl)).seen t.sp = false
  top : ∀ i, (a.st i).seen = (R.st i).seen ∨ ∃ t', t' ∈ a.left ∧ t'.pl = i ∧ t'.sp = (a.st i).seen
  hd : ∀ i, a.hd i = true ↔ ∃ t, t ∈ done ∧ nx (onF R) R.many t.pl = i
  line : ∀ i, (a.st i).line = (R.st i).line ∨ ∃ e, (R.st i).line = e :: (a.st i).line
  free : ∀ i, (∀ t', t' ∈ a.left → t'.pl ≠ i) → a.st i = R.st i
  told : ∀ i, (a.st i).line = [] → (a.st i).told = 0
  sil : ∀ i, (a.st i).sil = (R.st i).sil
  rows : ∃ new, a.rw = R.rw ++ new ∧ ((∀ r, r ∈ new → isSent r = true) → a.left.length = done.length) ∧ (∀ r, r ∈ new → ∀ x y z, r ≠ .made x y z)
  keep : ∀ t, t ∈ done → (∀ u, u ∈ done → slt t.sp u.sp = false) → (∀ i, i < R.many → (R.st i).on = true → slt t.sp (R.st i).seen = false) → ∃ t', t' ∈ a.left ∧ t'.sp = t.sp
  tok2 : ∀ t', t' ∈ a.left → slt t'.sp (R.st t'.pl).seen = false
theorem GI.start {R : Ring} (W : WF R) : GI R [] (acc0 R) where
  on _ := rfl
  mono i := slt_irr _
  tok _ h := nomatch h
  sub := List.Sublist.refl _
  plc := List.Pairwise.nil
  hit _ h := nomatch h
  top _ := .inl rfl
  hd i := ⟨fun h => (nomatch (show false = true from h)), fun ⟨_, h, _⟩ => nomatch h⟩
  line _ := .inl rfl
  free _ _ := rfl
  told := W.told
  sil _ := rfl
  rows := ⟨[], by simp [acc0], fun _ => rfl, fun _ h => nomatch h⟩
  keep _ h := nomatch h
  tok2 _ h := nomatch h
theorem GI.step {R : Ring} (W : WF R) {d r : List Tok} {t : Tok} {a : Acc} (e : R.tk = d ++ t :: r) (I : GI R d a) : GI R (d ++ [t]) (goTok R.many (R.time + 1) a t) := by
  have eon : (fun i => (a.st i).on) = onF R := funext fun i => I.on i
  have hgt : ∀ u, u ∈ d → slt t.sp u.sp = true := by
    intro u hu
    have := W.srt
    rw [e, List.pairwise_append] at this
    exact this.2.2 u hu t (List.mem_cons_self ..)
  have hex : ∃ x, x < R.many ∧ onF R x = true := ⟨t.pl, W.pl t (by rw [e]; simp)⟩
  have hh1 : nx (onF R) R.many t.pl < R.many := nx_lt hex (W.pl t (by rw [e]; simp)).1
  have hh2 : (R.st (nx (onF R) R.many t.pl)).on = true := nx_on hex (W.pl t (by rw [e]; simp)).1
  generalize hh : nx (onF R) R.many t.pl = here at hh1 hh2
  by_cases c : slt t.sp (a.st here).seen = true
  · have eg : goTok R.many (R.time + 1) a t = { a with hd := up a.hd here true, rw := a.rw ++ [.drop (R.time + 1) here t.sp] } := by
      rw [goTok_drop (by rw [eon, hh]; exact c), eon, hh]
    rw [eg]
    refine ⟨I.on, I.mono, fun t' m => ?_, ?_, I.plc, fun u m => ?_, I.top, fun i => ?_, I.line, I.free, I.told, I.sil, ?_, fun u m hu hi => ?_, I.tok2⟩
    · obtain ⟨u, m1, m2⟩ := I.tok t' m
      exact ⟨u, List.mem_append_left _ m1, m2⟩
    · rw [List.map_append]
      exact I.sub.trans (List.sublist_append_left _ _)
    · rcases List.mem_append.mp m with m | m
      · exact I.hit u m
      · cases List.mem_singleton.mp m
        show slt (a.st (nx (onF R) R.many t.pl)).seen t.sp = false
        rw [hh]
        exact slt_asym c
    · show up a.hd here true i = true ↔ _
      by_cases ei : i = here
      · subst ei
        rw [up_same]
        exact ⟨fun _ => ⟨t, by simp, hh⟩, fun _ => rfl⟩
      · rw [up_ne _ _ ei, I.hd]
        constructor
        · rintro ⟨u, m, q⟩
          exact ⟨u, List.mem_append_left _ m, q⟩
        · rintro ⟨u, m, q⟩
          rcases List.mem_append.mp m with m | m
          · exact ⟨u, m, q⟩
          · cases List.mem_singleton.mp m
            exact absurd (q.symm.trans hh) ei
    · obtain ⟨new, n1, n2, n3⟩ := I.rows
      refine ⟨new ++ [.drop (R.time + 1) here t.sp], by show a.rw ++ _ = _; rw [n1, List.append_assoc], fun h => ?_, fun r m => ?_⟩
      · have := h (.drop (R.time + 1) here t.sp) (by simp)
        cases this
      · rcases List.mem_append.mp m with m | m
        · exact n3 r m
        · cases List.mem_singleton.mp m
          intro x y z q
          cases q
    · rcases List.mem_append.mp m with m | m
      · exact I.keep u m (fun v mv => hu v (List.mem_append_left _ mv)) hi
      · cases List.mem_singleton.mp m
        -- t itself is the greatest and no station knows a greater one: it isn't dropped
        exfalso
        rcases I.top here with q | ⟨t', m', q1, q2⟩
        · rw [q, hi here hh1 hh2] at c
          cases c
        · obtain ⟨v, mv, qv, _⟩ := I.tok t' m'
          rw [← q2, qv, hu v (List.mem_append_left _ mv)] at c
          cases c
  · have c' : slt t.sp (a.st here).seen = false := by simpa using c
    generalize hx : sends (R.time + 1) here (arrive t here) { a.st here with seen := t.sp } = x
    generalize hy : tells here x.1 x.2.1 = y
    have eg : goTok R.many (R.time + 1) a t = { st := up a.st here y.2, hd := up a.hd here true, left := a.left ++ [y.1], rw := a.rw ++ x.2.2 } := by
      unfold goTok
      simp only [eon, hh, c', Bool.false_eq_true, if_false, hx, hy]
    rw [eg]
    have y1 : y.1.sp = t.sp ∧ y.1.pl = here := by
      rw [← hy, ← hx]
      have h1 := @tells_tok here (sends (R.time + 1) here (arrive t here) { a.st here with seen := t.sp }).1 (sends (R.time + 1) here (arrive t here) { a.st here with seen := t.sp }).2.1
      have h2 := @sends_tok (R.time + 1) here (arrive t here) { a.st here with seen := t.sp }
      have h3 := @arrive_tok t here
      exact ⟨by rw [h1.1, h2.1, h3.1], by rw [h1.2.1, h2.2.1, h3.2]⟩
    have y2 : y.2.on = (a.st here).on ∧ y.2.seen = t.sp ∧ y.2.sil = (a.st here).sil ∧ y.2.line = x.2.1.line := by
      rw [← hy]
      have h1 := @tells_st here x.1 x.2.1
      rw [← hx] at h1 ⊢
      have h2 := @sends_st (R.time + 1) here (arrive t here) { a.st here with seen := t.sp }
      exact ⟨by rw [h1.1, h2.1], by rw [h1.2.1, h2.2.1], by rw [h1.2.2.2, h2.2.2], h1.2.2.1⟩
    have x2 := @sends_line (R.time + 1) here (arrive t here) { a.st here with seen := t.sp }
    rw [hx] at x2
    -- no one left stands here
    have nohere : ∀ t', t' ∈ a.left → t'.pl ≠ here := by
      intro t' m q
      obtain ⟨u, mu, q1, q2, q3⟩ := I.tok t' m
      have g := hgt u mu
      rw [← q1] at g
      rw [q] at q3
      rw [slt_le g q3] at c'
      cases c'
    have ehere : a.st here = R.st here := I.free here nohere
    have stat : ∀ i, (up a.st here y.2) i = if i = here then y.2 else a.st i := fun i => rfl
    refine ⟨fun i => ?_, fun i => ?_, fun t' m => ?_, ?_, ?_, fun u m => ?_, fun i => ?_, fun i => ?_, fun i => ?_, fun i h => ?_, fun i h => ?_, fun i => ?_, ?_, fun u m hu hi => ?_, fun u m => ?_⟩
    · show (up a.st here y.2 i).on = _
      by_cases ei : i = here
      · subst ei; rw [up_same, y2.1]; exact I.on i
      · rw [up_ne _ _ ei]; exact I.on i
    · show slt (up a.st here y.2 i).seen _ = false
      by_cases ei : i = here
      · subst ei; rw [up_same, y2.2.1]; exact sle_tr (I.mono i) c'
      · rw [up_ne _ _ ei]; exact I.mono i
    · rcases List.mem_append.mp m with m | m
      · obtain ⟨u, mu, q1, q2, q3⟩ := I.tok t' m
        refine ⟨u, List.mem_append_left _ mu, q1, q2, ?_⟩
        show slt (up a.st here y.2 t'.pl).seen _ = false
        rw [up_ne _ _ (nohere t' m)]
        exact q3
      · cases List.mem_singleton.mp m
        refine ⟨t, by simp, y1.1, by rw [y1.2, hh], ?_⟩
        show slt (up a.st here y.2 y.1.pl).seen _ = false
        rw [y1.2, up_same, y2.2.1, y1.1]
        exact slt_irr _
    · show ((a.left ++ [y.1]).map (·.sp)).Sublist _
      rw [List.map_append, List.map_append]
      refine List.Sublist.append I.sub ?_
      show [y.1.sp].Sublist [t.sp]
      rw [y1.1]
      exact List.Sublist.refl _
    · show (a.left ++ [y.1]).Pairwise _
      rw [List.pairwise_append]
      refine ⟨I.plc, List.pairwise_singleton _ _, fun u mu v mv => ?_⟩
      cases List.mem_singleton.mp mv
      rw [y1.2]
      exact nohere u mu
    · show slt (up a.st here y.2 _).seen u.sp = false
      by_cases ei : nx (onF R) R.many u.pl = here
      · rw [ei, up_same, y2.2.1]
        rcases List.mem_append.mp m with m | m
        · have := I.hit u m
          rw [ei] at this
          exact sle_tr this c'
        · cases List.mem_singleton.mp m
          exact slt_irr _
      · rw [up_ne _ _ ei]
        rcases List.mem_append.mp m with m | m
        · exact I.hit u m
        · cases List.mem_singleton.mp m
          exact absurd hh ei
    · show (up a.st here y.2 i).seen = _ ∨ ∃ t', t' ∈ a.left ++ [y.1] ∧ t'.pl = i ∧ t'.sp = (up a.st here y.2 i).seen
      by_cases ei : i = here
      · subst ei
        rw [up_same]
        exact .inr ⟨y.1, by simp, y1.2, by rw [y1.1]; exact y2.2.1.symm⟩
      · rw [up_ne _ _ ei]
        rcases I.top i with q | ⟨t', m', q1, q2⟩
        · exact .inl q
        · exact .inr ⟨t', List.mem_append_left _ m', q1, q2⟩
    · show up a.hd here true i = true ↔ _
      by_cases ei : i = here
      · subst ei
        rw [up_same]
        exact ⟨fun _ => ⟨t, by simp, hh⟩, fun _ => rfl⟩
      · rw [up_ne _ _ ei, I.hd]
        constructor
        · rintro ⟨u, m, q⟩
          exact ⟨u, List.mem_append_left _ m, q⟩
        · rintro ⟨u, m, q⟩
          rcases List.mem_append.mp m with m | m
          · exact ⟨u, m, q⟩
          · cases List.mem_singleton.mp m
            exact absurd (q.symm.trans hh) ei
    · show (up a.st here y.2 i).line = _ ∨ ∃ e, _ = e :: (up a.st here y.2 i).line
      by_cases ei : i = here
      · subst ei
        rw [up_same, y2.2.2.2]
        rcases x2 with ⟨q, _⟩ | ⟨e, q, _⟩
        · left; rw [q, ← ehere]
        · right; exact ⟨e, by rw [← ehere]; exact q⟩
      · rw [up_ne _ _ ei]; exact I.line i
    · have hi : i ≠ here := fun q => h y.1 (by simp) (by rw [y1.2, q])
      show up a.st here y.2 i = _
      rw [up_ne _ _ hi]
      exact I.free i fun t' m => h t' (List.mem_append_left _ m)
    · have h' : (up a.st here y.2 i).line = [] := h
      show (up a.st here y.2 i).told = 0
      by_cases ei : i = here
      · subst ei
        rw [up_same] at h' ⊢
        rw [y2.2.2.2] at h'
        rw [← hy]
        unfold tells
        rw [h']
        show x.2.1.told = 0
        rcases x2 with ⟨q, _, q3⟩ | ⟨e, _, _, q, _⟩
        · rw [q3]
          exact I.told i (by rw [q] at h'; exact h')
        · exact q
      · rw [up_ne _ _ ei] at h' ⊢
        exact I.told i h'
    · show (up a.st here y.2 i).sil = _
      by_cases ei : i = here
      · subst ei; rw [up_same, y2.2.2.1]; exact I.sil i
      · rw [up_ne _ _ ei]; exact I.sil i
    · obtain ⟨new, n1, n2, n3⟩ := I.rows
      refine ⟨new ++ x.2.2, by show a.rw ++ x.2.2 = _; rw [n1, List.append_assoc], fun h => ?_, fun r m => ?_⟩
      · show (a.left ++ [y.1]).length = _
        rw [List.length_append, List.length_append, n2 fun r m => h r (List.mem_append_left _ m)]
        rfl
      · rcases List.mem_append.mp m with m | m
        · exact n3 r m
        · rcases x2 with ⟨_, q, _⟩ | ⟨e, _, q, _⟩
          · rw [q] at m; cases m
          · rw [q] at m
            cases List.mem_singleton.mp m
            intro x y z q
            cases q
    · rcases List.mem_append.mp m with m | m
      · obtain ⟨t', m', q⟩ := I.keep u m (fun v mv => hu v (List.mem_append_left _ mv)) hi
        exact ⟨t', List.mem_append_left _ m', q⟩
      · cases List.mem_singleton.mp m
        exact ⟨y.1, by simp, y1.1⟩
    · rcases List.mem_append.mp m with m | m
      · exact I.tok2 u m
      · cases List.mem_singleton.mp m
        rw [y1.1, y1.2]
        exact sle_tr (I.mono here) c'
theorem GI.all {R : Ring} (W : WF R) : GI R R.tk (went R) := by
  have := foldl_inv (goTok R.many (R.time + 1)) (GI R) R.tk [] (acc0 R) (GI.start W) fun d t r b e p => GI.step W e p
  exact this
end RG
namespace RG
/-! ### a token made -/
theorem mem_ins {t u : Tok} : ∀ {l : List Tok}, u ∈ insTok t l ↔ u = t ∨ u ∈ l
  | [] => by simp [insTok]
  | v :: l => by
    unfold insTok
    by_cases c : slt v.sp t.sp = true
    · rw [if_pos c]; simp
    · rw [if_neg c, List.mem_cons, mem_ins (l := l), List.mem_cons]
      constructor
      · rintro (h | h | h)
        · exact .inr (.inl h)
        · exact .inl h
        · exact .inr (.inr h)
      · rintro (h | h | h)
        · exact .inr (.inl h)
        · exact .inl h
        · exact .inr (.inr h)
theorem ins_len (t : Tok) : ∀ l : List Tok, (insTok t l).length = l.length + 1
  | [] => rfl
  | v :: l => by
    unfold insTok
    by_cases c : slt v.sp t.sp = true
    · rw [if_pos c]; rfl
    · rw [if_neg c, List.length_cons, ins_len t l]; rfl
theorem ins_srt {t : Tok} : ∀ {l : List Tok}, (l.Pairwise fun a b => slt b.sp a.sp = true) → (∀ u, u ∈ l → u.sp ≠ t.sp) → (insTok t l).Pairwise fun a b => slt b.sp a.sp = true
  | [], _, _ => List.pairwise_singleton _ _
  | v :: l, h, hn => by
    unfold insTok
    rw [List.pairwise_cons] at h
    by_cases c : slt v.sp t.sp = true
    · rw [if_pos c, List.pairwise_cons]
      refine ⟨fun u m => ?_, by rw [List.pairwise_cons]; exact h⟩
      rcases List.mem_cons.mp m with rfl | m
      · exact c
      · exact slt_tr (h.1 u m) c
    · rw [if_neg c, List.pairwise_cons]
      refine ⟨fun u m => ?_, ins_srt h.2 fun u m => hn u (List.mem_cons_of_mem _ m)⟩
      rcases mem_ins.mp m with rfl | m
      · have c' : slt v.sp u.sp = false := by simpa using c
        rcases slt_or c' with q | q
        · exact absurd q (hn v (List.mem_cons_self ..))
        · exact q
      · exact h.1 u m
theorem born_gt (R : Ring) (i : Nat) : slt (R.st i).seen ((R.st i).seen.1 + 1, i) = true := by
  rw [slt_iff]; exact .inl (Nat.lt_succ_self _)
theorem born_st (R : Ring) (i j : Nat) : ((born R i).st j).on = (R.st j).on ∧ ((born R i).st j).line = (R.st j).line ∧ ((born R i).st j).told = (R.st j).told := by
  by_cases c : j = i
  · subst c
    show (up R.st j _ j).on = _ ∧ (up R.st j _ j).line = _ ∧ (up R.st j _ j).told = _
    rw [up_same]
    exact ⟨rfl, rfl, rfl⟩
  · show (up R.st i _ j).on = _ ∧ (up R.st i _ j).line = _ ∧ (up R.st i _ j).told = _
    rw [up_ne _ _ c]
    exact ⟨rfl, rfl, rfl⟩
theorem born_seen (R : Ring) (i j : Nat) : ((born R i).st j).seen = if j = i then ((R.st i).seen.1 + 1, i) else (R.st j).seen := by
  by_cases c : j = i
  · subst c
    show (up R.st j _ j).seen = _
    rw [up_same, if_pos rfl]
  · show (up R.st i _ j).seen = _
    rw [up_ne _ _ c, if_neg c]
theorem born_mono (R : Ring) (i j : Nat) : slt ((born R i).st j).seen (R.st j).seen = false := by
  rw [born_seen]
  by_cases c : j = i
  · subst c; rw [if_pos rfl]; exact slt_asym (born_gt R j)
  · rw [if_neg c]; exact slt_irr _
theorem WF.fresh {R : Ring} (W : WF R) (i : Nat) : ∀ u, u ∈ R.tk → u.sp ≠ ((R.st i).seen.1 + 1, i) := fun u m q => by
  have := W.mkr u m
  rw [q] at this
  rw [born_gt] at this
  cases this
theorem WF.born {R : Ring} (W : WF R) {i : Nat} (hi : i < R.many) (ho : (R.st i).on = true) : WF (born R i) where
  pos := W.pos
  pl t m := by
    show t.pl < R.many ∧ _
    rw [(born_st R i t.pl).1]
    rcases mem_ins.mp m with rfl | m
    · exact ⟨hi, ho⟩
    · exact W.pl t m
  kn t m := by
    rcases mem_ins.mp m with rfl | m
    · rw [born_seen, if_pos rfl]; exact slt_irr _
    · exact sle_tr (W.kn t m) (born_mono R i t.pl)
  mkr t m := by
    rcases mem_ins.mp m with rfl | m
    · rw [born_seen, if_pos rfl]; exact slt_irr _
    · exact sle_tr (W.mkr t m) (born_mono R i t.sp.2)
  srt := ins_srt W.srt (W.fresh i)
  told j h := by
    rw [(born_st R i j).2.1] at h
    rw [(born_st R i j).2.2]
    exact W.told j h
/-! ### a step -/
theorem moved_st (R : Ring) (i : Nat) : ((moved R).st i).on = ((went R).st i).on ∧ ((moved R).st i).seen = ((went R).st i).seen ∧ ((moved R).st i).line = ((went R).st i).line ∧ ((moved R).st i).told = ((went R).st i).told := ⟨rfl, rfl, rfl, rfl⟩
theorem onF_moved {R : Ring} (W : WF R) : onF (moved R) = onF R := funext fun i => (GI.all W).on i
theorem WF.moved {R : Ring} (W : WF R) : WF (moved R) := by
  have I := GI.all W
  refine ⟨W.pos, fun t m => ?_, fun t m => ?_, fun t m => ?_, ?_, I.told⟩
  · obtain ⟨u, mu, q1, q2, q3⟩ := I.tok t m
    have hex : ∃ x, x < R.many ∧ onF R x = true := ⟨u.pl, W.pl u mu⟩
    show t.pl < R.many ∧ ((went R).st t.pl).on = true
    rw [I.on, q2]
    exact ⟨nx_lt hex (W.pl u mu).1, nx_on hex (W.pl u mu).1⟩
  · obtain ⟨u, mu, q1, q2, q3⟩ := I.tok t m
    exact q3
  · obtain ⟨u, mu, q1, q2, q3⟩ := I.tok t m
    show slt ((went R).st t.sp.2).seen t.sp = false
    rw [q1]
    exact sle_tr (W.mkr u mu) (I.mono u.sp.2)
  · have h : (R.tk.map (·.sp)).Pairwise fun a b => slt b a = true := List.pairwise_map.mpr W.srt
    exact List.pairwise_map.mp (h.sublist I.sub)
theorem bornIf_many (R : Ring) (i : Nat) : (bornIf R i).many = R.many := by
  unfold bornIf
  split <;> rfl
theorem bornIf_st (R : Ring) (i j : Nat) : ((bornIf R i).st j).on = (R.st j).on ∧ ((bornIf R i).st j).line = (R.st j).line ∧ ((bornIf R i).st j).told = (R.st j).told ∧ slt ((bornIf R i).st j).seen (R.st j).seen = false := by
  unfold bornIf
  split
  · exact ⟨(born_st R i j).1, (born_st R i j).2.1, (born_st R i j).2.2, born_mono R i j⟩
  · exact ⟨rfl, rfl, rfl, slt_irr _⟩
theorem WF.bornIf {R : Ring} (W : WF R) {i : Nat} (hi : i < R.many) : WF (bornIf R i) := by
  unfold RG.bornIf
  split
  · rename_i h; exact W.born hi h.1
  · exact W
/-- over the stations -/
theorem borns_ind {P : Ring → Prop} : ∀ (l : List Nat) (R : Ring), (∀ i, i ∈ l → i < R.many) → P R → (∀ S i, S.many = R.many → i < R.many → P S → P (bornIf S i)) → P (l.foldl bornIf R)
  | [], _, _, h, _ => h
  | i :: l, R, hl, h, s => by
    have hm := bornIf_many R i
    refine borns_ind l (bornIf R i) (fun j m => by rw [hm]; exact hl j (List.mem_cons_of_mem _ m)) (s R i rfl (hl i (List.mem_cons_self ..)) h) fun S j e hj p => ?_
    rw [hm] at e hj
    exact s S j e hj p
theorem step_ind {R : Ring} {P : Ring → Prop} (h : P (moved R)) (s : ∀ S i, S.many = R.many → i < R.many → P S → P (bornIf S i)) : P (step R) :=
  borns_ind (List.range R.many) (moved R) (fun i m => List.mem_range.mp m) h s
theorem step_many (R : Ring) : (step R).many = R.many := step_ind (P := fun S => S.many = R.many) rfl fun S i _ _ h => by rw [bornIf_many]; exact h
theorem step_time (R : Ring) : (step R).time = R.time + 1 := step_ind (P := fun S => S.time = R.time + 1) rfl fun S i _ _ h => by
  unfold bornIf
  split
  · exact h
  · exact h
theorem WF.step {R : Ring} (W : WF R) : WF (step R) := step_ind W.moved fun S i e hi w => w.bornIf (by rw [e]; exact hi)
theorem step_st {R : Ring} (W : WF R) (j : Nat) : ((step R).st j).on = (R.st j).on ∧ ((step R).st j).line = ((went R).st j).line ∧ ((step R).st j).told = ((went R).st j).told ∧ slt ((step R).st j).seen (R.st j).seen = false :=
  step_ind (P := fun S => (S.st j).on = (R.st j).on ∧ (S.st j).line = ((went R).st j).line ∧ (S.st j).told = ((went R).st j).told ∧ slt (S.st j).seen (R.st j).seen = false)
    ⟨(GI.all W).on j, rfl, rfl, (GI.all W).mono j⟩ fun S i _ _ ⟨h1, h2, h3, h4⟩ => by
      obtain ⟨g1, g2, g3, g4⟩ := bornIf_st S i j
      exact ⟨by rw [g1, h1], by rw [g2, h2], by rw [g3, h3], sle_tr h4 g4⟩
theorem onF_step {R : Ring} (W : WF R) : onF (step R) = onF R := funext fun i => (step_st W i).1
/-- a row of a token made -/
def isMade : Rw → Bool
  | .made .. => true
  | _ => false
/-- the rows behind: what has happened in the going, then what was made; nothing was: the step is the going -/
theorem step_rows (R : Ring) : ∃ ms, (step R).rw = (moved R).rw ++ ms ∧ (∀ r, r ∈ ms → isMade r = true) ∧ (ms = [] → step R = moved R) ∧ ms.length ≤ R.many := by
  have : ∀ (l : List Nat) (S : Ring), ∃ ms, (l.foldl bornIf S).rw = S.rw ++ ms ∧ (∀ r, r ∈ ms → isMade r = true) ∧ (ms = [] → l.foldl bornIf S = S) ∧ ms.length ≤ l.length := by
    intro l
    induction l with
    | nil => intro S; exact ⟨[], by simp, (fun _ h => nomatch h), fun _ => rfl, Nat.le_refl _⟩
    | cons i l ih =>
      intro S
      obtain ⟨ms, h1, h2, h3, h4⟩ := ih (bornIf S i)
      by_cases c : (S.st i).on = true ∧ limit S.many i < (S.st i).sil
      · have eb : bornIf S i = born S i := by unfold bornIf; rw [if_pos c]
        refine ⟨.made S.time i ((S.st i).seen.1 + 1) :: ms, ?_, fun r m => ?_, (fun h => nomatch h), by simp; exact h4⟩
        · show (l.foldl bornIf (bornIf S i)).rw = _
          rw [h1, eb]
          show S.rw ++ [_] ++ ms = _
          rw [List.append_assoc]
          rfl
        · rcases List.mem_cons.mp m with rfl | m
          · rfl
          · exact h2 r m
      · have eb : bornIf S i = S := by unfold bornIf; rw [if_neg c]
        rw [eb] at h1 h3
        exact ⟨ms, by show (l.foldl bornIf (bornIf S i)).rw = _; rw [eb, h1], h2, fun h => by show l.foldl bornIf (bornIf S i) = _; rw [eb, h3 h], by simp; omega⟩
  obtain ⟨ms, h1, h2, h3, h4⟩ := this (List.range R.many) (moved R)
  exact ⟨ms, h1, h2, h3, by rw [List.length_range] at h4; exact h4⟩
/-! ### one token -/
/-- the last q + 1 places of each token know it -/
def Trail (q : Nat) (R : Ring) : Prop := ∀ a, a ∈ R.tk → ∀ x, x < R.many → (R.st x).on = true → ∀ j, j ≤ q → nxI (onF R) R.many j x = a.pl → slt (R.st x).seen a.sp = false
theorem Trail.zero {R : Ring} (W : WF R) : Trail 0 R := fun a m x hx ho j hj e => by
  have : j = 0 := by omega
  subst this
  have e' : x = a.pl := e
  rw [e']
  exact W.kn a m
theorem Trail.le {q p : Nat} {R : Ring} (h : Trail q R) (l : p ≤ q) : Trail p R := fun a m x hx ho j hj e => h a m x hx ho j (by omega) e
theorem Trail.moved {q : Nat} {R : Ring} (W : WF R) (T : Trail q R) : Trail (q + 1) (moved R) := fun a m x hx ho j hj e => by
  have I := GI.all W
  obtain ⟨u, mu, q1, q2, q3⟩ := I.tok a m
  have hex : ∃ x, x < R.many ∧ onF R x = true := ⟨u.pl, W.pl u mu⟩
  have hxo : onF R x = true := by rw [← onF_moved W]; exact ho
  rw [onF_moved W] at e
  cases j with
  | zero =>
    have e' : x = a.pl := e
    rw [e']
    exact q3
  | succ j =>
    have e' : nx (onF R) R.many (nxI (onF R) R.many j x) = nx (onF R) R.many u.pl := by rw [← nxI_succ, ← q2]; exact e
    have := nx_inj hex (nxI_lt hex j hx) (W.pl u mu).1 (nxI_on hex j hx hxo) (W.pl u mu).2 e'
    have h1 := T u mu x hx hxo j (by omega) this
    show slt ((went R).st x).seen a.sp = false
    rw [q1]
    exact sle_tr h1 (I.mono x)
theorem Trail.sub {q : Nat} {R S : Ring} (T : Trail q R) (hm : S.many = R.many) (hs : S.st = R.st) (h : ∀ t, t ∈ S.tk → t ∈ R.tk) : Trail q S := fun a m x hx ho j hj e => by
  have eo : onF S = onF R := by unfold onF; rw [hs]
  rw [hs] at ho ⊢
  rw [eo, hm] at e
  exact T a (h a m) x (by rw [← hm]; exact hx) ho j hj e
/-- as many quiet steps as stations are on: at most one is left -/
theorem one_left {q : Nat} {R : Ring} (W : WF R) (T : Trail q R) (hq : cnt (onF R) R.many ≤ q + 1) : (moved R).tk.length ≤ 1 := by
  have I := GI.all W
  match h : (moved R).tk with
  | [] => simp
  | [_] => simp
  | a :: b :: r =>
    exfalso
    have ma : a ∈ (went R).left := by have : a ∈ (moved R).tk := by rw [h]; simp
                                      exact this
    have mb : b ∈ (went R).left := by have : b ∈ (moved R).tk := by rw [h]; simp
                                      exact this
    have hab : slt b.sp a.sp = true := by
      have := W.moved.srt
      rw [h, List.pairwise_cons] at this
      exact this.1 b (by simp)
    obtain ⟨ta, mta, a1, a2, a3⟩ := I.tok a ma
    obtain ⟨tb, mtb, b1, b2, b3⟩ := I.tok b mb
    have hex : ∃ x, x < R.many ∧ onF R x = true := ⟨ta.pl, W.pl ta mta⟩
    have xb : b.pl < R.many := by rw [b2]; exact nx_lt hex (W.pl tb mtb).1
    have xo : onF R b.pl = true := by rw [b2]; exact nx_on hex (W.pl tb mtb).1
    obtain ⟨j, j1, j2⟩ := reach_lt hex xb (W.pl ta mta).1 xo (W.pl ta mta).2
    have k1 := T ta mta b.pl xb xo j (by omega) j2
    have k2 := I.tok2 b mb
    rw [← a1] at k1
    rw [slt_le hab k1] at k2
    cases k2
/-! ### the greatest -/
/-- one that is there is the greatest of all that the stations know that are on -/
def Top (R : Ring) : Prop := ∃ t, t ∈ R.tk ∧ (∀ u, u ∈ R.tk → slt t.sp u.sp = false) ∧ ∀ i, i < R.many → (R.st i).on = true → slt t.sp (R.st i).seen = false
theorem Top.moved {R : Ring} (W : WF R) (T : Top R) : Top (moved R) := by
  have I := GI.all W
  obtain ⟨t, m, h1, h2⟩ := T
  obtain ⟨t', m', e⟩ := I.keep t m h1 h2
  refine ⟨t', m', fun u mu => ?_, fun i hi ho => ?_⟩
  · obtain ⟨v, mv, q, _⟩ := I.tok u mu
    rw [e, q]
    exact h1 v mv
  · have ho' : (R.st i).on = true := by rw [← I.on i]; exact ho
    show slt t'.sp ((went R).st i).seen = false
    rw [e]
    rcases I.top i with q | ⟨u, mu, _, q⟩
    · rw [q]; exact h2 i hi ho'
    · obtain ⟨v, mv, q', _⟩ := I.tok u mu
      rw [← q, q']
      exact h1 v mv
theorem Top.born {R : Ring} (W : WF R) (T : Top R) {i : Nat} (hi : i < R.many) (ho : (R.st i).on = true) : Top (born R i) := by
  obtain ⟨t, m, h1, h2⟩ := T
  by_cases c : slt t.sp ((R.st i).seen.1 + 1, i) = true
  · refine ⟨⟨((R.st i).seen.1 + 1, i), i, none, none⟩, mem_ins.mpr (.inl rfl), fun u mu => ?_, fun j hj hoj => ?_⟩
    · rcases mem_ins.mp mu with rfl | mu
      · exact slt_irr _
      · exact sle_tr (h1 u mu) (slt_asym c)
    · rw [born_seen]
      by_cases e : j = i
      · rw [if_pos e]; exact slt_irr _
      · rw [if_neg e]
        rw [(born_st R i j).1] at hoj
        exact sle_tr (h2 j hj hoj) (slt_asym c)
  · have c' : slt t.sp ((R.st i).seen.1 + 1, i) = false := by simpa using c
    refine ⟨t, mem_ins.mpr (.inr m), fun u mu => ?_, fun j hj hoj => ?_⟩
    · rcases mem_ins.mp mu with rfl | mu
      · exact c'
      · exact h1 u mu
    · rw [born_seen]
      by_cases e : j = i
      · rw [if_pos e]; exact c'
      · rw [if_neg e]
        rw [(born_st R i j).1] at hoj
        exact h2 j hj hoj
theorem Top.step {R : Ring} (W : WF R) (T : Top R) : Top (RG.step R) := by
  have : Top (RG.step R) ∧ WF (RG.step R) := step_ind (P := fun S => Top S ∧ WF S) ⟨T.moved W, W.moved⟩ fun S i e hi ⟨t, w⟩ => by
    refine ⟨?_, w.bornIf (by rw [e]; exact hi)⟩
    unfold RG.bornIf
    split
    · rename_i h; exact t.born w (by rw [e]; exact hi) h.1
    · exact t
  exact this.1
end RG
namespace RG
/-! ### who waits -/
def Nd (s : Stn) : Option Int := match s.line with
  | [] => none
  | e :: _ => some (e.1 + s.told)
/-- messages are put, no more -/
structure PutExt (R S : Ring) : Prop where
  many : S.many = R.many
  tk : S.tk = R.tk
  rw : S.rw = R.rw
  time : S.time = R.time
  st : ∀ i, (S.st i).on = (R.st i).on ∧ (S.st i).seen = (R.st i).seen ∧ (S.st i).sil = (R.st i).sil ∧ (S.st i).told = (R.st i).told
  line : ∀ i, ∃ ex, (S.st i).line = (R.st i).line ++ ex ∧ ∀ e, e ∈ ex → 0 ≤ e.1 ∧ e.1 ≤ 7
def Quiet (R : Ring) : Prop := ∃ new, (step R).rw = R.rw ++ new ∧ ∀ r, r ∈ new → isSent r = true
/-- whatever is put: within b steps s sends, or a token is made or dropped -/
def Will (s : Nat) : Nat → Ring → Prop
  | 0, _ => False
  | b + 1, R => ∀ S, PutExt R S → Quiet S → ((step S).st s).line = (S.st s).line → Will s b (step S)
theorem Will.le {s : Nat} : ∀ {b c : Nat} {R : Ring}, Will s b R → b ≤ c → Will s c R
  | 0, _, _, h, _ => h.elim
  | b + 1, 0, _, _, l => by omega
  | b + 1, c + 1, _, h, l => fun S p q e => Will.le (h S p q e) (by omega)
theorem PutExt.refl (R : Ring) : PutExt R R := ⟨rfl, rfl, rfl, rfl, fun _ => ⟨rfl, rfl, rfl, rfl⟩, fun i => ⟨[], by simp, fun _ h => nomatch h⟩⟩
theorem PutExt.on {R S : Ring} (p : PutExt R S) : onF S = onF R := funext fun i => (p.st i).1
theorem PutExt.wf {R S : Ring} (p : PutExt R S) (W : WF R) : WF S := by
  refine ⟨by rw [p.many]; exact W.pos, fun t m => ?_, fun t m => ?_, fun t m => ?_, by rw [p.tk]; exact W.srt, fun i h => ?_⟩
  · rw [p.tk] at m; rw [p.many, (p.st _).1]; exact W.pl t m
  · rw [p.tk] at m; rw [(p.st _).2.1]; exact W.kn t m
  · rw [p.tk] at m; rw [(p.st _).2.1]; exact W.mkr t m
  · obtain ⟨ex, e, _⟩ := p.line i
    rw [e] at h
    rw [(p.st i).2.2.2]
    exact W.told i (List.append_eq_nil_iff.mp h).1
theorem PutExt.top {R S : Ring} (p : PutExt R S) (T : Top R) : Top S := by
  obtain ⟨t, m, h1, h2⟩ := T
  refine ⟨t, by rw [p.tk]; exact m, by rw [p.tk]; exact h1, fun i hi ho => ?_⟩
  rw [(p.st i).2.1]
  exact h2 i (by rw [← p.many]; exact hi) (by rw [← (p.st i).1]; exact ho)
/-- ranks are ranks -/
def Rk (R : Ring) : Prop := ∀ i e, e ∈ (R.st i).line → 0 ≤ e.1 ∧ e.1 ≤ 7
theorem PutExt.rk {R S : Ring} (p : PutExt R S) (h : Rk R) : Rk S := fun i e m => by
  obtain ⟨ex, q, hx⟩ := p.line i
  rw [q] at m
  rcases List.mem_append.mp m with m | m
  · exact h i e m
  · exact hx e m
theorem Rk.step {R : Ring} (W : WF R) (h : Rk R) : Rk (step R) := fun i e m => by
  rw [(step_st W i).2.1] at m
  rcases (GI.all W).line i with q | ⟨x, q⟩
  · rw [q] at m; exact h i e m
  · exact h i e (by rw [q]; exact List.mem_cons_of_mem _ m)
theorem PutExt.nd {R S : Ring} (p : PutExt R S) (W : WF R) (i : Nat) : Nd (S.st i) = Nd (R.st i) ∨ (Nd (R.st i) = none ∧ ∀ v, Nd (S.st i) = some v → v ≤ 7) := by
  obtain ⟨ex, e, hx⟩ := p.line i
  cases h : (R.st i).line with
  | nil =>
    refine .inr ⟨by unfold Nd; rw [h], fun v hv => ?_⟩
    have ht := W.told i h
    rw [h, List.nil_append] at e
    unfold Nd at hv
    rw [e] at hv
    cases ex with
    | nil => cases hv
    | cons x ex =>
      have := hx x (List.mem_cons_self ..)
      have hv' : x.1 + ((S.st i).told : Int) = v := Option.some.inj hv
      rw [(p.st i).2.2.2, ht] at hv'
      simp at hv'
      omega
  | cons x l =>
    refine .inl ?_
    unfold Nd
    rw [e, h, (p.st i).2.2.2]
    rfl
/-- a quiet step is the going, and no token is dropped -/
theorem Quiet.moved {R : Ring} (W : WF R) (q : Quiet R) : step R = moved R ∧ (moved R).tk.length = R.tk.length := by
  obtain ⟨new, q1, q2⟩ := q
  obtain ⟨ms, m1, m2, m3, _⟩ := step_rows R
  obtain ⟨go, g1, g2, _⟩ := (GI.all W).rows
  have e : go ++ ms = new := by
    have : R.rw ++ (go ++ ms) = R.rw ++ new := by
      rw [← q1, m1, ← List.append_assoc]
      show (R.rw ++ go) ++ ms = (went R).rw ++ ms
      rw [g1]
    exact List.append_cancel_left this
  have hms : ms = [] := by
    cases ms with
    | nil => rfl
    | cons r ms =>
      have h1 := m2 r (List.mem_cons_self ..)
      have h2 := q2 r (by rw [← e]; simp)
      cases r <;> simp [isMade, isSent] at h1 h2
  refine ⟨m3 hms, g2 fun r m => q2 r (by rw [← e]; exact List.mem_append_left _ m)⟩
/-- two or more: soon something else happens -/
theorem multi {s : Nat} : ∀ (k q : Nat) (R : Ring), WF R → Trail q R → 2 ≤ R.tk.length → cnt (onF R) R.many ≤ q + 1 + k → Will s (k + 1) R
  | k, q, R, W, T, h2, hc => fun S p hq _ => by
    have WS := p.wf W
    have TS : Trail q S := fun a m x hx ho j hj e => by
      rw [p.tk] at m
      rw [p.on, p.many] at e
      rw [(p.st x).2.1]
      exact T a m x (by rw [← p.many]; exact hx) (by rw [← (p.st x).1]; exact ho) j hj e
    obtain ⟨e1, e2⟩ := hq.moved WS
    have h2' : 2 ≤ (moved S).tk.length := by rw [e2, p.tk]; exact h2
    by_cases c : cnt (onF S) S.many ≤ q + 1
    · have := one_left WS TS c
      omega
    · rw [p.on, p.many] at c
      cases k with
      | zero => omega
      | succ k =>
        rw [e1]
        refine multi k (q + 1) (moved S) WS.moved (TS.moved WS) h2' ?_
        rw [onF_moved WS, p.on]
        show cnt (onF R) S.many ≤ _
        rw [p.many]
        omega
/-! ### the places in a round -/
def idx (on : Nat → Bool) (p : Nat) : Nat := cN on 0 p
theorem idx_lt {on : Nat → Bool} {p q : Nat} (h : p < q) (o : on p = true) : idx on p < idx on q := by
  unfold idx
  rw [show q = (p + 1) + (q - p - 1) by omega, cN_add]
  have : cN on 0 (p + 1) = cN on 0 p + 1 := by
    show cN on 0 p + _ = _
    rw [Nat.zero_add, if_pos o]
  omega
theorem idx_inj {on : Nat → Bool} {p q : Nat} (op : on p = true) (oq : on q = true) (e : idx on p = idx on q) : p = q := by
  by_cases c : p < q
  · have := idx_lt c op; omega
  · by_cases d : q < p
    · have := idx_lt d oq; omega
    · omega
theorem idx_cnt {on : Nat → Bool} {p many : Nat} (h : p < many) (o : on p = true) : idx on p < cnt on many := idx_lt h o
theorem idx_nx {on : Nat → Bool} {p many : Nat} (hp : p < many) (o : on p = true) :
    (nx on many p ≤ p ∧ idx on (nx on many p) = 0 ∧ idx on p + 1 = cnt on many) ∨ (p < nx on many p ∧ idx on (nx on many p) = idx on p + 1) := by
  obtain ⟨j, j1, j2, j3, _, j5, j6, j7⟩ := nx_spec ⟨p, hp, o⟩ hp
  have c1 : cN on 0 (p + 1) = cN on 0 p + 1 := by
    show cN on 0 p + _ = _
    rw [Nat.zero_add, if_pos o]
  by_cases c : p + j < many
  · right
    have ey : nx on many p = p + j := by rw [j3, Nat.mod_eq_of_lt c]
    refine ⟨by omega, ?_⟩
    unfold idx
    have z : cN on (0 + (p + 1)) (j - 1) = 0 := cN_none fun i hi => by
      have := j7 (1 + i) (by omega) (by omega)
      rw [Nat.mod_eq_of_lt (by omega)] at this
      rw [show 0 + (p + 1) + i = p + (1 + i) by omega]
      exact this
    rw [ey, show p + j = (p + 1) + (j - 1) by omega, cN_add, c1, z]
  · left
    have ey : nx on many p = p + j - many := by rw [j3, mod2 (by omega), if_neg c]
    have far : ∀ i, p < i → i < many → on i = false := fun i h1 h2 => by
      have := j7 (i - p) (by omega) (by omega)
      rwa [show p + (i - p) = i by omega, Nat.mod_eq_of_lt h2] at this
    have near : ∀ i, i < p + j - many → on i = false := fun i h1 => by
      have := j7 (i + many - p) (by omega) (by omega)
      rw [show p + (i + many - p) = i + many by omega, Nat.add_mod_right, Nat.mod_eq_of_lt (by omega)] at this
      exact this
    refine ⟨by omega, ?_, ?_⟩
    · unfold idx
      rw [ey]
      exact cN_none fun i hi => by rw [Nat.zero_add]; exact near i hi
    · unfold idx cnt
      have z : cN on (0 + (p + 1)) (many - p - 1) = 0 := cN_none fun i hi => far _ (by omega) (by omega)
      have e : cN on 0 many = cN on 0 ((p + 1) + (many - p - 1)) := by congr 1; omega
      rw [e, cN_add, c1, z]
/-- a lone token's step -/
theorem alone {R : Ring} (W : WF R) {t : Tok} (ht : R.tk = [t]) (top : ∀ x, x < R.many → onF R x = true → slt t.sp (R.st x).seen = false) {here : Nat} (hh : nx (onF R) R.many t.pl = here)
    {x : Tok × Stn × List Rw} (hx : sends (R.time + 1) here (arrive t here) { R.st here with seen := t.sp } = x) {y : Tok × Stn} (hy : tells here x.1 x.2.1 = y) :
    (moved R).tk = [y.1] ∧ (∀ u, u ≠ here → Nd ((moved R).st u) = Nd (R.st u) ∧ ((moved R).st u).line = (R.st u).line) ∧ Nd ((moved R).st here) = Nd y.2 ∧ ((moved R).st here).line = y.2.line ∧ ((moved R).st here).seen = t.sp ∧ ∀ u, u ≠ here → ((moved R).st u).seen = (R.st u).seen := by
  have hp := W.pl t (by rw [ht]; simp)
  have hex : ∃ x, x < R.many ∧ onF R x = true := ⟨t.pl, hp⟩
  have c : slt t.sp (R.st here).seen = false := top here (by rw [← hh]; exact nx_lt hex hp.1) (by rw [← hh]; exact nx_on hex hp.1)
  have eg : went R = { st := up R.st here y.2, hd := up (fun _ => false) here true, left := [y.1], rw := R.rw ++ x.2.2 } := by
    unfold went
    rw [ht]
    show goTok R.many (R.time + 1) (acc0 R) t = _
    unfold goTok
    have e1 : (acc0 R).st = R.st := rfl
    have hh2 : nx (fun i => (R.st i).on) R.many t.pl = here := hh
    simp only [e1, hh2]
    have c2 : ¬ slt t.sp (R.st here).seen = true := by
      rw [c]
      decide
    rw [if_neg c2]
    simp only [hx, hy]
    rfl
  have y2 : y.2.seen = t.sp := by
    have h1 := @tells_st here x.1 x.2.1
    have h2 := @sends_st (R.time + 1) here (arrive t here) { R.st here with seen := t.sp }
    rw [hy] at h1
    rw [hx] at h2
    exact h1.2.1.trans h2.2.1
  have est : ∀ u, (moved R).st u = { (up R.st here y.2 u) with sil := if (went R).hd u = true then 0 else (up R.st here y.2 u).sil + 1 } := fun u => by
    show silent (went R) u = _
    unfold silent
    have : (went R).st u = up R.st here y.2 u := by rw [eg]
    rw [this]
  refine ⟨by show (went R).left = _; rw [eg], fun u hu => ?_, ?_, ?_, ?_, fun u hu => ?_⟩
  · rw [est, up_ne _ _ hu]; exact ⟨rfl, rfl⟩
  · rw [est, up_same]; rfl
  · rw [est, up_same]
  · rw [est, up_same]; exact y2
  · rw [est, up_ne _ _ hu]
theorem hear_best (t : Tok) (v : Int) (h : Nat) : (∃ x u, (hear t v h).best = some (x, u) ∧ v ≤ x ∧ ((x, u) = (v, h) ∨ t.best = some (x, u)) ∧ ∀ x' u', t.best = some (x', u') → x' ≤ x) := by
  unfold hear
  cases hb : t.best with
  | none => exact ⟨v, h, rfl, Int.le_refl _, .inl rfl, fun _ _ q => nomatch q⟩
  | some b =>
    by_cases c : b.1 < v
    · simp only [c, if_true]
      exact ⟨v, h, rfl, Int.le_refl _, .inl rfl, fun x' u' q => by cases q; exact Int.le_of_lt c⟩
    · simp only [c, if_false]
      exact ⟨b.1, b.2, hb, by omega, .inr rfl, fun x' u' q => by cases q; exact Int.le_refl _⟩
end RG
namespace RG
/-- within a round: i of the m stations that are on have been come to; N: what each would have told as it began -/
structure RI (on : Nat → Bool) (m : Nat) (N : Nat → Option Int) (w : Option Nat) (s : Nat) (n : Int) (i : Nat) (R : Ring) (t : Tok) : Prop where
  wf : WF R
  on' : onF R = on
  cn : cnt on R.many = m
  tk : R.tk = [t]
  top : ∀ x, x < R.many → on x = true → slt t.sp (R.st x).seen = false
  rk : Rk R
  ps : (i = 0 ∧ idx on t.pl + 1 = m) ∨ (1 ≤ i ∧ idx on t.pl + 1 = i)
  un : ∀ u, u < R.many → on u = true → i ≤ idx on u → ∀ v, Nd (R.st u) = some v → N u = some v ∨ (N u = none ∧ v ≤ 7)
  un2 : ∀ u v, u < R.many → on u = true → i ≤ idx on u → N u = some v → Nd (R.st u) = some v
  vi : ∀ u, u < R.many → on u = true → idx on u < i → ∀ v, Nd (R.st u) = some v → v ≤ 8 ∨ (N u = some (v - 1) ∧ w ≠ some u)
  so : s < R.many ∧ on s = true
  sn : N s = some n
  sv : idx on s < i → Nd (R.st s) = some (n + 1)
  be : 1 ≤ i → ∀ x u, t.best = some (x, u) → u < R.many ∧ on u = true ∧ (x ≤ 7 ∨ (N u = some x ∧ w ≠ some u))
  bs : idx on s < i → ∃ x u, t.best = some (x, u) ∧ n ≤ x
  wi0 : i = 0 → t.best.map (·.2) = w
  wi : 1 ≤ i → ∀ u, w = some u → u < R.many → on u = true → i ≤ idx on u → t.win = some u
  wn : 1 ≤ i → ∀ u, t.win = some u → w = some u
  ws : idx on s < i → w ≠ some s
theorem RI.put {on : Nat → Bool} {m : Nat} {N : Nat → Option Int} {w : Option Nat} {s : Nat} {n : Int} {i : Nat} {R S : Ring} {t : Tok} (h : RI on m N w s n i R t) (p : PutExt R S) : RI on m N w s n i S t := by
  have nd := p.nd h.wf
  refine ⟨p.wf h.wf, by rw [p.on]; exact h.on', by rw [p.many]; exact h.cn, by rw [p.tk]; exact h.tk, fun x hx ho => ?_, p.rk h.rk, h.ps, fun u hu ho hi v hv => ?_, fun u v hu ho hi hv => ?_, fun u hu ho hi v hv => ?_, by rw [p.many]; exact h.so, h.sn, fun hi => ?_, fun hi x u hb => ?_, h.bs, h.wi0, fun hi u => ?_, h.wn, h.ws⟩
  · rw [(p.st x).2.1]; exact h.top x (by rw [← p.many]; exact hx) ho
  · rw [p.many] at hu
    rcases nd u with q | ⟨q1, q2⟩
    · rw [q] at hv; exact h.un u hu ho hi v hv
    · refine .inr ⟨?_, q2 v hv⟩
      cases e : N u with
      | none => rfl
      | some x => have := h.un2 u x hu ho hi e; rw [q1] at this; cases this
  · rw [p.many] at hu
    have := h.un2 u v hu ho hi hv
    rcases nd u with q | ⟨q1, _⟩
    · rw [q]; exact this
    · rw [q1] at this; cases this
  · rw [p.many] at hu
    rcases nd u with q | ⟨_, q2⟩
    · rw [q] at hv; exact h.vi u hu ho hi v hv
    · have := q2 v hv; exact .inl (by omega)
  · have := h.sv hi
    rcases nd s with q | ⟨q1, _⟩
    · rw [q]; exact this
    · rw [q1] at this; cases this
  · rw [p.many]; exact h.be hi x u hb
  · rw [p.many]; exact h.wi hi u
theorem Nd_some {s : Stn} {v : Int} (h : Nd s = some v) : ∃ e r, s.line = e :: r ∧ v = e.1 + s.told := by
  unfold Nd at h
  cases q : s.line with
  | nil => rw [q] at h; cases h
  | cons e r => rw [q] at h; exact ⟨e, r, rfl, (Option.some.inj h).symm⟩
/-- what happens at one place: the station's line stays where it isn't the winner -/
theorem at_place {time here : Nat} {t1 : Tok} {s0 : Stn} (hr : ∀ e, e ∈ s0.line → 0 ≤ e.1 ∧ e.1 ≤ 7) {x : Tok × Stn × List Rw} (hx : sends time here t1 s0 = x) {y : Tok × Stn} (hy : tells here x.1 x.2.1 = y) :
    (s0.line = [] ∧ Nd y.2 = none ∧ y.1.best = t1.best ∧ y.1.win = t1.win) ∨
    (∃ e r, s0.line = e :: r ∧ t1.win = some here ∧ y.2.line = r ∧ y.1.win = none ∧ (∀ v, Nd y.2 = some v → v ≤ 8) ∧
      (∀ x' u, y.1.best = some (x', u) → t1.best = some (x', u) ∨ (x' ≤ 7 ∧ u = here)) ∧ ∀ x' u, t1.best = some (x', u) → ∃ x'' u', y.1.best = some (x'', u') ∧ x' ≤ x'') ∨
    (∃ e r, s0.line = e :: r ∧ t1.win ≠ some here ∧ y.2.line = s0.line ∧ y.1.win = t1.win ∧ Nd y.2 = some (e.1 + s0.told + 1) ∧
      (∀ x' u, y.1.best = some (x', u) → t1.best = some (x', u) ∨ (x' = e.1 + s0.told ∧ u = here)) ∧ (∃ x'' u', y.1.best = some (x'', u') ∧ e.1 + s0.told ≤ x'' ∧ ∀ x' u, t1.best = some (x', u) → x' ≤ x'')) := by
  cases hl : s0.line with
  | nil =>
    left
    have ex : x = (t1, s0, []) := by rw [← hx]; unfold sends; rw [hl]
    have ey : y = (t1, s0) := by rw [← hy, ex]; unfold tells; rw [hl]
    rw [ey]
    refine ⟨rfl, ?_, rfl, rfl⟩
    unfold Nd
    rw [hl]
  | cons e r =>
    right
    by_cases c : t1.win = some here
    · left
      have ex : x = ({ t1 with win := none }, { s0 with line := r, told := 0 }, [.sent time here e.1 e.2]) := by
        rw [← hx]
        unfold sends
        rw [hl]
        simp only [c, if_true]
      refine ⟨e, r, rfl, c, ?_⟩
      cases r with
      | nil =>
        have ey : y = ({ t1 with win := none }, { s0 with line := [], told := 0 }) := by rw [← hy, ex]; rfl
        rw [ey]
        exact ⟨rfl, rfl, (fun v h => nomatch h), fun x' u h => .inl h, fun x' u h => ⟨x', u, h, Int.le_refl _⟩⟩
      | cons e2 r2 =>
        have ey : y = (hear { t1 with win := none } (e2.1 + ((0 : Nat) : Int)) here, { s0 with line := e2 :: r2, told := 0 + 1 }) := by rw [← hy, ex]; rfl
        have h2 := hr e2 (by rw [hl]; simp)
        rw [ey]
        obtain ⟨x0, u0, b1, b2, b3, b4⟩ := hear_best { t1 with win := none } (e2.1 + ((0 : Nat) : Int)) here
        refine ⟨rfl, (hear_tok).2.2, fun v h => ?_, fun x' u h => ?_, fun x' u h => ⟨x0, u0, b1, b4 x' u h⟩⟩
        · have : e2.1 + ((0 + 1 : Nat) : Int) = v := Option.some.inj h
          omega
        · have e' : some (x0, u0) = some (x', u) := b1.symm.trans h
          cases e'
          rcases b3 with q | q
          · cases q
            exact .inr ⟨by omega, rfl⟩
          · exact .inl q
    · right
      have ex : x = (t1, s0, []) := by rw [← hx]; unfold sends; rw [hl]; simp only [c, if_false]
      have ey : y = (hear t1 (e.1 + s0.told) here, { s0 with told := s0.told + 1 }) := by rw [← hy, ex]; unfold tells; rw [hl]
      rw [ey]
      obtain ⟨x0, u0, b1, b2, b3, b4⟩ := hear_best t1 (e.1 + s0.told) here
      refine ⟨e, r, rfl, c, hl, (hear_tok).2.2, ?_, fun x' u h => ?_, x0, u0, b1, b2, b4⟩
      · unfold Nd
        simp only [hl]
        congr 1
        omega
      · have e' : some (x0, u0) = some (x', u) := b1.symm.trans h
        cases e'
        rcases b3 with q | q
        · cases q; exact .inr ⟨rfl, rfl⟩
        · exact .inl q
theorem arrive_how {t : Tok} {here : Nat} : (here ≤ t.pl → (arrive t here).win = t.best.map (·.2) ∧ (arrive t here).best = none) ∧ (t.pl < here → (arrive t here).win = t.win ∧ (arrive t here).best = t.best) := by
  unfold arrive beginR
  constructor
  · intro h; simp [h]
  · intro h; simp [show ¬ here ≤ t.pl by omega]
theorem RI.next {on : Nat → Bool} {m : Nat} {N : Nat → Option Int} {w : Option Nat} {s : Nat} {n : Int} {i : Nat} {R : Ring} {t : Tok} (h : RI on m N w s n i R t) (hi : i < m) (q : Quiet R) (hs : ((step R).st s).line = (R.st s).line) :
    ∃ t', RI on m N w s n (i + 1) (step R) t' := by
  have hp := h.wf.pl t (by rw [h.tk]; simp)
  have hpo : on t.pl = true := by have := hp.2; rw [← h.on']; exact this
  have hex : ∃ x, x < R.many ∧ on x = true := ⟨t.pl, hp.1, hpo⟩
  obtain ⟨e1, _⟩ := q.moved h.wf
  generalize hh : nx on R.many t.pl = here
  have h1 : here < R.many := by rw [← hh]; exact nx_lt hex hp.1
  have ho : on here = true := by rw [← hh]; exact nx_on hex hp.1
  have hidx : idx on here = i ∧ (i = 0 → here ≤ t.pl) ∧ (1 ≤ i → t.pl < here) := by
    rcases idx_nx hp.1 hpo with ⟨a1, a2, a3⟩ | ⟨a1, a2⟩
    · rw [hh] at a1 a2
      rw [h.cn] at a3
      rcases h.ps with ⟨p1, p2⟩ | ⟨p1, p2⟩
      · exact ⟨by omega, fun _ => a1, fun _ => by omega⟩
      · omega
    · rw [hh] at a1 a2
      have := idx_cnt h1 ho
      rw [h.cn] at this
      rcases h.ps with ⟨p1, p2⟩ | ⟨p1, p2⟩
      · omega
      · exact ⟨by omega, fun _ => by omega, fun _ => a1⟩
  generalize hx : sends (R.time + 1) here (arrive t here) { R.st here with seen := t.sp } = x
  generalize hy : tells here x.1 x.2.1 = y
  obtain ⟨a1, a2, a3, a4, a5, a6⟩ := alone h.wf h.tk (by rw [h.on']; exact h.top) (by rw [h.on']; exact hh) hx hy
  have ysp : y.1.sp = t.sp ∧ y.1.pl = here := by
    rw [← hy, ← hx]
    have g1 := @tells_tok here (sends (R.time + 1) here (arrive t here) { R.st here with seen := t.sp }).1 (sends (R.time + 1) here (arrive t here) { R.st here with seen := t.sp }).2.1
    have g2 := @sends_tok (R.time + 1) here (arrive t here) { R.st here with seen := t.sp }
    have g3 := @arrive_tok t here
    exact ⟨by rw [g1.1, g2.1, g3.1], by rw [g1.2.1, g2.2.1, g3.2]⟩
  have pl := at_place (s0 := { R.st here with seen := t.sp }) (fun e m => h.rk here e m) hx hy
  rw [e1] at hs
  have onu : ∀ u, on u = true → u ≠ here → idx on u ≠ i := fun u hu hne e => hne (idx_inj hu ho (by rw [e, hidx.1]))
  -- the token's winner and best as it comes
  have aw : ∀ u, (arrive t here).win = some u → w = some u := by
    intro u hu
    by_cases c : i = 0
    · rw [(arrive_how.1 (hidx.2.1 c)).1] at hu; rw [← h.wi0 c]; exact hu
    · rw [(arrive_how.2 (hidx.2.2 (by omega))).1] at hu; exact h.wn (by omega) u hu
  have aw2 : ∀ u, w = some u → u < R.many → on u = true → i ≤ idx on u → (arrive t here).win = some u := by
    intro u hw hu hou hle
    by_cases c : i = 0
    · rw [(arrive_how.1 (hidx.2.1 c)).1, h.wi0 c]; exact hw
    · rw [(arrive_how.2 (hidx.2.2 (by omega))).1]; exact h.wi (by omega) u hw hu hou hle
  have ab : ∀ x' u, (arrive t here).best = some (x', u) → u < R.many ∧ on u = true ∧ (x' ≤ 7 ∨ (N u = some x' ∧ w ≠ some u)) := by
    intro x' u hb
    by_cases c : i = 0
    · rw [(arrive_how.1 (hidx.2.1 c)).2] at hb; cases hb
    · rw [(arrive_how.2 (hidx.2.2 (by omega))).2] at hb; exact h.be (by omega) x' u hb
  have abs' : idx on s < i → ∃ x' u, (arrive t here).best = some (x', u) ∧ n ≤ x' := by
    intro hlt
    rw [(arrive_how.2 (hidx.2.2 (by omega))).2]
    exact h.bs hlt
  have hN : ∀ v, Nd (R.st here) = some v → N here = some v ∨ (N here = none ∧ v ≤ 7) := h.un here h1 ho (by omega)
  have hN2 : ∀ v, N here = some v → Nd (R.st here) = some v := fun v => h.un2 here v h1 ho (by omega)
  rw [e1]
  have base : ∀ (b1 : ∀ v, Nd y.2 = some v → v ≤ 8 ∨ (N here = some (v - 1) ∧ w ≠ some here)) (b2 : here = s → Nd y.2 = some (n + 1))
      (b3 : ∀ x' u, y.1.best = some (x', u) → u < R.many ∧ on u = true ∧ (x' ≤ 7 ∨ (N u = some x' ∧ w ≠ some u))) (b4 : idx on s < i + 1 → ∃ x' u, y.1.best = some (x', u) ∧ n ≤ x')
      (b5 : ∀ u, w = some u → u < R.many → on u = true → i + 1 ≤ idx on u → y.1.win = some u) (b6 : ∀ u, y.1.win = some u → w = some u) (b7 : here = s → w ≠ some s), RI on m N w s n (i + 1) (moved R) y.1 := by
    intro b1 b2 b3 b4 b5 b6 b7
    refine ⟨h.wf.moved, by rw [onF_moved h.wf]; exact h.on', h.cn, a1, fun z hz hzo => ?_, by rw [← e1]; exact h.rk.step h.wf, .inr ⟨by omega, by rw [ysp.2, hidx.1]⟩, fun u hu hou hle v hv => ?_, fun u v hu hou hle hv => ?_, fun u hu hou hlt v hv => ?_, h.so, h.sn, fun hlt => ?_, fun _ => b3, b4, fun c => by omega, fun _ => b5, fun _ => b6, fun hlt => ?_⟩
    · rw [ysp.1]
      by_cases c : z = here
      · rw [c, a5]; exact slt_irr _
      · rw [a6 z c]; exact h.top z hz hzo
    · have c : u ≠ here := fun c => by rw [c, hidx.1] at hle; omega
      rw [(a2 u c).1] at hv
      exact h.un u hu hou (by omega) v hv
    · have c : u ≠ here := fun c => by rw [c, hidx.1] at hle; omega
      rw [(a2 u c).1]
      exact h.un2 u v hu hou (by omega) hv
    · by_cases c : u = here
      · rw [c] at hv ⊢
        rw [a3] at hv
        exact b1 v hv
      · rw [(a2 u c).1] at hv
        have := onu u hou c
        exact h.vi u hu hou (by omega) v hv
    · by_cases c : s = here
      · have : Nd ((moved R).st s) = Nd y.2 := by rw [c]; exact a3
        rw [this]
        exact b2 c.symm
      · rw [(a2 s c).1]
        have := onu s h.so.2 c
        exact h.sv (by omega)
    · by_cases c : s = here
      · exact b7 c.symm
      · have := onu s h.so.2 c
        exact h.ws (by omega)
  have sidx : here ≠ s → idx on s < i + 1 → idx on s < i := fun c hlt => by
    have := onu s h.so.2 (fun q => c q.symm)
    omega
  rcases pl with ⟨l0, p1, p2, p3⟩ | ⟨e, r, l0, p1, p2, p3, p4, p5, p6⟩ | ⟨e, r, l0, p1, p2, p3, p4, p5, x'', u', p6, p7, p8⟩
  · -- no message
    have l0' : (R.st here).line = [] := l0
    have ns : here ≠ s := fun c => by
      have := hN2 n (by rw [c]; exact h.sn)
      unfold Nd at this
      rw [l0'] at this
      cases this
    refine ⟨y.1, base (fun v hv => by rw [p1] at hv; cases hv) (fun c => absurd c ns) (fun x' u hb => by rw [p2] at hb; exact ab x' u hb) (fun hlt => ?_) (fun u hw hu hou hle => by rw [p3]; exact aw2 u hw hu hou (by omega)) (fun u hu => by rw [p3] at hu; exact aw u hu) (fun c => absurd c ns)⟩
    rw [p2]
    exact abs' (sidx ns hlt)
  · -- it sends
    have l0' : (R.st here).line = e :: r := l0
    have wh := aw here p1
    have ns : here ≠ s := fun c => by
      subst c
      rw [a4, p2, l0'] at hs
      exact absurd (congrArg List.length hs) (by simp)
    refine ⟨y.1, base (fun v hv => .inl (p4 v hv)) (fun c => absurd c ns) (fun x' u hb => ?_) (fun hlt => ?_) (fun u hw hu hou hle => ?_) (fun u hu => by rw [p3] at hu; cases hu) (fun c => absurd c ns)⟩
    · rcases p5 x' u hb with q | ⟨q1, q2⟩
      · exact ab x' u q
      · rw [q2]; exact ⟨h1, ho, .inl q1⟩
    · obtain ⟨x', u, q1, q2⟩ := abs' (sidx ns hlt)
      obtain ⟨x3, u3, q3, q4⟩ := p6 x' u q1
      exact ⟨x3, u3, q3, by omega⟩
    · rw [wh] at hw
      cases hw
      rw [hidx.1] at hle
      omega
  · -- it tells
    have l0' : (R.st here).line = e :: r := l0
    have nw : w ≠ some here := fun c => p1 (aw2 here c h1 ho (by omega))
    have nd0 : Nd (R.st here) = some (e.1 + (R.st here).told) := by unfold Nd; rw [l0']
    refine ⟨y.1, base (fun v hv => ?_) (fun c => ?_) (fun x' u hb => ?_) (fun hlt => ?_) (fun u hw hu hou hle => by rw [p3]; exact aw2 u hw hu hou (by omega)) (fun u hu => by rw [p3] at hu; exact aw u hu) (fun c => by rw [← c]; exact nw)⟩
    · have ev : e.1 + ((R.st here).told : Int) + 1 = v := Option.some.inj (p4.symm.trans hv)
      rcases hN _ nd0 with q | ⟨_, q⟩
      · exact .inr ⟨by rw [q]; congr 1; omega, nw⟩
      · exact .inl (by omega)
    · rw [p4]
      have := hN2 n (by rw [c]; exact h.sn)
      rw [nd0] at this
      have := Option.some.inj this
      congr 1
      show e.1 + ((R.st here).told : Int) + 1 = n + 1
      omega
    · rcases p5 x' u hb with q | ⟨q1, q2⟩
      · exact ab x' u q
      · rw [q2]
        refine ⟨h1, ho, ?_⟩
        rcases hN _ nd0 with q | ⟨_, q⟩
        · exact .inr ⟨by rw [q, q1], nw⟩
        · exact .inl (by rw [q1]; exact q)
    · by_cases c : here = s
      · have := hN2 n (by rw [c]; exact h.sn)
        rw [nd0] at this
        have := Option.some.inj this
        exact ⟨x'', u', p6, by have h7 : e.1 + ((R.st here).told : Int) ≤ x'' := p7; omega⟩
      · obtain ⟨x', u, q1, q2⟩ := abs' (sidx c hlt)
        have := p8 x' u q1
        exact ⟨x'', u', p6, by omega⟩
/-- through the round -/
theorem run {on : Nat → Bool} {m : Nat} {N : Nat → Option Int} {w : Option Nat} {s : Nat} {n : Int} {b M : Nat} : ∀ (k i : Nat) (R : Ring) (t : Tok), RI on m N w s n i R t → R.many = M → i + k = m → (∀ R' t', RI on m N w s n m R' t' → R'.many = M → Will s b R') → Will s (k + b) R
  | 0, i, R, t, h, hM, e, f => by
    have : i = m := by omega
    subst this
    rw [Nat.zero_add]
    exact f R t h hM
  | k + 1, i, R, t, h, hM, e, f => by
    rw [show k + 1 + b = (k + b) + 1 by omega]
    intro S p q hl
    obtain ⟨t', h'⟩ := (h.put p).next (by omega) q hl
    exact run k (i + 1) (step S) t' h' (by rw [step_many, p.many, hM]) (by omega) f
end RG
namespace RG
theorem cN_imp {f g : Nat → Bool} {a : Nat} : ∀ {k : Nat}, (∀ i, i < k → f (a + i) = true → g (a + i) = true) → cN f a k ≤ cN g a k
  | 0, _ => Nat.le_refl _
  | k + 1, h => by
    show cN f a k + _ ≤ cN g a k + _
    have h1 := cN_imp (k := k) fun i hi => h i (by omega)
    have h2 := h k (by omega)
    by_cases c : f (a + k) = true
    · rw [if_pos c, if_pos (h2 c)]; omega
    · rw [if_neg c]; omega
theorem cN_less {f g : Nat → Bool} {x : Nat} : ∀ {k : Nat}, x < k → (∀ i, i < k → f i = true → g i = true) → f x = false → g x = true → cN f 0 k < cN g 0 k
  | 0, hx, _, _, _ => by omega
  | k + 1, hx, h, fx, gx => by
    show cN f 0 k + (if f (0 + k) = true then 1 else 0) < cN g 0 k + (if g (0 + k) = true then 1 else 0)
    rw [Nat.zero_add]
    by_cases c : x = k
    · subst c
      have h1 : cN f 0 x ≤ cN g 0 x := cN_imp fun i hi => by rw [Nat.zero_add]; exact h i (by omega)
      rw [if_neg (by rw [fx]; decide), if_pos gx]
      omega
    · have h1 := cN_less (k := k) (by omega) (fun i hi => h i (by omega)) fx gx
      have h2 := h k (by omega)
      by_cases d : f k = true
      · rw [if_pos d, if_pos (h2 d)]; omega
      · rw [if_neg d]; omega
/-- those that may win ahead of s -/
def rival (on : Nat → Bool) (N : Nat → Option Int) (w : Option Nat) (s : Nat) (n : Int) (u : Nat) : Bool :=
  on u && decide (u ≠ s) && decide (w ≠ some u) && (match N u with | some v => decide (n ≤ v) | none => false)
theorem rival_iff {on : Nat → Bool} {N : Nat → Option Int} {w : Option Nat} {s : Nat} {n : Int} {u : Nat} : rival on N w s n u = true ↔ on u = true ∧ u ≠ s ∧ w ≠ some u ∧ ∃ v, N u = some v ∧ n ≤ v := by
  unfold rival
  cases h : N u with
  | none => simp
  | some v => simp [and_assoc]
def left_ (on : Nat → Bool) (m many : Nat) (N : Nat → Option Int) (w : Option Nat) (s : Nat) (n : Int) : Nat :=
  if w = some s then 1 else if n < 8 then (8 - n).toNat + (m - 1) + 2 else cN (rival on N w s n) 0 many + 2
theorem few_rivals {on : Nat → Bool} {many : Nat} {N : Nat → Option Int} {w : Option Nat} {s : Nat} {n : Int} (hs : s < many) (ho : on s = true) : cN (rival on N w s n) 0 many + 1 ≤ cnt on many := by
  refine cN_less (x := s) hs (fun i _ h => (rival_iff.mp h).1) ?_ ho
  cases h : rival on N w s n s with
  | false => rfl
  | true => exact absurd rfl (rival_iff.mp h).2.1
/-- as a round begins: within so many rounds -/
theorem rounds {on : Nat → Bool} {m : Nat} {s : Nat} : ∀ (V : Nat) (N : Nat → Option Int) (w : Option Nat) (n : Int) (R : Ring) (t : Tok), RI on m N w s n 0 R t → left_ on m R.many N w s n ≤ V → Will s (V * m) R
  | 0, N, w, n, R, t, h, hv => by
    unfold left_ at hv
    split at hv
    · omega
    · split at hv <;> omega
  | V + 1, N, w, n, R, t, h, hv => by
    have hm : (V + 1) * m = m + V * m := by rw [Nat.add_mul]; omega
    rw [hm]
    refine run (M := R.many) m 0 R t h rfl (by omega) fun R' t' h' hmany => ?_
    have hsm : idx on s < m := by rw [← h'.cn]; exact idx_cnt h'.so.1 h'.so.2
    have hw := h'.ws hsm
    have h0 : RI on m (fun u => Nd (R'.st u)) (t'.best.map (·.2)) s (n + 1) 0 R' t' := by
      refine ⟨h'.wf, h'.on', h'.cn, h'.tk, h'.top, h'.rk, .inl ⟨rfl, ?_⟩, fun u hu hou _ v hv => .inl hv, fun u v hu hou _ hv => hv, fun u _ _ hlt => by omega, h'.so, h'.sv hsm, fun hlt => by omega, fun hlt => by omega, fun hlt => by omega, fun _ => rfl, fun hlt => by omega, fun hlt => by omega, fun hlt => by omega⟩
      rcases h'.ps with ⟨p1, p2⟩ | ⟨p1, p2⟩
      · exact p2
      · exact p2
    refine rounds V _ _ _ R' t' h0 ?_
    have emany : cnt on R.many = cnt on R'.many := by rw [h.cn, h'.cn]
    obtain ⟨x, u0, b1, b2⟩ := h'.bs hsm
    have h1 := h'.be (by omega) x u0 b1
    have few' := few_rivals (N := fun u => Nd (R'.st u)) (w := t'.best.map (·.2)) (n := n + 1) h'.so.1 h'.so.2
    rw [h'.cn] at few'
    unfold left_ at hv ⊢
    rw [if_neg hw] at hv
    by_cases c : t'.best.map (·.2) = some s
    · rw [if_pos c]
      split at hv <;> omega
    · rw [if_neg c]
      by_cases d : n < 8
      · rw [if_pos d] at hv
        by_cases e : n + 1 < 8
        · rw [if_pos e]; omega
        · rw [if_neg e]; omega
      · rw [if_neg d] at hv
        rw [if_neg (by omega)]
        have u0s : u0 ≠ s := fun q => c (by rw [b1, q]; rfl)
        have hN0 : N u0 = some x ∧ w ≠ some u0 := by
          rcases h1.2.2 with q | q
          · omega
          · exact q
        have hlt : cN (rival on (fun u => Nd (R'.st u)) (t'.best.map (·.2)) s (n + 1)) 0 R'.many < cN (rival on N w s n) 0 R'.many := by
          refine cN_less (x := u0) h1.1 (fun i hi hr => ?_) ?_ ?_
          · obtain ⟨r1, r2, r3, v, r4, r5⟩ := rival_iff.mp hr
            have hi' : idx on i < m := by rw [← h'.cn]; exact idx_cnt hi r1
            rcases h'.vi i hi r1 hi' v r4 with q | ⟨q1, q2⟩
            · omega
            · exact rival_iff.mpr ⟨r1, r2, q2, v - 1, q1, by omega⟩
          · cases hr : rival on (fun u => Nd (R'.st u)) (t'.best.map (·.2)) s (n + 1) u0 with
            | false => rfl
            | true => exact absurd (by rw [b1]; rfl) (rival_iff.mp hr).2.2.1
          · exact rival_iff.mpr ⟨h1.2.1, u0s, hN0.2, x, hN0.1, b2⟩
        rw [← hmany] at hv
        omega
/-- a lone token, no station that is on knows a greater stamp -/
structure PI (on : Nat → Bool) (m s M : Nat) (R : Ring) (t : Tok) : Prop where
  wf : WF R
  on' : onF R = on
  cn : cnt on R.many = m
  mn : R.many = M
  tk : R.tk = [t]
  top : ∀ x, x < R.many → on x = true → slt t.sp (R.st x).seen = false
  rk : Rk R
  so : s < R.many ∧ on s = true
  ln : (R.st s).line ≠ []
theorem PI.put {on : Nat → Bool} {m s M : Nat} {R S : Ring} {t : Tok} (h : PI on m s M R t) (p : PutExt R S) : PI on m s M S t := by
  refine ⟨p.wf h.wf, by rw [p.on]; exact h.on', by rw [p.many]; exact h.cn, by rw [p.many]; exact h.mn, by rw [p.tk]; exact h.tk, fun x hx ho => ?_, p.rk h.rk, by rw [p.many]; exact h.so, ?_⟩
  · rw [(p.st x).2.1]; exact h.top x (by rw [← p.many]; exact hx) ho
  · obtain ⟨ex, e, _⟩ := p.line s
    rw [e]
    intro q
    exact h.ln (List.append_eq_nil_iff.mp q).1
theorem PI.next {on : Nat → Bool} {m s M : Nat} {R : Ring} {t : Tok} (h : PI on m s M R t) (q : Quiet R) (hs : ((step R).st s).line = (R.st s).line) : ∃ t', PI on m s M (step R) t' ∧ t'.pl = nx on R.many t.pl := by
  obtain ⟨e1, _⟩ := q.moved h.wf
  generalize hh : nx on R.many t.pl = here
  generalize hx : sends (R.time + 1) here (arrive t here) { R.st here with seen := t.sp } = x
  generalize hy : tells here x.1 x.2.1 = y
  obtain ⟨a1, a2, a3, a4, a5, a6⟩ := alone h.wf h.tk (by rw [h.on']; exact h.top) (by rw [h.on']; exact hh) hx hy
  have ysp : y.1.sp = t.sp ∧ y.1.pl = here := by
    rw [← hy, ← hx]
    have g1 := @tells_tok here (sends (R.time + 1) here (arrive t here) { R.st here with seen := t.sp }).1 (sends (R.time + 1) here (arrive t here) { R.st here with seen := t.sp }).2.1
    have g2 := @sends_tok (R.time + 1) here (arrive t here) { R.st here with seen := t.sp }
    have g3 := @arrive_tok t here
    exact ⟨by rw [g1.1, g2.1, g3.1], by rw [g1.2.1, g2.2.1, g3.2]⟩
  refine ⟨y.1, ⟨h.wf.step, by rw [onF_step h.wf]; exact h.on', by rw [step_many]; exact h.cn, by rw [step_many]; exact h.mn, by rw [e1]; exact a1, fun z hz ho => ?_, h.rk.step h.wf, by rw [step_many]; exact h.so, by rw [hs]; exact h.ln⟩, ysp.2⟩
  rw [step_many] at hz
  rw [e1, ysp.1]
  by_cases c : z = here
  · rw [c, a5]; exact slt_irr _
  · rw [a6 z c]; exact h.top z hz ho
/-- to the end of the round that is under way -/
theorem pre {on : Nat → Bool} {m s b M : Nat} : ∀ (k : Nat) (R : Ring) (t : Tok), PI on m s M R t → idx on t.pl + k + 1 = m → (∀ R' t', PI on m s M R' t' → idx on t'.pl + 1 = m → Will s b R') → Will s (k + b) R
  | 0, R, t, h, e, f => by rw [Nat.zero_add]; exact f R t h (by omega)
  | k + 1, R, t, h, e, f => by
    rw [show k + 1 + b = (k + b) + 1 by omega]
    intro S p q hl
    obtain ⟨t', h', ht'⟩ := (h.put p).next q hl
    have hp := h.wf.pl t (by rw [h.tk]; simp)
    have hpo : on t.pl = true := by have := hp.2; rw [← h.on']; exact this
    refine pre k (step S) t' h' ?_ f
    rw [ht', p.many]
    rcases idx_nx hp.1 hpo with ⟨_, _, a3⟩ | ⟨_, a2⟩
    · rw [h.cn] at a3; omega
    · omega
theorem left_le {on : Nat → Bool} {m many : Nat} {N : Nat → Option Int} {w : Option Nat} {s : Nat} {n : Int} (hs : s < many) (ho : on s = true) (hm : cnt on many = m) (hn : 0 ≤ n) : left_ on m many N w s n ≤ m + 9 := by
  have := few_rivals (N := N) (w := w) (n := n) hs ho
  unfold left_
  split
  · omega
  · split <;> omega
/-- [11] -/
theorem will_one {on : Nat → Bool} {m s M : Nat} {R : Ring} {t : Tok} (h : PI on m s M R t) : Will s ((m + 10) * m - 1) R := by
  have hp := h.wf.pl t (by rw [h.tk]; simp)
  have hpo : on t.pl = true := by have := hp.2; rw [← h.on']; exact this
  have hix : idx on t.pl < m := by rw [← h.cn]; exact idx_cnt hp.1 hpo
  have hk : Will s ((m - 1 - idx on t.pl) + (m + 9) * m) R := by
    refine pre (m - 1 - idx on t.pl) R t h (by omega) fun R' t' h' e' => ?_
    obtain ⟨x, l, hl⟩ : ∃ x l, (R'.st s).line = x :: l := by
      cases q : (R'.st s).line with
      | nil => exact absurd q h'.ln
      | cons x l => exact ⟨x, l, rfl⟩
    have hnd : Nd (R'.st s) = some (x.1 + (R'.st s).told) := by unfold Nd; rw [hl]
    have hx := h'.rk s x (by rw [hl]; simp)
    refine rounds (m + 9) (fun u => Nd (R'.st u)) (t'.best.map (·.2)) (x.1 + (R'.st s).told) R' t'
      ⟨h'.wf, h'.on', h'.cn, h'.tk, h'.top, h'.rk, .inl ⟨rfl, e'⟩, fun u hu hou _ v hv => .inl hv, fun u v hu hou _ hv => hv, fun u _ _ hlt => by omega, h'.so, hnd, fun hlt => by omega, fun hlt => by omega, fun hlt => by omega, fun _ => rfl, fun hlt => by omega, fun hlt => by omega, fun hlt => by omega⟩
      (left_le h'.so.1 h'.so.2 h'.cn (by omega))
  refine hk.le ?_
  have e : (m + 10) * m = (m + 9) * m + m := by rw [show m + 10 = (m + 9) + 1 by omega, Nat.add_mul, Nat.one_mul]
  omega
/-- .. with whatever tokens, the greatest of them greater than all that is known -/
theorem will_all {R : Ring} (W : WF R) (T : Top R) (K : Rk R) {s : Nat} (hs : s < R.many) (ho : (R.st s).on = true) (hl : (R.st s).line ≠ []) : Will s ((cnt (onF R) R.many + 10) * cnt (onF R) R.many - 1) R := by
  have hm : 1 ≤ cnt (onF R) R.many := by have := idx_cnt (on := onF R) hs ho; omega
  obtain ⟨t, m, h1, h2⟩ := T
  match htk : R.tk with
  | [] => rw [htk] at m; cases m
  | [t0] =>
    rw [htk] at m
    cases List.mem_singleton.mp m
    exact will_one ⟨W, rfl, rfl, rfl, htk, h2, K, ⟨hs, ho⟩, hl⟩
  | a :: b :: r =>
    refine (multi (s := s) (cnt (onF R) R.many - 1) 0 R W (Trail.zero W) (by rw [htk]; simp) (by omega)).le ?_
    have e : (cnt (onF R) R.many + 10) * cnt (onF R) R.many = cnt (onF R) R.many * cnt (onF R) R.many + 10 * cnt (onF R) R.many := by rw [Nat.add_mul]
    have : cnt (onF R) R.many * 1 ≤ cnt (onF R) R.many * cnt (onF R) R.many := Nat.mul_le_mul_left _ hm
    omega
end RG
namespace RG
/-! ### the deeds keep what holds -/
theorem WF.put {R : Ring} (W : WF R) (i : Nat) (r m : Int) : WF (put R i r m) := by
  have e : ∀ j, ((RG.put R i r m).st j).on = (R.st j).on ∧ ((RG.put R i r m).st j).seen = (R.st j).seen ∧ ((RG.put R i r m).st j).told = (R.st j).told ∧ ((RG.put R i r m).st j).line = if j = i then (R.st i).line ++ [(r, m)] else (R.st j).line := by
    intro j
    by_cases c : j = i
    · subst c
      show (up R.st j _ j).on = _ ∧ (up R.st j _ j).seen = _ ∧ (up R.st j _ j).told = _ ∧ (up R.st j _ j).line = _
      rw [up_same, if_pos rfl]
      exact ⟨rfl, rfl, rfl, rfl⟩
    · show (up R.st i _ j).on = _ ∧ (up R.st i _ j).seen = _ ∧ (up R.st i _ j).told = _ ∧ (up R.st i _ j).line = _
      rw [up_ne _ _ c, if_neg c]
      exact ⟨rfl, rfl, rfl, rfl⟩
  refine ⟨W.pos, fun t m => ?_, fun t m => ?_, fun t m => ?_, W.srt, fun j h => ?_⟩
  · rw [(e _).1]; exact W.pl t m
  · rw [(e _).2.1]; exact W.kn t m
  · rw [(e _).2.1]; exact W.mkr t m
  · rw [(e j).2.2.2] at h
    rw [(e j).2.2.1]
    by_cases c : j = i
    · rw [if_pos c] at h; exact absurd h (by simp)
    · rw [if_neg c] at h; exact W.told j h
theorem WF.sub {R S : Ring} (W : WF R) (hm : S.many = R.many) (hs : S.st = R.st) (h : S.tk.Sublist R.tk) : WF S :=
  ⟨by rw [hm]; exact W.pos, fun t m => by rw [hm, hs]; exact W.pl t (h.subset m), fun t m => by rw [hs]; exact W.kn t (h.subset m), fun t m => by rw [hs]; exact W.mkr t (h.subset m), W.srt.sublist h, fun i => by rw [hs]; exact W.told i⟩
theorem lose_tk (R : Ring) (k : Nat) : (lose R k).many = R.many ∧ (lose R k).st = R.st ∧ (lose R k).time = R.time ∧ (lose R k).tk = R.tk.eraseIdx k := by
  unfold lose
  cases h : R.tk[k]? with
  | none => exact ⟨rfl, rfl, rfl, (List.eraseIdx_of_length_le (List.getElem?_eq_none_iff.mp h)).symm⟩
  | some t => exact ⟨rfl, rfl, rfl, rfl⟩
theorem WF.lose {R : Ring} (W : WF R) (k : Nat) : WF (lose R k) :=
  W.sub (lose_tk R k).1 (lose_tk R k).2.1 (by rw [(lose_tk R k).2.2.2]; exact List.eraseIdx_sublist _ _)
theorem WF.off {R : Ring} (W : WF R) (i : Nat) : WF (off R i) := by
  have e : ∀ j, ((RG.off R i).st j).seen = (R.st j).seen ∧ ((RG.off R i).st j).told = (R.st j).told ∧ ((RG.off R i).st j).line = (R.st j).line ∧ (j ≠ i → ((RG.off R i).st j).on = (R.st j).on) := by
    intro j
    by_cases c : j = i
    · subst c
      show (up R.st j _ j).seen = _ ∧ (up R.st j _ j).told = _ ∧ (up R.st j _ j).line = _ ∧ _
      rw [up_same]
      exact ⟨rfl, rfl, rfl, fun h => absurd rfl h⟩
    · show (up R.st i _ j).seen = _ ∧ (up R.st i _ j).told = _ ∧ (up R.st i _ j).line = _ ∧ (_ → (up R.st i _ j).on = _)
      rw [up_ne _ _ c]
      exact ⟨rfl, rfl, rfl, fun _ => rfl⟩
  have sub : (RG.off R i).tk.Sublist R.tk := List.filter_sublist
  refine ⟨W.pos, fun t m => ?_, fun t m => ?_, fun t m => ?_, W.srt.sublist sub, fun j h => ?_⟩
  · have h2 : (t.pl != i) = true := (List.mem_filter.mp m).2
    have h3 : t.pl ≠ i := by simpa using h2
    rw [(e _).2.2.2 h3]
    exact W.pl t (sub.subset m)
  · rw [(e _).1]; exact W.kn t (sub.subset m)
  · rw [(e _).1]; exact W.mkr t (sub.subset m)
  · rw [(e j).2.2.1] at h
    rw [(e j).2.1]
    exact W.told j h
theorem WF.turnOn {R : Ring} (W : WF R) (i : Nat) : WF (turnOn R i) := by
  have e : ∀ j, ((RG.turnOn R i).st j).seen = (R.st j).seen ∧ ((RG.turnOn R i).st j).told = (R.st j).told ∧ ((RG.turnOn R i).st j).line = (R.st j).line ∧ ((R.st j).on = true → ((RG.turnOn R i).st j).on = true) := by
    intro j
    by_cases c : j = i
    · subst c
      show (up R.st j _ j).seen = _ ∧ (up R.st j _ j).told = _ ∧ (up R.st j _ j).line = _ ∧ (_ → (up R.st j _ j).on = true)
      rw [up_same]
      exact ⟨rfl, rfl, rfl, fun _ => rfl⟩
    · show (up R.st i _ j).seen = _ ∧ (up R.st i _ j).told = _ ∧ (up R.st i _ j).line = _ ∧ (_ → (up R.st i _ j).on = true)
      rw [up_ne _ _ c]
      exact ⟨rfl, rfl, rfl, fun h => h⟩
  refine ⟨W.pos, fun t m => ⟨(W.pl t m).1, (e _).2.2.2 (W.pl t m).2⟩, fun t m => ?_, fun t m => ?_, W.srt, fun j h => ?_⟩
  · rw [(e _).1]; exact W.kn t m
  · rw [(e _).1]; exact W.mkr t m
  · rw [(e j).2.2.1] at h
    rw [(e j).2.1]
    exact W.told j h
theorem WF.start {many : Nat} (h : 1 ≤ many) : WF (ring0 many) := by
  have W : WF ⟨many, fun _ => ⟨true, (0, 0), 0, 0, []⟩, [], [], 0⟩ := ⟨h, fun t m => (nomatch m), fun t m => (nomatch m), fun t m => (nomatch m), List.Pairwise.nil, fun _ _ => rfl⟩
  exact W.born (i := 0) (by show 0 < many; omega) rfl
theorem Rk.put {R : Ring} (h : Rk R) {i : Nat} {r m : Int} (h0 : 0 ≤ r) (h7 : r ≤ 7) : Rk (put R i r m) := fun j e me => by
  by_cases c : j = i
  · subst c
    have me' : e ∈ (up R.st j { R.st j with line := (R.st j).line ++ [(r, m)] } j).line := me
    rw [up_same] at me'
    rcases List.mem_append.mp me' with q | q
    · exact h j e q
    · cases List.mem_singleton.mp q; exact ⟨h0, h7⟩
  · have me' : e ∈ (up R.st i { R.st i with line := (R.st i).line ++ [(r, m)] } j).line := me
    rw [up_ne _ _ c] at me'
    exact h j e me'
theorem Rk.line {R S : Ring} (h : Rk R) (e : ∀ i, (S.st i).line = (R.st i).line) : Rk S := fun i x m => h i x (by rw [← e i]; exact m)
theorem PutExt.one (R : Ring) (i : Nat) {r m : Int} (h0 : 0 ≤ r) (h7 : r ≤ 7) : PutExt R (put R i r m) := by
  refine ⟨rfl, rfl, rfl, rfl, fun j => ?_, fun j => ?_⟩
  · by_cases c : j = i
    · subst c
      show (up R.st j _ j).on = _ ∧ (up R.st j _ j).seen = _ ∧ (up R.st j _ j).sil = _ ∧ (up R.st j _ j).told = _
      rw [up_same]
      exact ⟨rfl, rfl, rfl, rfl⟩
    · show (up R.st i _ j).on = _ ∧ (up R.st i _ j).seen = _ ∧ (up R.st i _ j).sil = _ ∧ (up R.st i _ j).told = _
      rw [up_ne _ _ c]
      exact ⟨rfl, rfl, rfl, rfl⟩
  · by_cases c : j = i
    · subst c
      refine ⟨[(r, m)], ?_, fun e me => by cases List.mem_singleton.mp me; exact ⟨h0, h7⟩⟩
      show (up R.st j _ j).line = _
      rw [up_same]
    · refine ⟨[], ?_, fun e me => (nomatch me)⟩
      show (up R.st i _ j).line = _
      rw [up_ne _ _ c, List.append_nil]
theorem PutExt.trans {R S T : Ring} (a : PutExt R S) (b : PutExt S T) : PutExt R T := by
  refine ⟨b.many.trans a.many, b.tk.trans a.tk, b.rw.trans a.rw, b.time.trans a.time, fun i => ?_, fun i => ?_⟩
  · obtain ⟨a1, a2, a3, a4⟩ := a.st i
    obtain ⟨b1, b2, b3, b4⟩ := b.st i
    exact ⟨b1.trans a1, b2.trans a2, b3.trans a3, b4.trans a4⟩
  · obtain ⟨x, hx, kx⟩ := a.line i
    obtain ⟨y, hy, ky⟩ := b.line i
    refine ⟨x ++ y, by rw [hy, hx, List.append_assoc], fun e m => ?_⟩
    rcases List.mem_append.mp m with m | m
    · exact kx e m
    · exact ky e m
/-! ### how many -/
theorem pigeon : ∀ (n : Nat) (l : List Nat), l.Pairwise (· ≠ ·) → (∀ x, x ∈ l → x < n) → l.length ≤ n
  | 0, l, _, h => by
    cases l with
    | nil => exact Nat.le_refl _
    | cons x l => have := h x (List.mem_cons_self ..); omega
  | n + 1, l, hp, h => by
    by_cases c : n ∈ l
    · have h1 := pigeon n (l.erase n) (hp.sublist List.erase_sublist) fun x m => by
        have h2 := h x (List.mem_of_mem_erase m)
        have h3 : x ≠ n := fun q => by
          subst q
          have hn : l.Nodup := hp
          exact (List.Nodup.mem_erase_iff hn).mp m |>.1 rfl
        omega
      rw [List.length_erase_of_mem c] at h1
      omega
    · have := pigeon n l hp fun x m => by
        have h2 := h x m
        have h3 : x ≠ n := fun q => c (by rw [← q]; exact m)
        omega
      omega
theorem left_few {R : Ring} (W : WF R) : (moved R).tk.length ≤ R.many := by
  have I := GI.all W
  have := pigeon R.many ((went R).left.map (·.pl)) (List.pairwise_map.mpr I.plc) fun x m => by
    obtain ⟨t, mt, rfl⟩ := List.mem_map.mp m
    exact (W.moved.pl t mt).1
  rw [List.length_map] at this
  exact this
theorem step_few {R : Ring} (W : WF R) : (step R).tk.length ≤ 2 * R.many ∧ (step R).rw.length ≤ R.rw.length + R.tk.length + R.many := by
  have hb : ∀ (l : List Nat) (S : Ring), (l.foldl bornIf S).tk.length ≤ S.tk.length + l.length := by
    intro l
    induction l with
    | nil => intro S; exact Nat.le_refl _
    | cons i l ih =>
      intro S
      have h1 := ih (bornIf S i)
      have h2 : (bornIf S i).tk.length ≤ S.tk.length + 1 := by
        unfold bornIf
        split
        · show (insTok _ S.tk).length ≤ _
          rw [ins_len]
          exact Nat.le_refl _
        · omega
      show (l.foldl bornIf (bornIf S i)).tk.length ≤ _
      rw [List.length_cons]
      omega
  constructor
  · have h1 := hb (List.range R.many) (moved R)
    have h2 := left_few W
    rw [List.length_range] at h1
    show ((List.range R.many).foldl bornIf (moved R)).tk.length ≤ _
    omega
  · obtain ⟨ms, m1, _, _, m4⟩ := step_rows R
    have hr : ∀ (l done : List Tok) (a : Acc), (l.foldl (goTok R.many (R.time + 1)) a).rw.length ≤ a.rw.length + l.length := by
      intro l
      induction l with
      | nil => intro _ a; exact Nat.le_refl _
      | cons t l ih =>
        intro d a
        have h1 := ih d (goTok R.many (R.time + 1) a t)
        have h2 : (goTok R.many (R.time + 1) a t).rw.length ≤ a.rw.length + 1 := by
          unfold goTok
          dsimp only
          split
          · simp
          · show (a.rw ++ _).length ≤ _
            rw [List.length_append]
            have : ∀ tm h (t : Tok) (s : Stn), (sends tm h t s).2.2.length ≤ 1 := by
              intro tm h t s
              unfold sends
              cases s.line with
              | nil => simp
              | cons e r => by_cases c : t.win = some h <;> simp [c]
            exact Nat.add_le_add_left (this _ _ _ _) _
        show (l.foldl _ (goTok R.many (R.time + 1) a t)).rw.length ≤ _
        rw [List.length_cons]
        omega
    have h3 := hr R.tk [] (acc0 R)
    rw [m1, List.length_append]
    have : (moved R).rw.length ≤ R.rw.length + R.tk.length := h3
    omega
theorem step_line {R : Ring} (W : WF R) (i : Nat) : ((step R).st i).line = (R.st i).line ∨ ∃ e, (R.st i).line = e :: ((step R).st i).line := by
  rw [(step_st W i).2.1]
  exact (GI.all W).line i
/-! ### [7], where no token is -/
def passes (S : Ring) (i : Nat) : Bool := (S.st i).on && decide (limit S.many i < (S.st i).sil)
theorem went_none {R : Ring} (h : R.tk = []) : went R = acc0 R := by unfold went; rw [h]; rfl
theorem moved_none {R : Ring} (h : R.tk = []) : moved R = { R with st := fun i => { R.st i with sil := (R.st i).sil + 1 }, tk := [], time := R.time + 1 } := by
  unfold moved
  rw [went_none h]
  rfl
theorem borns_none : ∀ (l : List Nat) (S : Ring), (∀ i, i ∈ l → passes S i = false) → l.foldl bornIf S = S
  | [], _, _ => rfl
  | i :: l, S, h => by
    have hi := h i (List.mem_cons_self ..)
    have e : bornIf S i = S := by
      unfold bornIf
      rw [if_neg]
      intro c
      unfold passes at hi
      rw [c.1, decide_eq_true c.2] at hi
      cases hi
    show l.foldl bornIf (bornIf S i) = S
    rw [e]
    exact borns_none l S fun j m => h j (List.mem_cons_of_mem _ m)
def newTok (S : Ring) (i : Nat) : Tok := ⟨((S.st i).seen.1 + 1, i), i, none, none⟩
theorem borns_all : ∀ (l : List Nat) (S : Ring), l.Nodup → (l.foldl bornIf S).rw = S.rw ++ ((l.filter (passes S)).map fun i => .made S.time i ((S.st i).seen.1 + 1)) ∧
    (l.foldl bornIf S).tk.Perm (((l.filter (passes S)).map (newTok S)) ++ S.tk) ∧ (l.foldl bornIf S).time = S.time ∧ (l.foldl bornIf S).many = S.many ∧
    ∀ j, ((l.foldl bornIf S).st j).seen = if j ∈ l ∧ passes S j = true then ((S.st j).seen.1 + 1, j) else (S.st j).seen
  | [], S, _ => ⟨by simp, by simp, rfl, rfl, fun j => by simp⟩
  | i :: l, S, hn => by
    rw [List.nodup_cons] at hn
    have other : ∀ j, j ≠ i → (bornIf S i).st j = S.st j := fun j hj => by
      unfold bornIf
      split
      · show up S.st i _ j = _; rw [up_ne _ _ hj]
      · rfl
    have hps : ∀ j, j ∈ l → passes (bornIf S i) j = passes S j := fun j hj => by
      have : j ≠ i := fun q => hn.1 (by rw [← q]; exact hj)
      unfold passes
      rw [other j this, bornIf_many]
    have hf : l.filter (passes (bornIf S i)) = l.filter (passes S) := List.filter_congr hps
    obtain ⟨h1, h2, h3, h4, h5⟩ := borns_all l (bornIf S i) hn.2
    have ht : (bornIf S i).time = S.time := by unfold bornIf; split <;> rfl
    have hmem : ∀ j, j ∈ l.filter (passes S) → (bornIf S i).st j = S.st j := fun j hj => other j fun q => hn.1 (by rw [← q]; exact (List.mem_filter.mp hj).1)
    have hm1 : ((l.filter (passes S)).map fun j => Rw.made (bornIf S i).time j (((bornIf S i).st j).seen.1 + 1)) = (l.filter (passes S)).map fun j => .made S.time j ((S.st j).seen.1 + 1) :=
      List.map_congr_left fun j hj => by rw [hmem j hj, ht]
    have hm2 : (l.filter (passes S)).map (newTok (bornIf S i)) = (l.filter (passes S)).map (newTok S) := List.map_congr_left fun j hj => by unfold newTok; rw [hmem j hj]
    rw [hf, hm1] at h1
    rw [hf, hm2] at h2
    refine ⟨?_, ?_, h3.trans ht, h4.trans (bornIf_many S i), fun j => ?_⟩
    · show (l.foldl bornIf (bornIf S i)).rw = _
      rw [h1, List.filter_cons]
      unfold bornIf
      by_cases c : (S.st i).on = true ∧ limit S.many i < (S.st i).sil
      · have : passes S i = true := by unfold passes; rw [c.1, decide_eq_true c.2]; rfl
        rw [if_pos c, if_pos this]
        show S.rw ++ [_] ++ _ = S.rw ++ (_ :: _)
        rw [List.append_assoc]
        rfl
      · have : ¬ passes S i = true := by intro q; unfold passes at q; rw [Bool.and_eq_true] at q; exact c ⟨q.1, of_decide_eq_true q.2⟩
        rw [if_neg c, if_neg this]
    · show (l.foldl bornIf (bornIf S i)).tk.Perm _
      refine h2.trans ?_
      rw [List.filter_cons]
      unfold bornIf
      by_cases c : (S.st i).on = true ∧ limit S.many i < (S.st i).sil
      · have : passes S i = true := by unfold passes; rw [c.1, decide_eq_true c.2]; rfl
        rw [if_pos c, if_pos this]
        have hi : ∀ t (us : List Tok), (insTok t us).Perm (t :: us) := by
          intro t us
          induction us with
          | nil => exact List.Perm.refl _
          | cons u us ih =>
            unfold insTok
            split
            · exact List.Perm.refl _
            · exact (ih.cons u).trans (List.Perm.swap t u us)
        show (_ ++ insTok (newTok S i) S.tk).Perm (newTok S i :: (_ ++ S.tk))
        exact ((hi (newTok S i) S.tk).append_left _).trans List.perm_middle
      · have : ¬ passes S i = true := by intro q; unfold passes at q; rw [Bool.and_eq_true] at q; exact c ⟨q.1, of_decide_eq_true q.2⟩
        rw [if_neg c, if_neg this]
    · show ((l.foldl bornIf (bornIf S i)).st j).seen = _
      rw [h5]
      by_cases hj : j = i
      · subst hj
        rw [if_neg (fun q => hn.1 q.1)]
        unfold bornIf
        by_cases c : (S.st j).on = true ∧ limit S.many j < (S.st j).sil
        · have : passes S j = true := by unfold passes; rw [c.1, decide_eq_true c.2]; rfl
          rw [if_pos c, if_pos ⟨List.mem_cons_self .., this⟩]
          exact congrArg Stn.seen (up_same S.st j _)
        · have : ¬ passes S j = true := by intro q; unfold passes at q; rw [Bool.and_eq_true] at q; exact c ⟨q.1, of_decide_eq_true q.2⟩
          rw [if_neg c, if_neg (fun q => this q.2)]
      · rw [other j hj]
        by_cases hl : j ∈ l
        · rw [hps j hl]
          by_cases c : passes S j = true
          · rw [if_pos ⟨hl, c⟩, if_pos ⟨List.mem_cons_of_mem _ hl, c⟩]
          · rw [if_neg (fun q => c q.2), if_neg (fun q => c q.2)]
        · rw [if_neg (fun q => hl q.1), if_neg (fun q => by rcases List.mem_cons.mp q.1 with r | r; exact hj r; exact hl r)]
end RG
namespace RG
/-! ### a ring left alone -/
/-- behind s steps -/
structure Alone (many s : Nat) (R : Ring) : Prop where
  mn : R.many = many
  tm : R.time = s
  tk : R.tk = [⟨(1, 0), s % many, none, none⟩]
  rw : R.rw = [.made 0 0 1]
  on : ∀ i, i < many → (R.st i).on = true
  line : ∀ i, i < many → (R.st i).line = []
  told : ∀ i, i < many → (R.st i).told = 0
  seen : ∀ i, i < many → (R.st i).seen = if i ≤ s then (1, 0) else (0, 0)
  sil : ∀ i, i < many → (R.st i).sil ≤ (s + many - i) % many
theorem Alone.start {many : Nat} (h : 1 ≤ many) : Alone many 0 (ring0 many) where
  mn := rfl
  tm := rfl
  tk := by simp [ring0, born, insTok]
  rw := rfl
  on i _ := by
    show (up (α := Stn) _ 0 _ i).on = true
    unfold up
    split <;> rfl
  line i _ := by
    show (up (α := Stn) _ 0 _ i).line = []
    unfold up
    split <;> rfl
  told i _ := by
    show (up (α := Stn) _ 0 _ i).told = 0
    unfold up
    split <;> rfl
  seen i _ := by
    show (up (α := Stn) _ 0 _ i).seen = _
    unfold up
    by_cases e : i = 0
    · rw [if_pos e, if_pos (by omega)]
    · rw [if_neg e, if_neg (by omega)]
  sil i _ := by
    have : ((ring0 many).st i).sil = 0 := by
      show (up (α := Stn) _ 0 _ i).sil = 0
      unfold up
      split <;> rfl
    omega
theorem nxF_one {on : Nat → Bool} {many p k : Nat} (h : on ((p + 1) % many) = true) : nxF on many p 1 (k + 1) = some ((p + 1) % many) := by
  rw [nxF, if_pos h]
theorem borns_no : ∀ (l : List Nat) (S : Ring), (∀ i, i ∈ l → (S.st i).sil ≤ limit S.many i) → l.foldl bornIf S = S
  | [], _, _ => rfl
  | i :: l, S, h => by
    have e : bornIf S i = S := by
      unfold bornIf
      rw [if_neg]
      rintro ⟨_, z⟩
      have := h i (List.mem_cons_self ..)
      omega
    rw [List.foldl_cons, e]
    exact borns_no l S fun j m => h j (List.mem_cons_of_mem _ m)
theorem mod_next {many s : Nat} (h : 1 ≤ many) : (s % many + 1) % many = (s + 1) % many := by
  rw [Nat.add_mod, Nat.mod_mod, ← Nat.add_mod]
theorem Alone.next {many s : Nat} {R : Ring} (h : 1 ≤ many) (A : Alone many s R) : Alone many (s + 1) (step R) := by
  have hlt : (s + 1) % many < many := Nat.mod_lt _ (by omega)
  have hon : (R.st ((s + 1) % many)).on = true := A.on _ hlt
  have hnx : nx (fun i => (R.st i).on) R.many (s % many) = (s + 1) % many := by
    obtain ⟨k, ek⟩ : ∃ k, many = k + 1 := ⟨many - 1, by omega⟩
    unfold nx nxO
    rw [A.mn]
    have : nxF (fun i => (R.st i).on) many (s % many) 1 many = some ((s % many + 1) % many) := by
      have := nxF_one (on := fun i => (R.st i).on) (many := many) (p := s % many) (k := k) (by rw [mod_next h]; exact hon)
      rwa [← ek] at this
    rw [this, mod_next h]
    rfl
  have hslt : slt (1, 0) (R.st ((s + 1) % many)).seen = false := by
    rw [A.seen _ hlt]
    split <;> rfl
  have hw : went R = { st := up R.st ((s + 1) % many) { R.st ((s + 1) % many) with seen := (1, 0) }, hd := up (fun _ => false) ((s + 1) % many) true, left := [⟨(1, 0), (s + 1) % many, none, none⟩], rw := R.rw } := by
    unfold went
    rw [A.tk, List.foldl_cons, List.foldl_nil]
    unfold goTok
    have e : nx (fun i => ((acc0 R).st i).on) R.many (⟨(1, 0), s % many, none, none⟩ : Tok).pl = (s + 1) % many := hnx
    rw [e]
    dsimp only
    rw [show (acc0 R).st = R.st from rfl, hslt]
    have hl := A.line _ hlt
    have ea : arrive ⟨(1, 0), s % many, none, none⟩ ((s + 1) % many) = ⟨(1, 0), (s + 1) % many, none, none⟩ := by
      unfold arrive beginR
      split <;> rfl
    rw [ea]
    have es : ∀ t : Tok, sends (R.time + 1) ((s + 1) % many) t { R.st ((s + 1) % many) with seen := (1, 0) } = (t, { R.st ((s + 1) % many) with seen := (1, 0) }, []) := fun t => by
      unfold sends
      rw [hl]
    have et : ∀ t : Tok, tells ((s + 1) % many) t { R.st ((s + 1) % many) with seen := (1, 0) } = (t, { R.st ((s + 1) % many) with seen := (1, 0) }) := fun t => by
      unfold tells
      rw [hl]
    simp only [es, et, Bool.false_eq_true, if_false]
    simp [acc0]
  have hsil : ∀ i, i < many → ((moved R).st i).sil ≤ (s + 1 + many - i) % many := fun i hi => by
    show (if (went R).hd i = true then 0 else ((went R).st i).sil + 1) ≤ _
    rw [hw]
    dsimp only
    by_cases e : i = (s + 1) % many
    · rw [if_pos (by rw [e]; exact up_same ..)]
      exact Nat.zero_le _
    · rw [if_neg (by rw [up_ne _ _ e]; decide), up_ne _ _ e]
      have h1 := A.sil i hi
      have h2 : (s + many - i) % many + 1 < many := by
        have a1 : (s + many - i) % many < many := Nat.mod_lt _ (by omega)
        by_cases q : (s + many - i) % many + 1 = many
        · exfalso
          apply e
          have d1 := Nat.div_add_mod (s + many - i) many
          have e1 : s + 1 + many - i = many * ((s + many - i) / many + 1) := by rw [Nat.mul_add]; omega
          have e2 : s + 1 + many = i + many * ((s + many - i) / many + 1) := by omega
          have e3 : (s + 1 + many) % many = i := by
            rw [e2, Nat.add_mul_mod_self_left]
            exact Nat.mod_eq_of_lt hi
          rw [Nat.add_mod_right] at e3
          exact e3.symm
        · omega
      have h3 : (s + 1 + many - i) % many = (s + many - i) % many + 1 := by
        have d1 := Nat.div_add_mod (s + many - i) many
        have e1 : s + 1 + many - i = ((s + many - i) % many + 1) + many * ((s + many - i) / many) := by omega
        rw [e1, Nat.add_mul_mod_self_left]
        exact Nat.mod_eq_of_lt h2
      omega
  have hstep : step R = moved R := by
    unfold step
    refine borns_no _ _ fun i m => ?_
    have hi : i < many := by
      have := List.mem_range.mp m
      rw [A.mn] at this
      exact this
    have a1 := hsil i hi
    have a2 : (s + 1 + many - i) % many < many := Nat.mod_lt _ (by omega)
    have a3 : limit (moved R).many i = many + 1 + 2 * many * i := by
      unfold limit
      rw [show (moved R).many = R.many from rfl, A.mn]
    omega
  rw [hstep]
  have hst : ∀ i, ((moved R).st i).on = (R.st i).on ∧ ((moved R).st i).line = (R.st i).line ∧ ((moved R).st i).told = (R.st i).told ∧ ((moved R).st i).seen = if i = (s + 1) % many then (1, 0) else (R.st i).seen := fun i => by
    show ((went R).st i).on = _ ∧ ((went R).st i).line = _ ∧ ((went R).st i).told = _ ∧ ((went R).st i).seen = _
    rw [hw]
    dsimp only
    unfold up
    split
    · next e => subst e; exact ⟨rfl, rfl, rfl, rfl⟩
    · exact ⟨rfl, rfl, rfl, rfl⟩
  refine ⟨A.mn, by show R.time + 1 = _; rw [A.tm], ?_, ?_, fun i hi => (hst i).1.trans (A.on i hi), fun i hi => (hst i).2.1.trans (A.line i hi), fun i hi => (hst i).2.2.1.trans (A.told i hi), fun i hi => ?_, fun i hi => hsil i hi⟩
  · show (went R).left = _
    rw [hw]
  · show (went R).rw = _
    rw [hw]
    exact A.rw
  · rw [(hst i).2.2.2, A.seen i hi]
    by_cases e : i = (s + 1) % many
    · rw [if_pos e, if_pos (by rw [e]; exact Nat.mod_le _ _)]
    · rw [if_neg e]
      by_cases q : i ≤ s
      · rw [if_pos q, if_pos (by omega)]
      · rw [if_neg q, if_neg]
        intro z
        apply e
        have : i = s + 1 := by omega
        rw [← this]
        exact (Nat.mod_eq_of_lt hi).symm
end RG
namespace RG
/-! ### where no token is: time goes by -/
def idle (R : Ring) (n : Nat) : Ring := { R with st := fun i => { R.st i with sil := (R.st i).sil + n }, tk := [], time := R.time + n }
theorem idle_zero {R : Ring} (h : R.tk = []) : idle R 0 = R := by
  cases R
  cases h
  rfl
theorem moved_idle (R : Ring) (n : Nat) : moved (idle R n) = idle R (n + 1) := moved_none rfl
theorem passes_idle {R : Ring} {n i : Nat} : passes (idle R n) i = ((R.st i).on && decide (limit R.many i < (R.st i).sil + n)) := rfl
theorem idle_step {R : Ring} {n : Nat} (h : ∀ i, i < R.many → (R.st i).on = true → (R.st i).sil + n + 1 ≤ limit R.many i) : step (idle R n) = idle R (n + 1) := by
  unfold step
  rw [moved_idle]
  refine borns_none _ _ fun i m => ?_
  have hi : i < R.many := List.mem_range.mp m
  rw [passes_idle]
  cases e : (R.st i).on with
  | false => rfl
  | true =>
    have := h i hi e
    rw [decide_eq_false (by omega)]
    rfl
/-- the stations that make one in the next step -/
def due (R : Ring) (n : Nat) : List Nat := (List.range R.many).filter (passes (idle R (n + 1)))
def mkP (R : Ring) (i : Nat) : Nat × Nat := (i, (R.st i).seen.1 + 1)
theorem due_step (R : Ring) (n : Nat) : (step (idle R n)).rw = R.rw ++ ((due R n).map fun i => .made (R.time + (n + 1)) i ((R.st i).seen.1 + 1)) ∧
    (step (idle R n)).tk.Perm ((due R n).map (newTok R)) ∧ (step (idle R n)).time = R.time + (n + 1) ∧ (step (idle R n)).many = R.many := by
  unfold step
  rw [moved_idle]
  obtain ⟨h1, h2, h3, h4, _⟩ := borns_all (List.range (idle R n).many) (idle R (n + 1)) List.nodup_range
  refine ⟨h1, ?_, h3, h4⟩
  rw [show (idle R (n + 1)).tk = [] from rfl, List.append_nil] at h2
  exact h2
theorem due_nil {R : Ring} {n : Nat} (h : (due R n).isEmpty = true) : step (idle R n) = idle R (n + 1) := by
  unfold step
  rw [moved_idle]
  refine borns_none _ _ fun i m => ?_
  cases e : passes (idle R (n + 1)) i with
  | false => rfl
  | true =>
    have : i ∈ due R n := List.mem_filter.mpr ⟨m, e⟩
    rw [List.isEmpty_iff.mp h] at this
    cases this
theorem due_not {R : Ring} {n : Nat} (h : due R n = []) {i : Nat} (hi : i < R.many) (ho : (R.st i).on = true) : (R.st i).sil + n + 1 ≤ limit R.many i := by
  have e : passes (idle R (n + 1)) i ≠ true := fun e => by
    have : i ∈ due R n := List.mem_filter.mpr ⟨List.mem_range.mpr hi, e⟩
    rw [h] at this
    cases this
  rw [passes_idle, ho] at e
  have : ¬ limit R.many i < (R.st i).sil + (n + 1) := fun z => e (by rw [decide_eq_true z]; rfl)
  omega
theorem due_mem {R : Ring} {n i : Nat} (h : i ∈ due R n) : i < R.many ∧ (R.st i).on = true := by
  obtain ⟨h1, h2⟩ := List.mem_filter.mp h
  rw [passes_idle, Bool.and_eq_true] at h2
  exact ⟨List.mem_range.mp h1, h2.1⟩
/-- two that pass at once -/
theorem due_two {R : Ring} {n a b : Nat} (hab : a < b) (hb : b < R.many) (h : ∀ i, i < R.many → passes (idle R (n + 1)) i = (i == a || i == b)) : due R n = [a, b] := by
  refine List.Perm.eq_of_pairwise (le := (· < ·)) (fun x y _ _ h1 h2 => absurd h1 (Nat.lt_asymm h2)) (List.pairwise_lt_range.filter _) (by simp [hab]) ?_
  refine (List.perm_ext_iff_of_nodup (List.nodup_range.filter _) (by simp; omega)).mpr fun x => ?_
  rw [List.mem_filter, List.mem_range]
  constructor
  · rintro ⟨h1, h2⟩
    rw [h x h1] at h2
    simpa using h2
  · intro m
    have hx : x < R.many := by
      simp at m
      omega
    refine ⟨hx, ?_⟩
    rw [h x hx]
    simpa using m
/-- the last one is lost -/
theorem lose_last {R : Ring} {k : Nat} (h : R.tk.length = k + 1) : (lose R k).tk.length = k ∧ (lose R k).rw.length = R.rw.length + 1 := by
  have hk : k < R.tk.length := by omega
  refine ⟨?_, ?_⟩
  · rw [(lose_tk R k).2.2.2, List.length_eraseIdx_of_lt hk]
    omega
  · unfold lose
    rw [List.getElem?_eq_getElem hk]
    show List.length (_ ++ _) = _
    rw [List.length_append]
    rfl
/-- all stations go off: no token is left -/
theorem WF.none_on {R : Ring} (W : WF R) (h : ∀ i, i < R.many → (R.st i).on = false) : R.tk = [] := by
  cases e : R.tk with
  | nil => rfl
  | cons t l =>
    obtain ⟨h1, h2⟩ := W.pl t (by rw [e]; exact List.mem_cons_self ..)
    rw [h _ h1] at h2
    cases h2
theorem off_st (R : Ring) (i j : Nat) : ((off R i).st j).on = (if j = i then false else (R.st j).on) := by
  show (up R.st i _ j).on = _
  unfold up
  split <;> rfl
theorem WF.idle {R : Ring} (W : WF R) (n : Nat) : WF (idle R n) :=
  ⟨W.pos, fun t m => (nomatch m), fun t m => (nomatch m), fun t m => (nomatch m), .nil, W.told⟩
end RG
namespace RG
/-! ### what is told of a ring is small -/
def okM (x : Int × Int) : Prop := 0 ≤ x.2 ∧ x.2 ≤ 1000000000
def okRw (many : Nat) : Rw → Prop
  | .sent _ s _ m => s < many ∧ 0 ≤ m ∧ m ≤ 1000000000
  | _ => True
structure Told (R : Ring) : Prop where
  ln : ∀ i x, x ∈ (R.st i).line → okM x
  sn : ∀ i, (R.st i).seen.1 ≤ R.rw.length
  tn : ∀ t, t ∈ R.tk → t.sp.1 ≤ R.rw.length ∧ t.sp.2 < R.many
  rs : ∀ r, r ∈ R.rw → okRw R.many r
theorem nx_any {on : Nat → Bool} {many p : Nat} (h : 1 ≤ many) : nx on many p < many := by
  unfold nx nxO
  cases e : nxF on many p 1 many with
  | none => exact h
  | some x =>
    obtain ⟨j, _, _, rfl, _⟩ := nxF_some e
    exact Nat.mod_lt _ h
structure ToldA (many N : Nat) (a : Acc) : Prop where
  ln : ∀ i x, x ∈ (a.st i).line → okM x
  sn : ∀ i, (a.st i).seen.1 ≤ N
  tn : ∀ t, t ∈ a.left → t.sp.1 ≤ N ∧ t.sp.2 < many
  rs : ∀ r, r ∈ a.rw → okRw many r
  rw : N ≤ a.rw.length
theorem ToldA.go {many N time : Nat} {a : Acc} {t : Tok} (h : ToldA many N a) (hm : 1 ≤ many) (ht : t.sp.1 ≤ N ∧ t.sp.2 < many) : ToldA many N (goTok many time a t) := by
  unfold goTok
  dsimp only
  generalize eh : nx (fun i => (a.st i).on) many t.pl = here
  have hh : here < many := by rw [← eh]; exact nx_any hm
  split
  · refine ⟨h.ln, h.sn, h.tn, fun r m => ?_, ?_⟩
    · rcases List.mem_append.mp m with m | m
      · exact h.rs r m
      · cases List.mem_singleton.mp m
        trivial
    · show N ≤ (a.rw ++ _).length
      rw [List.length_append]
      have := h.rw
      omega
  · have et := arrive_tok (t := t) (here := here)
    have es := sends_tok (time := time) (here := here) (t := arrive t here) (s := { a.st here with seen := t.sp })
    have ess := sends_st (time := time) (here := here) (t := arrive t here) (s := { a.st here with seen := t.sp })
    have el := sends_line (time := time) (here := here) (t := arrive t here) (s := { a.st here with seen := t.sp })
    generalize sends time here (arrive t here) { a.st here with seen := t.sp } = X at *
    have ft := tells_tok (here := here) (t := X.1) (s := X.2.1)
    have fs := tells_st (here := here) (t := X.1) (s := X.2.1)
    generalize tells here X.1 X.2.1 = Y at *
    have sub : ∀ x, x ∈ Y.2.line → x ∈ (a.st here).line := fun x mx => by
      rw [fs.2.2.1] at mx
      rcases el with ⟨e, _⟩ | ⟨e0, e, _⟩
      · rw [e] at mx; exact mx
      · have e' : (a.st here).line = e0 :: X.2.1.line := e
        rw [e']
        exact List.mem_cons_of_mem _ mx
    refine ⟨fun i x mx => ?_, fun i => ?_, fun u mu => ?_, fun r m => ?_, ?_⟩
    · by_cases q : i = here
      · subst q
        have mx' : x ∈ (up a.st i Y.2 i).line := mx
        rw [up_same] at mx'
        exact h.ln i x (sub x mx')
      · have mx' : x ∈ (up a.st here Y.2 i).line := mx
        rw [up_ne _ _ q] at mx'
        exact h.ln i x mx'
    · show (up a.st here Y.2 i).seen.1 ≤ N
      by_cases q : i = here
      · subst q
        rw [up_same, fs.2.1, ess.2.1]
        exact ht.1
      · rw [up_ne _ _ q]
        exact h.sn i
    · rcases List.mem_append.mp mu with m | m
      · exact h.tn u m
      · cases List.mem_singleton.mp m
        rw [ft.1, es.1, et.1]
        exact ht
    · rcases List.mem_append.mp m with m | m
      · exact h.rs r m
      · rcases el with ⟨_, e, _⟩ | ⟨e0, e1, e2, _⟩
        · rw [e] at m
          cases m
        · rw [e2] at m
          cases List.mem_singleton.mp m
          have e' : (a.st here).line = e0 :: X.2.1.line := e1
          exact ⟨hh, h.ln here e0 (by rw [e']; exact List.mem_cons_self ..)⟩
    · show N ≤ (a.rw ++ _).length
      rw [List.length_append]
      have := h.rw
      omega
theorem ToldA.all {many N time : Nat} (hm : 1 ≤ many) : ∀ (l : List Tok) (a : Acc), ToldA many N a → (∀ t, t ∈ l → t.sp.1 ≤ N ∧ t.sp.2 < many) → ToldA many N (l.foldl (goTok many time) a)
  | [], _, h, _ => h
  | t :: l, a, h, ht => ToldA.all hm l _ (h.go hm (ht t (List.mem_cons_self ..))) fun u m => ht u (List.mem_cons_of_mem _ m)
theorem Told.moved {R : Ring} (h : Told R) (hm : 1 ≤ R.many) : Told (moved R) := by
  have a : ToldA R.many R.rw.length (went R) := ToldA.all hm R.tk _ ⟨h.ln, h.sn, fun t m => (nomatch m), h.rs, Nat.le_refl _⟩ h.tn
  exact ⟨a.ln, fun i => Nat.le_trans (a.sn i) a.rw, fun t m => ⟨Nat.le_trans (a.tn t m).1 a.rw, (a.tn t m).2⟩, a.rs⟩
theorem mem_insT {t u : Tok} : ∀ {l : List Tok}, u ∈ insTok t l → u = t ∨ u ∈ l
  | [], m => .inl (List.mem_singleton.mp m)
  | v :: l, m => by
    unfold insTok at m
    split at m
    · rcases List.mem_cons.mp m with e | m
      · exact .inl e
      · exact .inr m
    · rcases List.mem_cons.mp m with e | m
      · exact .inr (by rw [e]; exact List.mem_cons_self ..)
      · rcases mem_insT m with e | m
        · exact .inl e
        · exact .inr (List.mem_cons_of_mem _ m)
theorem Told.born {R : Ring} (h : Told R) {i : Nat} (hi : i < R.many) : Told (RG.born R i) := by
  have hl : (RG.born R i).rw.length = R.rw.length + 1 := by
    show List.length (_ ++ _) = _
    rw [List.length_append]
    rfl
  refine ⟨fun j x m => ?_, fun j => ?_, fun t m => ?_, fun r m => ?_⟩
  · by_cases q : j = i
    · subst q
      have m' : x ∈ (up R.st j _ j).line := m
      rw [up_same] at m'
      exact h.ln j x m'
    · have m' : x ∈ (up R.st i _ j).line := m
      rw [up_ne _ _ q] at m'
      exact h.ln j x m'
  · rw [hl]
    show (up R.st i _ j).seen.1 ≤ _
    by_cases q : j = i
    · subst q
      rw [up_same]
      have := h.sn j
      show (R.st j).seen.1 + 1 ≤ _
      omega
    · rw [up_ne _ _ q]
      have := h.sn j
      omega
  · rw [hl]
    rcases mem_insT m with e | m
    · subst e
      have := h.sn i
      exact ⟨by show (R.st i).seen.1 + 1 ≤ _; omega, hi⟩
    · have := h.tn t m
      exact ⟨by omega, this.2⟩
  · rcases List.mem_append.mp m with m | m
    · exact h.rs r m
    · cases List.mem_singleton.mp m
      trivial
theorem Told.bornIf {R : Ring} (h : Told R) {i : Nat} (hi : i < R.many) : Told (bornIf R i) := by
  unfold RG.bornIf
  split
  · exact h.born hi
  · exact h
theorem Told.borns : ∀ (l : List Nat) (R : Ring), Told R → (∀ i, i ∈ l → i < R.many) → Told (l.foldl RG.bornIf R)
  | [], _, h, _ => h
  | i :: l, R, h, hi => Told.borns l _ (h.bornIf (hi i (List.mem_cons_self ..))) fun j m => by rw [bornIf_many]; exact hi j (List.mem_cons_of_mem _ m)
theorem Told.step {R : Ring} (h : Told R) (hm : 1 ≤ R.many) : Told (step R) :=
  Told.borns _ _ (h.moved hm) fun _ m => List.mem_range.mp m
theorem Told.put {R : Ring} (h : Told R) (i : Nat) {r m : Int} (h0 : 0 ≤ m) (h1 : m ≤ 1000000000) : Told (put R i r m) := by
  refine ⟨fun j x mx => ?_, fun j => ?_, h.tn, h.rs⟩
  · by_cases q : j = i
    · subst q
      have m' : x ∈ (up R.st j { R.st j with line := (R.st j).line ++ [(r, m)] } j).line := mx
      rw [up_same] at m'
      rcases List.mem_append.mp m' with m' | m'
      · exact h.ln j x m'
      · cases List.mem_singleton.mp m'
        exact ⟨h0, h1⟩
    · have m' : x ∈ (up R.st i { R.st i with line := (R.st i).line ++ [(r, m)] } j).line := mx
      rw [up_ne _ _ q] at m'
      exact h.ln j x m'
  · show (up R.st i { R.st i with line := (R.st i).line ++ [(r, m)] } j).seen.1 ≤ _
    by_cases q : j = i
    · subst q
      rw [up_same]
      exact h.sn j
    · rw [up_ne _ _ q]
      exact h.sn j
theorem Told.lose {R : Ring} (h : Told R) (k : Nat) : Told (lose R k) := by
  unfold RG.lose
  split
  · exact h
  · have hl : ∀ x : Rw, (R.rw ++ [x]).length = R.rw.length + 1 := fun x => by rw [List.length_append]; rfl
    refine ⟨h.ln, fun j => ?_, fun t m => ?_, fun r m => ?_⟩
    · have := h.sn j
      rw [hl]
      exact Nat.le_succ_of_le this
    · have := h.tn t (List.mem_of_mem_eraseIdx m)
      rw [hl]
      exact ⟨Nat.le_succ_of_le this.1, this.2⟩
    · rcases List.mem_append.mp m with m | m
      · exact h.rs r m
      · cases List.mem_singleton.mp m
        trivial
theorem up_two {R : Ring} {i : Nat} {s : Stn} (h : Told R) (hl : s.line = (R.st i).line) (hs : s.seen = (R.st i).seen) : (∀ j x, x ∈ (up R.st i s j).line → okM x) ∧ ∀ j, (up R.st i s j).seen.1 ≤ R.rw.length := by
  refine ⟨fun j x m => ?_, fun j => ?_⟩
  · by_cases q : j = i
    · subst q
      rw [up_same, hl] at m
      exact h.ln j x m
    · rw [up_ne _ _ q] at m
      exact h.ln j x m
  · by_cases q : j = i
    · subst q
      rw [up_same, hs]
      exact h.sn j
    · rw [up_ne _ _ q]
      exact h.sn j
theorem Told.off {R : Ring} (h : Told R) (i : Nat) : Told (RG.off R i) := by
  obtain ⟨u1, u2⟩ := up_two (R := R) (i := i) (s := { R.st i with on := false }) h rfl rfl
  have hl : R.rw.length ≤ (RG.off R i).rw.length := by
    show R.rw.length ≤ List.length (_ ++ _)
    rw [List.length_append]
    omega
  refine ⟨u1, fun j => Nat.le_trans (u2 j) hl, fun t m => ?_, fun r m => ?_⟩
  · have := h.tn t (List.mem_filter.mp m).1
    exact ⟨Nat.le_trans this.1 hl, this.2⟩
  · rcases List.mem_append.mp m with m | m
    · exact h.rs r m
    · obtain ⟨t, _, rfl⟩ := List.mem_map.mp m
      trivial
theorem Told.turnOn {R : Ring} (h : Told R) (i : Nat) : Told (turnOn R i) := by
  obtain ⟨u1, u2⟩ := up_two (R := R) (i := i) (s := { R.st i with on := true, sil := 0 }) h rfl rfl
  exact ⟨u1, u2, h.tn, h.rs⟩
theorem Told.start {many : Nat} (h : 1 ≤ many) : Told (ring0 many) := by
  have : Told ⟨many, fun _ => ⟨true, (0, 0), 0, 0, []⟩, [], [], 0⟩ := ⟨fun _ _ m => (nomatch m), fun _ => Nat.le_refl 0, fun _ m => (nomatch m), fun _ m => (nomatch m)⟩
  exact this.born h
end RG
namespace Pr
open PySem L2
/-! ### my own short words -/
theorem upd_other {H : Hp} {a p : Addr} {o x : HO} (h : H a = some x) (n : H p = Option.none) : upd H p o a = some x := by rw [upd_ne (ne_of_none h n)]; exact h
theorem upd_at {H : Hp} {a p : Addr} {o x : HO} (h : H a = some x) (n : a ≠ p) : upd H p o a = some x := by rw [upd_ne n]; exact h
theorem upd_free {H : Hp} {a p : Addr} {o : HO} (h : H a = Option.none) (n : a ≠ p) : upd H p o a = Option.none := by rw [upd_ne n]; exact h
theorem same_at {H H' : Hp} {a : Addr} {x : HO} (s : Same H H') (h : H a = some x) : H' a = some x := s _ _ h
theorem same_new {H : Hp} {p : Addr} {o : HO} (n : H p = Option.none) : Same H (upd H p o) := fun _ _ e => upd_other e n
theorem same_snoc {H H' : Hp} {p : Addr} {o : HO} (s : Same H H') (n : H' p = Option.none) : Same H (upd H' p o) := s.trans (same_new n)
theorem same_mut {H H' : Hp} {p : Addr} {o : HO} (s : Same H H') (n : H p = Option.none) : Same H (upd H' p o) := fun b x e => by rw [upd_ne (ne_of_none e n)]; exact s b x e
theorem same_tup {K : PySem.W.Frag} {H H' : Hp} {a : Addr} {xs : List V} (e : Same H H') (h : SqT K H a xs) : SqT K H' a xs := by
  rcases h with (h | ⟨o, h⟩) | h
  · exact .inl (.inl (e _ _ h))
  · exact .inl (.inr ⟨o, e _ _ h⟩)
  · exact .inr h
theorem i_ne {x : V} {C D : Prop} (k : D) : if (!decide (x = x)) = true then C else D := by rw [decide_eq_true rfl]; exact iteF k
theorem i_eq {x : V} {C D : Prop} (k : C) : if decide (x = x) = true then C else D := by rw [decide_eq_true rfl]; exact iteT k
theorem i_nn {x : V} {C D : Prop} (h : x ≠ .non) (k : C) : if (!decide (x = .non)) = true then C else D := by rw [decide_eq_false h]; exact k
theorem i_isn {x : V} {C D : Prop} (h : x ≠ .non) (k : D) : if decide (x = .non) = true then C else D := by rw [decide_eq_false h]; exact iteF k
theorem i_nt {C D : Prop} (k : D) : if (!true) = true then C else D := k
theorem i_nf {C D : Prop} (k : C) : if (!false) = true then C else D := k
theorem i_t {C D : Prop} (k : C) : if true = true then C else D := iteT k
theorem i_f {C D : Prop} (k : D) : if false = true then C else D := iteF k
theorem hd_of {A : Around} {k : Nat} (hr : Room k A) : A.units + 64 < cLine := hr.units
section
variable {K : PySem.W.Frag} {σ : St} {H : Hp} {Q : VK} {v x y : V} {i j : Int} {n : Nat} {ta tb tc te tv : TE} {t u : TT} {ts tr : TA} {D : Ends} {s1 s2 : TS} {r : R2}
theorem w_var (h : σ[n]? = some (some v)) (k : Q v H) : tVar n σ H Q := ⟨v, h, k⟩
theorem w_c (k : Q v H) : tC v σ H Q := k
theorem w_op (k : ta σ H fun x H1 => tb σ H1 fun y H2 => r x y H2 Q) : tOp r ta tb σ H Q := k
theorem w_I0 {g : Int → Int → V} (k : Q (g i j) H) : rI0 g (.int i) (.int j) H Q := ⟨i, j, rfl, rfl, k⟩
theorem w_mod {g : Int → Int → V} (h : 0 < j) (k : Q (g i j) H) : rI (fun _ j => 0 < j) g (.int i) (.int j) H Q := ⟨i, j, rfl, rfl, h, k⟩
theorem w_div {g : Int → Int → V} (h : 0 < j ∧ j < 1073741824) (k : Q (g i j) H) : rI CDiv g (.int i) (.int j) H Q := ⟨i, j, rfl, rfl, h, k⟩
theorem w_pow {g : Int → Int → V} (h : 0 ≤ j ∧ j ≤ 1000000 ∧ i.natAbs < 2 ^ 64) (k : Q (g i j) H) : rI CPow g (.int i) (.int j) H Q := ⟨i, j, rfl, rfl, h, k⟩
theorem w_mulR {g : Int → Int → V} (h : -(2 ^ 64) < j ∧ j < 2 ^ 64) (k : Q (g i j) H) : rI CMul g (.int i) (.int j) H Q := ⟨i, j, rfl, rfl, .inr h, k⟩
theorem w_mulL {g : Int → Int → V} (h : -(2 ^ 64) < i ∧ i < 2 ^ 64) (k : Q (g i j) H) : rI CMul g (.int i) (.int j) H Q := ⟨i, j, rfl, rfl, .inl h, k⟩
theorem w_eq (h : scal x y = true) (k : Q (.bl (decide (x = y))) H) : rEq x y H Q := ⟨h, k⟩
theorem w_ne (h : scal x y = true) (k : Q (.bl (!decide (x = y))) H) : rNe x y H Q := ⟨h, k⟩
theorem w_ixL {p : Addr} {xs : List V} (h : SqL K H p xs) (a : atI xs i = some v) (k : Q v H) : rIx K (.ref p) (.int i) H Q := .inl ⟨p, xs, i, v, rfl, rfl, h, a, k⟩
theorem w_ixT {p : Addr} {xs : List V} (h : SqT K H p xs) (a : atI xs i = some v) (k : Q v H) : rIx K (.ref p) (.int i) H Q := .inr (.inl ⟨p, xs, i, v, rfl, rfl, h, a, k⟩)
theorem w_seq (k : s1 { D with nx := s2 D } σ H) : tSeq s1 s2 D σ H := k
theorem w_next (k : D.nx σ H) : tNext D σ H := k
theorem w_ret (k : te σ H D.rt) : tRet te D σ H := k
theorem w_retN (k : D.rt .non H) : tRetN D σ H := k
theorem w_drop (k : te σ H fun _ H1 => D.nx σ H1) : tDrop te D σ H := k
theorem w_set {m : Nat} (k : te σ H fun x H1 => D.nx (σ.set m (some x)) H1) : tAsg te (gName m) D σ H := k
theorem w_ifS {c : TT} (k : c σ H fun b H1 => if b = true then s1 D σ H1 else s2 D σ H1) : tIfS c s1 s2 D σ H := k
def tstK (x : V) (H : Hp) (Q : Bool → Hp → Prop) : Prop := ∃ k, x = .bl k ∧ Q k H
variable {QB : Bool → Hp → Prop} {QA : List V → Hp → Prop}
theorem w_test (k : te σ H fun x H' => tstK x H' QB) : tTest te σ H QB := k
theorem w_tstK {b : Bool} (k : QB b H) : tstK (.bl b) H QB := ⟨b, rfl, k⟩
def truK (K : PySem.W.Frag) (x : V) (H : Hp) (Q : Bool → Hp → Prop) : Prop := ∃ k, TruV K x H k ∧ Q k H
def tTr (K : PySem.W.Frag) (ta : TE) : TT := fun σ H Q => ta σ H fun x H' => truK K x H' Q
theorem pt_tr {X : Cx} {a : Expr} (ha : PE X a ta) (he : ∀ whole, isTrue a X.env whole = (do let v ← whole; standAt a.pos; holding [v] (truthy v))) : PT X a (tTr X.K ta) := pt_truth ha he
theorem w_tr (k : ta σ H fun x H' => truK K x H' QB) : tTr K ta σ H QB := k
theorem w_truB {b : Bool} (k : QB b H) : truK K (.bl b) H QB := ⟨b, rfl, k⟩
theorem w_truL {p : Addr} {xs : List V} (h : SqL K H p xs) (k : QB (!xs.isEmpty) H) : truK K (.ref p) H QB := ⟨_, .inl ⟨xs, h, rfl⟩, k⟩
theorem w_truN (k : QB false H) : truK K .non H QB := ⟨_, rfl, k⟩
theorem w_and (k : t σ H fun c H1 => if c = true then u σ H1 QB else QB false H1) : tAnd t u σ H QB := k
theorem w_or (k : t σ H fun c H1 => if c = true then QB true H1 else u σ H1 QB) : tOr t u σ H QB := k
theorem w_orB {b c : Bool} {Pr : Hp → Prop} (h1 : ∀ R : Bool → Hp → Prop, (∀ H2, Pr H2 → R b H2) → t σ H R) (h2 : ∀ H2, Pr H2 → ∀ R : Bool → Hp → Prop, R c H2 → u σ H2 R) (k : ∀ H2, Pr H2 → QB (b || c) H2) : tOr t u σ H QB := by
  refine h1 _ fun H2 p => ?_
  cases b with
  | true => exact iteT (k H2 p)
  | false => exact iteF (h2 H2 p _ (k H2 p))
theorem w_not (k : t σ H fun c H1 => QB (!c) H1) : tNot t σ H QB := k
def andK (tb : TE) (σ : St) (x : V) (H : Hp) (Q : VK) : Prop := ∃ c, x = .bl c ∧ if c = true then tb σ H Q else Q (.bl false) H
def orK (tb : TE) (σ : St) (x : V) (H : Hp) (Q : VK) : Prop := ∃ c, x = .bl c ∧ if c = true then Q (.bl true) H else tb σ H Q
def notK (x : V) (H : Hp) (Q : VK) : Prop := ∃ c, x = .bl c ∧ Q (.bl (!c)) H
theorem w_andV (k : ta σ H fun x H1 => andK tb σ x H1 Q) : tAndV ta tb σ H Q := k
theorem w_orV (k : ta σ H fun x H1 => orK tb σ x H1 Q) : tOrV ta tb σ H Q := k
theorem w_notV (k : ta σ H fun x H1 => notK x H1 Q) : tNotV ta σ H Q := k
theorem w_andK {b : Bool} (k : if b = true then tb σ H Q else Q (.bl false) H) : andK tb σ (.bl b) H Q := ⟨b, rfl, k⟩
theorem w_orK {b : Bool} (k : if b = true then Q (.bl true) H else tb σ H Q) : orK tb σ (.bl b) H Q := ⟨b, rfl, k⟩
theorem w_notK {b : Bool} (k : Q (.bl (!b)) H) : notK (.bl b) H Q := ⟨b, rfl, k⟩
theorem w_nil (k : QA [] H) : tNil σ H QA := k
theorem w_cons (k : ta σ H fun x H1 => tr σ H1 fun xs H2 => QA (x :: xs) H2) : tCons ta tr σ H QA := k
theorem w_CB {r : List V → Hp → VK → Prop} (k : ts σ H fun vs H1 => r vs H1 Q) : tCB r ts σ H Q := k
theorem w_call {sp : Sp} {dvs : List V} {E : XK} (k : ts σ H fun vs H1 => sp (vs ++ dvs) H1 Q E) : tCall sp dvs E ts σ H Q := k
def newK (f : List V → HO) (xs : List V) (H : Hp) (Q : VK) : Prop := xs.length ≤ sizeLine ∧ ∀ p, H p = Option.none → Q (.ref p) (upd H p (f xs))
theorem w_tup (k : ts σ H fun xs H1 => newK HO.tup xs H1 Q) : tTup ts σ H Q := k
theorem w_lst (k : ts σ H fun xs H1 => newK HO.lst xs H1 Q) : tLst ts σ H Q := k
theorem w_new {f : List V → HO} {xs : List V} (h : xs.length ≤ 1000) (k : ∀ p, H p = Option.none → Q (.ref p) (upd H p (f xs))) : newK f xs H Q := ⟨Nat.le_trans h (by decide), k⟩
theorem w_newS {f : List V → HO} {xs : List V} (h : xs.length ≤ 1000) (k : ∀ p H', H p = Option.none → Same H H' → H' p = some (f xs) → Q (.ref p) H') : newK f xs H Q := ⟨Nat.le_trans h (by decide), fun p np => k p _ np (same_new np) upd_same⟩
def fldK (K : PySem.W.Frag) (f : Str) (x : V) (H : Hp) (Q : VK) : Prop := ∃ a C dx fs v, x = .ref a ∧ H a = some (.ins C dx fs) ∧ Cls K C ∧ NoAttr K C f ∧ fs.lookup f = some v ∧ Q v H
theorem w_fld {f : Str} (k : ta σ H fun x H1 => fldK K f x H1 Q) : tFld K ta f σ H Q := k
theorem w_fldK {f : Str} {a C dx : Addr} {fs : List (Str × V)} (h : H a = some (.ins C dx fs)) (c : Cls K C) (na : NoAttr K C f) (l : fs.lookup f = some v) (k : Q v H) : fldK K f (.ref a) H Q := ⟨a, C, dx, fs, v, rfl, h, c, na, l, k⟩
def sfldK (K : PySem.W.Frag) (f : Str) (y x : V) (H : Hp) (N : Hp → Prop) : Prop := ∃ a C dx fs, x = .ref a ∧ H a = some (.ins C dx fs) ∧ Cls K C ∧ NoAttr K C f ∧ fs.length < 1000 ∧ N (upd H a (.ins C dx (putF f y fs)))
theorem w_sfld {f : Str} (k : tv σ H fun y H1 => ta σ H1 fun x H2 => sfldK K f y x H2 fun H3 => D.nx σ H3) : sFld K ta tv f D σ H := k
theorem w_sfldK {f : Str} {a C dx : Addr} {fs : List (Str × V)} {N : Hp → Prop} (h : H a = some (.ins C dx fs)) (c : Cls K C) (na : NoAttr K C f) (l : fs.length < 1000) (k : N (upd H a (.ins C dx (putF f y fs)))) : sfldK K f y (.ref a) H N := ⟨a, C, dx, fs, rfl, h, c, na, l, k⟩
def aug2K (a C : Addr) (f : Str) (z : V) (H : Hp) (N : Hp → Prop) : Prop := ∃ dx' fs', H a = some (.ins C dx' fs') ∧ fs'.length < 1000 ∧ N (upd H a (.ins C dx' (putF f z fs')))
def augK (K : PySem.W.Frag) (f : Str) (tv : TE) (rd : V → V → Hp → VK → Prop) (σ : St) (x : V) (H : Hp) (N : Hp → Prop) : Prop := ∃ a C dx fs v, x = .ref a ∧ H a = some (.ins C dx fs) ∧ Cls K C ∧ NoAttr K C f ∧ fs.lookup f = some v ∧ tv σ H fun y H2 => rd v y H2 fun z H3 => aug2K a C f z H3 N
theorem w_fldaug {f : Str} {rd : V → V → Hp → VK → Prop} (k : ta σ H fun x H1 => augK K f tv rd σ x H1 fun H3 => D.nx σ H3) : sFldAug K ta tv rd f D σ H := k
theorem w_augK {f : Str} {rd : V → V → Hp → VK → Prop} {a C dx : Addr} {fs : List (Str × V)} {N : Hp → Prop} (h : H a = some (.ins C dx fs)) (c : Cls K C) (na : NoAttr K C f) (l : fs.lookup f = some v) (k : tv σ H fun y H2 => rd v y H2 fun z H3 => aug2K a C f z H3 N) : augK K f tv rd σ (.ref a) H N := ⟨a, C, dx, fs, v, rfl, h, c, na, l, k⟩
theorem w_aug2K {f : Str} {a C dx : Addr} {fs : List (Str × V)} {z : V} {N : Hp → Prop} (h : H a = some (.ins C dx fs)) (l : fs.length < 1000) (k : N (upd H a (.ins C dx (putF f z fs)))) : aug2K a C f z H N := ⟨dx, fs, h, l, k⟩
theorem w_rAdd (k : Q (.int (i + j)) H) : rAdd (.int i) (.int j) H Q := ⟨i, j, rfl, rfl, k⟩
theorem w_rSub (k : Q (.int (i - j)) H) : rSub (.int i) (.int j) H Q := ⟨i, j, rfl, rfl, k⟩
def makeK (C : Addr) (sp : Sp) (dvs : List V) (E : XK) (vs : List V) (H1 : Hp) (Q : VK) : Prop := ∀ x dx, H1 x = Option.none → H1 dx = Option.none → dx ≠ x → sp (.ref x :: (vs ++ dvs)) (upd (upd H1 dx (.own x)) x (.ins C dx [])) (fun v H2 => v = .non ∧ Q (.ref x) H2) E
theorem w_make {C : Addr} {sp : Sp} {dvs : List V} {E : XK} (k : ts σ H fun vs H1 => makeK C sp dvs E vs H1 Q) : tMake C sp dvs E ts σ H Q := k
theorem w_un {r : V → Hp → VK → Prop} (k : ta σ H fun x H1 => r x H1 Q) : tUn r ta σ H Q := k
theorem w_rU {g : Int → V} (k : Q (g i) H) : rU g (.int i) H Q := ⟨i, rfl, k⟩
theorem same_born {H : Hp} {x dx C : Addr} (nx : H x = Option.none) (nd : H dx = Option.none) : Same H (upd (upd H dx (.own x)) x (.ins C dx [])) := fun b o e => by
  rw [upd_ne (ne_of_none e nx), upd_ne (ne_of_none e nd)]; exact e
def methK (C : Addr) (m : Str) (sp : Sp) (dvs : List V) (E : XK) (t : TA) (σ : St) (x : V) (H : Hp) (Q : VK) : Prop := ∃ a dx fs, x = .ref a ∧ H a = some (.ins C dx fs) ∧ fs.lookup m = Option.none ∧ t σ H fun vs H2 => sp (x :: (vs ++ dvs)) H2 Q E
theorem w_meth {C : Addr} {m : Str} {sp : Sp} {dvs : List V} {E : XK} (k : ta σ H fun x H1 => methK C m sp dvs E ts σ x H1 Q) : tMeth C m sp dvs E ta ts σ H Q := k
theorem w_methK {C a dx : Addr} {m : Str} {sp : Sp} {dvs : List V} {E : XK} {fs : List (Str × V)} (h : H a = some (.ins C dx fs)) (l : fs.lookup m = Option.none) (k : ts σ H fun vs H2 => sp (.ref a :: (vs ++ dvs)) H2 Q E) : methK C m sp dvs E ts σ (.ref a) H Q := ⟨a, dx, fs, rfl, h, l, k⟩
theorem w_bm {T : String} {r : V → List V → Hp → VK → Prop} (k : ta σ H fun x H1 => tyV K T x H1 ∧ ts σ H1 fun xs H2 => r x xs H2 Q) : tBM K T r ta ts σ H Q := k
theorem w_tyL {p : Addr} {xs : List V} {R : Prop} (h : SqL K H p xs) (k : R) : tyV K "list" (.ref p) H ∧ R := ⟨.inl ⟨rfl, xs, h⟩, k⟩
theorem w_append {l : Addr} {xs : List V} (h : H l = some (.lst xs)) (hl : xs.length < sizeLine) (k : Q .non (upd H l (.lst (xs ++ [y])))) : rAppend (.ref l) [y] H Q := ⟨l, xs, y, rfl, rfl, h, hl, k⟩
def rIsNo : R2 := fun x y H Q => y = .non ∧ Q (.bl (decide (x = .non))) H
def rNotNo : R2 := fun x y H Q => y = .non ∧ Q (.bl (!decide (x = .non))) H
theorem op_isNo {X : Cx} : OpR X (compareOp .Is) rIsNo := op_isN
theorem op_notNo {X : Cx} : OpR X (compareOp .IsNot) rNotNo := op_notN
theorem w_pop0 {l : Addr} {x : V} {xs : List V} (h : H l = some (.lst (x :: xs))) (k : Q x (upd H l (.lst xs))) : rPopAt (.ref l) [.int 0] H Q :=
  ⟨l, x :: xs, 0, 0, x, rfl, rfl, h, by decide, by decide, by simp [seqIndex?], rfl, k⟩
theorem w_isNo (k : Q (.bl (decide (x = .non))) H) : rIsNo x .non H Q := ⟨rfl, k⟩
theorem w_notNo (k : Q (.bl (!decide (x = .non))) H) : rNotNo x .non H Q := ⟨rfl, k⟩
def rListOf (K : PySem.W.Frag) : List V → Hp → VK → Prop := fun xs H Q => ∃ p ys, xs = [.ref p] ∧ (SqL K H p ys ∨ SqT K H p ys) ∧ ∀ l, H l = none → Q (.ref l) (upd H l (.lst ys))
theorem call_listOf {X : Cx} : CallR X (.type "list") (rListOf X.K) := call_list_of
theorem w_listOf {p : Addr} {ys : List V} (h : SqL K H p ys) (k : ∀ l H', H l = Option.none → Same H H' → H' l = some (.lst ys) → Q (.ref l) H') : rListOf K [.ref p] H Q := ⟨p, ys, rfl, .inl h, fun l n => k l _ n (same_new n) upd_same⟩
def rLenS (K : PySem.W.Frag) : List V → Hp → VK → Prop := fun xs H Q => ∃ p ys, xs = [.ref p] ∧ (SqL K H p ys ∨ SqT K H p ys) ∧ Q (.int ys.length) H
theorem call_lenS {X : Cx} : CallR X (.builtin "len") (rLenS X.K) := call_len_seq
theorem w_lenL {p : Addr} {ys : List V} (h : SqL K H p ys) (k : Q (.int ys.length) H) : rLenS K [.ref p] H Q := ⟨p, ys, rfl, .inl h, k⟩
theorem w_lenT {p : Addr} {ys : List V} (h : SqT K H p ys) (k : Q (.int ys.length) H) : rLenS K [.ref p] H Q := ⟨p, ys, rfl, .inr h, k⟩
def forK (J : It) (g : TG) (tb : TS) (D : Ends) (σ : St) (H : Hp) : Prop := ∃ W : Nat → Nat → St → Hp → Prop, (∃ m, W 0 m σ H) ∧ ∀ i m σ H, W i m σ H →
  (J.stop i H ∧ D.nx σ H) ∨ (J.go i H ∧ ∃ N : St → Hp → Prop, (∀ σ' H', N σ' H' → ∃ m', m' < m ∧ W (i + 1) m' σ' H') ∧ ∀ x H', J.yld i H x H' → g x σ H' fun σ2 H2 => tb { D with nx := N, ct := N, bk := D.nx } σ2 H2)
variable {wi : TI} {g : TG} {gs : TGs} {tb : TS} {R : It → Hp → Prop} {QG : St → Hp → Prop} {xs : List V}
theorem w_for (k : wi σ H fun J H1 => forK J g tb D σ H1) : tFor wi g tb D σ H := k
def rng1K (R : It → Hp → Prop) (vs : List V) (H : Hp) : Prop := ∃ j : Int, vs = [.int j] ∧ -(2 ^ 62) ≤ j ∧ j < 2 ^ 62 ∧ R (Itr 0 j.toNat) H
def rng2K (R : It → Hp → Prop) (vs : List V) (H : Hp) : Prop := ∃ i j : Int, vs = [.int i, .int j] ∧ (-(2 ^ 62) ≤ i ∧ i < 2 ^ 62 ∧ -(2 ^ 62) ≤ j ∧ j < 2 ^ 62) ∧ R (Itr i (j - i).toNat) H
theorem w_rng1 (k : ts σ H fun vs H1 => rng1K R vs H1) : iRng1 ts σ H R := k
theorem w_rng2 (k : ts σ H fun vs H1 => rng2K R vs H1) : iRng2 ts σ H R := k
theorem w_rng1K (h : -(2 ^ 62) ≤ j ∧ j < 2 ^ 62) (k : R (Itr 0 j.toNat) H) : rng1K R [.int j] H := ⟨j, rfl, h.1, h.2, k⟩
theorem w_rng2K (h : -(2 ^ 62) ≤ i ∧ i < 2 ^ 62 ∧ -(2 ^ 62) ≤ j ∧ j < 2 ^ 62) (k : R (Itr i (j - i).toNat) H) : rng2K R [.int i, .int j] H := ⟨i, j, rfl, h, k⟩
def iLK (K : PySem.W.Frag) (R : It → Hp → Prop) (x : V) (H : Hp) : Prop := ∃ a, x = .ref a ∧ (∃ xs, SqL K H a xs) ∧ R (Itl K a) H
theorem w_iL (k : ta σ H fun x H1 => iLK K R x H1) : iList K ta σ H R := k
theorem w_iLK {a : Addr} (h : SqL K H a xs) (k : R (Itl K a) H) : iLK K R (.ref a) H := ⟨a, rfl, ⟨xs, h⟩, k⟩
theorem w_gN {m : Nat} (k : QG (σ.set m (some v)) H) : gName m v σ H QG := k
theorem w_gT {m : Nat} {a : Addr} (h : SqT K H a xs) (l : xs.length = m) (k : gs xs σ H QG) : gTup K m gs (.ref a) σ H QG := ⟨a, xs, rfl, h, l, k⟩
theorem w_g0 (k : QG σ H) : gNil [] σ H QG := ⟨rfl, k⟩
theorem w_gC (k : g v σ H fun σ' H' => gs xs σ' H' QG) : gCons g gs (v :: xs) σ H QG := ⟨v, xs, rfl, k⟩
def lcK (J : It) (g : TG) (tt : TT) (te : TE) (vs : List Nat) (σ : St) (H1 : Hp) (Q : VK) : Prop := ∀ D, H1 D = Option.none → ∃ W : Nat → Nat → Hp → Prop, (∃ m, W 0 m (upd H1 D (.lst []))) ∧ ∀ i m H, W i m H →
  (J.stop i H ∧ Q (.ref D) H) ∨ (J.go i H ∧ ∃ Nx : Hp → Prop, (∀ H', Nx H' → ∃ m', m' < m ∧ W (i + 1) m' H') ∧ ∀ x H', J.yld i H x H' → g x (wipe σ vs) H' fun σ2 H2 => wipe σ2 vs = wipe σ vs ∧ tt σ2 H2 fun b H3 =>
    if b = true then te σ2 H3 fun y H4 => ∃ acc, H4 D = some (.lst acc) ∧ acc.length < sizeLine ∧ Nx (upd H4 D (.lst (acc ++ [y]))) else Nx H3)
theorem w_lc {vs : List Nat} (k : wi σ H fun J H1 => lcK J g t te vs σ H1 Q) : tLc wi g t te vs σ H Q := k
theorem w_yes (k : QB true H) : tYes σ H QB := k
theorem w_all {a : Addr} (bs : List Bool) (h : SqL K H a (bs.map V.bl)) (k : Q (.bl (bs.all id)) H) : rAll K [.ref a] H Q := ⟨a, bs, rfl, h, k⟩
theorem w_asg (k : te σ H fun x H1 => g x σ H1 D.nx) : tAsg te g D σ H := k
end
section
variable {X : Cx} {K : PySem.W.Frag} {e o value l tg : Expr} {es : List Expr} {f name : Str} {pos pos' tpos apos cpos : Pos} {ta te to tv tl : TE} {ts : TA} {T id : String}
theorem k_fld (he : PE X e ta) (hb : attributeBase e f X.env (eval e X.env) = eval e X.env) (hK : X.K = K := by rfl) : PE X (.Attribute e f pos) (tFld K ta f) := by subst hK; exact pe_fld he hb
theorem k_sfld (ha : PE X o ta) (hv : PE X value tv) (hs : swapsWith value (some (.Attribute o f pos')) pos.line X.env = pure false) (hK : X.K = K := by rfl) : PS X (.Assign [.Attribute o f pos'] value pos) (sFld K ta tv f) := by subst hK; exact ps_fld ha hv hs
theorem k_fldaug {op : Operator} {rd : V → V → Hp → VK → Prop} (ha : PE X o ta) (hv : PE X value tv) (hop : InOp X op rd) (hK : X.K = K := by rfl) : PS X (.AugAssign (.Attribute o f tpos) op value pos) (sFldAug K ta tv rd f) := by subst hK; exact ps_fldaug ha hv hop
theorem k_list (hl : PE X l tl) (hK : X.K = K := by rfl) : PI X tg l (iList K tl) := by subst hK; exact pi_list hl
theorem k_gtup {es : List Expr} {k : Nat} {t : TGs} (n : Nat) (hc : X.calm = true) (h : PGs X es t)
    (hn : (assignEach es X.env).length = n := by rfl) (hst : (assignEach es X.env).findIdx? (·.1) = none := by rfl) (hK : X.K = K := by rfl) : PG X (.Tuple es k pos) (gTup K n t) := by subst hK; exact pg_tup hc h hn hst
theorem k_bm0 {r : V → List V → Hp → VK → Prop} (pa : PlainAttrs T) (slot : Slot T name id) (hty : typeOf (.builtin id) = pure (.type "method_descriptor")) (hm : MtR X id r) (ho : PE X o to)
    (hbase : attributeBase o name X.env (eval o X.env) = eval o X.env := by rfl) (hline : (apos.endLine == cpos.line) = true := by rfl) (hK : X.K = K := by rfl) : PE X (.Call (.Attribute o name apos) [] [] cpos) (tBM0 K T r to) := by
  subst hK; exact pe_bm0 pa slot hty hm ho hbase hline
theorem k_bm {r : V → List V → Hp → VK → Prop} (pa : PlainAttrs T) (slot : Slot T name id) (hty : typeOf (.builtin id) = pure (.type "method_descriptor")) (hm : MtR X id r) (ho : PE X o to) (ha : PA X (e :: es) ts)
    (hbase : attributeBase o name X.env (eval o X.env) = eval o X.env := by rfl)
    (hfew : ((backTo cpos (starEach (e :: es) X.env)).all (fun x => !x.1) && (backToKw cpos (keywordEach [] X.env)).all (fun x => x.1.isSome)
      && decide ((e :: es).length + ([] : List Keyword).length + (if ([] : List Keyword).isEmpty then 0 else 1) < 30)) = true := by rfl)
    (hline : (apos.endLine == cpos.line) = true := by rfl) (hs : starEach (e :: es) X.env = (false, eval e X.env) :: starEach es X.env := by rfl) (hplain : (backTo cpos (starEach es X.env)).any (·.1) = false := by rfl) (hK : X.K = K := by rfl) :
    PE X (.Call (.Attribute o name apos) (e :: es) [] cpos) (tBM K T r to ts) := by
  subst hK; exact pe_bm pa slot hty hm ho ha hbase hfew hline hs hplain
theorem k_tr (ha : PE X e ta) (he : ∀ whole, isTrue e X.env whole = (do let v ← whole; standAt e.pos; holding [v] (truthy v))) (hK : X.K = K := by rfl) : PT X e (tTr K ta) := by subst hK; exact pt_tr ha he
end
/-! one step of a reading; a heap's place -/
local macro_rules | `(tactic| k_memK) => `(tactic| first
  | assumption
  | exact upd_same
  | (refine upd_other ?_ (by assumption); k_memK)
  | (refine upd_at ?_ (by assumption); k_memK)
  | (refine upd_at ?_ (Ne.symm (by assumption)); k_memK)
  | (refine same_at (by assumption) ?_; k_memK))
/- where a list, a tuple stands -/
local macro_rules | `(tactic| k_upd) => `(tactic| first
  | assumption
  | exact SqL.of (by k_memK)
  | (refine Same.seq (by assumption) ?_; k_upd))
local macro_rules | `(tactic| k_ownIn) => `(tactic| first
  | assumption
  | exact SqT.of (by k_memK)
  | (refine same_tup (by assumption) ?_; k_ownIn))
local macro_rules | `(tactic| k_updF) => `(tactic| first
  | with_reducible refine' w_seq ?_
  | with_reducible refine' w_op ?_
  | ((with_reducible refine' w_var ?hh ?_); (case hh => rfl))
  | with_reducible refine' w_c ?_
  | with_reducible refine' w_I0 ?_
  | with_reducible refine' w_set ?_
  | with_reducible refine' w_cons ?_
  | with_reducible refine' w_nil ?_
  | with_reducible refine' w_CB ?_
  | with_reducible refine' w_call ?_
  | with_reducible refine' w_ret ?_
  | with_reducible refine' w_drop ?_
  | with_reducible refine' w_next ?_
  | with_reducible refine' w_ifS ?_
  | with_reducible refine' w_test ?_
  | with_reducible refine' w_tstK ?_
  | with_reducible refine' w_tr ?_
  | with_reducible refine' w_truB ?_
  | with_reducible refine' w_and ?_
  | with_reducible refine' w_or ?_
  | with_reducible refine' w_not ?_
  | with_reducible refine' w_andV ?_
  | with_reducible refine' w_orV ?_
  | with_reducible refine' w_notV ?_
  | with_reducible refine' w_andK ?_
  | with_reducible refine' w_orK ?_
  | with_reducible refine' w_notK ?_
  | with_reducible refine' w_tup ?_
  | with_reducible refine' w_lst ?_
  | with_reducible refine' w_fld ?_
  | with_reducible refine' w_sfld ?_
  | with_reducible refine' w_meth ?_
  | with_reducible refine' w_bm ?_
  | with_reducible refine' w_retN ?_
  | ((with_reducible refine' w_eq ?hh ?_); (case hh => rfl))
  | ((with_reducible refine' w_ne ?hh ?_); (case hh => rfl))
  | ((with_reducible refine' w_mod ?hh ?_); (case hh => (first | assumption | (show (0 : Int) < _; first | decide | omega))))
  | ((with_reducible refine' w_div ?hh ?_); (case hh => (exact ⟨by decide, by decide⟩)))
  | ((with_reducible refine' w_pow ?hh ?_); (case hh => (exact ⟨by decide, by decide, by decide⟩)))
  | ((with_reducible refine' w_mulR ?hh ?_); (case hh => (exact ⟨by decide, by decide⟩)))
  | ((with_reducible refine' w_mulL ?hh ?_); (case hh => (exact ⟨by decide, by decide⟩)))
  | ((with_reducible refine' w_ixT ?hh ?ha ?_); (case hh => k_ownIn); (case ha => (first | rfl | exact atI_nat (j := 0) rfl)))
  | ((with_reducible refine' w_ixL ?hh ?ha ?_); (case hh => k_upd); (case ha => (first | rfl | exact atI_nat (j := 0) rfl)))
  | ((with_reducible refine' w_tyL ?hh ?_); (case hh => k_upd))
  | with_reducible refine' i_ne ?_
  | with_reducible refine' i_eq ?_
  | ((with_reducible refine' i_nn ?hh ?_); (case hh => (intro h; cases h)))
  | ((with_reducible refine' i_isn ?hh ?_); (case hh => (intro h; cases h)))
  | with_reducible refine' i_nt ?_
  | with_reducible refine' i_nf ?_
  | with_reducible refine' i_t ?_
  | with_reducible refine' i_f ?_
  | with_reducible refine' w_isNo ?_
  | with_reducible refine' w_notNo ?_
  | ((with_reducible refine' w_lenL ?hh ?_); (case hh => k_upd))
  | ((with_reducible refine' w_lenT ?hh ?_); (case hh => k_ownIn))
  | with_reducible refine' w_for ?_
  | with_reducible refine' w_rng1 ?_
  | with_reducible refine' w_rng2 ?_
  | with_reducible refine' w_iL ?_
  | ((with_reducible refine' w_rng1K ?hh ?_); (case hh => omega))
  | ((with_reducible refine' w_rng2K ?hh ?_); (case hh => (first | omega | (simp only [List.length_map]; omega))))
  | ((with_reducible refine' w_iLK ?hh ?_); (case hh => k_upd))
  | with_reducible refine' w_lc ?_
  | with_reducible refine' w_yes ?_
  | with_reducible refine' w_gN ?_
  | ((with_reducible refine' w_gT ?hh ?hl ?_); (case hh => k_ownIn); (case hl => rfl))
  | with_reducible refine' w_g0 ?_
  | with_reducible refine' w_gC ?_
  | with_reducible refine' w_asg ?_
  | with_reducible refine' w_make ?_
  | with_reducible refine' w_un ?_
  | with_reducible refine' w_rU ?_
  | with_reducible refine' w_fldaug ?_
  | with_reducible refine' w_rAdd ?_
  | with_reducible refine' w_rSub ?_
  | ((with_reducible refine' w_augK ?hh ?hc ?hn ?hl ?_); (case hh => k_memK); (case hc => assumption); (case hn => assumption); (case hl => rfl))
  | ((with_reducible refine' w_aug2K ?hh ?hl ?_); (case hh => k_memK); (case hl => (exact of_decide_eq_true rfl)))
  | ((with_reducible refine' w_methK ?hh ?hl ?_); (case hh => k_memK); (case hl => rfl))
  | ((with_reducible refine' w_sfldK ?hh ?hc ?hn ?hl ?_); (case hh => k_memK); (case hc => assumption); (case hn => assumption); (case hl => (exact of_decide_eq_true rfl)))
  | ((with_reducible refine' w_fldK ?hh ?hc ?hn ?hl ?_); (case hh => k_memK); (case hc => assumption); (case hn => assumption); (case hl => rfl)))
local macro_rules | `(tactic| k_allIn) => `(tactic| repeat k_updF)
/-! ### sorted(xs, key=lambda one: one["..."], reverse=True) over dicts whose key is a pair of ints -/
section
open PyProof.Rows LamX
variable {prog : Program} {w : World}
/-- a call of the lambda at f keeps all, gives the pair -/
theorem lam_turn {A : Around} {s : Shared} {q one ky : Str} {params : Arguments} {p1 p2 p3 : Pos} {scope : Scope} {pm ctv : Value} {f c' d t : Addr} {n m : Int} {kvs : List (Key × V)} {H : Hp} {h0 : Heap} {k2 : Nat}
    (hroom : A.depth < recursionLimit) (hf : s.heap.get? f = some (PySem.W.kla_obj "<lambda>" q params (.Subscript (.Name one p1) (.Constant (.str ky) k2 p2) p3) scope [] pm c' ctv))
    (hco : scope.isCoroutine = false) (hgen : scope.isGenerator = false) (hkind : scope.kind = .function) (hcd : s.heap.CodeRec (.ref c') q) (hnames : scope.names = [(one, NameKind.local)])
    (hbind : ∀ (pm cv ctv u : Value), bindArgs (PySem.W.kla_fn "<lambda>" q params (.Subscript (.Name one p1) (.Constant (.str ky) k2 p2) p3) scope [] pm cv ctv) ⟨[u], []⟩ = pure [(one, u)])
    (hdb : (one == ("__debug__" : Str)) = false) (nl : s.heap.NoLimit)
    (hok : HOk prog w H h0) (kp0 : ∀ b o, h0.get? b = some o → s.heap.get? b = some o) (hd : H d = some (.dK kvs)) (hv : valV kvs (.inr ky) = some (.ref t)) (ht : H t = some (.tup [.int n, .int m])) :
    wpAny (model prog w) A (call (.ref f) [.ref d]) (PySem.W.KeyPure (.tuple [.int n, .int m]) s) (fun _ _ => False) s := by
  refine wpAny_call ?_
  refine PySem.W.kla_callFunE hroom hf rfl hco hgen rfl hcd ?_
  rw [hbind]
  refine wpAny_pure (wpAny_newFunctionEnv (fun x hx => ?_) (fun x hx => ?_) (fun h₁ hns hsb => ⟨nl.fresh _ hsb, ?_⟩) hkind)
  · rw [hnames] at hx
    cases List.mem_singleton.mp hx
    intro z
    cases z
  · cases List.mem_singleton.mp hx
    rw [hnames]
    simp [List.lookup]
  have kp1 : ∀ b o, s.heap.get? b = some o → h₁.get? b = some o := fun b o e => hsb.extBut b o (Nat.ne_of_lt (Heap.lt_size e)) (Heap.get?_push_of_some _ e)
  have kp : ∀ b o, h0.get? b = some o → h₁.get? b = some o := fun b o e => kp1 b o (kp0 b o e)
  refine PySem.W.kla_codeExpr ?_
  have hok1 : HOk prog w H h₁ := hok.kept kp
  obtain ⟨_, _, vs, rel, dd⟩ := dk_of hok1 hd
  obtain ⟨u, hu, ru⟩ := RelO.some_of (v := .ref t) (o := valueAt vs (.inr ky)) (by rw [← hv]; exact rel.val _)
  obtain rfl : u = Value.ref t := ru
  refine subD_of PySem.F.slot_dict_getitem.lookup (fun _ _ => rfl) (wpAny_Name (wpAny_loadName_local (v := .ref d) hkind ?_ hns ?_ ?_) hdb)
  · show scope.names.lookup one = some .local
    rw [hnames]
    simp [List.lookup]
  · simp [List.lookup]
  refine wpAny_Constant_str ⟨dd.mapOf.typeIs, ?_⟩
  refine wpAny_getItem_of (kV_is (k := .inr ky) ⟨_, rfl⟩) dd.mapOf hu ?_
  refine ⟨h₁, _, rfl, kp1, ?_⟩
  obtain ⟨_, its, r2, o, ho, hc, nn, hdt⟩ := hok1 _ _ ht
  obtain ⟨u1, u2, rfl, ri, rj⟩ := vals2 r2
  obtain ⟨t1, rfl⟩ := ri
  obtain ⟨t2, rfl⟩ := rj
  exact Reads.tuple ho hc hdt (ReadsAll.cons (Reads.int _ _) (ReadsAll.cons (Reads.int _ _) ReadsAll.nil))
end
/-- not less: what stands ahead where the sort goes down -/
def geP (e e' : Addr × Int × Int) : Bool := !decide (e.2.1 < e'.2.1 ∨ (e.2.1 = e'.2.1 ∧ e.2.2 < e'.2.2))
def slK (K : PySem.W.Frag) (T : List (Addr × Str)) (ky : Str) (vs : List V) (H : Hp) (Q : VK) : Prop := ∃ (a : Addr) (L : List (Addr × Int × Int)), vs = [.ref a] ∧ SqL K H a (L.map fun e => V.ref e.1) ∧
  (∀ e ∈ L, ∃ kvs t, H e.1 = some (.dK kvs) ∧ valV kvs (.inr ky) = some (.ref t) ∧ H t = some (.tup [.int e.2.1, .int e.2.2])) ∧ LamX.Tabs T H ∧
  ∀ (H1 : Hp) (p : Addr), LamX.ExtN H H1 → LamX.Tabs T H1 → H1 p = none → Q (.ref p) (upd H1 p (.lst ((L.mergeSort geP).map fun e => .ref e.1)))
def tSortLam (K : PySem.W.Frag) (T : List (Addr × Str)) (ky : Str) (t : TA) : TE := fun σ H Q => t σ H fun vs H1 => slK K T ky vs H1 Q
theorem each_ref : ∀ L : List (Addr × Int × Int), PySem.W.EachIs (fun (v : Value) (e : Addr × Int × Int) => v = .ref e.1) (L.map fun e => Value.ref e.1) L
  | [] => .nil
  | _ :: L => .cons rfl (each_ref L)
theorem vals_refs : ∀ {L : List (Addr × Int × Int)} {its : List Value}, Vals (L.map fun e => V.ref e.1) its → its = L.map fun e => Value.ref e.1
  | [], _, h => by cases h; rfl
  | e :: L, _, h => by
    cases h with
    | cons r t => rw [show _ = Value.ref e.1 from r, vals_refs t]; rfl
theorem vals_each : ∀ {L : List (Addr × Int × Int)} {its : List Value}, PySem.W.EachIs (fun (v : Value) (e : Addr × Int × Int) => v = .ref e.1) its L → Vals (L.map fun e => V.ref e.1) its
  | _, _, .nil => .nil
  | _, _, .cons h t => by subst h; exact .cons rfl (vals_each t)
section
open PyProof.Rows LamX
variable {X : Cx}
theorem pe_sortLam {T : List (Addr × Str)} {c P : Addr} {e : Expr} {t : TA} {one ky : Str} {params : Arguments} {scope : Scope} {p p1 p2 p3 p4 p5 p6 p7 pos : Pos} {k2 k6 : Nat} (hg : Gl X "sorted") (hm : X.mg "sorted" = none) (ha : PA X [e] t)
    (TB : TabB X.base X.mg c P) (hcode : X.env.code = .ref c) (hmT : (P, X.env.qual ++ "<lambda>") ∈ T) (hu : ∀ p ∈ T, p.1 = P → p.2 = X.env.qual ++ "<lambda>") (hr : Room 1 X.A) (hdef : defaultsOf params X.env = ([], []))
    (hnames : scope.names = [(one, NameKind.local)]) (hkind : scope.kind = .function) (hco : scope.isCoroutine = false) (hgen : scope.isGenerator = false)
    (hbind : ∀ (q : Str) (pm cv ctv u : Value), bindArgs (PySem.W.kla_fn "<lambda>" q params (.Subscript (.Name one p1) (.Constant (.str ky) k2 p2) p3) scope [] pm cv ctv) ⟨[u], []⟩ = pure [(one, u)])
    (hdb : (one == ("__debug__" : Str)) = false := by decide)
    (he : backTo pos (starEach [e] X.env) = (false, eval e X.env) :: backTo pos (starEach [] X.env) := by rfl) (hpl : (backTo pos (starEach [e] X.env)).any (·.1) = false := by rfl) :
    PE X (.Call (.Name "sorted" p) [e] [⟨some "key", .Lambda params (.Subscript (.Name one p1) (.Constant (.str ky) k2 p2) p3) scope p4, p5⟩, ⟨some "reverse", .Constant (.bool true) k6 p6, p7⟩] pos) (tSortLam X.K T ky t) := by
  refine ⟨fun pins s σ H Q I h => ?_⟩
  refine wpAny_Call_Name_kw (ld_blt I hg hm (by decide +kernel : bootBuiltins "sorted" = some (.builtin "sorted")) ?_)
  refine PyProof.Rows.callWith_kw (thn (ha.run pos pins s σ H _ I h) fun us s1 ⟨vs, H1, I1, r1, q1⟩ => ?_) he hpl (by rfl) (by rfl)
  obtain ⟨a, L, rfl, hs, hx, hT, q⟩ := q1
  obtain rfl := Vals.ref1 r1
  show wpAny _ _ (evalAll [(do let v ← eval (.Lambda params (.Subscript (.Name one p1) (.Constant (.str ky) k2 p2) p3) scope p4) X.env; standAt pos; pure v), (do let v ← eval (.Constant (.bool true) k6 p6) X.env; standAt pos; pure v)]) _ _ s1
  have hfree : ∀ y ∈ scope.names, y.2 = .free → ∃ c, X.env.cells.lookup y.1 = some c := fun y hy z => by
    rw [hnames] at hy
    cases List.mem_singleton.mp hy
    cases z
  refine wpAny_evalAll_cons (wpAny_bind (lam_make2 I1 TB hcode hmT hu hT hdef hfree fun f c' pm ctv H2 s2 I2 eN T2 hf hfn hfr hcoo => wpAny_bind (wpAny_standAt (wpAny_pure ?_))))
  refine wpAny_evalAll_cons (wpAny_bind (wpAny_Constant_bool (wpAny_bind (wpAny_standAt (wpAny_pure ?_)))))
  refine wpAny_evalAll_nil ?_
  have ecl : cloFrom X.env.cells scope.names [] = [] := by rw [hnames]; rfl
  rw [ecl] at hf
  have nt : ∀ {b : Addr} {o : HO}, H1 b = some o → (∀ ps, o ≠ .tbl ps) → H2 b = some o := fun e n => eN _ _ e n
  have hs2 : SqL X.K H2 a (L.map fun e => V.ref e.1) := by
    rcases hs with hs | hs
    · refine .inl ?_
      rcases hs with hs | ⟨o, hs⟩
      · exact .inl (nt hs fun _ z => by cases z)
      · exact .inr ⟨o, nt hs fun _ z => by cases z⟩
    · exact .inr hs
  obtain ⟨its, rv, hl, hz⟩ := I2.list hs2
  have eits := vals_refs rv
  subst eits
  rw [List.length_map] at hz
  have hcode2 := NdefX.codeO_at I2.hok hcoo
  refine PySem.W.sorted_key_data (b := true) (bs := L) (R := fun v e => v = .ref e.1) (fun e => .tuple [.int e.2.1, .int e.2.2]) hl.isList (each_ref L) (PySem.W.AllAlike.of fun _ _ => by simp [PySem.W.alike, PySem.W.alikeAll]) (PySem.W.Sortable.tuples fun _ => ⟨_, _, rfl⟩) hz (fun e _ => ?_) (PyProof.Rows.ksk_s2 _ _ _) (fun _ => PyProof.Rows.ksk_l2 _ _ _) (fun _ => PyProof.Rows.ksk_t2 _ _ _) (fun v e hv he' g tk kp => ?_) (fun out cc g tk kp fresh hD ho eo => ?_)
  · have hd : (PyData.tuple [.int e.2.1, .int e.2.2]).depth = 1 := by simp [PyData.depth, PyData.depthAll]
    have := hr.un
    omega
  · subst hv
    obtain ⟨kvs, t', h1, h2, h3⟩ := hx e he'
    refine lam_turn (H := H2) (h0 := s2.heap) (s := { s2 with heap := g, toks := tk }) ?_ (kp _ _ hf) hco hgen hkind ?_ hnames (fun pm cv ctv u => hbind _ pm cv ctv u) hdb ?_ I2.hok kp (nt h1 fun _ z => by cases z) h2 (nt h3 fun _ z => by cases z)
    · have := hr.dp
      show X.A.depth < recursionLimit
      omega
    · obtain ⟨c0, oc, vs0, tq, e1, e2, e3, e4⟩ := hcode2
      exact ⟨c0, oc, vs0, tq, e1, kp _ _ e2, e3, e4⟩
    · exact I2.nolimit.keeps kp
  · have eo' := vals_each eo
    have hs3 : (L.mergeSort (PySem.W.dataLe true fun e => PyData.tuple [.int e.2.1, .int e.2.2])) = L.mergeSort geP := by
      congr 1
      funext e e'
      show (!PySem.W.dataLt _ _) = _
      rw [PySem.W.dataLt_ii]
      rfl
    rw [hs3] at eo'
    refine ⟨.ref _, upd H2 (s2.heap.objs.size + 1) (.lst ((L.mergeSort geP).map fun e => .ref e.1)), I2.laid (t' := tk) kp (Nat.le_succ _) ⟨?_, _, cc, eo', hD⟩, rfl, q H2 _ eN T2 (I2.hok.fresh (Nat.le_succ _))⟩
    rw [List.length_map, List.length_mergeSort]
    exact hz
end
/-! ### a def that makes lambdas: its code object is told -/
structure FunC (K : PySem.W.Frag) (x qual : Str) (st : Stmt) (f : Addr) (fd : FuncData) (c : Addr) : Prop where
  ex : ∃ (oc : Value) (od : Option Addr) (kV doc pm : Value) (an : Option Addr) (ct : Value) (osl : Array (Option Value)),
    fd = PySem.W.fnOf x qual (defArgs st) (defBody st) (defScope st) .none kV doc pm an (.ref c) ct ∧ K.lookup f = some ⟨oc, od, .func fd, osl⟩ ∧ PySem.W.codeIn K (.ref c) qual = true
  kp : PySem.W.keepIn K (Value.ref f) = true
open PyProof.Rows in
theorem FunC.ok {P : Program} {w : World} {K : PySem.W.Frag} {mg : Str → Option Value} {base : Heap} {x qual : Str} {st : Stmt} {f c : Addr} {fd : FuncData} {N ps : List Str} {k : Nat} {sp : Sp} (F : FunC K x qual st f fd c) (S : FnScope N ps (defScope st)) (len : ∀ vs H Q E, sp vs H Q E → vs.length = ps.length)
    (hbody : ∀ (A : Around) (outer : List Env) (s : Shared) (H : Hp) (vs : List V) (Q : VK) (E : XK), Room k (A.deeper (envOfC qual (defScope st) s.heap.objs.size f (.ref c))) → sp vs H Q E →
      ∃ t, PSs (cxOf CX0 P w K mg base N qual (defScope st) f (.ref c) A outer s H E).nox (defBody st) t ∧ t { nx := fun _ H' => Q .non H', rt := Q } (start N vs) H) : FnOk P w K mg base CX0 (k + 1) f fd ps sp := by
  obtain ⟨oc, od, kV, doc, pm, an, ct, osl, rfl, lk, hcd⟩ := F.ex
  refine fn_of lk hcd S len fun A outer s H vs Q E hr hsp => ?_
  obtain ⟨t, h, q⟩ := hbody A outer s H vs Q E hr hsp
  exact ⟨t, h.nox, q⟩
theorem FunC.binds {K : PySem.W.Frag} {x qual : Str} {st : Stmt} {f c : Addr} {fd : FuncData} {ps : List Str} (F : FunC K x qual st f fd c)
    (hb : ∀ (kV doc pm : Value) (an : Option Addr) (cdv ct : Value) (us : List Value), us.length = ps.length →
      bindArgs (PySem.W.fnOf x qual (defArgs st) (defBody st) (defScope st) .none kV doc pm an cdv ct) ⟨us, []⟩ = pure (ps.zip us)) : Binds K fd ps [] := by
  obtain ⟨_, _, kV, doc, pm, an, ct, _, rfl, _, _⟩ := F.ex
  exact Binds.all fun us hl => hb kV doc pm an (.ref c) ct us hl
/-! ### dicts, and-values, tuples put together -/
def dgetK (x y : V) (H : Hp) (Q : VK) : Prop := ∃ a v, x = .ref a ∧ DGet H a y (some v) ∧ Q v H
def dputK (x y v : V) (H : Hp) (N : Hp → Prop) : Prop := ∃ a H', x = .ref a ∧ DPut H a y v H' ∧ N H'
def andTK (K : PySem.W.Frag) (tb : TE) (σ : St) (x : V) (H : Hp) (Q : VK) : Prop := ∃ k, TruV K x H k ∧ if k = true then tb σ H Q else Q x H
section
variable {K : PySem.W.Frag} {σ : St} {H : Hp} {Q : VK} {v x y : V} {ta tb td ty tv : TE} {t : TA} {D : Ends}
theorem w_dget (k : td σ H fun x H1 => ty σ H1 fun y H2 => dgetK x y H2 Q) : tDGet td ty σ H Q := k
theorem w_dgetK {a : Addr} {kvs : List (Key × V)} {ky : Str} (h : H a = some (.dK kvs)) (l : valV kvs (.inr ky) = some v) (k : Q v H) : dgetK (.ref a) (.str ky) H Q := ⟨a, v, rfl, by have := DGet.k (k := Sum.inr ky) h; rw [l] at this; exact this, k⟩
theorem w_dput (k : tv σ H fun v H1 => td σ H1 fun x H2 => ty σ H2 fun y H3 => dputK x y v H3 fun H4 => D.nx σ H4) : sDPut td ty tv D σ H := k
theorem w_dputK {N : Hp → Prop} {a : Addr} {kvs : List (Key × V)} {ky : Str} (h : H a = some (.dK kvs)) (l : kvs.length < sizeLine) (k : N (upd H a (.dK (putK kvs (.inr ky) v)))) : dputK (.ref a) (.str ky) v H N := ⟨a, _, rfl, DPut.k (k := Sum.inr ky) h l, k⟩
theorem w_andT (k : ta σ H fun x H1 => andTK K tb σ x H1 Q) : tAndT K ta tb σ H Q := k
theorem w_andTN (k : Q .non H) : andTK K tb σ .non H Q := ⟨false, rfl, k⟩
theorem w_andTT {a : Addr} {xs : List V} (h : H a = some (.tup xs)) (ne : xs.isEmpty = false) (k : tb σ H Q) : andTK K tb σ (.ref a) H Q := ⟨true, .inr (.inl ⟨xs, .inl (.inl h), by rw [ne]; rfl⟩), k⟩
def dispK (p : Addr) (ps : List (V × V)) (H : Hp) (Q : VK) : Prop := H p = some (.dK []) ∧ ∃ kvs : List (Key × V), ps = kvs.map (fun kv => (kV kv.1, kv.2)) ∧ kvs.length ≤ 15 ∧ Q (.ref p) (upd H p (.dK (mergeK [] kvs)))
theorem w_disp {trs : List (TE × TE)} (k : ∀ p, H p = Option.none → tPairs trs σ (upd H p (.dK [])) fun ps H2 => dispK p ps H2 Q) : tDisp trs σ H Q := k
theorem w_pp {r : List (TE × TE)} {Qp : List (V × V) → Hp → Prop} (k : ta σ H fun x H1 => tb σ H1 fun y H2 => tPairs r σ H2 fun ps H3 => Qp ((x, y) :: ps) H3) : tPairs ((ta, tb) :: r) σ H Qp := k
theorem w_pp0 {Qp : List (V × V) → Hp → Prop} (k : Qp [] H) : tPairs [] σ H Qp := k
theorem w_dispK {p : Addr} {ps : List (V × V)} {H0 : Hp} {kvs : List (Key × V)} (n : H0 p = Option.none) (s : Same (upd H0 p (.dK [])) H) (e : ps = kvs.map (fun kv => (kV kv.1, kv.2))) (l : kvs.length ≤ 15) (k : ∀ H', Same H0 H' → H' p = some (.dK (mergeK [] kvs)) → Q (.ref p) H') : dispK p ps H Q :=
  ⟨s _ _ upd_same, kvs, e, l, k _ (same_mut (fun b o x => s _ _ (upd_other x n)) n) upd_same⟩
theorem w_gSub {to ti : TE} {ts : TSet} {QG : St → Hp → Prop} (k : to σ H fun o H1 => ti σ H1 fun i H2 => ts o i v H2 fun H3 => QG σ H3) : gSub to ti ts v σ H QG := k
theorem w_sortLam {T : List (Addr × Str)} {ky : Str} (k : t σ H fun vs H1 => slK K T ky vs H1 Q) : tSortLam K T ky t σ H Q := k
theorem w_setL {N : Hp → Prop} {p : Addr} {xs : List V} {i : Int} {j : Nat} (h : H p = some (.lst xs)) (e : i = (j : Int)) (l : j < xs.length) (k : N (upd H p (.lst (xs.set j v)))) : rSetL (.ref p) (.int i) v H N := ⟨p, xs, i, j, rfl, rfl, h, by
  subst e
  unfold ixN
  rw [if_pos (by omega), if_pos (by omega)]
  simp, k⟩
theorem w_catT {a b : Addr} {xs ys : List V} (h : SqT K H a xs) (h' : SqT K H b ys) (n1 : xs ≠ []) (n2 : ys ≠ []) (l : xs.length + ys.length ≤ 1000) (k : ∀ p H', H p = Option.none → Same H H' → H' p = some (.tup (xs ++ ys)) → Q (.ref p) H') : rCatT K (.ref a) (.ref b) H Q :=
  ⟨a, b, xs, ys, rfl, rfl, h, h', n1, Nat.le_trans l (by decide), fun e => absurd e n2, fun _ p np => k p _ np (same_new np) upd_same⟩
theorem w_cat {a b : Addr} {xs ys : List V} (h : H a = some (.lst xs)) (h' : H b = some (.lst ys)) (l : xs.length + ys.length ≤ sizeLine) (k : ∀ p H', H p = Option.none → Same H H' → H' p = some (.lst (xs ++ ys)) → Q (.ref p) H') : rCat (.ref a) (.ref b) H Q :=
  ⟨a, b, xs, ys, rfl, rfl, h, h', l, fun p np => k p _ np (same_new np) upd_same⟩
end
section
variable {X : Cx} {K : PySem.W.Frag} {a b : Expr} {rest : List Expr} {pos : Pos} {ta tb : TE}
theorem k_andT (ha : PE X a ta) (hb : PE X (.BoolOp .And (b :: rest) pos) tb) (hK : X.K = K := by rfl) : PE X (.BoolOp .And (a :: b :: rest) pos) (tAndT K ta tb) := by subst hK; exact pe_andT ha hb
theorem k_sortLam {T : List (Addr × Str)} {c P : Addr} {e : Expr} {t : TA} {one ky : Str} {params : Arguments} {scope : Scope} {p p1 p2 p3 p4 p5 p6 p7 pos : Pos} {k2 k6 : Nat} (hg : Gl X "sorted") (hm : X.mg "sorted" = none) (ha : PA X [e] t)
    (TB : LamX.TabB X.base X.mg c P) (hcode : X.env.code = .ref c) (hmT : (P, X.env.qual ++ "<lambda>") ∈ T) (hu : ∀ p ∈ T, p.1 = P → p.2 = X.env.qual ++ "<lambda>") (hr : Room 1 X.A) (hdef : defaultsOf params X.env = ([], []))
    (hnames : scope.names = [(one, NameKind.local)]) (hkind : scope.kind = .function) (hco : scope.isCoroutine = false) (hgen : scope.isGenerator = false)
    (hbind : ∀ (q : Str) (pm cv ctv u : Value), bindArgs (PySem.W.kla_fn "<lambda>" q params (.Subscript (.Name one p1) (.Constant (.str ky) k2 p2) p3) scope [] pm cv ctv) ⟨[u], []⟩ = pure [(one, u)])
    (hdb : (one == ("__debug__" : Str)) = false := by decide)
    (he : backTo pos (starEach [e] X.env) = (false, eval e X.env) :: backTo pos (starEach [] X.env) := by rfl) (hpl : (backTo pos (starEach [e] X.env)).any (·.1) = false := by rfl) (hK : X.K = K := by rfl) :
    PE X (.Call (.Name "sorted" p) [e] [⟨some "key", .Lambda params (.Subscript (.Name one p1) (.Constant (.str ky) k2 p2) p3) scope p4, p5⟩, ⟨some "reverse", .Constant (.bool true) k6 p6, p7⟩] pos) (tSortLam K T ky t) := by
  subst hK
  exact pe_sortLam hg hm ha TB hcode hmT hu hr hdef hnames hkind hco hgen hbind hdb he hpl
end
def tabT (P : Addr) (q : Str) : List (Addr × Str) := [(P, q)]
local macro_rules | `(tactic| k_updF) => `(tactic| first
  | with_reducible refine' w_dget ?_
  | ((with_reducible refine' w_dgetK ?hh ?hl ?_); (case hh => k_memK); (case hl => rfl))
  | with_reducible refine' w_dput ?_
  | with_reducible refine' w_andT ?_
  | with_reducible refine' w_andTN ?_
  | ((with_reducible refine' w_andTT ?hh ?hl ?_); (case hh => k_memK); (case hl => rfl))
  | with_reducible refine' w_gSub ?_
  | with_reducible refine' w_pp ?_
  | with_reducible refine' w_pp0 ?_
  | with_reducible refine' w_disp ?_
  | with_reducible refine' w_sortLam ?_)
def top (i : Nat) : Stmt := PySem.Challenge.pw_passring_k10_whole_desk.main.body.getD i (.Pass ⟨0, 0, 0, 0⟩)
abbrev s_wall : Stmt := top 0
abbrev s_is_number : Stmt := top 13
abbrev s_check_many : Stmt := top 14
abbrev s_check_station : Stmt := top 15
abbrev s_check_message : Stmt := top 16
abbrev s_check_place : Stmt := top 17
abbrev s_greater : Stmt := top 19
abbrev s_next_on : Stmt := top 20
abbrev s_limit : Stmt := top 21
abbrev s_Station_init : Stmt := inClass (top 23) 0
abbrev s_Station_put : Stmt := inClass (top 23) 1
abbrev s_Station_messages : Stmt := inClass (top 23) 2
abbrev s_Station_need : Stmt := inClass (top 23) 3
abbrev s_Station_tell : Stmt := inClass (top 23) 4
abbrev s_Station_send : Stmt := inClass (top 23) 5
abbrev s_Token_init : Stmt := inClass (top 25) 0
abbrev s_Token_stamp : Stmt := inClass (top 25) 1
abbrev s_Token_hear : Stmt := inClass (top 25) 2
abbrev s_Token_begin_round : Stmt := inClass (top 25) 3
abbrev s_sent_by : Stmt := top 27
abbrev s_Ring_init : Stmt := inClass (top 28) 0
abbrev s_Ring_put : Stmt := inClass (top 28) 1
abbrev s_Ring_step : Stmt := inClass (top 28) 2
abbrev s_Ring_lose : Stmt := inClass (top 28) 3
abbrev s_Ring_make : Stmt := inClass (top 28) 4
abbrev s_Ring_switch_off : Stmt := inClass (top 28) 5
abbrev s_Ring_switch_on : Stmt := inClass (top 28) 6
abbrev s_Ring_time : Stmt := inClass (top 28) 7
abbrev s_Ring_many_on : Stmt := inClass (top 28) 8
abbrev s_Ring_tokens : Stmt := inClass (top 28) 9
abbrev s_Ring_rows : Stmt := inClass (top 28) 10
abbrev s_Ring_many_rows : Stmt := inClass (top 28) 11
abbrev s_Ring_rows_behind : Stmt := inClass (top 28) 12
abbrev s_Ring_messages : Stmt := inClass (top 28) 13
abbrev s_Ring_need : Stmt := inClass (top 28) 14
abbrev s_Ring_knows : Stmt := inClass (top 28) 15
abbrev s_Ring_is_on : Stmt := inClass (top 28) 16
abbrev s_Ring__station : Stmt := inClass (top 28) 17
abbrev s_Ring__make_token : Stmt := inClass (top 28) 18
abbrev s_Ring__add_token : Stmt := inClass (top 28) 19
abbrev s_Ring__note_lost : Stmt := inClass (top 28) 20
abbrev s_Ring__move_tokens : Stmt := inClass (top 28) 21
abbrev s_Ring__is_dropped : Stmt := inClass (top 28) 22
abbrev s_Ring__receive : Stmt := inClass (top 28) 23
abbrev s_Ring__count_silence : Stmt := inClass (top 28) 24
abbrev s_Ring__end_silence : Stmt := inClass (top 28) 25
abbrev s_is_number_word : Stmt := top 34
abbrev s_is_understood : Stmt := top 35
abbrev s_steps_answer : Stmt := top 36
abbrev s_tokens_answer : Stmt := top 37
abbrev s_ring_answer : Stmt := top 38
abbrev s_Desk_init : Stmt := inClass (top 39) 0
abbrev s_Desk_answer : Stmt := inClass (top 39) 1
abbrev s_Desk__done : Stmt := inClass (top 39) 2
abbrev s_played : Stmt := top 40
abbrev s_law_cell_at : Stmt := top 42
abbrev s_law_mixed : Stmt := top 43
abbrev s_law_deeds : Stmt := top 44
abbrev s_law_row : Stmt := top 45
abbrev s_law_number : Stmt := top 46
abbrev s_law_steps : Stmt := top 47
abbrev s_law_deed : Stmt := top 48
abbrev s_law_answer : Stmt := top 49
abbrev s_law_told : Stmt := top 50
abbrev s_law_answers : Stmt := top 51
abbrev s_law : Stmt := top 52
theorem sc_wall : FnScope ["k"] ["k"] (defScope s_wall) := ⟨rfl, rfl, rfl, by decide +kernel, rfl, by decide +kernel, by decide +kernel⟩
theorem sc_is_number : FnScope ["worth", "least", "most"] ["worth", "least", "most"] (defScope s_is_number) := ⟨rfl, rfl, rfl, by decide +kernel, rfl, by decide +kernel, by decide +kernel⟩
theorem sc_check_many : FnScope ["many"] ["many"] (defScope s_check_many) := ⟨rfl, rfl, rfl, by decide +kernel, rfl, by decide +kernel, by decide +kernel⟩
theorem sc_check_station : FnScope ["station", "many"] ["station", "many"] (defScope s_check_station) := ⟨rfl, rfl, rfl, by decide +kernel, rfl, by decide +kernel, by decide +kernel⟩
theorem sc_check_message : FnScope ["rank", "mark"] ["rank", "mark"] (defScope s_check_message) := ⟨rfl, rfl, rfl, by decide +kernel, rfl, by decide +kernel, by decide +kernel⟩
theorem sc_check_place : FnScope ["place", "many"] ["place", "many"] (defScope s_check_place) := ⟨rfl, rfl, rfl, by decide +kernel, rfl, by decide +kernel, by decide +kernel⟩
theorem sc_greater : FnScope ["one", "other"] ["one", "other"] (defScope s_greater) := ⟨rfl, rfl, rfl, by decide +kernel, rfl, by decide +kernel, by decide +kernel⟩
theorem sc_next_on : FnScope ["on", "at", "many", "ahead", "station"] ["on", "at"] (defScope s_next_on) := ⟨rfl, rfl, rfl, by decide +kernel, rfl, by decide +kernel, by decide +kernel⟩
theorem sc_limit : FnScope ["many", "station"] ["many", "station"] (defScope s_limit) := ⟨rfl, rfl, rfl, by decide +kernel, rfl, by decide +kernel, by decide +kernel⟩
theorem sc_Station_init : FnScope ["self"] ["self"] (defScope s_Station_init) := ⟨rfl, rfl, rfl, by decide +kernel, rfl, by decide +kernel, by decide +kernel⟩
theorem sc_Station_put : FnScope ["self", "rank", "mark"] ["self", "rank", "mark"] (defScope s_Station_put) := ⟨rfl, rfl, rfl, by decide +kernel, rfl, by decide +kernel, by decide +kernel⟩
theorem sc_Station_messages : FnScope ["self"] ["self"] (defScope s_Station_messages) := ⟨rfl, rfl, rfl, by decide +kernel, rfl, by decide +kernel, by decide +kernel⟩
theorem sc_Station_need : FnScope ["self", "rank", "_"] ["self"] (defScope s_Station_need) := ⟨rfl, rfl, rfl, by decide +kernel, rfl, by decide +kernel, by decide +kernel⟩
theorem sc_Station_tell : FnScope ["self", "need"] ["self"] (defScope s_Station_tell) := ⟨rfl, rfl, rfl, by decide +kernel, rfl, by decide +kernel, by decide +kernel⟩
theorem sc_Station_send : FnScope ["self", "message"] ["self"] (defScope s_Station_send) := ⟨rfl, rfl, rfl, by decide +kernel, rfl, by decide +kernel, by decide +kernel⟩
theorem sc_Token_init : FnScope ["self", "number", "maker", "at"] ["self", "number", "maker", "at"] (defScope s_Token_init) := ⟨rfl, rfl, rfl, by decide +kernel, rfl, by decide +kernel, by decide +kernel⟩
theorem sc_Token_stamp : FnScope ["self"] ["self"] (defScope s_Token_stamp) := ⟨rfl, rfl, rfl, by decide +kernel, rfl, by decide +kernel, by decide +kernel⟩
theorem sc_Token_hear : FnScope ["self", "need", "station"] ["self", "need", "station"] (defScope s_Token_hear) := ⟨rfl, rfl, rfl, by decide +kernel, rfl, by decide +kernel, by decide +kernel⟩
theorem sc_Token_begin_round : FnScope ["self"] ["self"] (defScope s_Token_begin_round) := ⟨rfl, rfl, rfl, by decide +kernel, rfl, by decide +kernel, by decide +kernel⟩
theorem sc_sent_by : FnScope ["station", "token"] ["station", "token"] (defScope s_sent_by) := ⟨rfl, rfl, rfl, by decide +kernel, rfl, by decide +kernel, by decide +kernel⟩
theorem sc_Ring_init : FnScope ["self", "many", "_"] ["self", "many"] (defScope s_Ring_init) := ⟨rfl, rfl, rfl, by decide +kernel, rfl, by decide +kernel, by decide +kernel⟩
theorem sc_Ring_put : FnScope ["self", "station", "rank", "mark", "holder"] ["self", "station", "rank", "mark"] (defScope s_Ring_put) := ⟨rfl, rfl, rfl, by decide +kernel, rfl, by decide +kernel, by decide +kernel⟩
theorem sc_Ring_step : FnScope ["self", "heard"] ["self"] (defScope s_Ring_step) := ⟨rfl, rfl, rfl, by decide +kernel, rfl, by decide +kernel, by decide +kernel⟩
theorem sc_Ring_lose : FnScope ["self", "place", "token"] ["self", "place"] (defScope s_Ring_lose) := ⟨rfl, rfl, rfl, by decide +kernel, rfl, by decide +kernel, by decide +kernel⟩
theorem sc_Ring_make : FnScope ["self", "station"] ["self", "station"] (defScope s_Ring_make) := ⟨rfl, rfl, rfl, by decide +kernel, rfl, by decide +kernel, by decide +kernel⟩
theorem sc_Ring_switch_off : FnScope ["self", "station", "holder", "left", "token"] ["self", "station"] (defScope s_Ring_switch_off) := ⟨rfl, rfl, rfl, by decide +kernel, rfl, by decide +kernel, by decide +kernel⟩
theorem sc_Ring_switch_on : FnScope ["self", "station", "holder"] ["self", "station"] (defScope s_Ring_switch_on) := ⟨rfl, rfl, rfl, by decide +kernel, rfl, by decide +kernel, by decide +kernel⟩
theorem sc_Ring_time : FnScope ["self"] ["self"] (defScope s_Ring_time) := ⟨rfl, rfl, rfl, by decide +kernel, rfl, by decide +kernel, by decide +kernel⟩
theorem sc_Ring_many_on : FnScope ["self"] ["self"] (defScope s_Ring_many_on) := ⟨rfl, rfl, rfl, by decide +kernel, rfl, by decide +kernel, by decide +kernel⟩
theorem sc_Ring_tokens : FnScope ["self", "token"] ["self"] (defScope s_Ring_tokens) := ⟨rfl, rfl, rfl, by decide +kernel, rfl, by decide +kernel, by decide +kernel⟩
theorem sc_Ring_rows : FnScope ["self"] ["self"] (defScope s_Ring_rows) := ⟨rfl, rfl, rfl, by decide +kernel, rfl, by decide +kernel, by decide +kernel⟩
theorem sc_Ring_many_rows : FnScope ["self"] ["self"] (defScope s_Ring_many_rows) := ⟨rfl, rfl, rfl, by decide +kernel, rfl, by decide +kernel, by decide +kernel⟩
theorem sc_Ring_rows_behind : FnScope ["self", "known"] ["self", "known"] (defScope s_Ring_rows_behind) := ⟨rfl, rfl, rfl, by decide +kernel, rfl, by decide +kernel, by decide +kernel⟩
theorem sc_Ring_messages : FnScope ["self", "station"] ["self", "station"] (defScope s_Ring_messages) := ⟨rfl, rfl, rfl, by decide +kernel, rfl, by decide +kernel, by decide +kernel⟩
theorem sc_Ring_need : FnScope ["self", "station"] ["self", "station"] (defScope s_Ring_need) := ⟨rfl, rfl, rfl, by decide +kernel, rfl, by decide +kernel, by decide +kernel⟩
theorem sc_Ring_knows : FnScope ["self", "station"] ["self", "station"] (defScope s_Ring_knows) := ⟨rfl, rfl, rfl, by decide +kernel, rfl, by decide +kernel, by decide +kernel⟩
theorem sc_Ring_is_on : FnScope ["self", "station"] ["self", "station"] (defScope s_Ring_is_on) := ⟨rfl, rfl, rfl, by decide +kernel, rfl, by decide +kernel, by decide +kernel⟩
theorem sc_Ring__station : FnScope ["self", "number"] ["self", "number"] (defScope s_Ring__station) := ⟨rfl, rfl, rfl, by decide +kernel, rfl, by decide +kernel, by decide +kernel⟩
theorem sc_Ring__make_token : FnScope ["self", "at", "station", "token"] ["self", "at"] (defScope s_Ring__make_token) := ⟨rfl, rfl, rfl, by decide +kernel, rfl, by decide +kernel, by decide +kernel⟩
theorem sc_Ring__add_token : FnScope ["self", "token", "place", "other"] ["self", "token"] (defScope s_Ring__add_token) := ⟨rfl, rfl, rfl, by decide +kernel, rfl, by decide +kernel, by decide +kernel⟩
theorem sc_Ring__note_lost : FnScope ["self", "token"] ["self", "token"] (defScope s_Ring__note_lost) := ⟨rfl, rfl, rfl, by decide +kernel, rfl, by decide +kernel, by decide +kernel⟩
theorem sc_Ring__move_tokens : FnScope ["self", "on", "heard", "left", "token", "at", "station"] ["self"] (defScope s_Ring__move_tokens) := ⟨rfl, rfl, rfl, by decide +kernel, rfl, by decide +kernel, by decide +kernel⟩
theorem sc_Ring__is_dropped : FnScope ["self", "token", "at"] ["self", "token", "at"] (defScope s_Ring__is_dropped) := ⟨rfl, rfl, rfl, by decide +kernel, rfl, by decide +kernel, by decide +kernel⟩
theorem sc_Ring__receive : FnScope ["self", "token", "at", "station", "message", "rank", "mark"] ["self", "token", "at"] (defScope s_Ring__receive) := ⟨rfl, rfl, rfl, by decide +kernel, rfl, by decide +kernel, by decide +kernel⟩
theorem sc_Ring__count_silence : FnScope ["self", "heard", "at", "station"] ["self", "heard"] (defScope s_Ring__count_silence) := ⟨rfl, rfl, rfl, by decide +kernel, rfl, by decide +kernel, by decide +kernel⟩
theorem sc_Ring__end_silence : FnScope ["self", "many", "at", "station"] ["self"] (defScope s_Ring__end_silence) := ⟨rfl, rfl, rfl, by decide +kernel, rfl, by decide +kernel, by decide +kernel⟩
theorem sc_is_number_word : FnScope ["word"] ["word"] (defScope s_is_number_word) := ⟨rfl, rfl, rfl, by decide +kernel, rfl, by decide +kernel, by decide +kernel⟩
theorem sc_is_understood : FnScope ["words", "word"] ["words"] (defScope s_is_understood) := ⟨rfl, rfl, rfl, by decide +kernel, rfl, by decide +kernel, by decide +kernel⟩
theorem sc_steps_answer : FnScope ["ring", "many", "known", "_", "answer", "row"] ["ring", "many"] (defScope s_steps_answer) := ⟨rfl, rfl, rfl, by decide +kernel, rfl, by decide +kernel, by decide +kernel⟩
theorem sc_tokens_answer : FnScope ["ring", "answer", "number", "maker", "station"] ["ring"] (defScope s_tokens_answer) := ⟨rfl, rfl, rfl, by decide +kernel, rfl, by decide +kernel, by decide +kernel⟩
theorem sc_ring_answer : FnScope ["ring", "word", "numbers"] ["ring", "word", "numbers"] (defScope s_ring_answer) := ⟨rfl, rfl, rfl, by decide +kernel, rfl, by decide +kernel, by decide +kernel⟩
theorem sc_Desk_init : FnScope ["self"] ["self"] (defScope s_Desk_init) := ⟨rfl, rfl, rfl, by decide +kernel, rfl, by decide +kernel, by decide +kernel⟩
theorem sc_Desk_answer : FnScope ["self", "row", "words", "numbers", "word"] ["self", "row"] (defScope s_Desk_answer) := ⟨rfl, rfl, rfl, by decide +kernel, rfl, by decide +kernel, by decide +kernel⟩
theorem sc_Desk__done : FnScope ["self", "word", "numbers"] ["self", "word", "numbers"] (defScope s_Desk__done) := ⟨rfl, rfl, rfl, by decide +kernel, rfl, by decide +kernel, by decide +kernel⟩
theorem sc_played : FnScope ["text", "desk", "answers", "row"] ["text"] (defScope s_played) := ⟨rfl, rfl, rfl, by decide +kernel, rfl, by decide +kernel, by decide +kernel⟩
theorem sc_law_cell_at : FnScope ["_law_script", "_law_k"] ["_law_script", "_law_k"] (defScope s_law_cell_at) := ⟨rfl, rfl, rfl, by decide +kernel, rfl, by decide +kernel, by decide +kernel⟩
theorem sc_law_mixed : FnScope ["_law_cell", "_law_k", "_law_mixed_here"] ["_law_cell", "_law_k"] (defScope s_law_mixed) := ⟨rfl, rfl, rfl, by decide +kernel, rfl, by decide +kernel, by decide +kernel⟩
theorem sc_law_deeds : FnScope ["_law_script", "_law_first", "_law_few", "_law_many", "_law_count", "_law_k"] ["_law_script", "_law_first", "_law_few", "_law_many"] (defScope s_law_deeds) := ⟨rfl, rfl, rfl, by decide +kernel, rfl, by decide +kernel, by decide +kernel⟩
theorem sc_law_row : FnScope ["_law_cell", "_law_k", "_law_many", "_law_pick", "_law_number_here", "_law_kind", "_law_words", "_law_line", "_law_at", "_law_some", "_law_put", "_law_odd"] ["_law_cell", "_law_k", "_law_many"] (defScope s_law_row) := ⟨rfl, rfl, rfl, by decide +kernel, rfl, by decide +kernel, by decide +kernel⟩
theorem sc_law_number : FnScope ["_law_word", "_law_sign"] ["_law_word"] (defScope s_law_number) := ⟨rfl, rfl, rfl, by decide +kernel, rfl, by decide +kernel, by decide +kernel⟩
theorem sc_law_steps : FnScope ["_law_ring", "_law_many", "_law_ahead", "_law_turn", "_law_sent", "_law_row_here"] ["_law_ring", "_law_many"] (defScope s_law_steps) := ⟨rfl, rfl, rfl, by decide +kernel, rfl, by decide +kernel, by decide +kernel⟩
theorem sc_law_deed : FnScope ["_law_ring", "_law_kind", "_law_numbers", "_law_tokens", "_law_one"] ["_law_ring", "_law_kind", "_law_numbers"] (defScope s_law_deed) := ⟨rfl, rfl, rfl, by decide +kernel, rfl, by decide +kernel, by decide +kernel⟩
theorem sc_law_answer : FnScope ["_law_rings", "_law_line", "_law_words", "_law_numbers", "_law_many", "_law_word"] ["_law_rings", "_law_line"] (defScope s_law_answer) := ⟨rfl, rfl, rfl, by decide +kernel, rfl, by decide +kernel, by decide +kernel⟩
theorem sc_law_told : FnScope ["_law_rings", "_law_line"] ["_law_rings", "_law_line"] (defScope s_law_told) := ⟨rfl, rfl, rfl, by decide +kernel, rfl, by decide +kernel, by decide +kernel⟩
theorem sc_law_answers : FnScope ["_law_lines", "_law_rings", "_law_line"] ["_law_lines"] (defScope s_law_answers) := ⟨rfl, rfl, rfl, by decide +kernel, rfl, by decide +kernel, by decide +kernel⟩
theorem sc_law : FnScope ["_law_script", "_law_many", "_law_draw", "_law_lines", "_law_deeds_here", "_law_due", "_law_rows", "_law_found", "_law_k"] ["_law_script"] (defScope s_law) := ⟨rfl, rfl, rfl, by decide +kernel, rfl, by decide +kernel, by decide +kernel⟩
structure Ad where
  RingError : Addr
  NoRing : Addr
  NoStation : Addr
  NoMessage : Addr
  IsOff : Addr
  IsOn : Addr
  NoToken : Addr
  Station : Addr
  Token : Addr
  Ring : Addr
  Desk : Addr
  wall : Addr
  wall_d : FuncData
  is_number : Addr
  is_number_d : FuncData
  check_many : Addr
  check_many_d : FuncData
  check_station : Addr
  check_station_d : FuncData
  check_message : Addr
  check_message_d : FuncData
  check_place : Addr
  check_place_d : FuncData
  greater : Addr
  greater_d : FuncData
  next_on : Addr
  next_on_d : FuncData
  limit : Addr
  limit_d : FuncData
  Station_init : Addr
  Station_init_d : FuncData
  Station_put : Addr
  Station_put_d : FuncData
  Station_messages : Addr
  Station_messages_d : FuncData
  Station_need : Addr
  Station_need_d : FuncData
  Station_tell : Addr
  Station_tell_d : FuncData
  Station_send : Addr
  Station_send_d : FuncData
  Token_init : Addr
  Token_init_d : FuncData
  Token_stamp : Addr
  Token_stamp_d : FuncData
  Token_hear : Addr
  Token_hear_d : FuncData
  Token_begin_round : Addr
  Token_begin_round_d : FuncData
  sent_by : Addr
  sent_by_d : FuncData
  Ring_init : Addr
  Ring_init_d : FuncData
  Ring_put : Addr
  Ring_put_d : FuncData
  Ring_step : Addr
  Ring_step_d : FuncData
  Ring_lose : Addr
  Ring_lose_d : FuncData
  Ring_make : Addr
  Ring_make_d : FuncData
  Ring_switch_off : Addr
  Ring_switch_off_d : FuncData
  Ring_switch_on : Addr
  Ring_switch_on_d : FuncData
  Ring_time : Addr
  Ring_time_d : FuncData
  Ring_many_on : Addr
  Ring_many_on_d : FuncData
  Ring_tokens : Addr
  Ring_tokens_d : FuncData
  Ring_rows : Addr
  Ring_rows_d : FuncData
  Ring_many_rows : Addr
  Ring_many_rows_d : FuncData
  Ring_rows_behind : Addr
  Ring_rows_behind_d : FuncData
  Ring_messages : Addr
  Ring_messages_d : FuncData
  Ring_need : Addr
  Ring_need_d : FuncData
  Ring_knows : Addr
  Ring_knows_d : FuncData
  Ring_is_on : Addr
  Ring_is_on_d : FuncData
  Ring__station : Addr
  Ring__station_d : FuncData
  Ring__make_token : Addr
  Ring__make_token_d : FuncData
  Ring__add_token : Addr
  Ring__add_token_d : FuncData
  Ring__note_lost : Addr
  Ring__note_lost_d : FuncData
  Ring__move_tokens : Addr
  Ring__move_tokens_d : FuncData
  Ring__is_dropped : Addr
  Ring__is_dropped_d : FuncData
  Ring__receive : Addr
  Ring__receive_d : FuncData
  Ring__count_silence : Addr
  Ring__count_silence_d : FuncData
  Ring__end_silence : Addr
  Ring__end_silence_d : FuncData
  is_number_word : Addr
  is_number_word_d : FuncData
  is_understood : Addr
  is_understood_d : FuncData
  steps_answer : Addr
  steps_answer_d : FuncData
  tokens_answer : Addr
  tokens_answer_d : FuncData
  ring_answer : Addr
  ring_answer_d : FuncData
  Desk_init : Addr
  Desk_init_d : FuncData
  Desk_answer : Addr
  Desk_answer_d : FuncData
  Desk__done : Addr
  Desk__done_d : FuncData
  played : Addr
  played_d : FuncData
  law_cell_at : Addr
  law_cell_at_d : FuncData
  law_mixed : Addr
  law_mixed_d : FuncData
  law_deeds : Addr
  law_deeds_d : FuncData
  law_row : Addr
  law_row_d : FuncData
  law_number : Addr
  law_number_d : FuncData
  law_steps : Addr
  law_steps_d : FuncData
  law_deed : Addr
  law_deed_d : FuncData
  law_answer : Addr
  law_answer_d : FuncData
  law_told : Addr
  law_told_d : FuncData
  law_answers : Addr
  law_answers_d : FuncData
  law : Addr
  law_d : FuncData
  c_NUMBERS : Addr
structure Txt (K : PySem.W.Frag) (mg : Str → Option Value) (A : Ad) : Prop where
  F_wall : Fun K "_wall" "_wall" s_wall A.wall A.wall_d
  b_wall : Binds K A.wall_d ["k"] []
  g_wall : mg "_wall" = some (.ref A.wall)
  F_is_number : Fun K "is_number" "is_number" s_is_number A.is_number A.is_number_d
  b_is_number : Binds K A.is_number_d ["worth", "least", "most"] []
  g_is_number : mg "is_number" = some (.ref A.is_number)
  F_check_many : Fun K "check_many" "check_many" s_check_many A.check_many A.check_many_d
  b_check_many : Binds K A.check_many_d ["many"] []
  g_check_many : mg "check_many" = some (.ref A.check_many)
  F_check_station : Fun K "check_station" "check_station" s_check_station A.check_station A.check_station_d
  b_check_station : Binds K A.check_station_d ["station", "many"] []
  g_check_station : mg "check_station" = some (.ref A.check_station)
  F_check_message : Fun K "check_message" "check_message" s_check_message A.check_message A.check_message_d
  b_check_message : Binds K A.check_message_d ["rank", "mark"] []
  g_check_message : mg "check_message" = some (.ref A.check_message)
  F_check_place : Fun K "check_place" "check_place" s_check_place A.check_place A.check_place_d
  b_check_place : Binds K A.check_place_d ["place", "many"] []
  g_check_place : mg "check_place" = some (.ref A.check_place)
  F_greater : Fun K "greater" "greater" s_greater A.greater A.greater_d
  b_greater : Binds K A.greater_d ["one", "other"] []
  g_greater : mg "greater" = some (.ref A.greater)
  F_next_on : Fun K "next_on" "next_on" s_next_on A.next_on A.next_on_d
  b_next_on : Binds K A.next_on_d ["on", "at"] []
  g_next_on : mg "next_on" = some (.ref A.next_on)
  F_limit : Fun K "limit" "limit" s_limit A.limit A.limit_d
  b_limit : Binds K A.limit_d ["many", "station"] []
  g_limit : mg "limit" = some (.ref A.limit)
  F_Station_init : Fun K "__init__" "Station.__init__" s_Station_init A.Station_init A.Station_init_d
  b_Station_init : Binds K A.Station_init_d ["self"] []
  F_Station_put : Fun K "put" "Station.put" s_Station_put A.Station_put A.Station_put_d
  b_Station_put : Binds K A.Station_put_d ["self", "rank", "mark"] []
  m_Station_put : Meth K A.Station "put" A.Station_put
  F_Station_messages : Fun K "messages" "Station.messages" s_Station_messages A.Station_messages A.Station_messages_d
  b_Station_messages : Binds K A.Station_messages_d ["self"] []
  m_Station_messages : Meth K A.Station "messages" A.Station_messages
  F_Station_need : Fun K "need" "Station.need" s_Station_need A.Station_need A.Station_need_d
  b_Station_need : Binds K A.Station_need_d ["self"] []
  m_Station_need : Meth K A.Station "need" A.Station_need
  F_Station_tell : Fun K "tell" "Station.tell" s_Station_tell A.Station_tell A.Station_tell_d
  b_Station_tell : Binds K A.Station_tell_d ["self"] []
  m_Station_tell : Meth K A.Station "tell" A.Station_tell
  F_Station_send : Fun K "send" "Station.send" s_Station_send A.Station_send A.Station_send_d
  b_Station_send : Binds K A.Station_send_d ["self"] []
  m_Station_send : Meth K A.Station "send" A.Station_send
  F_Token_init : Fun K "__init__" "Token.__init__" s_Token_init A.Token_init A.Token_init_d
  b_Token_init : Binds K A.Token_init_d ["self", "number", "maker", "at"] []
  F_Token_stamp : Fun K "stamp" "Token.stamp" s_Token_stamp A.Token_stamp A.Token_stamp_d
  b_Token_stamp : Binds K A.Token_stamp_d ["self"] []
  m_Token_stamp : Meth K A.Token "stamp" A.Token_stamp
  F_Token_hear : Fun K "hear" "Token.hear" s_Token_hear A.Token_hear A.Token_hear_d
  b_Token_hear : Binds K A.Token_hear_d ["self", "need", "station"] []
  m_Token_hear : Meth K A.Token "hear" A.Token_hear
  F_Token_begin_round : Fun K "begin_round" "Token.begin_round" s_Token_begin_round A.Token_begin_round A.Token_begin_round_d
  b_Token_begin_round : Binds K A.Token_begin_round_d ["self"] []
  m_Token_begin_round : Meth K A.Token "begin_round" A.Token_begin_round
  F_sent_by : Fun K "sent_by" "sent_by" s_sent_by A.sent_by A.sent_by_d
  b_sent_by : Binds K A.sent_by_d ["station", "token"] []
  g_sent_by : mg "sent_by" = some (.ref A.sent_by)
  F_Ring_init : Fun K "__init__" "Ring.__init__" s_Ring_init A.Ring_init A.Ring_init_d
  b_Ring_init : Binds K A.Ring_init_d ["self", "many"] []
  F_Ring_put : Fun K "put" "Ring.put" s_Ring_put A.Ring_put A.Ring_put_d
  b_Ring_put : Binds K A.Ring_put_d ["self", "station", "rank", "mark"] []
  m_Ring_put : Meth K A.Ring "put" A.Ring_put
  F_Ring_step : Fun K "step" "Ring.step" s_Ring_step A.Ring_step A.Ring_step_d
  b_Ring_step : Binds K A.Ring_step_d ["self"] []
  m_Ring_step : Meth K A.Ring "step" A.Ring_step
  F_Ring_lose : Fun K "lose" "Ring.lose" s_Ring_lose A.Ring_lose A.Ring_lose_d
  b_Ring_lose : Binds K A.Ring_lose_d ["self", "place"] []
  m_Ring_lose : Meth K A.Ring "lose" A.Ring_lose
  F_Ring_make : Fun K "make" "Ring.make" s_Ring_make A.Ring_make A.Ring_make_d
  b_Ring_make : Binds K A.Ring_make_d ["self", "station"] []
  m_Ring_make : Meth K A.Ring "make" A.Ring_make
  F_Ring_switch_off : Fun K "switch_off" "Ring.switch_off" s_Ring_switch_off A.Ring_switch_off A.Ring_switch_off_d
  b_Ring_switch_off : Binds K A.Ring_switch_off_d ["self", "station"] []
  m_Ring_switch_off : Meth K A.Ring "switch_off" A.Ring_switch_off
  F_Ring_switch_on : Fun K "switch_on" "Ring.switch_on" s_Ring_switch_on A.Ring_switch_on A.Ring_switch_on_d
  b_Ring_switch_on : Binds K A.Ring_switch_on_d ["self", "station"] []
  m_Ring_switch_on : Meth K A.Ring "switch_on" A.Ring_switch_on
  F_Ring_time : Fun K "time" "Ring.time" s_Ring_time A.Ring_time A.Ring_time_d
  b_Ring_time : Binds K A.Ring_time_d ["self"] []
  m_Ring_time : Meth K A.Ring "time" A.Ring_time
  F_Ring_many_on : Fun K "many_on" "Ring.many_on" s_Ring_many_on A.Ring_many_on A.Ring_many_on_d
  b_Ring_many_on : Binds K A.Ring_many_on_d ["self"] []
  m_Ring_many_on : Meth K A.Ring "many_on" A.Ring_many_on
  F_Ring_tokens : Fun K "tokens" "Ring.tokens" s_Ring_tokens A.Ring_tokens A.Ring_tokens_d
  b_Ring_tokens : Binds K A.Ring_tokens_d ["self"] []
  m_Ring_tokens : Meth K A.Ring "tokens" A.Ring_tokens
  F_Ring_rows : Fun K "rows" "Ring.rows" s_Ring_rows A.Ring_rows A.Ring_rows_d
  b_Ring_rows : Binds K A.Ring_rows_d ["self"] []
  m_Ring_rows : Meth K A.Ring "rows" A.Ring_rows
  F_Ring_many_rows : Fun K "many_rows" "Ring.many_rows" s_Ring_many_rows A.Ring_many_rows A.Ring_many_rows_d
  b_Ring_many_rows : Binds K A.Ring_many_rows_d ["self"] []
  m_Ring_many_rows : Meth K A.Ring "many_rows" A.Ring_many_rows
  F_Ring_rows_behind : Fun K "rows_behind" "Ring.rows_behind" s_Ring_rows_behind A.Ring_rows_behind A.Ring_rows_behind_d
  b_Ring_rows_behind : Binds K A.Ring_rows_behind_d ["self", "known"] []
  m_Ring_rows_behind : Meth K A.Ring "rows_behind" A.Ring_rows_behind
  F_Ring_messages : Fun K "messages" "Ring.messages" s_Ring_messages A.Ring_messages A.Ring_messages_d
  b_Ring_messages : Binds K A.Ring_messages_d ["self", "station"] []
  m_Ring_messages : Meth K A.Ring "messages" A.Ring_messages
  F_Ring_need : Fun K "need" "Ring.need" s_Ring_need A.Ring_need A.Ring_need_d
  b_Ring_need : Binds K A.Ring_need_d ["self", "station"] []
  m_Ring_need : Meth K A.Ring "need" A.Ring_need
  F_Ring_knows : Fun K "knows" "Ring.knows" s_Ring_knows A.Ring_knows A.Ring_knows_d
  b_Ring_knows : Binds K A.Ring_knows_d ["self", "station"] []
  m_Ring_knows : Meth K A.Ring "knows" A.Ring_knows
  F_Ring_is_on : Fun K "is_on" "Ring.is_on" s_Ring_is_on A.Ring_is_on A.Ring_is_on_d
  b_Ring_is_on : Binds K A.Ring_is_on_d ["self", "station"] []
  m_Ring_is_on : Meth K A.Ring "is_on" A.Ring_is_on
  F_Ring__station : Fun K "_station" "Ring._station" s_Ring__station A.Ring__station A.Ring__station_d
  b_Ring__station : Binds K A.Ring__station_d ["self", "number"] []
  m_Ring__station : Meth K A.Ring "_station" A.Ring__station
  F_Ring__make_token : Fun K "_make_token" "Ring._make_token" s_Ring__make_token A.Ring__make_token A.Ring__make_token_d
  b_Ring__make_token : Binds K A.Ring__make_token_d ["self", "at"] []
  m_Ring__make_token : Meth K A.Ring "_make_token" A.Ring__make_token
  F_Ring__add_token : Fun K "_add_token" "Ring._add_token" s_Ring__add_token A.Ring__add_token A.Ring__add_token_d
  b_Ring__add_token : Binds K A.Ring__add_token_d ["self", "token"] []
  m_Ring__add_token : Meth K A.Ring "_add_token" A.Ring__add_token
  F_Ring__note_lost : Fun K "_note_lost" "Ring._note_lost" s_Ring__note_lost A.Ring__note_lost A.Ring__note_lost_d
  b_Ring__note_lost : Binds K A.Ring__note_lost_d ["self", "token"] []
  m_Ring__note_lost : Meth K A.Ring "_note_lost" A.Ring__note_lost
  F_Ring__move_tokens : Fun K "_move_tokens" "Ring._move_tokens" s_Ring__move_tokens A.Ring__move_tokens A.Ring__move_tokens_d
  b_Ring__move_tokens : Binds K A.Ring__move_tokens_d ["self"] []
  m_Ring__move_tokens : Meth K A.Ring "_move_tokens" A.Ring__move_tokens
  F_Ring__is_dropped : Fun K "_is_dropped" "Ring._is_dropped" s_Ring__is_dropped A.Ring__is_dropped A.Ring__is_dropped_d
  b_Ring__is_dropped : Binds K A.Ring__is_dropped_d ["self", "token", "at"] []
  m_Ring__is_dropped : Meth K A.Ring "_is_dropped" A.Ring__is_dropped
  F_Ring__receive : Fun K "_receive" "Ring._receive" s_Ring__receive A.Ring__receive A.Ring__receive_d
  b_Ring__receive : Binds K A.Ring__receive_d ["self", "token", "at"] []
  m_Ring__receive : Meth K A.Ring "_receive" A.Ring__receive
  F_Ring__count_silence : Fun K "_count_silence" "Ring._count_silence" s_Ring__count_silence A.Ring__count_silence A.Ring__count_silence_d
  b_Ring__count_silence : Binds K A.Ring__count_silence_d ["self", "heard"] []
  m_Ring__count_silence : Meth K A.Ring "_count_silence" A.Ring__count_silence
  F_Ring__end_silence : Fun K "_end_silence" "Ring._end_silence" s_Ring__end_silence A.Ring__end_silence A.Ring__end_silence_d
  b_Ring__end_silence : Binds K A.Ring__end_silence_d ["self"] []
  m_Ring__end_silence : Meth K A.Ring "_end_silence" A.Ring__end_silence
  F_is_number_word : Fun K "is_number_word" "is_number_word" s_is_number_word A.is_number_word A.is_number_word_d
  b_is_number_word : Binds K A.is_number_word_d ["word"] []
  g_is_number_word : mg "is_number_word" = some (.ref A.is_number_word)
  F_is_understood : Fun K "is_understood" "is_understood" s_is_understood A.is_understood A.is_understood_d
  b_is_understood : Binds K A.is_understood_d ["words"] []
  g_is_understood : mg "is_understood" = some (.ref A.is_understood)
  F_steps_answer : Fun K "steps_answer" "steps_answer" s_steps_answer A.steps_answer A.steps_answer_d
  b_steps_answer : Binds K A.steps_answer_d ["ring", "many"] []
  g_steps_answer : mg "steps_answer" = some (.ref A.steps_answer)
  F_tokens_answer : Fun K "tokens_answer" "tokens_answer" s_tokens_answer A.tokens_answer A.tokens_answer_d
  b_tokens_answer : Binds K A.tokens_answer_d ["ring"] []
  g_tokens_answer : mg "tokens_answer" = some (.ref A.tokens_answer)
  F_ring_answer : Fun K "ring_answer" "ring_answer" s_ring_answer A.ring_answer A.ring_answer_d
  b_ring_answer : Binds K A.ring_answer_d ["ring", "word", "numbers"] []
  g_ring_answer : mg "ring_answer" = some (.ref A.ring_answer)
  F_Desk_init : Fun K "__init__" "Desk.__init__" s_Desk_init A.Desk_init A.Desk_init_d
  b_Desk_init : Binds K A.Desk_init_d ["self"] []
  F_Desk_answer : Fun K "answer" "Desk.answer" s_Desk_answer A.Desk_answer A.Desk_answer_d
  b_Desk_answer : Binds K A.Desk_answer_d ["self", "row"] []
  m_Desk_answer : Meth K A.Desk "answer" A.Desk_answer
  F_Desk__done : Fun K "_done" "Desk._done" s_Desk__done A.Desk__done A.Desk__done_d
  b_Desk__done : Binds K A.Desk__done_d ["self", "word", "numbers"] []
  m_Desk__done : Meth K A.Desk "_done" A.Desk__done
  F_played : Fun K "played" "played" s_played A.played A.played_d
  b_played : Binds K A.played_d ["text"] []
  g_played : mg "played" = some (.ref A.played)
  F_law_cell_at : Fun K "_law_cell_at" "_law_cell_at" s_law_cell_at A.law_cell_at A.law_cell_at_d
  b_law_cell_at : Binds K A.law_cell_at_d ["_law_script", "_law_k"] []
  g_law_cell_at : mg "_law_cell_at" = some (.ref A.law_cell_at)
  F_law_mixed : Fun K "_law_mixed" "_law_mixed" s_law_mixed A.law_mixed A.law_mixed_d
  b_law_mixed : Binds K A.law_mixed_d ["_law_cell", "_law_k"] []
  g_law_mixed : mg "_law_mixed" = some (.ref A.law_mixed)
  F_law_deeds : Fun K "_law_deeds" "_law_deeds" s_law_deeds A.law_deeds A.law_deeds_d
  b_law_deeds : Binds K A.law_deeds_d ["_law_script", "_law_first", "_law_few", "_law_many"] []
  g_law_deeds : mg "_law_deeds" = some (.ref A.law_deeds)
  F_law_row : Fun K "_law_row" "_law_row" s_law_row A.law_row A.law_row_d
  b_law_row : Binds K A.law_row_d ["_law_cell", "_law_k", "_law_many"] []
  g_law_row : mg "_law_row" = some (.ref A.law_row)
  F_law_number : Fun K "_law_number" "_law_number" s_law_number A.law_number A.law_number_d
  b_law_number : Binds K A.law_number_d ["_law_word"] []
  g_law_number : mg "_law_number" = some (.ref A.law_number)
  F_law_steps : Fun K "_law_steps" "_law_steps" s_law_steps A.law_steps A.law_steps_d
  b_law_steps : Binds K A.law_steps_d ["_law_ring", "_law_many"] []
  g_law_steps : mg "_law_steps" = some (.ref A.law_steps)
  F_law_deed : Fun K "_law_deed" "_law_deed" s_law_deed A.law_deed A.law_deed_d
  b_law_deed : Binds K A.law_deed_d ["_law_ring", "_law_kind", "_law_numbers"] []
  g_law_deed : mg "_law_deed" = some (.ref A.law_deed)
  F_law_answer : Fun K "_law_answer" "_law_answer" s_law_answer A.law_answer A.law_answer_d
  b_law_answer : Binds K A.law_answer_d ["_law_rings", "_law_line"] []
  g_law_answer : mg "_law_answer" = some (.ref A.law_answer)
  F_law_told : Fun K "_law_told" "_law_told" s_law_told A.law_told A.law_told_d
  b_law_told : Binds K A.law_told_d ["_law_rings", "_law_line"] []
  g_law_told : mg "_law_told" = some (.ref A.law_told)
  F_law_answers : Fun K "_law_answers" "_law_answers" s_law_answers A.law_answers A.law_answers_d
  b_law_answers : Binds K A.law_answers_d ["_law_lines"] []
  g_law_answers : mg "_law_answers" = some (.ref A.law_answers)
  F_law : Fun K "law" "law" s_law A.law A.law_d
  b_law : Binds K A.law_d ["_law_script"] []
  g_law : mg "law" = some (.ref A.law)
  g_RingError : mg "RingError" = some (.ref A.RingError)
  x_RingError : PySem.W.excIn K A.RingError [.type "ValueError", .type "Exception", .type "BaseException", .type "object"] "ValueError.__new__" = true
  k_RingError : PySem.W.keepIn K (.ref A.RingError) = true
  b_RingError : PySem.W.subIn K (.ref A.RingError) (.type "BaseException") = some true
  t_RingError : PySem.W.typeIn K (.ref A.RingError) = some (.type "type")
  i_RingError : PySem.W.isClsIn K A.RingError = true
  v_RingError : PySem.W.subIn K (.ref A.RingError) (.type "ValueError") = some true
  s_RingError_RingError : PySem.W.subIn K (.ref A.RingError) (.ref A.RingError) = some true
  s_RingError_NoRing : PySem.W.subIn K (.ref A.RingError) (.ref A.NoRing) = some false
  s_RingError_NoStation : PySem.W.subIn K (.ref A.RingError) (.ref A.NoStation) = some false
  s_RingError_NoMessage : PySem.W.subIn K (.ref A.RingError) (.ref A.NoMessage) = some false
  s_RingError_IsOff : PySem.W.subIn K (.ref A.RingError) (.ref A.IsOff) = some false
  s_RingError_IsOn : PySem.W.subIn K (.ref A.RingError) (.ref A.IsOn) = some false
  s_RingError_NoToken : PySem.W.subIn K (.ref A.RingError) (.ref A.NoToken) = some false
  g_NoRing : mg "NoRing" = some (.ref A.NoRing)
  x_NoRing : PySem.W.excIn K A.NoRing [.type "ValueError", .type "Exception", .type "BaseException", .type "object"] "ValueError.__new__" = true
  k_NoRing : PySem.W.keepIn K (.ref A.NoRing) = true
  b_NoRing : PySem.W.subIn K (.ref A.NoRing) (.type "BaseException") = some true
  t_NoRing : PySem.W.typeIn K (.ref A.NoRing) = some (.type "type")
  i_NoRing : PySem.W.isClsIn K A.NoRing = true
  v_NoRing : PySem.W.subIn K (.ref A.NoRing) (.type "ValueError") = some true
  s_NoRing_RingError : PySem.W.subIn K (.ref A.NoRing) (.ref A.RingError) = some true
  s_NoRing_NoRing : PySem.W.subIn K (.ref A.NoRing) (.ref A.NoRing) = some true
  s_NoRing_NoStation : PySem.W.subIn K (.ref A.NoRing) (.ref A.NoStation) = some false
  s_NoRing_NoMessage : PySem.W.subIn K (.ref A.NoRing) (.ref A.NoMessage) = some false
  s_NoRing_IsOff : PySem.W.subIn K (.ref A.NoRing) (.ref A.IsOff) = some false
  s_NoRing_IsOn : PySem.W.subIn K (.ref A.NoRing) (.ref A.IsOn) = some false
  s_NoRing_NoToken : PySem.W.subIn K (.ref A.NoRing) (.ref A.NoToken) = some false
  g_NoStation : mg "NoStation" = some (.ref A.NoStation)
  x_NoStation : PySem.W.excIn K A.NoStation [.type "ValueError", .type "Exception", .type "BaseException", .type "object"] "ValueError.__new__" = true
  k_NoStation : PySem.W.keepIn K (.ref A.NoStation) = true
  b_NoStation : PySem.W.subIn K (.ref A.NoStation) (.type "BaseException") = some true
  t_NoStation : PySem.W.typeIn K (.ref A.NoStation) = some (.type "type")
  i_NoStation : PySem.W.isClsIn K A.NoStation = true
  v_NoStation : PySem.W.subIn K (.ref A.NoStation) (.type "ValueError") = some true
  s_NoStation_RingError : PySem.W.subIn K (.ref A.NoStation) (.ref A.RingError) = some true
  s_NoStation_NoRing : PySem.W.subIn K (.ref A.NoStation) (.ref A.NoRing) = some false
  s_NoStation_NoStation : PySem.W.subIn K (.ref A.NoStation) (.ref A.NoStation) = some true
  s_NoStation_NoMessage : PySem.W.subIn K (.ref A.NoStation) (.ref A.NoMessage) = some false
  s_NoStation_IsOff : PySem.W.subIn K (.ref A.NoStation) (.ref A.IsOff) = some false
  s_NoStation_IsOn : PySem.W.subIn K (.ref A.NoStation) (.ref A.IsOn) = some false
  s_NoStation_NoToken : PySem.W.subIn K (.ref A.NoStation) (.ref A.NoToken) = some false
  g_NoMessage : mg "NoMessage" = some (.ref A.NoMessage)
  x_NoMessage : PySem.W.excIn K A.NoMessage [.type "ValueError", .type "Exception", .type "BaseException", .type "object"] "ValueError.__new__" = true
  k_NoMessage : PySem.W.keepIn K (.ref A.NoMessage) = true
  b_NoMessage : PySem.W.subIn K (.ref A.NoMessage) (.type "BaseException") = some true
  t_NoMessage : PySem.W.typeIn K (.ref A.NoMessage) = some (.type "type")
  i_NoMessage : PySem.W.isClsIn K A.NoMessage = true
  v_NoMessage : PySem.W.subIn K (.ref A.NoMessage) (.type "ValueError") = some true
  s_NoMessage_RingError : PySem.W.subIn K (.ref A.NoMessage) (.ref A.RingError) = some true
  s_NoMessage_NoRing : PySem.W.subIn K (.ref A.NoMessage) (.ref A.NoRing) = some false
  s_NoMessage_NoStation : PySem.W.subIn K (.ref A.NoMessage) (.ref A.NoStation) = some false
  s_NoMessage_NoMessage : PySem.W.subIn K (.ref A.NoMessage) (.ref A.NoMessage) = some true
  s_NoMessage_IsOff : PySem.W.subIn K (.ref A.NoMessage) (.ref A.IsOff) = some false
  s_NoMessage_IsOn : PySem.W.subIn K (.ref A.NoMessage) (.ref A.IsOn) = some false
  s_NoMessage_NoToken : PySem.W.subIn K (.ref A.NoMessage) (.ref A.NoToken) = some false
  g_IsOff : mg "IsOff" = some (.ref A.IsOff)
  x_IsOff : PySem.W.excIn K A.IsOff [.type "ValueError", .type "Exception", .type "BaseException", .type "object"] "ValueError.__new__" = true
  k_IsOff : PySem.W.keepIn K (.ref A.IsOff) = true
  b_IsOff : PySem.W.subIn K (.ref A.IsOff) (.type "BaseException") = some true
  t_IsOff : PySem.W.typeIn K (.ref A.IsOff) = some (.type "type")
  i_IsOff : PySem.W.isClsIn K A.IsOff = true
  v_IsOff : PySem.W.subIn K (.ref A.IsOff) (.type "ValueError") = some true
  s_IsOff_RingError : PySem.W.subIn K (.ref A.IsOff) (.ref A.RingError) = some true
  s_IsOff_NoRing : PySem.W.subIn K (.ref A.IsOff) (.ref A.NoRing) = some false
  s_IsOff_NoStation : PySem.W.subIn K (.ref A.IsOff) (.ref A.NoStation) = some false
  s_IsOff_NoMessage : PySem.W.subIn K (.ref A.IsOff) (.ref A.NoMessage) = some false
  s_IsOff_IsOff : PySem.W.subIn K (.ref A.IsOff) (.ref A.IsOff) = some true
  s_IsOff_IsOn : PySem.W.subIn K (.ref A.IsOff) (.ref A.IsOn) = some false
  s_IsOff_NoToken : PySem.W.subIn K (.ref A.IsOff) (.ref A.NoToken) = some false
  g_IsOn : mg "IsOn" = some (.ref A.IsOn)
  x_IsOn : PySem.W.excIn K A.IsOn [.type "ValueError", .type "Exception", .type "BaseException", .type "object"] "ValueError.__new__" = true
  k_IsOn : PySem.W.keepIn K (.ref A.IsOn) = true
  b_IsOn : PySem.W.subIn K (.ref A.IsOn) (.type "BaseException") = some true
  t_IsOn : PySem.W.typeIn K (.ref A.IsOn) = some (.type "type")
  i_IsOn : PySem.W.isClsIn K A.IsOn = true
  v_IsOn : PySem.W.subIn K (.ref A.IsOn) (.type "ValueError") = some true
  s_IsOn_RingError : PySem.W.subIn K (.ref A.IsOn) (.ref A.RingError) = some true
  s_IsOn_NoRing : PySem.W.subIn K (.ref A.IsOn) (.ref A.NoRing) = some false
  s_IsOn_NoStation : PySem.W.subIn K (.ref A.IsOn) (.ref A.NoStation) = some false
  s_IsOn_NoMessage : PySem.W.subIn K (.ref A.IsOn) (.ref A.NoMessage) = some false
  s_IsOn_IsOff : PySem.W.subIn K (.ref A.IsOn) (.ref A.IsOff) = some false
  s_IsOn_IsOn : PySem.W.subIn K (.ref A.IsOn) (.ref A.IsOn) = some true
  s_IsOn_NoToken : PySem.W.subIn K (.ref A.IsOn) (.ref A.NoToken) = some false
  g_NoToken : mg "NoToken" = some (.ref A.NoToken)
  x_NoToken : PySem.W.excIn K A.NoToken [.type "ValueError", .type "Exception", .type "BaseException", .type "object"] "ValueError.__new__" = true
  k_NoToken : PySem.W.keepIn K (.ref A.NoToken) = true
  b_NoToken : PySem.W.subIn K (.ref A.NoToken) (.type "BaseException") = some true
  t_NoToken : PySem.W.typeIn K (.ref A.NoToken) = some (.type "type")
  i_NoToken : PySem.W.isClsIn K A.NoToken = true
  v_NoToken : PySem.W.subIn K (.ref A.NoToken) (.type "ValueError") = some true
  s_NoToken_RingError : PySem.W.subIn K (.ref A.NoToken) (.ref A.RingError) = some true
  s_NoToken_NoRing : PySem.W.subIn K (.ref A.NoToken) (.ref A.NoRing) = some false
  s_NoToken_NoStation : PySem.W.subIn K (.ref A.NoToken) (.ref A.NoStation) = some false
  s_NoToken_NoMessage : PySem.W.subIn K (.ref A.NoToken) (.ref A.NoMessage) = some false
  s_NoToken_IsOff : PySem.W.subIn K (.ref A.NoToken) (.ref A.IsOff) = some false
  s_NoToken_IsOn : PySem.W.subIn K (.ref A.NoToken) (.ref A.IsOn) = some false
  s_NoToken_NoToken : PySem.W.subIn K (.ref A.NoToken) (.ref A.NoToken) = some true
  g_Station : mg "Station" = some (.ref A.Station)
  cl_Station : Cls K A.Station
  M_Station : Mk K A.Station A.Station_init
  a_Station_on : NoAttr K A.Station "on"
  a_Station_seen : NoAttr K A.Station "seen"
  a_Station_silence : NoAttr K A.Station "silence"
  a_Station_row : NoAttr K A.Station "_row"
  a_Station_told : NoAttr K A.Station "_told"
  g_Token : mg "Token" = some (.ref A.Token)
  cl_Token : Cls K A.Token
  M_Token : Mk K A.Token A.Token_init
  a_Token_number : NoAttr K A.Token "number"
  a_Token_maker : NoAttr K A.Token "maker"
  a_Token_at : NoAttr K A.Token "at"
  a_Token_winner : NoAttr K A.Token "winner"
  a_Token_best : NoAttr K A.Token "best"
  g_Ring : mg "Ring" = some (.ref A.Ring)
  cl_Ring : Cls K A.Ring
  M_Ring : Mk K A.Ring A.Ring_init
  a_Ring_time : NoAttr K A.Ring "_time"
  a_Ring_stations : NoAttr K A.Ring "_stations"
  a_Ring_tokens : NoAttr K A.Ring "_tokens"
  a_Ring_rows : NoAttr K A.Ring "_rows"
  g_Desk : mg "Desk" = some (.ref A.Desk)
  cl_Desk : Cls K A.Desk
  M_Desk : Mk K A.Desk A.Desk_init
  a_Desk_ring : NoAttr K A.Desk "_ring"
  n_all : mg "all" = none
  n_bool : mg "bool" = none
  n_enumerate : mg "enumerate" = none
  n_int : mg "int" = none
  n_isinstance : mg "isinstance" = none
  n_len : mg "len" = none
  n_list : mg "list" = none
  n_min : mg "min" = none
  n_range : mg "range" = none
  n_str : mg "str" = none
  c_MOST_STATIONS : ∃ u, mg "MOST_STATIONS" = some u ∧ RelV (.int 12) u
  c_MOST_RANK : ∃ u, mg "MOST_RANK" = some u ∧ RelV (.int 7) u
  c_MOST_MARK : ∃ u, mg "MOST_MARK" = some u ∧ RelV (.int 1000000000) u
  c_NOT_UNDERSTOOD : ∃ u, mg "NOT_UNDERSTOOD" = some u ∧ RelV (.str "not understood") u
  c_MOST_FIGURES : ∃ u, mg "MOST_FIGURES" = some u ∧ RelV (.int 12) u
  c_MOST_STEPS : ∃ u, mg "MOST_STEPS" = some u ∧ RelV (.int 1000) u
  c_NUMBERS : ∃ u, mg "NUMBERS" = some u ∧ RelV (.ref A.c_NUMBERS) u
/-! two pairs of ints, one > the other -/
def gr (n m n' m' : Int) : Bool := if n = n' then decide (m' < m) else decide (n' < n)
def rGtP (K : PySem.W.Frag) : R2 := fun x y H Q => ∃ (a b : Addr) (n m n' m' : Int), x = .ref a ∧ y = .ref b ∧ SqT K H a [.int n, .int m] ∧ SqT K H b [.int n', .int m'] ∧ Q (.bl (gr n m n' m')) H
theorem gr_lt (n m n' m' : Int) : PySem.W.dataLt (.tuple [.int n', .int m']) (.tuple [.int n, .int m]) = gr n m n' m' := by
  rw [PySem.W.dataLt_ii]
  unfold gr
  by_cases h : n = n'
  · subst h
    rw [if_pos rfl]
    have : (n < n ∨ n = n ∧ m' < m) ↔ m' < m := by omega
    exact decide_eq_decide.mpr this
  · rw [if_neg h]
    have : (n' < n ∨ n' = n ∧ m' < m) ↔ n' < n := by omega
    exact decide_eq_decide.mpr this
theorem op_gtP {X : Cx} (hu : X.A.units + 64 < cLine) : OpR X (compareOp .Gt) (rGtP X.K) := by
  intro pins s σ H x y v u Q I rx ry h
  obtain ⟨a, b, n, m, n', m', rfl, rfl, ha, hb, q⟩ := h
  have d1 : Dp X.K H (.ref a) (.tuple [.int n, .int m]) := .tup ha (.cons (.int n) (.cons (.int m) .nil))
  have d2 : Dp X.K H (.ref b) (.tuple [.int n', .int m']) := .tup hb (.cons (.int n') (.cons (.int m') .nil))
  obtain ⟨as, r1⟩ := Dp.reads I _ _ v d1 rx
  obtain ⟨bs, r2⟩ := Dp.reads I _ _ u d2 ry
  refine PySem.W.gt_data r1 r2 (by simp [PySem.W.alike, PySem.W.alikeAll]) (fun z => nomatch z) ?_ ?_
  · have : min (PyData.depth (.tuple [.int n, .int m])) (PyData.depth (.tuple [.int n', .int m'])) ≤ 64 := by
      simp [PyData.depth, PyData.depthAll]
    omega
  · rw [gr_lt]
    exact ⟨.bl _, H, I, rfl, q⟩
/-! ### what stands beside the places that change -/
/-- all but what stands at these places is as it was -/
def Fr (H H' : Hp) (ps : List Addr) : Prop := ∀ b o, H b = some o → b ∉ ps → H' b = some o
theorem Fr.refl (H : Hp) (ps : List Addr) : Fr H H ps := fun _ _ e _ => e
theorem Fr.trans {H H1 H2 : Hp} {ps : List Addr} (a : Fr H H1 ps) (b : Fr H1 H2 ps) : Fr H H2 ps := fun c o e n => b c o (a c o e n) n
theorem Fr.of {H H' : Hp} {ps : List Addr} (s : Same H H') : Fr H H' ps := fun b o e _ => s b o e
theorem upd_none {H : Hp} {a b : Addr} {o : HO} (e : upd H a o b = Option.none) : H b = Option.none := by
  by_cases h : b = a
  · subst h
    rw [upd_same] at e
    cases e
  · rwa [upd_ne h] at e
theorem Fr.upd {H H' : Hp} {ps : List Addr} {p : Addr} {o : HO} (a : Fr H H' ps) (m : p ∈ ps) : Fr H (upd H' p o) ps := fun b x e n => by
  rw [upd_ne (fun q => n (by rw [q]; exact m))]
  exact a b x e n
def off (H : Hp) (M : List Addr) : Hp := fun b => if b ∈ M then Option.none else H b
theorem off_sub (H : Hp) (M : List Addr) : Same (off H M) H := fun b o e => by
  unfold off at e
  by_cases h : b ∈ M
  · rw [if_pos h] at e; cases e
  · rw [if_neg h] at e; exact e
theorem off_in {H : Hp} {M : List Addr} {b : Addr} {o : HO} (e : H b = some o) (n : b ∉ M) : off H M b = some o := by
  unfold off
  rw [if_neg n]
  exact e
theorem off_not {H : Hp} {M : List Addr} {b : Addr} {o : HO} (e : off H M b = some o) : b ∉ M := fun h => by
  unfold off at e
  rw [if_pos h] at e
  cases e
theorem off_mono {H H' : Hp} {M : List Addr} (f : Fr H H' M) : Same (off H M) (off H' M) := fun b o e => off_in (f b o (off_sub _ _ b o e) (off_not e)) (off_not e)
theorem Fr.wide {H H' : Hp} {ps qs : List Addr} (f : Fr H H' ps) (h : ∀ x, x ∈ ps → x ∈ qs) : Fr H H' qs := fun b o e n => f b o e (fun m => n (h b m))
theorem Fr.same {H0 H H' : Hp} {ps : List Addr} (s : Same H0 H) (f : Fr H H' ps) (n : ∀ x, x ∈ ps → H0 x = Option.none) : Same H0 H' := fun b o e => f b o (s b o e) fun m => by
  rw [n b m] at e
  cases e
theorem Fr.at {H H' : Hp} {ps : List Addr} {b : Addr} {o : HO} (f : Fr H H' ps) (e : H b = some o) (n : b ∉ ps) : H' b = some o := f b o e n
theorem get_map {α : Type} {f : α → V} {l : List α} {i : Nat} {y : V} (h : (l.map f)[i]? = some y) : ∃ t, l[i]? = some t ∧ y = f t := by
  rw [List.getElem?_map] at h
  cases e : l[i]? with
  | none => rw [e] at h; cases h
  | some t => rw [e] at h; exact ⟨t, rfl, (Option.some.inj h).symm⟩
theorem ne_of_none' {H : Hp} {a b : Addr} {o : HO} (n : H a = none) (e : H b = some o) : a ≠ b := fun z => by rw [z, e] at n; cases n
/-! ### the law's helpers: whole, mixed, same, held -/
def spWhole : Sp := fun vs H Q _ => ∃ (m : Int), vs = [.int m] ∧ Q (.bl true) H
def mixA (c k : Int) : Int := (c + 7919 * k) * 48271 % 2147483647
def mix (c k : Int) : Int := mixA c k * (mixA c k % 65537 + k + 1) % 2147483647
theorem mix_lo (c k : Int) : 0 ≤ mix c k := Int.emod_nonneg _ (by decide)
theorem mix_hi (c k : Int) : mix c k < 2147483647 := Int.emod_lt_of_pos _ (by decide)
def spMixed : Sp := fun vs H Q _ => ∃ (c k : Int), vs = [.int c, .int k] ∧ -100000 ≤ k ∧ k ≤ 100000 ∧ Q (.int (mix c k)) H
/-- two things that are the same, of nesting below n -/
def SameV : Nat → Hp → V → V → Prop
  | 0, _, _, _ => False
  | n + 1, H, x, y => (x = .non ∧ y = .non) ∨ (∃ i, x = .int i ∧ y = .int i) ∨ (∃ s, x = .str s ∧ y = .str s) ∨
    ∃ (a b : Addr) (xs ys : List V), x = .ref a ∧ y = .ref b ∧ ((H a = some (.tup xs) ∧ H b = some (.tup ys)) ∨ (H a = some (.lst xs) ∧ H b = some (.lst ys))) ∧
      xs.length = ys.length ∧ xs.length < sizeLine ∧ ∀ (i : Nat) (u v : V), xs[i]? = some u → ys[i]? = some v → SameV n H u v
theorem SameV.mono {n : Nat} : ∀ {H H' : Hp} {x y : V}, Same H H' → SameV n H x y → SameV n H' x y := by
  induction n with
  | zero => intro _ _ _ _ _ h; exact h.elim
  | succ n ih =>
    intro H H' x y s h
    rcases h with h | h | h | ⟨a, b, xs, ys, ex, ey, hab, hl, hz, hi⟩
    · exact .inl h
    · exact .inr (.inl h)
    · exact .inr (.inr (.inl h))
    · refine .inr (.inr (.inr ⟨a, b, xs, ys, ex, ey, ?_, hl, hz, fun i u v hu hv => ih s (hi i u v hu hv)⟩))
      rcases hab with ⟨h1, h2⟩ | ⟨h1, h2⟩
      · exact .inl ⟨s _ _ h1, s _ _ h2⟩
      · exact .inr ⟨s _ _ h1, s _ _ h2⟩
def spSame (n : Nat) : Sp := fun vs H Q _ => ∃ (x y : V), vs = [x, y] ∧ SameV n H x y ∧ ∀ H', Same H H' → Q (.bl true) H'
theorem SameV.non {n : Nat} {H : Hp} : SameV (n + 1) H .non .non := .inl ⟨rfl, rfl⟩
theorem SameV.int {n : Nat} {H : Hp} (i : Int) : SameV (n + 1) H (.int i) (.int i) := .inr (.inl ⟨i, rfl, rfl⟩)
theorem SameV.str {n : Nat} {H : Hp} (s : Str) : SameV (n + 1) H (.str s) (.str s) := .inr (.inr (.inl ⟨s, rfl, rfl⟩))
theorem SameV.tup {n : Nat} {H : Hp} {a b : Addr} {xs ys : List V} (h1 : H a = some (.tup xs)) (h2 : H b = some (.tup ys)) (hl : xs.length = ys.length) (hz : xs.length < sizeLine) (hi : ∀ (i : Nat) (u v : V), xs[i]? = some u → ys[i]? = some v → SameV n H u v) : SameV (n + 1) H (.ref a) (.ref b) :=
  .inr (.inr (.inr ⟨a, b, xs, ys, rfl, rfl, .inl ⟨h1, h2⟩, hl, hz, hi⟩))
theorem SameV.lst {n : Nat} {H : Hp} {a b : Addr} {xs ys : List V} (h1 : H a = some (.lst xs)) (h2 : H b = some (.lst ys)) (hl : xs.length = ys.length) (hz : xs.length < sizeLine) (hi : ∀ (i : Nat) (u v : V), xs[i]? = some u → ys[i]? = some v → SameV n H u v) : SameV (n + 1) H (.ref a) (.ref b) :=
  .inr (.inr (.inr ⟨a, b, xs, ys, rfl, rfl, .inr ⟨h1, h2⟩, hl, hz, hi⟩))
section
variable {P : Program} {w : World} {K : PySem.W.Frag} {mg : Str → Option Value} {base : Heap} {Z : Ad}
theorem ok_law_mixed (T : Txt K mg Z) : FnOk P w K mg base CX0 1 Z.law_mixed Z.law_mixed_d ["_law_cell", "_law_k"] spMixed := by
  refine T.F_law_mixed.ok sc_law_mixed (fun vs H Q E h => ?_) (fun cdv A outer s H vs Q E hr h => ?_)
  · obtain ⟨c, k, rfl, _⟩ := h
    rfl
  · obtain ⟨c, j, rfl, h1, h2, k⟩ := h
    refine ⟨_, (pss_cons (ps_set (i := 2) sc_law_mixed.nd rfl (Or.inl rfl) (pe_op op_mod (pe_op op_mul (pe_op op_add (pv 0) (pe_op op_mul pe_int (pv 1))) pe_int) pe_int))
      (pss_one (ps_ret (pe_op op_mod (pe_op op_mul (pv 2) (pe_op op_add (pe_op op_add (pe_op op_mod (pv 2) pe_int) (pv 1)) pe_int)) pe_int)))), ?_⟩
    k_allIn
    have b1 : 0 ≤ (c + 7919 * j) * 48271 % 2147483647 := Int.emod_nonneg _ (by decide)
    have b2 : (c + 7919 * j) * 48271 % 2147483647 < 2147483647 := Int.emod_lt_of_pos _ (by decide)
    refine w_mulL (by omega) ?_
    k_allIn
    exact k
end
section
variable {P : Program} {w : World} {K : PySem.W.Frag} {mg : Str → Option Value} {base : Heap} {Z : Ad}
theorem isi {x : V} {t : String} {c : String} {b : Bool} {H : Hp} {Q : VK} (ty : TyX K H x (.type t)) (e : kitB t c = some b) (q : Q (.bl b) H) : rIsi K [x, .ty c] H Q := ⟨x, .ty c, _, _, b, rfl, .ty c, ty, kit_ty e, q⟩
theorem all_rep : ∀ n : Nat, (List.replicate n true).all id = true
  | 0 => rfl
  | n + 1 => by rw [List.replicate_succ, List.all_cons, all_rep n]; rfl
theorem sz62 {n : Nat} (h : n < sizeLine) : n < 4611686018427387904 := Nat.lt_of_lt_of_le h (by decide)
theorem small {n : Nat} (h : n ≤ 100000) : n < sizeLine := Nat.lt_of_le_of_lt h (by decide)
end
/-! ### data that stand in the heap -/
mutual
inductive Rp (H : Hp) : V → PyData → Prop
  | non : Rp H .non .none
  | int (i : Int) : Rp H (.int i) (.int i)
  | str (x : Str) : Rp H (.str x) (.str x)
  | lst {a : Addr} {xs : List V} {ds : List PyData} : H a = some (.lst xs) → RpAll H xs ds → Rp H (.ref a) (.list ds)
  | tup {a : Addr} {xs : List V} {ds : List PyData} : H a = some (.tup xs) → RpAll H xs ds → Rp H (.ref a) (.tuple ds)
inductive RpAll (H : Hp) : List V → List PyData → Prop
  | nil : RpAll H [] []
  | cons {v : V} {vs : List V} {d : PyData} {ds : List PyData} : Rp H v d → RpAll H vs ds → RpAll H (v :: vs) (d :: ds)
end
mutual
def okD : PyData → Bool
  | .none => true
  | .bool _ => false
  | .int _ => true
  | .str x => PyData.strOk x
  | .list ds => decide (ds.length < sizeLine) && okAll ds
  | .tuple ds => decide (ds.length < sizeLine) && okAll ds
  | .dict _ => false
def okAll : List PyData → Bool
  | [] => true
  | d :: ds => okD d && okAll ds
end
theorem RpAll.len {H : Hp} : ∀ {xs : List V} {ds : List PyData}, RpAll H xs ds → xs.length = ds.length
  | _, _, .nil => rfl
  | _, _, .cons _ t => congrArg (· + 1) (RpAll.len t)
mutual
theorem Rp.mono {H H' : Hp} (s : Same H H') : ∀ (d : PyData) (v : V), Rp H v d → Rp H' v d
  | .none, _, h => by cases h; exact .non
  | .bool _, _, h => nomatch h
  | .int i, _, h => by cases h; exact .int i
  | .str x, _, h => by cases h; exact .str x
  | .list ds, _, h => by cases h with | lst h1 h2 => exact .lst (s _ _ h1) (RpAll.mono s ds _ h2)
  | .tuple ds, _, h => by cases h with | tup h1 h2 => exact .tup (s _ _ h1) (RpAll.mono s ds _ h2)
  | .dict _, _, h => nomatch h
theorem RpAll.mono {H H' : Hp} (s : Same H H') : ∀ (ds : List PyData) (vs : List V), RpAll H vs ds → RpAll H' vs ds
  | [], _, h => by cases h; exact .nil
  | d :: ds, _, h => by cases h with | cons h1 h2 => exact .cons (Rp.mono s d _ h1) (RpAll.mono s ds _ h2)
end
mutual
theorem Rp.dp {K : PySem.W.Frag} {H : Hp} : ∀ (d : PyData) (v : V), Rp H v d → Dp K H v d
  | .none, _, h => by cases h; exact .non
  | .bool _, _, h => nomatch h
  | .int i, _, h => by cases h; exact .int i
  | .str x, _, h => by cases h; exact .str x
  | .list ds, _, h => by cases h with | lst h1 h2 => exact .lst (SqL.of h1) (RpAll.dp ds _ h2)
  | .tuple ds, _, h => by cases h with | tup h1 h2 => exact .tup (SqT.of h1) (RpAll.dp ds _ h2)
  | .dict _, _, h => nomatch h
theorem RpAll.dp {K : PySem.W.Frag} {H : Hp} : ∀ (ds : List PyData) (vs : List V), RpAll H vs ds → DpAll K H vs ds
  | [], _, h => by cases h; exact .nil
  | d :: ds, _, h => by cases h with | cons h1 h2 => exact .cons (Rp.dp d _ h1) (RpAll.dp ds _ h2)
end
mutual
theorem okD_lay : ∀ d : PyData, okD d = true → d.canLay0 = true
  | .none, _ => rfl
  | .bool _, h => nomatch h
  | .int _, _ => rfl
  | .str x, h => by rw [okD] at h; rw [PyData.canLay0]; exact h
  | .list ds, h => by rw [okD, Bool.and_eq_true] at h; rw [PyData.canLay0]; exact okAll_lay ds h.2
  | .tuple ds, h => by rw [okD, Bool.and_eq_true] at h; rw [PyData.canLay0]; exact okAll_lay ds h.2
  | .dict _, h => nomatch h
theorem okAll_lay : ∀ ds : List PyData, okAll ds = true → PyData.canLayAll0 ds = true
  | [], _ => rfl
  | d :: ds, h => by rw [okAll, Bool.and_eq_true] at h; rw [PyData.canLayAll0, okD_lay d h.1, okAll_lay ds h.2]; rfl
end
mutual
theorem Rp.same {H : Hp} : ∀ (d : PyData) (x y : V), okD d = true → Rp H x d → Rp H y d → ∀ n, d.depth < n → SameV n H x y
  | _, _, _, _, _, _, 0, h => absurd h (Nat.not_lt_zero _)
  | .none, _, _, _, hx, hy, n + 1, _ => by cases hx; cases hy; exact SameV.non
  | .bool _, _, _, h, _, _, _, _ => nomatch h
  | .int i, _, _, _, hx, hy, n + 1, _ => by cases hx; cases hy; exact SameV.int i
  | .str s, _, _, _, hx, hy, n + 1, _ => by cases hx; cases hy; exact SameV.str s
  | .list ds, _, _, h, hx, hy, n + 1, hn => by
    rw [okD, Bool.and_eq_true] at h
    rw [PyData.depth] at hn
    cases hx with
    | lst h1 h2 =>
      cases hy with
      | lst k1 k2 => exact SameV.lst h1 k1 (by rw [h2.len, k2.len]) (by rw [h2.len]; exact of_decide_eq_true h.1) (fun i u v hu hv => RpAll.same ds _ _ h.2 h2 k2 i u v hu hv n (by omega))
  | .tuple ds, _, _, h, hx, hy, n + 1, hn => by
    rw [okD, Bool.and_eq_true] at h
    rw [PyData.depth] at hn
    cases hx with
    | tup h1 h2 =>
      cases hy with
      | tup k1 k2 => exact SameV.tup h1 k1 (by rw [h2.len, k2.len]) (by rw [h2.len]; exact of_decide_eq_true h.1) (fun i u v hu hv => RpAll.same ds _ _ h.2 h2 k2 i u v hu hv n (by omega))
  | .dict _, _, _, h, _, _, _, _ => nomatch h
theorem RpAll.same {H : Hp} : ∀ (ds : List PyData) (xs ys : List V), okAll ds = true → RpAll H xs ds → RpAll H ys ds → ∀ (i : Nat) (u v : V), xs[i]? = some u → ys[i]? = some v → ∀ n, PyData.depthAll ds < n → SameV n H u v
  | [], _, _, _, hx, _, i, u, v, hu, _, _, _ => by cases hx; simp at hu
  | d :: ds, _, _, h, hx, hy, i, u, v, hu, hv, n, hn => by
    rw [okAll, Bool.and_eq_true] at h
    rw [PyData.depthAll] at hn
    cases hx with
    | cons h1 h2 =>
      cases hy with
      | cons k1 k2 =>
        cases i with
        | zero =>
          simp at hu hv
          subst hu hv
          exact Rp.same d _ _ h.1 h1 k1 n (by omega)
        | succ i => exact RpAll.same ds _ _ h.2 h2 k2 i u v (by simpa using hu) (by simpa using hv) n (by omega)
end
theorem RpAll.app {H : Hp} : ∀ {xs ys : List V} {ds es : List PyData}, RpAll H xs ds → RpAll H ys es → RpAll H (xs ++ ys) (ds ++ es)
  | _, _, _, _, .nil, h => h
  | _, _, _, _, .cons a t, h => .cons a (RpAll.app t h)
theorem RpAll.one {H : Hp} {x : V} {d : PyData} (h : Rp H x d) : RpAll H [x] [d] := .cons h .nil
theorem okAll_app : ∀ ds es : List PyData, okAll (ds ++ es) = (okAll ds && okAll es)
  | [], _ => rfl
  | d :: ds, es => by rw [List.cons_append, okAll, okAll, okAll_app ds es, Bool.and_assoc]
/-! ### what was told and is held -/
/-- at t a pair of two things of one datum -/
def HeldT (H : Hp) (t : Addr) : Prop := ∃ (b c : V) (d : PyData), H t = some (.tup [b, c]) ∧ Rp H b d ∧ Rp H c d ∧ okD d = true ∧ d.depth ≤ 60
theorem HeldT.mono {H H' : Hp} {t : Addr} (s : Same H H') (h : HeldT H t) : HeldT H' t := by
  obtain ⟨b, c, d, h1, h2, h3, h4, h5⟩ := h
  exact ⟨b, c, d, s _ _ h1, h2.mono s, h3.mono s, h4, h5⟩
def spHeld (K : PySem.W.Frag) : Sp := fun vs H Q _ => ∃ (a : Addr) (ts : List Addr), vs = [.ref a] ∧ H a = some (.lst (ts.map V.ref)) ∧ (∀ t ∈ ts, HeldT H t) ∧ Q (.bl true) H
theorem shaped_of {d : PyData} (h : okD d = true) (hd : d.depth ≤ 60) : SeqAt.shaped d = true := by
  rw [SeqAt.shaped, okD_lay d h, decide_eq_true (by omega : d.depth ≤ 64)]
  rfl
section
variable {P : Program} {w : World} {K : PySem.W.Frag} {mg : Str → Option Value} {base : Heap} {Z : Ad}
end
/-! ### roles: who may change what -/
/-- nothing of ours stands at x -/
def NoO (H : Hp) (x : Addr) : Prop := H x = none ∨ ∃ q, H x = some (.tbl q)
def Rl (rl : Addr → Nat) (H : Hp) : Prop := ∀ x, NoO H x → rl x = 9999
theorem NoO.same {H H' : Hp} {x : Addr} (s : Same H H') (h : NoO H' x) : NoO H x := by
  cases e : H x with
  | none => exact .inl e
  | some o =>
    have e' := s _ _ e
    rcases h with h | ⟨q, h⟩
    · rw [e'] at h; cases h
    · rw [e'] at h; exact .inr ⟨q, by rw [e]; exact h⟩
theorem NoO.ext {H H' : Hp} {x : Addr} (s : LamX.ExtN H H') (h : NoO H' x) : NoO H x := by
  by_cases n : ∃ q, H x = some (.tbl q)
  · exact .inr n
  · cases e : H x with
    | none => exact .inl e
    | some o =>
      have e' := s _ _ e fun q z => n ⟨q, by rw [e, z]⟩
      rcases h with h | ⟨q, h⟩
      · rw [e'] at h; cases h
      · rw [e'] at h; exact absurd ⟨q, by rw [e]; exact h⟩ n
theorem NoO.upd {H : Hp} {p x : Addr} {o : HO} (n : ∀ q, o ≠ .tbl q) (h : NoO (upd H p o) x) : NoO H x := by
  by_cases e : x = p
  · subst e
    rcases h with h | ⟨q, h⟩
    · rw [upd_same] at h; cases h
    · rw [upd_same] at h; exact absurd (Option.some.inj h) (n q)
  · unfold NoO at h
    rw [upd_ne e] at h
    exact h
theorem yesO {H : Hp} {p : Addr} {o : HO} (e : H p = some o) (n : ∀ q, o ≠ .tbl q) : ¬ NoO H p := fun h => by
  rcases h with h | ⟨q, h⟩
  · rw [e] at h; cases h
  · rw [e] at h; exact n q (Option.some.inj h)
/-- all stays but what has a role from lo on, below hi; tuples stay -/
def Kp (rl : Addr → Nat) (lo hi : Nat) (H H' : Hp) : Prop := ∀ b o, H b = some o → ((∃ xs, o = .tup xs) ∨ rl b < lo ∨ hi ≤ rl b) → (∀ q, o ≠ .tbl q) → H' b = some o
/-- the new place a gets the role n -/
def rlN (rl : Addr → Nat) (a : Addr) (n : Nat) : Addr → Nat := fun x => if x = a then n else rl x
theorem rlN_at (rl : Addr → Nat) (a : Addr) (n : Nat) : rlN rl a n a = n := if_pos rfl
theorem rlN_ne (rl : Addr → Nat) {a x : Addr} (n : Nat) (h : x ≠ a) : rlN rl a n x = rl x := if_neg h
theorem Rl.new {rl : Addr → Nat} {H H' : Hp} {a : Addr} {n : Nat} (r : Rl rl H) (s : ∀ x, NoO H' x → NoO H x) (h : ¬ NoO H' a) : Rl (rlN rl a n) H' := fun x hx => by
  rw [rlN_ne rl n (fun e => h (by rw [← e]; exact hx))]
  exact r x (s x hx)
/-- from H, rl to H', rl': what has happened is of the range of lo -/
structure Mv (lo hi : Nat) (rl : Addr → Nat) (H : Hp) (rl' : Addr → Nat) (H' : Hp) : Prop where
  ag : ∀ x, ¬ NoO H x → rl' x = rl x
  kp : Kp rl lo hi H H'
  gr : ∀ x, NoO H' x → NoO H x
theorem Mv.refl (lo hi : Nat) (rl : Addr → Nat) (H : Hp) : Mv lo hi rl H rl H := ⟨fun _ _ => rfl, fun _ _ e _ _ => e, fun _ h => h⟩
theorem Mv.of {lo hi : Nat} {rl : Addr → Nat} {H H' : Hp} (s : Same H H') : Mv lo hi rl H rl H' := ⟨fun _ _ => rfl, fun _ _ e _ _ => s _ _ e, fun _ h => h.same s⟩
theorem Mv.ext {lo hi : Nat} {rl : Addr → Nat} {H H' : Hp} (s : LamX.ExtN H H') : Mv lo hi rl H rl H' := ⟨fun _ _ => rfl, fun _ _ e _ n => s _ _ e n, fun _ h => h.ext s⟩
theorem Mv.trans {lo hi : Nat} {rl rl1 rl2 : Addr → Nat} {H H1 H2 : Hp} (a : Mv lo hi rl H rl1 H1) (b : Mv lo hi rl1 H1 rl2 H2) : Mv lo hi rl H rl2 H2 :=
  ⟨fun x h => by rw [b.ag x fun z => h (a.gr x z), a.ag x h], fun c o e r n => b.kp c o (a.kp c o e r n) (by
    rcases r with r | r
    · exact .inl r
    · rw [a.ag c (yesO e n)]; exact .inr r) n, fun x h => a.gr x (b.gr x h)⟩
theorem Mv.upd {lo hi : Nat} {rl : Addr → Nat} {H : Hp} {p : Addr} {o o' : HO} (h : H p = some o) (nt : ∀ xs, o ≠ .tup xs) (h1 : lo ≤ rl p) (h2 : rl p < hi) (n : ∀ q, o' ≠ .tbl q) : Mv lo hi rl H rl (upd H p o') := ⟨fun _ _ => rfl, fun b o1 e r _ => by
  by_cases q : b = p
  · subst q
    rw [h] at e
    rcases r with ⟨xs, rfl⟩ | r
    · exact absurd (Option.some.inj e) (nt xs)
    · omega
  · rw [upd_ne q]; exact e, fun _ z => z.upd n⟩
theorem Mv.role {lo hi : Nat} {rl : Addr → Nat} {H H' : Hp} {a : Addr} {n : Nat} (s : Same H H') (h : H a = none) : Mv lo hi rl H (rlN rl a n) H' := ⟨fun x hx => rlN_ne rl n fun e => hx (by rw [e]; exact .inl h), fun _ _ e _ _ => s _ _ e, fun _ h => h.same s⟩
theorem Mv.wide {lo hi hi' : Nat} {rl rl' : Addr → Nat} {H H' : Hp} (m : Mv lo hi rl H rl' H') (h : hi ≤ hi') : Mv lo hi' rl H rl' H' := ⟨m.ag, fun b o e r n => m.kp b o e (by
  rcases r with r | r | r
  · exact .inl r
  · exact .inr (.inl r)
  · exact .inr (.inr (Nat.le_trans h r))) n, m.gr⟩
/-! ### the law's walk as it lies in the heap -/
structure LwA where
  S : Addr
  on : Addr
  seen : Addr
  sil : Addr
  told : Addr
  line : Addr
  tok : Addr
  row : Addr
  sn : Nat → Addr
  ln : Nat → Addr
  tk : List Addr
  ms : Nat → List Addr
  rs : List V
def oN : Option Nat → V
  | none => .non
  | some i => .int (i : Int)
def BestN (H : Hp) (v : V) : Option (Int × Nat) → Prop
  | none => v = .non
  | some b => ∃ a, v = .ref a ∧ H a = some (.tup [.int b.1, .int (b.2 : Int)])
def lwF (A : LwA) (t : Nat) : List (Key × V) := [(.inr "on", .ref A.on), (.inr "seen", .ref A.seen), (.inr "silence", .ref A.sil), (.inr "told", .ref A.told), (.inr "line", .ref A.line), (.inr "tokens", .ref A.tok), (.inr "row", .ref A.row), (.inr "time", .int (t : Int))]
def ltF (st : Addr) (pl : Nat) (w b : V) : List (Key × V) := [(.inr "stamp", .ref st), (.inr "at", .int (pl : Int)), (.inr "winner", w), (.inr "best", b)]
def LtAt (H : Hp) (p : Addr) (t : RG.Tok) : Prop := ∃ st bv, H p = some (.dK (ltF st t.pl (oN t.win) bv)) ∧ H st = some (.tup [.int (t.sp.1 : Int), .int (t.sp.2 : Int)]) ∧ BestN H bv t.best
def rwD : RG.Rw → PyData
  | .sent t s r m => .tuple [.str "sent", .int (t : Int), .int (s : Int), .int r, .int m]
  | .made t s n => .tuple [.str "made", .int (t : Int), .int (s : Int), .int (n : Int)]
  | .drop t s p => .tuple [.str "dropped", .int (t : Int), .int (s : Int), .int (p.1 : Int), .int (p.2 : Int)]
  | .lost t p => .tuple [.str "lost", .int (t : Int), .int (p.1 : Int), .int (p.2 : Int)]
/-- a row as a tuple of ints and a word -/
def rwV : RG.Rw → List V
  | .sent t s r m => [.str "sent", .int (t : Int), .int (s : Int), .int r, .int m]
  | .made t s n => [.str "made", .int (t : Int), .int (s : Int), .int (n : Int)]
  | .drop t s p => [.str "dropped", .int (t : Int), .int (s : Int), .int (p.1 : Int), .int (p.2 : Int)]
  | .lost t p => [.str "lost", .int (t : Int), .int (p.1 : Int), .int (p.2 : Int)]
abbrev lstN (n : Nat) (f : Nat → V) : HO := .lst ((List.range n).map f)
structure LwAt (T : List (Addr × Str)) (rl : Addr → Nat) (H : Hp) (A : LwA) (R : RG.Ring) : Prop where
  hS : H A.S = some (.dK (lwF A R.time))
  hon : H A.on = some (lstN R.many fun i => .bl (R.st i).on)
  hseen : H A.seen = some (lstN R.many fun i => .ref (A.sn i))
  hsil : H A.sil = some (lstN R.many fun i => .int ((R.st i).sil : Int))
  htold : H A.told = some (lstN R.many fun i => .int ((R.st i).told : Int))
  hline : H A.line = some (lstN R.many fun i => .ref (A.ln i))
  htok : H A.tok = some (.lst (A.tk.map V.ref))
  hrow : H A.row = some (.lst A.rs)
  hsn : ∀ i, i < R.many → H (A.sn i) = some (.tup [.int ((R.st i).seen.1 : Int), .int ((R.st i).seen.2 : Int)])
  hln : ∀ i, i < R.many → H (A.ln i) = some (.lst ((A.ms i).map V.ref))
  hms : ∀ i, i < R.many → PySem.W.EachIs (fun a (e : Int × Int) => H a = some (.tup [.int e.1, .int e.2])) (A.ms i) (R.st i).line
  htk : PySem.W.EachIs (LtAt H) A.tk R.tk
  hrs : PySem.W.EachIs (fun v r => ∃ a, v = .ref a ∧ H a = some (.tup (rwV r))) A.rs R.rw
  r0 : rl A.S = 0
  r1 : rl A.on = 1
  r2 : rl A.seen = 2
  r3 : rl A.sil = 3
  r4 : rl A.told = 4
  r5 : rl A.line = 5
  r6 : rl A.tok = 951
  r7 : rl A.row = 7
  rk : ∀ p, p ∈ A.tk → rl p = 8
  rn : ∀ i, i < R.many → rl (A.ln i) = 9 + i
  nd : A.tk.Nodup
  dfl : Rl rl H
  tab : LamX.Tabs T H
  many : R.many ≤ 12
theorem BestN.mono {H H' : Hp} {v : V} {b : Option (Int × Nat)} (s : Same H H') (h : BestN H v b) : BestN H' v b := by
  cases b with
  | none => exact h
  | some b => obtain ⟨a, e, h⟩ := h; exact ⟨a, e, s _ _ h⟩
theorem LtAt.mono {H H' : Hp} {p : Addr} {t : RG.Tok} (s : Same H H') (h : LtAt H p t) : LtAt H' p t := by
  obtain ⟨st, bv, h1, h2, h3⟩ := h
  exact ⟨st, bv, s _ _ h1, s _ _ h2, h3.mono s⟩
theorem LwAt.mono {T : List (Addr × Str)} {rl : Addr → Nat} {H H' : Hp} {A : LwA} {R : RG.Ring} (s : Same H H') (h : LwAt T rl H A R) : LwAt T rl H' A R :=
  ⟨s _ _ h.hS, s _ _ h.hon, s _ _ h.hseen, s _ _ h.hsil, s _ _ h.htold, s _ _ h.hline, s _ _ h.htok, s _ _ h.hrow, fun i hi => s _ _ (h.hsn i hi), fun i hi => s _ _ (h.hln i hi), fun i hi => (h.hms i hi).mono fun _ _ e => s _ _ e,
    h.htk.mono fun _ _ e => e.mono s, h.hrs.mono fun _ _ ⟨a, e, z⟩ => ⟨a, e, s _ _ z⟩, h.r0, h.r1, h.r2, h.r3, h.r4, h.r5, h.r6, h.r7, h.rk, h.rn, h.nd, fun x z => h.dfl x (z.same s), h.tab.ext s, h.many⟩
theorem LwAt.ext {T : List (Addr × Str)} {rl : Addr → Nat} {H H' : Hp} {A : LwA} {R : RG.Ring} (s : LamX.ExtN H H') (t : LamX.Tabs T H') (h : LwAt T rl H A R) : LwAt T rl H' A R := by
  have k : ∀ {b : Addr} {xs : List V}, H b = some (.lst xs) → H' b = some (.lst xs) := fun e => s _ _ e fun _ z => nomatch z
  have kt : ∀ {b : Addr} {xs : List V}, H b = some (.tup xs) → H' b = some (.tup xs) := fun e => s _ _ e fun _ z => nomatch z
  refine ⟨s _ _ h.hS fun _ z => (nomatch z), k h.hon, k h.hseen, k h.hsil, k h.htold, k h.hline, k h.htok, k h.hrow, fun i hi => kt (h.hsn i hi), fun i hi => k (h.hln i hi), fun i hi => (h.hms i hi).mono fun _ _ e => kt e,
    h.htk.mono fun _ t ⟨st, bv, h1, h2, h3⟩ => ⟨st, bv, s _ _ h1 fun _ z => (nomatch z), kt h2, ?_⟩, h.hrs.mono fun _ _ ⟨a, e, z⟩ => ⟨a, e, kt z⟩, h.r0, h.r1, h.r2, h.r3, h.r4, h.r5, h.r6, h.r7, h.rk, h.rn, h.nd, fun x z => h.dfl x (z.ext s), t, h.many⟩
  cases hb : t.best with
  | none => rw [hb] at h3; exact h3
  | some b => rw [hb] at h3; obtain ⟨a, e, z⟩ := h3; exact ⟨a, e, kt z⟩
/-! ### the walk's single changes -/
section
variable {T : List (Addr × Str)} {rl : Addr → Nat} {H : Hp} {A : LwA} {R : RG.Ring}
theorem up_r {b p : Addr} {o o' : HO} (h : H b = some o) (n : rl b ≠ rl p) : upd H p o' b = some o := upd_at h fun e => n (by rw [e])
theorem up_t {b p : Addr} {xs : List V} {o1 o' : HO} (h : H b = some (.tup xs)) (hp : H p = some o1) (n : ∀ ys, o1 ≠ .tup ys) : upd H p o' b = some (.tup xs) := upd_at h fun e => by
  rw [e, hp] at h
  exact n xs (Option.some.inj h)
theorem up_g {β : Type} {f : Nat → RG.Stn} {i : Nat} {v : RG.Stn} (g : RG.Stn → β) (e : g v = g (f i)) : (fun j => g (RG.up f i v j)) = fun j => g (f j) := by
  funext j
  unfold RG.up
  split
  · next h => subst h; exact e
  · rfl
theorem up_j {β : Type} {f : Nat → RG.Stn} {i : Nat} {v : RG.Stn} (g : RG.Stn → β) (e : g v = g (f i)) (j : Nat) : g (RG.up f i v j) = g (f j) := congrFun (up_g g e) j
theorem set_range {n i : Nat} (f : Nat → V) (v : V) (h : i < n) : ((List.range n).map f).set i v = (List.range n).map fun j => if j = i then v else f j := by
  apply List.ext_getElem?
  intro j
  rw [List.getElem?_set]
  by_cases e : i = j
  · subst e
    simp [h]
  · have e' : ¬ j = i := fun z => e z.symm
    simp only [e, if_false, List.getElem?_map]
    by_cases hj : j < n
    · simp [List.getElem?_range hj, e']
    · simp [hj]
theorem set_up {n i : Nat} {f : Nat → RG.Stn} {s : RG.Stn} (g : RG.Stn → V) (h : i < n) : ((List.range n).map fun j => g (f j)).set i (g s) = (List.range n).map fun j => g (RG.up f i s j) := by
  rw [set_range _ _ h]
  congr 1
  funext j
  unfold RG.up
  split <;> rfl
theorem tabs_upd {T : List (Addr × Str)} {H : Hp} {p : Addr} {o o' : HO} (t : LamX.Tabs T H) (h : H p = some o) (n1 : ∀ q, o ≠ .tbl q) (n2 : ∀ c q, o ≠ LamX.CodeO c q) : LamX.Tabs T (upd H p o') := fun x hx => by
  obtain ⟨ps, h1, h2, h3⟩ := t x hx
  refine ⟨ps, upd_at h1 (fun e => by rw [e, h] at h1; exact n1 _ (Option.some.inj h1)), h2, fun pos cv hc => ?_⟩
  obtain ⟨c, e, hc'⟩ := h3 pos cv hc
  exact ⟨c, e, upd_at hc' fun e => by rw [e, h] at hc'; exact n2 _ _ (Option.some.inj hc')⟩
theorem code_lst {c : Addr} {q : Str} (xs : List V) : HO.lst xs ≠ LamX.CodeO c q := fun z => by unfold LamX.CodeO at z; cases z
theorem code_dK {c : Addr} {q : Str} (xs : List (Key × V)) : HO.dK xs ≠ LamX.CodeO c q := fun z => by unfold LamX.CodeO at z; cases z
theorem BestN.up {p : Addr} {o o' : HO} {v : V} {b : Option (Int × Nat)} (h : BestN H v b) (hp : H p = some o) (n : ∀ ys, o ≠ .tup ys) : BestN (upd H p o') v b := by
  cases b with
  | none => exact h
  | some b => obtain ⟨a, e, h⟩ := h; exact ⟨a, e, up_t h hp n⟩
theorem LtAt.up {p q : Addr} {o o' : HO} {t : RG.Tok} (h : LtAt H q t) (hp : H p = some o) (n : ∀ ys, o ≠ .tup ys) (ne : q ≠ p) : LtAt (upd H p o') q t := by
  obtain ⟨st, bv, h1, h2, h3⟩ := h
  exact ⟨st, bv, upd_at h1 ne, up_t h2 hp n, h3.up hp n⟩
theorem each_up {α β : Type} {P P' : α → β → Prop} : ∀ {as : List α} {bs : List β}, PySem.W.EachIs P as bs → (∀ a b, a ∈ as → P a b → P' a b) → PySem.W.EachIs P' as bs
  | _, _, .nil, _ => .nil
  | _, _, .cons h t, k => .cons (k _ _ (List.mem_cons_self ..) h) (each_up t fun a b m => k a b (List.mem_cons_of_mem _ m))
/-- what stands at p may be changed -/
structure Chg (H : Hp) (p : Addr) (o : HO) : Prop where
  at_ : H p = some o
  nt : ∀ ys, o ≠ .tup ys
  nb : ∀ q, o ≠ .tbl q
  nc : ∀ c q, o ≠ LamX.CodeO c q
theorem Chg.lst {p : Addr} {xs : List V} (h : H p = some (.lst xs)) : Chg H p (.lst xs) := ⟨h, fun _ z => (nomatch z), fun _ z => (nomatch z), fun _ _ => code_lst _⟩
theorem Chg.dK {p : Addr} {xs : List (Key × V)} (h : H p = some (.dK xs)) : Chg H p (.dK xs) := ⟨h, fun _ z => (nomatch z), fun _ z => (nomatch z), fun _ _ => code_dK _⟩
theorem rl_upd {p : Addr} {o : HO} (r : Rl rl H) (n : ∀ q, o ≠ .tbl q) : Rl rl (upd H p o) := fun x hx => r x (hx.upd n)
variable {p : Addr} {o o' : HO}
theorem LwAt.kS (h : LwAt T rl H A R) (n : rl p ≠ 0) : upd H p o' A.S = some (.dK (lwF A R.time)) := up_r (rl := rl) h.hS (by rw [h.r0]; exact fun e => n e.symm)
theorem LwAt.kon (h : LwAt T rl H A R) (n : rl p ≠ 1) : upd H p o' A.on = some (lstN R.many fun i => .bl (R.st i).on) := up_r (rl := rl) h.hon (by rw [h.r1]; exact fun e => n e.symm)
theorem LwAt.kseen (h : LwAt T rl H A R) (n : rl p ≠ 2) : upd H p o' A.seen = some (lstN R.many fun i => .ref (A.sn i)) := up_r (rl := rl) h.hseen (by rw [h.r2]; exact fun e => n e.symm)
theorem LwAt.ksil (h : LwAt T rl H A R) (n : rl p ≠ 3) : upd H p o' A.sil = some (lstN R.many fun i => .int ((R.st i).sil : Int)) := up_r (rl := rl) h.hsil (by rw [h.r3]; exact fun e => n e.symm)
theorem LwAt.ktold (h : LwAt T rl H A R) (n : rl p ≠ 4) : upd H p o' A.told = some (lstN R.many fun i => .int ((R.st i).told : Int)) := up_r (rl := rl) h.htold (by rw [h.r4]; exact fun e => n e.symm)
theorem LwAt.kline (h : LwAt T rl H A R) (n : rl p ≠ 5) : upd H p o' A.line = some (lstN R.many fun i => .ref (A.ln i)) := up_r (rl := rl) h.hline (by rw [h.r5]; exact fun e => n e.symm)
theorem LwAt.ktok (h : LwAt T rl H A R) (n : rl p ≠ 951) : upd H p o' A.tok = some (.lst (A.tk.map V.ref)) := up_r (rl := rl) h.htok (by rw [h.r6]; exact fun e => n e.symm)
theorem LwAt.krow (h : LwAt T rl H A R) (n : rl p ≠ 7) : upd H p o' A.row = some (.lst A.rs) := up_r (rl := rl) h.hrow (by rw [h.r7]; exact fun e => n e.symm)
theorem LwAt.ksn (h : LwAt T rl H A R) (q : Chg H p o) : ∀ i, i < R.many → upd H p o' (A.sn i) = some (.tup [.int ((R.st i).seen.1 : Int), .int ((R.st i).seen.2 : Int)]) := fun i hi => up_t (h.hsn i hi) q.at_ q.nt
theorem LwAt.kln (h : LwAt T rl H A R) {i : Nat} (hi : i < R.many) (n : rl p ≠ 9 + i) : upd H p o' (A.ln i) = some (.lst ((A.ms i).map V.ref)) := up_r (rl := rl) (h.hln i hi) (by rw [h.rn i hi]; exact fun e => n e.symm)
theorem LwAt.kms (h : LwAt T rl H A R) (q : Chg H p o) {i : Nat} (hi : i < R.many) : PySem.W.EachIs (fun a (e : Int × Int) => upd H p o' a = some (.tup [.int e.1, .int e.2])) (A.ms i) (R.st i).line := (h.hms i hi).mono fun _ _ z => up_t z q.at_ q.nt
theorem LwAt.ktk (h : LwAt T rl H A R) (q : Chg H p o) (n : rl p ≠ 8) : PySem.W.EachIs (LtAt (upd H p o')) A.tk R.tk := each_up h.htk fun a b m z => z.up q.at_ q.nt fun e => n (by rw [← e]; exact h.rk a m)
theorem LwAt.krs (h : LwAt T rl H A R) (q : Chg H p o) : PySem.W.EachIs (fun v r => ∃ a, v = .ref a ∧ upd H p o' a = some (.tup (rwV r))) A.rs R.rw := h.hrs.mono fun _ _ ⟨a, e, z⟩ => ⟨a, e, up_t z q.at_ q.nt⟩
/-- one station's field is another one: what doesn't depend on it -/
theorem con {n : Nat} {f : Nat → RG.Stn} {i : Nat} {s : RG.Stn} (g : RG.Stn → V) (e : g s = g (f i)) : (some (lstN n fun j => g (f j)) : Option HO) = some (lstN n fun j => g (RG.up f i s j)) := congrArg (fun f => some (lstN n f)) (up_g g e).symm
theorem sn_up {f : Nat → RG.Stn} {i j : Nat} {s : RG.Stn} {H' : Hp} {a : Addr} (e : s.seen = (f i).seen) (h : H' a = some (.tup [.int ((f j).seen.1 : Int), .int ((f j).seen.2 : Int)])) : H' a = some (.tup [.int ((RG.up f i s j).seen.1 : Int), .int ((RG.up f i s j).seen.2 : Int)]) := by
  rw [up_j (fun s => s.seen) e j]; exact h
theorem ms_up {f : Nat → RG.Stn} {i j : Nat} {s : RG.Stn} {P : Addr → Int × Int → Prop} {as : List Addr} (e : s.line = (f i).line) (h : PySem.W.EachIs P as (f j).line) : PySem.W.EachIs P as (RG.up f i s j).line := by
  rw [up_j (fun s => s.line) e j]; exact h
theorem fin2 {x : Nat} {r : Nat} (h : rl p = x) (n : x ≠ r) : rl p ≠ r := by rw [h]; exact n
theorem LwAt.set_sil (h : LwAt T rl H A R) {i : Nat} {v : Nat} (hi : i < R.many) : LwAt T rl (upd H A.sil (.lst (((List.range R.many).map fun j => V.int ((R.st j).sil : Int)).set i (V.int (v : Int))))) A { R with st := RG.up R.st i { R.st i with sil := v } } := by
  have q := Chg.lst h.hsil
  have r := h.r3
  refine ⟨h.kS (fin2 r (by decide)), (h.kon (fin2 r (by decide))).trans (con (s := { R.st i with sil := v }) (fun s => V.bl s.on) rfl), h.kseen (fin2 r (by decide)), by rw [upd_same]; exact congrArg (fun l => some (HO.lst l)) (set_up (s := { R.st i with sil := v }) (fun s => V.int (s.sil : Int)) hi), (h.ktold (fin2 r (by decide))).trans (con (s := { R.st i with sil := v }) (fun s => V.int (s.told : Int)) rfl), h.kline (fin2 r (by decide)), h.ktok (fin2 r (by decide)), h.krow (fin2 r (by decide)), fun j hj => sn_up rfl (h.ksn q j hj), fun j hj => h.kln hj (fin2 r (by omega)), fun j hj => ms_up rfl (h.kms q hj), h.ktk q (fin2 r (by decide)), h.krs q,
    h.r0, h.r1, h.r2, h.r3, h.r4, h.r5, h.r6, h.r7, h.rk, h.rn, h.nd, rl_upd h.dfl fun _ z => (nomatch z), tabs_upd h.tab q.at_ q.nb q.nc, h.many⟩
theorem LwAt.set_told (h : LwAt T rl H A R) {i : Nat} {v : Nat} (hi : i < R.many) : LwAt T rl (upd H A.told (.lst (((List.range R.many).map fun j => V.int ((R.st j).told : Int)).set i (V.int (v : Int))))) A { R with st := RG.up R.st i { R.st i with told := v } } := by
  have q := Chg.lst h.htold
  have r := h.r4
  refine ⟨h.kS (fin2 r (by decide)), (h.kon (fin2 r (by decide))).trans (con (s := { R.st i with told := v }) (fun s => V.bl s.on) rfl), h.kseen (fin2 r (by decide)), (h.ksil (fin2 r (by decide))).trans (con (s := { R.st i with told := v }) (fun s => V.int (s.sil : Int)) rfl), by rw [upd_same]; exact congrArg (fun l => some (HO.lst l)) (set_up (s := { R.st i with told := v }) (fun s => V.int (s.told : Int)) hi), h.kline (fin2 r (by decide)), h.ktok (fin2 r (by decide)), h.krow (fin2 r (by decide)), fun j hj => sn_up rfl (h.ksn q j hj), fun j hj => h.kln hj (fin2 r (by omega)), fun j hj => ms_up rfl (h.kms q hj), h.ktk q (fin2 r (by decide)), h.krs q,
    h.r0, h.r1, h.r2, h.r3, h.r4, h.r5, h.r6, h.r7, h.rk, h.rn, h.nd, rl_upd h.dfl fun _ z => (nomatch z), tabs_upd h.tab q.at_ q.nb q.nc, h.many⟩
theorem LwAt.set_on (h : LwAt T rl H A R) {i : Nat} {v : Bool} (hi : i < R.many) : LwAt T rl (upd H A.on (.lst (((List.range R.many).map fun j => V.bl (R.st j).on).set i (V.bl v)))) A { R with st := RG.up R.st i { R.st i with on := v } } := by
  have q := Chg.lst h.hon
  have r := h.r1
  refine ⟨h.kS (fin2 r (by decide)), by rw [upd_same]; exact congrArg (fun l => some (HO.lst l)) (set_up (s := { R.st i with on := v }) (fun s => V.bl s.on) hi), h.kseen (fin2 r (by decide)), (h.ksil (fin2 r (by decide))).trans (con (s := { R.st i with on := v }) (fun s => V.int (s.sil : Int)) rfl), (h.ktold (fin2 r (by decide))).trans (con (s := { R.st i with on := v }) (fun s => V.int (s.told : Int)) rfl), h.kline (fin2 r (by decide)), h.ktok (fin2 r (by decide)), h.krow (fin2 r (by decide)), fun j hj => sn_up rfl (h.ksn q j hj), fun j hj => h.kln hj (fin2 r (by omega)), fun j hj => ms_up rfl (h.kms q hj), h.ktk q (fin2 r (by decide)), h.krs q,
    h.r0, h.r1, h.r2, h.r3, h.r4, h.r5, h.r6, h.r7, h.rk, h.rn, h.nd, rl_upd h.dfl fun _ z => (nomatch z), tabs_upd h.tab q.at_ q.nb q.nc, h.many⟩
theorem LwAt.set_seen (h : LwAt T rl H A R) {i : Nat} {p : RG.Stamp} {a : Addr} (hi : i < R.many) (ha : H a = some (.tup [.int (p.1 : Int), .int (p.2 : Int)])) : LwAt T rl (upd H A.seen (.lst (((List.range R.many).map fun j => V.ref (A.sn j)).set i (.ref a)))) { A with sn := fun j => if j = i then a else A.sn j } { R with st := RG.up R.st i { R.st i with seen := p } } := by
  have q := Chg.lst h.hseen
  have r := h.r2
  refine ⟨h.kS (fin2 r (by decide)), (h.kon (fin2 r (by decide))).trans (con (s := { R.st i with seen := p }) (fun s => V.bl s.on) rfl), ?_, (h.ksil (fin2 r (by decide))).trans (con (s := { R.st i with seen := p }) (fun s => V.int (s.sil : Int)) rfl), (h.ktold (fin2 r (by decide))).trans (con (s := { R.st i with seen := p }) (fun s => V.int (s.told : Int)) rfl), h.kline (fin2 r (by decide)), h.ktok (fin2 r (by decide)), h.krow (fin2 r (by decide)), fun j hj => ?_, fun j hj => h.kln hj (fin2 r (by omega)), fun j hj => ms_up rfl (h.kms q hj), h.ktk q (fin2 r (by decide)), h.krs q,
    h.r0, h.r1, h.r2, h.r3, h.r4, h.r5, h.r6, h.r7, h.rk, h.rn, h.nd, rl_upd h.dfl fun _ z => (nomatch z), tabs_upd h.tab q.at_ q.nb q.nc, h.many⟩
  · rw [upd_same, set_range _ _ hi]
    refine congrArg (fun f => some (lstN R.many f)) (funext fun j => ?_)
    show (if j = i then V.ref a else V.ref (A.sn j)) = V.ref (if j = i then a else A.sn j)
    split <;> rfl
  · show upd H A.seen _ (if j = i then a else A.sn j) = some (.tup [.int ((RG.up R.st i _ j).seen.1 : Int), .int ((RG.up R.st i _ j).seen.2 : Int)])
    unfold RG.up
    by_cases e : j = i
    · rw [if_pos e, if_pos e]
      exact up_t ha q.at_ q.nt
    · rw [if_neg e, if_neg e]
      exact h.ksn q j hj
theorem each_app {α β : Type} {P : α → β → Prop} : ∀ {as as' : List α} {bs bs' : List β}, PySem.W.EachIs P as bs → PySem.W.EachIs P as' bs' → PySem.W.EachIs P (as ++ as') (bs ++ bs')
  | _, _, _, _, .nil, h => h
  | _, _, _, _, .cons h t, k => .cons h (each_app t k)
/-- a row more -/
theorem LwAt.add_row (h : LwAt T rl H A R) {a : Addr} {x : RG.Rw} (ha : H a = some (.tup (rwV x))) : LwAt T rl (upd H A.row (.lst (A.rs ++ [.ref a]))) { A with rs := A.rs ++ [.ref a] } { R with rw := R.rw ++ [x] } := by
  have q := Chg.lst h.hrow
  have r := h.r7
  exact ⟨h.kS (fin2 r (by decide)), h.kon (fin2 r (by decide)), h.kseen (fin2 r (by decide)), h.ksil (fin2 r (by decide)), h.ktold (fin2 r (by decide)), h.kline (fin2 r (by decide)), h.ktok (fin2 r (by decide)), upd_same, h.ksn q, fun j hj => h.kln hj (fin2 r (by omega)), fun j hj => h.kms q hj, h.ktk q (fin2 r (by decide)), each_app (h.krs q) (.cons ⟨a, rfl, up_t ha q.at_ q.nt⟩ .nil),
    h.r0, h.r1, h.r2, h.r3, h.r4, h.r5, h.r6, h.r7, h.rk, h.rn, h.nd, rl_upd h.dfl fun _ z => (nomatch z), tabs_upd h.tab q.at_ q.nb q.nc, h.many⟩
/-- the time -/
theorem LwAt.set_time (h : LwAt T rl H A R) {t : Nat} : LwAt T rl (upd H A.S (.dK (lwF A t))) A { R with time := t } := by
  have q := Chg.dK h.hS
  have r := h.r0
  exact ⟨upd_same, h.kon (fin2 r (by decide)), h.kseen (fin2 r (by decide)), h.ksil (fin2 r (by decide)), h.ktold (fin2 r (by decide)), h.kline (fin2 r (by decide)), h.ktok (fin2 r (by decide)), h.krow (fin2 r (by decide)), h.ksn q, fun j hj => h.kln hj (fin2 r (by omega)), fun j hj => h.kms q hj, h.ktk q (fin2 r (by decide)), h.krs q,
    h.r0, h.r1, h.r2, h.r3, h.r4, h.r5, h.r6, h.r7, h.rk, h.rn, h.nd, rl_upd h.dfl fun _ z => (nomatch z), tabs_upd h.tab q.at_ q.nb q.nc, h.many⟩
/-- another list of tokens, at a place that has the role -/
theorem LwAt.set_tok (h : LwAt T rl H A R) {a : Addr} {as : List Addr} {ts : List RG.Tok} (ha : H a = some (.lst (as.map V.ref))) (hr : rl a = 951) (hts : PySem.W.EachIs (LtAt H) as ts) (hrk : ∀ p, p ∈ as → rl p = 8) (nd : as.Nodup) :
    LwAt T rl (upd H A.S (.dK (lwF { A with tok := a } R.time))) { A with tok := a, tk := as } { R with tk := ts } := by
  have q := Chg.dK h.hS
  have r := h.r0
  exact ⟨upd_same, h.kon (fin2 r (by decide)), h.kseen (fin2 r (by decide)), h.ksil (fin2 r (by decide)), h.ktold (fin2 r (by decide)), h.kline (fin2 r (by decide)), up_r (rl := rl) ha (by rw [hr, r]; decide), h.krow (fin2 r (by decide)), h.ksn q, fun j hj => h.kln hj (fin2 r (by omega)), fun j hj => h.kms q hj, each_up hts (fun b _ m z => z.up q.at_ q.nt fun e => by have := hrk b m; rw [e, r] at this; cases this), h.krs q,
    h.r0, h.r1, h.r2, h.r3, h.r4, h.r5, hr, h.r7, hrk, h.rn, nd, rl_upd h.dfl fun _ z => (nomatch z), tabs_upd h.tab q.at_ q.nb q.nc, h.many⟩
/-- the list of tokens itself, changed -/
theorem LwAt.cut_tok (h : LwAt T rl H A R) {as : List Addr} {ts : List RG.Tok} (hts : PySem.W.EachIs (LtAt H) as ts) (hrk : ∀ p, p ∈ as → rl p = 8) (nd : as.Nodup) :
    LwAt T rl (upd H A.tok (.lst (as.map V.ref))) { A with tk := as } { R with tk := ts } := by
  have q := Chg.lst h.htok
  have r := h.r6
  have hm := h.many
  exact ⟨h.kS (fin2 r (by decide)), h.kon (fin2 r (by decide)), h.kseen (fin2 r (by decide)), h.ksil (fin2 r (by decide)), h.ktold (fin2 r (by decide)), h.kline (fin2 r (by decide)), upd_same, h.krow (fin2 r (by decide)), h.ksn q, fun j hj => h.kln hj (fin2 r (by have hj' : j < R.many := hj; omega)), fun j hj => h.kms q hj, each_up hts (fun b _ m z => z.up q.at_ q.nt fun e => by have := hrk b m; rw [e, r] at this; cases this), h.krs q,
    h.r0, h.r1, h.r2, h.r3, h.r4, h.r5, h.r6, h.r7, hrk, h.rn, nd, rl_upd h.dfl fun _ z => (nomatch z), tabs_upd h.tab q.at_ q.nb q.nc, h.many⟩
/-- a station's row of messages -/
theorem LwAt.set_line (h : LwAt T rl H A R) {i : Nat} {as : List Addr} {l : List (Int × Int)} (hi : i < R.many) (hl : PySem.W.EachIs (fun a (e : Int × Int) => H a = some (.tup [.int e.1, .int e.2])) as l) :
    LwAt T rl (upd H (A.ln i) (.lst (as.map V.ref))) { A with ms := fun j => if j = i then as else A.ms j } { R with st := RG.up R.st i { R.st i with line := l } } := by
  have q := Chg.lst (h.hln i hi)
  have r := h.rn i hi
  have hm := h.many
  refine ⟨h.kS (fin2 r (by omega)), (h.kon (fin2 r (by omega))).trans (con (s := { R.st i with line := l }) (fun s => V.bl s.on) rfl), h.kseen (fin2 r (by omega)), (h.ksil (fin2 r (by omega))).trans (con (s := { R.st i with line := l }) (fun s => V.int (s.sil : Int)) rfl), (h.ktold (fin2 r (by omega))).trans (con (s := { R.st i with line := l }) (fun s => V.int (s.told : Int)) rfl), h.kline (fin2 r (by omega)), h.ktok (fin2 r (by omega)), h.krow (fin2 r (by omega)), fun j hj => sn_up rfl (h.ksn q j hj), fun j hj => ?_, fun j hj => ?_, h.ktk q (fin2 r (by omega)), h.krs q,
    h.r0, h.r1, h.r2, h.r3, h.r4, h.r5, h.r6, h.r7, h.rk, h.rn, h.nd, rl_upd h.dfl fun _ z => (nomatch z), tabs_upd h.tab q.at_ q.nb q.nc, h.many⟩
  · show upd H (A.ln i) _ (A.ln j) = some (.lst ((if j = i then as else A.ms j).map V.ref))
    by_cases e : j = i
    · subst e
      rw [if_pos rfl, upd_same]
    · rw [if_neg e]
      exact h.kln hj (fin2 r (by omega))
  · show PySem.W.EachIs _ (if j = i then as else A.ms j) (RG.up R.st i _ j).line
    unfold RG.up
    by_cases e : j = i
    · rw [if_pos e, if_pos e]
      exact hl.mono fun _ _ z => up_t z q.at_ q.nt
    · rw [if_neg e, if_neg e]
      exact h.kms q hj
/-- a place gets a role -/
theorem LwAt.role (h : LwAt T rl H A R) {a : Addr} {n : Nat} {H' : Hp} (s : Same H H') (ha : H a = none) (ha' : ¬ NoO H' a) : LwAt T (rlN rl a n) H' A R := by
  have g : ∀ x, ¬ NoO H x → rlN rl a n x = rl x := fun x hx => rlN_ne rl n fun e => hx (by rw [e]; exact .inl ha)
  have e : ∀ {b xs}, H b = some (.lst xs) → rlN rl a n b = rl b := fun {b xs} q => g b (yesO q fun _ z => (nomatch z))
  have hm := h.mono s
  exact ⟨hm.hS, hm.hon, hm.hseen, hm.hsil, hm.htold, hm.hline, hm.htok, hm.hrow, hm.hsn, hm.hln, hm.hms, hm.htk, hm.hrs, (g _ (yesO h.hS fun _ z => (nomatch z))).trans h.r0, (e h.hon).trans h.r1, (e h.hseen).trans h.r2, (e h.hsil).trans h.r3, (e h.htold).trans h.r4, (e h.hline).trans h.r5, (e h.htok).trans h.r6, (e h.hrow).trans h.r7,
    fun p m => (g p (by
      obtain ⟨b, _, hb⟩ := h.htk.left p m
      obtain ⟨_, _, z, _⟩ := hb
      exact yesO z fun _ z => (nomatch z))).trans (h.rk p m), fun i hi => (e (h.hln i hi)).trans (h.rn i hi), h.nd, h.dfl.new (fun x z => z.same s) ha', hm.tab, h.many⟩
end
/-! ### the same as steps of a reading -/
theorem lst_at {n : Nat} (f : Nat → V) {i : Nat} (h : i < n) : atI ((List.range n).map f) (i : Int) = some (f i) := atI_nat (j := i) (by rw [List.getElem?_map, List.getElem?_range h]; rfl)
theorem lst_len {n : Nat} (f : Nat → V) {i : Nat} (h : i < n) : i < ((List.range n).map f).length := by rw [List.length_map, List.length_range]; exact h
/-- the same places -/
structure SmA (A A' : LwA) : Prop where
  S : A'.S = A.S
  tk : A'.tk = A.tk
  ln : A'.ln = A.ln
  row : A'.row = A.row
  tok : A'.tok = A.tok
theorem SmA.refl (A : LwA) : SmA A A := ⟨rfl, rfl, rfl, rfl, rfl⟩
theorem SmA.trans {A B C : LwA} (a : SmA A B) (b : SmA B C) : SmA A C := ⟨b.S.trans a.S, b.tk.trans a.tk, b.ln.trans a.ln, b.row.trans a.row, b.tok.trans a.tok⟩
def stS (R : RG.Ring) (i : Nat) (s : RG.Stn) : RG.Ring := { R with st := RG.up R.st i s }
theorem stS_stS {R : RG.Ring} {i : Nat} {s s' : RG.Stn} : stS (stS R i s) i s' = stS R i s' := by
  unfold stS
  congr 1
  funext j
  simp only
  unfold RG.up
  split <;> rfl
theorem stS_at {R : RG.Ring} {i : Nat} {s : RG.Stn} : (stS R i s).st i = s := if_pos rfl
theorem Mv.tup {lo hi : Nat} {rl rl' : Addr → Nat} {H H' : Hp} {a : Addr} {xs : List V} (m : Mv lo hi rl H rl' H') (e : H a = some (.tup xs)) : H' a = some (.tup xs) := m.kp a _ e (.inl ⟨xs, rfl⟩) fun _ z => (nomatch z)
section
variable {T : List (Addr × Str)} {rl : Addr → Nat} {H : Hp} {A : LwA} {R : RG.Ring} {i : Nat} {N : Hp → Prop} {Q : VK}
theorem LwAt.w_sil (h : LwAt T rl H A R) {v : Nat} (hi : i < R.many) (k : ∀ H', LwAt T rl H' A (stS R i { R.st i with sil := v }) → Mv 0 900 rl H rl H' → N H') : rSetL (.ref A.sil) (.int (i : Int)) (.int (v : Int)) H N :=
  w_setL h.hsil rfl (lst_len _ hi) (k _ (h.set_sil hi) (.upd h.hsil (fun _ z => (nomatch z)) (by rw [h.r3]; decide) (by rw [h.r3]; decide) fun _ z => (nomatch z)))
theorem LwAt.w_told (h : LwAt T rl H A R) {v : Nat} (hi : i < R.many) (k : ∀ H', LwAt T rl H' A (stS R i { R.st i with told := v }) → Mv 0 900 rl H rl H' → N H') : rSetL (.ref A.told) (.int (i : Int)) (.int (v : Int)) H N :=
  w_setL h.htold rfl (lst_len _ hi) (k _ (h.set_told hi) (.upd h.htold (fun _ z => (nomatch z)) (by rw [h.r4]; decide) (by rw [h.r4]; decide) fun _ z => (nomatch z)))
theorem LwAt.w_on (h : LwAt T rl H A R) {v : Bool} (hi : i < R.many) (k : ∀ H', LwAt T rl H' A (stS R i { R.st i with on := v }) → Mv 0 900 rl H rl H' → N H') : rSetL (.ref A.on) (.int (i : Int)) (.bl v) H N :=
  w_setL h.hon rfl (lst_len _ hi) (k _ (h.set_on hi) (.upd h.hon (fun _ z => (nomatch z)) (by rw [h.r1]; decide) (by rw [h.r1]; decide) fun _ z => (nomatch z)))
theorem LwAt.w_seen (h : LwAt T rl H A R) {p : RG.Stamp} {a : Addr} (hi : i < R.many) (ha : H a = some (.tup [.int (p.1 : Int), .int (p.2 : Int)])) (k : ∀ A' H', SmA A A' → LwAt T rl H' A' (stS R i { R.st i with seen := p }) → Mv 0 900 rl H rl H' → N H') : rSetL (.ref A.seen) (.int (i : Int)) (.ref a) H N :=
  w_setL h.hseen rfl (lst_len _ hi) (k { A with sn := fun j => if j = i then a else A.sn j } _ ⟨rfl, rfl, rfl, rfl, rfl⟩ (h.set_seen hi ha) (.upd h.hseen (fun _ z => (nomatch z)) (by rw [h.r2]; decide) (by rw [h.r2]; decide) fun _ z => (nomatch z)))
theorem LwAt.rs_len (h : LwAt T rl H A R) : A.rs.length = R.rw.length := h.hrs.length
theorem LwAt.tk_len (h : LwAt T rl H A R) : A.tk.length = R.tk.length := h.htk.length
theorem LwAt.w_row (h : LwAt T rl H A R) {a : Addr} {x : RG.Rw} (ha : H a = some (.tup (rwV x))) (hl : R.rw.length ≤ 1000000) (k : ∀ A' H', SmA A A' → LwAt T rl H' A' { R with rw := R.rw ++ [x] } → Mv 0 900 rl H rl H' → Q .non H') : rAppend (.ref A.row) [.ref a] H Q :=
  w_append h.hrow (Nat.lt_of_le_of_lt (show _ ≤ 1000000 by rw [h.rs_len]; exact hl) (by decide)) (k { A with rs := A.rs ++ [.ref a] } _ ⟨rfl, rfl, rfl, rfl, rfl⟩ (h.add_row ha) (.upd h.hrow (fun _ z => (nomatch z)) (by rw [h.r7]; decide) (by rw [h.r7]; decide) fun _ z => (nomatch z)))
theorem LwAt.w_time (h : LwAt T rl H A R) {t : Nat} (k : ∀ H', LwAt T rl H' A { R with time := t } → Mv 0 900 rl H rl H' → N H') : dputK (.ref A.S) (.str "time") (.int (t : Int)) H N :=
  w_dputK h.hS (by show 8 < sizeLine; decide) (k _ h.set_time (.upd h.hS (fun _ z => (nomatch z)) (by rw [h.r0]; decide) (by rw [h.r0]; decide) fun _ z => (nomatch z)))
theorem LwAt.w_tok (h : LwAt T rl H A R) {a : Addr} {as : List Addr} {ts : List RG.Tok} (ha : H a = some (.lst (as.map V.ref))) (hr : rl a = 951) (hts : PySem.W.EachIs (LtAt H) as ts) (hrk : ∀ p, p ∈ as → rl p = 8) (nd : as.Nodup)
    (k : ∀ A' H', A'.S = A.S → A'.tk = as → (∀ b, b ≠ A.S → H' b = H b) → LwAt T rl H' A' { R with tk := ts } → Mv 0 900 rl H rl H' → N H') : dputK (.ref A.S) (.str "tokens") (.ref a) H N :=
  w_dputK h.hS (by show 8 < sizeLine; decide) (k { A with tok := a, tk := as } _ rfl rfl (fun b n => upd_ne n) (h.set_tok ha hr hts hrk nd) (.upd h.hS (fun _ z => (nomatch z)) (by rw [h.r0]; decide) (by rw [h.r0]; decide) fun _ z => (nomatch z)))
/-- what is none of the walk's own -/
theorem LwAt.other (h : LwAt T rl H A R) {p : Addr} {o o' : HO} (q : Chg H p o) (hr : 900 ≤ rl p) (ht : A.tok ≠ p) (n : ∀ z, o' ≠ .tbl z) : LwAt T rl (upd H p o') A R := by
  have r : ∀ x, x < 900 → rl p ≠ x := fun x hx e => by omega
  have hm := h.many
  exact ⟨h.kS (r _ (by decide)), h.kon (r _ (by decide)), h.kseen (r _ (by decide)), h.ksil (r _ (by decide)), h.ktold (r _ (by decide)), h.kline (r _ (by decide)), upd_at h.htok ht, h.krow (r _ (by decide)), h.ksn q, fun j hj => h.kln hj (r _ (by omega)), fun j hj => h.kms q hj, h.ktk q (r _ (by decide)), h.krs q,
    h.r0, h.r1, h.r2, h.r3, h.r4, h.r5, h.r6, h.r7, h.rk, h.rn, h.nd, fun x hx => h.dfl x (hx.upd n), tabs_upd h.tab q.at_ q.nb q.nc, h.many⟩
theorem LwAt.mv_other {p : Addr} {o o' : HO} (q : Chg H p o) (hr : 900 ≤ rl p) (hr' : rl p < 1000) (n : ∀ z, o' ≠ .tbl z) : Mv 0 1000 rl H rl (upd H p o') := .upd q.at_ q.nt (Nat.zero_le _) hr' n
/-- a new object that gets a role -/
theorem LwAt.w_role (h : LwAt T rl H A R) {a : Addr} (n : Nat) {H' : Hp} {o : HO} (s : Same H H') (ha : H a = none) (e : H' a = some o) (no : ∀ q, o ≠ .tbl q) : LwAt T (rlN rl a n) H' A R ∧ Mv 0 900 rl H (rlN rl a n) H' ∧ rlN rl a n a = n :=
  ⟨h.role s ha (yesO e no), .role s ha, rlN_at rl a n⟩
end
/-! ### one token's dict -/
section
variable {T : List (Addr × Str)} {rl : Addr → Nat} {H : Hp} {A : LwA} {R : RG.Ring} {i : Nat} {N : Hp → Prop} {Q : VK}
theorem each_get {α β : Type} {P : α → β → Prop} : ∀ {as : List α} {bs : List β} {k : Nat} {a : α}, PySem.W.EachIs P as bs → as[k]? = some a → ∃ b, bs[k]? = some b ∧ P a b
  | _, _, _, _, .nil, h => by simp at h
  | _, _, 0, _, .cons h _, e => by simp at e; subst e; exact ⟨_, rfl, h⟩
  | _, _, k + 1, _, .cons _ t, e => by
    obtain ⟨b, h1, h2⟩ := each_get (k := k) t (by simpa using e)
    exact ⟨b, by simpa using h1, h2⟩
theorem each_set {α β : Type} {P P' : α → β → Prop} : ∀ {as : List α} {bs : List β} {k : Nat} {a : α} {b' : β}, PySem.W.EachIs P as bs → as.Nodup → as[k]? = some a → P' a b' → (∀ x y, x ≠ a → P x y → P' x y) → PySem.W.EachIs P' as (bs.set k b')
  | _, _, _, _, _, .nil, _, h, _, _ => by simp at h
  | _, _, 0, _, _, .cons h t, nd, e, hp, k => by
    simp at e
    subst e
    rw [List.nodup_cons] at nd
    rw [List.set_cons_zero]
    exact .cons hp (each_up t fun x y m z => k x y (fun q => nd.1 (by rw [← q]; exact m)) z)
  | _, _, n + 1, a, _, .cons (a := a0) h t, nd, e, hp, k => by
    rw [List.nodup_cons] at nd
    rw [List.set_cons_succ]
    have e' := show _ = _ from by simpa using e
    exact .cons (k _ _ (fun q => nd.1 (by rw [q]; exact List.mem_of_getElem? e')) h) (each_set t nd.2 e' hp k)
theorem LwAt.set_one (h : LwAt T rl H A R) {k : Nat} {p : Addr} {t' : RG.Tok} {st : Addr} {bv : V} (hk : A.tk[k]? = some p) (h1 : H st = some (.tup [.int (t'.sp.1 : Int), .int (t'.sp.2 : Int)])) (h2 : BestN H bv t'.best) :
    LwAt T rl (upd H p (.dK (ltF st t'.pl (oN t'.win) bv))) A { R with tk := R.tk.set k t' } := by
  obtain ⟨t, ht, st0, bv0, hp, _, _⟩ := each_get h.htk hk
  have q := Chg.dK hp
  have r := h.rk p (List.mem_of_getElem? hk)
  exact ⟨h.kS (fin2 r (by decide)), h.kon (fin2 r (by decide)), h.kseen (fin2 r (by decide)), h.ksil (fin2 r (by decide)), h.ktold (fin2 r (by decide)), h.kline (fin2 r (by decide)), h.ktok (fin2 r (by decide)), h.krow (fin2 r (by decide)), h.ksn q, fun j hj => h.kln hj (fin2 r (by omega)), fun j hj => h.kms q hj,
    each_set h.htk h.nd hk ⟨st, bv, upd_same, up_t h1 q.at_ q.nt, h2.up q.at_ q.nt⟩ (fun x y ne z => z.up q.at_ q.nt ne), h.krs q,
    h.r0, h.r1, h.r2, h.r3, h.r4, h.r5, h.r6, h.r7, h.rk, h.rn, h.nd, rl_upd h.dfl fun _ z => (nomatch z), tabs_upd h.tab q.at_ q.nb q.nc, h.many⟩
def setT (R : RG.Ring) (k : Nat) (t : RG.Tok) : RG.Ring := { R with tk := R.tk.set k t }
theorem LwAt.mv_tk (h : LwAt T rl H A R) {k : Nat} {p : Addr} {o' : HO} (hk : A.tk[k]? = some p) (n : ∀ q, o' ≠ .tbl q) : Mv 0 900 rl H rl (upd H p o') := by
  obtain ⟨t, ht, st0, bv0, hp, _, _⟩ := each_get h.htk hk
  have r := h.rk p (List.mem_of_getElem? hk)
  exact .upd hp (fun _ z => (nomatch z)) (by rw [r]; decide) (by rw [r]; decide) n
theorem LwAt.w_at (h : LwAt T rl H A R) {k : Nat} {p : Addr} {t : RG.Tok} {v : Nat} (hk : A.tk[k]? = some p) (ht : R.tk[k]? = some t) (c : ∀ H', LwAt T rl H' A (setT R k { t with pl := v }) → Mv 0 900 rl H rl H' → N H') : dputK (.ref p) (.str "at") (.int (v : Int)) H N := by
  obtain ⟨t', ht', st0, bv0, hp, h1, h2⟩ := each_get h.htk hk
  rw [ht] at ht'
  cases ht'
  exact w_dputK hp (by show 4 < sizeLine; decide) (c _ (h.set_one (t' := { t with pl := v }) hk h1 h2) (h.mv_tk hk fun _ z => (nomatch z)))
theorem LwAt.w_win (h : LwAt T rl H A R) {k : Nat} {p : Addr} {t : RG.Tok} {v : Option Nat} (hk : A.tk[k]? = some p) (ht : R.tk[k]? = some t) (c : ∀ H', LwAt T rl H' A (setT R k { t with win := v }) → Mv 0 900 rl H rl H' → N H') : dputK (.ref p) (.str "winner") (oN v) H N := by
  obtain ⟨t', ht', st0, bv0, hp, h1, h2⟩ := each_get h.htk hk
  rw [ht] at ht'
  cases ht'
  exact w_dputK hp (by show 4 < sizeLine; decide) (c _ (h.set_one (t' := { t with win := v }) hk h1 h2) (h.mv_tk hk fun _ z => (nomatch z)))
theorem LwAt.w_best (h : LwAt T rl H A R) {k : Nat} {p : Addr} {t : RG.Tok} {v : Option (Int × Nat)} {bv : V} (hk : A.tk[k]? = some p) (ht : R.tk[k]? = some t) (hb : BestN H bv v) (c : ∀ H', LwAt T rl H' A (setT R k { t with best := v }) → Mv 0 900 rl H rl H' → N H') : dputK (.ref p) (.str "best") bv H N := by
  obtain ⟨t', ht', st0, bv0, hp, h1, h2⟩ := each_get h.htk hk
  rw [ht] at ht'
  cases ht'
  exact w_dputK hp (by show 4 < sizeLine; decide) (c _ (h.set_one (t' := { t with best := v }) hk h1 hb) (h.mv_tk hk fun _ z => (nomatch z)))
theorem LwAt.tok (h : LwAt T rl H A R) {k : Nat} {p : Addr} {t : RG.Tok} (hk : A.tk[k]? = some p) (ht : R.tk[k]? = some t) : LtAt H p t := by
  obtain ⟨t', ht', z⟩ := each_get h.htk hk
  rw [ht] at ht'
  cases ht'
  exact z
theorem setT_self {R : RG.Ring} {k : Nat} {t : RG.Tok} (h : R.tk[k]? = some t) : setT R k t = R := by
  unfold setT
  have : R.tk.set k t = R.tk := by
    apply List.ext_getElem?
    intro j
    rw [List.getElem?_set]
    split
    · next e => subst e; split <;> simp_all
    · rfl
  rw [this]
theorem setT_at {R : RG.Ring} {k : Nat} {t t' : RG.Tok} (h : R.tk[k]? = some t) : (setT R k t').tk[k]? = some t' := by
  have : k < R.tk.length := (List.getElem?_eq_some_iff.mp h).1
  show (R.tk.set k t')[k]? = some t'
  rw [List.getElem?_set]
  simp [this]
theorem setT_setT {R : RG.Ring} {k : Nat} {t t' : RG.Tok} : setT (setT R k t) k t' = setT R k t' := by
  unfold setT
  simp
theorem LwAt.w_line (h : LwAt T rl H A R) {as : List Addr} {l : List (Int × Int)} (hi : i < R.many) (hl : PySem.W.EachIs (fun a (e : Int × Int) => H a = some (.tup [.int e.1, .int e.2])) as l) : ∃ A', SmA A A' ∧ A'.ms i = as ∧ LwAt T rl (upd H (A.ln i) (.lst (as.map V.ref))) A' (stS R i { R.st i with line := l }) ∧ Mv 0 900 rl H rl (upd H (A.ln i) (.lst (as.map V.ref))) :=
  ⟨{ A with ms := fun j => if j = i then as else A.ms j }, ⟨rfl, rfl, rfl, rfl, rfl⟩, (if_pos rfl), (h.set_line hi hl), (.upd (h.hln i hi) (fun _ z => (nomatch z)) (by rw [h.rn i hi]; omega) (by rw [h.rn i hi]; have := h.many; omega) fun _ z => (nomatch z))⟩
end
/-! two pairs of ints, one < the other -/
def rLtP (K : PySem.W.Frag) : R2 := fun x y H Q => ∃ (a b : Addr) (n m n' m' : Int), x = .ref a ∧ y = .ref b ∧ SqT K H a [.int n, .int m] ∧ SqT K H b [.int n', .int m'] ∧ Q (.bl (gr n' m' n m)) H
theorem op_ltP {X : Cx} (hu : X.A.units + 64 < cLine) : OpR X (compareOp .Lt) (rLtP X.K) := by
  intro pins s σ H x y v u Q I rx ry h
  obtain ⟨a, b, n, m, n', m', rfl, rfl, ha, hb, q⟩ := h
  have d1 : Dp X.K H (.ref a) (.tuple [.int n, .int m]) := .tup ha (.cons (.int n) (.cons (.int m) .nil))
  have d2 : Dp X.K H (.ref b) (.tuple [.int n', .int m']) := .tup hb (.cons (.int n') (.cons (.int m') .nil))
  obtain ⟨as, r1⟩ := Dp.reads I _ _ v d1 rx
  obtain ⟨bs, r2⟩ := Dp.reads I _ _ u d2 ry
  refine PySem.W.lt_data r1 r2 (by simp [PySem.W.alike, PySem.W.alikeAll]) (fun z => nomatch z) ?_ ?_
  · have : min (PyData.depth (.tuple [.int n, .int m])) (PyData.depth (.tuple [.int n', .int m'])) ≤ 64 := by
      simp [PyData.depth, PyData.depthAll]
    omega
  · rw [gr_lt]
    exact ⟨.bl _, H, I, rfl, q⟩
/-! ### the walk's step -/
def accOf (R : RG.Ring) (n : Nat) : RG.Acc := (R.tk.take n).foldl (RG.goTok R.many (R.time + 1)) (RG.acc0 R)
/-- the ring as it stands in the heap while the tokens go: ts, what has become of all tokens -/
def goR (R : RG.Ring) (n : Nat) (ts : List RG.Tok) : RG.Ring := { many := R.many, time := R.time + 1, st := (accOf R n).st, tk := ts, rw := (accOf R n).rw }
theorem acc_succ {R : RG.Ring} {n : Nat} {t : RG.Tok} (h : R.tk[n]? = some t) : accOf R (n + 1) = RG.goTok R.many (R.time + 1) (accOf R n) t := by
  unfold accOf
  rw [List.take_add_one, h, List.foldl_append]
  rfl
theorem go_rows (many time : Nat) (a : RG.Acc) (t : RG.Tok) : (RG.goTok many time a t).rw.length ≤ a.rw.length + 1 := by
  unfold RG.goTok
  dsimp only
  split
  · simp
  · rw [List.length_append]
    unfold RG.sends
    dsimp only
    split
    · simp
    · split <;> simp
theorem acc_rows (R : RG.Ring) : ∀ n : Nat, (accOf R n).rw.length ≤ R.rw.length + n
  | 0 => Nat.le_refl _
  | n + 1 => by
    have ih := acc_rows R n
    cases h : R.tk[n]? with
    | none =>
      have : accOf R (n + 1) = accOf R n := by
        unfold accOf
        rw [List.take_add_one, h]
        simp
      rw [this]
      omega
    | some t =>
      rw [acc_succ h]
      have := go_rows R.many (R.time + 1) (accOf R n) t
      omega
theorem acc_gi {R : RG.Ring} (W : RG.WF R) : ∀ n : Nat, n ≤ R.tk.length → RG.GI R (R.tk.take n) (accOf R n)
  | 0, _ => RG.GI.start W
  | n + 1, h => by
    have ih := acc_gi W n (by omega)
    have ht : R.tk[n]? = some R.tk[n] := List.getElem?_eq_getElem (by omega)
    rw [acc_succ ht, List.take_add_one, ht]
    refine RG.GI.step W (d := R.tk.take n) (r := R.tk.drop (n + 1)) ?_ ih
    have := (List.take_append_drop n R.tk).symm
    rw [List.drop_eq_getElem_cons (by omega)] at this
    exact this
theorem acc_line {R : RG.Ring} {done : List RG.Tok} {a : RG.Acc} (g : RG.GI R done a) (i : Nat) : (a.st i).line.length ≤ (R.st i).line.length := by
  rcases g.line i with h | ⟨e, h⟩
  · rw [h]; exact Nat.le_refl _
  · rw [h, List.length_cons]; exact Nat.le_succ _
theorem gr_slt (a b : RG.Stamp) : gr (b.1 : Int) (b.2 : Int) (a.1 : Int) (a.2 : Int) = RG.slt a b := by
  unfold gr RG.slt
  by_cases h : (b.1 : Int) = (a.1 : Int)
  · rw [if_pos h]
    exact decide_eq_decide.mpr (by omega)
  · rw [if_neg h]
    exact decide_eq_decide.mpr (by omega)
theorem set_upB {n i : Nat} {f : Nat → Bool} {b : Bool} (h : i < n) : ((List.range n).map fun j => V.bl (f j)).set i (.bl b) = (List.range n).map fun j => V.bl (RG.up f i b j) := by
  rw [set_range _ _ h]
  congr 1
  funext j
  unfold RG.up
  split <;> rfl
/-- the kept ones: their places, what they are now -/
structure Kept (as : List Addr) (ts : List RG.Tok) (n : Nat) (ks : List Addr) (left : List RG.Tok) : Prop where
  ea : PySem.W.EachIs (fun p t => ∃ j, j < n ∧ as[j]? = some p ∧ ts[j]? = some t) ks left
  nd : ks.Nodup
theorem Kept.next {as ks : List Addr} {ts left : List RG.Tok} {n : Nat} (h : Kept as ts n ks left) : Kept as ts (n + 1) ks left := ⟨h.ea.mono fun _ _ ⟨j, h1, h2⟩ => ⟨j, Nat.lt_succ_of_lt h1, h2⟩, h.nd⟩
theorem nodup_at {as : List Addr} (nd : as.Nodup) {i j : Nat} {p : Addr} (hi : as[i]? = some p) (hj : as[j]? = some p) : i = j := by
  obtain ⟨h1, e1⟩ := List.getElem?_eq_some_iff.mp hi
  obtain ⟨h2, e2⟩ := List.getElem?_eq_some_iff.mp hj
  exact (List.getElem_inj nd).mp (e1.trans e2.symm)
theorem Kept.add {as ks : List Addr} {ts left : List RG.Tok} {n : Nat} {p : Addr} {t' : RG.Tok} (h : Kept as ts n ks left) (nd : as.Nodup) (hp : as[n]? = some p) (hl : n < ts.length) : Kept as (ts.set n t') (n + 1) (ks ++ [p]) (left ++ [t']) := by
  have a1 : PySem.W.EachIs (fun p t => ∃ j, j < n + 1 ∧ as[j]? = some p ∧ (ts.set n t')[j]? = some t) ks left := h.ea.mono fun q u ⟨j, h1, h2, h3⟩ => ⟨j, Nat.lt_succ_of_lt h1, h2, by
    rw [List.getElem?_set, if_neg (by omega)]
    exact h3⟩
  have a2 : (ts.set n t')[n]? = some t' := by
    rw [List.getElem?_set]
    simp [hl]
  refine ⟨each_app a1 (.cons ⟨n, Nat.lt_succ_self n, hp, a2⟩ .nil), ?_⟩
  rw [List.nodup_append]
  refine ⟨h.nd, by simp, fun a ha b hb e => ?_⟩
  cases List.mem_singleton.mp hb
  obtain ⟨_, _, j, h1, h2, _⟩ := h.ea.left a ha
  rw [e] at h2
  have := nodup_at nd h2 hp
  omega
theorem rep_flat (n : Nat) (v : V) : (List.replicate n [v]).flatten = (List.range n).map fun _ => v := by
  induction n with
  | zero => rfl
  | succ n ih => rw [List.replicate_succ', List.flatten_append, ih, List.range_succ, List.map_append]; rfl
/-- the stations from 0 to k - 1 have counted -/
def silK (a : RG.Acc) (k : Nat) : Nat → RG.Stn := fun i => if i < k then RG.silent a i else a.st i
theorem silK_up (a : RG.Acc) (k : Nat) : RG.up (silK a k) k (RG.silent a k) = silK a (k + 1) := by
  funext j
  unfold RG.up silK
  by_cases h : j = k
  · subst h
    rw [if_pos rfl, if_pos (Nat.lt_succ_self _)]
  · rw [if_neg h]
    by_cases h2 : j < k
    · rw [if_pos h2, if_pos (by omega)]
    · rw [if_neg h2, if_neg (by omega)]
theorem accOf_all (R : RG.Ring) : accOf R R.tk.length = RG.went R := by
  unfold accOf RG.went
  rw [List.take_length]
def rsN (R : RG.Ring) (n : Nat) : RG.Ring := (List.range n).foldl RG.bornIf (RG.moved R)
theorem rsN_succ (R : RG.Ring) (n : Nat) : rsN R (n + 1) = RG.bornIf (rsN R n) n := by
  unfold rsN
  rw [List.range_succ, List.foldl_append]
  rfl
theorem ins_len (t : RG.Tok) : ∀ l : List RG.Tok, (RG.insTok t l).length = l.length + 1
  | [] => rfl
  | u :: l => by
    rw [RG.insTok]
    split
    · rfl
    · rw [List.length_cons, ins_len t l, List.length_cons]
theorem bornIf_few (R : RG.Ring) (i : Nat) : (RG.bornIf R i).tk.length ≤ R.tk.length + 1 ∧ (RG.bornIf R i).rw.length ≤ R.rw.length + 1 := by
  unfold RG.bornIf
  split
  · unfold RG.born
    dsimp only
    rw [ins_len, List.length_append]
    exact ⟨Nat.le_refl _, Nat.le_refl _⟩
  · exact ⟨Nat.le_succ _, Nat.le_succ _⟩
theorem rsN_facts {R : RG.Ring} (W : RG.WF R) : ∀ n : Nat, n ≤ R.many → (rsN R n).many = R.many ∧ RG.WF (rsN R n) ∧ (rsN R n).tk.length ≤ R.tk.length + n ∧ (rsN R n).rw.length ≤ R.rw.length + R.tk.length + n ∧ (∀ i, ((rsN R n).st i).line.length ≤ (R.st i).line.length) ∧ (rsN R n).time = R.time + 1
  | 0, _ => by
    have g := RG.GI.all W
    refine ⟨rfl, W.moved, ?_, ?_, fun i => acc_line g i, rfl⟩
    · show (RG.went R).left.length ≤ _
      have := g.sub.length_le
      rw [List.length_map, List.length_map] at this
      exact this
    · have := acc_rows R R.tk.length
      rw [accOf_all] at this
      exact this
  | n + 1, h => by
    obtain ⟨h1, h2, h3, h4, h5, h6⟩ := rsN_facts W n (by omega)
    rw [rsN_succ]
    have f := bornIf_few (rsN R n) n
    refine ⟨by rw [RG.bornIf_many]; exact h1, h2.bornIf (by rw [h1]; omega), by omega, by omega, fun i => ?_, ?_⟩
    · rw [(RG.bornIf_st (rsN R n) n i).2.1]
      exact h5 i
    · unfold RG.bornIf
      split
      · exact h6
      · exact h6
/-- the ring behind a token's serving -/
def sent1 (R : RG.Ring) (here : Nat) (t : RG.Tok) : RG.Tok × RG.Stn × List RG.Rw := RG.sends R.time here (RG.arrive t here) (R.st here)
def srvd (R : RG.Ring) (k here : Nat) (t : RG.Tok) : RG.Ring :=
  { many := R.many, time := R.time, st := RG.up R.st here (RG.tells here (sent1 R here t).1 (sent1 R here t).2.1).2, tk := R.tk.set k (RG.tells here (sent1 R here t).1 (sent1 R here t).2.1).1, rw := R.rw ++ (sent1 R here t).2.2 }
def midR (R : RG.Ring) (k here : Nat) (x : RG.Tok × RG.Stn × List RG.Rw) : RG.Ring := { many := R.many, time := R.time, st := RG.up R.st here x.2.1, tk := R.tk.set k x.1, rw := R.rw ++ x.2.2 }
theorem up_self {f : Nat → RG.Stn} {i : Nat} : RG.up f i (f i) = f := by
  funext j
  unfold RG.up
  split
  · next h => rw [h]
  · rfl
theorem stS_mid {R : RG.Ring} {k here : Nat} {t : RG.Tok} {s s' : RG.Stn} {r : List RG.Rw} : stS (midR R k here (t, s, r)) here s' = midR R k here (t, s', r) := by
  unfold stS midR
  simp only
  congr 1
  funext j
  unfold RG.up
  split <;> rfl
theorem setT_mid {R : RG.Ring} {k here : Nat} {t t' : RG.Tok} {s : RG.Stn} {r : List RG.Rw} : setT (midR R k here (t, s, r)) k t' = midR R k here (t', s, r) := by
  unfold setT midR
  simp
theorem midR_0 {R : RG.Ring} {k here : Nat} {t : RG.Tok} : midR R k here (t, R.st here, []) = setT R k t := by
  unfold midR setT
  simp only [up_self, List.append_nil]
theorem w_rep {H : Hp} {Q : VK} {l : Addr} {m : Nat} {v : V} (h : H l = some (.lst [v])) (hm : m ≤ 12) (k : ∀ p H', H p = none → Same H H' → H' p = some (lstN m fun _ => v) → Q (.ref p) H') : rRep (.ref l) (.int (m : Int)) H Q :=
  ⟨l, _, [v], rfl, rfl, h, by omega, by omega, Nat.le_trans (show _ ≤ 100000 by simp; omega) (by decide), fun p np => k p _ np (same_new np) (by
    rw [upd_same, show (m : Int).toNat = m by omega, rep_flat])⟩
theorem up_up {f : Nat → RG.Stn} {i : Nat} {s s' : RG.Stn} : RG.up (RG.up f i s) i s' = RG.up f i s' := by
  funext j
  unfold RG.up
  split <;> rfl
theorem each_take {α β : Type} {P : α → β → Prop} : ∀ {as : List α} {bs : List β} (n : Nat), PySem.W.EachIs P as bs → PySem.W.EachIs P (as.take n) (bs.take n)
  | _, _, 0, _ => .nil
  | _, _, _ + 1, .nil => .nil
  | _, _, n + 1, .cons h t => .cons h (each_take n t)
theorem each_drop {α β : Type} {P : α → β → Prop} : ∀ {as : List α} {bs : List β} (n : Nat), PySem.W.EachIs P as bs → PySem.W.EachIs P (as.drop n) (bs.drop n)
  | _, _, 0, h => h
  | _, _, _ + 1, .nil => .nil
  | _, _, n + 1, .cons _ t => each_drop n t
def preR (many : Nat) : RG.Ring := ⟨many, fun _ => ⟨true, (0, 0), 0, 0, []⟩, [], [], 0⟩
theorem preR_wf {many : Nat} (h : 1 ≤ many) : RG.WF (preR many) := ⟨h, fun _ m => (nomatch m), fun _ m => (nomatch m), fun _ m => (nomatch m), List.Pairwise.nil, fun _ _ => rfl⟩
/-! ### a station -/
structure StSt where
  on : Bool
  num : Int
  mkr : Int
  sil : Int
  told : Int
/-- the messages with where they stand -/
abbrev Row := List (Addr × Int × Int)
def stF (s : StSt) (sa l : Addr) : List (Str × V) := [("on", .bl s.on), ("seen", .ref sa), ("silence", .int s.sil), ("_row", .ref l), ("_told", .int s.told)]
/-- at p a station s whose messages stand in the list at l -/
structure StAt (C : Addr) (H : Hp) (p l : Addr) (s : StSt) (row : Row) : Prop where
  ob : ∃ dx sa, H p = some (.ins C dx (stF s sa l)) ∧ H sa = some (.tup [.int s.num, .int s.mkr])
  ls : H l = some (.lst (row.map fun e => .ref e.1))
  ms : ∀ e ∈ row, H e.1 = some (.tup [.int e.2.1, .int e.2.2])
theorem StAt.mono {C : Addr} {H H' : Hp} {p l : Addr} {s : StSt} {row : Row} (m : Same H H') (x : StAt C H p l s row) : StAt C H' p l s row := by
  obtain ⟨⟨dx, sa, h1, h2⟩, h3, h4⟩ := x
  exact ⟨⟨dx, sa, m _ _ h1, m _ _ h2⟩, m _ _ h3, fun e me => m _ _ (h4 e me)⟩
theorem StAt.keep {C : Addr} {H H' : Hp} {p l : Addr} {s : StSt} {row : Row} {ps : List Addr} (x : StAt C H p l s row) (f : Fr H H' ps) (np : p ∉ ps) (nl : l ∉ ps) (nt : ∀ y, y ∈ ps → ∀ ys, H y ≠ some (.tup ys)) : StAt C H' p l s row := by
  obtain ⟨⟨dx, sa, h1, h2⟩, h3, h4⟩ := x
  exact ⟨⟨dx, sa, f _ _ h1 np, f _ _ h2 fun m => nt _ m _ h2⟩, f _ _ h3 nl, fun e me => f _ _ (h4 e me) fun m => nt _ m _ (h4 e me)⟩
def headN (row : Row) (told : Int) : V := match row with | [] => .non | e :: _ => .int (e.2.1 + told)
def spStInit (C : Addr) : Sp := fun vs H Q _ => ∃ (p dx : Addr), vs = [.ref p] ∧ H p = some (.ins C dx []) ∧
  ∀ (l : Addr) (H' : Hp), StAt C H' p l ⟨true, 0, 0, 0, 0⟩ [] → H l = none → l ≠ p → Fr H H' [p] → Q .non H'
def spStPut (C : Addr) : Sp := fun vs H Q _ => ∃ (p l : Addr) (s : StSt) (row : Row) (r m : Int), vs = [.ref p, .int r, .int m] ∧ StAt C H p l s row ∧ row.length ≤ 1000000 ∧
  ∀ (t : Addr) (H' : Hp), StAt C H' p l s (row ++ [(t, r, m)]) → Fr H H' [l] → Q .non H'
def spStMsgs (C : Addr) : Sp := fun vs H Q _ => ∃ (p l : Addr) (s : StSt) (row : Row), vs = [.ref p] ∧ StAt C H p l s row ∧
  ∀ (q : Addr) (H' : Hp), H q = none → Same H H' → H' q = some (.lst (row.map fun e => .ref e.1)) → Q (.ref q) H'
def spStNeed (C : Addr) : Sp := fun vs H Q _ => ∃ (p l : Addr) (s : StSt) (row : Row), vs = [.ref p] ∧ StAt C H p l s row ∧ Q (headN row s.told) H
def spStTell (C : Addr) : Sp := fun vs H Q _ => ∃ (p l : Addr) (s : StSt) (row : Row) (e : Addr × Int × Int), vs = [.ref p] ∧ StAt C H p l s (e :: row) ∧
  ∀ H' : Hp, StAt C H' p l { s with told := s.told + 1 } (e :: row) → Fr H H' [p] → Q (.int (e.2.1 + s.told)) H'
def spStSend (C : Addr) : Sp := fun vs H Q _ => ∃ (p l : Addr) (s : StSt) (row : Row) (e : Addr × Int × Int), vs = [.ref p] ∧ StAt C H p l s (e :: row) ∧
  ∀ H' : Hp, StAt C H' p l { s with told := 0 } row → Fr H H' [p, l] → Q (.ref e.1) H'
section
variable {P : Program} {w : World} {K : PySem.W.Frag} {mg : Str → Option Value} {base : Heap} {Z : Ad}
theorem ok_Station_init (T : Txt K mg Z) : FnOk P w K mg base CX0 1 Z.Station_init Z.Station_init_d ["self"] (spStInit Z.Station) := by
  refine T.F_Station_init.ok sc_Station_init (fun vs H Q E h => ?_) (fun cdv A outer s H vs Q E hr h => ?_)
  · obtain ⟨p, dx, rfl, _⟩ := h
    rfl
  · obtain ⟨p, dx, rfl, hp, k⟩ := h
    refine ⟨_, (pss_cons (k_sfld (K := K) (pv 0) pe_bl rfl)
      (pss_cons (k_sfld (K := K) (pv 0) (pe_tup (pa_cons pe_int (pa_cons pe_int pa_nil))) rfl)
      (pss_cons (k_sfld (K := K) (pv 0) pe_int rfl)
      (pss_cons (k_sfld (K := K) (pv 0) (pe_lst pa_nil) rfl)
      (pss_one (k_sfld (K := K) (pv 0) pe_int rfl)))))), ?_⟩
    have hc := T.cl_Station
    have n1 := T.a_Station_on
    have n2 := T.a_Station_seen
    have n3 := T.a_Station_silence
    have n4 := T.a_Station_row
    have n5 := T.a_Station_told
    k_allIn
    refine w_newS (by simp) fun sa H1 ns s1 e1 => ?_
    k_allIn
    refine w_newS (by simp) fun l H2 nl s2 e2 => ?_
    k_allIn
    have a1 : p ≠ sa := ne_of_none upd_same ns
    have a2 : p ≠ l := ne_of_none upd_same nl
    have a3 : sa ≠ l := ne_of_none (o := .tup [.int 0, .int 0]) (by k_memK) nl
    refine k l _ ⟨⟨dx, sa, by k_memK, by k_memK⟩, by k_memK, fun e m => nomatch m⟩ ?_ a2.symm ?_
    · exact upd_none (s1.free (upd_none (upd_none nl)))
    · refine Fr.upd (Fr.upd (Fr.trans ?_ (Fr.of s2)) (by simp)) (by simp)
      refine Fr.upd (Fr.upd (Fr.trans ?_ (Fr.of s1)) (by simp)) (by simp)
      exact Fr.upd (Fr.refl _ _) (by simp)
theorem ok_Station_put (T : Txt K mg Z) : FnOk P w K mg base CX0 1 Z.Station_put Z.Station_put_d ["self", "rank", "mark"] (spStPut Z.Station) := by
  refine T.F_Station_put.ok sc_Station_put (fun vs H Q E h => ?_) (fun cdv A outer s H vs Q E hr h => ?_)
  · obtain ⟨p, l, s, row, r, m, rfl, _⟩ := h
    rfl
  · obtain ⟨p, l, s, row, r, m, rfl, ⟨⟨dx, sa, hp, hs⟩, hl, hm⟩, hz, k⟩ := h
    refine ⟨_, (pss_one (ps_expr (k_bm (K := K) PySem.F.plainAttrs_list PySem.F.slot_list_append PySem.F.type_list_append mt_append (k_fld (K := K) (pv 0) rfl) (pa_cons (pe_tup (pa_cons (pv 1) (pa_cons (pv 2) pa_nil))) pa_nil)))), ?_⟩
    have hc := T.cl_Station
    have n4 := T.a_Station_row
    have a1 : p ≠ l := ne_of hp hl (by intro z; cases z)
    have a2 : sa ≠ l := ne_of hs hl (by intro z; cases z)
    k_allIn
    refine w_newS (by simp) fun t H1 nt s1 e1 => ?_
    k_allIn
    refine w_append (by k_memK) (Nat.lt_of_le_of_lt (by rw [List.length_map]; exact hz) (by decide)) ?_
    k_allIn
    have a3 : l ≠ t := ne_of_none hl nt
    refine k t _ ⟨⟨dx, sa, by k_memK, by k_memK⟩, ?_, fun e me => ?_⟩ (Fr.upd (Fr.of s1) (by simp))
    · rw [upd_same, List.map_append]
      rfl
    · rcases List.mem_append.mp me with me | me
      · have h1 := hm e me
        have a4 : e.1 ≠ l := ne_of h1 hl (by intro z; cases z)
        k_memK
      · cases List.mem_singleton.mp me
        k_memK
theorem ok_Station_need (T : Txt K mg Z) : FnOk P w K mg base CX0 1 Z.Station_need Z.Station_need_d ["self"] (spStNeed Z.Station) := by
  refine T.F_Station_need.ok sc_Station_need (fun vs H Q E h => ?_) (fun cdv A outer s H vs Q E hr h => ?_)
  · obtain ⟨p, l, s, row, rfl, _⟩ := h
    rfl
  · obtain ⟨p, l, s, row, rfl, ⟨⟨dx, sa, hp, hs⟩, hl, hm⟩, k⟩ := h
    refine ⟨_, (pss_cons (ps_if (pt_not (k_tr (K := K) (k_fld (K := K) (pv 0) rfl) (fun _ => rfl)))
        (pss_one (ps_ret pe_non))
        pss_nil)
      (pss_cons (ps_asg (pe_ix (r := rIx K) ix_seq (k_fld (K := K) (pv 0) rfl) pe_int (fun _ _ => rfl)) (k_gtup (K := K) 2 rfl (pgs_cons (pg_name (i := 1) sc_Station_need.nd rfl (Or.inl rfl)) (pgs_cons (pg_name (i := 2) sc_Station_need.nd rfl (Or.inl rfl)) pgs_nil))))
      (pss_one (ps_ret (pe_op op_add (pv 1) (k_fld (K := K) (pv 0) rfl)))))), ?_⟩
    have hc := T.cl_Station
    have n4 := T.a_Station_row
    have n5 := T.a_Station_told
    k_allIn
    refine w_truL (SqL.of hl) ?_
    cases row with
    | nil =>
      k_allIn
      exact k
    | cons e row =>
      have h1 := hm e (List.mem_cons_self ..)
      refine iteF ?_
      k_allIn
      exact k
theorem ok_Station_tell (T : Txt K mg Z) : FnOk P w K mg base CX0 2 Z.Station_tell Z.Station_tell_d ["self"] (spStTell Z.Station) := by
  have G_Station_need := ok_Station_need (P := P) (w := w) (base := base) T
  refine T.F_Station_tell.ok sc_Station_tell (fun vs H Q E h => ?_) (fun cdv A outer s H vs Q E hr h => ?_)
  · obtain ⟨p, l, s, row, e, rfl, _⟩ := h
    rfl
  · obtain ⟨p, l, s, row, e, rfl, hst, k⟩ := h
    obtain ⟨⟨dx, sa, hp, hs⟩, hl, hm⟩ := id hst
    refine ⟨_, (pss_cons (ps_set (i := 1) sc_Station_tell.nd rfl (Or.inl rfl) (pe_meth0 (pv 0) T.cl_Station T.m_Station_need G_Station_need (hr.mono (by omega)) T.b_Station_need .nil pass0))
      (pss_cons (k_fldaug (K := K) (pv 0) pe_int in_add)
      (pss_one (ps_ret (pv 1))))), ?_⟩
    have hc := T.cl_Station
    have n5 := T.a_Station_told
    k_allIn
    refine ⟨p, l, s, e :: row, rfl, hst, ?_⟩
    k_allIn
    have a1 : p ≠ l := ne_of hp hl (by intro z; cases z)
    have a3 : sa ≠ p := ne_of hs hp (by intro z; cases z)
    refine k _ ⟨⟨dx, sa, by k_memK, by k_memK⟩, by k_memK, fun e' me => ?_⟩ (Fr.upd (Fr.refl _ _) (by simp))
    have h1 := hm e' me
    have a5 : e'.1 ≠ p := ne_of h1 hp (by intro z; cases z)
    k_memK
theorem ok_Station_send (T : Txt K mg Z) : FnOk P w K mg base CX0 1 Z.Station_send Z.Station_send_d ["self"] (spStSend Z.Station) := by
  refine T.F_Station_send.ok sc_Station_send (fun vs H Q E h => ?_) (fun cdv A outer s H vs Q E hr h => ?_)
  · obtain ⟨p, l, s, row, e, rfl, _⟩ := h
    rfl
  · obtain ⟨p, l, s, row, e, rfl, ⟨⟨dx, sa, hp, hs⟩, hl, hm⟩, k⟩ := h
    refine ⟨_, (pss_cons (ps_set (i := 1) sc_Station_send.nd rfl (Or.inl rfl) (k_bm (K := K) PySem.F.plainAttrs_list PySem.F.slot_list_pop PySem.F.type_list_pop mt_popAt (k_fld (K := K) (pv 0) rfl) (pa_cons pe_int pa_nil)))
      (pss_cons (k_sfld (K := K) (pv 0) pe_int rfl)
      (pss_one (ps_ret (pv 1))))), ?_⟩
    have hc := T.cl_Station
    have n4 := T.a_Station_row
    have n5 := T.a_Station_told
    k_allIn
    have a1 : p ≠ l := ne_of hp hl (by intro z; cases z)
    have a2 : sa ≠ l := ne_of hs hl (by intro z; cases z)
    have a3 : sa ≠ p := ne_of hs hp (by intro z; cases z)
    refine w_pop0 hl ?_
    k_allIn
    refine k _ ⟨⟨dx, sa, by k_memK, by k_memK⟩, by k_memK, fun e' me => ?_⟩ (Fr.upd (Fr.upd (Fr.refl _ _) (by simp)) (by simp))
    have h1 := hm e' (List.mem_cons_of_mem _ me)
    have a4 : e'.1 ≠ l := ne_of h1 hl (by intro z; cases z)
    have a5 : e'.1 ≠ p := ne_of h1 hp (by intro z; cases z)
    k_memK
end
/-! ### a token -/
structure TokSt where
  num : Int
  mkr : Int
  at_ : Int
  win : Option Int
  best : Option (Int × Int)
def oV : Option Int → V
  | none => .non
  | some i => .int i
/-- where the best need stands, what it is -/
def BestAt (H : Hp) (v : V) : Option (Int × Int) → Prop
  | none => v = .non
  | some b => ∃ a, v = .ref a ∧ H a = some (.tup [.int b.1, .int b.2])
theorem BestAt.mono {H H' : Hp} {v : V} {b : Option (Int × Int)} (s : Same H H') (h : BestAt H v b) : BestAt H' v b := by
  cases b with
  | none => exact h
  | some b => obtain ⟨a, e, h⟩ := h; exact ⟨a, e, s _ _ h⟩
theorem BestAt.keep {H H' : Hp} {v : V} {b : Option (Int × Int)} {ps : List Addr} (f : Fr H H' ps) (nt : ∀ y, y ∈ ps → ∀ ys, H y ≠ some (.tup ys)) (h : BestAt H v b) : BestAt H' v b := by
  cases b with
  | none => exact h
  | some b => obtain ⟨a, e, h⟩ := h; exact ⟨a, e, f _ _ h fun m => nt _ m _ h⟩
def tkF (t : TokSt) (bv : V) : List (Str × V) := [("number", .int t.num), ("maker", .int t.mkr), ("at", .int t.at_), ("winner", oV t.win), ("best", bv)]
structure TokAt (C : Addr) (H : Hp) (p : Addr) (t : TokSt) : Prop where
  ob : ∃ dx bv, H p = some (.ins C dx (tkF t bv)) ∧ BestAt H bv t.best
theorem TokAt.mono {C : Addr} {H H' : Hp} {p : Addr} {t : TokSt} (m : Same H H') (x : TokAt C H p t) : TokAt C H' p t := by
  obtain ⟨dx, bv, h1, h2⟩ := x
  exact ⟨dx, bv, m _ _ h1, h2.mono m⟩
theorem TokAt.keep {C : Addr} {H H' : Hp} {p : Addr} {t : TokSt} {ps : List Addr} (x : TokAt C H p t) (f : Fr H H' ps) (np : p ∉ ps) (nt : ∀ y, y ∈ ps → ∀ ys, H y ≠ some (.tup ys)) : TokAt C H' p t := by
  obtain ⟨dx, bv, h1, h2⟩ := x
  exact ⟨dx, bv, f _ _ h1 np, h2.keep f nt⟩
def hearT (t : TokSt) (need s : Int) : TokSt :=
  match t.best with
  | none => { t with best := some (need, s) }
  | some b => if b.1 < need then { t with best := some (need, s) } else t
def beginT (t : TokSt) : TokSt := { t with win := t.best.map (·.2), best := none }
def spTkInit (C : Addr) : Sp := fun vs H Q _ => ∃ (p dx : Addr) (n m a : Int), vs = [.ref p, .int n, .int m, .int a] ∧ H p = some (.ins C dx []) ∧
  ∀ H' : Hp, TokAt C H' p ⟨n, m, a, none, none⟩ → Fr H H' [p] → Q .non H'
def spTkStamp (C : Addr) : Sp := fun vs H Q _ => ∃ (p : Addr) (t : TokSt), vs = [.ref p] ∧ TokAt C H p t ∧
  ∀ (q : Addr) (H' : Hp), H q = none → Same H H' → H' q = some (.tup [.int t.num, .int t.mkr]) → Q (.ref q) H'
def spTkHear (C : Addr) : Sp := fun vs H Q _ => ∃ (p : Addr) (t : TokSt) (need s : Int), vs = [.ref p, .int need, .int s] ∧ TokAt C H p t ∧
  ∀ H' : Hp, TokAt C H' p (hearT t need s) → Fr H H' [p] → Q .non H'
def spTkBegin (C : Addr) : Sp := fun vs H Q _ => ∃ (p : Addr) (t : TokSt), vs = [.ref p] ∧ TokAt C H p t ∧
  ∀ H' : Hp, TokAt C H' p (beginT t) → Fr H H' [p] → Q .non H'
section
variable {P : Program} {w : World} {K : PySem.W.Frag} {mg : Str → Option Value} {base : Heap} {Z : Ad}
theorem ok_Token_init (T : Txt K mg Z) : FnOk P w K mg base CX0 1 Z.Token_init Z.Token_init_d ["self", "number", "maker", "at"] (spTkInit Z.Token) := by
  refine T.F_Token_init.ok sc_Token_init (fun vs H Q E h => ?_) (fun cdv A outer s H vs Q E hr h => ?_)
  · obtain ⟨p, dx, n, m, a, rfl, _⟩ := h
    rfl
  · obtain ⟨p, dx, n, m, a, rfl, hp, k⟩ := h
    refine ⟨_, (pss_cons (k_sfld (K := K) (pv 0) (pv 1) rfl)
      (pss_cons (k_sfld (K := K) (pv 0) (pv 2) rfl)
      (pss_cons (k_sfld (K := K) (pv 0) (pv 3) rfl)
      (pss_cons (k_sfld (K := K) (pv 0) pe_non rfl)
      (pss_one (k_sfld (K := K) (pv 0) pe_non rfl)))))), ?_⟩
    have hc := T.cl_Token
    have n1 := T.a_Token_number
    have n2 := T.a_Token_maker
    have n3 := T.a_Token_at
    have n4 := T.a_Token_winner
    have n5 := T.a_Token_best
    k_allIn
    refine k _ ⟨dx, .non, by k_memK, rfl⟩ ?_
    exact Fr.upd (Fr.upd (Fr.upd (Fr.upd (Fr.upd (Fr.refl _ _) (by simp)) (by simp)) (by simp)) (by simp)) (by simp)
theorem ok_Token_stamp (T : Txt K mg Z) : FnOk P w K mg base CX0 1 Z.Token_stamp Z.Token_stamp_d ["self"] (spTkStamp Z.Token) := by
  refine T.F_Token_stamp.ok sc_Token_stamp (fun vs H Q E h => ?_) (fun cdv A outer s H vs Q E hr h => ?_)
  · obtain ⟨p, t, rfl, _⟩ := h
    rfl
  · obtain ⟨p, t, rfl, ⟨dx, bv, hp, hb⟩, k⟩ := h
    refine ⟨_, (pss_one (ps_ret (pe_tup (pa_cons (k_fld (K := K) (pv 0) rfl) (pa_cons (k_fld (K := K) (pv 0) rfl) pa_nil))))), ?_⟩
    have hc := T.cl_Token
    have n1 := T.a_Token_number
    have n2 := T.a_Token_maker
    k_allIn
    refine w_newS (by simp) fun q H1 nq s1 e1 => ?_
    exact k q H1 nq s1 e1
theorem ok_Token_hear (T : Txt K mg Z) : FnOk P w K mg base CX0 1 Z.Token_hear Z.Token_hear_d ["self", "need", "station"] (spTkHear Z.Token) := by
  refine T.F_Token_hear.ok sc_Token_hear (fun vs H Q E h => ?_) (fun cdv A outer s H vs Q E hr h => ?_)
  · obtain ⟨p, t, need, st, rfl, _⟩ := h
    rfl
  · obtain ⟨p, t, need, st, rfl, ⟨dx, bv, hp, hb⟩, k⟩ := h
    obtain ⟨tn, tm, ta, tw, best⟩ := t
    refine ⟨_, (pss_one (ps_if (PW.pt (pw_or (pt_cmpR op_isNo (k_fld (K := K) (pv 0) rfl) pe_non (nomark _)) (pw_or1 (pt_cmpR op_gt (pv 1) (pe_ix (r := rIx K) ix_seq (k_fld (K := K) (pv 0) rfl) pe_int (fun _ _ => rfl)) (nomark _)))))
        (pss_one (k_sfld (K := K) (pv 0) (pe_tup (pa_cons (pv 1) (pa_cons (pv 2) pa_nil))) rfl))
        pss_nil)), ?_⟩
    have hc := T.cl_Token
    have n5 := T.a_Token_best
    cases best with
    | none =>
      have hb' : bv = .non := hb
      subst hb'
      k_allIn
      refine w_newS (by simp) fun q H1 nq s1 e1 => ?_
      k_allIn
      have a1 : q ≠ p := ne_of e1 (s1 _ _ hp) (by intro z; cases z)
      refine k _ ⟨dx, .ref q, by k_memK, ⟨q, rfl, by k_memK⟩⟩ (Fr.upd (Fr.of s1) (by simp))
    | some b =>
      obtain ⟨q0, hb1, hb2⟩ := hb
      subst hb1
      k_allIn
      refine ite2 (fun c => ?_) (fun c => ?_)
      · k_allIn
        refine w_newS (by simp) fun q H1 nq s1 e1 => ?_
        k_allIn
        have a1 : q ≠ p := ne_of e1 (s1 _ _ hp) (by intro z; cases z)
        refine k _ ?_ (Fr.upd (Fr.of s1) (by simp))
        have c' : b.1 < need := of_decide_eq_true c
        unfold hearT
        simp only
        rw [if_pos c']
        exact ⟨dx, .ref q, by k_memK, ⟨q, rfl, by k_memK⟩⟩
      · k_allIn
        refine k _ ?_ (Fr.refl _ _)
        have c' : ¬ b.1 < need := of_decide_eq_false (eq_false_of_ne_true c)
        unfold hearT
        simp only
        rw [if_neg c']
        exact ⟨dx, .ref q0, hp, ⟨q0, rfl, hb2⟩⟩
theorem ok_Token_begin_round (T : Txt K mg Z) : FnOk P w K mg base CX0 1 Z.Token_begin_round Z.Token_begin_round_d ["self"] (spTkBegin Z.Token) := by
  refine T.F_Token_begin_round.ok sc_Token_begin_round (fun vs H Q E h => ?_) (fun cdv A outer s H vs Q E hr h => ?_)
  · obtain ⟨p, t, rfl, _⟩ := h
    rfl
  · obtain ⟨p, t, rfl, ⟨dx, bv, hp, hb⟩, k⟩ := h
    obtain ⟨tn, tm, ta, tw, best⟩ := t
    refine ⟨_, (pss_cons (k_sfld (K := K) (pv 0) pe_non rfl)
      (pss_cons (ps_if (pt_cmpR op_notNo (k_fld (K := K) (pv 0) rfl) pe_non (nomark _))
        (pss_one (k_sfld (K := K) (pv 0) (pe_ix (r := rIx K) ix_seq (k_fld (K := K) (pv 0) rfl) pe_int (fun _ _ => rfl)) rfl))
        pss_nil)
      (pss_one (k_sfld (K := K) (pv 0) pe_non rfl)))), ?_⟩
    have hc := T.cl_Token
    have n4 := T.a_Token_winner
    have n5 := T.a_Token_best
    cases best with
    | none =>
      have hb' : bv = .non := hb
      subst hb'
      k_allIn
      exact k _ ⟨dx, .non, by k_memK, rfl⟩ (Fr.upd (Fr.upd (Fr.refl _ _) (by simp)) (by simp))
    | some b =>
      obtain ⟨q0, hb1, hb2⟩ := hb
      subst hb1
      have a1 : q0 ≠ p := ne_of hb2 hp (by intro z; cases z)
      k_allIn
      exact k _ ⟨dx, .non, by k_memK, rfl⟩ (Fr.upd (Fr.upd (Fr.upd (Fr.refl _ _) (by simp)) (by simp)) (by simp))
end
/-! ### steps of a reading that the ring's texts want -/
section
variable {K : PySem.W.Frag} {σ : St} {H : Hp} {Q : VK} {v x y : V} {ta te tv : TE} {ts : TA} {D : Ends} {R : It → Hp → Prop}
def enumK (K : PySem.W.Frag) (R : It → Hp → Prop) (vs : List V) (H : Hp) : Prop := ∃ a xs, vs = [.ref a] ∧ SqL K H a xs ∧ R (Ite K a) H
theorem w_enum (k : ts σ H fun vs H1 => enumK K R vs H1) : iEnum K ts σ H R := k
theorem w_enumK {a : Addr} {xs : List V} (h : SqL K H a xs) (k : R (Ite K a) H) : enumK K R [.ref a] H := ⟨a, xs, rfl, h, k⟩
/-- over enumerate(xs): each turn a new tuple -/
theorem for_enum {a : Addr} {xs : List V} {g : TG} {tb : TS} (Pv : Nat → St → Hp → Prop) (h0 : Pv 0 σ H) (hl : ∀ i σ H, i ≤ xs.length → Pv i σ H → SqL K H a xs)
    (hs : ∀ i x σ H T H', xs[i]? = some x → Pv i σ H → H T = none → Same H H' → H' T = some (.tup [.int (i : Nat), x]) → g (.ref T) σ H' fun σ2 H2 => tb { D with nx := Pv (i + 1), ct := Pv (i + 1), bk := D.nx } σ2 H2) (hd : ∀ σ H, Pv xs.length σ H → D.nx σ H) : forK (Ite K a) g tb D σ H := by
  refine ⟨fun i m σ H => m = xs.length - i ∧ i ≤ xs.length ∧ Pv i σ H, ⟨xs.length, by simp, Nat.zero_le _, h0⟩, ?_⟩
  rintro i m σ H ⟨rfl, hi, p⟩
  have q := hl i σ H hi p
  by_cases hlt : i < xs.length
  · refine .inr ⟨⟨xs, xs[i], q, by simp [hlt]⟩, Pv (i + 1), fun σ' H' p' => ⟨xs.length - (i + 1), by omega, rfl, hlt, p'⟩, fun x H' y => ?_⟩
    obtain ⟨T, z, e, nT, eH, hz⟩ := y
    subst e
    subst eH
    exact hs i z σ H T _ (hz xs q) p nT (same_new nT) upd_same
  · have e : i = xs.length := by omega
    subst e
    exact .inl ⟨⟨xs, q, Nat.le_refl _⟩, hd σ H p⟩
def augIK (j : Nat) (te : TE) (ti : TIp) (D : Ends) (σ : St) (H : Hp) : Prop := ∃ x, σ[j]? = some (some x) ∧ te σ H fun y H1 => ti x y H1 fun z H2 => D.nx (σ.set j (some z)) H2
theorem w_aug {j : Nat} {ti : TIp} (h : σ[j]? = some (some x)) (k : te σ H fun y H1 => ti x y H1 fun z H2 => D.nx (σ.set j (some z)) H2) : tAug j te ti D σ H := ⟨x, h, k⟩
theorem w_ipI {f : Int → Int → Int} {i j : Int} (k : Q (.int (f i j)) H) : ipI f (.int i) (.int j) H Q := ⟨i, j, rfl, rfl, k⟩
def rInsert : V → List V → Hp → VK → Prop := fun x vs H Q => ∃ (l : Addr) (xs : List V) (i : Int) (y : V), x = .ref l ∧ vs = [.int i, y] ∧ H l = some (.lst xs) ∧ xs.length < sizeLine ∧ 0 ≤ i ∧ i < 2 ^ 63 ∧ Q .non (upd H l (.lst (xs.take i.toNat ++ [y] ++ xs.drop i.toNat)))
theorem w_insert {l : Addr} {xs : List V} {n : Nat} (h : H l = some (.lst xs)) (hl : xs.length < sizeLine) (hn : n ≤ 100000) (k : Q .non (upd H l (.lst (xs.take n ++ [y] ++ xs.drop n)))) : rInsert (.ref l) [.int (n : Int), y] H Q := ⟨l, xs, (n : Int), y, rfl, rfl, h, hl, by omega, by omega, k⟩
theorem w_popAt {l : Addr} {xs : List V} {n : Nat} (h : H l = some (.lst xs)) (e : xs[n]? = some x) (hn : xs.length ≤ 100000) (k : Q x (upd H l (.lst (xs.eraseIdx n)))) : rPopAt (.ref l) [.int (n : Int)] H Q := by
  have hlt : n < xs.length := (List.getElem?_eq_some_iff.mp e).1
  refine ⟨l, xs, (n : Int), n, x, rfl, rfl, h, by omega, by omega, ?_, e, k⟩
  unfold seqIndex?
  simp
  omega
end
section
variable {X : Cx} {K : PySem.W.Frag} {e o : Expr} {es : List Expr} {pos tpos p apos : Pos} {ta : TA} {elts : List Expr} {kk : Nat}
theorem k_enum (hg : Gl X "enumerate") (hm : X.mg "enumerate" = none) (ha : PA X [e] ta) (hs : starEach [e] X.env = [(false, eval e X.env)] := by rfl) (hK : X.K = K := by rfl) : PI X (.Tuple elts kk tpos) (.Call (.Name "enumerate" p) [e] [] pos) (iEnum K ta) := by subst hK; exact pi_enum hg hm ha hs
end
section
variable {K : PySem.W.Frag} {σ : St} {H : Hp} {Q : VK} {v x y : V} {ta : TE} {tl th : TO} {QO : Option Int → Hp → Prop}
theorem w_sl {r : V → Option Int → Option Int → Hp → VK → Prop} (k : ta σ H fun x H1 => tl σ H1 fun l H2 => th σ H2 fun u H3 => r x l u H3 Q) : tSl r ta tl th σ H Q := k
def partK (x : V) (H : Hp) (QO : Option Int → Hp → Prop) : Prop := ∃ i, x = .int i ∧ QO (some i) H
theorem w_part (k : ta σ H fun x H1 => partK x H1 QO) : tPart ta σ H QO := k
theorem w_partK {i : Int} (k : QO (some i) H) : partK (.int i) H QO := ⟨i, rfl, k⟩
theorem w_noP (k : QO none H) : tNoPart σ H QO := k
theorem w_slT {a : Addr} {xs : List V} {lo hi : Option Int} (h : SqT K H a xs) (n : ¬ (HT.sIx xs.length 0 lo = 0 ∧ HT.sIx xs.length xs.length hi = xs.length)) (k : ∀ p H', H p = none → Same H H' → H' p = some (.tup (cutV xs lo hi)) → Q (.ref p) H') : rSlT K (.ref a) lo hi H Q := ⟨a, xs, rfl, h, n, fun p np => k p _ np (same_new np) upd_same⟩
end
theorem i_dF {p : Prop} [inst : Decidable p] {C D : Prop} (h : ¬ p) (k : D) : if @decide p inst = true then C else D := by rw [decide_eq_false h]; exact iteF k
theorem i_dT {p : Prop} [inst : Decidable p] {C D : Prop} (h : p) (k : C) : if @decide p inst = true then C else D := by rw [decide_eq_true h]; exact iteT k
local macro_rules | `(tactic| k_updF) => `(tactic| first
  | with_reducible refine' w_enum ?_
  | ((with_reducible refine' w_aug ?hh ?_); (case hh => rfl))
  | with_reducible refine' w_ipI ?_
  | with_reducible refine' w_sl ?_
  | with_reducible refine' w_part ?_
  | with_reducible refine' w_partK ?_
  | with_reducible refine' w_noP ?_)
/-! ### frames of the program's ring: what has a role from lo to hi - 1 may change, tuples and tables never -/
def Fix (o : HO) : Prop := (∃ xs, o = .tup xs) ∨ (∃ q, o = .tbl q) ∨ ∃ c q, o = LamX.CodeO c q
theorem fix_lst {xs : List V} : ¬ Fix (.lst xs) := by
  rintro (⟨_, z⟩ | ⟨_, z⟩ | ⟨c, q, z⟩)
  · cases z
  · cases z
  · exact code_lst _ z
theorem code_ins {c : Addr} {q : Str} (C d : Addr) (fs : List (Str × V)) : HO.ins C d fs ≠ LamX.CodeO c q := fun z => by unfold LamX.CodeO at z; cases z
theorem fix_ins {C d : Addr} {fs : List (Str × V)} : ¬ Fix (.ins C d fs) := by
  rintro (⟨_, z⟩ | ⟨_, z⟩ | ⟨c, q, z⟩)
  · cases z
  · cases z
  · exact code_ins _ _ _ z
theorem fix_tup {xs : List V} : Fix (.tup xs) := .inl ⟨xs, rfl⟩
structure Mw (lo hi : Nat) (rl : Addr → Nat) (H : Hp) (rl' : Addr → Nat) (H' : Hp) : Prop where
  ag : ∀ x, ¬ NoO H x → rl' x = rl x
  kp : ∀ b o, H b = some o → (Fix o ∨ rl b < lo ∨ hi ≤ rl b) → H' b = some o
  gr : ∀ x, NoO H' x → NoO H x
theorem Mw.refl (lo hi : Nat) (rl : Addr → Nat) (H : Hp) : Mw lo hi rl H rl H := ⟨fun _ _ => rfl, fun _ _ e _ => e, fun _ h => h⟩
theorem Mw.of {lo hi : Nat} {rl : Addr → Nat} {H H' : Hp} (s : Same H H') : Mw lo hi rl H rl H' := ⟨fun _ _ => rfl, fun _ _ e _ => s _ _ e, fun _ h => h.same s⟩
theorem Mw.trans {lo hi : Nat} {rl rl1 rl2 : Addr → Nat} {H H1 H2 : Hp} (a : Mw lo hi rl H rl1 H1) (b : Mw lo hi rl1 H1 rl2 H2) : Mw lo hi rl H rl2 H2 :=
  ⟨fun x h => by rw [b.ag x fun z => h (a.gr x z), a.ag x h], fun c o e r => b.kp c o (a.kp c o e r) (by
    rcases r with r | r
    · exact .inl r
    · by_cases n : ∃ q, o = .tbl q
      · exact .inl (.inr (.inl n))
      · rw [a.ag c (yesO e fun q z => n ⟨q, z⟩)]; exact .inr r), fun x h => a.gr x (b.gr x h)⟩
theorem Mw.wide {lo hi lo' hi' : Nat} {rl rl' : Addr → Nat} {H H' : Hp} (m : Mw lo hi rl H rl' H') (h1 : lo' ≤ lo) (h2 : hi ≤ hi') : Mw lo' hi' rl H rl' H' := ⟨m.ag, fun b o e r => m.kp b o e (by
  rcases r with r | r | r
  · exact .inl r
  · exact .inr (.inl (Nat.lt_of_lt_of_le r h1))
  · exact .inr (.inr (Nat.le_trans h2 r))), m.gr⟩
theorem Mw.role {lo hi : Nat} {rl : Addr → Nat} {H H' : Hp} {a : Addr} {n : Nat} (s : Same H H') (h : H a = none) : Mw lo hi rl H (rlN rl a n) H' := ⟨fun x hx => rlN_ne rl n fun e => hx (by rw [e]; exact .inl h), fun _ _ e _ => s _ _ e, fun _ h => h.same s⟩
theorem Mw.mv {lo hi : Nat} {rl rl' : Addr → Nat} {H H' : Hp} (m : Mw lo hi rl H rl' H') : Mv lo hi rl H rl' H' := ⟨m.ag, fun b o e r _ => m.kp b o e (by
  rcases r with ⟨xs, r⟩ | r
  · exact .inl (.inl ⟨xs, r⟩)
  · exact .inr r), m.gr⟩
theorem Mw.tup {lo hi : Nat} {rl rl' : Addr → Nat} {H H' : Hp} {a : Addr} {xs : List V} (m : Mw lo hi rl H rl' H') (e : H a = some (.tup xs)) : H' a = some (.tup xs) := m.kp a _ e (.inl fix_tup)
theorem Mw.out {lo hi : Nat} {rl rl' : Addr → Nat} {H H' : Hp} {a : Addr} {o : HO} (m : Mw lo hi rl H rl' H') (e : H a = some o) (r : rl a < lo ∨ hi ≤ rl a) : H' a = some o := m.kp a _ e (.inr r)
theorem Mw.upd {lo hi : Nat} {rl : Addr → Nat} {H : Hp} {p : Addr} {o o' : HO} (h : H p = some o) (nf : ¬ Fix o) (h1 : lo ≤ rl p) (h2 : rl p < hi) (n : ∀ q, o' ≠ .tbl q) : Mw lo hi rl H rl (upd H p o') := ⟨fun _ _ => rfl, fun b o1 e r => by
  by_cases q : b = p
  · subst q
    rw [h] at e
    rcases r with r | r
    · exact absurd ((Option.some.inj e) ▸ r) nf
    · omega
  · rw [upd_ne q]; exact e, fun _ z => z.upd n⟩
theorem Mw.fr {lo hi : Nat} {rl : Addr → Nat} {H H' : Hp} {ps : List Addr} (f : Fr H H' ps) (h : ∀ x, x ∈ ps → ∃ o, H x = some o ∧ ¬ Fix o ∧ lo ≤ rl x ∧ rl x < hi) (n : ∀ x, x ∈ ps → ¬ NoO H' x) : Mw lo hi rl H rl H' := ⟨fun _ _ => rfl, fun b o e r => f b o e fun m => by
  obtain ⟨o', e', nf, h1, h2⟩ := h b m
  rw [e'] at e
  rcases r with r | r
  · exact nf ((Option.some.inj e) ▸ r)
  · omega, fun x z => by
  by_cases m : x ∈ ps
  · exact absurd z (n x m)
  · cases e : H x with
    | none => exact .inl e
    | some o =>
      have e' := f x o e m
      rcases z with z | ⟨q, z⟩
      · rw [e'] at z; cases z
      · rw [e'] at z; exact .inr ⟨q, by rw [e]; exact z⟩⟩
/-! ### the program's ring as it lies in the heap -/
def tokS (t : RG.Tok) : TokSt := ⟨(t.sp.1 : Int), (t.sp.2 : Int), (t.pl : Int), t.win.map fun n => (n : Int), t.best.map fun b => (b.1, (b.2 : Int))⟩
theorem tokS_hear (t : RG.Tok) (n : Int) (s : Nat) : tokS (RG.hear t n s) = hearT (tokS t) n (s : Int) := by
  obtain ⟨sp, pl, win, best⟩ := t
  cases best with
  | none => rfl
  | some b =>
    unfold RG.hear hearT tokS
    dsimp only [Option.map]
    by_cases h : b.1 < n
    · rw [if_pos h, if_pos h]
    · rw [if_neg h, if_neg h]
theorem tokS_begin (t : RG.Tok) : tokS (RG.beginR t) = beginT (tokS t) := by
  obtain ⟨sp, pl, win, best⟩ := t
  cases best <;> rfl
/-- the messages' places aside, a station as the mirror has it; a station that is off may have counted otherwise -/
def StnOk (C : Addr) (H : Hp) (p l : Addr) (s : RG.Stn) : Prop := ∃ (sil : Int) (row : Row), StAt C H p l ⟨s.on, (s.seen.1 : Int), (s.seen.2 : Int), sil, (s.told : Int)⟩ row ∧ (s.on = true → sil = (s.sil : Int)) ∧ row.map (·.2) = s.line
structure RgA where
  P : Addr
  dx : Addr
  ls : Addr
  lt : Addr
  lr : Addr
  sp : Nat → Addr
  lw : Nat → Addr
  tk : List Addr
  rs : List V
def rgF (A : RgA) (t : Nat) : List (Str × V) := [("_time", .int (t : Int)), ("_stations", .ref A.ls), ("_tokens", .ref A.lt), ("_rows", .ref A.lr)]
structure RgAt (Z : Ad) (c : Nat) (rl : Addr → Nat) (H : Hp) (A : RgA) (R : RG.Ring) : Prop where
  hP : H A.P = some (.ins Z.Ring A.dx (rgF A R.time))
  hls : H A.ls = some (lstN R.many fun i => .ref (A.sp i))
  hlt : H A.lt = some (.lst (A.tk.map V.ref))
  hlr : H A.lr = some (.lst A.rs)
  hst : ∀ i, i < R.many → StnOk Z.Station H (A.sp i) (A.lw i) (R.st i)
  htk : PySem.W.EachIs (fun p t => TokAt Z.Token H p (tokS t)) A.tk R.tk
  hrs : PySem.W.EachIs (fun v r => ∃ a, v = .ref a ∧ H a = some (.tup (rwV r))) A.rs R.rw
  r0 : rl A.P = c
  r1 : rl A.ls = c + 1
  r2 : rl A.lt = c + 2
  r3 : rl A.lr = c + 3
  r4 : ∀ p, p ∈ A.tk → rl p = c + 4
  r5 : ∀ i, i < R.many → rl (A.sp i) = c + 100 + i
  r6 : ∀ i, i < R.many → rl (A.lw i) = c + 200 + i
  nd : A.tk.Nodup
  dfl : Rl rl H
  many : R.many ≤ 12
section
variable {Z : Ad} {c : Nat} {rl : Addr → Nat} {H H' : Hp} {A : RgA} {R : RG.Ring}
theorem StnOk.cut {C p l : Addr} {s : RG.Stn} (x : StnOk C H p l s) : (∃ d fs, H p = some (.ins C d fs)) ∧ ∃ xs, H l = some (.lst xs) := by
  obtain ⟨_, _, ⟨⟨d, _, h, _⟩, h2, _⟩, _⟩ := x
  exact ⟨⟨d, _, h⟩, _, h2⟩
theorem TokAt.cut {C p : Addr} {t : TokSt} (x : TokAt C H p t) : ∃ d fs, H p = some (.ins C d fs) := by
  obtain ⟨d, _, h, _⟩ := x.ob
  exact ⟨d, _, h⟩
theorem StnOk.mvd {C p l : Addr} {s : RG.Stn} (x : StnOk C H p l s) (hp : ∀ d fs, H p = some (.ins C d fs) → H' p = some (.ins C d fs)) (hl : ∀ xs, H l = some (.lst xs) → H' l = some (.lst xs)) (ht : ∀ b xs, H b = some (.tup xs) → H' b = some (.tup xs)) : StnOk C H' p l s := by
  obtain ⟨sil, row, ⟨⟨dx, sa, h1, h2⟩, h3, h4⟩, h5, h6⟩ := x
  exact ⟨sil, row, ⟨⟨dx, sa, hp _ _ h1, ht _ _ h2⟩, hl _ h3, fun e me => ht _ _ (h4 e me)⟩, h5, h6⟩
theorem TokAt.mvd {C p : Addr} {t : TokSt} (x : TokAt C H p t) (hp : ∀ d fs, H p = some (.ins C d fs) → H' p = some (.ins C d fs)) (ht : ∀ b xs, H b = some (.tup xs) → H' b = some (.tup xs)) : TokAt C H' p t := by
  obtain ⟨dx, bv, h1, h2⟩ := x
  refine ⟨dx, bv, hp _ _ h1, ?_⟩
  cases hb : t.best with
  | none => rw [hb] at h2; exact h2
  | some b => rw [hb] at h2; obtain ⟨a, e, h⟩ := h2; exact ⟨a, e, ht _ _ h⟩
/-- what goes on in other ranges -/
theorem RgAt.mv {rl' : Addr → Nat} {lo hi : Nat} (h : RgAt Z c rl H A R) (m : Mv lo hi rl H rl' H') (o : hi ≤ c ∨ c + 1000 ≤ lo) (d : Rl rl' H') : RgAt Z c rl' H' A R := by
  have hm := h.many
  have k : ∀ {b o'}, H b = some o' → (∀ q, o' ≠ .tbl q) → c ≤ rl b → rl b < c + 1000 → H' b = some o' := fun e n h1 h2 => m.kp _ _ e (.inr (by omega)) n
  have g : ∀ {b o'}, H b = some o' → (∀ q, o' ≠ .tbl q) → rl' b = rl b := fun e n => m.ag _ (yesO e n)
  have kt : ∀ b xs, H b = some (.tup xs) → H' b = some (.tup xs) := fun b xs e => m.tup e
  have gl : ∀ {b xs}, H b = some (.lst xs) → rl' b = rl b := fun e => g e fun _ z => (nomatch z)
  have gi : ∀ {b C d fs}, H b = some (.ins C d fs) → rl' b = rl b := fun e => g e fun _ z => (nomatch z)
  refine ⟨k h.hP (fun _ z => (nomatch z)) (by rw [h.r0]; omega) (by rw [h.r0]; omega), k h.hls (fun _ z => (nomatch z)) (by rw [h.r1]; omega) (by rw [h.r1]; omega), k h.hlt (fun _ z => (nomatch z)) (by rw [h.r2]; omega) (by rw [h.r2]; omega), k h.hlr (fun _ z => (nomatch z)) (by rw [h.r3]; omega) (by rw [h.r3]; omega),
    fun i hi => (h.hst i hi).mvd (fun _ _ e => k e (fun _ z => (nomatch z)) (by rw [h.r5 i hi]; omega) (by rw [h.r5 i hi]; omega)) (fun _ e => k e (fun _ z => (nomatch z)) (by rw [h.r6 i hi]; omega) (by rw [h.r6 i hi]; omega)) kt,
    each_up h.htk fun p t mp z => z.mvd (fun _ _ e => k e (fun _ z => (nomatch z)) (by rw [h.r4 p mp]; omega) (by rw [h.r4 p mp]; omega)) kt,
    h.hrs.mono fun _ _ ⟨a, e, z⟩ => ⟨a, e, kt _ _ z⟩, (gi h.hP).trans h.r0, (gl h.hls).trans h.r1, (gl h.hlt).trans h.r2, (gl h.hlr).trans h.r3, fun p mp => ?_, fun i hi => ?_, fun i hi => ?_, h.nd, d, hm⟩
  · obtain ⟨t, _, ht⟩ := h.htk.left p mp
    obtain ⟨_, _, e⟩ := ht.cut
    exact (gi e).trans (h.r4 p mp)
  · obtain ⟨⟨_, _, e⟩, _⟩ := (h.hst i hi).cut
    exact (gi e).trans (h.r5 i hi)
  · obtain ⟨_, _, e⟩ := (h.hst i hi).cut
    exact (gl e).trans (h.r6 i hi)
theorem RgAt.mono (h : RgAt Z c rl H A R) (s : Same H H') : RgAt Z c rl H' A R := h.mv (Mv.of (lo := 0) (hi := 0) s) (.inl (Nat.zero_le _)) fun x z => h.dfl x (z.same s)
theorem RgAt.ext (h : RgAt Z c rl H A R) (s : LamX.ExtN H H') : RgAt Z c rl H' A R := h.mv (Mv.ext (lo := 0) (hi := 0) s) (.inl (Nat.zero_le _)) fun x z => h.dfl x (z.ext s)
/-- a new place gets a role -/
theorem RgAt.role (h : RgAt Z c rl H A R) {a : Addr} (n : Nat) {o : HO} (s : Same H H') (ha : H a = none) (e : H' a = some o) (no : ∀ q, o ≠ .tbl q) : RgAt Z c (rlN rl a n) H' A R :=
  h.mv (Mv.role (lo := 0) (hi := 0) s ha) (.inl (Nat.zero_le _)) (h.dfl.new (fun x z => z.same s) (yesO e no))
theorem RgAt.rs_len (h : RgAt Z c rl H A R) : A.rs.length = R.rw.length := h.hrs.length
theorem RgAt.tk_len (h : RgAt Z c rl H A R) : A.tk.length = R.tk.length := h.htk.length
/-- one station is another one -/
theorem RgAt.fr_stn (h : RgAt Z c rl H A R) {i : Nat} {s' : RG.Stn} {ps : List Addr} (hi : i < R.many) (f : Fr H H' ps) (hps : ∀ x, x ∈ ps → x = A.sp i ∨ x = A.lw i) (s : StnOk Z.Station H' (A.sp i) (A.lw i) s') : RgAt Z c rl H' A (stS R i s') ∧ Mw (c + 100) (c + 300) rl H rl H' := by
  have hm := h.many
  obtain ⟨⟨d0, fs0, e5⟩, xs0, e6⟩ := (h.hst i hi).cut
  obtain ⟨⟨d1, fs1, e5'⟩, xs1, e6'⟩ := s.cut
  have q5 := h.r5 i hi
  have q6 := h.r6 i hi
  have m : Mw (c + 100) (c + 300) rl H rl H' := .fr f (fun x mx => by
    rcases hps x mx with e | e
    · subst e; exact ⟨_, e5, fix_ins, by omega, by omega⟩
    · subst e; exact ⟨_, e6, fix_lst, by omega, by omega⟩) (fun x mx => by
    rcases hps x mx with e | e
    · subst e; exact yesO e5' fun _ z => (nomatch z)
    · subst e; exact yesO e6' fun _ z => (nomatch z))
  have k : ∀ {b o}, H b = some o → rl b ≠ c + 100 + i → rl b ≠ c + 200 + i → H' b = some o := fun {b o} e n1 n2 => f b o e fun mb => by
    rcases hps b mb with q | q
    · rw [q] at n1; exact n1 q5
    · rw [q] at n2; exact n2 q6
  have kt : ∀ b xs, H b = some (.tup xs) → H' b = some (.tup xs) := fun b xs e => m.tup e
  refine ⟨⟨k h.hP (by rw [h.r0]; omega) (by rw [h.r0]; omega), k h.hls (by rw [h.r1]; omega) (by rw [h.r1]; omega), k h.hlt (by rw [h.r2]; omega) (by rw [h.r2]; omega), k h.hlr (by rw [h.r3]; omega) (by rw [h.r3]; omega), fun j hj => ?_,
    each_up h.htk fun p t mp z => z.mvd (fun _ _ e => k e (by rw [h.r4 p mp]; omega) (by rw [h.r4 p mp]; omega)) kt, h.hrs.mono fun _ _ ⟨a, e, z⟩ => ⟨a, e, kt _ _ z⟩, h.r0, h.r1, h.r2, h.r3, h.r4, h.r5, h.r6, h.nd, fun x z => h.dfl x (m.gr x z), hm⟩, m⟩
  by_cases e : j = i
  · subst e
    show StnOk _ _ _ _ (RG.up R.st j s' j)
    rw [RG.up_same]
    exact s
  · show StnOk _ _ _ _ (RG.up R.st i s' j)
    rw [RG.up_ne _ _ e]
    have hj' : j < R.many := hj
    exact (h.hst j hj').mvd (fun _ _ z => k z (by rw [h.r5 j hj']; omega) (by rw [h.r5 j hj']; omega)) (fun _ z => k z (by rw [h.r6 j hj']; omega) (by rw [h.r6 j hj']; omega)) kt
/-- one token is another one -/
theorem RgAt.fr_tok (h : RgAt Z c rl H A R) {k : Nat} {p : Addr} {t' : RG.Tok} (hk : A.tk[k]? = some p) (f : Fr H H' [p]) (s : TokAt Z.Token H' p (tokS t')) : RgAt Z c rl H' A (setT R k t') ∧ Mw (c + 4) (c + 5) rl H rl H' := by
  have hm := h.many
  have hp := List.mem_of_getElem? hk
  have q4 := h.r4 p hp
  obtain ⟨t, _, ht⟩ := h.htk.left p hp
  obtain ⟨d0, fs0, e4⟩ := ht.cut
  obtain ⟨d1, fs1, e4'⟩ := s.cut
  have m : Mw (c + 4) (c + 5) rl H rl H' := .fr f (fun x mx => by
    cases List.mem_singleton.mp mx
    exact ⟨_, e4, fix_ins, by omega, by omega⟩) (fun x mx => by
    cases List.mem_singleton.mp mx
    exact yesO e4' fun _ z => (nomatch z))
  have k : ∀ {b o}, H b = some o → rl b ≠ c + 4 → H' b = some o := fun {b o} e n1 => f b o e fun mb => by
    cases List.mem_singleton.mp mb
    exact n1 q4
  have kt : ∀ b xs, H b = some (.tup xs) → H' b = some (.tup xs) := fun b xs e => m.tup e
  exact ⟨⟨k h.hP (by rw [h.r0]; omega), k h.hls (by rw [h.r1]; omega), k h.hlt (by rw [h.r2]; omega), k h.hlr (by rw [h.r3]; omega), fun i hi => (h.hst i hi).mvd (fun _ _ e => k e (by rw [h.r5 i hi]; omega)) (fun _ e => k e (by rw [h.r6 i hi]; omega)) kt,
    each_set h.htk h.nd hk s (fun x y ne z => z.mvd (fun _ _ e => f _ _ e (by simpa using ne)) kt), h.hrs.mono fun _ _ ⟨a, e, z⟩ => ⟨a, e, kt _ _ z⟩, h.r0, h.r1, h.r2, h.r3, h.r4, h.r5, h.r6, h.nd, fun x z => h.dfl x (m.gr x z), hm⟩, m⟩
/-- a row more -/
theorem RgAt.add_row (h : RgAt Z c rl H A R) {a : Addr} {x : RG.Rw} (ha : H a = some (.tup (rwV x))) : RgAt Z c rl (upd H A.lr (.lst (A.rs ++ [.ref a]))) { A with rs := A.rs ++ [.ref a] } { R with rw := R.rw ++ [x] } ∧ Mw (c + 3) (c + 4) rl H rl (upd H A.lr (.lst (A.rs ++ [.ref a]))) := by
  have hm := h.many
  have m : Mw (c + 3) (c + 4) rl H rl (upd H A.lr (.lst (A.rs ++ [.ref a]))) := .upd h.hlr fix_lst (by rw [h.r3]; omega) (by rw [h.r3]; omega) fun _ z => (nomatch z)
  have k : ∀ {b o}, H b = some o → rl b ≠ c + 3 → upd H A.lr (.lst (A.rs ++ [.ref a])) b = some o := fun {b o} e n => up_r (rl := rl) e (by rw [h.r3]; exact n)
  have kt : ∀ b xs, H b = some (.tup xs) → upd H A.lr (.lst (A.rs ++ [.ref a])) b = some (.tup xs) := fun b xs e => m.tup e
  exact ⟨⟨k h.hP (by rw [h.r0]; omega), k h.hls (by rw [h.r1]; omega), k h.hlt (by rw [h.r2]; omega), upd_same, fun i hi => (h.hst i hi).mvd (fun _ _ e => k e (by rw [h.r5 i hi]; omega)) (fun _ e => k e (by rw [h.r6 i hi]; omega)) kt,
    each_up h.htk fun p t mp z => z.mvd (fun _ _ e => k e (by rw [h.r4 p mp]; omega)) kt, each_app (h.hrs.mono fun _ _ ⟨a, e, z⟩ => ⟨a, e, kt _ _ z⟩) (.cons ⟨a, rfl, kt _ _ ha⟩ .nil), h.r0, h.r1, h.r2, h.r3, h.r4, h.r5, h.r6, h.nd, fun x z => h.dfl x (m.gr x z), hm⟩, m⟩
/-- the ring's own fields: the time, another list of tokens -/
theorem RgAt.set_P (h : RgAt Z c rl H A R) {a : Addr} {as : List Addr} {ts : List RG.Tok} {t : Nat} (ha : H a = some (.lst (as.map V.ref))) (hr : rl a = c + 2) (hts : PySem.W.EachIs (fun p t => TokAt Z.Token H p (tokS t)) as ts) (hrk : ∀ p, p ∈ as → rl p = c + 4) (nd : as.Nodup) :
    RgAt Z c rl (upd H A.P (.ins Z.Ring A.dx (rgF { A with lt := a } t))) { A with lt := a, tk := as } { R with tk := ts, time := t } ∧ Mw c (c + 1) rl H rl (upd H A.P (.ins Z.Ring A.dx (rgF { A with lt := a } t))) := by
  have hm := h.many
  have m : Mw c (c + 1) rl H rl (upd H A.P (.ins Z.Ring A.dx (rgF { A with lt := a } t))) := .upd h.hP fix_ins (by rw [h.r0]; omega) (by rw [h.r0]; omega) fun _ z => (nomatch z)
  have k : ∀ {b o}, H b = some o → rl b ≠ c → upd H A.P (.ins Z.Ring A.dx (rgF { A with lt := a } t)) b = some o := fun {b o} e n => up_r (rl := rl) e (by rw [h.r0]; exact n)
  have kt : ∀ b xs, H b = some (.tup xs) → upd H A.P (.ins Z.Ring A.dx (rgF { A with lt := a } t)) b = some (.tup xs) := fun b xs e => m.tup e
  exact ⟨⟨upd_same, k h.hls (by rw [h.r1]; omega), k ha (by rw [hr]; omega), k h.hlr (by rw [h.r3]; omega), fun i hi => (h.hst i hi).mvd (fun _ _ e => k e (by rw [h.r5 i hi]; omega)) (fun _ e => k e (by rw [h.r6 i hi]; omega)) kt,
    each_up hts fun p t mp z => z.mvd (fun _ _ e => k e (by rw [hrk p mp]; omega)) kt, h.hrs.mono fun _ _ ⟨a, e, z⟩ => ⟨a, e, kt _ _ z⟩, h.r0, h.r1, hr, h.r3, hrk, h.r5, h.r6, nd, fun x z => h.dfl x (m.gr x z), hm⟩, m⟩
/-- the list of tokens itself, changed -/
theorem RgAt.set_lt (h : RgAt Z c rl H A R) {as : List Addr} {ts : List RG.Tok} (hts : PySem.W.EachIs (fun p t => TokAt Z.Token H p (tokS t)) as ts) (hrk : ∀ p, p ∈ as → rl p = c + 4) (nd : as.Nodup) :
    RgAt Z c rl (upd H A.lt (.lst (as.map V.ref))) { A with tk := as } { R with tk := ts } ∧ Mw (c + 2) (c + 3) rl H rl (upd H A.lt (.lst (as.map V.ref))) := by
  have hm := h.many
  have m : Mw (c + 2) (c + 3) rl H rl (upd H A.lt (.lst (as.map V.ref))) := .upd h.hlt fix_lst (by rw [h.r2]; omega) (by rw [h.r2]; omega) fun _ z => (nomatch z)
  have k : ∀ {b o}, H b = some o → rl b ≠ c + 2 → upd H A.lt (.lst (as.map V.ref)) b = some o := fun {b o} e n => up_r (rl := rl) e (by rw [h.r2]; exact n)
  have kt : ∀ b xs, H b = some (.tup xs) → upd H A.lt (.lst (as.map V.ref)) b = some (.tup xs) := fun b xs e => m.tup e
  exact ⟨⟨k h.hP (by rw [h.r0]; omega), k h.hls (by rw [h.r1]; omega), upd_same, k h.hlr (by rw [h.r3]; omega), fun i hi => (h.hst i hi).mvd (fun _ _ e => k e (by rw [h.r5 i hi]; omega)) (fun _ e => k e (by rw [h.r6 i hi]; omega)) kt,
    each_up hts fun p t mp z => z.mvd (fun _ _ e => k e (by rw [hrk p mp]; omega)) kt, h.hrs.mono fun _ _ ⟨a, e, z⟩ => ⟨a, e, kt _ _ z⟩, h.r0, h.r1, h.r2, h.r3, hrk, h.r5, h.r6, nd, fun x z => h.dfl x (m.gr x z), hm⟩, m⟩
/-- what else has a role of the ring's -/
theorem RgAt.other (h : RgAt Z c rl H A R) {p : Addr} {o o' : HO} (e0 : H p = some o) (nf : ¬ Fix o) (hr : rl p = c + 2) (hn : A.lt ≠ p) (n : ∀ z, o' ≠ .tbl z) : RgAt Z c rl (upd H p o') A R ∧ Mw (c + 2) (c + 3) rl H rl (upd H p o') := by
  have hm := h.many
  have m : Mw (c + 2) (c + 3) rl H rl (upd H p o') := .upd e0 nf (by rw [hr]; omega) (by rw [hr]; omega) n
  have k : ∀ {b o}, H b = some o → rl b ≠ c + 2 → upd H p o' b = some o := fun {b o} e n => up_r (rl := rl) e (by rw [hr]; exact n)
  have kt : ∀ b xs, H b = some (.tup xs) → upd H p o' b = some (.tup xs) := fun b xs e => m.tup e
  exact ⟨⟨k h.hP (by rw [h.r0]; omega), k h.hls (by rw [h.r1]; omega), upd_at h.hlt hn, k h.hlr (by rw [h.r3]; omega), fun i hi => (h.hst i hi).mvd (fun _ _ e => k e (by rw [h.r5 i hi]; omega)) (fun _ e => k e (by rw [h.r6 i hi]; omega)) kt,
    each_up h.htk fun p t mp z => z.mvd (fun _ _ e => k e (by rw [h.r4 p mp]; omega)) kt, h.hrs.mono fun _ _ ⟨a, e, z⟩ => ⟨a, e, kt _ _ z⟩, h.r0, h.r1, h.r2, h.r3, h.r4, h.r5, h.r6, h.nd, fun x z => h.dfl x (m.gr x z), hm⟩, m⟩
theorem RgAt.tok (h : RgAt Z c rl H A R) {k : Nat} {p : Addr} {t : RG.Tok} (hk : A.tk[k]? = some p) (ht : R.tk[k]? = some t) : TokAt Z.Token H p (tokS t) := by
  obtain ⟨t', ht', z⟩ := each_get h.htk hk
  rw [ht] at ht'
  cases ht'
  exact z
/-- what is written into one station -/
theorem RgAt.put_stn (h : RgAt Z c rl H A R) {i : Nat} (hi : i < R.many) : ∃ (dx sa : Addr) (sil : Int), H (A.sp i) = some (.ins Z.Station dx (stF ⟨(R.st i).on, ((R.st i).seen.1 : Int), ((R.st i).seen.2 : Int), sil, ((R.st i).told : Int)⟩ sa (A.lw i))) ∧ H sa = some (.tup [.int ((R.st i).seen.1 : Int), .int ((R.st i).seen.2 : Int)]) ∧ ((R.st i).on = true → sil = ((R.st i).sil : Int)) ∧
    ∀ (s' : RG.Stn) (sil' : Int) (q : Addr), s'.line = (R.st i).line → (s'.on = true → sil' = (s'.sil : Int)) → H q = some (.tup [.int (s'.seen.1 : Int), .int (s'.seen.2 : Int)]) →
      RgAt Z c rl (upd H (A.sp i) (.ins Z.Station dx (stF ⟨s'.on, (s'.seen.1 : Int), (s'.seen.2 : Int), sil', (s'.told : Int)⟩ q (A.lw i)))) A (stS R i s') ∧ Mw (c + 100) (c + 300) rl H rl (upd H (A.sp i) (.ins Z.Station dx (stF ⟨s'.on, (s'.seen.1 : Int), (s'.seen.2 : Int), sil', (s'.told : Int)⟩ q (A.lw i)))) := by
  obtain ⟨sil, row, ⟨⟨dx, sa, hp, hsa⟩, hl, hm⟩, h5, h6⟩ := h.hst i hi
  refine ⟨dx, sa, sil, hp, hsa, h5, fun s' sil' q el eo hq => ?_⟩
  have a2 : A.sp i ≠ A.lw i := ne_of hp hl (by intro z; cases z)
  refine h.fr_stn (s' := s') (ps := [A.sp i]) hi (Fr.upd (Fr.refl _ _) (by simp)) (fun y m => .inl (List.mem_singleton.mp m)) ⟨sil', row, ⟨⟨dx, q, upd_same, upd_ne (ne_of hq hp (by intro z; cases z)) ▸ hq⟩, ?_, fun e me => ?_⟩, eo, h6.trans el.symm⟩
  · rw [upd_ne a2.symm]; exact hl
  · rw [upd_ne (ne_of (hm e me) hp (by intro z; cases z))]; exact hm e me
variable {K : PySem.W.Frag} {N : Hp → Prop}
theorem RgAt.w_seen (h : RgAt Z c rl H A R) {i : Nat} {p : RG.Stamp} {q : Addr} (hi : i < R.many) (hq : H q = some (.tup [.int (p.1 : Int), .int (p.2 : Int)])) (cl : Cls K Z.Station) (na : NoAttr K Z.Station "seen")
    (k : ∀ H', RgAt Z c rl H' A (stS R i { R.st i with seen := p }) → Mw (c + 100) (c + 300) rl H rl H' → N H') : sfldK K "seen" (.ref q) (.ref (A.sp i)) H N := by
  obtain ⟨dx, sa, sil, hp, hsa, ho, g⟩ := h.put_stn hi
  obtain ⟨h', m⟩ := g { R.st i with seen := p } sil q rfl ho hq
  exact w_sfldK hp cl na (of_decide_eq_true rfl) (k _ h' m)
theorem RgAt.w_sil (h : RgAt Z c rl H A R) {i : Nat} {v : Nat} {z : Int} (hi : i < R.many) (cl : Cls K Z.Station) (na : NoAttr K Z.Station "silence")
    (k : ∀ H', RgAt Z c rl H' A (stS R i { R.st i with sil := v }) → Mw (c + 100) (c + 300) rl H rl H' → N H') (hz : (R.st i).on = true → z = (v : Int) := by exact fun _ => rfl) : sfldK K "silence" (.int z) (.ref (A.sp i)) H N := by
  obtain ⟨dx, sa, sil, hp, hsa, ho, g⟩ := h.put_stn hi
  obtain ⟨h', m⟩ := g { R.st i with sil := v } z sa rfl hz hsa
  exact w_sfldK hp cl na (of_decide_eq_true rfl) (k _ h' m)
theorem RgAt.w_off (h : RgAt Z c rl H A R) {i : Nat} (hi : i < R.many) (cl : Cls K Z.Station) (na : NoAttr K Z.Station "on")
    (k : ∀ H', RgAt Z c rl H' A (stS R i { R.st i with on := false }) → Mw (c + 100) (c + 300) rl H rl H' → N H') : sfldK K "on" (.bl false) (.ref (A.sp i)) H N := by
  obtain ⟨dx, sa, sil, hp, hsa, ho, g⟩ := h.put_stn hi
  obtain ⟨h', m⟩ := g { R.st i with on := false } sil sa rfl (fun z => nomatch z) hsa
  exact w_sfldK hp cl na (of_decide_eq_true rfl) (k _ h' m)
/-- on, and the silence is 0 -/
theorem RgAt.put_on (h : RgAt Z c rl H A R) {i : Nat} (hi : i < R.many) (cl : Cls K Z.Station) (na : NoAttr K Z.Station "on") (na2 : NoAttr K Z.Station "silence")
    (k : ∀ H', RgAt Z c rl H' A (stS R i { R.st i with on := true, sil := 0 }) → Mw (c + 100) (c + 300) rl H rl H' → N H') : sfldK K "on" (.bl true) (.ref (A.sp i)) H fun H1 => sfldK K "silence" (.int 0) (.ref (A.sp i)) H1 N := by
  obtain ⟨dx, sa, sil, hp, hsa, ho, g⟩ := h.put_stn hi
  obtain ⟨h', m⟩ := g { R.st i with on := true, sil := 0 } 0 sa rfl (fun _ => rfl) hsa
  refine w_sfldK hp cl na (of_decide_eq_true rfl) (w_sfldK upd_same cl na2 (of_decide_eq_true rfl) ?_)
  rw [upd_upd]
  exact k _ h' m
end
section
variable {Z : Ad} {c : Nat} {rl : Addr → Nat} {H H' : Hp} {A : RgA} {R : RG.Ring} {K : PySem.W.Frag} {N : Hp → Prop}
/-- what lies outside is written -/
theorem RgAt.far (h : RgAt Z c rl H A R) {p : Addr} {o o' : HO} (e0 : H p = some o) (nf : ∀ xs, o ≠ .tup xs) (hr : c + 1000 ≤ rl p) (n : ∀ z, o' ≠ .tbl z) : RgAt Z c rl (upd H p o') A R :=
  h.mv (Mv.upd (lo := rl p) (hi := rl p + 1) e0 nf (Nat.le_refl _) (Nat.lt_succ_self _) n) (.inr hr) (rl_upd h.dfl n)
theorem Mw.new {lo hi : Nat} {rl' : Addr → Nat} {H1 : Hp} {p : Addr} {o' : HO} (m : Mw lo hi rl H rl' H1) (n0 : H p = none) (n : ∀ z, o' ≠ .tbl z) : Mw lo hi rl H rl' (L2.upd H1 p o') :=
  ⟨m.ag, fun b o e r => upd_at (m.kp b o e r) (ne_of_none e n0), fun x z => m.gr x (z.upd n)⟩
theorem Mw.rerole {lo hi : Nat} {rl' : Addr → Nat} {H1 : Hp} {a : Addr} {n : Nat} (m : Mw lo hi rl H rl' H1) (n0 : NoO H a) : Mw lo hi rl H (rlN rl' a n) H1 :=
  ⟨fun x hx => by rw [rlN_ne _ _ fun e => hx (by rw [e]; exact n0)]; exact m.ag x hx, m.kp, m.gr⟩
/-- the stations' states beyond are of no matter -/
theorem RgAt.st_congr (h : RgAt Z c rl H A R) {st' : Nat → RG.Stn} (e : ∀ i, i < R.many → st' i = R.st i) : RgAt Z c rl H A { R with st := st' } :=
  ⟨h.hP, h.hls, h.hlt, h.hlr, fun i hi => by show StnOk _ _ _ _ (st' i); rw [e i hi]; exact h.hst i hi, h.htk, h.hrs, h.r0, h.r1, h.r2, h.r3, h.r4, h.r5, h.r6, h.nd, h.dfl, h.many⟩
/-- what a station that is off counts is of no matter -/
theorem RgAt.sil_off (h : RgAt Z c rl H A R) {i : Nat} {v : Nat} (ho : (R.st i).on = false) : RgAt Z c rl H A (stS R i { R.st i with sil := v }) :=
  ⟨h.hP, h.hls, h.hlt, h.hlr, fun j hj => by
    show StnOk _ _ _ _ (RG.up R.st i _ j)
    by_cases e : j = i
    · subst e
      rw [RG.up_same]
      obtain ⟨sil, row, h1, h2, h3⟩ := h.hst j hj
      exact ⟨sil, row, h1, fun z => absurd (ho.symm.trans z) (by decide), h3⟩
    · rw [RG.up_ne _ _ e]
      exact h.hst j hj, h.htk, h.hrs, h.r0, h.r1, h.r2, h.r3, h.r4, h.r5, h.r6, h.nd, h.dfl, h.many⟩
theorem RgAt.w_augsil (h : RgAt Z c rl H A R) {i : Nat} {v : Nat} {z : Int} (hi : i < R.many) (k : ∀ H', RgAt Z c rl H' A (stS R i { R.st i with sil := v }) → Mw (c + 100) (c + 300) rl H rl H' → N H') (hz : (R.st i).on = true → z = (v : Int)) : aug2K (A.sp i) Z.Station "silence" (.int z) H N := by
  obtain ⟨dx, sa, sil, hp, hsa, ho, g⟩ := h.put_stn hi
  obtain ⟨h', m⟩ := g { R.st i with sil := v } z sa rfl hz hsa
  exact w_aug2K hp (of_decide_eq_true rfl) (k _ h' m)
theorem RgAt.w_augtime (h : RgAt Z c rl H A R) {t : Nat} (k : ∀ H', RgAt Z c rl H' A { R with time := t } → Mw c (c + 1) rl H rl H' → N H') : aug2K A.P Z.Ring "_time" (.int (t : Int)) H N := by
  obtain ⟨h', m⟩ := h.set_P (t := t) h.hlt h.r2 h.htk h.r4 h.nd
  exact w_aug2K h.hP (of_decide_eq_true rfl) (k _ h' m)
theorem RgAt.w_tokens (h : RgAt Z c rl H A R) {a : Addr} {as : List Addr} {ts : List RG.Tok} (ha : H a = some (.lst (as.map V.ref))) (hr : rl a = c + 2) (hts : PySem.W.EachIs (fun p t => TokAt Z.Token H p (tokS t)) as ts) (hrk : ∀ p, p ∈ as → rl p = c + 4) (nd : as.Nodup) (cl : Cls K Z.Ring) (na : NoAttr K Z.Ring "_tokens")
    (k : ∀ H', RgAt Z c rl H' { A with lt := a, tk := as } { R with tk := ts } → Mw c (c + 1) rl H rl H' → N H') : sfldK K "_tokens" (.ref a) (.ref A.P) H N := by
  obtain ⟨h', m⟩ := h.set_P (t := R.time) ha hr hts hrk nd
  exact w_sfldK h.hP cl na (of_decide_eq_true rfl) (k _ h' m)
theorem range_get {n : Nat} {f : Nat → V} {j : Nat} {y : V} (h : ((List.range n).map f)[j]? = some y) : j < n ∧ y = f j := by
  rw [List.getElem?_map] at h
  by_cases hj : j < n
  · rw [List.getElem?_range hj] at h
    exact ⟨hj, (Option.some.inj h).symm⟩
  · rw [List.getElem?_eq_none (by simp; omega)] at h
    cases h
end
theorem Mv.low {lo lo' hi : Nat} {rl rl' : Addr → Nat} {H H' : Hp} (h : lo' ≤ lo) (m : Mv lo hi rl H rl' H') : Mv lo' hi rl H rl' H' := ⟨m.ag, fun b o e r n => m.kp b o e (by
  rcases r with r | r | r
  · exact .inl r
  · exact .inr (.inl (Nat.lt_of_lt_of_le r h))
  · exact .inr (.inr r)) n, m.gr⟩
/-! ### the rules, on the mirror's stamps and stations -/
def spGreater (K : PySem.W.Frag) : Sp := fun vs H Q _ => ∃ (a b : Addr) (n m n' m' : Int), vs = [.ref a, .ref b] ∧ SqT K H a [.int n, .int m] ∧ SqT K H b [.int n', .int m'] ∧ Q (.bl (gr n m n' m')) H
def spNextOn (K : PySem.W.Frag) : Sp := fun vs H Q _ => ∃ (a : Addr) (on : Nat → Bool) (many p : Nat), vs = [.ref a, .int (p : Int)] ∧ SqL K H a ((List.range many).map fun i => .bl (on i)) ∧ p < many ∧ many ≤ 12 ∧ (∃ x, x < many ∧ on x = true) ∧ Q (.int (RG.nx on many p : Int)) H
def spLimit : Sp := fun vs H Q _ => ∃ (m k : Nat), vs = [.int (m : Int), .int (k : Int)] ∧ m ≤ 12 ∧ Q (.int (RG.limit m k : Int)) H
/-! ### a row of a token's loss; the order of tokens -/
section
variable {Z : Ad} {c : Nat} {rl : Addr → Nat} {H H' : Hp} {A : RgA} {R : RG.Ring} {Q : VK}
theorem RgAt.w_row (h : RgAt Z c rl H A R) {a : Addr} {x : RG.Rw} (ha : H a = some (.tup (rwV x))) (hl : R.rw.length ≤ 10000000) (k : ∀ rs' H', RgAt Z c rl H' { A with rs := rs' } { R with rw := R.rw ++ [x] } → Mw (c + 3) (c + 4) rl H rl H' → Q .non H') : rAppend (.ref A.lr) [.ref a] H Q :=
  w_append h.hlr (Nat.lt_of_le_of_lt (show _ ≤ 10000000 by rw [h.rs_len]; exact hl) (by decide)) (k _ _ (h.add_row ha).1 (h.add_row ha).2)
end
def spRNote (Z : Ad) (c : Nat) : Sp := fun vs H Q _ => ∃ (A : RgA) (rl : Addr → Nat) (R : RG.Ring) (p : Addr) (t : RG.Tok), vs = [.ref A.P, .ref p] ∧ RgAt Z c rl H A R ∧ TokAt Z.Token H p (tokS t) ∧ R.rw.length ≤ 10000000 ∧
  ∀ rs' H', RgAt Z c rl H' { A with rs := rs' } { R with rw := R.rw ++ [.lost R.time t.sp] } → Mw (c + 3) (c + 4) rl H rl H' → Q .non H'
/-- how many of these are greater -/
def grN (t : RG.Tok) (l : List RG.Tok) : Nat := (l.filter fun u => RG.slt t.sp u.sp).length
theorem grN_le (t : RG.Tok) (l : List RG.Tok) : grN t l ≤ l.length := List.length_filter_le _ _
theorem ins_at {t : RG.Tok} : ∀ {l : List RG.Tok}, (l.Pairwise fun a b => RG.slt b.sp a.sp = true) → (∀ u, u ∈ l → u.sp ≠ t.sp) → RG.insTok t l = l.take (grN t l) ++ [t] ++ l.drop (grN t l)
  | [], _, _ => rfl
  | u :: l, hp, hn => by
    rw [List.pairwise_cons] at hp
    rw [RG.insTok]
    by_cases c : RG.slt u.sp t.sp = true
    · rw [if_pos c]
      have z : grN t (u :: l) = 0 := by
        unfold grN
        rw [List.length_eq_zero_iff, List.filter_eq_nil_iff]
        intro x mx e
        rcases List.mem_cons.mp mx with rfl | mx
        · have := RG.slt_asym c
          rw [this] at e
          cases e
        · have h1 := RG.slt_tr e (hp.1 x mx)
          rw [RG.slt_asym c] at h1
          cases h1
      rw [z]
      rfl
    · rw [if_neg c]
      have c' : RG.slt t.sp u.sp = true := by
        rcases RG.slt_or (eq_false_of_ne_true c) with e | e
        · exact absurd e (hn u (List.mem_cons_self ..))
        · exact e
      have z : grN t (u :: l) = grN t l + 1 := by
        unfold grN
        rw [List.filter_cons_of_pos (by exact c')]
        rfl
      rw [z, ins_at hp.2 fun x mx => hn x (List.mem_cons_of_mem _ mx)]
      rfl
theorem each_ins {α β : Type} {P : α → β → Prop} {a : α} {b : β} (hab : P a b) : ∀ {as : List α} {bs : List β} (n : Nat), PySem.W.EachIs P as bs → PySem.W.EachIs P (as.take n ++ [a] ++ as.drop n) (bs.take n ++ [b] ++ bs.drop n)
  | _, _, 0, h => .cons hab h
  | _, _, n + 1, .nil => .cons hab .nil
  | _, _, n + 1, .cons h t => .cons h (each_ins hab n t)
theorem grN_succ {t u : RG.Tok} {l : List RG.Tok} {i : Nat} (h : l[i]? = some u) : grN t (l.take (i + 1)) = grN t (l.take i) + (if RG.slt t.sp u.sp = true then 1 else 0) := by
  unfold grN
  rw [List.take_add_one, h, List.filter_append, List.length_append]
  by_cases c : RG.slt t.sp u.sp = true
  · rw [if_pos c]
    show _ + (List.filter _ [u]).length = _
    rw [List.filter_cons_of_pos (by exact c)]
    rfl
  · rw [if_neg c]
    show _ + (List.filter _ [u]).length = _
    rw [List.filter_cons_of_neg (by exact c)]
    rfl
def spRAdd (Z : Ad) (c : Nat) : Sp := fun vs H Q _ => ∃ (A : RgA) (rl : Addr → Nat) (R : RG.Ring) (p : Addr) (t : RG.Tok), vs = [.ref A.P, .ref p] ∧ RgAt Z c rl H A R ∧ TokAt Z.Token H p (tokS t) ∧ rl p = c + 4 ∧ p ∉ A.tk ∧
  (R.tk.Pairwise fun a b => RG.slt b.sp a.sp = true) ∧ (∀ u, u ∈ R.tk → u.sp ≠ t.sp) ∧ R.tk.length ≤ 10000 ∧
  ∀ as H', RgAt Z c rl H' { A with tk := as } { R with tk := RG.insTok t R.tk } → Mw (c + 2) (c + 3) rl H rl H' → Q .non H'
section
variable {P : Program} {w : World} {K : PySem.W.Frag} {mg : Str → Option Value} {base : Heap} {Z : Ad}
theorem ok_greater (T : Txt K mg Z) : FnOk P w K mg base CX0 1 Z.greater Z.greater_d ["one", "other"] (spGreater K) := by
  refine T.F_greater.ok sc_greater (fun vs H Q E h => ?_) (fun cdv A outer s H vs Q E hr h => ?_)
  · obtain ⟨a, b, n, m, n', m', rfl, _⟩ := h
    rfl
  · obtain ⟨a, b, n, m, n', m', rfl, ha, hb, k⟩ := h
    refine ⟨_, (pss_cons (ps_if (pt_cmpR op_ne (pe_ix (r := rIx K) ix_seq (pv 0) pe_int (fun _ _ => rfl)) (pe_ix (r := rIx K) ix_seq (pv 1) pe_int (fun _ _ => rfl)) (nomark _))
        (pss_one (ps_ret (pe_cmpR op_gt (pe_ix (r := rIx K) ix_seq (pv 0) pe_int (fun _ _ => rfl)) (pe_ix (r := rIx K) ix_seq (pv 1) pe_int (fun _ _ => rfl)) (nomark _))))
        pss_nil)
      (pss_one (ps_ret (pe_cmpR op_gt (pe_ix (r := rIx K) ix_seq (pv 0) pe_int (fun _ _ => rfl)) (pe_ix (r := rIx K) ix_seq (pv 1) pe_int (fun _ _ => rfl)) (nomark _))))), ?_⟩
    k_allIn
    refine ite2 (fun e => ?_) (fun e => ?_)
    · k_allIn
      have c : ¬ n = n' := fun q => by subst q; simp at e
      unfold gr at k
      rw [if_neg c] at k
      exact k
    · k_allIn
      have c : n = n' := by simpa using e
      unfold gr at k
      rw [if_pos c] at k
      exact k
theorem nxF_none {on : Nat → Bool} {many p : Nat} : ∀ {k i : Nat}, RG.nxF on many p i k = none → ∀ j, i ≤ j → j < i + k → on ((p + j) % many) = false := fun {k i} h j h1 h2 => by
  cases e : on ((p + j) % many) with
  | false => rfl
  | true =>
    obtain ⟨x, hx⟩ := RG.nxF_ex h1 h2 e
    rw [h] at hx
    cases hx
theorem ok_next_on (T : Txt K mg Z) : FnOk P w K mg base CX0 1 Z.next_on Z.next_on_d ["on", "at"] (spNextOn K) := by
  refine T.F_next_on.ok sc_next_on (fun vs H Q E h => ?_) (fun cdv A outer s H vs Q E hr h => ?_)
  · obtain ⟨a, on, many, p, rfl, _⟩ := h
    rfl
  · obtain ⟨a, on, many, p, rfl, ha, hp, h12, hex, k⟩ := h
    refine ⟨_, (pss_cons (ps_set (i := 2) sc_next_on.nd rfl (Or.inl rfl) (pe_callB (r := rLenS K) call_lenS (by rfl) T.n_len PySem.boot_len (pa_cons (pv 0) pa_nil)))
      (pss_cons (ps_for PassesOwn.never rfl (pi_range2 (by rfl) T.n_range (pa_cons pe_int (pa_cons (pe_op op_add (pv 2) pe_int) pa_nil))) (pg_name (i := 3) sc_next_on.nd rfl (Or.inl rfl))
        (pss_cons (ps_set (i := 4) sc_next_on.nd rfl (Or.inl rfl) (pe_op op_mod (pe_op op_add (pv 1) (pv 3)) (pv 2)))
        (pss_one (ps_if (k_tr (K := K) (pe_ix (r := rIx K) ix_seq (pv 0) (pv 4) (fun _ _ => rfl)) (fun _ => rfl))
          (pss_one (ps_ret (pv 4)))
          pss_nil))))
      (pss_one (ps_ret pe_non)))), ?_⟩
    k_allIn
    obtain ⟨x, hx⟩ : ∃ x, RG.nxO on many p = some x := by
      obtain ⟨j, _, _, _, h, _⟩ := RG.nx_spec hex hp
      exact ⟨_, h⟩
    have ek : RG.nx on many p = x := by unfold RG.nx; rw [hx]; rfl
    rw [ek] at k
    rw [List.length_map, List.length_range]
    k_allIn
    refine for_range (fun i σ H' => ∃ v3 v4, σ = [some (.ref a), some (.int (p : Int)), some (.int (many : Int)), v3, v4] ∧ H' = H ∧ RG.nxF on many p (1 + i) (many - i) = some x) ⟨none, none, rfl, rfl, hx⟩ ?_ ?_
    · rintro i σ H' hi ⟨v3, v4, rfl, rfl, e⟩
      have hi' : i < many := by omega
      have hpos : (0 : Int) < (many : Int) := by omega
      have hlt : (p + (1 + i)) % many < many := Nat.mod_lt _ (by omega)
      have ek : many - i = (many - (i + 1)) + 1 := by omega
      rw [ek, RG.nxF] at e
      have ei : (p : Int) + (1 + (i : Int)) = ((p + (1 + i) : Nat) : Int) := by omega
      k_allIn
      rw [ei, ← Int.natCast_emod]
      refine w_ixL ha (lst_at _ hlt) ?_
      k_allIn
      refine ite2 (fun c => ?_) (fun c => ?_)
      · k_allIn
        rw [if_pos c] at e
        cases e
        exact k
      · k_allIn
        rw [if_neg c] at e
        exact ⟨_, _, rfl, rfl, by rw [show 1 + (i + 1) = 1 + i + 1 by omega]; exact e⟩
    · rintro σ H' ⟨v3, v4, rfl, rfl, e⟩
      exfalso
      have e0 : many - ((many : Int) + 1 - 1).toNat = 0 := by omega
      rw [e0] at e
      cases e
theorem ok_limit (T : Txt K mg Z) : FnOk P w K mg base CX0 1 Z.limit Z.limit_d ["many", "station"] spLimit := by
  refine T.F_limit.ok sc_limit (fun vs H Q E h => ?_) (fun cdv A outer s H vs Q E hr h => ?_)
  · obtain ⟨m, j, rfl, _⟩ := h
    rfl
  · obtain ⟨m, j, rfl, h12, k⟩ := h
    refine ⟨_, (pss_one (ps_ret (pe_op op_add (pe_op op_add (pv 0) pe_int) (pe_op op_mul (pe_op op_mul pe_int (pv 0)) (pv 1))))), ?_⟩
    k_allIn
    refine w_mulL (by omega) ?_
    k_allIn
    have e : ((RG.limit m j : Nat) : Int) = (m : Int) + 1 + 2 * (m : Int) * (j : Int) := by unfold RG.limit; push_cast; rfl
    rw [e] at k
    exact k
theorem ok_Ring__note_lost (T : Txt K mg Z) (c : Nat) : FnOk P w K mg base CX0 1 Z.Ring__note_lost Z.Ring__note_lost_d ["self", "token"] (spRNote Z c) := by
  refine T.F_Ring__note_lost.ok sc_Ring__note_lost (fun vs H Q E h => ?_) (fun cdv A outer s H vs Q E hr h => ?_)
  · obtain ⟨A, rl, R, p, t, rfl, _⟩ := h
    rfl
  · obtain ⟨A, rl, R, p, t, rfl, hA, ⟨dx, bv, ht, _⟩, hl, k⟩ := h
    refine ⟨_, (pss_one (ps_expr (k_bm (K := K) PySem.F.plainAttrs_list PySem.F.slot_list_append PySem.F.type_list_append mt_append (k_fld (K := K) (pv 0) rfl) (pa_cons (pe_tup (pa_cons pe_str (pa_cons (k_fld (K := K) (pv 0) rfl) (pa_cons (k_fld (K := K) (pv 1) rfl) (pa_cons (k_fld (K := K) (pv 1) rfl) pa_nil))))) pa_nil)))), ?_⟩
    have hc := T.cl_Ring
    have hc2 := T.cl_Token
    have n1 := T.a_Ring_rows
    have n2 := T.a_Ring_time
    have n3 := T.a_Token_number
    have n4 := T.a_Token_maker
    have hP := hA.hP
    have hlr := hA.hlr
    k_allIn
    refine w_newS (by simp) fun q H1 nq s1 e1 => ?_
    have h1 := hA.mono s1
    k_allIn
    refine h1.w_row (x := .lost R.time t.sp) e1 hl fun rs' H2 h2 m2 => ?_
    k_allIn
    exact k rs' H2 h2 ((Mw.of s1).trans m2)
theorem ok_Ring__add_token (T : Txt K mg Z) (c : Nat) : FnOk P w K mg base CX0 2 Z.Ring__add_token Z.Ring__add_token_d ["self", "token"] (spRAdd Z c) := by
  have G_greater := ok_greater (P := P) (w := w) (base := base) T
  have G_Token_stamp := ok_Token_stamp (P := P) (w := w) (base := base) T
  refine T.F_Ring__add_token.ok sc_Ring__add_token (fun vs H Q E h => ?_) (fun cdv A outer s H vs Q E hr h => ?_)
  · obtain ⟨A, rl, R, p, t, rfl, _⟩ := h
    rfl
  · obtain ⟨A, rl, R, p, t, rfl, hA, ht, hrp, hnp, hpw, hne, hlen, k⟩ := h
    refine ⟨_, (pss_cons (ps_set (i := 2) sc_Ring__add_token.nd rfl (Or.inl rfl) pe_int)
      (pss_cons (ps_for PassesOwn.never rfl (k_list (K := K) (k_fld (K := K) (pv 0) rfl)) (pg_name (i := 3) sc_Ring__add_token.nd rfl (Or.inl rfl))
        (pss_one (ps_if (k_tr (K := K) (pe_call G_greater (hr.mono (by omega)) rfl T.g_greater T.F_greater.kp T.b_greater .nil pass0 (pa_cons (pe_meth0 (pv 3) T.cl_Token T.m_Token_stamp G_Token_stamp (hr.mono (by omega)) T.b_Token_stamp .nil pass0) (pa_cons (pe_meth0 (pv 1) T.cl_Token T.m_Token_stamp G_Token_stamp (hr.mono (by omega)) T.b_Token_stamp .nil pass0) pa_nil))) (fun _ => rfl))
          (pss_one (ps_aug (i := 2) sc_Ring__add_token.nd rfl (Or.inl rfl) pe_int ip_add))
          pss_nil)))
      (pss_one (ps_expr (k_bm (K := K) PySem.F.plainAttrs_list PySem.F.slot_list_insert PySem.F.type_list_insert (r := rInsert) mt_insert (k_fld (K := K) (pv 0) rfl) (pa_cons (pv 2) (pa_cons (pv 1) pa_nil))))))), ?_⟩
    have hc := T.cl_Ring
    have hc2 := T.cl_Token
    have n1 := T.a_Ring_tokens
    have hP := hA.hP
    k_allIn
    refine w_iLK (SqL.of hA.hlt) ?_
    refine for_list (xs := A.tk.map V.ref) (fun i σ H' => ∃ v3, σ = [some (.ref A.P), some (.ref p), some (.int (grN t (R.tk.take i) : Int)), v3] ∧ Same H H') ⟨none, rfl, Same.refl _⟩ (fun i σ H' _ ⟨_, _, s⟩ => SqL.of (s _ _ hA.hlt)) ?_ ?_
    · rintro i y σ H1 hy ⟨v3, rfl, s1⟩
      obtain ⟨q, hq, rfl⟩ := get_map hy
      obtain ⟨u, hu, hqu⟩ := each_get hA.htk hq
      have g := grN_succ (t := t) hu
      obtain ⟨dq, bq, hqo, _⟩ := id (hqu.mono s1).ob
      k_allIn
      refine ⟨q, tokS u, rfl, hqu.mono s1, fun a1 H2 na1 s2 e1 => ?_⟩
      obtain ⟨dp, bp, hpo, _⟩ := id (ht.mono (s1.trans s2)).ob
      k_allIn
      refine ⟨p, tokS t, rfl, ht.mono (s1.trans s2), fun a2 H3 na2 s3 e2 => ?_⟩
      k_allIn
      refine ⟨a1, a2, _, _, _, _, rfl, SqT.of (s3 _ _ e1), SqT.of e2, ?_⟩
      rw [show gr (tokS u).num (tokS u).mkr (tokS t).num (tokS t).mkr = RG.slt t.sp u.sp from gr_slt t.sp u.sp]
      have s4 := (s1.trans s2).trans s3
      k_allIn
      refine ite2 (fun cc => ?_) (fun cc => ?_)
      · rw [if_pos cc] at g
        k_allIn
        refine ⟨some (.ref q), ?_, s4⟩
        rw [g]
        rfl
      · rw [if_neg cc] at g
        k_allIn
        refine ⟨some (.ref q), ?_, s4⟩
        rw [g]
        rfl
    · rintro σ H1 ⟨v3, rfl, s1⟩
      have h1 := hA.mono s1
      have hP := h1.hP
      have hlt := h1.hlt
      have e : List.take (A.tk.map V.ref).length R.tk = R.tk := by
        rw [List.length_map, hA.tk_len, List.take_length]
      rw [e]
      have hg := grN_le t R.tk
      k_allIn
      refine w_insert h1.hlt (Nat.lt_of_le_of_lt (show _ ≤ 10000 by rw [List.length_map, hA.tk_len]; exact hlen) (by decide)) (by omega) ?_
      have ei : (A.tk.map V.ref).take (grN t R.tk) ++ [V.ref p] ++ (A.tk.map V.ref).drop (grN t R.tk) = (A.tk.take (grN t R.tk) ++ [p] ++ A.tk.drop (grN t R.tk)).map V.ref := by simp [List.map_take, List.map_drop]
      rw [ei]
      have hts := each_ins (a := p) (b := t) (P := fun p t => TokAt Z.Token H1 p (tokS t)) (ht.mono s1) (grN t R.tk) h1.htk
      rw [← ins_at hpw hne] at hts
      have hmem : ∀ x, x ∈ A.tk.take (grN t R.tk) ++ [p] ++ A.tk.drop (grN t R.tk) → x = p ∨ x ∈ A.tk := fun x mx => by
        rcases List.mem_append.mp mx with mx | mx
        · rcases List.mem_append.mp mx with mx | mx
          · exact .inr (List.mem_of_mem_take mx)
          · exact .inl (List.mem_singleton.mp mx)
        · exact .inr (List.mem_of_mem_drop mx)
      have hnd : (A.tk.take (grN t R.tk) ++ [p] ++ A.tk.drop (grN t R.tk)).Nodup := by
        have hp : (A.tk.take (grN t R.tk) ++ [p] ++ A.tk.drop (grN t R.tk)).Perm (p :: A.tk) := by
          have h1 : (A.tk.take (grN t R.tk) ++ [p] ++ A.tk.drop (grN t R.tk)).Perm ([p] ++ A.tk.take (grN t R.tk) ++ A.tk.drop (grN t R.tk)) := List.Perm.append_right _ List.perm_append_comm
          refine h1.trans ?_
          rw [List.append_assoc, List.take_append_drop]
          exact List.Perm.refl _
        exact hp.nodup_iff.mpr (List.nodup_cons.mpr ⟨hnp, hA.nd⟩)
      obtain ⟨h2, m2⟩ := h1.set_lt hts (fun x mx => by
        rcases hmem x mx with rfl | mx
        · exact hrp
        · exact hA.r4 x mx) hnd
      k_allIn
      exact k _ _ h2 ((Mw.of s1).trans m2)
end
/-! ### a token made; a token that comes -/
theorem i_neT {x y : V} {C D : Prop} (h : x ≠ y) (k : C) : if (!decide (x = y)) = true then C else D := by rw [decide_eq_false h]; exact k
structure SmR (A A' : RgA) : Prop where
  P : A'.P = A.P
  dx : A'.dx = A.dx
  ls : A'.ls = A.ls
  lt : A'.lt = A.lt
  lr : A'.lr = A.lr
  sp : A'.sp = A.sp
  lw : A'.lw = A.lw
theorem SmR.refl (A : RgA) : SmR A A := ⟨rfl, rfl, rfl, rfl, rfl, rfl, rfl⟩
theorem SmR.trans {A B C : RgA} (a : SmR A B) (b : SmR B C) : SmR A C := ⟨b.P.trans a.P, b.dx.trans a.dx, b.ls.trans a.ls, b.lt.trans a.lt, b.lr.trans a.lr, b.sp.trans a.sp, b.lw.trans a.lw⟩
def spRMake (Z : Ad) (c : Nat) : Sp := fun vs H Q _ => ∃ (A : RgA) (rl : Addr → Nat) (R : RG.Ring) (i : Nat), vs = [.ref A.P, .int (i : Int)] ∧ RgAt Z c rl H A R ∧ RG.WF R ∧ i < R.many ∧ R.tk.length ≤ 10000 ∧ R.rw.length ≤ 10000000 ∧
  ∀ A' rl' H', RgAt Z c rl' H' A' (RG.born R i) → SmR A A' → Mw (c + 2) (c + 300) rl H rl' H' → Q .non H'
def spRDrop (Z : Ad) (c : Nat) : Sp := fun vs H Q _ => ∃ (A : RgA) (rl : Addr → Nat) (R : RG.Ring) (p : Addr) (t : RG.Tok) (i : Nat), vs = [.ref A.P, .ref p, .int (i : Int)] ∧ RgAt Z c rl H A R ∧ TokAt Z.Token H p (tokS t) ∧ i < R.many ∧
  ∀ H', Same H H' → Q (.bl (RG.slt t.sp (R.st i).seen)) H'
def spSentBy (Z : Ad) : Sp := fun vs H Q _ => ∃ (p l q : Addr) (s : StSt) (row : Row) (t : TokSt), vs = [.ref p, .ref q] ∧ StAt Z.Station H p l s row ∧ TokAt Z.Token H q t ∧ p ≠ q ∧
  (∀ e row', row = e :: row' → t.win = some t.at_ → ∀ H1 H', TokAt Z.Token H1 q { t with win := none } → Fr H H1 [q] → StAt Z.Station H' p l { s with told := 0 } row' → Fr H1 H' [p, l] → Q (.ref e.1) H') ∧
  ((row = [] ∨ t.win ≠ some t.at_) → Q .non H)
def spRRecv (Z : Ad) (c : Nat) : Sp := fun vs H Q _ => ∃ (A : RgA) (rl : Addr → Nat) (R : RG.Ring) (p : Addr) (k : Nat) (t : RG.Tok) (here : Nat), vs = [.ref A.P, .ref p, .int (here : Int)] ∧ RgAt Z c rl H A R ∧ A.tk[k]? = some p ∧ R.tk[k]? = some t ∧ here < R.many ∧ R.rw.length ≤ 10000000 ∧
  ∀ rs' H', RgAt Z c rl H' { A with rs := rs' } (srvd (stS R here { R.st here with seen := t.sp }) k here t) → Mw (c + 3) (c + 300) rl H rl H' → Q .non H'
theorem RgAt.tk_in {Z : Ad} {c : Nat} {rl : Addr → Nat} {H : Hp} {A : RgA} {R : RG.Ring} (h : RgAt Z c rl H A R) {x : Addr} (m : x ∈ A.tk) : H x ≠ none := by
  obtain ⟨_, _, e⟩ := h.htk.left x m
  obtain ⟨_, _, e⟩ := e.cut
  rw [e]
  intro z
  cases z
theorem StnOk.mk' {C : Addr} {H : Hp} {p l : Addr} {s : RG.Stn} {r : Row} {sil : Int} (h : StAt C H p l ⟨s.on, (s.seen.1 : Int), (s.seen.2 : Int), sil, (s.told : Int)⟩ r) (h1 : s.on = true → sil = (s.sil : Int)) (h2 : r.map (·.2) = s.line) : StnOk C H p l s := ⟨sil, r, h, h1, h2⟩
section
variable {P : Program} {w : World} {K : PySem.W.Frag} {mg : Str → Option Value} {base : Heap} {Z : Ad}
theorem ok_Ring__make_token (T : Txt K mg Z) (c : Nat) : FnOk P w K mg base CX0 3 Z.Ring__make_token Z.Ring__make_token_d ["self", "at"] (spRMake Z c) := by
  have G_Token_init := ok_Token_init (P := P) (w := w) (base := base) T
  have G_Token_stamp := ok_Token_stamp (P := P) (w := w) (base := base) T
  have G_Ring__add_token := ok_Ring__add_token (P := P) (w := w) (base := base) T c
  refine T.F_Ring__make_token.ok sc_Ring__make_token (fun vs H Q E h => ?_) (fun cdv A outer s H vs Q E hr h => ?_)
  · obtain ⟨A, rl, R, i, rfl, _⟩ := h
    rfl
  · obtain ⟨A, rl, R, i, rfl, hA, W, hi, hlt, hlr, k⟩ := h
    refine ⟨_, (pss_cons (ps_set (i := 2) sc_Ring__make_token.nd rfl (Or.inl rfl) (pe_ix (r := rIx K) ix_seq (k_fld (K := K) (pv 0) rfl) (pv 1) (fun _ _ => rfl)))
      (pss_cons (ps_set (i := 3) sc_Ring__make_token.nd rfl (Or.inl rfl) (pe_make T.M_Token G_Token_init (hr.mono (by omega)) rfl T.g_Token T.b_Token_init .nil pass0 (pa_cons (pe_op op_add (pe_ix (r := rIx K) ix_seq (k_fld (K := K) (pv 2) rfl) pe_int (fun _ _ => rfl)) pe_int) (pa_cons (pv 1) (pa_cons (pv 1) pa_nil)))))
      (pss_cons (k_sfld (K := K) (pv 2) (pe_meth0 (pv 3) T.cl_Token T.m_Token_stamp G_Token_stamp (hr.mono (by omega)) T.b_Token_stamp .nil pass0) rfl)
      (pss_cons (k_sfld (K := K) (pv 2) pe_int rfl)
      (pss_cons (ps_expr (pe_meth (pv 0) T.cl_Ring T.m_Ring__add_token G_Ring__add_token (hr.mono (by omega)) T.b_Ring__add_token .nil pass0 (pa_cons (pv 3) pa_nil)))
      (pss_one (ps_expr (k_bm (K := K) PySem.F.plainAttrs_list PySem.F.slot_list_append PySem.F.type_list_append mt_append (k_fld (K := K) (pv 0) rfl) (pa_cons (pe_tup (pa_cons pe_str (pa_cons (k_fld (K := K) (pv 0) rfl) (pa_cons (pv 1) (pa_cons (k_fld (K := K) (pv 3) rfl) pa_nil))))) pa_nil))))))))), ?_⟩
    have hc := T.cl_Ring
    have hc1 := T.cl_Station
    have hc2 := T.cl_Token
    have n1 := T.a_Ring_stations
    have n2 := T.a_Ring_rows
    have n3 := T.a_Ring_time
    have n4 := T.a_Station_seen
    have n6 := T.a_Token_number
    have hP := hA.hP
    k_allIn
    refine w_ixL (SqL.of hA.hls) (lst_at _ hi) ?_
    obtain ⟨sil, row, ⟨⟨dx, sa, hp, hsa⟩, hl, hm⟩, h5, h6⟩ := hA.hst i hi
    k_allIn
    clear n4
    refine fun x dx' nx ndx _ => ⟨x, dx', _, _, _, rfl, upd_same, fun H1 tk1 fr1 => ⟨rfl, ?_⟩⟩
    have s1 : Same H H1 := Fr.same (same_born nx ndx) fr1 (fun y m => by cases List.mem_singleton.mp m; exact nx)
    obtain ⟨dx1, bv1, ex1, _⟩ := id tk1.ob
    have h1 := hA.role (c + 4) s1 nx ex1 fun _ z => (nomatch z)
    have r1 : rlN rl x (c + 4) x = c + 4 := rlN_at ..
    have m1 : Mw (c + 2) (c + 300) rl H (rlN rl x (c + 4)) H1 := .role s1 nx
    have hx : x ∉ A.tk := fun mx => hA.tk_in mx nx
    generalize rlN rl x (c + 4) = rl1 at *
    have hp1 := s1 _ _ hp
    k_allIn
    refine ⟨x, _, rfl, tk1, fun q H2 nq s2 e2 => ?_⟩
    have h2 := h1.mono s2
    k_allIn
    refine h2.w_seen (p := ((R.st i).seen.1 + 1, i)) hi e2 hc1 T.a_Station_seen fun H3 h3 m3 => ?_
    k_allIn
    refine h3.w_sil (v := 0) hi hc1 T.a_Station_silence fun H4 h4 m4 => ?_
    rw [stS_stS] at h4
    simp only [stS_at] at h4
    have m34 := m3.trans m4
    have tk4 : TokAt Z.Token H4 x (tokS ⟨((R.st i).seen.1 + 1, i), i, none, none⟩) := TokAt.mvd (tk1.mono s2) (fun d fs e => m34.out e (.inl (by rw [r1]; omega))) (fun b xs e => m34.tup e)
    have hP := h4.hP
    k_allIn
    refine ⟨A, rl1, _, x, _, rfl, h4, tk4, r1, hx, W.srt, W.fresh i, hlt, fun as H5 h5 m5 => ?_⟩
    have hP := h5.hP
    have hlr5 := h5.hlr
    obtain ⟨d5, b5, e5, _⟩ := (tk4.mvd (fun d fs e => m5.out e (.inr (by rw [r1]; omega))) (fun b xs e => m5.tup e) : TokAt Z.Token H5 x _).ob
    k_allIn
    refine w_newS (by simp) fun q2 H6 nq2 s6 e6 => ?_
    have h6 := h5.mono s6
    k_allIn
    refine h6.w_row (x := .made R.time i ((R.st i).seen.1 + 1)) e6 hlr fun rs' H7 h7 m7 => ?_
    k_allIn
    exact k _ rl1 H7 h7 ⟨rfl, rfl, rfl, rfl, rfl, rfl, rfl⟩ (m1.trans ((Mw.of s2).trans ((m34.wide (by omega) (by omega)).trans ((m5.wide (by omega) (by omega)).trans ((Mw.of s6).trans (m7.wide (by omega) (by omega)))))))
theorem ok_Ring__is_dropped (T : Txt K mg Z) (c : Nat) : FnOk P w K mg base CX0 2 Z.Ring__is_dropped Z.Ring__is_dropped_d ["self", "token", "at"] (spRDrop Z c) := by
  have G_Token_stamp := ok_Token_stamp (P := P) (w := w) (base := base) T
  have G_greater := ok_greater (P := P) (w := w) (base := base) T
  refine T.F_Ring__is_dropped.ok sc_Ring__is_dropped (fun vs H Q E h => ?_) (fun cdv A outer s H vs Q E hr h => ?_)
  · obtain ⟨A, rl, R, p, t, i, rfl, _⟩ := h
    rfl
  · obtain ⟨A, rl, R, p, t, i, rfl, hA, ht, hi, k⟩ := h
    refine ⟨_, (pss_one (ps_ret (pe_call G_greater (hr.mono (by omega)) rfl T.g_greater T.F_greater.kp T.b_greater .nil pass0 (pa_cons (k_fld (K := K) (pe_ix (r := rIx K) ix_seq (k_fld (K := K) (pv 0) rfl) (pv 2) (fun _ _ => rfl)) rfl) (pa_cons (pe_meth0 (pv 1) T.cl_Token T.m_Token_stamp G_Token_stamp (hr.mono (by omega)) T.b_Token_stamp .nil pass0) pa_nil))))), ?_⟩
    have hc := T.cl_Ring
    have hc1 := T.cl_Station
    have hc2 := T.cl_Token
    have n1 := T.a_Ring_stations
    have n4 := T.a_Station_seen
    have hP := hA.hP
    k_allIn
    refine w_ixL (SqL.of hA.hls) (lst_at _ hi) ?_
    obtain ⟨sil, row, ⟨⟨dx, sa, hp, hsa⟩, hl, hm⟩, h5, h6⟩ := hA.hst i hi
    obtain ⟨d2, b2, e2, _⟩ := id ht.ob
    k_allIn
    refine ⟨p, _, rfl, ht, fun q H1 nq s1 e1 => ?_⟩
    k_allIn
    refine ⟨sa, q, _, _, _, _, rfl, SqT.of (s1 _ _ hsa), SqT.of e1, ?_⟩
    rw [show gr ((R.st i).seen.1 : Int) ((R.st i).seen.2 : Int) (tokS t).num (tokS t).mkr = RG.slt t.sp (R.st i).seen from gr_slt t.sp (R.st i).seen]
    exact k _ s1
theorem ok_sent_by (T : Txt K mg Z) : FnOk P w K mg base CX0 2 Z.sent_by Z.sent_by_d ["station", "token"] (spSentBy Z) := by
  have G_Station_need := ok_Station_need (P := P) (w := w) (base := base) T
  have G_Station_send := ok_Station_send (P := P) (w := w) (base := base) T
  refine T.F_sent_by.ok sc_sent_by (fun vs H Q E h => ?_) (fun cdv A outer s H vs Q E hr h => ?_)
  · obtain ⟨p, l, q, s, row, t, rfl, _⟩ := h
    rfl
  · obtain ⟨p, l, q, s, row, t, rfl, hs, ht, npq, k1, k2⟩ := h
    refine ⟨_, (pss_cons (ps_if (PW.pt (pw_or (pt_cmpR op_ne (k_fld (K := K) (pv 1) rfl) (k_fld (K := K) (pv 1) rfl) (nomark _)) (pw_or1 (pt_cmpR op_isNo (pe_meth0 (pv 0) T.cl_Station T.m_Station_need G_Station_need (hr.mono (by omega)) T.b_Station_need .nil pass0) pe_non (nomark _)))))
        (pss_one (ps_ret pe_non))
        pss_nil)
      (pss_cons (k_sfld (K := K) (pv 1) pe_non rfl)
      (pss_one (ps_ret (pe_meth0 (pv 0) T.cl_Station T.m_Station_send G_Station_send (hr.mono (by omega)) T.b_Station_send .nil pass0))))), ?_⟩
    have hc1 := T.cl_Station
    have hc2 := T.cl_Token
    have n1 := T.a_Token_winner
    have n2 := T.a_Token_at
    obtain ⟨dx, bv, hq, hb⟩ := id ht.ob
    obtain ⟨⟨dxp, sa, hp, hsa⟩, hl, hm⟩ := id hs
    obtain ⟨num, mkr, at_, win, best⟩ := t
    cases win with
    | none =>
      k_allIn
      exact k2 (.inr (by intro z; cases z))
    | some v =>
      k_allIn
      by_cases ev : v = at_
      · subst ev
        k_allIn
        show if (!decide (V.int v = V.int v)) = true then _ else _
        k_allIn
        refine ⟨p, l, s, row, rfl, hs, ?_⟩
        cases row with
        | nil =>
          k_allIn
          exact k2 (.inl rfl)
        | cons e row =>
          k_allIn
          have a1 : p ≠ q := npq
          have a2 : l ≠ q := ne_of hl hq (by intro z; cases z)
          have f1 : Fr H (upd H q (.ins Z.Token dx (putF "winner" .non (tkF ⟨num, mkr, v, some v, best⟩ bv)))) [q] := Fr.upd (Fr.refl _ _) (by simp)
          have nt1 : ∀ y, y ∈ [q] → ∀ ys, H y ≠ some (.tup ys) := fun y m ys => by cases List.mem_singleton.mp m; rw [hq]; intro z; cases z
          have hs1 := hs.keep f1 (by simpa using npq) (by simpa using a2) nt1
          have ht1 : TokAt Z.Token (upd H q (.ins Z.Token dx (putF "winner" .non (tkF ⟨num, mkr, v, some v, best⟩ bv)))) q ⟨num, mkr, v, none, best⟩ := ⟨dx, bv, upd_same, hb.keep f1 nt1⟩
          generalize upd H q _ = H1 at *
          obtain ⟨⟨_, _, hp1, _⟩, _, _⟩ := id hs1
          k_allIn
          refine ⟨p, l, s, row, e, rfl, hs1, fun H2 hs2 f2 => ?_⟩
          k_allIn
          exact k1 e row rfl rfl H1 H2 ht1 f1 hs2 f2
      · k_allIn
        show if (!decide (V.int v = V.int at_)) = true then _ else _
        refine i_neT (fun z => ev (by cases z; rfl)) ?_
        k_allIn
        exact k2 (.inr fun z => ev (Option.some.inj z))
end
section
variable {Z : Ad} {c : Nat} {rl : Addr → Nat} {H H' : Hp} {A : RgA} {R : RG.Ring} {K : PySem.W.Frag} {N : Hp → Prop}
/-- a token's place is written -/
theorem RgAt.w_at (h : RgAt Z c rl H A R) {k : Nat} {p : Addr} {t : RG.Tok} {v : Nat} (hk : A.tk[k]? = some p) (ht : R.tk[k]? = some t) (cl : Cls K Z.Token) (na : NoAttr K Z.Token "at")
    (kk : ∀ H', RgAt Z c rl H' A (setT R k { t with pl := v }) → Mw (c + 4) (c + 5) rl H rl H' → N H') : sfldK K "at" (.int (v : Int)) (.ref p) H N := by
  obtain ⟨dx, bv, hp, hb⟩ := h.tok hk ht
  have f : Fr H (upd H p (.ins Z.Token dx (tkF (tokS { t with pl := v }) bv))) [p] := Fr.upd (Fr.refl _ _) (by simp)
  have nt : ∀ y, y ∈ [p] → ∀ ys, H y ≠ some (.tup ys) := fun y m ys => by cases List.mem_singleton.mp m; rw [hp]; intro z; cases z
  obtain ⟨h', m⟩ := h.fr_tok (t' := { t with pl := v }) hk f ⟨dx, bv, upd_same, hb.keep f nt⟩
  exact w_sfldK hp cl na (of_decide_eq_true rfl) (kk _ h' m)
end
theorem tokS_pl (t : RG.Tok) : (tokS t).at_ = (t.pl : Int) := rfl
theorem tokS_win {t : RG.Tok} {here : Nat} : (tokS t).win = some (here : Int) ↔ t.win = some here := by
  show (t.win.map fun n => (n : Int)) = _ ↔ _
  cases t.win with
  | none => simp
  | some v =>
    show some (v : Int) = some (here : Int) ↔ some v = some here
    constructor
    · intro h
      have := Option.some.inj h
      rw [show v = here by omega]
    · intro h
      rw [Option.some.inj h]
/-- what the ring sends as a token comes, and its rows -/
theorem sends_nil {time here : Nat} {t : RG.Tok} {s : RG.Stn} (h : s.line = [] ∨ t.win ≠ some here) : RG.sends time here t s = (t, s, []) := by
  unfold RG.sends
  rcases h with h | h
  · rw [h]
  · split
    · rfl
    · rw [if_neg h]
theorem sends_cons {time here : Nat} {t : RG.Tok} {s : RG.Stn} {e : Int × Int} {r : List (Int × Int)} (h : s.line = e :: r) (hw : t.win = some here) : RG.sends time here t s = ({ t with win := none }, { s with line := r, told := 0 }, [.sent time here e.1 e.2]) := by
  unfold RG.sends
  rw [h]
  exact if_pos hw
section
variable {P : Program} {w : World} {K : PySem.W.Frag} {mg : Str → Option Value} {base : Heap} {Z : Ad}
theorem ok_Ring__receive (T : Txt K mg Z) (c : Nat) : FnOk P w K mg base CX0 3 Z.Ring__receive Z.Ring__receive_d ["self", "token", "at"] (spRRecv Z c) := by
  have G_Token_stamp := ok_Token_stamp (P := P) (w := w) (base := base) T
  have G_Token_begin_round := ok_Token_begin_round (P := P) (w := w) (base := base) T
  have G_Token_hear := ok_Token_hear (P := P) (w := w) (base := base) T
  have G_Station_need := ok_Station_need (P := P) (w := w) (base := base) T
  have G_Station_tell := ok_Station_tell (P := P) (w := w) (base := base) T
  have G_sent_by := ok_sent_by (P := P) (w := w) (base := base) T
  refine T.F_Ring__receive.ok sc_Ring__receive (fun vs H Q E h => ?_) (fun cdv A outer s H vs Q E hr h => ?_)
  · obtain ⟨A, rl, R, p, k, t, here, rfl, _⟩ := h
    rfl
  · obtain ⟨A, rl, R, p, k, t, here, rfl, hA, hk, ht, hh, hlr, kk⟩ := h
    refine ⟨_, (pss_cons (ps_set (i := 3) sc_Ring__receive.nd rfl (Or.inl rfl) (pe_ix (r := rIx K) ix_seq (k_fld (K := K) (pv 0) rfl) (pv 2) (fun _ _ => rfl)))
      (pss_cons (k_sfld (K := K) (pv 3) (pe_meth0 (pv 1) T.cl_Token T.m_Token_stamp G_Token_stamp (hr.mono (by omega)) T.b_Token_stamp .nil pass0) rfl)
      (Evl.pss_cut (ps_if (pt_cmpR op_le (pv 2) (k_fld (K := K) (pv 1) rfl) (nomark _))
        (pss_one (ps_expr (pe_meth0 (pv 1) T.cl_Token T.m_Token_begin_round G_Token_begin_round (hr.mono (by omega)) T.b_Token_begin_round .nil pass0)))
        pss_nil)
      (pss_cons (k_sfld (K := K) (pv 1) (pv 2) rfl)
      (Evl.pss_cut (ps_set (i := 4) sc_Ring__receive.nd rfl (Or.inl rfl) (pe_call G_sent_by (hr.mono (by omega)) rfl T.g_sent_by T.F_sent_by.kp T.b_sent_by .nil pass0 (pa_cons (pv 3) (pa_cons (pv 1) pa_nil))))
      (Evl.pss_cut (ps_if (pt_cmpR op_notNo (pv 4) pe_non (nomark _))
        (pss_cons (ps_asg (pv 4) (k_gtup (K := K) 2 rfl (pgs_cons (pg_name (i := 5) sc_Ring__receive.nd rfl (Or.inl rfl)) (pgs_cons (pg_name (i := 6) sc_Ring__receive.nd rfl (Or.inl rfl)) pgs_nil))))
        (pss_one (ps_expr (k_bm (K := K) PySem.F.plainAttrs_list PySem.F.slot_list_append PySem.F.type_list_append mt_append (k_fld (K := K) (pv 0) rfl) (pa_cons (pe_tup (pa_cons pe_str (pa_cons (k_fld (K := K) (pv 0) rfl) (pa_cons (pv 2) (pa_cons (pv 5) (pa_cons (pv 6) pa_nil)))))) pa_nil)))))
        pss_nil)
      (pss_one (ps_if (pt_cmpR op_notNo (pe_meth0 (pv 3) T.cl_Station T.m_Station_need G_Station_need (hr.mono (by omega)) T.b_Station_need .nil pass0) pe_non (nomark _))
        (pss_one (ps_expr (pe_meth (pv 1) T.cl_Token T.m_Token_hear G_Token_hear (hr.mono (by omega)) T.b_Token_hear .nil pass0 (pa_cons (pe_meth0 (pv 3) T.cl_Station T.m_Station_tell G_Station_tell (hr.mono (by omega)) T.b_Station_tell .nil pass0) (pa_cons (pv 2) pa_nil)))))
        pss_nil)))))))), ?_⟩
    have hc := T.cl_Ring
    have hc1 := T.cl_Station
    have hc2 := T.cl_Token
    have n1 := T.a_Ring_stations
    have n2 := T.a_Ring_rows
    have n3 := T.a_Ring_time
    have n4 := T.a_Token_at
    have hP := hA.hP
    k_allIn
    refine w_ixL (SqL.of hA.hls) (lst_at _ hh) ?_
    obtain ⟨d0, b0, e0, _⟩ := (hA.tok hk ht).ob
    k_allIn
    refine ⟨p, _, rfl, hA.tok hk ht, fun q H1 nq s1 e1 => ?_⟩
    have h1 := hA.mono s1
    obtain ⟨dp, sa, sil, hp, _⟩ := h1.put_stn hh
    k_allIn
    refine h1.w_seen (p := t.sp) hh e1 hc1 T.a_Station_seen fun H2 h2 m2 => ?_
    have m02 : Mw (c + 3) (c + 300) rl H rl H2 := (Mw.of s1).trans (m2.wide (by omega) (by omega))
    generalize hR1 : stS R here { R.st here with seen := t.sp } = R1 at *
    have eh : R1.many = R.many := by rw [← hR1]; rfl
    have et : R1.time = R.time := by rw [← hR1]; rfl
    have er : R1.rw = R.rw := by rw [← hR1]; rfl
    have ht1 : R1.tk[k]? = some t := by rw [← hR1]; exact ht
    have hh1 : here < R1.many := by rw [eh]; exact hh
    obtain ⟨d2, b2, e2, _⟩ := (h2.tok hk ht1).ob
    obtain ⟨dp2, sa2, sil2, hp2, _⟩ := h2.put_stn hh1
    k_allIn
    refine ⟨fun σ' H' => ∃ t1 : RG.Tok, σ' = [some (.ref A.P), some (.ref p), some (.int (here : Int)), some (.ref (A.sp here)), none, none, none] ∧ RgAt Z c rl H' A (setT R1 k t1) ∧ Mw (c + 3) (c + 300) rl H rl H' ∧ { t1 with pl := here } = RG.arrive t here, ?_, ?_⟩
    · k_allIn
      refine ite2 (fun cc => ?_) (fun cc => ?_)
      · have c' : here ≤ t.pl := by
          have := of_decide_eq_true cc
          rw [tokS_pl] at this
          omega
        k_allIn
        refine ⟨p, _, rfl, h2.tok hk ht1, fun H3 tk3 f3 => ?_⟩
        rw [← tokS_begin] at tk3
        obtain ⟨h3, m3⟩ := h2.fr_tok hk f3 tk3
        k_allIn
        refine ⟨_, rfl, h3, m02.trans (m3.wide (by omega) (by omega)), ?_⟩
        unfold RG.arrive
        rw [if_pos c']
      · have c' : ¬ here ≤ t.pl := by
          have : ¬ ((here : Int) ≤ (tokS t).at_) := fun z => cc (decide_eq_true z)
          rw [tokS_pl] at this
          omega
        k_allIn
        refine ⟨t, rfl, ?_, m02, ?_⟩
        · rw [setT_self ht1]; exact h2
        · unfold RG.arrive
          rw [if_neg c']
    · rintro σ' H3 ⟨t1, rfl, h3, m3, ea⟩
      have ht3 : (setT R1 k t1).tk[k]? = some t1 := setT_at ht1
      obtain ⟨d3, b3, e3, _⟩ := (h3.tok hk ht3).ob
      clear n4
      k_allIn
      refine h3.w_at (v := here) hk ht3 hc2 T.a_Token_at fun H4 h4 m4 => ?_
      rw [setT_setT, ea] at h4
      have ht4 : (setT R1 k (RG.arrive t here)).tk[k]? = some (RG.arrive t here) := setT_at ht1
      have epl : (RG.arrive t here).pl = here := by rw [← ea]
      have m04 := m3.trans (m4.wide (lo' := c + 3) (hi' := c + 300) (by omega) (by omega))
      have hh4 : here < (setT R1 k (RG.arrive t here)).many := hh1
      have es4 : (setT R1 k (RG.arrive t here)).st here = R1.st here := rfl
      obtain ⟨sil, row, hst, ho, hrow⟩ := h4.hst here hh4
      obtain ⟨⟨d5, sa5, e5, _⟩, _, _⟩ := id hst
      obtain ⟨d6, b6, e6, _⟩ := (h4.tok hk ht4).ob
      k_allIn
      have npq : A.sp here ≠ p := fun z => by
        have a1 := h4.r5 here hh4
        have a2 := h4.r4 p (List.mem_of_getElem? hk)
        rw [z, a2] at a1
        omega
      refine ⟨fun σ' H' => ∃ mv : V, σ' = [some (.ref A.P), some (.ref p), some (.int (here : Int)), some (.ref (A.sp here)), some mv, none, none] ∧
        RgAt Z c rl H' A (midR R1 k here ((RG.sends R1.time here (RG.arrive t here) (R1.st here)).1, (RG.sends R1.time here (RG.arrive t here) (R1.st here)).2.1, [])) ∧ Mw (c + 3) (c + 300) rl H rl H' ∧
        ((mv = .non ∧ (RG.sends R1.time here (RG.arrive t here) (R1.st here)).2.2 = []) ∨ ∃ (e : Addr) (r m : Int), mv = .ref e ∧ H' e = some (.tup [.int r, .int m]) ∧ (RG.sends R1.time here (RG.arrive t here) (R1.st here)).2.2 = [.sent R1.time here r m]), ?_, ?_⟩
      · k_allIn
        refine ⟨A.sp here, A.lw here, p, _, row, _, rfl, hst, h4.tok hk ht4, npq, fun e row' erow ewin H5 H6 tk5 f5 st6 f6 => ?_, fun hno => ?_⟩
        · rw [show (tokS (RG.arrive t here)).at_ = (here : Int) by rw [tokS_pl, epl]] at ewin
          have ew := tokS_win.mp ewin
          obtain ⟨h5, m5⟩ := h4.fr_tok (t' := { RG.arrive t here with win := none }) hk f5 tk5
          have hline : (R1.st here).line = (e.2 :: row'.map (·.2)) := by rw [← es4, ← hrow, erow]; rfl
          obtain ⟨h6, m6⟩ := h5.fr_stn (s' := { R1.st here with line := row'.map (·.2), told := 0 }) hh1 f6 (fun y my => by simpa using my) ⟨sil, row', st6, ho, rfl⟩
          have m06 := (m04.trans (m5.wide (by omega) (by omega))).trans (m6.wide (lo' := c + 3) (hi' := c + 300) (by omega) (by omega))
          have hme : H6 e.1 = some (.tup [.int e.2.1, .int e.2.2]) := m6.tup (m5.tup (hst.ms e (by rw [erow]; exact List.mem_cons_self ..)))
          have hx := sends_cons (time := R1.time) hline ew
          k_allIn
          refine ⟨.ref e.1, rfl, ?_, m06, .inr ⟨e.1, e.2.1, e.2.2, rfl, hme, by rw [hx]⟩⟩
          rw [hx]
          have e1 : stS (setT (setT R1 k (RG.arrive t here)) k { RG.arrive t here with win := none }) here { R1.st here with line := row'.map (·.2), told := 0 } = midR R1 k here ({ RG.arrive t here with win := none }, { R1.st here with line := row'.map (·.2), told := 0 }, []) := by
            rw [setT_setT]
            unfold stS setT midR
            simp
          rw [← e1]
          exact h6
        · have hx := sends_nil (time := R1.time) (here := here) (t := RG.arrive t here) (s := R1.st here) (by
            rcases hno with hno | hno
            · left
              rw [← es4, ← hrow, hno]
              rfl
            · right
              intro z
              exact hno (by rw [show (tokS (RG.arrive t here)).at_ = (here : Int) by rw [tokS_pl, epl]]; exact tokS_win.mpr z))
          k_allIn
          refine ⟨.non, rfl, ?_, m04, .inl ⟨rfl, by rw [hx]⟩⟩
          rw [hx]
          show RgAt Z c rl H4 A (midR R1 k here (RG.arrive t here, R1.st here, []))
          rw [midR_0]
          exact h4
      · generalize hx : RG.sends R1.time here (RG.arrive t here) (R1.st here) = x at *
        obtain ⟨t5, s5, r5⟩ := x
        rintro σ' H5 ⟨mv, rfl, h5, m5, hmv⟩
        have hP := h5.hP
        have hlr5 := h5.hlr
        k_allIn
        refine ⟨fun σ' H' => ∃ (rs' : List V) (v4 v5 v6 : Option V), σ' = [some (.ref A.P), some (.ref p), some (.int (here : Int)), some (.ref (A.sp here)), v4, v5, v6] ∧ RgAt Z c rl H' { A with rs := rs' } (midR R1 k here (t5, s5, r5)) ∧ Mw (c + 3) (c + 300) rl H rl H', ?_, ?_⟩
        · rcases hmv with ⟨rfl, hr5⟩ | ⟨e, r, m, rfl, he, hr5⟩
          · k_allIn
            refine ⟨A.rs, _, _, _, rfl, ?_, m5⟩
            have : r5 = [] := hr5
            rw [this]
            exact h5
          · k_allIn
            refine w_newS (by simp) fun q6 H6 nq6 s6 e6 => ?_
            have h6 := h5.mono s6
            k_allIn
            refine h6.w_row (x := .sent R1.time here r m) e6 (by show (R1.rw ++ []).length ≤ _; rw [List.append_nil, er]; exact hlr) fun rs' H7 h7 m7 => ?_
            k_allIn
            refine ⟨rs', _, _, _, rfl, ?_, m5.trans ((Mw.of s6).trans (m7.wide (by omega) (by omega)))⟩
            have : r5 = _ := hr5
            rw [this]
            have e7 : midR R1 k here (t5, s5, [RG.Rw.sent R1.time here r m]) = { midR R1 k here (t5, s5, []) with rw := (midR R1 k here (t5, s5, [])).rw ++ [.sent R1.time here r m] } := by
              unfold midR
              simp
            rw [e7]
            exact h7
        · rintro σ' H6 ⟨rs', v4, v5, v6, rfl, h6, m6⟩
          have hh6 : here < (midR R1 k here (t5, s5, r5)).many := hh1
          have es6 : (midR R1 k here (t5, s5, r5)).st here = s5 := RG.up_same ..
          have ht6 : (midR R1 k here (t5, s5, r5)).tk[k]? = some t5 := setT_at ht1
          obtain ⟨sil6, row6, hst6, ho6, hrow6⟩ := h6.hst here hh6
          obtain ⟨⟨d6, sa6, e6, _⟩, _, _⟩ := id hst6
          rw [es6] at hrow6
          have eS : srvd R1 k here t = midR R1 k here ((RG.tells here t5 s5).1, (RG.tells here t5 s5).2, r5) := by
            unfold srvd sent1 midR
            rw [hx]
          rw [eS] at kk
          obtain ⟨d7, b7, e7, _⟩ := (h6.tok hk ht6).ob
          k_allIn
          refine ⟨A.sp here, A.lw here, _, row6, rfl, hst6, ?_⟩
          cases row6 with
          | nil =>
            have hl : s5.line = [] := hrow6.symm
            have ht : RG.tells here t5 s5 = (t5, s5) := by unfold RG.tells; rw [hl]
            k_allIn
            rw [ht] at kk
            exact kk rs' H6 h6 m6
          | cons e row7 =>
            have hl : s5.line = e.2 :: row7.map (·.2) := hrow6.symm
            have ht : RG.tells here t5 s5 = (RG.hear t5 (e.2.1 + s5.told) here, { s5 with told := s5.told + 1 }) := by unfold RG.tells; rw [hl]
            rw [ht] at kk
            k_allIn
            refine ⟨A.sp here, A.lw here, _, row7, e, rfl, hst6, fun H7 st7 f7 => ?_⟩
            rw [es6] at st7 ho6
            obtain ⟨h7, m7⟩ := h6.fr_stn (s' := { s5 with told := s5.told + 1 }) hh6 f7 (fun y my => .inl (List.mem_singleton.mp my)) ⟨sil6, e :: row7, st7, ho6, hl.symm⟩
            rw [stS_mid] at h7
            k_allIn
            refine ⟨p, tokS t5, _, _, rfl, h7.tok hk ht6, fun H8 tk8 f8 => ?_⟩
            have e8 : hearT (tokS t5) (e.2.1 + ((midR R1 k here (t5, s5, r5)).st here).told) (here : Int) = tokS (RG.hear t5 (e.2.1 + s5.told) here) := by
              rw [es6, tokS_hear]
            rw [e8] at tk8
            obtain ⟨h8, m8⟩ := h7.fr_tok hk f8 tk8
            rw [setT_mid] at h8
            k_allIn
            exact kk rs' H8 h8 (m6.trans ((m7.wide (by omega) (by omega)).trans (m8.wide (by omega) (by omega))))
end
def spRMove (Z : Ad) (c : Nat) : Sp := fun vs H Q _ => ∃ (A : RgA) (rl : Addr → Nat) (R : RG.Ring), vs = [.ref A.P] ∧ RgAt Z c rl H A { R with time := R.time + 1 } ∧ RG.WF R ∧ R.tk.length ≤ 1000 ∧ R.rw.length ≤ 5000000 ∧ c + 1000 ≤ 9999 ∧
  ∀ A' rl' H' HD, RgAt Z c rl' H' A' { many := R.many, st := (RG.went R).st, tk := (RG.went R).left, rw := (RG.went R).rw, time := R.time + 1 } → A'.P = A.P → H' HD = some (lstN R.many fun i => .bl ((RG.went R).hd i)) → c + 1000 ≤ rl' HD → H HD = none → Mw c (c + 300) rl H rl' H' → Q (.ref HD) H'
def spRCount (Z : Ad) (c : Nat) : Sp := fun vs H Q _ => ∃ (A : RgA) (rl : Addr → Nat) (R : RG.Ring) (HD : Addr) (a : RG.Acc), vs = [.ref A.P, .ref HD] ∧ RgAt Z c rl H A R ∧ R.st = a.st ∧ H HD = some (lstN R.many fun i => .bl (a.hd i)) ∧ c + 1000 ≤ rl HD ∧
  ∀ H', RgAt Z c rl H' A { R with st := RG.silent a } → Mw (c + 100) (c + 300) rl H rl H' → Q .non H'
def spREnd (Z : Ad) (c : Nat) : Sp := fun vs H Q _ => ∃ (A : RgA) (rl : Addr → Nat) (R : RG.Ring), vs = [.ref A.P] ∧ RgAt Z c rl H A (RG.moved R) ∧ RG.WF R ∧ R.tk.length ≤ 1000 ∧ R.rw.length ≤ 5000000 ∧
  ∀ A' rl' H', RgAt Z c rl' H' A' (RG.step R) → A'.P = A.P → Mw c (c + 300) rl H rl' H' → Q .non H'
def spRStep (Z : Ad) (c : Nat) : Sp := fun vs H Q _ => ∃ (A : RgA) (rl : Addr → Nat) (R : RG.Ring), vs = [.ref A.P] ∧ RgAt Z c rl H A R ∧ RG.WF R ∧ R.tk.length ≤ 1000 ∧ R.rw.length ≤ 5000000 ∧ c + 1000 ≤ 9999 ∧
  ∀ A' rl' H', RgAt Z c rl' H' A' (RG.step R) → A'.P = A.P → Mw c (c + 300) rl H rl' H' → Q .non H'
section
variable {P : Program} {w : World} {K : PySem.W.Frag} {mg : Str → Option Value} {base : Heap} {Z : Ad}
theorem ok_Ring__move_tokens (T : Txt K mg Z) (c : Nat) : FnOk P w K mg base CX0 4 Z.Ring__move_tokens Z.Ring__move_tokens_d ["self"] (spRMove Z c) := by
  have G_next_on := ok_next_on (P := P) (w := w) (base := base) T
  have G_Ring__is_dropped := ok_Ring__is_dropped (P := P) (w := w) (base := base) T c
  have G_Ring__receive := ok_Ring__receive (P := P) (w := w) (base := base) T c
  refine T.F_Ring__move_tokens.ok sc_Ring__move_tokens (fun vs H Q E h => ?_) (fun cdv A outer s H vs Q E hr h => ?_)
  · obtain ⟨A, rl, R, rfl, _⟩ := h
    rfl
  · obtain ⟨A, rl, R, rfl, hA, W, hft, hfr, hcc, kk⟩ := h
    refine ⟨_, (pss_cons (ps_setLc (i := 1) (own := [("station", 6)]) (g := gName 6) rfl sc_Ring__move_tokens.nd rfl rfl (sw_true rfl rfl rfl (by decide +kernel)) (k_list (K := K) (k_fld (K := K) (pv 0) rfl)) (blkOk_by (own := [("station", 6)]) (N := ["self", "on", "heard", "left", "token", "at", "station"]) (sc := defScope s_Ring__move_tokens) (by decide +kernel)) (fun _ _ _ _ _ => pg_name (i := 6) sc_Ring__move_tokens.nd rfl (Or.inl rfl)) (fun _ _ _ _ _ => pts_nil) (fun _ _ _ _ _ => (k_fld (K := K) (pv 6) rfl)))
      (pss_cons (ps_set (i := 2) sc_Ring__move_tokens.nd rfl (Or.inl rfl) (pe_op op_rep (pe_lst (pa_cons pe_bl pa_nil)) (pe_callB (r := rLenS K) call_lenS (by rfl) T.n_len PySem.boot_len (pa_cons (pv 1) pa_nil))))
      (pss_cons (ps_set (i := 3) sc_Ring__move_tokens.nd rfl (Or.inl rfl) (pe_lst pa_nil))
      (pss_cons (ps_for PassesOwn.never rfl (k_list (K := K) (k_fld (K := K) (pv 0) rfl)) (pg_name (i := 4) sc_Ring__move_tokens.nd rfl (Or.inl rfl))
        (pss_cons (ps_set (i := 5) sc_Ring__move_tokens.nd rfl (Or.inl rfl) (pe_call G_next_on (hr.mono (by omega)) rfl T.g_next_on T.F_next_on.kp T.b_next_on .nil pass0 (pa_cons (pv 1) (pa_cons (k_fld (K := K) (pv 4) rfl) pa_nil))))
        (pss_cons (ps_asg pe_bl (pg_sub (pv 2) (pv 5) set_list))
        (pss_one (ps_if (k_tr (K := K) (pe_meth (pv 0) T.cl_Ring T.m_Ring__is_dropped G_Ring__is_dropped (hr.mono (by omega)) T.b_Ring__is_dropped .nil pass0 (pa_cons (pv 4) (pa_cons (pv 5) pa_nil))) (fun _ => rfl))
          (pss_one (ps_expr (k_bm (K := K) PySem.F.plainAttrs_list PySem.F.slot_list_append PySem.F.type_list_append mt_append (k_fld (K := K) (pv 0) rfl) (pa_cons (pe_tup (pa_cons pe_str (pa_cons (k_fld (K := K) (pv 0) rfl) (pa_cons (pv 5) (pa_cons (k_fld (K := K) (pv 4) rfl) (pa_cons (k_fld (K := K) (pv 4) rfl) pa_nil)))))) pa_nil))))
          (pss_cons (ps_expr (pe_meth (pv 0) T.cl_Ring T.m_Ring__receive G_Ring__receive (hr.mono (by omega)) T.b_Ring__receive .nil pass0 (pa_cons (pv 4) (pa_cons (pv 5) pa_nil))))
          (pss_one (ps_expr (k_bm (K := K) PySem.F.plainAttrs_list PySem.F.slot_list_append PySem.F.type_list_append mt_append (pv 3) (pa_cons (pv 4) pa_nil))))))))))
      (pss_cons (k_sfld (K := K) (pv 0) (pv 3) rfl)
      (pss_one (ps_ret (pv 2)))))))), ?_⟩
    have hc := T.cl_Ring
    have hc1 := T.cl_Station
    have hc2 := T.cl_Token
    have n1 := T.a_Ring_stations
    have n2 := T.a_Ring_rows
    have n3 := T.a_Ring_time
    have n4 := T.a_Token_at
    have n5 := T.a_Station_on
    have n6 := T.a_Token_number
    have n7 := T.a_Token_maker
    have n8 := T.a_Ring_tokens
    have hmany : R.many ≤ 12 := hA.many
    have hP := hA.hP
    k_allIn
    refine w_iLK (SqL.of hA.hls) ?_
    refine fun D hD => ?_
    refine lc_list (K := K) (a := A.ls) (xs := (List.range R.many).map fun i => .ref (A.sp i)) (Pv := fun j H' => Same H H' ∧ H' D = some (.lst ((List.range j).map fun i => V.bl (R.st i).on))) ⟨same_new hD, upd_same⟩ (fun j H' _ ⟨s, _⟩ => SqL.of (s _ _ hA.hls)) ?_ ?_
    · rintro j y H1 hy ⟨s1, e1⟩
      obtain ⟨hj, rfl⟩ := range_get hy
      have h1 := hA.mono s1
      obtain ⟨dp, sa, sil, hp, _⟩ := h1.put_stn (i := j) hj
      k_allIn
      refine ⟨rfl, ?_⟩
      k_allIn
      refine ⟨_, e1, small (by rw [List.length_map, List.length_range]; omega), same_mut s1 hD, ?_⟩
      rw [upd_same, List.range_succ, List.map_append]
      rfl
    · rintro H1 ⟨s1, e1⟩
      rw [List.length_map, List.length_range] at e1
      have h1 := hA.mono s1
      k_allIn
      refine w_newS (by simp) fun f0 H2 nf0 s2 e2 => ?_
      k_allIn
      rw [List.length_map, List.length_range]
      refine w_rep e2 hmany fun HD H3 nHD s3 e3 => ?_
      k_allIn
      refine w_newS (by simp) fun LL H4 nLL s4 e4 => ?_
      have s14 : Same H1 H4 := (s2.trans s3).trans s4
      have nLL1 : H1 LL = none := by
        cases e : H1 LL with
        | none => rfl
        | some o => rw [s3 _ _ (s2 _ _ e)] at nLL; cases nLL
      have nHD1 : H1 HD = none := by
        cases e : H1 HD with
        | none => rfl
        | some o => rw [s2 _ _ e] at nHD; cases nHD
      have nD : ∀ {x}, H1 x = none → H x = none := fun {x} n => by
        cases e : H x with
        | none => rfl
        | some o => rw [s1 _ _ e] at n; cases n
      have h4 := h1.role (c + 2) s14 nLL1 e4 fun _ z => (nomatch z)
      have r4 : rlN rl LL (c + 2) LL = c + 2 := rlN_at ..
      have hne : HD ≠ LL := ne_of_none e3 nLL
      have hneD : D ≠ LL := ne_of_none e1 nLL1
      have r4' : c + 1000 ≤ rlN rl LL (c + 2) HD := by
        rw [rlN_ne _ _ hne, h1.dfl HD (.inl nHD1)]
        exact hcc
      have r4D : c + 1000 ≤ rlN rl LL (c + 2) D := by
        rw [rlN_ne _ _ hneD, hA.dfl D (.inl hD)]
        exact hcc
      have m14 : Mw c (c + 300) rl H (rlN rl LL (c + 2)) H4 := .role (s1.trans s14) (nD nLL1)
      have nT : A.lt ≠ LL := ne_of_none h1.hlt nLL1
      have e4h := s4 _ _ e3
      have e4D := s14 _ _ e1
      have hP := h4.hP
      generalize rlN rl LL (c + 2) = rl4 at *
      k_allIn
      refine w_iLK (SqL.of h4.hlt) ?_
      refine for_list (xs := A.tk.map V.ref) (fun n σ H' => ∃ (rs' : List V) (ts : List RG.Tok) (ks : List Addr) (v4 v5 : Option V), σ = [some (.ref A.P), some (.ref D), some (.ref HD), some (.ref LL), v4, v5, none] ∧ RgAt Z c rl4 H' { A with rs := rs' } (goR R n ts) ∧ Mw c (c + 300) rl H rl4 H' ∧ ts.length = R.tk.length ∧ (∀ j, n ≤ j → ts[j]? = R.tk[j]?) ∧
        H' D = some (lstN R.many fun i => .bl (R.st i).on) ∧ H' HD = some (lstN R.many fun i => .bl ((accOf R n).hd i)) ∧ H' LL = some (.lst (ks.map V.ref)) ∧ Kept A.tk ts n ks (accOf R n).left)
        ⟨A.rs, R.tk, [], none, none, rfl, h4, m14, rfl, fun _ _ => rfl, e4D, e4h, e4, ⟨.nil, List.nodup_nil⟩⟩ (fun n σ H' _ ⟨rs', ts, ks, v3, v4, _, h', _⟩ => SqL.of h'.hlt) ?_ ?_
      · rintro n y σ H5 hy ⟨rs5, ts, ks, v4, v5, rfl, h5, m5, hlen, hrest, eD, eHD, eLL, hks⟩
        obtain ⟨p, hp, rfl⟩ := get_map hy
        obtain ⟨t, ht, _⟩ := each_get hA.htk hp
        have htR : R.tk[n]? = some t := ht
        have htn : ts[n]? = some t := (hrest n (Nat.le_refl _)).trans htR
        have hnl : n < R.tk.length := (List.getElem?_eq_some_iff.mp htR).1
        have g := acc_gi W n (by omega)
        have hpl := W.pl t (List.mem_of_getElem? htR)
        have hex : ∃ x, x < R.many ∧ (fun i => (R.st i).on) x = true := ⟨t.pl, hpl⟩
        have hhl : RG.nx (fun i => (R.st i).on) R.many t.pl < R.many := RG.nx_lt hex hpl.1
        have eon : (fun i => ((accOf R n).st i).on) = fun i => (R.st i).on := funext g.on
        obtain ⟨dp, bp, ep, _⟩ := (h5.tok (k := n) hp htn).ob
        k_allIn
        refine ⟨D, fun i => (R.st i).on, R.many, t.pl, rfl, SqL.of eD, hpl.1, hmany, hex, ?_⟩
        have ha1 := acc_succ htR
        generalize hh : RG.nx (fun i => (R.st i).on) R.many t.pl = here at *
        k_allIn
        refine w_setL eHD rfl (lst_len _ hhl) ?_
        have dHL : LL ≠ HD := fun e => by rw [e] at r4; omega
        have dHD : D ≠ HD := fun e => by rw [← e, e1] at nHD1; cases nHD1
        have h7 := h5.far (o' := .lst (((List.range R.many).map fun i => V.bl ((accOf R n).hd i)).set here (.bl true))) eHD (fun _ z => (nomatch z)) r4' fun _ z => (nomatch z)
        have m7 := m5.new (o' := .lst (((List.range R.many).map fun i => V.bl ((accOf R n).hd i)).set here (.bl true))) (nD nHD1) fun _ z => (nomatch z)
        have e7D : upd H5 HD (.lst (((List.range R.many).map fun i => V.bl ((accOf R n).hd i)).set here (.bl true))) HD = some (lstN R.many fun i => .bl (RG.up (accOf R n).hd here true i)) := by
          rw [upd_same, set_upB hhl]
        have e7L : upd H5 HD (.lst (((List.range R.many).map fun i => V.bl ((accOf R n).hd i)).set here (.bl true))) LL = some (.lst (ks.map V.ref)) := upd_at eLL dHL
        have e7o : upd H5 HD (.lst (((List.range R.many).map fun i => V.bl ((accOf R n).hd i)).set here (.bl true))) D = some (lstN R.many fun i => .bl (R.st i).on) := upd_at eD dHD
        generalize upd H5 HD _ = H7 at *
        have hP := h7.hP
        k_allIn
        have hhl' : here < (goR R n ts).many := hhl
        refine ⟨{ A with rs := rs5 }, rl4, _, p, t, here, rfl, h7, h7.tok (k := n) hp htn, hhl', fun H8 s8 => ?_⟩
        have h8 := h7.mono s8
        have hP8 := h8.hP
        have hlr8 := h8.hlr
        rw [show (goR R n ts).st = (accOf R n).st from rfl]
        have hh' : RG.nx (fun i => ((accOf R n).st i).on) R.many t.pl = here := by rw [eon]; exact hh
        obtain ⟨dq, bq, eq8, _⟩ := (h8.tok (k := n) hp htn).ob
        have hrw : (goR R n ts).rw.length ≤ 10000000 := Nat.le_trans (show _ ≤ 5001000 by have := acc_rows R n; show (accOf R n).rw.length ≤ _; omega) (by decide)
        cases hcx : RG.slt t.sp ((accOf R n).st here).seen with
        | true =>
          rw [RG.goTok_drop (by rw [hh']; exact hcx), hh'] at ha1
          k_allIn
          refine w_newS (by simp) fun q0 H9 nq0 s9 e9 => ?_
          have h9 := h8.mono s9
          k_allIn
          refine h9.w_row (x := .drop (R.time + 1) here t.sp) e9 hrw fun rs' H10 h10 m10 => ?_
          k_allIn
          have k10 : ∀ {b : Addr} {xs : List V}, H7 b = some (.lst xs) → (rl4 b < c + 3 ∨ c + 4 ≤ rl4 b) → H10 b = some (.lst xs) := fun e r => m10.out (s9 _ _ (s8 _ _ e)) r
          refine ⟨rs', ts, ks, _, _, rfl, ?_, m7.trans ((Mw.of (s8.trans s9)).trans (m10.wide (by omega) (by omega))), hlen, fun j hj => hrest j (by omega), k10 e7o (.inr (by omega)), ?_, k10 e7L (.inl (by omega)), ?_⟩
          · unfold goR
            rw [ha1]
            exact h10
          · rw [ha1]
            exact k10 e7D (.inr (by omega))
          · rw [ha1]
            exact hks.next
        | false =>
          have hgo : RG.goTok R.many (R.time + 1) (accOf R n) t = { st := RG.up (accOf R n).st here (RG.tells here (RG.sends (R.time + 1) here (RG.arrive t here) { (accOf R n).st here with seen := t.sp }).1 (RG.sends (R.time + 1) here (RG.arrive t here) { (accOf R n).st here with seen := t.sp }).2.1).2, hd := RG.up (accOf R n).hd here true, left := (accOf R n).left ++ [(RG.tells here (RG.sends (R.time + 1) here (RG.arrive t here) { (accOf R n).st here with seen := t.sp }).1 (RG.sends (R.time + 1) here (RG.arrive t here) { (accOf R n).st here with seen := t.sp }).2.1).1], rw := (accOf R n).rw ++ (RG.sends (R.time + 1) here (RG.arrive t here) { (accOf R n).st here with seen := t.sp }).2.2 } := by
            unfold RG.goTok
            simp only [hh', hcx, Bool.false_eq_true, if_false]
          rw [hgo] at ha1
          k_allIn
          refine ⟨{ A with rs := rs5 }, rl4, _, p, n, t, here, rfl, h8, hp, htn, hhl', hrw, fun rs' H9 h9 m9 => ?_⟩
          have k9 : ∀ {b : Addr} {xs : List V}, H7 b = some (.lst xs) → (rl4 b < c + 3 ∨ c + 300 ≤ rl4 b) → H9 b = some (.lst xs) := fun e r => m9.out (s8 _ _ e) r
          have e9L := k9 e7L (.inl (by omega))
          have e9D := k9 e7D (.inr (by omega))
          have e9o := k9 e7o (.inr (by omega))
          k_allIn
          refine w_append e9L (small (show _ ≤ 100000 by rw [List.length_map, hks.ea.length]; have := g.sub.length_le; rw [List.length_map, List.length_map, List.length_take] at this; omega)) ?_
          obtain ⟨h10, m10⟩ := h9.other (o' := .lst (ks.map V.ref ++ [V.ref p])) e9L fix_lst r4 nT fun _ z => (nomatch z)
          k_allIn
          refine ⟨rs', ts.set n (RG.tells here (RG.sends (R.time + 1) here (RG.arrive t here) { (accOf R n).st here with seen := t.sp }).1 (RG.sends (R.time + 1) here (RG.arrive t here) { (accOf R n).st here with seen := t.sp }).2.1).1, ks ++ [p], _, _, rfl, ?_, m7.trans ((Mw.of s8).trans ((m9.wide (by omega) (by omega)).trans (m10.wide (by omega) (by omega)))), by rw [List.length_set]; exact hlen, fun j hj => ?_, upd_at e9o hneD, by rw [ha1]; exact upd_at e9D hne, ?_, ?_⟩
          · unfold goR
            rw [ha1]
            have es : sent1 (stS (goR R n ts) here { (accOf R n).st here with seen := t.sp }) here t = RG.sends (R.time + 1) here (RG.arrive t here) { (accOf R n).st here with seen := t.sp } := by
              unfold sent1
              rw [stS_at]
              rfl
            have h10' : RgAt Z c rl4 (upd H9 LL (.lst (ks.map V.ref ++ [V.ref p]))) { A with rs := rs' } (srvd (stS (goR R n ts) here { (accOf R n).st here with seen := t.sp }) n here t) := h10
            unfold srvd at h10'
            rw [es] at h10'
            simp only [stS, up_up] at h10'
            exact h10'
          · rw [List.getElem?_set, if_neg (by omega)]
            exact hrest j (by omega)
          · rw [upd_same, List.map_append]
            rfl
          · rw [ha1]
            exact hks.add hA.nd hp (by rw [hlen]; exact hnl)
      · rintro σ H5 ⟨rs5, ts, ks, v4, v5, rfl, h5, m5, hlen, hrest, eD, eHD, eLL, hks⟩
        have en : (A.tk.map V.ref).length = R.tk.length := by rw [List.length_map]; exact hA.tk_len
        rw [en] at h5 hrest eHD hks
        unfold goR at h5
        rw [accOf_all] at h5 eHD hks
        have hts : PySem.W.EachIs (fun p t => TokAt Z.Token H5 p (tokS t)) ks (RG.went R).left := hks.ea.mono fun q t ⟨j, _, h2, h3⟩ => h5.tok h2 h3
        have hrk : ∀ q, q ∈ ks → rl4 q = c + 4 := fun q m => by
          obtain ⟨_, _, j, _, h2, _⟩ := hks.ea.left q m
          exact h5.r4 q (List.mem_of_getElem? h2)
        k_allIn
        refine h5.w_tokens eLL r4 hts hrk hks.nd hc T.a_Ring_tokens fun H6 h6 m6 => ?_
        k_allIn
        exact kk _ rl4 H6 HD h6 rfl (m6.out eHD (.inr (by omega))) r4' (nD nHD1) (m5.trans (m6.wide (by omega) (by omega)))
end
section
variable {P : Program} {w : World} {K : PySem.W.Frag} {mg : Str → Option Value} {base : Heap} {Z : Ad}
theorem ok_Ring__count_silence (T : Txt K mg Z) (c : Nat) : FnOk P w K mg base CX0 1 Z.Ring__count_silence Z.Ring__count_silence_d ["self", "heard"] (spRCount Z c) := by
  refine T.F_Ring__count_silence.ok sc_Ring__count_silence (fun vs H Q E h => ?_) (fun cdv A outer s H vs Q E hr h => ?_)
  · obtain ⟨A, rl, R, HD, a, rfl, _⟩ := h
    rfl
  · obtain ⟨A, rl, R, HD, a, rfl, hA, ea, eHD, rHD, kk⟩ := h
    refine ⟨_, (pss_one (ps_for PassesOwn.never rfl (k_enum (K := K) (by rfl) T.n_enumerate (pa_cons (k_fld (K := K) (pv 0) rfl) pa_nil)) (k_gtup (K := K) 2 rfl (pgs_cons (pg_name (i := 2) sc_Ring__count_silence.nd rfl (Or.inl rfl)) (pgs_cons (pg_name (i := 3) sc_Ring__count_silence.nd rfl (Or.inl rfl)) pgs_nil)))
        (pss_one (ps_if (k_tr (K := K) (pe_ix (r := rIx K) ix_seq (pv 1) (pv 2) (fun _ _ => rfl)) (fun _ => rfl))
          (pss_one (k_sfld (K := K) (pv 3) pe_int rfl))
          (pss_one (ps_if (k_tr (K := K) (k_fld (K := K) (pv 3) rfl) (fun _ => rfl))
            (pss_one (k_fldaug (K := K) (pv 3) pe_int in_add))
            pss_nil)))))), ?_⟩
    have hc := T.cl_Ring
    have hc1 := T.cl_Station
    have n1 := T.a_Ring_stations
    have n5 := T.a_Station_on
    have hP := hA.hP
    k_allIn
    refine w_enumK (SqL.of hA.hls) ?_
    refine for_enum (xs := (List.range R.many).map fun i => .ref (A.sp i)) (fun n σ H' => ∃ v2 v3, σ = [some (.ref A.P), some (.ref HD), v2, v3] ∧ RgAt Z c rl H' A { R with st := silK a n } ∧ Mw (c + 100) (c + 300) rl H rl H') ⟨none, none, rfl, ?_, .refl _ _ _ _⟩ (fun n σ H' _ ⟨_, _, _, h', _⟩ => SqL.of h'.hls) ?_ ?_
    · exact hA.st_congr (fun i _ => by rw [ea]; exact if_neg (Nat.not_lt_zero i))
    · rintro n y σ H1 T0 H2 hy ⟨v2, v3, rfl, h1, m1⟩ nT s2 e2
      obtain ⟨hn, rfl⟩ := range_get hy
      have h2 := h1.mono s2
      have hk : silK a n n = a.st n := if_neg (Nat.lt_irrefl n)
      have eHD2 : H2 HD = _ := s2 _ _ (m1.out eHD (.inr (by omega)))
      have hn' : n < ({ R with st := silK a n } : RG.Ring).many := hn
      have fin : ∀ H3 (v2 v3 : Option V), RgAt Z c rl H3 A (stS { R with st := silK a n } n { a.st n with sil := (RG.silent a n).sil }) → Mw (c + 100) (c + 300) rl H2 rl H3 → ∃ v2' v3', [some (V.ref A.P), some (V.ref HD), v2, v3] = [some (V.ref A.P), some (V.ref HD), v2', v3'] ∧ RgAt Z c rl H3 A { R with st := silK a (n + 1) } ∧ Mw (c + 100) (c + 300) rl H rl H3 := fun H3 v2 v3 h3 m3 => by
        refine ⟨v2, v3, rfl, ?_, m1.trans ((Mw.of s2).trans m3)⟩
        have es : stS { R with st := silK a n } n { a.st n with sil := (RG.silent a n).sil } = { R with st := silK a (n + 1) } := by
          unfold stS
          have := silK_up a n
          unfold RG.silent at this ⊢
          simp only
          rw [this]
        rw [← es]
        exact h3
      k_allIn
      refine w_ixL (SqL.of eHD2) (lst_at _ hn) ?_
      k_allIn
      cases hd : a.hd n with
      | true =>
        k_allIn
        refine h2.w_sil (v := 0) hn' hc1 T.a_Station_silence fun H3 h3 m3 => ?_
        k_allIn
        refine fin H3 _ _ ?_ m3
        have e0 : (RG.silent a n).sil = 0 := by unfold RG.silent; simp [hd]
        rw [e0, ← hk]
        exact h3
      | false =>
        obtain ⟨dp, sa, sil, hp, _, ho, _⟩ := h2.put_stn hn'
        have e1 : (RG.silent a n).sil = (a.st n).sil + 1 := by unfold RG.silent; simp [hd]
        rw [show ({ R with st := silK a n } : RG.Ring).st n = a.st n from hk] at hp ho
        k_allIn
        cases hon : (a.st n).on with
        | false =>
          k_allIn
          refine fin H2 _ _ ?_ (.refl _ _ _ _)
          rw [← hk]
          exact h2.sil_off (by rw [show ({ R with st := silK a n } : RG.Ring).st n = a.st n from hk]; exact hon)
        | true =>
          k_allIn
          refine w_augK hp hc1 T.a_Station_silence rfl ?_
          refine w_c (w_rAdd ?_)
          refine h2.w_augsil (v := (a.st n).sil + 1) hn' (fun H3 h3 m3 => ?_) (fun _ => ?_)
          · k_allIn
            refine fin H3 _ _ ?_ m3
            rw [e1]
            rw [show ({ R with st := silK a n } : RG.Ring).st n = a.st n from hk] at h3
            exact h3
          · rw [ho hon]
            rfl
    · rintro σ H1 ⟨v2, v3, rfl, h1, m1⟩
      k_allIn
      refine kk H1 ?_ m1
      refine h1.st_congr (st' := RG.silent a) fun i hi => ?_
      have hi' : i < R.many := hi
      exact (if_pos (by rw [List.length_map, List.length_range]; exact hi')).symm
theorem ok_Ring__end_silence (T : Txt K mg Z) (c : Nat) : FnOk P w K mg base CX0 4 Z.Ring__end_silence Z.Ring__end_silence_d ["self"] (spREnd Z c) := by
  have G_limit := ok_limit (P := P) (w := w) (base := base) T
  have G_Ring__make_token := ok_Ring__make_token (P := P) (w := w) (base := base) T c
  refine T.F_Ring__end_silence.ok sc_Ring__end_silence (fun vs H Q E h => ?_) (fun cdv A outer s H vs Q E hr h => ?_)
  · obtain ⟨A, rl, R, rfl, _⟩ := h
    rfl
  · obtain ⟨A, rl, R, rfl, hA, W, hft, hfr, kk⟩ := h
    refine ⟨_, (pss_cons (ps_set (i := 1) sc_Ring__end_silence.nd rfl (Or.inl rfl) (pe_callB (r := rLenS K) call_lenS (by rfl) T.n_len PySem.boot_len (pa_cons (k_fld (K := K) (pv 0) rfl) pa_nil)))
      (pss_one (ps_for PassesOwn.never rfl (k_enum (K := K) (by rfl) T.n_enumerate (pa_cons (k_fld (K := K) (pv 0) rfl) pa_nil)) (k_gtup (K := K) 2 rfl (pgs_cons (pg_name (i := 2) sc_Ring__end_silence.nd rfl (Or.inl rfl)) (pgs_cons (pg_name (i := 3) sc_Ring__end_silence.nd rfl (Or.inl rfl)) pgs_nil)))
        (pss_one (ps_if (PW.pt (pw_and (k_tr (K := K) (k_fld (K := K) (pv 3) rfl) (fun _ => rfl)) (pw_and1 (pt_cmpR op_gt (k_fld (K := K) (pv 3) rfl) (pe_call G_limit (hr.mono (by omega)) rfl T.g_limit T.F_limit.kp T.b_limit .nil pass0 (pa_cons (pv 1) (pa_cons (pv 2) pa_nil))) (nomark _)))))
          (pss_one (ps_expr (pe_meth (pv 0) T.cl_Ring T.m_Ring__make_token G_Ring__make_token (hr.mono (by omega)) T.b_Ring__make_token .nil pass0 (pa_cons (pv 2) pa_nil))))
          pss_nil))))), ?_⟩
    have hc := T.cl_Ring
    have hc1 := T.cl_Station
    have n1 := T.a_Ring_stations
    have n5 := T.a_Station_on
    have n6 := T.a_Station_silence
    have hP := hA.hP
    have hls := hA.hls
    have hmany : R.many ≤ 12 := hA.many
    k_allIn
    refine w_enumK (SqL.of hA.hls) ?_
    refine for_enum (xs := (List.range R.many).map fun i => .ref (A.sp i)) (fun n σ H' => ∃ (A' : RgA) (rl' : Addr → Nat) (v2 v3 : Option V), σ = [some (.ref A.P), some (.int (R.many : Int)), v2, v3] ∧ RgAt Z c rl' H' A' (rsN R n) ∧ SmR A A' ∧ Mw c (c + 300) rl H rl' H') ⟨A, rl, none, none, ?_, hA, .refl _, .refl _ _ _ _⟩ (fun n σ H' hn ⟨A', rl', _, _, _, h', sm, _⟩ => ?_) ?_ ?_
    · rw [List.length_map, List.length_range]
      rfl
    · have := h'.hls
      rw [(rsN_facts W n (by rw [List.length_map, List.length_range] at hn; exact hn)).1, sm.ls, sm.sp] at this
      exact SqL.of this
    · rintro n y σ H1 T0 H2 hy ⟨A1, rl1, v2, v3, rfl, h1, sm1, m1⟩ nT s2 e2
      obtain ⟨hn, rfl⟩ := range_get hy
      obtain ⟨f1, f2, f3, f4, f5, f6⟩ := rsN_facts W n (by omega)
      have h2 := h1.mono s2
      have hnr : n < (rsN R n).many := by rw [f1]; exact hn
      obtain ⟨dp, sa, sil, hp, _, ho, _⟩ := h2.put_stn hnr
      rw [sm1.sp] at hp
      have stay : RG.bornIf (rsN R n) n = rsN R n → ∃ (A' : RgA) (rl' : Addr → Nat) (v2 v3 : Option V), [some (V.ref A.P), some (.int (R.many : Int)), some (V.int (n : Int)), some (.ref (A.sp n))] = [some (V.ref A.P), some (.int (R.many : Int)), v2, v3] ∧ RgAt Z c rl' H2 A' (rsN R (n + 1)) ∧ SmR A A' ∧ Mw c (c + 300) rl H rl' H2 :=
        fun e => ⟨A1, rl1, _, _, rfl, by rw [rsN_succ, e]; exact h2, sm1, m1.trans (.of s2)⟩
      k_allIn
      cases hon : ((rsN R n).st n).on with
      | false =>
        k_allIn
        exact stay (by unfold RG.bornIf; rw [if_neg]; intro z; rw [hon] at z; cases z.1)
      | true =>
        k_allIn
        refine ⟨R.many, n, rfl, hmany, ?_⟩
        k_allIn
        rw [ho hon]
        refine ite2 (fun cb => ?_) (fun cb => ?_)
        · have hlt : RG.limit (rsN R n).many n < ((rsN R n).st n).sil := by
            have z : ((RG.limit R.many n : Nat) : Int) < (((rsN R n).st n).sil : Int) := of_decide_eq_true cb
            rw [f1]
            omega
          have hP := h2.hP
          rw [sm1.P] at hP
          k_allIn
          refine ⟨A1, rl1, rsN R n, n, by rw [sm1.P]; rfl, h2, f2, hnr, by omega, by omega, fun A3 rl3 H3 h3 sm3 m3 => ?_⟩
          k_allIn
          refine ⟨A3, rl3, _, _, rfl, ?_, sm1.trans sm3, m1.trans ((Mw.of s2).trans (m3.wide (by omega) (by omega)))⟩
          rw [rsN_succ]
          unfold RG.bornIf
          rw [if_pos ⟨hon, hlt⟩]
          exact h3
        · k_allIn
          refine stay ?_
          unfold RG.bornIf
          rw [if_neg]
          rintro ⟨_, z⟩
          apply cb
          apply decide_eq_true
          rw [f1] at z
          show ((RG.limit R.many n : Nat) : Int) < (((rsN R n).st n).sil : Int)
          omega
    · rintro σ H1 ⟨A1, rl1, v2, v3, rfl, h1, sm1, m1⟩
      k_allIn
      refine kk A1 rl1 H1 ?_ sm1.P m1
      rw [List.length_map, List.length_range] at h1
      exact h1
theorem ok_Ring_step (T : Txt K mg Z) (c : Nat) : FnOk P w K mg base CX0 5 Z.Ring_step Z.Ring_step_d ["self"] (spRStep Z c) := by
  have G_Ring__move_tokens := ok_Ring__move_tokens (P := P) (w := w) (base := base) T c
  have G_Ring__count_silence := ok_Ring__count_silence (P := P) (w := w) (base := base) T c
  have G_Ring__end_silence := ok_Ring__end_silence (P := P) (w := w) (base := base) T c
  refine T.F_Ring_step.ok sc_Ring_step (fun vs H Q E h => ?_) (fun cdv A outer s H vs Q E hr h => ?_)
  · obtain ⟨A, rl, R, rfl, _⟩ := h
    rfl
  · obtain ⟨A, rl, R, rfl, hA, W, hft, hfr, hcc, kk⟩ := h
    refine ⟨_, (pss_cons (k_fldaug (K := K) (pv 0) pe_int in_add)
      (pss_cons (ps_set (i := 1) sc_Ring_step.nd rfl (Or.inl rfl) (pe_meth0 (pv 0) T.cl_Ring T.m_Ring__move_tokens G_Ring__move_tokens (hr.mono (by omega)) T.b_Ring__move_tokens .nil pass0))
      (pss_cons (ps_expr (pe_meth (pv 0) T.cl_Ring T.m_Ring__count_silence G_Ring__count_silence (hr.mono (by omega)) T.b_Ring__count_silence .nil pass0 (pa_cons (pv 1) pa_nil)))
      (pss_one (ps_expr (pe_meth0 (pv 0) T.cl_Ring T.m_Ring__end_silence G_Ring__end_silence (hr.mono (by omega)) T.b_Ring__end_silence .nil pass0)))))), ?_⟩
    have hc := T.cl_Ring
    have hP := hA.hP
    k_allIn
    refine w_augK hP hc T.a_Ring_time rfl ?_
    refine w_c (w_rAdd ?_)
    refine hA.w_augtime (t := R.time + 1) fun H1 h1 m1 => ?_
    have hP := h1.hP
    k_allIn
    refine ⟨A, rl, R, rfl, h1, W, hft, hfr, hcc, fun A2 rl2 H2 HD h2 eP2 eHD rHD nHD m2 => ?_⟩
    have hP := h2.hP
    rw [eP2] at hP
    k_allIn
    refine ⟨A2, rl2, _, HD, RG.went R, by rw [eP2]; rfl, h2, rfl, eHD, rHD, fun H3 h3 m3 => ?_⟩
    have hP := h3.hP
    rw [eP2] at hP
    k_allIn
    refine ⟨A2, rl2, R, by rw [eP2]; rfl, h3, W, hft, hfr, fun A4 rl4 H4 h4 eP4 m4 => ?_⟩
    k_allIn
    exact kk A4 rl4 H4 h4 (eP4.trans eP2) ((m1.wide (by omega) (by omega)).trans (m2.trans ((m3.wide (by omega) (by omega)).trans m4)))
end
/-! ### what is refused ahead -/
inductive Thing (H : Hp) : V → Prop
  | int (i : Int) : Thing H (.int i)
  | bl (b : Bool) : Thing H (.bl b)
  | non : Thing H .non
  | str (s : Str) : Thing H (.str s)
  | lst {a : Addr} {xs : List V} (h : H a = some (.lst xs)) : Thing H (.ref a)
  | tup {a : Addr} {xs : List V} (h : H a = some (.tup xs)) : Thing H (.ref a)
theorem Thing.mono {H H' : Hp} {x : V} (s : Same H H') (h : Thing H x) : Thing H' x := by
  cases h with
  | int i => exact .int i
  | bl b => exact .bl b
  | non => exact .non
  | str z => exact .str z
  | lst h => exact .lst (s _ _ h)
  | tup h => exact .tup (s _ _ h)
def isNumB : V → Int → Int → Bool
  | .int i, lo, hi => decide (lo ≤ i ∧ i ≤ hi)
  | _, _, _ => false
theorem numB_nat {x : V} {n : Nat} (h : isNumB x 0 ((n : Int) - 1) = true) : ∃ i : Nat, x = .int (i : Int) ∧ i < n := by
  cases x with
  | int i =>
    have := of_decide_eq_true h
    exact ⟨i.toNat, by rw [show ((i.toNat : Nat) : Int) = i by omega], by omega⟩
  | _ => cases h
theorem numB_int {x : V} {lo hi : Int} (h : isNumB x lo hi = true) : ∃ i : Int, x = .int i ∧ lo ≤ i ∧ i ≤ hi := by
  cases x with
  | int i => exact ⟨i, rfl, of_decide_eq_true h⟩
  | _ => cases h
theorem numB_yes {n i : Nat} (h : i < n) : isNumB (.int (i : Int)) 0 ((n : Int) - 1) = true := decide_eq_true (by omega)
theorem numB_not {n i : Nat} {C : Prop} (h : i < n) (z : isNumB (.int (i : Int)) 0 ((n : Int) - 1) = false) : C := by
  rw [numB_yes h] at z
  cases z
theorem numI_not {i lo hi : Int} {C : Prop} (h : lo ≤ i ∧ i ≤ hi) (z : isNumB (.int i) lo hi = false) : C := by
  rw [show isNumB (.int i) lo hi = true from decide_eq_true h] at z
  cases z
section
variable {σ : St} {H : Hp} {Q : VK} {y z : V} {ta tb tc : TE} {r r' : R2}
def chK (r' : R2) (tc : TE) (σ : St) (y z : V) (H : Hp) (Q : VK) : Prop := ∃ k, z = .bl k ∧ (if k = true then tc σ H fun w' H4 => r' y w' H4 Q else Q (.bl false) H)
theorem w_chain (k : ta σ H fun x H1 => tb σ H1 fun y H2 => r x y H2 fun z H3 => chK r' tc σ y z H3 Q) : tChain r r' ta tb tc σ H Q := k
theorem w_chK {b : Bool} (k : if b = true then tc σ H fun w' H4 => r' y w' H4 Q else Q (.bl false) H) : chK r' tc σ y (.bl b) H Q := ⟨b, rfl, k⟩
end
def spIsNum : Sp := fun vs H Q _ => ∃ (x : V) (lo hi : Int), vs = [x, .int lo, .int hi] ∧ Thing H x ∧ Q (.bl (isNumB x lo hi)) H
def spCkMany (Z : Ad) : Sp := fun vs H Q E => ∃ x : V, vs = [x] ∧ Thing H x ∧ (isNumB x 1 12 = true → Q .non H) ∧ (isNumB x 1 12 = false → E (.ref Z.NoRing) none H)
def spCkStation (Z : Ad) : Sp := fun vs H Q E => ∃ (x : V) (n : Int), vs = [x, .int n] ∧ Thing H x ∧ (isNumB x 0 (n - 1) = true → Q .non H) ∧ (isNumB x 0 (n - 1) = false → E (.ref Z.NoStation) none H)
def spCkPlace (Z : Ad) : Sp := fun vs H Q E => ∃ (x : V) (n : Int), vs = [x, .int n] ∧ Thing H x ∧ (isNumB x 0 (n - 1) = true → Q .non H) ∧ (isNumB x 0 (n - 1) = false → E (.ref Z.NoToken) none H)
def spCkMessage (Z : Ad) : Sp := fun vs H Q E => ∃ x y : V, vs = [x, y] ∧ Thing H x ∧ Thing H y ∧ ((isNumB x 0 7 && isNumB y 0 1000000000) = true → Q .non H) ∧ ((isNumB x 0 7 && isNumB y 0 1000000000) = false → E (.ref Z.NoMessage) none H)
local macro_rules | `(tactic| k_updF) => `(tactic| first
  | with_reducible refine' w_chain ?_
  | with_reducible refine' w_chK ?_)
section
variable {P : Program} {w : World} {K : PySem.W.Frag} {mg : Str → Option Value} {base : Heap} {Z : Ad}
theorem ok_is_number (T : Txt K mg Z) : FnOk P w K mg base CX0 1 Z.is_number Z.is_number_d ["worth", "least", "most"] spIsNum := by
  refine T.F_is_number.ok sc_is_number (fun vs H Q E h => ?_) (fun cdv A outer s H vs Q E hr h => ?_)
  · obtain ⟨x, lo, hi, rfl, _⟩ := h
    rfl
  · obtain ⟨x, lo, hi, rfl, hx, k⟩ := h
    refine ⟨_, (pss_cons (ps_if (PW.pt (pw_or (k_tr (K := K) (pe_callB (r := rIsi K) call_isi (by rfl) T.n_isinstance (by decide +kernel) (pa_cons (pv 0) (pa_cons (pe_bltn (v := .ty "bool") (by rfl) T.n_bool (by decide +kernel) rfl) pa_nil))) (fun _ => rfl)) (pw_or1 (pt_not (k_tr (K := K) (pe_callB (r := rIsi K) call_isi (by rfl) T.n_isinstance (by decide +kernel) (pa_cons (pv 0) (pa_cons (pe_bltn (v := .ty "int") (by rfl) T.n_int (by decide +kernel) rfl) pa_nil))) (fun _ => rfl))))))
        (pss_one (ps_ret pe_bl))
        pss_nil)
      (pss_one (ps_ret (pe_chain op_le op_le (pv 1) (pv 0) (pv 2))))), ?_⟩
    cases hx with
    | int i =>
      k_allIn
      refine isi (.base (.int i)) (b := false) (by decide +kernel) ?_
      k_allIn
      refine isi (.base (.int i)) (b := true) (by decide +kernel) ?_
      k_allIn
      refine ite2 (fun c => ?_) (fun c => ?_)
      · k_allIn
        rw [show isNumB (.int i) lo hi = decide (i ≤ hi) from decide_eq_decide.mpr ⟨fun z => z.2, fun z => ⟨of_decide_eq_true c, z⟩⟩] at k
        exact k
      · rw [show isNumB (.int i) lo hi = false from decide_eq_false fun z => c (decide_eq_true z.1)] at k
        exact k
    | bl b =>
      k_allIn
      refine isi (.base (.bl b)) (b := true) (by decide +kernel) ?_
      k_allIn
      exact k
    | non =>
      k_allIn
      refine isi (.base .non) (b := false) (by decide +kernel) ?_
      k_allIn
      refine isi (.base .non) (b := false) (by decide +kernel) ?_
      k_allIn
      exact k
    | str z =>
      k_allIn
      refine isi (.base (.str z)) (b := false) (by decide +kernel) ?_
      k_allIn
      refine isi (.base (.str z)) (b := false) (by decide +kernel) ?_
      k_allIn
      exact k
    | lst h =>
      k_allIn
      refine isi (.base (.lst h)) (b := false) (by decide +kernel) ?_
      k_allIn
      refine isi (.base (.lst h)) (b := false) (by decide +kernel) ?_
      k_allIn
      exact k
    | tup h =>
      k_allIn
      refine isi (.base (.tup h)) (b := false) (by decide +kernel) ?_
      k_allIn
      refine isi (.base (.tup h)) (b := false) (by decide +kernel) ?_
      k_allIn
      exact k
theorem ok_check_many (T : Txt K mg Z) : FnOk P w K mg base (L2.CX P w) 2 Z.check_many Z.check_many_d ["many"] (spCkMany Z) := by
  have G_is_number := ok_is_number (P := P) (w := w) (base := base) T
  refine T.F_check_many.okX sc_check_many (fun vs H Q E h => ?_) (fun cdv A outer s H vs Q E hr h => ?_)
  · obtain ⟨x, rfl, _⟩ := h
    rfl
  · obtain ⟨x, rfl, hx, k1, k2⟩ := h
    refine ⟨_, (pss_one (ps_if (pt_not (k_tr (K := K) (pe_call G_is_number (hr.mono (by omega)) rfl T.g_is_number T.F_is_number.kp T.b_is_number .nil pass0 (pa_cons (pv 0) (pa_cons pe_int (pa_cons (pe_glob (v := .int 12) (by rfl) T.c_MOST_STATIONS.choose_spec.1 T.c_MOST_STATIONS.choose_spec.2) pa_nil)))) (fun _ => rfl)))
        (pss_one (ps_raise rfl (takes_of rfl rfl rfl rfl) (pmk_own PySem.F.excBase_ValueError T.x_NoRing T.g_NoRing T.k_NoRing (raises_own T.b_NoRing T.t_NoRing) rfl)))
        pss_nil)), ?_⟩
    k_allIn
    refine ⟨x, 1, 12, rfl, hx, ?_⟩
    k_allIn
    cases e : isNumB x 1 12 with
    | true =>
      k_allIn
      exact k1 e
    | false =>
      k_allIn
      exact k2 e
theorem ok_check_station (T : Txt K mg Z) : FnOk P w K mg base (L2.CX P w) 2 Z.check_station Z.check_station_d ["station", "many"] (spCkStation Z) := by
  have G_is_number := ok_is_number (P := P) (w := w) (base := base) T
  refine T.F_check_station.okX sc_check_station (fun vs H Q E h => ?_) (fun cdv A outer s H vs Q E hr h => ?_)
  · obtain ⟨x, n, rfl, _⟩ := h
    rfl
  · obtain ⟨x, n, rfl, hx, k1, k2⟩ := h
    refine ⟨_, (pss_one (ps_if (pt_not (k_tr (K := K) (pe_call G_is_number (hr.mono (by omega)) rfl T.g_is_number T.F_is_number.kp T.b_is_number .nil pass0 (pa_cons (pv 0) (pa_cons pe_int (pa_cons (pe_op op_sub (pv 1) pe_int) pa_nil)))) (fun _ => rfl)))
        (pss_one (ps_raise rfl (takes_of rfl rfl rfl rfl) (pmk_own PySem.F.excBase_ValueError T.x_NoStation T.g_NoStation T.k_NoStation (raises_own T.b_NoStation T.t_NoStation) rfl)))
        pss_nil)), ?_⟩
    k_allIn
    refine ⟨x, 0, n - 1, rfl, hx, ?_⟩
    k_allIn
    cases e : isNumB x 0 (n - 1) with
    | true =>
      k_allIn
      exact k1 e
    | false =>
      k_allIn
      exact k2 e
theorem ok_check_place (T : Txt K mg Z) : FnOk P w K mg base (L2.CX P w) 2 Z.check_place Z.check_place_d ["place", "many"] (spCkPlace Z) := by
  have G_is_number := ok_is_number (P := P) (w := w) (base := base) T
  refine T.F_check_place.okX sc_check_place (fun vs H Q E h => ?_) (fun cdv A outer s H vs Q E hr h => ?_)
  · obtain ⟨x, n, rfl, _⟩ := h
    rfl
  · obtain ⟨x, n, rfl, hx, k1, k2⟩ := h
    refine ⟨_, (pss_one (ps_if (pt_not (k_tr (K := K) (pe_call G_is_number (hr.mono (by omega)) rfl T.g_is_number T.F_is_number.kp T.b_is_number .nil pass0 (pa_cons (pv 0) (pa_cons pe_int (pa_cons (pe_op op_sub (pv 1) pe_int) pa_nil)))) (fun _ => rfl)))
        (pss_one (ps_raise rfl (takes_of rfl rfl rfl rfl) (pmk_own PySem.F.excBase_ValueError T.x_NoToken T.g_NoToken T.k_NoToken (raises_own T.b_NoToken T.t_NoToken) rfl)))
        pss_nil)), ?_⟩
    k_allIn
    refine ⟨x, 0, n - 1, rfl, hx, ?_⟩
    k_allIn
    cases e : isNumB x 0 (n - 1) with
    | true =>
      k_allIn
      exact k1 e
    | false =>
      k_allIn
      exact k2 e
theorem ok_check_message (T : Txt K mg Z) : FnOk P w K mg base (L2.CX P w) 2 Z.check_message Z.check_message_d ["rank", "mark"] (spCkMessage Z) := by
  have G_is_number := ok_is_number (P := P) (w := w) (base := base) T
  refine T.F_check_message.okX sc_check_message (fun vs H Q E h => ?_) (fun cdv A outer s H vs Q E hr h => ?_)
  · obtain ⟨x, y, rfl, _⟩ := h
    rfl
  · obtain ⟨x, y, rfl, hx, hy, k1, k2⟩ := h
    refine ⟨_, (pss_cons (ps_if (pt_not (k_tr (K := K) (pe_call G_is_number (hr.mono (by omega)) rfl T.g_is_number T.F_is_number.kp T.b_is_number .nil pass0 (pa_cons (pv 0) (pa_cons pe_int (pa_cons (pe_glob (v := .int 7) (by rfl) T.c_MOST_RANK.choose_spec.1 T.c_MOST_RANK.choose_spec.2) pa_nil)))) (fun _ => rfl)))
        (pss_one (ps_raise rfl (takes_of rfl rfl rfl rfl) (pmk_own PySem.F.excBase_ValueError T.x_NoMessage T.g_NoMessage T.k_NoMessage (raises_own T.b_NoMessage T.t_NoMessage) rfl)))
        pss_nil)
      (pss_one (ps_if (pt_not (k_tr (K := K) (pe_call G_is_number (hr.mono (by omega)) rfl T.g_is_number T.F_is_number.kp T.b_is_number .nil pass0 (pa_cons (pv 1) (pa_cons pe_int (pa_cons (pe_glob (v := .int 1000000000) (by rfl) T.c_MOST_MARK.choose_spec.1 T.c_MOST_MARK.choose_spec.2) pa_nil)))) (fun _ => rfl)))
        (pss_one (ps_raise rfl (takes_of rfl rfl rfl rfl) (pmk_own PySem.F.excBase_ValueError T.x_NoMessage T.g_NoMessage T.k_NoMessage (raises_own T.b_NoMessage T.t_NoMessage) rfl)))
        pss_nil))), ?_⟩
    k_allIn
    refine ⟨x, 0, 7, rfl, hx, ?_⟩
    k_allIn
    cases e : isNumB x 0 7 with
    | true =>
      rw [e] at k1 k2
      k_allIn
      refine ⟨y, 0, 1000000000, rfl, hy, ?_⟩
      k_allIn
      cases e2 : isNumB y 0 1000000000 with
      | true =>
        rw [e2] at k1
        k_allIn
        exact k1 rfl
      | false =>
        rw [e2] at k2
        k_allIn
        exact k2 rfl
    | false =>
      rw [e] at k2
      k_allIn
      exact k2 rfl
end
/-! ### what is asked of the ring -/
structure FewR (R : RG.Ring) : Prop where
  tk : R.tk.length ≤ 1000
  rw : R.rw.length ≤ 5000000
  ln : ∀ i, i < R.many → (R.st i).line.length ≤ 1000000
abbrev RgQ (Z : Ad) (c : Nat) (rl : Addr → Nat) (H : Hp) (A : RgA) (R' : RG.Ring) (Q : Hp → Prop) : Prop := ∀ (A' : RgA) (rl' : Addr → Nat) (H' : Hp), RgAt Z c rl' H' A' R' → A'.P = A.P → Mw c (c + 300) rl H rl' H' → Q H'
def spRStation (Z : Ad) (c : Nat) : Sp := fun vs H Q E => ∃ (A : RgA) (rl : Addr → Nat) (R : RG.Ring) (x : V), vs = [.ref A.P, x] ∧ RgAt Z c rl H A R ∧ Thing H x ∧
  (∀ i : Nat, x = .int (i : Int) → i < R.many → Q (.ref (A.sp i)) H) ∧ (isNumB x 0 ((R.many : Int) - 1) = false → E (.ref Z.NoStation) none H)
def spRTime (Z : Ad) (c : Nat) : Sp := fun vs H Q _ => ∃ (A : RgA) (rl : Addr → Nat) (R : RG.Ring), vs = [.ref A.P] ∧ RgAt Z c rl H A R ∧ Q (.int (R.time : Int)) H
def onN (R : RG.Ring) (n : Nat) : Nat := ((List.range n).filter fun i => (R.st i).on).length
def spRManyOn (Z : Ad) (c : Nat) : Sp := fun vs H Q _ => ∃ (A : RgA) (rl : Addr → Nat) (R : RG.Ring), vs = [.ref A.P] ∧ RgAt Z c rl H A R ∧ ∀ H', Same H H' → Q (.int (onN R R.many : Int)) H'
def spRTokens (Z : Ad) (c : Nat) : Sp := fun vs H Q _ => ∃ (A : RgA) (rl : Addr → Nat) (R : RG.Ring), vs = [.ref A.P] ∧ RgAt Z c rl H A R ∧ R.tk.length ≤ 1000 ∧
  ∀ (q : Addr) (as : List Addr) (H' : Hp), H q = none → Same H H' → H' q = some (.lst (as.map V.ref)) → PySem.W.EachIs (fun a (t : RG.Tok) => H' a = some (.tup [.int (t.sp.1 : Int), .int (t.sp.2 : Int), .int (t.pl : Int)])) as R.tk → Q (.ref q) H'
def spRRows (Z : Ad) (c : Nat) : Sp := fun vs H Q _ => ∃ (A : RgA) (rl : Addr → Nat) (R : RG.Ring), vs = [.ref A.P] ∧ RgAt Z c rl H A R ∧ ∀ (q : Addr) (H' : Hp), H q = none → Same H H' → H' q = some (.lst A.rs) → Q (.ref q) H'
def spRMsgs (Z : Ad) (c : Nat) : Sp := fun vs H Q E => ∃ (A : RgA) (rl : Addr → Nat) (R : RG.Ring) (x : V), vs = [.ref A.P, x] ∧ RgAt Z c rl H A R ∧ Thing H x ∧
  (∀ (i : Nat) (q : Addr) (as : List Addr) (H' : Hp), x = .int (i : Int) → i < R.many → H q = none → Same H H' → H' q = some (.lst (as.map V.ref)) → PySem.W.EachIs (fun a (e : Int × Int) => H' a = some (.tup [.int e.1, .int e.2])) as (R.st i).line → Q (.ref q) H') ∧ (isNumB x 0 ((R.many : Int) - 1) = false → E (.ref Z.NoStation) none H)
def ndV (s : RG.Stn) : V := match s.line with
  | [] => .non
  | e :: _ => .int (e.1 + s.told)
def spRNeed (Z : Ad) (c : Nat) : Sp := fun vs H Q E => ∃ (A : RgA) (rl : Addr → Nat) (R : RG.Ring) (x : V), vs = [.ref A.P, x] ∧ RgAt Z c rl H A R ∧ Thing H x ∧
  (∀ i : Nat, x = .int (i : Int) → i < R.many → Q (ndV (R.st i)) H) ∧ (isNumB x 0 ((R.many : Int) - 1) = false → E (.ref Z.NoStation) none H)
def spRKnows (Z : Ad) (c : Nat) : Sp := fun vs H Q E => ∃ (A : RgA) (rl : Addr → Nat) (R : RG.Ring) (x : V), vs = [.ref A.P, x] ∧ RgAt Z c rl H A R ∧ Thing H x ∧
  (∀ (i : Nat) (q : Addr), x = .int (i : Int) → i < R.many → H q = some (.tup [.int ((R.st i).seen.1 : Int), .int ((R.st i).seen.2 : Int)]) → Q (.ref q) H) ∧ (isNumB x 0 ((R.many : Int) - 1) = false → E (.ref Z.NoStation) none H)
def spRIsOn (Z : Ad) (c : Nat) : Sp := fun vs H Q E => ∃ (A : RgA) (rl : Addr → Nat) (R : RG.Ring) (x : V), vs = [.ref A.P, x] ∧ RgAt Z c rl H A R ∧ Thing H x ∧
  (∀ i : Nat, x = .int (i : Int) → i < R.many → Q (.bl (R.st i).on) H) ∧ (isNumB x 0 ((R.many : Int) - 1) = false → E (.ref Z.NoStation) none H)
/-! ### what is done to it -/
def spRPut (Z : Ad) (c : Nat) : Sp := fun vs H Q E => ∃ (A : RgA) (rl : Addr → Nat) (R : RG.Ring) (x y z : V), vs = [.ref A.P, x, y, z] ∧ RgAt Z c rl H A R ∧ FewR R ∧ Thing H x ∧ Thing H y ∧ Thing H z ∧
  (∀ (i : Nat) (r m : Int), x = .int (i : Int) → i < R.many → y = .int r → z = .int m → 0 ≤ r ∧ r ≤ 7 → 0 ≤ m ∧ m ≤ 1000000000 → RgQ Z c rl H A (RG.put R i r m) (Q .non)) ∧
  (isNumB x 0 ((R.many : Int) - 1) = false → E (.ref Z.NoStation) none H) ∧ (isNumB x 0 ((R.many : Int) - 1) = true → (isNumB y 0 7 && isNumB z 0 1000000000) = false → E (.ref Z.NoMessage) none H)
def spRLose (Z : Ad) (c : Nat) : Sp := fun vs H Q E => ∃ (A : RgA) (rl : Addr → Nat) (R : RG.Ring) (x : V), vs = [.ref A.P, x] ∧ RgAt Z c rl H A R ∧ FewR R ∧ Thing H x ∧
  (∀ i : Nat, x = .int (i : Int) → i < R.tk.length → RgQ Z c rl H A (RG.lose R i) (Q .non)) ∧ (isNumB x 0 ((R.tk.length : Int) - 1) = false → E (.ref Z.NoToken) none H)
def spRMk (Z : Ad) (c : Nat) : Sp := fun vs H Q E => ∃ (A : RgA) (rl : Addr → Nat) (R : RG.Ring) (x : V), vs = [.ref A.P, x] ∧ RgAt Z c rl H A R ∧ RG.WF R ∧ FewR R ∧ Thing H x ∧
  (∀ i : Nat, x = .int (i : Int) → i < R.many → (R.st i).on = true → RgQ Z c rl H A (RG.born R i) (Q .non)) ∧
  (isNumB x 0 ((R.many : Int) - 1) = false → E (.ref Z.NoStation) none H) ∧ (∀ i : Nat, x = .int (i : Int) → i < R.many → (R.st i).on = false → E (.ref Z.IsOff) none H)
def spROn (Z : Ad) (c : Nat) : Sp := fun vs H Q E => ∃ (A : RgA) (rl : Addr → Nat) (R : RG.Ring) (x : V), vs = [.ref A.P, x] ∧ RgAt Z c rl H A R ∧ Thing H x ∧
  (∀ i : Nat, x = .int (i : Int) → i < R.many → (R.st i).on = false → RgQ Z c rl H A (RG.turnOn R i) (Q .non)) ∧
  (isNumB x 0 ((R.many : Int) - 1) = false → E (.ref Z.NoStation) none H) ∧ (∀ i : Nat, x = .int (i : Int) → i < R.many → (R.st i).on = true → E (.ref Z.IsOn) none H)
def spROff (Z : Ad) (c : Nat) : Sp := fun vs H Q E => ∃ (A : RgA) (rl : Addr → Nat) (R : RG.Ring) (x : V), vs = [.ref A.P, x] ∧ RgAt Z c rl H A R ∧ FewR R ∧ c + 1000 ≤ 9999 ∧ Thing H x ∧
  (∀ i : Nat, x = .int (i : Int) → i < R.many → (R.st i).on = true → RgQ Z c rl H A (RG.off R i) (Q .non)) ∧
  (isNumB x 0 ((R.many : Int) - 1) = false → E (.ref Z.NoStation) none H) ∧ (∀ i : Nat, x = .int (i : Int) → i < R.many → (R.st i).on = false → E (.ref Z.IsOff) none H)
theorem onN_succ (R : RG.Ring) (n : Nat) : onN R (n + 1) = onN R n + (if (R.st n).on = true then 1 else 0) := by
  unfold onN
  rw [List.range_succ, List.filter_append, List.length_append]
  by_cases c : (R.st n).on = true
  · rw [if_pos c, List.filter_cons_of_pos (by exact c)]
    rfl
  · rw [if_neg c, List.filter_cons_of_neg (by exact c)]
    rfl
theorem each_row {H : Hp} : ∀ {row : Row} {l : List (Int × Int)}, (∀ e ∈ row, H e.1 = some (.tup [.int e.2.1, .int e.2.2])) → row.map (·.2) = l → PySem.W.EachIs (fun a (e : Int × Int) => H a = some (.tup [.int e.1, .int e.2])) (row.map (·.1)) l
  | [], _, _, rfl => .nil
  | e :: row, _, h, rfl => .cons (h e (List.mem_cons_self ..)) (each_row (fun x m => h x (List.mem_cons_of_mem _ m)) rfl)
section
variable {P : Program} {w : World} {K : PySem.W.Frag} {mg : Str → Option Value} {base : Heap} {Z : Ad}
theorem ok_Ring__station (T : Txt K mg Z) (c : Nat) : FnOk P w K mg base (L2.CX P w) 3 Z.Ring__station Z.Ring__station_d ["self", "number"] (spRStation Z c) := by
  have G_check_station := ok_check_station (P := P) (w := w) (base := base) T
  refine T.F_Ring__station.okX sc_Ring__station (fun vs H Q E h => ?_) (fun cdv A outer s H vs Q E hr h => ?_)
  · obtain ⟨A, rl, R, x, rfl, _⟩ := h
    rfl
  · obtain ⟨A, rl, R, x, rfl, hA, hx, k1, k2⟩ := h
    refine ⟨_, (pss_cons (ps_expr (pe_call G_check_station (hr.mono (by omega)) rfl T.g_check_station T.F_check_station.kp T.b_check_station .nil (passes_call (takes_of rfl rfl rfl rfl) (fun _ _ _ _ h => h)) (pa_cons (pv 1) (pa_cons (pe_callB (r := rLenS K) call_lenS (by rfl) T.n_len PySem.boot_len (pa_cons (k_fld (K := K) (pv 0) rfl) pa_nil)) pa_nil))))
      (pss_one (ps_ret (pe_ix (r := rIx K) ix_seq (k_fld (K := K) (pv 0) rfl) (pv 1) (fun _ _ => rfl))))), ?_⟩
    have hc := T.cl_Ring
    have n1 := T.a_Ring_stations
    have hP := hA.hP
    have hls := hA.hls
    k_allIn
    refine ⟨x, (R.many : Int), by rw [List.length_map, List.length_range]; rfl, hx, fun e => ?_, k2⟩
    obtain ⟨i, rfl, hi⟩ := numB_nat e
    k_allIn
    refine w_ixL (SqL.of hA.hls) (lst_at _ hi) ?_
    exact k1 i rfl hi
theorem ok_Ring_tokens (T : Txt K mg Z) (c : Nat) : FnOk P w K mg base CX0 1 Z.Ring_tokens Z.Ring_tokens_d ["self"] (spRTokens Z c) := by
  refine T.F_Ring_tokens.ok sc_Ring_tokens (fun vs H Q E h => ?_) (fun cdv A outer s H vs Q E hr h => ?_)
  · obtain ⟨A, rl, R, rfl, _⟩ := h
    rfl
  · obtain ⟨A, rl, R, rfl, hA, hlen, k⟩ := h
    refine ⟨_, (pss_one (ps_ret (pe_lc (own := [("token", 1)]) (g := gName 1) rfl sc_Ring_tokens.nd (k_list (K := K) (k_fld (K := K) (pv 0) rfl)) (blkOk_by (own := [("token", 1)]) (N := ["self", "token"]) (sc := defScope s_Ring_tokens) (by decide +kernel)) (fun _ _ _ _ _ => pg_name (i := 1) sc_Ring_tokens.nd rfl (Or.inl rfl)) (fun _ _ _ _ _ => pts_nil) (fun _ _ _ _ _ => (pe_tup (pa_cons (k_fld (K := K) (pv 1) rfl) (pa_cons (k_fld (K := K) (pv 1) rfl) (pa_cons (k_fld (K := K) (pv 1) rfl) pa_nil)))))))), ?_⟩
    have hc := T.cl_Ring
    have hc2 := T.cl_Token
    have n1 := T.a_Ring_tokens
    have n2 := T.a_Token_number
    have n3 := T.a_Token_maker
    have n4 := T.a_Token_at
    have hP := hA.hP
    k_allIn
    refine w_iLK (SqL.of hA.hlt) ?_
    refine fun D hD => ?_
    refine lc_list (K := K) (a := A.lt) (xs := A.tk.map V.ref) (Pv := fun j H' => Same H H' ∧ ∃ as : List Addr, H' D = some (.lst (as.map V.ref)) ∧ PySem.W.EachIs (fun a (t : RG.Tok) => H' a = some (.tup [.int (t.sp.1 : Int), .int (t.sp.2 : Int), .int (t.pl : Int)])) as (R.tk.take j)) ⟨same_new hD, [], upd_same, .nil⟩ (fun j H' _ ⟨s, _⟩ => SqL.of (s _ _ hA.hlt)) ?_ ?_
    · rintro j y H1 hy ⟨s1, as, e1, el⟩
      obtain ⟨p, hp, rfl⟩ := get_map hy
      obtain ⟨t, ht, hpt⟩ := each_get hA.htk hp
      obtain ⟨dq, bq, hqo, _⟩ := id (hpt.mono s1).ob
      have hjl : j < R.tk.length := (List.getElem?_eq_some_iff.mp ht).1
      k_allIn
      refine ⟨rfl, ?_⟩
      k_allIn
      refine w_newS (by simp) fun q H2 nq s2 e2 => ?_
      have e1' := s2 _ _ e1
      have hal : as.length = j := by rw [el.length, List.length_take]; omega
      refine ⟨_, e1', small (by rw [List.length_map]; omega), same_mut (s1.trans s2) hD, as ++ [q], by rw [upd_same, List.map_append]; rfl, ?_⟩
      rw [List.take_add_one, ht]
      exact each_app (el.mono fun a b z => up_t (s2 _ _ z) e1' fun _ z => (nomatch z)) (.cons (up_t e2 e1' fun _ z => (nomatch z)) .nil)
    · rintro H1 ⟨s1, as, e1, el⟩
      rw [List.length_map, hA.tk_len, List.take_length] at el
      exact k D as H1 hD s1 e1 el
theorem ok_Ring_rows (T : Txt K mg Z) (c : Nat) : FnOk P w K mg base CX0 1 Z.Ring_rows Z.Ring_rows_d ["self"] (spRRows Z c) := by
  refine T.F_Ring_rows.ok sc_Ring_rows (fun vs H Q E h => ?_) (fun cdv A outer s H vs Q E hr h => ?_)
  · obtain ⟨A, rl, R, rfl, _⟩ := h
    rfl
  · obtain ⟨A, rl, R, rfl, hA, k⟩ := h
    refine ⟨_, (pss_one (ps_ret (pe_callTy (r := rListOf K) call_listOf (by rfl) T.n_list (by decide +kernel) (pa_cons (k_fld (K := K) (pv 0) rfl) pa_nil)))), ?_⟩
    have hc := T.cl_Ring
    have n1 := T.a_Ring_rows
    have hP := hA.hP
    k_allIn
    refine w_listOf (SqL.of hA.hlr) fun q H1 nq s1 e1 => ?_
    exact k q H1 nq s1 e1
theorem ok_Ring_need (T : Txt K mg Z) (c : Nat) : FnOk P w K mg base (L2.CX P w) 4 Z.Ring_need Z.Ring_need_d ["self", "station"] (spRNeed Z c) := by
  have G_Ring__station := ok_Ring__station (P := P) (w := w) (base := base) T c
  have G_Station_need := ok_Station_need (P := P) (w := w) (base := base) T
  refine T.F_Ring_need.okX sc_Ring_need (fun vs H Q E h => ?_) (fun cdv A outer s H vs Q E hr h => ?_)
  · obtain ⟨A, rl, R, x, rfl, _⟩ := h
    rfl
  · obtain ⟨A, rl, R, x, rfl, hA, hx, k1, k2⟩ := h
    refine ⟨_, (pss_one (ps_ret (pe_meth0 (pe_meth (pv 0) T.cl_Ring T.m_Ring__station G_Ring__station (hr.mono (by omega)) T.b_Ring__station .nil (passes_call (takes_of rfl rfl rfl rfl) (fun _ _ _ _ h => h)) (pa_cons (pv 1) pa_nil)) T.cl_Station T.m_Station_need G_Station_need (hr.mono (by omega)) T.b_Station_need .nil pass0))), ?_⟩
    have hc := T.cl_Ring
    have hP := hA.hP
    k_allIn
    refine ⟨A, rl, R, x, rfl, hA, hx, fun i ei hi => ?_, k2⟩
    obtain ⟨sil, row, hst, ho, hrow⟩ := hA.hst i hi
    obtain ⟨⟨dx, sa, hp, hsa⟩, hl, hm⟩ := id hst
    k_allIn
    refine ⟨A.sp i, A.lw i, _, row, rfl, hst, ?_⟩
    have e : headN row ((R.st i).told : Int) = ndV (R.st i) := by
      unfold headN ndV
      rw [← hrow]
      cases row <;> rfl
    have := k1 i ei hi
    rw [← e] at this
    exact this
theorem ok_Ring_knows (T : Txt K mg Z) (c : Nat) : FnOk P w K mg base (L2.CX P w) 4 Z.Ring_knows Z.Ring_knows_d ["self", "station"] (spRKnows Z c) := by
  have G_Ring__station := ok_Ring__station (P := P) (w := w) (base := base) T c
  refine T.F_Ring_knows.okX sc_Ring_knows (fun vs H Q E h => ?_) (fun cdv A outer s H vs Q E hr h => ?_)
  · obtain ⟨A, rl, R, x, rfl, _⟩ := h
    rfl
  · obtain ⟨A, rl, R, x, rfl, hA, hx, k1, k2⟩ := h
    refine ⟨_, (pss_one (ps_ret (k_fld (K := K) (pe_meth (pv 0) T.cl_Ring T.m_Ring__station G_Ring__station (hr.mono (by omega)) T.b_Ring__station .nil (passes_call (takes_of rfl rfl rfl rfl) (fun _ _ _ _ h => h)) (pa_cons (pv 1) pa_nil)) rfl))), ?_⟩
    have hc := T.cl_Ring
    have hc1 := T.cl_Station
    have n1 := T.a_Station_seen
    have hP := hA.hP
    k_allIn
    refine ⟨A, rl, R, x, rfl, hA, hx, fun i ei hi => ?_, k2⟩
    obtain ⟨dx, sa, sil, hp, hsa, _⟩ := hA.put_stn hi
    k_allIn
    exact k1 i sa ei hi hsa
end
theorem off_take {l : List RG.Tok} {f : RG.Tok → Bool} {k : Nat} {x : RG.Tok} (h : l[k]? = some x) : (l.take (k + 1)).filter f = (l.take k).filter f ++ if f x = true then [x] else [] := by
  rw [List.take_add_one, h, List.filter_append]
  show _ ++ List.filter f [x] = _
  by_cases c : f x = true
  · rw [if_pos c, List.filter_cons_of_pos c]; rfl
  · rw [if_neg c, List.filter_cons_of_neg c]; rfl
section
variable {P : Program} {w : World} {K : PySem.W.Frag} {mg : Str → Option Value} {base : Heap} {Z : Ad}
theorem ok_Ring_put (T : Txt K mg Z) (c : Nat) : FnOk P w K mg base (L2.CX P w) 4 Z.Ring_put Z.Ring_put_d ["self", "station", "rank", "mark"] (spRPut Z c) := by
  have G_Ring__station := ok_Ring__station (P := P) (w := w) (base := base) T c
  have G_check_message := ok_check_message (P := P) (w := w) (base := base) T
  have G_Station_put := ok_Station_put (P := P) (w := w) (base := base) T
  refine T.F_Ring_put.okX sc_Ring_put (fun vs H Q E h => ?_) (fun cdv A outer s H vs Q E hr h => ?_)
  · obtain ⟨A, rl, R, x, y, z, rfl, _⟩ := h
    rfl
  · obtain ⟨A, rl, R, x, y, z, rfl, hA, hf, hx, hy, hz, k1, k2, k3⟩ := h
    refine ⟨_, (pss_cons (ps_set (i := 4) sc_Ring_put.nd rfl (Or.inl rfl) (pe_meth (pv 0) T.cl_Ring T.m_Ring__station G_Ring__station (hr.mono (by omega)) T.b_Ring__station .nil (passes_call (takes_of rfl rfl rfl rfl) (fun _ _ _ _ h => h)) (pa_cons (pv 1) pa_nil)))
      (pss_cons (ps_expr (pe_call G_check_message (hr.mono (by omega)) rfl T.g_check_message T.F_check_message.kp T.b_check_message .nil (passes_call (takes_of rfl rfl rfl rfl) (fun _ _ _ _ h => h)) (pa_cons (pv 2) (pa_cons (pv 3) pa_nil))))
      (pss_one (ps_expr (pe_meth (pv 4) T.cl_Station T.m_Station_put G_Station_put (hr.mono (by omega)) T.b_Station_put .nil pass0 (pa_cons (pv 2) (pa_cons (pv 3) pa_nil))))))), ?_⟩
    have hc := T.cl_Ring
    have hP := hA.hP
    k_allIn
    refine ⟨A, rl, R, x, rfl, hA, hx, fun i ei hi => ?_, k2⟩
    subst ei
    k_allIn
    refine ⟨y, z, rfl, hy, hz, fun e => ?_, k3 (numB_yes hi)⟩
    rw [Bool.and_eq_true] at e
    obtain ⟨r, rfl, hr1, hr2⟩ := numB_int e.1
    obtain ⟨m, rfl, hm1, hm2⟩ := numB_int e.2
    obtain ⟨sil, row, hst, ho, hrow⟩ := hA.hst i hi
    obtain ⟨⟨dx, sa, hp, hsa⟩, hl, hm⟩ := id hst
    have hlen : row.length ≤ 1000000 := by
      have := hf.ln i hi
      rw [← hrow, List.length_map] at this
      exact this
    k_allIn
    refine ⟨A.sp i, A.lw i, _, row, r, m, rfl, hst, hlen, fun t H1 st1 f1 => ?_⟩
    obtain ⟨h1, m1⟩ := hA.fr_stn (s' := { R.st i with line := (R.st i).line ++ [(r, m)] }) hi f1 (fun y m => .inr (List.mem_singleton.mp m)) ⟨sil, row ++ [(t, r, m)], st1, ho, by rw [List.map_append, hrow]; rfl⟩
    k_allIn
    exact k1 i r m rfl hi rfl rfl ⟨hr1, hr2⟩ ⟨hm1, hm2⟩ A rl H1 h1 rfl (m1.wide (by omega) (by omega))
theorem ok_Ring_lose (T : Txt K mg Z) (c : Nat) : FnOk P w K mg base (L2.CX P w) 3 Z.Ring_lose Z.Ring_lose_d ["self", "place"] (spRLose Z c) := by
  have G_check_place := ok_check_place (P := P) (w := w) (base := base) T
  have G_Ring__note_lost := ok_Ring__note_lost (P := P) (w := w) (base := base) T c
  refine T.F_Ring_lose.okX sc_Ring_lose (fun vs H Q E h => ?_) (fun cdv A outer s H vs Q E hr h => ?_)
  · obtain ⟨A, rl, R, x, rfl, _⟩ := h
    rfl
  · obtain ⟨A, rl, R, x, rfl, hA, hf, hx, k1, k2⟩ := h
    refine ⟨_, (pss_cons (ps_expr (pe_call G_check_place (hr.mono (by omega)) rfl T.g_check_place T.F_check_place.kp T.b_check_place .nil (passes_call (takes_of rfl rfl rfl rfl) (fun _ _ _ _ h => h)) (pa_cons (pv 1) (pa_cons (pe_callB (r := rLenS K) call_lenS (by rfl) T.n_len PySem.boot_len (pa_cons (k_fld (K := K) (pv 0) rfl) pa_nil)) pa_nil))))
      (pss_cons (ps_set (i := 2) sc_Ring_lose.nd rfl (Or.inl rfl) (k_bm (K := K) PySem.F.plainAttrs_list PySem.F.slot_list_pop PySem.F.type_list_pop mt_popAt (k_fld (K := K) (pv 0) rfl) (pa_cons (pv 1) pa_nil)))
      (pss_one (ps_expr (pe_meth (pv 0) T.cl_Ring T.m_Ring__note_lost G_Ring__note_lost (hr.mono (by omega)) T.b_Ring__note_lost .nil pass0 (pa_cons (pv 2) pa_nil)))))), ?_⟩
    have hc := T.cl_Ring
    have n1 := T.a_Ring_tokens
    have hP := hA.hP
    have hlt := hA.hlt
    have hn : (A.tk.map V.ref).length = R.tk.length := by rw [List.length_map, hA.tk_len]
    k_allIn
    refine ⟨x, (R.tk.length : Int), by rw [hn]; rfl, hx, fun e => ?_, k2⟩
    obtain ⟨i, rfl, hi⟩ := numB_nat e
    have hlen := hf.tk
    obtain ⟨p, hp⟩ : ∃ p, A.tk[i]? = some p := ⟨_, List.getElem?_eq_getElem (by rw [hA.tk_len]; exact hi)⟩
    obtain ⟨t, ht, hpt⟩ := each_get hA.htk hp
    k_allIn
    refine w_popAt hlt (x := .ref p) (by rw [List.getElem?_map, hp]; rfl) (by rw [hn]; omega) ?_
    have ee : (A.tk.map V.ref).eraseIdx i = (A.tk.eraseIdx i).map V.ref := by rw [List.eraseIdx_eq_take_drop_succ, List.eraseIdx_eq_take_drop_succ, List.map_append, List.map_take, List.map_drop]
    rw [ee]
    have hts : PySem.W.EachIs (fun p t => TokAt Z.Token H p (tokS t)) (A.tk.eraseIdx i) (R.tk.eraseIdx i) := by
      rw [List.eraseIdx_eq_take_drop_succ, List.eraseIdx_eq_take_drop_succ]
      exact each_app (each_take i hA.htk) (each_drop (i + 1) hA.htk)
    have hmem : ∀ q, q ∈ A.tk.eraseIdx i → q ∈ A.tk := fun q m => List.mem_of_mem_eraseIdx m
    obtain ⟨h1, m1⟩ := hA.set_lt hts (fun q m => hA.r4 q (hmem q m)) (hA.nd.sublist (List.eraseIdx_sublist ..))
    have tk1 : TokAt Z.Token (upd H A.lt (.lst ((A.tk.eraseIdx i).map V.ref))) p (tokS t) := hpt.mvd (fun d fs z => m1.out z (.inr (by rw [hA.r4 p (List.mem_of_getElem? hp)]; omega))) fun b xs z => m1.tup z
    generalize upd H A.lt _ = H1 at *
    have hP := h1.hP
    k_allIn
    refine ⟨{ A with tk := A.tk.eraseIdx i }, rl, _, p, t, rfl, h1, tk1, Nat.le_trans hf.rw (by decide), fun rs' H2 h2 m2 => ?_⟩
    k_allIn
    refine k1 i rfl hi { A with tk := A.tk.eraseIdx i, rs := rs' } rl H2 ?_ rfl ((m1.wide (by omega) (by omega)).trans (m2.wide (by omega) (by omega)))
    have e : RG.lose R i = { many := R.many, st := R.st, tk := R.tk.eraseIdx i, rw := R.rw ++ [.lost R.time t.sp], time := R.time } := by
      unfold RG.lose
      rw [ht]
    rw [e]
    exact h2
theorem ok_Ring_make (T : Txt K mg Z) (c : Nat) : FnOk P w K mg base (L2.CX P w) 4 Z.Ring_make Z.Ring_make_d ["self", "station"] (spRMk Z c) := by
  have G_Ring__station := ok_Ring__station (P := P) (w := w) (base := base) T c
  have G_Ring__make_token := ok_Ring__make_token (P := P) (w := w) (base := base) T c
  refine T.F_Ring_make.okX sc_Ring_make (fun vs H Q E h => ?_) (fun cdv A outer s H vs Q E hr h => ?_)
  · obtain ⟨A, rl, R, x, rfl, _⟩ := h
    rfl
  · obtain ⟨A, rl, R, x, rfl, hA, W, hf, hx, k1, k2, k3⟩ := h
    refine ⟨_, (pss_cons (ps_if (pt_not (k_tr (K := K) (k_fld (K := K) (pe_meth (pv 0) T.cl_Ring T.m_Ring__station G_Ring__station (hr.mono (by omega)) T.b_Ring__station .nil (passes_call (takes_of rfl rfl rfl rfl) (fun _ _ _ _ h => h)) (pa_cons (pv 1) pa_nil)) rfl) (fun _ => rfl)))
        (pss_one (ps_raise rfl (takes_of rfl rfl rfl rfl) (pmk_own PySem.F.excBase_ValueError T.x_IsOff T.g_IsOff T.k_IsOff (raises_own T.b_IsOff T.t_IsOff) rfl)))
        pss_nil)
      (pss_one (ps_expr (pe_meth (pv 0) T.cl_Ring T.m_Ring__make_token G_Ring__make_token (hr.mono (by omega)) T.b_Ring__make_token .nil pass0 (pa_cons (pv 1) pa_nil))))), ?_⟩
    have hc := T.cl_Ring
    have hc1 := T.cl_Station
    have n1 := T.a_Station_on
    have hP := hA.hP
    k_allIn
    refine ⟨A, rl, R, x, rfl, hA, hx, fun i ei hi => ?_, k2⟩
    subst ei
    obtain ⟨dx, sa, sil, hp, hsa, _⟩ := hA.put_stn hi
    k_allIn
    cases hon : (R.st i).on with
    | false =>
      k_allIn
      exact k3 i rfl hi hon
    | true =>
      k_allIn
      refine ⟨A, rl, R, i, rfl, hA, W, hi, Nat.le_trans hf.tk (by decide), Nat.le_trans hf.rw (by decide), fun A1 rl1 H1 h1 sm m1 => ?_⟩
      k_allIn
      exact k1 i rfl hi hon A1 rl1 H1 h1 sm.P (m1.wide (by omega) (by omega))
theorem ok_Ring_switch_on (T : Txt K mg Z) (c : Nat) : FnOk P w K mg base (L2.CX P w) 4 Z.Ring_switch_on Z.Ring_switch_on_d ["self", "station"] (spROn Z c) := by
  have G_Ring__station := ok_Ring__station (P := P) (w := w) (base := base) T c
  refine T.F_Ring_switch_on.okX sc_Ring_switch_on (fun vs H Q E h => ?_) (fun cdv A outer s H vs Q E hr h => ?_)
  · obtain ⟨A, rl, R, x, rfl, _⟩ := h
    rfl
  · obtain ⟨A, rl, R, x, rfl, hA, hx, k1, k2, k3⟩ := h
    refine ⟨_, (pss_cons (ps_set (i := 2) sc_Ring_switch_on.nd rfl (Or.inl rfl) (pe_meth (pv 0) T.cl_Ring T.m_Ring__station G_Ring__station (hr.mono (by omega)) T.b_Ring__station .nil (passes_call (takes_of rfl rfl rfl rfl) (fun _ _ _ _ h => h)) (pa_cons (pv 1) pa_nil)))
      (pss_cons (ps_if (k_tr (K := K) (k_fld (K := K) (pv 2) rfl) (fun _ => rfl))
        (pss_one (ps_raise rfl (takes_of rfl rfl rfl rfl) (pmk_own PySem.F.excBase_ValueError T.x_IsOn T.g_IsOn T.k_IsOn (raises_own T.b_IsOn T.t_IsOn) rfl)))
        pss_nil)
      (pss_cons (k_sfld (K := K) (pv 2) pe_bl rfl)
      (pss_one (k_sfld (K := K) (pv 2) pe_int rfl))))), ?_⟩
    have hc := T.cl_Ring
    have hc1 := T.cl_Station
    have n1 := T.a_Station_on
    have hP := hA.hP
    k_allIn
    refine ⟨A, rl, R, x, rfl, hA, hx, fun i ei hi => ?_, k2⟩
    subst ei
    obtain ⟨dx, sa, sil, hp, hsa, _⟩ := hA.put_stn hi
    k_allIn
    cases hon : (R.st i).on with
    | true =>
      k_allIn
      exact k3 i rfl hi hon
    | false =>
      have kk := k1 i rfl hi hon
      obtain ⟨dx, sa, sil, hp, hsa, _, g⟩ := hA.put_stn hi
      obtain ⟨h1, m1⟩ := g { R.st i with on := true, sil := 0 } 0 sa rfl (fun _ => rfl) hsa
      have n9 := T.a_Station_silence
      k_allIn
      rw [upd_upd]
      exact kk A rl _ h1 rfl (m1.wide (by omega) (by omega))
theorem ok_Ring_switch_off (T : Txt K mg Z) (c : Nat) : FnOk P w K mg base (L2.CX P w) 4 Z.Ring_switch_off Z.Ring_switch_off_d ["self", "station"] (spROff Z c) := by
  have G_Ring__station := ok_Ring__station (P := P) (w := w) (base := base) T c
  have G_Ring__note_lost := ok_Ring__note_lost (P := P) (w := w) (base := base) T c
  refine T.F_Ring_switch_off.okX sc_Ring_switch_off (fun vs H Q E h => ?_) (fun cdv A outer s H vs Q E hr h => ?_)
  · obtain ⟨A, rl, R, x, rfl, _⟩ := h
    rfl
  · obtain ⟨A, rl, R, x, rfl, hA, hf, hcc, hx, k1, k2, k3⟩ := h
    refine ⟨_, (pss_cons (ps_set (i := 2) sc_Ring_switch_off.nd rfl (Or.inl rfl) (pe_meth (pv 0) T.cl_Ring T.m_Ring__station G_Ring__station (hr.mono (by omega)) T.b_Ring__station .nil (passes_call (takes_of rfl rfl rfl rfl) (fun _ _ _ _ h => h)) (pa_cons (pv 1) pa_nil)))
      (pss_cons (ps_if (pt_not (k_tr (K := K) (k_fld (K := K) (pv 2) rfl) (fun _ => rfl)))
        (pss_one (ps_raise rfl (takes_of rfl rfl rfl rfl) (pmk_own PySem.F.excBase_ValueError T.x_IsOff T.g_IsOff T.k_IsOff (raises_own T.b_IsOff T.t_IsOff) rfl)))
        pss_nil)
      (pss_cons (k_sfld (K := K) (pv 2) pe_bl rfl)
      (pss_cons (ps_set (i := 3) sc_Ring_switch_off.nd rfl (Or.inl rfl) (pe_lst pa_nil))
      (pss_cons (ps_for (passes_of rfl) rfl (k_list (K := K) (k_fld (K := K) (pv 0) rfl)) (pg_name (i := 4) sc_Ring_switch_off.nd rfl (Or.inl rfl))
        (pss_one (ps_if (pt_cmpR op_eq (k_fld (K := K) (pv 4) rfl) (pv 1) (nomark _))
          (pss_one (ps_expr (pe_meth (pv 0) T.cl_Ring T.m_Ring__note_lost G_Ring__note_lost (hr.mono (by omega)) T.b_Ring__note_lost .nil pass0 (pa_cons (pv 4) pa_nil))))
          (pss_one (ps_expr (k_bm (K := K) PySem.F.plainAttrs_list PySem.F.slot_list_append PySem.F.type_list_append mt_append (pv 3) (pa_cons (pv 4) pa_nil)))))))
      (pss_one (k_sfld (K := K) (pv 0) (pv 3) rfl))))))), ?_⟩
    have hc := T.cl_Ring
    have hc1 := T.cl_Station
    have hc2 := T.cl_Token
    have n1 := T.a_Station_on
    have n2 := T.a_Token_at
    have n3 := T.a_Ring_tokens
    have hP := hA.hP
    k_allIn
    refine ⟨A, rl, R, x, rfl, hA, hx, fun i ei hi => ?_, k2⟩
    subst ei
    obtain ⟨dx, sa, sil, hp, hsa, _⟩ := hA.put_stn hi
    k_allIn
    cases hon : (R.st i).on with
    | false =>
      k_allIn
      exact k3 i rfl hi hon
    | true =>
      have kk := k1 i rfl hi hon
      clear n1 hp
      k_allIn
      refine hA.w_off hi hc1 T.a_Station_on fun H1 h1 m1 => ?_
      k_allIn
      refine w_newS (by simp) fun LL H2 nLL s2 e2 => ?_
      have h2 := h1.role (c + 2) s2 nLL e2 fun _ z => (nomatch z)
      have r2 : rlN rl LL (c + 2) LL = c + 2 := rlN_at ..
      have m2 : Mw c (c + 300) rl H (rlN rl LL (c + 2)) H2 := (m1.wide (by omega) (by omega)).trans (.role s2 nLL)
      have nT : A.lt ≠ LL := ne_of_none h1.hlt nLL
      have hP := h2.hP
      generalize rlN rl LL (c + 2) = rl2 at *
      have hlen := hf.tk
      have hrw := hf.rw
      k_allIn
      refine w_iLK (SqL.of h2.hlt) ?_
      refine for_list (xs := A.tk.map V.ref) (fun n σ H' => ∃ (rs' : List V) (ks : List Addr) (v4 : Option V), σ = [some (.ref A.P), some (.int (i : Int)), some (.ref (A.sp i)), some (.ref LL), v4] ∧
        RgAt Z c rl2 H' { A with rs := rs' } { stS R i { R.st i with on := false } with rw := R.rw ++ ((R.tk.take n).filter fun t => t.pl == i).map fun t => .lost R.time t.sp } ∧ Mw c (c + 300) rl H rl2 H' ∧ H' LL = some (.lst (ks.map V.ref)) ∧
        PySem.W.EachIs (fun p t => TokAt Z.Token H' p (tokS t)) ks ((R.tk.take n).filter fun t => t.pl != i) ∧ ks.Sublist (A.tk.take n)) ⟨A.rs, [], none, rfl, ?_, m2, e2, .nil, List.Sublist.refl _⟩ (fun n σ H' _ ⟨rs', ks, v4, _, h', _⟩ => SqL.of h'.hlt) ?_ ?_
      · show RgAt Z c rl2 H2 A _
        simp only [List.take_zero, List.filter_nil, List.map_nil, List.append_nil]
        exact h2
      · rintro n y σ H3 hy ⟨rs3, ks, v4, rfl, h3, m3, eLL, hks, hsub⟩
        obtain ⟨p, hp, rfl⟩ := get_map hy
        obtain ⟨t, ht, hpt⟩ := each_get h3.htk hp
        have htR : R.tk[n]? = some t := ht
        obtain ⟨dq, bq, eq, _⟩ := id hpt.ob
        have f1 := off_take (f := fun t : RG.Tok => t.pl == i) htR
        have f2 := off_take (f := fun t : RG.Tok => t.pl != i) htR
        have hrp := h3.r4 p (List.mem_of_getElem? hp)
        have hnl : n < R.tk.length := (List.getElem?_eq_some_iff.mp htR).1
        have hP3 := h3.hP
        k_allIn
        by_cases ec : t.pl = i
        · subst ec
          rw [if_pos (by simp)] at f1
          rw [if_neg (by simp)] at f2
          show if decide (V.int (t.pl : Int) = V.int (t.pl : Int)) = true then _ else _
          k_allIn
          refine ⟨{ A with rs := rs3 }, rl2, _, p, t, rfl, h3, hpt, Nat.le_trans (show _ ≤ 5001000 by rw [List.length_append, List.length_map]; have := List.length_filter_le (fun u : RG.Tok => u.pl == t.pl) (R.tk.take n); rw [List.length_take] at this; omega) (by decide), fun rs' H4 h4 m4 => ?_⟩
          k_allIn
          refine ⟨rs', ks, _, rfl, ?_, m3.trans (m4.wide (by omega) (by omega)), m4.out eLL (.inl (by rw [r2]; omega)), ?_, ?_⟩
          · rw [f1, List.map_append, ← List.append_assoc]
            exact h4
          · rw [f2, List.append_nil]
            have hk : ∀ q, q ∈ ks → rl2 q = c + 4 := fun q m => h3.r4 q (List.mem_of_mem_take (hsub.subset m))
            exact each_up hks fun q u m z => z.mvd (fun d fs e => m4.out e (.inr (by rw [hk q m]; omega))) fun b xs e => m4.tup e
          · refine hsub.trans ?_
            exact List.take_sublist_take_left (by omega)
        · rw [if_neg (by simpa using ec)] at f1
          rw [if_pos (by simpa using ec)] at f2
          show if decide (V.int (t.pl : Int) = V.int (i : Int)) = true then _ else _
          rw [decide_eq_false (fun z => ec (by injection z; omega))]
          k_allIn
          have hkl : (ks.map V.ref).length ≤ 100000 := by
            rw [List.length_map]
            have := hsub.length_le
            rw [List.length_take] at this
            omega
          refine w_append eLL (small hkl) ?_
          obtain ⟨h4, m4⟩ := h3.other (o' := .lst (ks.map V.ref ++ [V.ref p])) eLL fix_lst r2 nT fun _ z => (nomatch z)
          k_allIn
          refine ⟨rs3, ks ++ [p], _, rfl, ?_, m3.trans (m4.wide (by omega) (by omega)), by rw [upd_same, List.map_append]; rfl, ?_, ?_⟩
          · rw [f1, List.append_nil]
            exact h4
          · rw [f2]
            have hk : ∀ q, q ∈ ks → rl2 q = c + 4 := fun q m => h3.r4 q (List.mem_of_mem_take (hsub.subset m))
            exact each_app (each_up hks fun q u m z => z.mvd (fun d fs e => m4.out e (.inr (by rw [hk q m]; omega))) fun b xs e => m4.tup e) (.cons (hpt.mvd (fun d fs e => m4.out e (.inr (by rw [hrp]; omega))) fun b xs e => m4.tup e) .nil)
          · have hp' : A.tk[n]? = some p := hp
            rw [List.take_add_one, hp']
            exact hsub.append (List.Sublist.refl _)
      · rintro σ H3 ⟨rs3, ks, v4, rfl, h3, m3, eLL, hks, hsub⟩
        have en : (A.tk.map V.ref).length = R.tk.length := by rw [List.length_map]; exact hA.tk_len
        rw [en, List.take_length] at h3 hks
        rw [List.length_map, List.take_length] at hsub
        clear n3
        k_allIn
        refine h3.w_tokens eLL r2 hks (fun q m => h3.r4 q (hsub.subset m)) (hA.nd.sublist hsub) hc T.a_Ring_tokens fun H4 h4 m4 => ?_
        k_allIn
        exact kk _ rl2 H4 h4 rfl (m3.trans (m4.wide (by omega) (by omega)))
end
/-! ### a ring is made -/
def spRInit (Z : Ad) (c : Nat) : Sp := fun vs H Q E => ∃ (p dx : Addr) (x : V) (H0 : Hp) (rl : Addr → Nat), vs = [.ref p, x] ∧ H p = some (.ins Z.Ring dx []) ∧ Thing H x ∧ Rl rl H0 ∧ Same H0 H ∧ H0 p = none ∧ c + 1000 ≤ 9999 ∧
  (∀ (many : Nat), x = .int (many : Int) → 1 ≤ many → many ≤ 12 → ∀ (A' : RgA) (rl' : Addr → Nat) (H' : Hp), RgAt Z c rl' H' A' (RG.ring0 many) → A'.P = p → Mw c (c + 300) rl H0 rl' H' → Q .non H') ∧
  (isNumB x 1 12 = false → E (.ref Z.NoRing) none H)
/-- the first n stations, new ones -/
structure StsAt (Z : Ad) (c : Nat) (rl : Addr → Nat) (H0 H : Hp) (n : Nat) (sp lw : Nat → Addr) : Prop where
  st : ∀ i, i < n → StnOk Z.Station H (sp i) (lw i) ⟨true, (0, 0), 0, 0, []⟩
  r5 : ∀ i, i < n → rl (sp i) = c + 100 + i
  r6 : ∀ i, i < n → rl (lw i) = c + 200 + i
theorem rlN_far {rl : Addr → Nat} {a x : Addr} {n : Nat} (h : rl x ≠ rl a) : rlN rl a n x = rl x := rlN_ne rl n fun e => h (by rw [e])
theorem StsAt.keep {Z : Ad} {c : Nat} {rl : Addr → Nat} {H0 H H' : Hp} {n : Nat} {sp lw : Nat → Addr} (h : StsAt Z c rl H0 H n sp lw) (m : ∀ b o, H b = some o → ((∃ xs, o = .tup xs) ∨ rl b ≠ 9999) → H' b = some o) (hn : n ≤ 12) (hc : c + 1000 ≤ 9999) : StsAt Z c rl H0 H' n sp lw :=
  ⟨fun i hi => (h.st i hi).mvd (fun _ _ e => m _ _ e (.inr (by rw [h.r5 i hi]; omega))) (fun _ e => m _ _ e (.inr (by rw [h.r6 i hi]; omega))) fun b xs e => m _ _ e (.inl ⟨xs, rfl⟩), h.r5, h.r6⟩
section
variable {P : Program} {w : World} {K : PySem.W.Frag} {mg : Str → Option Value} {base : Heap} {Z : Ad}
theorem ok_Ring_init (T : Txt K mg Z) (c : Nat) : FnOk P w K mg base (L2.CX P w) 4 Z.Ring_init Z.Ring_init_d ["self", "many"] (spRInit Z c) := by
  have G_check_many := ok_check_many (P := P) (w := w) (base := base) T
  have G_Station_init := ok_Station_init (P := P) (w := w) (base := base) T
  have G_Ring__make_token := ok_Ring__make_token (P := P) (w := w) (base := base) T c
  refine T.F_Ring_init.okX sc_Ring_init (fun vs H Q E h => ?_) (fun cdv A outer s H vs Q E hr h => ?_)
  · obtain ⟨p, dx, x, H0, rl, rfl, _⟩ := h
    rfl
  · obtain ⟨p, dx, x, H0, rl, rfl, hp, hx, d0, s0, np0, hcc, k1, k2⟩ := h
    refine ⟨_, (pss_cons (ps_expr (pe_call G_check_many (hr.mono (by omega)) rfl T.g_check_many T.F_check_many.kp T.b_check_many .nil (passes_call (takes_of rfl rfl rfl rfl) (fun _ _ _ _ h => h)) (pa_cons (pv 1) pa_nil)))
      (pss_cons (k_sfld (K := K) (pv 0) pe_int rfl)
      (pss_cons (k_sfld (K := K) (pv 0) (pe_lc (own := [("_", 2)]) (g := gName 2) rfl sc_Ring_init.nd (pi_range1 (by rfl) T.n_range (pa_cons (pv 1) pa_nil)) (blkOk_by (own := [("_", 2)]) (N := ["self", "many", "_"]) (sc := defScope s_Ring_init) (by decide +kernel)) (fun _ _ _ _ _ => pg_name (i := 2) sc_Ring_init.nd rfl (Or.inl rfl)) (fun _ _ _ _ _ => pts_nil) (fun _ _ _ _ _ => (pe_make0 T.M_Station G_Station_init (hr.mono (by omega)) rfl T.g_Station T.b_Station_init .nil pass0))) rfl)
      (pss_cons (k_sfld (K := K) (pv 0) (pe_lst pa_nil) rfl)
      (pss_cons (k_sfld (K := K) (pv 0) (pe_lst pa_nil) rfl)
      (pss_one (ps_expr (pe_meth (pv 0) T.cl_Ring T.m_Ring__make_token G_Ring__make_token (hr.mono (by omega)) T.b_Ring__make_token .nil pass0 (pa_cons pe_int pa_nil))))))))), ?_⟩
    have hc := T.cl_Ring
    have n1 := T.a_Ring_time
    have n2 := T.a_Ring_stations
    have n3 := T.a_Ring_tokens
    have n4 := T.a_Ring_rows
    k_allIn
    refine ⟨x, rfl, hx, fun e => ?_, k2⟩
    obtain ⟨i, rfl, hi1, hi2⟩ := numB_int e
    obtain ⟨many, rfl⟩ : ∃ m : Nat, i = (m : Int) := ⟨i.toNat, by omega⟩
    have kk := k1 many rfl (by omega) (by omega)
    have hm12 : many ≤ 12 := by omega
    clear k1 k2
    k_allIn
    refine fun D hD => ?_
    have s1 : Same H0 (upd H p (.ins Z.Ring dx (putF "_time" (.int 0) []))) := same_mut s0 np0
    have e1p : upd H p (.ins Z.Ring dx (putF "_time" (.int 0) [])) p = some (.ins Z.Ring dx (putF "_time" (.int 0) [])) := upd_same
    generalize upd H p _ = H1 at *
    have nD : ∀ {x}, H1 x = none → H0 x = none := fun {x} n => by
      cases e : H0 x with
      | none => rfl
      | some o => rw [s1 _ _ e] at n; cases n
    have hpD : p ≠ D := ne_of_none e1p hD
    refine lc_range (lo := 0) (Pv := fun j H' => ∃ (rl' : Addr → Nat) (sp lw : Nat → Addr), Rl rl' H' ∧ Mw c (c + 300) rl H0 rl' H' ∧ H' p = some (.ins Z.Ring dx (putF "_time" (.int 0) [])) ∧ rl' p = 9999 ∧ rl' D = 9999 ∧ H' D = some (.lst ((List.range j).map fun i => V.ref (sp i))) ∧ StsAt Z c rl' H0 H' j sp lw)
      ⟨rl, fun _ => p, fun _ => p, ?_, .of (s1.trans (same_new hD)), upd_at e1p hpD, d0 p (.inl np0), d0 D (.inl (nD hD)), upd_same, ⟨fun i hi => absurd hi (Nat.not_lt_zero i), fun i hi => absurd hi (Nat.not_lt_zero i), fun i hi => absurd hi (Nat.not_lt_zero i)⟩⟩ ?_ ?_
    · exact rl_upd (fun x z => d0 x (z.same s1)) fun _ z => (nomatch z)
    · rintro j H2 hj ⟨rl2, sp, lw, d2, m2, e2p, r2p, r2D, e2D, st2⟩
      have hj12 : j ≤ 12 := by omega
      k_allIn
      refine ⟨rfl, ?_⟩
      k_allIn
      refine fun q dq nq ndq nqq => ⟨q, dq, rfl, upd_same, fun l H3 hst nl nlq f3 => ⟨rfl, ?_⟩⟩
      have nl2 : H2 l = none := upd_none (upd_none nl)
      have s3 : Same H2 H3 := Fr.same (same_born nq ndq) f3 (fun y m => by cases List.mem_singleton.mp m; exact nq)
      have e3D := s3 _ _ e2D
      have e3p := s3 _ _ e2p
      obtain ⟨⟨dxq, saq, e3q, _⟩, e3l, _⟩ := id hst
      refine ⟨_, e3D, small (by rw [List.length_map, List.length_range]; omega), rlN (rlN rl2 q (c + 100 + j)) l (c + 200 + j), fun i => if i = j then q else sp i, fun i => if i = j then l else lw i, ?_, ?_, ?_, ?_, ?_, ?_, ?_⟩
      · refine rl_upd (fun x z => ?_) fun _ z => (nomatch z)
        have n1 : x ≠ l := fun e => yesO e3l (fun _ z => (nomatch z)) (by rw [← e]; exact z)
        have n2 : x ≠ q := fun e => yesO e3q (fun _ z => (nomatch z)) (by rw [← e]; exact z)
        rw [rlN_ne _ _ n1, rlN_ne _ _ n2]
        exact d2 x (z.same s3)
      · have m3 : Mw c (c + 300) rl2 H2 (rlN (rlN rl2 q (c + 100 + j)) l (c + 200 + j)) H3 := ⟨fun x hx => by
          rw [rlN_ne _ _ fun e => hx (by rw [e]; exact .inl nl2), rlN_ne _ _ fun e => hx (by rw [e]; exact .inl nq)], fun _ _ e _ => s3 _ _ e, fun _ h => h.same s3⟩
        exact (m2.trans m3).new (nD hD) fun _ z => (nomatch z)
      · exact upd_at e3p hpD
      · rw [rlN_ne _ _ (ne_of_none e2p nl2), rlN_ne _ _ (ne_of_none e2p nq)]
        exact r2p
      · rw [rlN_ne _ _ (ne_of_none e2D nl2), rlN_ne _ _ (ne_of_none e2D nq)]
        exact r2D
      · rw [upd_same, List.range_succ, List.map_append]
        refine congrArg some (congrArg HO.lst (congr (congrArg _ ?_) ?_))
        · exact List.map_congr_left fun i hi => by
            have := List.mem_range.mp hi
            show V.ref (sp i) = V.ref (if i = j then q else sp i)
            rw [if_neg (by omega)]
        · simp
      · have hq0 : q ≠ l := ne_of e3q e3l (by intro z; cases z)
        have hDq : D ≠ q := ne_of_none e2D nq
        have hDl : D ≠ l := ne_of_none e2D nl2
        have k4 : ∀ {b o}, H3 b = some o → b ≠ D → upd H3 D (.lst (List.map (fun i => V.ref (sp i)) (List.range j) ++ [V.ref q])) b = some o := fun e n => upd_at e n
        have kt : ∀ b xs, H3 b = some (.tup xs) → upd H3 D (.lst (List.map (fun i => V.ref (sp i)) (List.range j) ++ [V.ref q])) b = some (.tup xs) := fun b xs e => up_t e e3D fun _ z => (nomatch z)
        refine ⟨fun i hi => ?_, fun i hi => ?_, fun i hi => ?_⟩
        · show StnOk _ _ (if i = j then q else sp i) (if i = j then l else lw i) _
          by_cases e : i = j
          · rw [if_pos e, if_pos e]
            exact StnOk.mvd ⟨0, [], hst, fun _ => rfl, rfl⟩ (fun _ _ z => k4 z hDq.symm) (fun _ z => k4 z hDl.symm) kt
          · rw [if_neg e, if_neg e]
            have hi' : i < j := by omega
            refine (st2.st i hi').mvd (fun _ _ z => k4 (s3 _ _ z) fun e => ?_) (fun _ z => k4 (s3 _ _ z) fun e => ?_) fun b xs z => kt b xs (s3 _ _ z)
            · have := st2.r5 i hi'
              rw [e, r2D] at this
              omega
            · have := st2.r6 i hi'
              rw [e, r2D] at this
              omega
        · show rlN (rlN rl2 q (c + 100 + j)) l (c + 200 + j) (if i = j then q else sp i) = _
          by_cases e : i = j
          · rw [if_pos e, rlN_ne _ _ hq0, rlN_at, e]
          · rw [if_neg e]
            have hi' : i < j := by omega
            obtain ⟨⟨_, _, e5⟩, _⟩ := (st2.st i hi').cut
            rw [rlN_ne _ _ (ne_of_none e5 nl2), rlN_ne _ _ (ne_of_none e5 nq)]
            exact st2.r5 i hi'
        · show rlN (rlN rl2 q (c + 100 + j)) l (c + 200 + j) (if i = j then l else lw i) = _
          by_cases e : i = j
          · rw [if_pos e, rlN_at, e]
          · rw [if_neg e]
            have hi' : i < j := by omega
            obtain ⟨_, _, e6⟩ := (st2.st i hi').cut
            rw [rlN_ne _ _ (ne_of_none e6 nl2), rlN_ne _ _ (ne_of_none e6 nq)]
            exact st2.r6 i hi'
    · rintro H2 ⟨rl2, sp, lw, d2, m2, e2p, r2p, r2D, e2D, st2⟩
      rw [show ((many : Int)).toNat = many by omega] at e2D st2
      k_allIn
      refine w_newS (by simp) fun t H3 nt s3 e3 => ?_
      k_allIn
      refine w_newS (by simp) fun r H4 nr s4 e4 => ?_
      k_allIn
      have hpt : p ≠ t := ne_of_none upd_same nt
      have hpr : p ≠ r := ne_of_none upd_same nr
      have hDt : D ≠ t := ne_of_none (upd_at e2D hpD.symm) nt
      have e3t : upd H3 p (.ins Z.Ring dx (putF "_tokens" (.ref t) (putF "_stations" (.ref D) (putF "_time" (.int 0) [])))) t = some (.lst []) := upd_at e3 hpt.symm
      have htr : t ≠ r := ne_of_none e3t nr
      have hDr : D ≠ r := ne_of_none (upd_at (s3 _ _ (upd_at e2D hpD.symm)) hpD.symm) nr
      have n2t : H2 t = none := upd_none nt
      have n2r : H2 r = none := by
        cases e : H2 r with
        | none => rfl
        | some o =>
          have := upd_at (o := .ins Z.Ring dx (putF "_tokens" (.ref t) (putF "_stations" (.ref D) (putF "_time" (.int 0) [])))) (s3 _ _ (upd_at (o := .ins Z.Ring dx (putF "_stations" (.ref D) (putF "_time" (.int 0) []))) e hpr.symm)) hpr.symm
          rw [nr] at this
          cases this
      have e5P : upd H4 p (.ins Z.Ring dx (putF "_rows" (.ref r) (putF "_tokens" (.ref t) (putF "_stations" (.ref D) (putF "_time" (.int 0) []))))) p = some (.ins Z.Ring dx [("_time", .int 0), ("_stations", .ref D), ("_tokens", .ref t), ("_rows", .ref r)]) := by
        rw [upd_same]
        rfl
      have kb : ∀ b o, H2 b = some o → b ≠ p → upd H4 p (.ins Z.Ring dx (putF "_rows" (.ref r) (putF "_tokens" (.ref t) (putF "_stations" (.ref D) (putF "_time" (.int 0) []))))) b = some o := fun b o e n => upd_at (s4 _ _ (upd_at (s3 _ _ (upd_at e n)) n)) n
      have e5t : upd H4 p (.ins Z.Ring dx (putF "_rows" (.ref r) (putF "_tokens" (.ref t) (putF "_stations" (.ref D) (putF "_time" (.int 0) []))))) t = some (.lst []) := upd_at (s4 _ _ e3t) hpt.symm
      have e5r : upd H4 p (.ins Z.Ring dx (putF "_rows" (.ref r) (putF "_tokens" (.ref t) (putF "_stations" (.ref D) (putF "_time" (.int 0) []))))) r = some (.lst []) := upd_at e4 hpr.symm
      have e5D := kb D _ e2D hpD.symm
      have g5 : ∀ x, NoO (upd H4 p (.ins Z.Ring dx (putF "_rows" (.ref r) (putF "_tokens" (.ref t) (putF "_stations" (.ref D) (putF "_time" (.int 0) [])))))) x → NoO H2 x := fun x z => ((((z.upd (by intro _ z; cases z)).same s4).upd (by intro _ z; cases z)).same s3).upd (by intro _ z; cases z)
      have m5 : Mw c (c + 300) rl H0 rl2 (upd H4 p (.ins Z.Ring dx (putF "_rows" (.ref r) (putF "_tokens" (.ref t) (putF "_stations" (.ref D) (putF "_time" (.int 0) [])))))) :=
        ((((m2.new np0 (o' := .ins Z.Ring dx (putF "_stations" (.ref D) (putF "_time" (.int 0) []))) (by intro _ z; cases z)).trans (.of s3)).new np0 (o' := .ins Z.Ring dx (putF "_tokens" (.ref t) (putF "_stations" (.ref D) (putF "_time" (.int 0) [])))) (by intro _ z; cases z)).trans (.of s4)).new np0 (by intro _ z; cases z)
      generalize upd H4 p _ = H5 at *
      have m6 := (((m5.rerole (a := p) (n := c) (.inl np0)).rerole (a := D) (n := c + 1) (.inl (nD hD))).rerole (a := t) (n := c + 2) (m2.gr t (.inl n2t))).rerole (a := r) (n := c + 3) (m2.gr r (.inl n2r))
      have r2t : rl2 t = 9999 := d2 t (.inl n2t)
      have r2r : rl2 r = 9999 := d2 r (.inl n2r)
      have far : ∀ x, rl2 x ≠ 9999 → rlN (rlN (rlN (rlN rl2 p c) D (c + 1)) t (c + 2)) r (c + 3) x = rl2 x := fun x hx => by
        rw [rlN_ne _ _ (fun e => hx (by rw [e]; exact r2r)), rlN_ne _ _ (fun e => hx (by rw [e]; exact r2t)), rlN_ne _ _ (fun e => hx (by rw [e]; exact r2D)), rlN_ne _ _ (fun e => hx (by rw [e]; exact r2p))]
      have q0 : rlN (rlN (rlN (rlN rl2 p c) D (c + 1)) t (c + 2)) r (c + 3) p = c := by rw [rlN_ne _ _ hpr, rlN_ne _ _ hpt, rlN_ne _ _ hpD, rlN_at]
      have q1 : rlN (rlN (rlN (rlN rl2 p c) D (c + 1)) t (c + 2)) r (c + 3) D = c + 1 := by rw [rlN_ne _ _ hDr, rlN_ne _ _ hDt, rlN_at]
      have q2 : rlN (rlN (rlN (rlN rl2 p c) D (c + 1)) t (c + 2)) r (c + 3) t = c + 2 := by rw [rlN_ne _ _ htr, rlN_at]
      have q3 : rlN (rlN (rlN (rlN rl2 p c) D (c + 1)) t (c + 2)) r (c + 3) r = c + 3 := by rw [rlN_at]
      have d5 : Rl (rlN (rlN (rlN (rlN rl2 p c) D (c + 1)) t (c + 2)) r (c + 3)) H5 := fun x z => by
        rw [rlN_ne _ _ (fun e => yesO e5r (fun _ z => (nomatch z)) (by rw [← e]; exact z)), rlN_ne _ _ (fun e => yesO e5t (fun _ z => (nomatch z)) (by rw [← e]; exact z)), rlN_ne _ _ (fun e => yesO e5D (fun _ z => (nomatch z)) (by rw [← e]; exact z)), rlN_ne _ _ (fun e => yesO e5P (fun _ z => (nomatch z)) (by rw [← e]; exact z))]
        exact d2 x (g5 x z)
      have st5 := st2.keep (H' := H5) (fun b o e h => kb b o e fun eb => by
        rw [eb] at e h
        rcases h with ⟨xs, rfl⟩ | h
        · rw [e2p] at e; cases e
        · exact h r2p) hm12 hcc
      generalize rlN (rlN (rlN (rlN rl2 p c) D (c + 1)) t (c + 2)) r (c + 3) = rl5 at *
      refine ⟨{ P := p, dx := dx, ls := D, lt := t, lr := r, sp := sp, lw := lw, tk := [], rs := [] }, rl5, preR many, 0, rfl, ⟨e5P, e5D, e5t, e5r, st5.st, .nil, .nil, q0, q1, q2, q3, fun _ m => (nomatch m), fun i hi => ?_, fun i hi => ?_, List.nodup_nil, d5, hm12⟩, preR_wf (by omega), by show 0 < many; omega, Nat.zero_le _, Nat.zero_le _, fun A' rl' H' h' sm m7 => ?_⟩
      · have hi' : i < many := hi
        rw [far _ (by rw [st2.r5 i hi']; omega)]
        exact st2.r5 i hi'
      · have hi' : i < many := hi
        rw [far _ (by rw [st2.r6 i hi']; omega)]
        exact st2.r6 i hi'
      · k_allIn
        exact kk A' rl' H' h' sm.P (m6.trans (m7.wide (by omega) (by omega)))
end
/-! ### within a try: a method's call and a making that may let an error out; isinstance of the error that a suite holds -/
section
open PySem.Spec PyProof.Rows
variable {X : Cx} {K : PySem.W.Frag} {CX : CXT} {lv : Nat} {g D : Addr} {fd : FuncData} {prm : List Str} {sp : Sp} {E : L2.St → XK}
theorem runS_make {pins : List (Addr × Obj)} {σ : L2.St} {H : Hp} {s : Shared} {Q : VK} {us : List Value} {vs : List V}
    (M : Mk X.K D g) (F : FnOk X.prog X.w X.K X.mg X.base CX lv g fd prm sp) (room : Room (lv + 1) X.A) (bd : Binds X.K fd prm [])
    (out : PassesAt CX X σ (E σ)) (I : Inv X pins σ H s) (rel : Vals vs us) (h : makeK D sp [] (E σ) vs H Q) : wpAny (model X.prog X.w) X.A (call (.ref D) us) (EP X pins σ Q) X.xe s := by
  have n := s.heap.objs.size
  have q0 := h (s.heap.objs.size + 1) s.heap.objs.size (I.hok.fresh (Nat.le_succ _))
    (I.hok.fresh (Nat.le_refl _)) (Nat.ne_of_lt (Nat.lt_succ_self _))
  rw [List.append_nil] at q0
  have J := Inv.made (C := D) I
  have rel2 : Vals (V.ref (s.heap.objs.size + 1) :: vs) (Value.ref (s.heap.objs.size + 1) :: us) := .cons rfl rel
  have len : (Value.ref (s.heap.objs.size + 1) :: us ++ []).length = prm.length := by
    rw [List.append_nil, ← rel2.length]
    exact F.len _ _ _ _ q0
  have bnd := bd _ (Value.ref (s.heap.objs.size + 1) :: us) J.kIn len
  rw [List.append_nil] at bnd
  have body := F.run _ X.stack _ _ ⟨Value.ref (s.heap.objs.size + 1) :: us, []⟩ (Value.ref (s.heap.objs.size + 1) :: us)
    _ _ (E σ) (room.make D us []) (J.env0.make D us []) bnd rel2 q0
  refine wpAny_call (make_map (f := g) I.kIn M.makes M.init
    (beq_iff_eq.mp M.fn) (codeAny_mono body fun r s' hr => ?_))
  match r, hr with
  | .error e, hr => exact out pins _ _ e s' J hr
  | .ok (.ret u), hr =>
    obtain ⟨v, H', I3, rv, ev, q3⟩ := J.after hr
    subst ev
    exact ⟨rv, V.ref (s.heap.objs.size + 1), H', I3, rfl, q3⟩
  | .ok .next, hr => exact absurd hr id
  | .ok .brk, hr => exact absurd hr id
  | .ok .cont, hr => exact absurd hr id
def tMakS (C : Addr) (sp : Sp) (E : L2.St → XK) (t : TA) : TE := fun σ H Q => t σ H fun vs H1 => makeK C sp [] (E σ) vs H1 Q
theorem pe_makeS {x : Str} {e : Expr} {es : List Expr} {p pos : Pos} {t : TA} (M : Mk X.K D g) (F : FnOk X.prog X.w X.K X.mg X.base CX lv g fd prm sp) (room : Room (lv + 1) X.A) (gl : Gl X x) (mgx : X.mg x = some (.ref D)) (bd : Binds X.K fd prm [])
    (out : ∀ σ, PassesAt CX X σ (E σ)) (ha : PA X (e :: es) t) (nd : (x == ("__debug__" : Str)) = false := by decide)
    (h1 : starEach (e :: es) X.env = (false, eval e X.env) :: starEach es X.env := by rfl) (h2 : (backTo pos (starEach es X.env)).any (·.1) = false := by rfl) : PE X (.Call (.Name x p) (e :: es) [] pos) (tMakS D sp E t) := by
  constructor
  intro pins s σ H Q I h
  refine wpAny_Call_Name_kw (ld_glob I gl mgx ?_ nd)
  refine PySem.W.callWith_K (h₀ := X.base) I.ok.mod.kin M.kp
    (thn (ha.run pos pins s σ H _ I h) fun us s1 z => ?_) h1 h2
  obtain ⟨vs, H1, I1, r1, q1⟩ := z
  exact ⟨I1.kIn, runS_make M F room bd (out σ) I1 r1 q1⟩
def tMtS (C : Addr) (m : Str) (sp : Sp) (E : L2.St → XK) (ta : TE) (t : TA) : TE := fun σ H Q => ta σ H fun x H1 => methK C m sp [] (E σ) t σ x H1 Q
theorem k_methS {m : Str} {o e : Expr} {es : List Expr} {apos pos : Pos} {ta : TE} {t : TA} {pl : Sem Bool} (ho : PE X o ta) (cl : Cls X.K D) (hm : Meth X.K D m g) (F : FnOk X.prog X.w X.K X.mg X.base CX lv g fd prm sp) (room : Room lv X.A) (bd : Binds X.K fd prm [])
    (out : ∀ σ, PassesAt CX X σ (E σ)) (ha : PA X (e :: es) t)
    (h1 : starEach (e :: es) X.env = (false, eval e X.env) :: starEach es X.env := by rfl) (h2 : (backTo pos (starEach es X.env)).any (·.1) = false := by rfl)
    (form : eval (.Call (.Attribute o m apos) (e :: es) [] pos) X.env = (do
      let own ← eval o X.env
      standAt apos.atName
      let (fn, first) ← holding [own] (getMethod own m pl)
      callWith pos fn first (backTo pos (starEach (e :: es) X.env)) (backToKw pos (keywordEach [] X.env))) := by rfl) (hK : X.K = K := by rfl) : PE X (.Call (.Attribute o m apos) (e :: es) [] pos) (tMtS D m sp E ta t) := by
  constructor
  intro pins s σ H Q I h
  refine PySem.W.methodCall_KW (pl := pl) (thn (ho.run pins s σ H _ I h) fun u s1 z => ?_) form
  obtain ⟨x, H1, I1, rx, a, dx, fs, ex, ea, l, q⟩ := z
  subst ex
  obtain rfl : u = Value.ref a := rx
  refine getmeth_ok I1 ea cl hm l ?_
  refine PySem.W.callWith_K (first := [.ref a]) (h₀ := X.base) I.ok.mod.kin hm.kp
    (thn (ha.run pos pins s1 σ H1 _ I1 q) fun us s2 z => ?_) h1 h2
  obtain ⟨vs, H2, I2, r2, q2⟩ := z
  rw [List.append_nil] at q2
  exact ⟨I2.kIn, run_fnS (us := .ref a :: us) (vs := .ref a :: vs) F room bd (out σ) I2 (.cons rfl r2) q2⟩
/-- isinstance(e, c), isinstance(e, (c, ..)): e the error that the suite holds, of the class cls -/
def rIsX (K : PySem.W.Frag) (cls : Value) (d : Option Addr) (a : Addr) : List V → Hp → VK → Prop := fun xs H Q => ∃ (C : Addr) (c : V) (cv : Value) (b : Bool), cls = .ref C ∧ d = none ∧ ExcC K C ∧ xs = [.ref a, c] ∧ ClsV c cv ∧ PySem.W.kitOne K (.ref C) cv = some b ∧ Q (.bl b) H
def rIsXT (K : PySem.W.Frag) (cls : Value) (d : Option Addr) (a : Addr) : List V → Hp → VK → Prop := fun xs H Q => ∃ (C tp : Addr) (cs : List V) (us : List Value) (b : Bool), cls = .ref C ∧ d = none ∧ ExcC K C ∧ xs = [.ref a, .ref tp] ∧ H tp = some (.tup cs) ∧ Paired ClsV cs us ∧ PySem.W.kitAny K (.ref C) us = some b ∧ Q (.bl b) H
section
variable {a : Addr} {cls : Value} {d : Option Addr} {oe : Obj} {pn : List (Addr × Obj)}
theorem call_isX (hz : Zc cls d oe) (hf : ∃ vs, oe.data = .fields vs) (hK : X.K = K := by rfl) : CallR (X.suite a ((a, oe) :: pn)) (.builtin "isinstance") (rIsX K cls d a) := by
  subst hK
  intro pins s σ H xs us Q I r h
  obtain ⟨C, c, cv, b, rfl, rfl, ec, rfl, hc, hk, q⟩ := h
  exact call_isE ec hz hf pins s σ H _ us Q I r ⟨c, cv, b, rfl, fun u ru => hc.eq ru, hk, q⟩
theorem call_isXT (hz : Zc cls d oe) (hf : ∃ vs, oe.data = .fields vs) (hK : X.K = K := by rfl) : CallR (X.suite a ((a, oe) :: pn)) (.builtin "isinstance") (rIsXT K cls d a) := by
  subst hK
  intro pins s σ H xs us Q I r h
  obtain ⟨C, tp, cs, ws, b, rfl, rfl, ec, rfl, hT, hc, hk, q⟩ := h
  obtain ⟨u1, u2, rfl, r1, r2⟩ := vals2 r
  cases (show u1 = Value.ref a from r1)
  cases (show u2 = Value.ref tp from r2)
  obtain ⟨hget, _⟩ := I.pin (a, oe) (List.mem_append.mpr (.inl List.mem_cons_self))
  obtain ⟨vs, hv⟩ := hf
  have inst : PySem.W.InstAt s.heap a oe C none := by
    obtain ⟨c1, c2, c3, c4⟩ := oe
    obtain ⟨z1, z2⟩ := hz
    dsimp only at z1 z2 hv
    subst z1 z2 hv
    exact ⟨hget, rfl, rfl, trivial⟩
  obtain ⟨_, its, rv, o, g1, g2, n, g3⟩ := (show ObjOk X.prog X.w H s.heap tp (.tup cs) from I.hok tp _ hT)
  have e3 := ClsV.all hc rv
  subst e3
  obtain ⟨oc, od, dt, sl⟩ := o
  simp only at g2 g3
  subst g2 g3
  exact PySem.W.kia_tup (PySem.W.handS_kitx_exc ec.hg ec.hk ec.hs ec.hd ec.ha ec.hn ec.ht ec.hm) I.kIn inst g1 hk (fun z => nomatch z)
    fun tk => ⟨.bl b, H, I.kept (t' := tk) fun _ _ z => z, rfl, q⟩
end
end
section
variable {σ : L2.St} {H : Hp} {Q : VK} {sp : Sp} {E : L2.St → XK} {t : TA} {ta : TE} {C : Addr} {m : Str}
theorem w_makS (k : t σ H fun vs H1 => makeK C sp [] (E σ) vs H1 Q) : tMakS C sp E t σ H Q := k
theorem w_mtS (k : ta σ H fun x H1 => methK C m sp [] (E σ) t σ x H1 Q) : tMtS C m sp E ta t σ H Q := k
theorem w_callS (k : t σ H fun vs H1 => sp vs H1 Q (E σ)) : tCallS sp E t σ H Q := k
end
/-! ### own classes of errors: in an except clause, in isinstance -/
theorem exm_own {K : PySem.W.Frag} {C : Addr} {cls : Value} {b : Bool} (h1 : PySem.W.subIn K (.ref C) (.type "BaseException") = some true) (i : PySem.W.isClsIn K C = true) (t : PySem.W.typeIn K (.ref C) = some (.type "type")) (s : PySem.W.subIn K cls (.ref C) = some b) : PySem.W.exmOne K cls (.ref C) = some b := by
  have e1 : (PySem.W.subIn K (.ref C) (.type "BaseException") == some true) = true := by rw [h1] <;> rfl
  have i' : (PySem.W.clsIn K C).isSome = true := i
  have e2 : ((PySem.W.clsIn K C).isSome && PySem.W.typeIn K (.ref C) == some (.type "type")) = true := by rw [i', t] <;> rfl
  unfold PySem.W.exmOne PySem.W.kitCls
  rw [if_pos e1]
  exact (if_pos e2).trans s
theorem kit_own {K : PySem.W.Frag} {C D : Addr} {b : Bool} (i : PySem.W.isClsIn K C = true) (t : PySem.W.typeIn K (.ref C) = some (.type "type")) (r : PySem.W.subIn K (.ref C) (.ref C) = some true) (s : PySem.W.subIn K (.ref D) (.ref C) = some b) : PySem.W.kitOne K (.ref D) (.ref C) = some b := by
  have i' : (PySem.W.clsIn K C).isSome = true := i
  have e2 : ((PySem.W.clsIn K C).isSome && PySem.W.typeIn K (.ref C) == some (.type "type")) = true := by rw [i', t] <;> rfl
  by_cases e : D = C
  · subst e
    rw [r] at s
    unfold PySem.W.kitOne
    rw [if_pos (by simp)]
    exact s
  · unfold PySem.W.kitOne PySem.W.kitCls
    rw [if_neg (by simpa using e)]
    exact (if_pos e2).trans s
theorem kit_val {K : PySem.W.Frag} {D : Addr} (s : PySem.W.subIn K (.ref D) (.type "ValueError") = some true) : PySem.W.kitOne K (.ref D) (.type "ValueError") = some true := by
  unfold PySem.W.kitOne PySem.W.kitCls
  rw [if_neg (by simp)]
  exact (if_pos (by decide +kernel)).trans s
theorem kit_cons {K : PySem.W.Frag} {t c : Value} {r : List Value} {b : Bool} (h : PySem.W.kitOne K t c = some false) (k : PySem.W.kitAny K t r = some b) : PySem.W.kitAny K t (c :: r) = some b := by
  show (match PySem.W.kitOne K t c with | some true => some true | some false => PySem.W.kitAny K t r | none => none) = some b
  rw [h]
  exact k
/-! ### a cell of the script -/
def spCellAt (K : PySem.W.Frag) : Sp := fun vs H Q _ => ∃ (a : Addr) (ns : List Int) (i : Nat), vs = [.ref a, .int (i : Int)] ∧ SqL K H a (ns.map V.int) ∧ Q (.int (ns.getD i 0)) H
section
variable {P : Program} {w : World} {K : PySem.W.Frag} {mg : Str → Option Value} {base : Heap} {Z : Ad}
theorem ok_law_cell_at (T : Txt K mg Z) : FnOk P w K mg base CX0 1 Z.law_cell_at Z.law_cell_at_d ["_law_script", "_law_k"] (spCellAt K) := by
  refine T.F_law_cell_at.ok sc_law_cell_at (fun vs H Q E h => ?_) (fun cdv A outer s H vs Q E hr h => ?_)
  · obtain ⟨a, ns, i, rfl, _⟩ := h
    rfl
  · obtain ⟨a, ns, i, rfl, ha, k⟩ := h
    refine ⟨_, (pss_cons (ps_if (pt_cmpR op_lt (pv 1) (pe_callB (r := rLenS K) call_lenS (by rfl) T.n_len PySem.boot_len (pa_cons (pv 0) pa_nil)) (nomark _))
        (pss_one (ps_ret (pe_ix (r := rIx K) ix_seq (pv 0) (pv 1) (fun _ _ => rfl))))
        pss_nil)
      (pss_one (ps_ret pe_int))), ?_⟩
    k_allIn
    rw [List.length_map]
    k_allIn
    refine ite2 (fun c => ?_) (fun c => ?_)
    · have hl : i < ns.length := by have := of_decide_eq_true c; omega
      k_allIn
      refine w_ixL ha (atI_nat (j := i) (by rw [List.getElem?_map, List.getElem?_eq_getElem hl]; rfl)) ?_
      rw [List.getD_eq_getElem?_getD, List.getElem?_eq_getElem hl] at k
      exact k
    · have hl : ns.length ≤ i := by have := of_decide_eq_false (eq_false_of_ne_true c); omega
      k_allIn
      rw [List.getD_eq_getElem?_getD, List.getElem?_eq_none hl] at k
      exact k
end
/-! ### the script's list stands while rings move -/
def ScAt (K : PySem.W.Frag) (rl : Addr → Nat) (H : Hp) (a : Addr) (xs : List V) : Prop := (Rd H a (.lst xs) ∧ rl a = 9999) ∨ ∃ (o : Obj) (its : Array Value) (n : Nat), K.lookup a = some o ∧ o.cls = .type "list" ∧ o.dict = none ∧ o.data = .seq its n ∧ its.size ≤ sizeLine ∧ Vals xs its.toList
theorem ScAt.start {K : PySem.W.Frag} {H : Hp} {a : Addr} {xs : List V} (h : SqL K H a xs) : ScAt K (fun _ => 9999) H a xs := by
  rcases h with h | h
  · exact .inl ⟨h, rfl⟩
  · exact .inr h
theorem ScAt.sq {K : PySem.W.Frag} {rl : Addr → Nat} {H : Hp} {a : Addr} {xs : List V} (h : ScAt K rl H a xs) : SqL K H a xs := by
  rcases h with h | h
  · exact .inl h.1
  · exact .inr h
theorem ScAt.same {K : PySem.W.Frag} {rl : Addr → Nat} {H H' : Hp} {a : Addr} {xs : List V} (h : ScAt K rl H a xs) (s : Same H H') : ScAt K rl H' a xs := by
  rcases h with ⟨h | ⟨o, h⟩, r⟩ | h
  · exact .inl ⟨.inl (s _ _ h), r⟩
  · exact .inl ⟨.inr ⟨o, s _ _ h⟩, r⟩
  · exact .inr h
theorem ScAt.mv {K : PySem.W.Frag} {lo hi : Nat} {rl rl' : Addr → Nat} {H H' : Hp} {a : Addr} {xs : List V} (h : ScAt K rl H a xs) (m : Mv lo hi rl H rl' H') (hh : hi ≤ 9999) : ScAt K rl' H' a xs := by
  rcases h with ⟨h | ⟨o, h⟩, r⟩ | h
  · exact .inl ⟨.inl (m.kp _ _ h (.inr (.inr (by rw [r]; exact hh))) fun _ z => (nomatch z)), by rw [m.ag _ (yesO h fun _ z => (nomatch z))]; exact r⟩
  · exact .inl ⟨.inr ⟨o, m.kp _ _ h (.inr (.inr (by rw [r]; exact hh))) fun _ z => (nomatch z)⟩, by rw [m.ag _ (yesO h fun _ z => (nomatch z))]; exact r⟩
  · exact .inr h
theorem ScAt.mw {K : PySem.W.Frag} {lo hi : Nat} {rl rl' : Addr → Nat} {H H' : Hp} {a : Addr} {xs : List V} (h : ScAt K rl H a xs) (m : Mw lo hi rl H rl' H') (hh : hi ≤ 9999) : ScAt K rl' H' a xs := h.mv m.mv hh
/-! ### xs.count(True), xs a list of truths -/
def rCntB (K : PySem.W.Frag) : V → List V → Hp → VK → Prop := fun x xs H Q => ∃ (p : Addr) (bs : List Bool), x = .ref p ∧ xs = [.bl true] ∧ SqL K H p (bs.map V.bl) ∧ Q (.int (bs.countP id : Nat)) H
theorem reads_bls {h : Heap} : ∀ bs : List Bool, ReadsAll h (bs.map Value.bool) (bs.map PyData.bool) []
  | [] => .nil
  | b :: bs => .cons (.bool b) (reads_bls bs)
theorem plain_bls : ∀ bs : List Bool, PyData.plainAll (bs.map PyData.bool) = true
  | [] => rfl
  | b :: bs => by
    rw [List.map_cons, PyData.plainAll, plain_bls bs]
    rfl
theorem depth_bls : ∀ bs : List Bool, PyData.depthAll (bs.map PyData.bool) = 0
  | [] => rfl
  | b :: bs => by
    rw [List.map_cons, PyData.depthAll, depth_bls bs]
    rfl
theorem cnt_bls : ∀ bs : List Bool, (bs.map PyData.bool).countP (fun y => PyData.eqv y (.bool true)) = bs.countP id
  | [] => rfl
  | b :: bs => by
    rw [List.map_cons, List.countP_cons, List.countP_cons, cnt_bls bs]
    cases b <;> rfl
theorem mt_cntB {X : Cx} (hu : X.A.units + 1 < cLine) : MtR X "list.count" (rCntB X.K) := by
  intro pins s σ H x xs v us Q I rx rxs h
  obtain ⟨p, bs, rfl, rfl, hs, q⟩ := h
  cases rx
  obtain ⟨u, rfl, ru⟩ := rxs.one
  obtain rfl : u = Value.bool true := ru
  obtain ⟨its, rv, hl, _⟩ := I.list hs
  have e := Vals.bls rv
  subst e
  refine PySem.SeqAt.count_list_data (xs := bs.map PyData.bool) (d := .bool true) (as := []) (bs := []) hl.isList (reads_bls bs) (.bool true) (plain_bls bs) rfl (by rw [depth_bls]; omega) ?_
  rw [cnt_bls]
  exact ⟨.int (bs.countP id : Nat), H, I.tok _, ⟨s.toks, rfl⟩, q⟩
/-! ### the cells behind the first ones -/
def spDeeds (K : PySem.W.Frag) : Sp := fun vs H Q _ => ∃ (a : Addr) (ns : List Int) (f few m : Nat), vs = [.ref a, .int (f : Int), .int (few : Int), .int (m : Int)] ∧ SqL K H a (ns.map V.int) ∧ ns.length ≤ 63 ∧ f ≤ 10 ∧ few ≤ 60 ∧
  ∀ (q : Addr) (H' : Hp), H q = none → Same H H' → H' q = some (.lst (((ns.drop f).take few).map V.int)) → Q (.ref q) H'
section
variable {P : Program} {w : World} {K : PySem.W.Frag} {mg : Str → Option Value} {base : Heap} {Z : Ad}
theorem ok_law_deeds (T : Txt K mg Z) : FnOk P w K mg base CX0 1 Z.law_deeds Z.law_deeds_d ["_law_script", "_law_first", "_law_few", "_law_many"] (spDeeds K) := by
  refine T.F_law_deeds.ok sc_law_deeds (fun vs H Q E h => ?_) (fun cdv X outer s H vs Q E hr h => ?_)
  · obtain ⟨a, ns, f, few, m, rfl, _⟩ := h
    rfl
  · obtain ⟨a, ns, f, few, m, rfl, hS, hl, hf, hfew, k⟩ := h
    refine ⟨_, (pss_cons (ps_set (i := 4) sc_law_deeds.nd rfl (Or.inl rfl) (pv 2))
      (pss_cons (ps_if (pt_cmpR op_gt (pe_callB (r := rLenS K) call_lenS (by rfl) T.n_len PySem.boot_len (pa_cons (pv 0) pa_nil)) pe_int (nomark _))
        (pss_one (ps_set (i := 4) sc_law_deeds.nd rfl (Or.inl rfl) (pv 3)))
        pss_nil)
      (pss_one (ps_ret (pe_lc (own := [("_law_k", 5)]) (g := gName 5) rfl sc_law_deeds.nd (pi_range2 (by rfl) T.n_range (pa_cons (pv 1) (pa_cons (pe_callB (call_min2 rfl) (by rfl) T.n_min (by decide +kernel) (pa_cons (pe_callB (r := rLenS K) call_lenS (by rfl) T.n_len PySem.boot_len (pa_cons (pv 0) pa_nil)) (pa_cons (pe_op op_add (pv 1) (pv 4)) pa_nil))) pa_nil))) (blkOk_by (own := [("_law_k", 5)]) (N := ["_law_script", "_law_first", "_law_few", "_law_many", "_law_count", "_law_k"]) (sc := defScope s_law_deeds) (by decide +kernel)) (fun _ _ _ _ _ => pg_name (i := 5) sc_law_deeds.nd rfl (Or.inl rfl)) (fun _ _ _ _ _ => pts_nil) (fun _ _ _ _ _ => (pe_ix (r := rIx K) ix_seq (pv 0) (pv 5) (fun _ _ => rfl)))))))), ?_⟩
    k_allIn
    rw [List.length_map]
    refine ite2 (fun cc => ?_) (fun cc => ?_)
    · exfalso
      have := of_decide_eq_true cc
      omega
    · k_allIn
      refine ⟨_, _, rfl, ?_⟩
      rw [List.length_map]
      obtain ⟨n, en, hn⟩ : ∃ n : Nat, ((if (f : Int) + (few : Int) < (ns.length : Int) then (f : Int) + (few : Int) else (ns.length : Int)) - (f : Int)).toNat = n ∧ n = ((ns.drop f).take few).length := by
        refine ⟨_, rfl, ?_⟩
        rw [List.length_take, List.length_drop]
        split <;> omega
      have hb : -(2 ^ 62) ≤ (if (f : Int) + (few : Int) < (ns.length : Int) then (f : Int) + (few : Int) else (ns.length : Int)) ∧ (if (f : Int) + (few : Int) < (ns.length : Int) then (f : Int) + (few : Int) else (ns.length : Int)) < 2 ^ 62 := by split <;> omega
      generalize (if (f : Int) + (few : Int) < (ns.length : Int) then (f : Int) + (few : Int) else (ns.length : Int)) = top at *
      k_allIn
      refine fun D hD => ?_
      rw [en]
      refine lc_range (lo := (f : Int)) (Pv := fun j H' => Same H H' ∧ H' D = some (.lst ((((ns.drop f).take few).take j).map V.int))) ⟨same_new hD, upd_same⟩ ?_ ?_
      · rintro j H1 hj ⟨s1, e1⟩
        have hj' : j < ((ns.drop f).take few).length := by omega
        have hjn : f + j < ns.length := by rw [List.length_take, List.length_drop] at hj'; omega
        have hjf : j < few := by rw [List.length_take] at hj'; omega
        have hg : ((ns.drop f).take few)[j]? = some ns[f + j] := by
          rw [List.getElem?_take_of_lt hjf, List.getElem?_drop, List.getElem?_eq_getElem hjn]
        have hai : atI (ns.map V.int) ((f : Int) + (j : Int)) = some (.int ns[f + j]) := at_of (j := f + j) (by omega) (by rw [List.getElem?_map, List.getElem?_eq_getElem hjn]; rfl)
        k_allIn
        refine ⟨rfl, ?_⟩
        k_allIn
        refine w_ixL (s1.seq hS) hai ?_
        refine ⟨_, e1, small (by rw [List.length_map, List.length_take, List.length_take]; omega), same_mut s1 hD, ?_⟩
        rw [upd_same, List.take_add_one, hg, List.map_append]
        rfl
      · rintro H1 ⟨s1, e1⟩
        rw [hn, List.take_length] at e1
        exact k D H1 hD s1 e1
end
/-! ### a deed -/
inductive Deed where
  | put (i : Nat) (r m : Int)
  | step (n : Nat)
  | lose (k : Nat)
  | off (i : Nat)
  | on (i : Nat)
  | make (i : Nat)
def deedV : Deed → List V
  | .put i r m => [.str "put", .int (i : Int), .int r, .int m]
  | .step n => [.str "step", .int (n : Int)]
  | .lose k => [.str "lose", .int (k : Int)]
  | .off i => [.str "off", .int (i : Int)]
  | .on i => [.str "on", .int (i : Int)]
  | .make i => [.str "make", .int (i : Int)]
def Deed.ok (many : Nat) : Deed → Prop
  | .put i r m => i < many ∧ 0 ≤ r ∧ r ≤ 7 ∧ 0 ≤ m ∧ m ≤ 1000000000
  | .step n => 1 ≤ n ∧ n ≤ 44
  | .lose _ => True
  | .off i => i < many
  | .on i => i < many
  | .make i => i < many
theorem i_sn {x y : Str} {C D : Prop} (h : (x == y) = false) (k : D) : if decide (V.str x = V.str y) = true then C else D := by
  rw [decide_eq_false fun z => by rw [V.str.inj z] at h; simp at h]
  exact iteF k
/-! ### a deed's mirror -/
def stepN : Nat → RG.Ring → RG.Ring
  | 0, R => R
  | n + 1, R => RG.step (stepN n R)
def doD (R : RG.Ring) : Deed → RG.Ring
  | .put i r m => RG.put R i r m
  | .step n => stepN n R
  | .lose k => if k < R.tk.length then RG.lose R k else R
  | .off i => if (R.st i).on = true then RG.off R i else R
  | .on i => if (R.st i).on = true then R else RG.turnOn R i
  | .make i => if (R.st i).on = true then RG.born R i else R
/-- how much there is behind k deeds, and t steps of the next one -/
structure Bd (k t : Nat) (R : RG.Ring) : Prop where
  tk : R.tk.length ≤ 24 + k
  rw : R.rw.length ≤ 1 + 3000 * k + 60 * t
  ln : ∀ i, (R.st i).line.length ≤ k
  mn : R.many ≤ 12
theorem Bd.fewR {k t : Nat} {R : RG.Ring} (b : Bd k t R) (hk : k ≤ 24) (ht : t ≤ 44) : FewR R := ⟨by have := b.tk; omega, by have := b.rw; omega, fun i _ => by have := b.ln i; omega⟩
theorem Bd.rw9 {k t : Nat} {R : RG.Ring} (b : Bd k t R) (hk : k ≤ 24) (ht : t ≤ 44) : R.rw.length ≤ 90000 := by have := b.rw; omega
theorem Bd.step {k t : Nat} {R : RG.Ring} (b : Bd k t R) (hk : k ≤ 24) (W : RG.WF R) : Bd k (t + 1) (RG.step R) := by
  obtain ⟨h1, h2⟩ := RG.step_few W
  have b1 := b.tk
  have b2 := b.rw
  have b3 := b.mn
  refine ⟨by omega, by omega, fun i => ?_, by rw [RG.step_many]; exact b3⟩
  rcases RG.step_line W i with h | ⟨e, h⟩
  · rw [h]; exact b.ln i
  · have := b.ln i
    rw [h, List.length_cons] at this
    omega
theorem Bd.steps {k : Nat} {R : RG.Ring} (b : Bd k 0 R) (hk : k ≤ 24) (W : RG.WF R) : ∀ n : Nat, Bd k n (stepN n R) ∧ RG.WF (stepN n R) ∧ (stepN n R).many = R.many
  | 0 => ⟨b, W, rfl⟩
  | n + 1 => by
    obtain ⟨h1, h2, h3⟩ := Bd.steps b hk W n
    exact ⟨h1.step hk h2, h2.step, (RG.step_many _).trans h3⟩
theorem up_len {f : Nat → RG.Stn} {i : Nat} {s : RG.Stn} {k : Nat} (h : ∀ j, (f j).line.length ≤ k) (hs : s.line.length ≤ k) (j : Nat) : (RG.up f i s j).line.length ≤ k := by
  unfold RG.up
  split
  · exact hs
  · exact h j
theorem doD_many {R : RG.Ring} {d : Deed} (W : RG.WF R) : (doD R d).many = R.many := by
  cases d with
  | put i r m => rfl
  | step n =>
    show (stepN n R).many = R.many
    induction n with
    | zero => rfl
    | succ n ih => exact (RG.step_many _).trans ih
  | lose k =>
    show (if _ then _ else _ : RG.Ring).many = _
    split
    · exact (RG.lose_tk R k).1
    · rfl
  | off i =>
    show (if _ then _ else _ : RG.Ring).many = _
    split <;> rfl
  | on i =>
    show (if _ then _ else _ : RG.Ring).many = _
    split <;> rfl
  | make i =>
    show (if _ then _ else _ : RG.Ring).many = _
    split <;> rfl
theorem Bd.next {k : Nat} {R : RG.Ring} {d : Deed} (b : Bd k 0 R) (hk : k < 24) (W : RG.WF R) (ok : d.ok R.many) : Bd (k + 1) 0 (doD R d) ∧ RG.WF (doD R d) := by
  have b1 := b.tk
  have b2 := b.rw
  have b3 := b.ln
  have b4 := b.mn
  have stay : Bd (k + 1) 0 R ∧ RG.WF R := ⟨⟨by omega, by omega, fun i => by have := b3 i; omega, b4⟩, W⟩
  cases d with
  | put i r m =>
    refine ⟨⟨Nat.le_trans b1 (by omega), Nat.le_trans b2 (by omega), fun j => ?_, b4⟩, W.put i r m⟩
    refine up_len (fun j => Nat.le_succ_of_le (b3 j)) ?_ j
    show List.length (_ ++ _) ≤ _
    rw [List.length_append]
    have := b3 i
    show _ + 1 ≤ _
    omega
  | step n =>
    obtain ⟨h1, h2, _⟩ := b.steps (by omega) W n
    have ok' : 1 ≤ n ∧ n ≤ 44 := ok
    have c1 := h1.tk
    have c2 := h1.rw
    exact ⟨⟨by show (stepN n R).tk.length ≤ _; omega, by show (stepN n R).rw.length ≤ _; omega, fun i => by have := h1.ln i; show ((stepN n R).st i).line.length ≤ _; omega, h1.mn⟩, h2⟩
  | lose j =>
    show Bd _ _ (if _ then _ else _) ∧ RG.WF (if _ then _ else _)
    split
    · obtain ⟨e1, e2, e3, e4⟩ := RG.lose_tk R j
      refine ⟨⟨?_, ?_, fun i => by rw [e2]; have := b3 i; omega, by rw [e1]; exact b4⟩, W.lose j⟩
      · rw [e4]
        have := List.length_eraseIdx_le R.tk j
        omega
      · unfold RG.lose
        split
        · omega
        · show List.length (_ ++ _) ≤ _
          rw [List.length_append]
          show _ + 1 ≤ _
          omega
    · exact stay
  | off i =>
    show Bd _ _ (if _ then _ else _) ∧ RG.WF (if _ then _ else _)
    split
    · have l1 := List.length_filter_le (fun t : RG.Tok => t.pl != i) R.tk
      have l2 := List.length_filter_le (fun t : RG.Tok => t.pl == i) R.tk
      refine ⟨⟨Nat.le_trans l1 (by omega), ?_, up_len (fun j => Nat.le_succ_of_le (b3 j)) (Nat.le_succ_of_le (b3 i)), b4⟩, W.off i⟩
      show List.length (_ ++ List.map _ _) ≤ _
      rw [List.length_append, List.length_map]
      omega
    · exact stay
  | on i =>
    show Bd _ _ (if _ then _ else _) ∧ RG.WF (if _ then _ else _)
    split
    · exact stay
    · exact ⟨⟨by show R.tk.length ≤ _; omega, by show R.rw.length ≤ _; omega, up_len (fun j => Nat.le_succ_of_le (b3 j)) (Nat.le_succ_of_le (b3 i)), b4⟩, W.turnOn i⟩
  | make i =>
    show Bd _ _ (if _ then _ else _) ∧ RG.WF (if _ then _ else _)
    split
    · next ho =>
      refine ⟨⟨?_, ?_, up_len (fun j => Nat.le_succ_of_le (b3 j)) (Nat.le_succ_of_le (b3 i)), b4⟩, W.born ok ho⟩
      · show (RG.insTok _ _).length ≤ _
        rw [ins_len]
        omega
      · show List.length (_ ++ _) ≤ _
        rw [List.length_append]
        show _ + 1 ≤ _
        omega
    · exact stay
theorem Bd.start {many : Nat} (h : many ≤ 12) : Bd 0 0 (RG.ring0 many) := ⟨by show 1 ≤ 24; decide, by show 1 ≤ 1; decide, up_len (fun j => Nat.le_refl 0) (Nat.le_refl 0), h⟩
/-! one step of a reading; a heap's place -/
local macro_rules | `(tactic| k_memK) => `(tactic| first
  | assumption
  | exact upd_same
  | (refine upd_other ?_ (by assumption); k_memK)
  | (refine upd_at ?_ (by assumption); k_memK)
  | (refine upd_at ?_ (Ne.symm (by assumption)); k_memK)
  | (refine same_at (by assumption) ?_; k_memK))
/- where a list, a tuple stands -/
local macro_rules | `(tactic| k_upd) => `(tactic| first
  | assumption
  | exact SqL.of (by k_memK)
  | (refine Same.seq (by assumption) ?_; k_upd))
local macro_rules | `(tactic| k_ownIn) => `(tactic| first
  | assumption
  | exact SqT.of (by k_memK)
  | (refine same_tup (by assumption) ?_; k_ownIn))
local macro_rules | `(tactic| k_updF) => `(tactic| first
  | with_reducible refine' w_seq ?_
  | with_reducible refine' w_op ?_
  | ((with_reducible refine' w_var ?hh ?_); (case hh => rfl))
  | with_reducible refine' w_c ?_
  | with_reducible refine' w_I0 ?_
  | with_reducible refine' w_set ?_
  | with_reducible refine' w_cons ?_
  | with_reducible refine' w_nil ?_
  | with_reducible refine' w_CB ?_
  | with_reducible refine' w_call ?_
  | with_reducible refine' w_ret ?_
  | with_reducible refine' w_drop ?_
  | with_reducible refine' w_next ?_
  | with_reducible refine' w_ifS ?_
  | with_reducible refine' w_test ?_
  | with_reducible refine' w_tstK ?_
  | with_reducible refine' w_tr ?_
  | with_reducible refine' w_truB ?_
  | with_reducible refine' w_and ?_
  | with_reducible refine' w_or ?_
  | with_reducible refine' w_not ?_
  | with_reducible refine' w_andV ?_
  | with_reducible refine' w_orV ?_
  | with_reducible refine' w_notV ?_
  | with_reducible refine' w_andK ?_
  | with_reducible refine' w_orK ?_
  | with_reducible refine' w_notK ?_
  | with_reducible refine' w_tup ?_
  | with_reducible refine' w_lst ?_
  | with_reducible refine' w_fld ?_
  | with_reducible refine' w_sfld ?_
  | with_reducible refine' w_meth ?_
  | with_reducible refine' w_bm ?_
  | with_reducible refine' w_retN ?_
  | ((with_reducible refine' w_eq ?hh ?_); (case hh => rfl))
  | ((with_reducible refine' w_ne ?hh ?_); (case hh => rfl))
  | ((with_reducible refine' w_mod ?hh ?_); (case hh => (first | assumption | (show (0 : Int) < _; first | decide | omega))))
  | ((with_reducible refine' w_div ?hh ?_); (case hh => (exact ⟨by decide, by decide⟩)))
  | ((with_reducible refine' w_pow ?hh ?_); (case hh => (exact ⟨by decide, by decide, by decide⟩)))
  | ((with_reducible refine' w_mulR ?hh ?_); (case hh => (exact ⟨by decide, by decide⟩)))
  | ((with_reducible refine' w_mulL ?hh ?_); (case hh => (exact ⟨by decide, by decide⟩)))
  | ((with_reducible refine' w_ixT ?hh ?ha ?_); (case hh => k_ownIn); (case ha => (first | rfl | exact atI_nat (j := 0) rfl)))
  | ((with_reducible refine' w_ixL ?hh ?ha ?_); (case hh => k_upd); (case ha => (first | rfl | exact atI_nat (j := 0) rfl)))
  | ((with_reducible refine' w_tyL ?hh ?_); (case hh => k_upd))
  | with_reducible refine' i_ne ?_
  | with_reducible refine' i_eq ?_
  | ((with_reducible refine' i_nn ?hh ?_); (case hh => (intro h; cases h)))
  | ((with_reducible refine' i_isn ?hh ?_); (case hh => (intro h; cases h)))
  | with_reducible refine' i_nt ?_
  | with_reducible refine' i_nf ?_
  | with_reducible refine' i_t ?_
  | with_reducible refine' i_f ?_
  | with_reducible refine' w_isNo ?_
  | with_reducible refine' w_notNo ?_
  | ((with_reducible refine' w_lenL ?hh ?_); (case hh => k_upd))
  | ((with_reducible refine' w_lenT ?hh ?_); (case hh => k_ownIn))
  | with_reducible refine' w_for ?_
  | with_reducible refine' w_rng1 ?_
  | with_reducible refine' w_rng2 ?_
  | with_reducible refine' w_iL ?_
  | ((with_reducible refine' w_rng1K ?hh ?_); (case hh => omega))
  | ((with_reducible refine' w_rng2K ?hh ?_); (case hh => (first | omega | (simp only [List.length_map]; omega))))
  | ((with_reducible refine' w_iLK ?hh ?_); (case hh => k_upd))
  | with_reducible refine' w_lc ?_
  | with_reducible refine' w_yes ?_
  | with_reducible refine' w_gN ?_
  | ((with_reducible refine' w_gT ?hh ?hl ?_); (case hh => k_ownIn); (case hl => rfl))
  | with_reducible refine' w_g0 ?_
  | with_reducible refine' w_gC ?_
  | with_reducible refine' w_asg ?_
  | with_reducible refine' w_make ?_
  | with_reducible refine' w_un ?_
  | with_reducible refine' w_rU ?_
  | with_reducible refine' w_fldaug ?_
  | with_reducible refine' w_rAdd ?_
  | with_reducible refine' w_rSub ?_
  | ((with_reducible refine' w_augK ?hh ?hc ?hn ?hl ?_); (case hh => k_memK); (case hc => assumption); (case hn => assumption); (case hl => rfl))
  | ((with_reducible refine' w_aug2K ?hh ?hl ?_); (case hh => k_memK); (case hl => (exact of_decide_eq_true rfl)))
  | ((with_reducible refine' w_methK ?hh ?hl ?_); (case hh => k_memK); (case hl => rfl))
  | ((with_reducible refine' w_sfldK ?hh ?hc ?hn ?hl ?_); (case hh => k_memK); (case hc => assumption); (case hn => assumption); (case hl => (exact of_decide_eq_true rfl)))
  | ((with_reducible refine' w_fldK ?hh ?hc ?hn ?hl ?_); (case hh => k_memK); (case hc => assumption); (case hn => assumption); (case hl => rfl)))
local macro_rules | `(tactic| k_allIn) => `(tactic| repeat k_updF)
local macro_rules | `(tactic| k_updF) => `(tactic| first
  | with_reducible refine' w_dget ?_
  | ((with_reducible refine' w_dgetK ?hh ?hl ?_); (case hh => k_memK); (case hl => rfl))
  | with_reducible refine' w_dput ?_
  | with_reducible refine' w_andT ?_
  | with_reducible refine' w_andTN ?_
  | ((with_reducible refine' w_andTT ?hh ?hl ?_); (case hh => k_memK); (case hl => rfl))
  | with_reducible refine' w_gSub ?_
  | with_reducible refine' w_pp ?_
  | with_reducible refine' w_pp0 ?_
  | with_reducible refine' w_disp ?_
  | with_reducible refine' w_sortLam ?_)
local macro_rules | `(tactic| k_updF) => `(tactic| first
  | with_reducible refine' w_enum ?_
  | ((with_reducible refine' w_aug ?hh ?_); (case hh => rfl))
  | with_reducible refine' w_ipI ?_
  | with_reducible refine' w_sl ?_
  | with_reducible refine' w_part ?_
  | with_reducible refine' w_partK ?_
  | with_reducible refine' w_noP ?_)
local macro_rules | `(tactic| k_updF) => `(tactic| first
  | ((with_reducible refine' i_dF ?hh ?_); (case hh => decide))
  | ((with_reducible refine' i_dT ?hh ?_); (case hh => decide)))
/-! ### rows behind, and their data -/
def madeIn (rows : List RG.Rw) : Bool := rows.any RG.isMade
theorem cut_one (x : V) (xs : List V) : cutV (x :: xs) none (some 1) = [x] := by
  show ((x :: xs).drop 0).take (min 1 (xs.length + 1) - 0) = [x]
  rw [show min 1 (xs.length + 1) - 0 = 1 by omega]
  rfl
theorem cut_from (xs : List V) (k : Nat) : cutV xs (some (k : Int)) none = xs.drop k := by
  unfold cutV
  rw [HT.sIx_nat, HT.sIx_none]
  rcases Nat.le_total k xs.length with h | h
  · rw [Nat.min_eq_left h, List.take_of_length_le (by rw [List.length_drop]; exact Nat.le_refl _)]
  · rw [Nat.min_eq_right h, List.drop_of_length_le h, List.drop_of_length_le (Nat.le_refl _), List.take_nil]
theorem each_hd {H : Hp} {rs : List V} {r : RG.Rw} {l : List RG.Rw} (h : PySem.W.EachIs (fun v r => ∃ a, v = .ref a ∧ H a = some (.tup (rwV r))) rs (r :: l)) : ∃ a rs', rs = .ref a :: rs' ∧ H a = some (.tup (rwV r)) := by
  cases h with
  | cons h t =>
    obtain ⟨a, rfl, e⟩ := h
    exact ⟨a, _, rfl, e⟩
theorem filter_take {α : Type} {l : List α} {f : α → Bool} {k : Nat} {x : α} (h : l[k]? = some x) : (l.take (k + 1)).filter f = (l.take k).filter f ++ if f x = true then [x] else [] := by
  rw [List.take_add_one, h, List.filter_append]
  show _ ++ List.filter f [x] = _
  rw [List.filter_cons]
  split <;> rfl
theorem any_filter : ∀ X : List RG.Rw, madeIn X = !(X.filter RG.isMade).isEmpty
  | [] => rfl
  | x :: X => by
    have ih := any_filter X
    unfold madeIn at ih ⊢
    cases e : RG.isMade x
    · rw [List.any_cons, e, List.filter_cons_of_neg (by rw [e]; decide), Bool.false_or]
      exact ih
    · rw [List.any_cons, e, List.filter_cons_of_pos e]
      rfl
theorem RpAll.snoc {H : Hp} {v : V} {d : PyData} : ∀ {vs : List V} {ds : List PyData}, RpAll H vs ds → Rp H v d → RpAll H (vs ++ [v]) (ds ++ [d])
  | _, _, .nil, h => .cons h .nil
  | _, _, .cons g t, h => .cons g (RpAll.snoc t h)
theorem rp_row {H : Hp} {v : V} {r : RG.Rw} (h : ∃ a, v = .ref a ∧ H a = some (.tup (rwV r))) : Rp H v (rwD r) := by
  obtain ⟨a, rfl, h⟩ := h
  cases r with
  | sent t s r m => exact .tup h (.cons (.str _) (.cons (.int _) (.cons (.int _) (.cons (.int _) (.cons (.int _) .nil)))))
  | made t s n => exact .tup h (.cons (.str _) (.cons (.int _) (.cons (.int _) (.cons (.int _) .nil))))
  | drop t s p => exact .tup h (.cons (.str _) (.cons (.int _) (.cons (.int _) (.cons (.int _) (.cons (.int _) .nil)))))
  | lost t p => exact .tup h (.cons (.str _) (.cons (.int _) (.cons (.int _) (.cons (.int _) .nil))))
theorem okAll_map {α : Type} {f : α → PyData} (h : ∀ a, okD (f a) = true) : ∀ l : List α, okAll (l.map f) = true
  | [] => rfl
  | a :: l => by rw [List.map_cons, okAll, h a, okAll_map h l]; rfl
theorem ok_words : PyData.strOk "sent" = true ∧ PyData.strOk "made" = true ∧ PyData.strOk "dropped" = true ∧ PyData.strOk "lost" = true := by decide +kernel
theorem ok_row (r : RG.Rw) : okD (rwD r) = true := by
  obtain ⟨h1, h2, h3, h4⟩ := ok_words
  cases r <;> (simp only [rwD, okD, okAll, h1, h2, h3, h4]; rfl)
theorem dep_rows : ∀ l : List RG.Rw, PyData.depthAll (l.map rwD) ≤ 1
  | [] => Nat.zero_le _
  | r :: l => by
    have := dep_rows l
    have h : (rwD r).depth = 1 := by cases r <;> rfl
    rw [List.map_cons, PyData.depthAll]
    omega
open TL
/-! ### k10: texts -/
def numT (n : Nat) : Str := Str.ofString (toString ((n : Nat) : Int))
theorem tl_numT (n : Nat) : tl (numT n) = numL n := tl_num n
theorem log_ok {n : Nat} (h : n < 10 ^ 20) : ((n : Nat) : Int).natAbs.log2 < 1920 := by
  rw [Int.natAbs_natCast]
  by_cases z : n = 0
  · subst z
    decide
  · exact (Nat.log2_lt z).mpr (Nat.lt_trans h (by decide))
theorem numL_20 {n : Nat} (h : n < 10 ^ 20) : (numL n).length ≤ 20 := numL_len (by decide) h
/-- a row: no line end in it, signs below 128, of few signs -/
structure Lin (n : Nat) (s : Str) : Prop where
  no : ∀ c, c ∈ tl s → c ≠ 10 ∧ c < 128
  ln : (tl s).length ≤ n
theorem Lin.app {n m : Nat} {a b : Str} (h : Lin n a) (g : Lin m b) : Lin (n + m) (a ++ b) := by
  refine ⟨fun c mc => ?_, ?_⟩
  · rw [tl_append] at mc
    rcases List.mem_append.mp mc with mc | mc
    · exact h.no c mc
    · exact g.no c mc
  · rw [tl_append, List.length_append]
    have := h.ln
    have := g.ln
    omega
theorem Lin.le {n m : Nat} {a : Str} (h : Lin n a) (l : n ≤ m) : Lin m a := ⟨h.no, Nat.le_trans h.ln l⟩
theorem Lin.num {n : Nat} (h : n < 10 ^ 20) : Lin 20 (numT n) := by
  refine ⟨fun c mc => ?_, ?_⟩
  · rw [tl_numT] at mc
    have := numL_digits n c mc
    omega
  · rw [tl_numT]
    exact numL_20 h
def linB (n : Nat) (s : Str) : Bool := (tl s).all (fun c => decide (c ≠ 10) && decide (c < 128)) && decide ((tl s).length ≤ n)
theorem Lin.of {n : Nat} {s : Str} (h : linB n s = true) : Lin n s := by
  unfold linB at h
  rw [Bool.and_eq_true] at h
  refine ⟨fun c mc => ?_, of_decide_eq_true h.2⟩
  have := List.all_eq_true.mp h.1 c mc
  rw [Bool.and_eq_true] at this
  exact ⟨of_decide_eq_true this.1, of_decide_eq_true this.2⟩
theorem Lin.len {n : Nat} {s : Str} (h : Lin n s) : s.length ≤ n := by rw [len_tl]; exact h.ln
theorem Lin.ok {n : Nat} {s : Str} (h : Lin n s) : PyData.strOk s = true := by
  unfold PyData.strOk
  rw [← Array.all_toList]
  exact List.all_eq_true.mpr fun c mc => decide_eq_true (Nat.lt_trans (h.no c mc).2 (by decide))
theorem Lin.sub {n : Nat} {s s' : Str} (h : Lin n s) (e : (tl s').Sublist (tl s)) : Lin n s' := ⟨fun c mc => h.no c (e.subset mc), Nat.le_trans e.length_le h.ln⟩
theorem tl_cutS (z : Str) (lo hi : Option Int) : (tl (cutS z lo hi)).Sublist (tl z) := by
  unfold cutS
  exact (List.take_sublist _ _).trans (List.drop_sublist _ _)
theorem Lin.cut {n : Nat} {s : Str} (h : Lin n s) (lo hi : Option Int) : Lin n (cutS s lo hi) := h.sub (tl_cutS s lo hi)
theorem Lin.one {n : Nat} {s : Str} (h : Lin n s) {c : Nat} (m : c ∈ tl s) : Lin 1 ⟨#[c]⟩ := ⟨fun x mx => by
  cases List.mem_singleton.mp (show x ∈ [c] from mx)
  exact h.no c m, Nat.le_refl 1⟩
theorem upper_ascii : ∀ c, c < 128 → (Unicode.upperOf c).all (fun x => decide (c = 10 ∨ x ≠ 10) && decide (x < 128)) = true := by
  have : (List.range 128).all (fun c => (Unicode.upperOf c).all (fun x => decide (c = 10 ∨ x ≠ 10) && decide (x < 128))) = true := by decide +kernel
  intro c hc
  exact List.all_eq_true.mp this c (List.mem_range.mpr hc)
theorem Lin.upper {n : Nat} {s : Str} (h : Lin n s) : Lin (3 * n) (Txt.upper s) := by
  refine ⟨fun c mc => ?_, ?_⟩
  · have mc' : c ∈ ((s.cps.mapIdx fun _ c => (Unicode.upperOf c).toArray).flatten).toList := mc
    rw [Array.mem_toList_iff, Array.mem_flatten] at mc'
    obtain ⟨a, ma, mca⟩ := mc'
    obtain ⟨i, hi, rfl⟩ := Array.mem_mapIdx.mp ma
    have m1 : s.cps[i] ∈ tl s := Array.mem_toList_iff.mpr (Array.getElem_mem hi)
    have hh := h.no _ m1
    have := List.all_eq_true.mp (upper_ascii _ hh.2) c (by simpa using mca)
    rw [Bool.and_eq_true] at this
    have h1 := of_decide_eq_true this.1
    have h2 := of_decide_eq_true this.2
    exact ⟨by omega, h2⟩
  · have := PyProof.Rows.len_upper s
    rw [len_tl, len_tl] at this
    have := h.ln
    omega
theorem joinL_mem {S : List Nat} {c : Nat} : ∀ {ps : List (List Nat)}, c ∈ joinL S ps → c ∈ S ∨ ∃ p, p ∈ ps ∧ c ∈ p
  | [], m => by cases m
  | [p], m => .inr ⟨p, List.mem_singleton.mpr rfl, m⟩
  | p :: q :: r, m => by
    rcases List.mem_append.mp (show c ∈ p ++ (S ++ joinL S (q :: r)) from m) with m | m
    · exact .inr ⟨p, List.mem_cons_self .., m⟩
    · rcases List.mem_append.mp m with m | m
      · exact .inl m
      · rcases joinL_mem m with m | ⟨x, mx, m⟩
        · exact .inl m
        · exact .inr ⟨x, List.mem_cons_of_mem _ mx, m⟩
theorem joinL_len {S : List Nat} {k : Nat} : ∀ {ps : List (List Nat)}, (∀ p, p ∈ ps → p.length ≤ k) → (joinL S ps).length ≤ ps.length * (k + S.length)
  | [], _ => Nat.zero_le _
  | [p], h => by
    have := h p (List.mem_singleton.mpr rfl)
    show p.length ≤ 1 * _
    omega
  | p :: q :: r, h => by
    have h1 := h p (List.mem_cons_self ..)
    have h2 := joinL_len (S := S) (ps := q :: r) fun x m => h x (List.mem_cons_of_mem _ m)
    show (p ++ (S ++ joinL S (q :: r))).length ≤ _
    rw [List.length_append, List.length_append]
    have e : (p :: q :: r).length * (k + S.length) = (q :: r).length * (k + S.length) + (k + S.length) := by
      rw [List.length_cons, Nat.succ_mul]
    omega
theorem Lin.join {n k : Nat} {y : Str} {ps : List Str} (hy : Lin 1 y) (h : ∀ p, p ∈ ps → Lin n p) (hk : ps.length ≤ k) : Lin (k * (n + 1)) (Txt.join y ps) := by
  refine ⟨fun c mc => ?_, ?_⟩
  · rw [join_eq, tl_join] at mc
    rcases joinL_mem mc with m | ⟨p, mp, m⟩
    · exact hy.no c m
    · obtain ⟨z, mz, rfl⟩ := List.mem_map.mp mp
      exact (h z mz).no c m
  · rw [join_eq, tl_join]
    have h1 := joinL_len (S := tl y) (k := n) (ps := ps.map tl) fun p mp => by
      obtain ⟨z, mz, rfl⟩ := List.mem_map.mp mp
      exact (h z mz).ln
    rw [List.length_map] at h1
    refine Nat.le_trans h1 (Nat.mul_le_mul hk ?_)
    have := hy.ln
    omega
/-! ### words that are numbers -/
def dig (c : Nat) : Bool := decide (48 ≤ c) && decide (c ≤ 57)
def figs (w : Str) : Bool := !(tl w).isEmpty && (tl w).all dig
def numW (w : Str) : Bool := figs w && decide ((tl w).length ≤ 12) && (decide (w = "0") || !decide ((tl w).head? = some 48))
def valW (w : Str) : Nat := NumText.digitsVal (tl w)
theorem dig_ascii : ∀ c, c < 128 → Unicode.isDigit c = dig c := by
  have : (List.range 128).all (fun c => Unicode.isDigit c == dig c) = true := by decide +kernel
  intro c hc
  exact beq_iff_eq.mp (List.all_eq_true.mp this c (List.mem_range.mpr hc))
theorem figs_eq (w : Str) : (Txt.isascii w && Txt.isdigit w) = figs w := by
  unfold Txt.isascii Txt.isdigit figs
  rw [← Array.all_toList, ← Array.all_toList, len_tl]
  show ((tl w).all _ && (decide ((tl w).length > 0) && (tl w).all _)) = _
  generalize tl w = l
  cases l with
  | nil => rfl
  | cons c l =>
    rw [show decide ((c :: l).length > 0) = true from decide_eq_true (Nat.succ_pos _), Bool.true_and]
    show _ = (c :: l).all dig
    generalize c :: l = l
    cases h : l.all dig with
    | true =>
      have h' := List.all_eq_true.mp h
      have a1 : ∀ c, c ∈ l → c < 128 := fun c m => by
        have := h' c m
        unfold dig at this
        rw [Bool.and_eq_true] at this
        have := of_decide_eq_true this.2
        omega
      rw [Bool.and_eq_true]
      exact ⟨List.all_eq_true.mpr fun c m => decide_eq_true (a1 c m), List.all_eq_true.mpr fun c m => by rw [dig_ascii c (a1 c m)]; exact h' c m⟩
    | false =>
      cases h2 : l.all (fun x => decide (x < 128)) with
      | false => rfl
      | true =>
        rw [Bool.true_and]
        cases h3 : l.all Unicode.isDigit with
        | false => rfl
        | true =>
          have : l.all dig = true := List.all_eq_true.mpr fun c m => by
            rw [← dig_ascii c (of_decide_eq_true (List.all_eq_true.mp h2 c m))]
            exact List.all_eq_true.mp h3 c m
          rw [h] at this
          cases this
theorem starts_eq (w : Str) : Txt.startswith w "0" = decide ((tl w).head? = some 48) := by
  unfold Txt.startswith Builtin.Str.subAt
  have e0 : tl ("0" : Str) = [48] := by decide +kernel
  have l0 : ("0" : Str).length = 1 := by decide +kernel
  have c0 : ("0" : Str).cps = #[48] := by decide +kernel
  rw [l0, c0, len_tl]
  cases hl : tl w with
  | nil =>
    rw [show decide (0 + 1 ≤ ([] : List Nat).length) = false from rfl]
    rfl
  | cons c l =>
    rw [show decide (0 + 1 ≤ (c :: l).length) = true from decide_eq_true (by simp), Bool.true_and]
    have : w.cps.extract 0 (0 + 1) = #[c] := by
      apply Array.toList_inj.mp
      rw [Array.toList_extract]
      show ((tl w).drop 0).take (0 + 1 - 0) = [c]
      rw [hl]
      rfl
    rw [this]
    show (#[c] == #[48]) = decide (some c = some 48)
    by_cases q : c = 48
    · subst q; rfl
    · rw [decide_eq_false (fun z => q (Option.some.inj z))]
      have : #[c] ≠ #[48] := fun z => q (by simpa using z)
      exact beq_eq_false_iff_ne.mpr this
theorem int_of {w : Str} (h : figs w = true) (l : (tl w).length ≤ 12) : intText? w = some ((valW w : Nat) : Int) := by
  unfold figs at h
  rw [Bool.and_eq_true] at h
  refine intText_digits (fun c m => ?_) (fun z => ?_) (by rw [len_tl]; omega)
  · have := List.all_eq_true.mp h.2 c m
    unfold dig at this
    rw [Bool.and_eq_true] at this
    exact ⟨of_decide_eq_true this.1, of_decide_eq_true this.2⟩
  · have h1 := h.1
    rw [show tl w = [] from z] at h1
    cases h1
theorem numW_figs {w : Str} (h : numW w = true) : figs w = true ∧ (tl w).length ≤ 12 := by
  unfold numW at h
  rw [Bool.and_eq_true, Bool.and_eq_true] at h
  exact ⟨h.1.1, of_decide_eq_true h.1.2⟩
/-! ### k10: rules -/
def rSplit : V → List V → Hp → VK → Prop := fun x xs H Q => ∃ a b, x = .str a ∧ xs = [.str b] ∧ (b.length == 0) = false ∧ a.length + 2 ≤ sizeLine ∧ rNewStrs (Txt.split a b) H Q
def rJoin (K : PySem.W.Frag) : V → List V → Hp → VK → Prop := fun x xs H Q => ∃ a p, ∃ ys : List Str, x = .str a ∧ xs = [.ref p] ∧ (SqL K H p (ys.map V.str) ∨ SqT K H p (ys.map V.str)) ∧ (ys.map (·.length)).sum + ys.length * a.length ≤ 16777216 ∧ Q (.str (Txt.join a ys)) H
def rAscii : V → List V → Hp → VK → Prop := fun x xs H Q => ∃ a, x = .str a ∧ xs = [] ∧ True ∧ Q (.bl (Txt.isascii a)) H
def rDigit : V → List V → Hp → VK → Prop := fun x xs H Q => ∃ a, x = .str a ∧ xs = [] ∧ True ∧ Q (.bl (Txt.isdigit a)) H
def rUpper : V → List V → Hp → VK → Prop := fun x xs H Q => ∃ a, x = .str a ∧ xs = [] ∧ a.length ≤ 5592405 ∧ Q (.str (Txt.upper a)) H
def rStarts : V → List V → Hp → VK → Prop := fun x xs H Q => ∃ a b, x = .str a ∧ xs = [.str b] ∧ Q (.bl (Txt.startswith a b)) H
def rLenT : List V → Hp → VK → Prop := fun xs H Q => ∃ z, xs = [.str z] ∧ z.length ≤ sizeLine ∧ Q (.int z.length) H
def rIntT : List V → Hp → VK → Prop := fun xs H Q => ∃ a n, xs = [.str a] ∧ PySem.intText? a = some n ∧ a.length ≤ 640 ∧ Q (.int n) H
def rStrI : List V → Hp → VK → Prop := fun xs H Q => ∃ i : Int, xs = [.int i] ∧ i.natAbs.log2 < 1920 ∧ Q (.str (toString i)) H
def rIntB : List V → Hp → VK → Prop := fun xs H Q => (∃ i, xs = [.int i] ∧ Q (.int i) H) ∨ ∃ k, xs = [.bl k] ∧ Q (.int (if k then 1 else 0)) H
def rAddS : R2 := fun x y H Q => ∃ i j, x = .str i ∧ y = .str j ∧ i.length + j.length ≤ sizeLine ∧ Q (.str (i ++ j)) H
def rMulS : R2 := fun x y H Q => ∃ (a : Str) (n : Int), x = .str a ∧ y = .int n ∧ MulOk a n ∧ Q (.str (Txt.mul a n)) H
def rNotSign : R2 := fun x y H Q => ∃ (c : Nat) (z : Str), x = .str ⟨#[c]⟩ ∧ y = .str z ∧ Q (.bl (!decide (c ∈ z.cps.toList))) H
/-- of two lists, the other one empty: whatever the first one holds -/
def rNeE (K : PySem.W.Frag) : R2 := fun x y H Q => ∃ (p q : Addr) (xs : List V), x = .ref p ∧ y = .ref q ∧ SqL K H p xs ∧ SqL K H q [] ∧ Q (.bl (!xs.isEmpty)) H
section
variable {X : Cx}
theorem op_mulS : OpR X (binaryOp .Mult) rMulS := by
  intro pins s σ H x y v u Q I rx ry h
  obtain ⟨a, n, rfl, rfl, hz, q⟩ := h
  obtain ⟨t, rfl⟩ := rx
  obtain ⟨t', rfl⟩ := ry
  exact SB.mul hz fun t' tk => ⟨.str _, H, I.tok _, ⟨_, rfl⟩, q⟩
theorem op_neE (hu : X.A.units + 64 < cLine) : OpR X (compareOp .NotEq) (rNeE X.K) := by
  intro pins s σ H x y v u Q I rx ry h
  obtain ⟨p, r, xs, rfl, rfl, hp, hq, q⟩ := h
  cases rx
  cases ry
  obtain ⟨its, rv, hl, _⟩ := I.list hp
  obtain ⟨its2, rv2, hl2, _⟩ := I.list hq
  cases rv2
  have hb : ∀ b : Bool, (!xs.isEmpty) = b → SeqAt.RcNeAt X.A s (.ref p) (.ref r) b → wpAny (model X.prog X.w) X.A (compareOp .NotEq (.ref p) (.ref r)) (EP X pins σ Q) X.xe s := fun b e k => k X.prog X.w X.xe _ ⟨.bl b, H, I, rfl, by rw [← e]; exact q⟩
  cases xs with
  | nil =>
    cases rv
    exact hb _ rfl (SeqAt.RcNeAt.lists (e := fun _ => true) hl.isList hl2.isList rfl (by omega) fun j h1 _ => absurd h1 (Nat.not_lt_zero j))
  | cons x xs =>
    cases rv with
    | cons r1 r2 => exact hb _ rfl (SeqAt.RcNeAt.lists_lengths hl.isList hl2.isList rfl (by omega))
end
section
variable {K : PySem.W.Frag} {σ : St} {H : Hp} {Q : VK} {x y v : V} {ta tb to te td ty tx : TE} {ts : TA} {a b : Str}
theorem w_bm0 {T : String} {r : V → List V → Hp → VK → Prop} (k : to σ H fun x H1 => tyV K T x H1 ∧ r x [] H1 Q) : tBM0 K T r to σ H Q := k
theorem w_tyS {R : Prop} (k : R) : tyV K "str" (.str a) H ∧ R := ⟨rfl, k⟩
theorem w_split (hb : (b.length == 0) = false) (hl : a.length + 2 ≤ sizeLine) (k : ∀ p H', H p = none → Same H H' → H' p = some (.lst ((Txt.split a b).map V.str)) → Q (.ref p) H') : rSplit (.str a) [.str b] H Q := ⟨a, b, rfl, rfl, hb, hl, fun p np => k p _ np (same_new np) upd_same⟩
theorem w_join {p : Addr} {ys : List Str} (h : SqL K H p (ys.map V.str)) (hs : (ys.map (·.length)).sum + ys.length * a.length ≤ 16777216) (k : Q (.str (Txt.join a ys)) H) : rJoin K (.str a) [.ref p] H Q := ⟨a, p, ys, rfl, rfl, .inl h, hs, k⟩
theorem w_ascii (k : Q (.bl (Txt.isascii a)) H) : rAscii (.str a) [] H Q := ⟨a, rfl, rfl, trivial, k⟩
theorem w_digit (k : Q (.bl (Txt.isdigit a)) H) : rDigit (.str a) [] H Q := ⟨a, rfl, rfl, trivial, k⟩
theorem w_upper (h : a.length ≤ 5592405) (k : Q (.str (Txt.upper a)) H) : rUpper (.str a) [] H Q := ⟨a, rfl, rfl, h, k⟩
theorem w_starts (k : Q (.bl (Txt.startswith a b)) H) : rStarts (.str a) [.str b] H Q := ⟨a, b, rfl, rfl, k⟩
theorem w_lenStr (h : a.length ≤ sizeLine) (k : Q (.int a.length) H) : rLenT [.str a] H Q := ⟨a, rfl, h, k⟩
theorem w_intT {n : Int} (h : PySem.intText? a = some n) (l : a.length ≤ 640) (k : Q (.int n) H) : rIntT [.str a] H Q := ⟨a, n, rfl, h, l, k⟩
theorem w_strI {n : Nat} (h : n < 10 ^ 20) (k : Q (.str (numT n)) H) : rStrI [.int (n : Int)] H Q := ⟨(n : Int), rfl, log_ok h, k⟩
theorem w_addS (h : a.length + b.length ≤ sizeLine) (k : Q (.str (a ++ b)) H) : rAddS (.str a) (.str b) H Q := ⟨a, b, rfl, rfl, h, k⟩
theorem w_mulS {n : Int} (h : MulOk a n) (k : Q (.str (Txt.mul a n)) H) : rMulS (.str a) (.int n) H Q := ⟨a, n, rfl, rfl, h, k⟩
theorem w_ixS {i : Int} {c : Nat} (h : a.length ≤ sizeLine) (e : atI (tl a) i = some c) (k : Q (.str ⟨#[c]⟩) H) : rIx K (.str a) (.int i) H Q := .inr (.inr ⟨a, i, c, rfl, rfl, h, e, k⟩)
theorem w_slS {lo hi : Option Int} (h : a.length ≤ sizeLine) (k : Q (.str (cutS a lo hi)) H) : rSlS (.str a) lo hi H Q := ⟨a, rfl, h, k⟩
theorem w_neE {p q : Addr} {xs : List V} (h : SqL K H p xs) (h' : SqL K H q []) (k : Q (.bl (!xs.isEmpty)) H) : rNeE K (.ref p) (.ref q) H Q := ⟨p, q, xs, rfl, rfl, h, h', k⟩
def fmtK (x : V) (H : Hp) (Q : VK) : Prop := (∃ y : Str, x = .str y ∧ y.length ≤ sizeLine ∧ Q (.str y) H) ∨ ∃ i : Int, x = .int i ∧ i.natAbs.log2 < 1920 ∧ Q (.str (toString i)) H
theorem w_fmt (k : te σ H fun x H1 => fmtK x H1 Q) : tFmt te σ H Q := k
theorem w_fmtK {n : Nat} (h : n < 10 ^ 20) (k : Q (.str (numT n)) H) : fmtK (.int (n : Int)) H Q := .inr ⟨(n : Int), rfl, log_ok h, k⟩
def jsK (ts : List TE) (acc : Str) (σ : St) (x : V) (H : Hp) (Q : Str → Hp → Prop) : Prop := ∃ y : Str, x = .str y ∧ (acc ++ y).length ≤ sizeLine ∧ tJs ts (acc ++ y) σ H Q
variable {acc : Str} {tes : List TE} {QS : Str → Hp → Prop}
theorem w_js (k : te σ H fun x H1 => jsK tes acc σ x H1 QS) : tJs (te :: tes) acc σ H QS := k
theorem w_js0 (k : QS acc H) : tJs [] acc σ H QS := k
theorem w_jsK (h : (acc ++ a).length ≤ sizeLine) (k : tJs tes (acc ++ a) σ H QS) : jsK tes acc σ (.str a) H QS := ⟨a, rfl, h, k⟩
def tJoin (ts : List TE) : TE := fun σ H Q => tJs ts Str.empty σ H fun out H1 => Q (.str out) H1
theorem k_joined {X : Cx} {v1 v2 : Expr} {rest : List Expr} {ts : List TE} {pos : Pos} (h : PJ X (v1 :: v2 :: rest) ts) : PE X (.JoinedStr (v1 :: v2 :: rest) pos) (tJoin ts) := pe_joined h
theorem w_jn {ts : List TE} (k : tJs ts Str.empty σ H fun out H1 => Q (.str out) H1) : tJoin ts σ H Q := k
def dget2K (ty tx : TE) (σ : St) (x : V) (H : Hp) (Q : VK) : Prop := ∃ a, x = .ref a ∧ IsD H a ∧ ty σ H fun y H2 => tx σ H2 fun z H3 => ∃ o, DGet H3 a y o ∧ Q (o.getD z) H3
theorem w_dget2 (k : td σ H fun x H1 => dget2K ty tx σ x H1 Q) : tDGet2 td ty tx σ H Q := k
theorem w_dget2K {p : Addr} {kvs : List (Key × V)} (h : H p = some (.dK kvs)) (k : ty σ H fun y H2 => tx σ H2 fun z H3 => ∃ o, DGet H3 p y o ∧ Q (o.getD z) H3) : dget2K ty tx σ (.ref p) H Q := ⟨p, rfl, .inl ⟨kvs, .inl h⟩, k⟩
/-- over a text, sign by sign -/
theorem lc_str {x : Str} {g : TG} {tt : TT} {te : TE} {vs : List Nat} {σ : St} {H1 : Hp} {D : Addr} {Qd : Hp → Prop} (Pv : Nat → Hp → Prop) (h0 : Pv 0 (upd H1 D (.lst [])))
    (hs : ∀ i c H, (tl x)[i]? = some c → Pv i H → g (.str ⟨#[c]⟩) (wipe σ vs) H fun σ2 H2 => wipe σ2 vs = wipe σ vs ∧ tt σ2 H2 fun b H3 =>
      if b = true then te σ2 H3 fun y H4 => ∃ acc, H4 D = some (.lst acc) ∧ acc.length < sizeLine ∧ Pv (i + 1) (upd H4 D (.lst (acc ++ [y]))) else Pv (i + 1) H3) (hd : ∀ H, Pv (tl x).length H → Qd H) :
    ∃ W : Nat → Nat → Hp → Prop, (∃ m, W 0 m (upd H1 D (.lst []))) ∧ ∀ i m H, W i m H →
      ((Its x).stop i H ∧ Qd H) ∨ ((Its x).go i H ∧ ∃ Nx : Hp → Prop, (∀ H', Nx H' → ∃ m', m' < m ∧ W (i + 1) m' H') ∧ ∀ y H', (Its x).yld i H y H' → g y (wipe σ vs) H' fun σ2 H2 => wipe σ2 vs = wipe σ vs ∧ tt σ2 H2 fun b H3 =>
        if b = true then te σ2 H3 fun y H4 => ∃ acc, H4 D = some (.lst acc) ∧ acc.length < sizeLine ∧ Nx (upd H4 D (.lst (acc ++ [y]))) else Nx H3) := by
  have hz : x.cps.size = (tl x).length := by show x.cps.size = x.cps.toList.length; rw [Array.length_toList]
  refine ⟨fun i m H => m = (tl x).length - i ∧ i ≤ (tl x).length ∧ Pv i H, ⟨(tl x).length, by simp, Nat.zero_le _, h0⟩, ?_⟩
  rintro i m H ⟨rfl, hi, p⟩
  by_cases hlt : i < (tl x).length
  · refine .inr ⟨by show i < x.cps.size; omega, Pv (i + 1), fun H' p' => ⟨(tl x).length - (i + 1), by omega, rfl, hlt, p'⟩, fun y H' z => ?_⟩
    obtain ⟨e, c, hc, ey⟩ := z
    subst e
    subst ey
    refine hs i c _ ?_ p
    show x.cps.toList[i]? = some c
    rw [Array.getElem?_toList]
    exact hc
  · have e : i = (tl x).length := by omega
    subst e
    exact .inl ⟨by show x.cps.size ≤ _; omega, hd H p⟩
def iStrK (x : V) (H : Hp) (R : It → Hp → Prop) : Prop := ∃ s, x = .str s ∧ R (Its s) H
theorem w_iStr {R : It → Hp → Prop} (k : te σ H fun v H1 => iStrK v H1 R) : iStr te σ H R := k
theorem w_iStrK {R : It → Hp → Prop} (k : R (Its a) H) : iStrK (.str a) H R := ⟨a, rfl, k⟩
end
/-! ### the module's dict of numbers -/
def kvOf (e : DictEntry) : Option (Str × Int) := match e.key, e.val with
  | .str x _, .int i _ => some (x, i)
  | _, _ => none
def numKvs : List (Str × Int) := [("ring", 1), ("put", 3), ("steps", 1), ("lose", 1), ("make", 1), ("off", 1), ("on", 1), ("tokens", 0)]
structure NumT (w : World) (K : PySem.W.Frag) (Z : Ad) : Prop where
  ex : ∃ (es : Array DictEntry) (n : Nat), K.lookup Z.c_NUMBERS = some ⟨.type "dict", none, .dict es n, #[]⟩ ∧ PySem.W.KeysLit w.params es.toList ∧ (Z.c_NUMBERS == sysModules) = false ∧ es.toList.map kvOf = numKvs.map some
def lookN (w : Str) : List (Str × Int) → Option Int
  | [] => none
  | e :: r => if e.1 = w then some e.2 else lookN w r
theorem find_num {z : Str} : ∀ {l : List DictEntry} {kvs : List (Str × Int)}, l.map kvOf = kvs.map some → (match lookN z kvs with
    | some i => ∃ e t, l.find? (·.key.isStr z) = some e ∧ e.val = .int i t
    | none => l.find? (·.key.isStr z) = none) ∧ l.any (·.refKey) = false
  | [], [], _ => ⟨rfl, rfl⟩
  | [], _ :: _, h => by cases h
  | _ :: _, [], h => by cases h
  | e :: l, kv :: kvs, h => by
    rw [List.map_cons, List.map_cons] at h
    injection h with h1 h2
    obtain ⟨i1, i2⟩ := find_num (z := z) h2
    obtain ⟨hh, key, val⟩ := e
    unfold kvOf at h1
    split at h1
    · rename_i x t i u ek ev
      have ek' : key = .str x t := ek
      have ev' : val = .int i u := ev
      subst ek' ev'
      cases h1
      refine ⟨?_, ?_⟩
      · have hk : (Value.str x t).isStr z = decide (x = z) := by
          show (x == z) = _
          by_cases q : x = z
          · subst q; simp
          · rw [decide_eq_false q]; exact beq_eq_false_iff_ne.mpr q
        unfold lookN
        by_cases q : x = z
        · rw [if_pos q]
          refine ⟨⟨hh, .str x t, .int i u⟩, u, ?_, rfl⟩
          rw [List.find?_cons]
          simp only [hk, decide_eq_true q]
        · rw [if_neg q]
          rw [List.find?_cons]
          simp only [hk, decide_eq_false q]
          exact i1
      · rw [List.any_cons, i2]
        rfl
    · cases h1
def rKGet (w : Str) (H : Hp) (Q : VK) : Prop := Q ((lookN w numKvs).elim V.non V.int) H
def tKGet (P : Addr) (td ty : TE) : TE := fun σ H Q => td σ H fun x H1 => x = .ref P ∧ ty σ H1 fun y H2 => ∃ w, y = .str w ∧ rKGet w H2 Q
theorem w_kgK {w : Str} {H : Hp} {Q : VK} (k : Q ((lookN w numKvs).elim V.non V.int) H) : rKGet w H Q := k
theorem w_kget {P : Addr} {td ty : TE} {σ : St} {H : Hp} {Q : VK} (k : td σ H fun x H1 => x = .ref P ∧ ty σ H1 fun y H2 => ∃ w, y = .str w ∧ rKGet w H2 Q) : tKGet P td ty σ H Q := k
section
variable {X : Cx} {Z : Ad} {o e : Expr} {apos cpos : Pos} {td ty : TE}
theorem pe_kget (D : NumT X.w X.K Z) (ho : PE X o td) (he : PE X e ty) (m : M1 X o "get" apos e cpos) : PE X (.Call (.Attribute o "get" apos) [e] [] cpos) (tKGet Z.c_NUMBERS td ty) := by
  obtain ⟨es, n, hl, hk, hlow, hv⟩ := D.ex
  refine ⟨fun pins s σ H Q I h => ?_⟩
  refine wpAny_Call_method m.base m.few m.line PySem.F.plainAttrs_dict PySem.F.slot_dict_get PySem.F.type_dict_get (thn (ho.run pins s σ H _ I h) fun u s1 ⟨x, H1, I1, rx, ex, q1⟩ => ?_)
  subst ex
  obtain rfl : u = Value.ref Z.c_NUMBERS := rx
  have mo := PySem.W.mapOf_K (prog := X.prog) (w := X.w) I1.kIn hl hk
  refine ⟨mo.typeIs, fun b hb => ?_, ?_⟩
  · cases hb
    exact ⟨_, I1.kIn _ _ hl, rfl⟩
  rw [m.trees]
  refine Calls.callWith_builtin rfl (Calls.evalArgs_plain (Calls.spliced_cons (thn (he.run pins s1 σ H1 _ I1 q1) fun iv s2 ⟨y, H2, I2, ry, z, ez, q2⟩ => Calls.spliced_nil ?_)))
  subst ez
  obtain ⟨t, rfl⟩ := ry
  have mo2 := PySem.W.mapOf_K (prog := X.prog) (w := X.w) I2.kIn hl hk
  obtain ⟨f1, f2⟩ := find_num (z := z) hv
  have hns : ∃ r, PySem.W.nsIn X.K Z.c_NUMBERS z = some r ∧ RelV ((lookN z numKvs).elim V.non V.int) (r.getD .none) := by
    unfold PySem.W.nsIn
    rw [hl]
    dsimp only
    revert f1
    cases lookN z numKvs with
    | some i =>
      rintro ⟨e, t, e1, e2⟩
      rw [e1]
      exact ⟨_, rfl, ⟨t, e2⟩⟩
    | none =>
      intro e1
      rw [e1, f2]
      exact ⟨_, rfl, rfl⟩
  obtain ⟨r, hr, rr⟩ := hns
  refine call_meetsIn PySem.F.slot_dict_get mo2.typeIs PySem.F.entry_dict_get (PySem.F.args_dict_get_2 _ _) (meets_dict_get (strKind X.prog X.w) Z.c_NUMBERS (strKind_is X.prog X.w z t) hlow) ⟨_, mo2, ⟨_, H2, I2.tok _, ?_, q2⟩⟩
  rw [PySem.W.find_K hl hr]
  exact rr
end
local macro_rules | `(tactic| k_updF) => `(tactic| first
  | with_reducible refine' w_bm0 ?_
  | with_reducible refine' w_tyS ?_
  | with_reducible refine' w_ascii ?_
  | with_reducible refine' w_digit ?_
  | with_reducible refine' w_starts ?_
  | with_reducible refine' w_fmt ?_
  | with_reducible refine' w_jn ?_
  | with_reducible refine' w_js ?_
  | with_reducible refine' w_js0 ?_
  | with_reducible refine' w_dget2 ?_
  | with_reducible refine' w_iStr ?_
  | with_reducible refine' w_iStrK ?_)
local macro_rules | `(tactic| k_updF) => `(tactic| first
  | with_reducible refine' w_makS ?_
  | with_reducible refine' w_mtS ?_
  | with_reducible refine' w_callS ?_)
/-! ### k10: what a desk answers -/
inductive Cls10 where
  | ring
  | station
  | message
  | off
  | on
  | token
def Cls10.t : Cls10 → Str
  | .ring => "refused: NoRing"
  | .station => "refused: NoStation"
  | .message => "refused: NoMessage"
  | .off => "refused: IsOff"
  | .on => "refused: IsOn"
  | .token => "refused: NoToken"
def Cls10.a (Z : Ad) : Cls10 → Addr
  | .ring => Z.NoRing
  | .station => Z.NoStation
  | .message => Z.NoMessage
  | .off => Z.IsOff
  | .on => Z.IsOn
  | .token => Z.NoToken
inductive Cmd where
  | ring (n : Nat)
  | put (s r m : Nat)
  | steps (n : Nat)
  | lose (n : Nat)
  | make (n : Nat)
  | off (n : Nat)
  | on (n : Nat)
  | toks
def cmdW : Cmd → Str
  | .ring _ => "ring"
  | .put _ _ _ => "put"
  | .steps _ => "steps"
  | .lose _ => "lose"
  | .make _ => "make"
  | .off _ => "off"
  | .on _ => "on"
  | .toks => "tokens"
def cmdN : Cmd → List Nat
  | .ring n => [n]
  | .put s r m => [s, r, m]
  | .steps n => [n]
  | .lose n => [n]
  | .make n => [n]
  | .off n => [n]
  | .on n => [n]
  | .toks => []
def parseN (w : Str) : List Nat → Option Cmd
  | [] => if w = "tokens" then some .toks else none
  | [n] => if w = "ring" then some (.ring n) else if w = "steps" then some (.steps n) else if w = "lose" then some (.lose n) else if w = "make" then some (.make n) else if w = "off" then some (.off n) else if w = "on" then some (.on n) else none
  | [s, r, m] => if w = "put" then some (.put s r m) else none
  | _ => none
def parse : List Str → Option Cmd
  | [] => none
  | w :: as => if as.all numW = true then parseN w (as.map valW) else none
theorem parseN_some {w : Str} {ns : List Nat} {c : Cmd} (h : parseN w ns = some c) : w = cmdW c ∧ ns = cmdN c := by
  unfold parseN at h
  split at h
  · split at h
    · next e => cases h; exact ⟨e, rfl⟩
    · cases h
  · repeat' split at h
    all_goals first
      | (cases h; done)
      | (next e => cases h; exact ⟨e, rfl⟩)
  · split at h
    · next e => cases h; exact ⟨e, rfl⟩
    · cases h
  · cases h
theorem parse_some {ws : List Str} {c : Cmd} (h : parse ws = some c) : ∃ as, ws = cmdW c :: as ∧ as.all numW = true ∧ as.map valW = cmdN c := by
  cases ws with
  | nil => cases h
  | cons w as =>
    have h' : (if as.all numW = true then parseN w (as.map valW) else none) = some c := h
    by_cases e : as.all numW = true
    · rw [if_pos e] at h'
      obtain ⟨h1, h2⟩ := parseN_some h'
      exact ⟨as, by rw [h1], e, h2⟩
    · rw [if_neg e] at h'
      cases h'
theorem lookN_cmd : ∀ c : Cmd, lookN (cmdW c) numKvs = some ((cmdN c).length : Int)
  | .ring _ => (by decide +kernel : lookN "ring" numKvs = some 1)
  | .put _ _ _ => (by decide +kernel : lookN "put" numKvs = some 3)
  | .steps _ => (by decide +kernel : lookN "steps" numKvs = some 1)
  | .lose _ => (by decide +kernel : lookN "lose" numKvs = some 1)
  | .make _ => (by decide +kernel : lookN "make" numKvs = some 1)
  | .off _ => (by decide +kernel : lookN "off" numKvs = some 1)
  | .on _ => (by decide +kernel : lookN "on" numKvs = some 1)
  | .toks => (by decide +kernel : lookN "tokens" numKvs = some 0)
theorem lookN_some {w : Str} {i : Int} (h : lookN w numKvs = some i) : (w = "ring" ∧ i = 1) ∨ (w = "put" ∧ i = 3) ∨ (w = "steps" ∧ i = 1) ∨ (w = "lose" ∧ i = 1) ∨ (w = "make" ∧ i = 1) ∨ (w = "off" ∧ i = 1) ∨ (w = "on" ∧ i = 1) ∨ (w = "tokens" ∧ i = 0) := by
  simp only [numKvs, lookN] at h
  repeat' split at h
  all_goals first
    | (cases h; done)
    | (next e => cases h; simp [← e])
theorem parseN_cmd : ∀ c : Cmd, parseN (cmdW c) (cmdN c) = some c
  | .ring n => by
    simp only [parseN, cmdW, cmdN]
    rw [if_pos trivial]
  | .put _ _ _ => by
    simp only [parseN, cmdW, cmdN]
    rw [if_pos trivial]
  | .steps n => by
    simp only [parseN, cmdW, cmdN]
    rw [if_neg (by decide +kernel), if_pos trivial]
  | .lose n => by
    simp only [parseN, cmdW, cmdN]
    rw [if_neg (by decide +kernel), if_neg (by decide +kernel), if_pos trivial]
  | .make n => by
    simp only [parseN, cmdW, cmdN]
    rw [if_neg (by decide +kernel), if_neg (by decide +kernel), if_neg (by decide +kernel), if_pos trivial]
  | .off n => by
    simp only [parseN, cmdW, cmdN]
    rw [if_neg (by decide +kernel), if_neg (by decide +kernel), if_neg (by decide +kernel), if_neg (by decide +kernel), if_pos trivial]
  | .on n => by
    simp only [parseN, cmdW, cmdN]
    rw [if_neg (by decide +kernel), if_neg (by decide +kernel), if_neg (by decide +kernel), if_neg (by decide +kernel), if_neg (by decide +kernel), if_pos trivial]
  | .toks => by
    simp only [parseN, cmdW, cmdN]
    rw [if_pos trivial]
def und : List Str → Bool
  | [] => false
  | w :: r => decide (lookN w numKvs = some (r.length : Int)) && r.all numW
theorem und_parse (ws : List Str) : und ws = (parse ws).isSome := by
  cases ws with
  | nil => rfl
  | cons w as =>
    show (decide (lookN w numKvs = some (as.length : Int)) && as.all numW) = (if as.all numW = true then parseN w (as.map valW) else none).isSome
    cases ha : as.all numW with
    | false =>
      rw [Bool.and_false, if_neg Bool.false_ne_true]
      rfl
    | true =>
      rw [Bool.and_true, if_pos rfl]
      cases hp : parseN w (as.map valW) with
      | some c =>
        obtain ⟨rfl, h2⟩ := parseN_some hp
        have := lookN_cmd c
        rw [← h2, List.length_map] at this
        exact decide_eq_true this
      | none =>
        refine decide_eq_false fun z => ?_
        rcases lookN_some z with ⟨rfl, e⟩ | ⟨rfl, e⟩ | ⟨rfl, e⟩ | ⟨rfl, e⟩ | ⟨rfl, e⟩ | ⟨rfl, e⟩ | ⟨rfl, e⟩ | ⟨rfl, e⟩
        all_goals
          match as, e with
          | [], e => first | (revert e; simp; done) | (revert hp; simp [parseN]; done)
          | [_], e => first | (revert e; simp; done) | (exact absurd (hp.symm.trans (parseN_cmd (.ring _))) (fun z => nomatch z)) | (exact absurd (hp.symm.trans (parseN_cmd (.steps _))) (fun z => nomatch z)) | (exact absurd (hp.symm.trans (parseN_cmd (.lose _))) (fun z => nomatch z)) | (exact absurd (hp.symm.trans (parseN_cmd (.make _))) (fun z => nomatch z)) | (exact absurd (hp.symm.trans (parseN_cmd (.off _))) (fun z => nomatch z)) | (exact absurd (hp.symm.trans (parseN_cmd (.on _))) (fun z => nomatch z))
          | [_, _], e => (revert e; simp; done)
          | [_, _, _], e => first | (revert e; simp; done) | (revert hp; simp [parseN]; done)
          | _ :: _ :: _ :: _ :: _, e => (revert e; simp; omega)
/-! the answers -/
def sentP (many : Nat) : RG.Rw → Option Str
  | .sent _ s _ m => some (numT s ++ ":" ++ numT m.toNat)
  | _ => none
def stepsT (rows : List RG.Rw) : Str := Txt.join " " ("sent" :: rows.filterMap (sentP 0))
def tokP (t : RG.Tok) : Str := numT t.sp.1 ++ "." ++ numT t.sp.2 ++ "@" ++ numT t.pl
def toksT (tk : List RG.Tok) : Str := if tk.isEmpty = true then "none" else Txt.join " " (tk.map tokP)
def nu : Str := "not understood"
def doC (R : RG.Ring) : Cmd → Except Cls10 (Str × RG.Ring)
  | .ring _ => .ok (nu, R)
  | .put s r m => if s < R.many then (if r ≤ 7 ∧ m ≤ 1000000000 then .ok ("put", RG.put R s r m) else .error .message) else .error .station
  | .steps n => if n ≤ 1000 then .ok (stepsT ((stepN n R).rw.drop R.rw.length), stepN n R) else .ok (nu, R)
  | .lose k => if k < R.tk.length then .ok ("lost", RG.lose R k) else .error .token
  | .make i => if i < R.many then (if (R.st i).on = true then .ok ("made", RG.born R i) else .error .off) else .error .station
  | .off i => if i < R.many then (if (R.st i).on = true then .ok ("off", RG.off R i) else .error .off) else .error .station
  | .on i => if i < R.many then (if (R.st i).on = true then .error .on else .ok ("on", RG.turnOn R i)) else .error .station
  | .toks => .ok (toksT R.tk, R)
def doO : Option RG.Ring → Cmd → Except Cls10 (Str × Option RG.Ring)
  | some R, c => match doC R c with
    | .ok x => .ok (x.1, some x.2)
    | .error e => .error e
  | none, .ring n => if 1 ≤ n ∧ n ≤ 12 then .ok ("ring", some (RG.ring0 n)) else .error .ring
  | none, _ => .ok (nu, none)
def ansW (o : Option RG.Ring) (ws : List Str) : Str × Option RG.Ring := match parse ws with
  | none => (nu, o)
  | some c => match doO o c with
    | .ok x => x
    | .error e => (e.t, o)
def ans (o : Option RG.Ring) (line : Str) : Str × Option RG.Ring := ansW o (Txt.split line " ")
def runL : Option RG.Ring → List Str → List Str × Option RG.Ring
  | o, [] => ([], o)
  | o, l :: ls => ((ans o l).1 :: (runL (ans o l).2 ls).1, (runL (ans o l).2 ls).2)
theorem runL_snoc : ∀ (ls : List Str) (o : Option RG.Ring) (l : Str), runL o (ls ++ [l]) = ((runL o ls).1 ++ [(ans (runL o ls).2 l).1], (ans (runL o ls).2 l).2)
  | [], _, _ => rfl
  | x :: ls, o, l => by
    show (((ans o x).1 :: (runL (ans o x).2 (ls ++ [l])).1), (runL (ans o x).2 (ls ++ [l])).2) = _
    rw [runL_snoc ls]
    rfl
theorem runL_take {ls : List Str} {j : Nat} {l : Str} (h : ls[j]? = some l) (o : Option RG.Ring) : runL o (ls.take (j + 1)) = ((runL o (ls.take j)).1 ++ [(ans (runL o (ls.take j)).2 l).1], (ans (runL o (ls.take j)).2 l).2) := by
  rw [List.take_add_one, h]
  exact runL_snoc _ _ _
theorem runL_len : ∀ (ls : List Str) (o : Option RG.Ring), (runL o ls).1.length = ls.length
  | [], _ => rfl
  | _ :: ls, _ => congrArg (· + 1) (runL_len ls _)
/-! how much there is behind k rows -/
structure DB (k t : Nat) (R : RG.Ring) : Prop where
  tk : R.tk.length ≤ 24 + k
  rw : R.rw.length ≤ 1 + 90000 * k + 85 * t
  ln : ∀ i, (R.st i).line.length ≤ k
  mn : R.many ≤ 12
  wf : RG.WF R
  td : RG.Told R
theorem DB.few {k t : Nat} {R : RG.Ring} (b : DB k t R) (hk : k ≤ 40) (ht : t ≤ 1000) : FewR R := ⟨by have := b.tk; omega, by have := b.rw; omega, fun i _ => by have := b.ln i; omega⟩
theorem DB.step {k t : Nat} {R : RG.Ring} (b : DB k t R) (hk : k ≤ 40) : DB k (t + 1) (RG.step R) := by
  obtain ⟨h1, h2⟩ := RG.step_few b.wf
  have b1 := b.tk
  have b2 := b.rw
  have b3 := b.mn
  refine ⟨by omega, by omega, fun i => ?_, by rw [RG.step_many]; exact b3, b.wf.step, b.td.step b.wf.pos⟩
  rcases RG.step_line b.wf i with h | ⟨e, h⟩
  · rw [h]; exact b.ln i
  · have := b.ln i
    rw [h, List.length_cons] at this
    omega
theorem DB.steps {k : Nat} {R : RG.Ring} (b : DB k 0 R) (hk : k ≤ 40) : ∀ n : Nat, DB k n (stepN n R)
  | 0 => b
  | n + 1 => (DB.steps b hk n).step hk
theorem stepN_many {R : RG.Ring} : ∀ n, (stepN n R).many = R.many
  | 0 => rfl
  | n + 1 => (RG.step_many _).trans (stepN_many n)
theorem DB.more {k t : Nat} {R : RG.Ring} (b : DB k t R) (ht : t ≤ 1000) : DB (k + 1) 0 R := ⟨by have := b.tk; omega, by have := b.rw; omega, fun i => Nat.le_succ_of_le (b.ln i), b.mn, b.wf, b.td⟩
theorem DB.doC {k : Nat} {R S : RG.Ring} {c : Cmd} {x : Str} (b : DB k 0 R) (hk : k ≤ 40) (h : doC R c = .ok (x, S)) : DB (k + 1) 0 S := by
  have b1 := b.tk
  have b2 := b.rw
  have b3 := b.ln
  have b4 := b.mn
  cases c with
  | ring n => cases h; exact b.more (by omega)
  | toks => cases h; exact b.more (by omega)
  | put s r m =>
    simp only [Pr.doC] at h
    split at h
    · split at h
      · next h1 h2 =>
        cases h
        refine ⟨Nat.le_trans b1 (by omega), Nat.le_trans b2 (by omega), fun j => ?_, b4, b.wf.put _ _ _, b.td.put s (by omega) (by omega)⟩
        refine up_len (fun j => Nat.le_succ_of_le (b3 j)) ?_ j
        show List.length (_ ++ _) ≤ _
        rw [List.length_append]
        have := b3 s
        show _ + 1 ≤ _
        omega
      · cases h
    · cases h
  | steps n =>
    simp only [Pr.doC] at h
    split at h
    · cases h
      exact (b.steps hk n).more (by assumption)
    · cases h
      exact b.more (by omega)
  | lose j =>
    simp only [Pr.doC] at h
    split at h
    · cases h
      obtain ⟨e1, e2, e3, e4⟩ := RG.lose_tk R j
      refine ⟨?_, ?_, fun i => by rw [e2]; have := b3 i; omega, by rw [e1]; exact b4, b.wf.lose j, b.td.lose j⟩
      · rw [e4]
        have := List.length_eraseIdx_le R.tk j
        omega
      · unfold RG.lose
        split
        · omega
        · show List.length (_ ++ _) ≤ _
          rw [List.length_append]
          show _ + 1 ≤ _
          omega
    · cases h
  | make i =>
    simp only [Pr.doC] at h
    split at h
    · split at h
      · next hi ho =>
        cases h
        refine ⟨?_, ?_, up_len (fun j => Nat.le_succ_of_le (b3 j)) (Nat.le_succ_of_le (b3 i)), b4, b.wf.born hi ho, b.td.born hi⟩
        · show (RG.insTok _ _).length ≤ _
          rw [ins_len]
          omega
        · show List.length (_ ++ _) ≤ _
          rw [List.length_append]
          show _ + 1 ≤ _
          omega
      · cases h
    · cases h
  | off i =>
    simp only [Pr.doC] at h
    split at h
    · split at h
      · cases h
        have l1 := List.length_filter_le (fun t : RG.Tok => t.pl != i) R.tk
        have l2 := List.length_filter_le (fun t : RG.Tok => t.pl == i) R.tk
        refine ⟨Nat.le_trans l1 (by omega), ?_, up_len (fun j => Nat.le_succ_of_le (b3 j)) (Nat.le_succ_of_le (b3 i)), b4, b.wf.off i, b.td.off i⟩
        show List.length (_ ++ List.map _ _) ≤ _
        rw [List.length_append, List.length_map]
        omega
      · cases h
    · cases h
  | on i =>
    simp only [Pr.doC] at h
    split at h
    · split at h
      · cases h
      · cases h
        exact ⟨by show R.tk.length ≤ _; omega, by show R.rw.length ≤ _; omega, up_len (fun j => Nat.le_succ_of_le (b3 j)) (Nat.le_succ_of_le (b3 i)), b4, b.wf.turnOn i, b.td.turnOn i⟩
    · cases h
def OB (k : Nat) : Option RG.Ring → Prop
  | none => True
  | some R => DB k 0 R
theorem DB.start {many : Nat} (h1 : 1 ≤ many) (h : many ≤ 12) : DB 0 0 (RG.ring0 many) := ⟨by show 1 ≤ 24; decide, by show 1 ≤ 1; decide, up_len (fun j => Nat.le_refl 0) (Nat.le_refl 0), h, RG.WF.start h1, RG.Told.start h1⟩
theorem DB.up {R : RG.Ring} : ∀ {n m : Nat}, n ≤ m → DB n 0 R → DB m 0 R := fun {n m} h b => ⟨by have := b.tk; omega, by have := b.rw; omega, fun i => Nat.le_trans (b.ln i) h, b.mn, b.wf, b.td⟩
theorem OB.doO {k : Nat} {o o' : Option RG.Ring} {c : Cmd} {x : Str} (b : OB k o) (hk : k ≤ 40) (h : doO o c = .ok (x, o')) : OB (k + 1) o' := by
  cases o with
  | some R =>
    simp only [Pr.doO] at h
    cases e : doC R c with
    | ok z =>
      rw [e] at h
      cases h
      exact DB.doC b hk (x := z.1) (S := z.2) e
    | error z =>
      rw [e] at h
      cases h
  | none =>
    cases c with
    | ring n =>
      simp only [Pr.doO] at h
      split at h
      · next hn =>
        cases h
        exact (DB.start hn.1 hn.2).up (Nat.zero_le _)
      · cases h
    | _ =>
      cases h
      trivial
theorem OB.more {k : Nat} {o : Option RG.Ring} (b : OB k o) : OB (k + 1) o := by
  cases o with
  | none => trivial
  | some R => exact DB.up (Nat.le_succ k) b
theorem OB.ans {k : Nat} {o : Option RG.Ring} (b : OB k o) (hk : k ≤ 40) (l : Str) : OB (k + 1) (ans o l).2 := by
  unfold Pr.ans ansW
  split
  · exact b.more
  · split
    · next h => exact OB.doO b hk (x := _) h
    · exact b.more
theorem OB.run {ls : List Str} : ∀ {j : Nat}, j ≤ 40 → j ≤ ls.length → OB j (runL none (ls.take j)).2
  | 0, _, _ => trivial
  | j + 1, h, hl => by
    have hj : j < ls.length := by omega
    rw [runL_take (List.getElem?_eq_getElem hj)]
    exact (OB.run (by omega) (by omega)).ans (by omega) _
/-! ### k10: the program's desk -/
def spNW : Sp := fun vs H Q _ => ∃ w : Str, vs = [.str w] ∧ w.length ≤ 100000 ∧ Q (.bl (numW w)) H
def spUnd : Sp := fun vs H Q _ => ∃ (a : Addr) (ws : List Str), vs = [.ref a] ∧ H a = some (.lst (ws.map V.str)) ∧ ws ≠ [] ∧ ws.length ≤ 100000 ∧ (∀ x, x ∈ ws → x.length ≤ 100000) ∧ ∀ H', Same H H' → Q (.bl (und ws)) H'
def spMRows (Z : Ad) (c : Nat) : Sp := fun vs H Q _ => ∃ (A : RgA) (rl : Addr → Nat) (R : RG.Ring), vs = [.ref A.P] ∧ RgAt Z c rl H A R ∧ Q (.int (R.rw.length : Int)) H
def spRBeh (Z : Ad) (c : Nat) : Sp := fun vs H Q _ => ∃ (A : RgA) (rl : Addr → Nat) (R : RG.Ring) (k : Nat), vs = [.ref A.P, .int (k : Int)] ∧ RgAt Z c rl H A R ∧ ∀ (q : Addr) (H' : Hp), H q = none → Same H H' → H' q = some (.lst (A.rs.drop k)) → Q (.ref q) H'
section
variable {P : Program} {w : World} {K : PySem.W.Frag} {mg : Str → Option Value} {base : Heap} {Z : Ad}
theorem ok_is_number_word (T : Txt K mg Z) : FnOk P w K mg base CX0 1 Z.is_number_word Z.is_number_word_d ["word"] spNW := by
  refine T.F_is_number_word.ok sc_is_number_word (fun vs H Q E h => ?_) (fun cdv A outer s H vs Q E hr h => ?_)
  · obtain ⟨w, rfl, _⟩ := h
    rfl
  · obtain ⟨w, rfl, hl, k⟩ := h
    refine ⟨_, (pss_cons (ps_if (PW.pt (pw_or (pt_not (k_tr (K := K) (k_bm0 (K := K) PySem.F.plainAttrs_str PySem.F.slot_str_isascii PySem.F.type_str_isascii (r := rAscii) mt_isascii (pv 0)) (fun _ => rfl))) (pw_or (pt_not (k_tr (K := K) (k_bm0 (K := K) PySem.F.plainAttrs_str PySem.F.slot_str_isdigit PySem.F.type_str_isdigit (r := rDigit) mt_isdigit (pv 0)) (fun _ => rfl))) (pw_or1 (pt_cmpR op_gt (pe_callB (r := rLenT) call_len_str (by rfl) T.n_len PySem.boot_len (pa_cons (pv 0) pa_nil)) (pe_glob (v := .int 12) (by rfl) T.c_MOST_FIGURES.choose_spec.1 T.c_MOST_FIGURES.choose_spec.2) (nomark _))))))
        (pss_one (ps_ret pe_bl))
        pss_nil)
      (pss_one (ps_ret (pe_or (pe_cmpR op_eq (pv 0) pe_str (nomark _)) (pe_one (pe_not (k_bm (K := K) PySem.F.plainAttrs_str PySem.F.slot_str_startswith PySem.F.type_str_startswith (r := rStarts) mt_startswith (pv 0) (pa_cons pe_str pa_nil)))))))), ?_⟩
    have hf := figs_eq w
    have e1 : numW w = (figs w && decide ((tl w).length ≤ 12) && (decide (w = "0") || !decide ((tl w).head? = some 48))) := rfl
    rw [← starts_eq] at e1
    k_allIn
    cases ha : Txt.isascii w with
    | false =>
      rw [ha, Bool.false_and] at hf
      rw [← hf, Bool.false_and, Bool.false_and] at e1
      k_allIn
      rw [e1] at k
      exact k
    | true =>
      rw [ha, Bool.true_and] at hf
      k_allIn
      rw [hf]
      cases hg : figs w with
      | false =>
        rw [hg, Bool.false_and, Bool.false_and] at e1
        k_allIn
        rw [e1] at k
        exact k
      | true =>
        rw [hg, Bool.true_and] at e1
        k_allIn
        refine w_lenStr (Nat.le_of_lt (small hl)) ?_
        k_allIn
        by_cases hc : (tl w).length ≤ 12
        · rw [decide_eq_true hc, Bool.true_and] at e1
          refine i_dF (by rw [len_tl]; omega) ?_
          k_allIn
          rw [e1] at k
          cases hz : decide (w = "0") with
          | true =>
            rw [hz, Bool.true_or] at k
            rw [show decide (V.str w = V.str "0") = true from decide_eq_true (by rw [of_decide_eq_true hz])]
            k_allIn
            exact k
          | false =>
            rw [hz, Bool.false_or] at k
            rw [show decide (V.str w = V.str "0") = false from decide_eq_false fun z => (of_decide_eq_false hz) (V.str.inj z)]
            k_allIn
            exact k
        · rw [decide_eq_false hc, Bool.false_and] at e1
          refine i_dT (by rw [len_tl]; omega) ?_
          k_allIn
          rw [e1] at k
          exact k
theorem ok_Ring_many_rows (T : Txt K mg Z) (c : Nat) : FnOk P w K mg base CX0 1 Z.Ring_many_rows Z.Ring_many_rows_d ["self"] (spMRows Z c) := by
  refine T.F_Ring_many_rows.ok sc_Ring_many_rows (fun vs H Q E h => ?_) (fun cdv A outer s H vs Q E hr h => ?_)
  · obtain ⟨A, rl, R, rfl, _⟩ := h
    rfl
  · obtain ⟨A, rl, R, rfl, hA, k⟩ := h
    refine ⟨_, (pss_one (ps_ret (pe_callB (r := rLenS K) call_lenS (by rfl) T.n_len PySem.boot_len (pa_cons (k_fld (K := K) (pv 0) rfl) pa_nil)))), ?_⟩
    have hc := T.cl_Ring
    have n1 := T.a_Ring_rows
    have hP := hA.hP
    have hlr := hA.hlr
    k_allIn
    rw [hA.hrs.length]
    exact k
theorem ok_Ring_rows_behind (T : Txt K mg Z) (c : Nat) : FnOk P w K mg base CX0 1 Z.Ring_rows_behind Z.Ring_rows_behind_d ["self", "known"] (spRBeh Z c) := by
  refine T.F_Ring_rows_behind.ok sc_Ring_rows_behind (fun vs H Q E h => ?_) (fun cdv A outer s H vs Q E hr h => ?_)
  · obtain ⟨A, rl, R, k, rfl, _⟩ := h
    rfl
  · obtain ⟨A, rl, R, n, rfl, hA, k⟩ := h
    refine ⟨_, (pss_one (ps_ret (pe_slice (r := rSlL K) sl_list (k_fld (K := K) (pv 0) rfl) (po_some (pv 1)) po_none))), ?_⟩
    have hc := T.cl_Ring
    have n1 := T.a_Ring_rows
    have hP := hA.hP
    have hlr := hA.hlr
    k_allIn
    refine ⟨A.lr, _, rfl, SqL.of hlr, fun q nq => ?_⟩
    rw [cut_from]
    exact k q _ nq (same_new nq) upd_same
theorem ok_is_understood (T : Txt K mg Z) (N : NumT w K Z) : FnOk P w K mg base CX0 2 Z.is_understood Z.is_understood_d ["words"] spUnd := by
  have G_is_number_word := ok_is_number_word (P := P) (w := w) (base := base) T
  refine T.F_is_understood.ok sc_is_understood (fun vs H Q E h => ?_) (fun cdv A outer s H vs Q E hr h => ?_)
  · obtain ⟨a, ws, rfl, _⟩ := h
    rfl
  · obtain ⟨a, ws, rfl, ha, hne, hlen, hx, k⟩ := h
    refine ⟨_, (pss_cons (ps_if (pt_cmpR op_ne (pe_kget (Z := Z) N (pe_glob (v := .ref Z.c_NUMBERS) (by rfl) T.c_NUMBERS.choose_spec.1 T.c_NUMBERS.choose_spec.2) (pe_ix (r := rIx K) ix_seq (pv 0) pe_int (fun _ _ => rfl)) ⟨rfl, rfl, rfl, rfl⟩) (pe_op op_sub (pe_callB (r := rLenS K) call_lenS (by rfl) T.n_len PySem.boot_len (pa_cons (pv 0) pa_nil)) pe_int) (nomark _))
        (pss_one (ps_ret pe_bl))
        pss_nil)
      (pss_one (ps_ret (pe_callB (r := rAll K) (cr_all rfl) (by rfl) T.n_all (by decide +kernel) (pa_cons (pe_lc (own := [("word", 1)]) (g := gName 1) rfl sc_is_understood.nd (k_list (K := K) (pe_slice (r := rSlL K) sl_list (pv 0) (po_some pe_int) po_none)) (blkOk_by (own := [("word", 1)]) (N := ["words", "word"]) (sc := defScope s_is_understood) (by decide +kernel)) (fun _ _ _ _ _ => pg_name (i := 1) sc_is_understood.nd rfl (Or.inl rfl)) (fun _ _ _ _ _ => pts_nil) (fun _ _ _ _ _ => (pe_call G_is_number_word (hr.mono (by omega)) rfl T.g_is_number_word T.F_is_number_word.kp T.b_is_number_word .nil pass0 (pa_cons (pv 1) pa_nil)))) pa_nil))))), ?_⟩
    obtain ⟨v, r, rfl⟩ : ∃ v r, ws = v :: r := by
      cases ws with
      | nil => exact absurd rfl hne
      | cons v r => exact ⟨v, r, rfl⟩
    k_allIn
    refine w_kget ?_
    k_allIn
    refine ⟨rfl, ?_⟩
    k_allIn
    refine ⟨v, rfl, w_kgK ?_⟩
    have eu : und (v :: r) = (decide (lookN v numKvs = some (r.length : Int)) && r.all numW) := rfl
    rw [eu] at k
    cases hl : lookN v numKvs with
    | none =>
      rw [hl, decide_eq_false (fun z => nomatch z), Bool.false_and] at k
      rw [show Option.elim none V.non V.int = V.non from rfl]
      k_allIn
      rw [show decide (V.non = V.int (((v :: r).map V.str).length - 1 : Int)) = false from decide_eq_false fun z => nomatch z]
      k_allIn
      exact k H (Same.refl _)
    | some i =>
      rw [hl] at k
      rw [show Option.elim (some i) V.non V.int = V.int i from rfl]
      k_allIn
      rw [List.length_map, List.length_cons, show ((r.length + 1 : Nat) : Int) - 1 = (r.length : Int) by omega]
      by_cases hi : i = (r.length : Int)
      · rw [decide_eq_true (congrArg some hi), Bool.true_and] at k
        rw [show decide (V.int i = V.int (r.length : Int)) = true from decide_eq_true (by rw [hi])]
        k_allIn
        refine ⟨a, _, rfl, SqL.of ha, fun q nq => ?_⟩
        rw [show (1 : Int) = ((1 : Nat) : Int) from rfl, cut_from]
        have s1 := same_new (o := HO.lst (((v :: r).map V.str).drop 1)) nq
        have e1 := upd_same (H := H) (a := q) (o := HO.lst (((v :: r).map V.str).drop 1))
        generalize upd H q (HO.lst (((v :: r).map V.str).drop 1)) = H1 at *
        have e1' : H1 q = some (.lst (r.map V.str)) := e1
        k_allIn
        refine fun D nD => ?_
        refine lc_list (K := K) (a := q) (xs := r.map V.str) (Pv := fun j H' => Same H1 H' ∧ H' D = some (.lst (((r.take j).map numW).map V.bl))) ⟨same_new nD, upd_same⟩ (fun j H' _ ⟨s, _⟩ => SqL.of (s _ _ e1')) ?_ ?_
        · rintro j y H2 hy ⟨s2, e2⟩
          obtain ⟨x, hx', rfl⟩ := get_map hy
          have hj : j < r.length := (List.getElem?_eq_some_iff.mp hx').1
          have hlr : r.length + 1 ≤ 100000 := hlen
          k_allIn
          refine ⟨rfl, ?_⟩
          k_allIn
          refine ⟨x, rfl, hx x (List.mem_cons_of_mem _ (List.mem_of_getElem? hx')), ?_⟩
          k_allIn
          refine ⟨_, e2, small (by rw [List.length_map, List.length_map, List.length_take]; omega), same_mut s2 nD, ?_⟩
          rw [upd_same, List.take_add_one, hx', List.map_append, List.map_append]
          rfl
        · rintro H2 ⟨s2, e2⟩
          rw [List.length_map, List.take_length] at e2
          k_allIn
          refine w_all (r.map numW) (SqL.of e2) ?_
          rw [show (r.map numW).all id = r.all numW by rw [List.all_map]; rfl]
          exact k H2 (s1.trans s2)
      · rw [decide_eq_false (fun z => hi (Option.some.inj z)), Bool.false_and] at k
        rw [show decide (V.int i = V.int (r.length : Int)) = false from decide_eq_false fun z => hi (V.int.inj z)]
        k_allIn
        exact k H (Same.refl _)
end
/-! ### k10: the program's answers over a ring -/
theorem none_of {H H' : Hp} {a : Addr} (s : Same H H') (n : H' a = none) : H a = none := by
  cases e : H a with
  | none => rfl
  | some o => rw [s _ _ e] at n; cases n
theorem empty_app (x : Str) : Str.empty ++ x = x := ext_tl (by rw [tl_append]; rfl)
theorem sum_le {b : Nat} : ∀ {ys : List Str}, (∀ y, y ∈ ys → y.length ≤ b) → (ys.map (·.length)).sum ≤ ys.length * b
  | [], _ => Nat.zero_le _
  | y :: ys, h => by
    have h1 := h y (List.mem_cons_self ..)
    have h2 := sum_le fun z m => h z (List.mem_cons_of_mem _ m)
    rw [List.map_cons, List.sum_cons, List.length_cons, Nat.succ_mul]
    omega
theorem pow20 {n : Nat} (h : n ≤ 10000000000) : n < 10 ^ 20 := Nat.lt_of_le_of_lt h (by decide)
theorem Lin.sent {many : Nat} {r : RG.Rw} {x : Str} (hm : many ≤ 12) (h : RG.okRw many r) (e : sentP 0 r = some x) : Lin 41 x := by
  cases r with
  | sent t s r m =>
    cases e
    obtain ⟨h1, h2, h3⟩ := h
    exact ((Lin.num (pow20 (by omega))).app (Lin.of (n := 1) (by decide +kernel))).app (Lin.num (pow20 (by omega)))
  | _ => cases e
theorem Lin.tok {t : RG.Tok} (h1 : t.sp.1 ≤ 10000000) (h2 : t.sp.2 ≤ 12) (h3 : t.pl ≤ 12) : Lin 62 (tokP t) :=
  ((((Lin.num (pow20 (by omega))).app (Lin.of (n := 1) (by decide +kernel))).app (Lin.num (pow20 (by omega)))).app (Lin.of (n := 1) (by decide +kernel))).app (Lin.num (pow20 (by omega)))
theorem Lin.sents {many : Nat} {rows : List RG.Rw} (hm : many ≤ 12) (h : ∀ r, r ∈ rows → RG.okRw many r) : ∀ x, x ∈ ("sent" :: rows.filterMap (sentP 0) : List Str) → Lin 41 x := fun x m => by
  rcases List.mem_cons.mp m with rfl | m
  · exact Lin.of (by decide +kernel)
  · obtain ⟨r, mr, e⟩ := List.mem_filterMap.mp m
    exact Lin.sent hm (h r mr) e
def spSA (Z : Ad) (c : Nat) : Sp := fun vs H Q _ => ∃ (A : RgA) (rl : Addr → Nat) (R : RG.Ring) (n k : Nat), vs = [.ref A.P, .int (n : Int)] ∧ RgAt Z c rl H A R ∧ DB k 0 R ∧ k ≤ 40 ∧ c + 1000 ≤ 9999 ∧
  (n ≤ 1000 → RgQ Z c rl H A (stepN n R) (Q (.str (stepsT ((stepN n R).rw.drop R.rw.length))))) ∧ (1000 < n → Q (.str nu) H)
def spTA (Z : Ad) (c : Nat) : Sp := fun vs H Q _ => ∃ (A : RgA) (rl : Addr → Nat) (R : RG.Ring) (k : Nat), vs = [.ref A.P] ∧ RgAt Z c rl H A R ∧ DB k 0 R ∧ k ≤ 40 ∧ ∀ H', Same H H' → Q (.str (toksT R.tk)) H'
def spRA (Z : Ad) (c : Nat) : Sp := fun vs H Q E => ∃ (A : RgA) (rl : Addr → Nat) (R : RG.Ring) (k : Nat) (cmd : Cmd) (q : Addr), vs = [.ref A.P, .str (cmdW cmd), .ref q] ∧ RgAt Z c rl H A R ∧ H q = some (.lst ((cmdN cmd).map fun n : Nat => V.int (n : Int))) ∧ DB k 0 R ∧ k ≤ 40 ∧ c + 1000 ≤ 9999 ∧
  (∀ x S, doC R cmd = .ok (x, S) → RgQ Z c rl H A S (Q (.str x))) ∧ (∀ e, doC R cmd = .error e → E (.ref (e.a Z)) none H)
theorem DB.grow {k : Nat} {R : RG.Ring} (b : DB k 0 R) (hk : k ≤ 40) : ∀ n, (stepN n R).rw.length ≤ R.rw.length + 85 * n
  | 0 => Nat.le_refl _
  | n + 1 => by
    have ih := DB.grow b hk n
    have bn := b.steps hk n
    obtain ⟨_, h2⟩ := RG.step_few bn.wf
    have b1 := bn.tk
    have b3 := bn.mn
    show (RG.step (stepN n R)).rw.length ≤ _
    omega
theorem DB.tok {k t : Nat} {R : RG.Ring} (b : DB k t R) (hk : k ≤ 40) (ht : t ≤ 1000) {u : RG.Tok} (m : u ∈ R.tk) : u.sp.1 ≤ 10000000 ∧ u.sp.2 ≤ 12 ∧ u.pl ≤ 12 := by
  have h1 := b.td.tn u m
  have h2 := (b.wf.pl u m).1
  have h3 := b.mn
  have h4 := b.rw
  exact ⟨by omega, by omega, by omega⟩
section
variable {P : Program} {w : World} {K : PySem.W.Frag} {mg : Str → Option Value} {base : Heap} {Z : Ad}
theorem ok_tokens_answer (T : Txt K mg Z) (c : Nat) : FnOk P w K mg base CX0 2 Z.tokens_answer Z.tokens_answer_d ["ring"] (spTA Z c) := by
  have G_Ring_tokens := ok_Ring_tokens (P := P) (w := w) (base := base) T c
  refine T.F_tokens_answer.ok sc_tokens_answer (fun vs H Q E h => ?_) (fun cdv X outer s H vs Q E hr h => ?_)
  · obtain ⟨A, rl, R, k, rfl, _⟩ := h
    rfl
  · obtain ⟨A, rl, R, k, rfl, hA, hb, hk, kk⟩ := h
    refine ⟨_, (pss_cons (ps_setLc (i := 1) (own := [("number", 2), ("maker", 3), ("station", 4)]) rfl sc_tokens_answer.nd rfl rfl (sw_true rfl rfl rfl (by decide +kernel)) (k_list (K := K) (pe_meth0 (pv 0) T.cl_Ring T.m_Ring_tokens G_Ring_tokens (hr.mono (by omega)) T.b_Ring_tokens .nil pass0)) (blkOk_by (own := [("number", 2), ("maker", 3), ("station", 4)]) (N := ["ring", "answer", "number", "maker", "station"]) (sc := defScope s_tokens_answer) (by decide +kernel)) (fun _ _ _ _ _ => (k_gtup (K := K) 3 rfl (pgs_cons (pg_name (i := 2) sc_tokens_answer.nd rfl (Or.inl rfl)) (pgs_cons (pg_name (i := 3) sc_tokens_answer.nd rfl (Or.inl rfl)) (pgs_cons (pg_name (i := 4) sc_tokens_answer.nd rfl (Or.inl rfl)) pgs_nil))))) (fun _ _ _ _ _ => pts_nil) (fun _ _ _ _ _ => (k_joined (PJ.cons (pe_fmt (pv 2)) (PJ.cons pe_str (PJ.cons (pe_fmt (pv 3)) (PJ.cons pe_str (PJ.cons (pe_fmt (pv 4)) PJ.nil))))))))
      (pss_cons (ps_if (pt_not (k_tr (K := K) (pv 1) (fun _ => rfl)))
        (pss_one (ps_ret pe_str))
        pss_nil)
      (pss_one (ps_ret (k_bm (K := K) PySem.F.plainAttrs_str PySem.F.slot_str_join PySem.F.type_str_join (r := rJoin K) mt_join pe_str (pa_cons (pv 1) pa_nil)))))), ?_⟩
    have hc := T.cl_Ring
    have hP := hA.hP
    have htk := hb.tk
    k_allIn
    refine ⟨A, rl, R, rfl, hA, by omega, fun q as H1 nq s1 e1 ea => ?_⟩
    have hlen : as.length = R.tk.length := ea.length
    k_allIn
    refine fun D nD => ?_
    refine lc_list (K := K) (a := q) (xs := as.map V.ref) (Pv := fun j H' => Same H1 H' ∧ H' D = some (.lst (((R.tk.take j).map tokP).map V.str))) ⟨same_new nD, upd_same⟩ (fun j H' _ ⟨s, _⟩ => SqL.of (s _ _ e1)) ?_ ?_
    · rintro j y H2 hy ⟨s2, e2⟩
      obtain ⟨b, hb', rfl⟩ := get_map hy
      obtain ⟨t, ht, eb⟩ := each_get ea hb'
      have hj : j < as.length := (List.getElem?_eq_some_iff.mp hb').1
      obtain ⟨t1, t2, t3⟩ := hb.tok hk (by omega) (List.mem_of_getElem? ht)
      have eb2 := s2 _ _ eb
      k_allIn
      refine ⟨rfl, ?_⟩
      k_allIn
      refine w_fmtK (pow20 (by omega)) ?_
      have l0 : Lin 20 (numT t.sp.1) := .num (pow20 (by omega))
      have l1 : Lin 20 (numT t.sp.2) := .num (pow20 (by omega))
      have l2 : Lin 20 (numT t.pl) := .num (pow20 (by omega))
      have d1 : Lin 1 "." := .of (by decide +kernel)
      have d2 : Lin 1 "@" := .of (by decide +kernel)
      refine w_jsK (by rw [empty_app]; exact Nat.le_trans l0.len (by decide)) ?_
      rw [empty_app]
      k_allIn
      refine w_jsK (Nat.le_trans (l0.app d1).len (by decide)) ?_
      k_allIn
      refine w_fmtK (pow20 (by omega)) ?_
      refine w_jsK (Nat.le_trans ((l0.app d1).app l1).len (by decide)) ?_
      k_allIn
      refine w_jsK (Nat.le_trans (((l0.app d1).app l1).app d2).len (by decide)) ?_
      k_allIn
      refine w_fmtK (pow20 (by omega)) ?_
      refine w_jsK (Nat.le_trans ((((l0.app d1).app l1).app d2).app l2).len (by decide)) ?_
      k_allIn
      refine ⟨_, e2, small (by rw [List.length_map, List.length_map, List.length_take]; omega), same_mut s2 nD, ?_⟩
      rw [upd_same, List.take_add_one, ht, List.map_append, List.map_append]
      rfl
    · rintro H2 ⟨s2, e2⟩
      rw [List.length_map, hlen, List.take_length] at e2
      k_allIn
      refine w_truL (SqL.of e2) ?_
      have S2 := s1.trans s2
      have et : toksT R.tk = if R.tk.isEmpty = true then ("none" : Str) else Txt.join " " (R.tk.map tokP) := rfl
      cases hem : R.tk.isEmpty with
      | true =>
        rw [hem, if_pos rfl] at et
        have : (((R.tk.map tokP).map V.str).isEmpty) = true := by rw [List.isEmpty_iff.mp hem]; rfl
        rw [this]
        k_allIn
        rw [← et]
        exact kk H2 S2
      | false =>
        rw [hem, if_neg Bool.false_ne_true] at et
        have : (((R.tk.map tokP).map V.str).isEmpty) = false := by
          cases h : R.tk with
          | nil => rw [h] at hem; cases hem
          | cons t l => rfl
        rw [this, show (!!false) = false from rfl]
        k_allIn
        refine w_join (SqL.of e2) ?_ ?_
        · have h1 := sum_le (b := 62) (ys := R.tk.map tokP) fun y m => by
            obtain ⟨t, mt, rfl⟩ := List.mem_map.mp m
            obtain ⟨t1, t2, t3⟩ := hb.tok hk (by omega) mt
            exact (Lin.tok t1 t2 t3).len
          rw [List.length_map] at h1 ⊢
          have : (" " : Str).length = 1 := by decide +kernel
          rw [this]
          omega
        · rw [← et]
          exact kk H2 S2
theorem ok_steps_answer (T : Txt K mg Z) (c : Nat) : FnOk P w K mg base CX0 6 Z.steps_answer Z.steps_answer_d ["ring", "many"] (spSA Z c) := by
  have G_Ring_step := ok_Ring_step (P := P) (w := w) (base := base) T c
  have G_Ring_many_rows := ok_Ring_many_rows (P := P) (w := w) (base := base) T c
  have G_Ring_rows_behind := ok_Ring_rows_behind (P := P) (w := w) (base := base) T c
  refine T.F_steps_answer.ok sc_steps_answer (fun vs H Q E h => ?_) (fun cdv X outer s H vs Q E hr h => ?_)
  · obtain ⟨A, rl, R, n, k, rfl, _⟩ := h
    rfl
  · obtain ⟨A, rl, R, n, k, rfl, hA, hb, hk, hcc, k1, k2⟩ := h
    refine ⟨_, (pss_cons (ps_if (pt_cmpR op_gt (pv 1) (pe_glob (v := .int 1000) (by rfl) T.c_MOST_STEPS.choose_spec.1 T.c_MOST_STEPS.choose_spec.2) (nomark _))
        (pss_one (ps_ret (pe_glob (v := .str "not understood") (by rfl) T.c_NOT_UNDERSTOOD.choose_spec.1 T.c_NOT_UNDERSTOOD.choose_spec.2)))
        pss_nil)
      (pss_cons (ps_set (i := 2) sc_steps_answer.nd rfl (Or.inl rfl) (pe_meth0 (pv 0) T.cl_Ring T.m_Ring_many_rows G_Ring_many_rows (hr.mono (by omega)) T.b_Ring_many_rows .nil pass0))
      (pss_cons (ps_for PassesOwn.never rfl (pi_range1 (by rfl) T.n_range (pa_cons (pv 1) pa_nil)) (pg_name (i := 3) sc_steps_answer.nd rfl (Or.inl rfl))
        (pss_one (ps_expr (pe_meth0 (pv 0) T.cl_Ring T.m_Ring_step G_Ring_step (hr.mono (by omega)) T.b_Ring_step .nil pass0))))
      (pss_cons (ps_set (i := 4) sc_steps_answer.nd rfl (Or.inl rfl) (pe_lst (pa_cons pe_str pa_nil)))
      (pss_cons (ps_for PassesOwn.never rfl (k_list (K := K) (pe_meth (pv 0) T.cl_Ring T.m_Ring_rows_behind G_Ring_rows_behind (hr.mono (by omega)) T.b_Ring_rows_behind .nil pass0 (pa_cons (pv 2) pa_nil))) (pg_name (i := 5) sc_steps_answer.nd rfl (Or.inl rfl))
        (pss_one (ps_if (pt_cmpR op_eq (pe_ix (r := rIx K) ix_seq (pv 5) pe_int (fun _ _ => rfl)) pe_str (nomark _))
          (pss_one (ps_expr (k_bm (K := K) PySem.F.plainAttrs_list PySem.F.slot_list_append PySem.F.type_list_append mt_append (pv 4) (pa_cons (k_joined (PJ.cons (pe_fmt (pe_ix (r := rIx K) ix_seq (pv 5) pe_int (fun _ _ => rfl))) (PJ.cons pe_str (PJ.cons (pe_fmt (pe_ix (r := rIx K) ix_seq (pv 5) pe_int (fun _ _ => rfl))) PJ.nil)))) pa_nil))))
          pss_nil)))
      (pss_one (ps_ret (k_bm (K := K) PySem.F.plainAttrs_str PySem.F.slot_str_join PySem.F.type_str_join (r := rJoin K) mt_join pe_str (pa_cons (pv 4) pa_nil))))))))), ?_⟩
    have hc := T.cl_Ring
    have hP := hA.hP
    k_allIn
    by_cases hn : n ≤ 1000
    · refine i_dF (by omega) ?_
      k_allIn
      refine ⟨A, rl, R, rfl, hA, ?_⟩
      k_allIn
      refine for_range (fun i σ H' => ∃ (A' : RgA) (rl' : Addr → Nat) (v3 : Option V), σ = [some (.ref A.P), some (.int (n : Int)), some (.int (R.rw.length : Int)), v3, none, none] ∧ RgAt Z c rl' H' A' (stepN i R) ∧ A'.P = A.P ∧ Mw c (c + 300) rl H rl' H') ⟨A, rl, _, rfl, hA, rfl, .refl _ _ _ _⟩ ?_ ?_
      · rintro i σ H1 hi ⟨A1, rl1, v3, rfl, h1, eP1, m1⟩
        have hi' : i < n := by omega
        have b1 := hb.steps hk i
        have f1 := b1.few hk (by omega)
        have hP := h1.hP
        rw [eP1] at hP
        k_allIn
        refine ⟨A1, rl1, _, by rw [eP1]; rfl, h1, b1.wf, f1.tk, f1.rw, hcc, fun A2 rl2 H2 h2 eP2 m2 => ?_⟩
        k_allIn
        exact ⟨A2, rl2, _, rfl, h2, eP2.trans eP1, m1.trans m2⟩
      · rintro σ H1 ⟨A1, rl1, v3, rfl, h1, eP1, m1⟩
        rw [show ((n : Int)).toNat = n by omega] at h1
        have b1 := hb.steps hk n
        have g1 := hb.grow hk n
        have mn1 : (stepN n R).many = R.many := stepN_many n
        have kk := k1 hn
        generalize stepN n R = S at *
        k_allIn
        refine w_newS (by simp) fun L H2 nL s2 e2 => ?_
        have h2 := h1.mono s2
        have hP := h2.hP
        rw [eP1] at hP
        k_allIn
        refine ⟨A1, rl1, S, R.rw.length, by rw [eP1]; rfl, h2, fun q H3 nq s3 e3 => ?_⟩
        have hX := (each_drop R.rw.length h1.hrs).mono fun _ _ (⟨a, e, z⟩ : ∃ a, _ = V.ref a ∧ H1 a = _) => (⟨a, e, s3 _ _ (s2 _ _ z)⟩ : ∃ a, _ = V.ref a ∧ H3 a = _)
        have okX : ∀ r, r ∈ S.rw.drop R.rw.length → RG.okRw S.many r := fun r m => b1.td.rs r (List.mem_of_mem_drop m)
        have lX : (S.rw.drop R.rw.length).length ≤ 85000 := by
          rw [List.length_drop]
          omega
        generalize S.rw.drop R.rw.length = X at *
        generalize A1.rs.drop R.rw.length = ys at *
        have hqL : q ≠ L := fun z => by rw [z, e2] at nq; cases nq
        k_allIn
        refine for_list (xs := ys) (fun j σ H' => ∃ v5, σ = [some (.ref A.P), some (.int (n : Int)), some (.int (R.rw.length : Int)), v3, some (.ref L), v5] ∧ Same H1 H' ∧ H' q = some (.lst ys) ∧ H' L = some (.lst (("sent" :: (X.take j).filterMap (sentP 0) : List Str).map V.str)) ∧ ∀ b xs, H3 b = some (.tup xs) → H' b = some (.tup xs)) ⟨_, rfl, s2.trans s3, e3, s3 _ _ e2, fun _ _ e => e⟩ (fun j σ H' _ ⟨_, _, _, e, _⟩ => SqL.of e) ?_ ?_
        · rintro j y σ H4 hy ⟨v5, rfl, s4, e4q, e4L, t4⟩
          obtain ⟨r, hr', b, rfl, hb'⟩ := each_get hX hy
          have hj : j < X.length := (List.getElem?_eq_some_iff.mp hr').1
          have okr := okX r (List.mem_of_getElem? hr')
          have hft : ∀ z, sentP 0 r = z → (X.take (j + 1)).filterMap (sentP 0) = (X.take j).filterMap (sentP 0) ++ z.toList := fun z e => by
            rw [List.take_add_one, hr', List.filterMap_append]
            congr 1
            show List.filterMap (sentP 0) [r] = _
            rw [← e]
            cases h : sentP 0 r with
            | none => rw [List.filterMap_cons_none h]; rfl
            | some x => rw [List.filterMap_cons_some h]; rfl
          have hb4 := t4 _ _ hb'
          cases r with
          | sent x1 x2 x3 x4 =>
            obtain ⟨o1, o2, o3⟩ := okr
            obtain ⟨mn, rfl⟩ : ∃ mn : Nat, x4 = (mn : Int) := ⟨x4.toNat, by omega⟩
            have hm12 := b1.mn
            have hb5 : H4 b = some (.tup [.str "sent", .int (x1 : Int), .int (x2 : Int), .int x3, .int (mn : Int)]) := hb4
            have l0 : Lin 20 (numT x2) := .num (pow20 (by omega))
            have l1 : Lin 20 (numT mn) := .num (pow20 (by omega))
            have d1 : Lin 1 ":" := .of (by decide +kernel)
            have hl : (("sent" :: (X.take j).filterMap (sentP 0) : List Str).map V.str).length ≤ 85001 := by
              rw [List.length_map, List.length_cons]
              have := List.length_filterMap_le (sentP 0) (X.take j)
              rw [List.length_take] at this
              omega
            k_allIn
            refine w_fmtK (pow20 (by omega)) ?_
            refine w_jsK (by rw [empty_app]; exact Nat.le_trans l0.len (by decide)) ?_
            rw [empty_app]
            k_allIn
            refine w_jsK (Nat.le_trans (l0.app d1).len (by decide)) ?_
            k_allIn
            refine w_fmtK (pow20 (by omega)) ?_
            refine w_jsK (Nat.le_trans ((l0.app d1).app l1).len (by decide)) ?_
            k_allIn
            refine w_append e4L (small (by omega)) ?_
            refine ⟨_, rfl, same_mut s4 nL, upd_at e4q hqL, ?_, fun b' xs e => upd_at (t4 b' xs e) fun z => by rw [z, s3 _ _ e2] at e; cases e⟩
            rw [upd_same, hft _ rfl]
            show some (HO.lst _) = some (HO.lst (List.map V.str ((("sent" :: (X.take j).filterMap (sentP 0)) : List Str) ++ [_])))
            rw [List.map_append]
            rfl
          | made x1 x2 x3 =>
            have hb5 : H4 b = some (.tup [.str "made", .int (x1 : Int), .int (x2 : Int), .int (x3 : Int)]) := hb4
            k_allIn
            refine ⟨_, rfl, s4, e4q, ?_, t4⟩
            rw [hft none rfl, show (none : Option Str).toList = [] from rfl, List.append_nil]
            exact e4L
          | drop x1 x2 x3 =>
            have hb5 : H4 b = some (.tup [.str "dropped", .int (x1 : Int), .int (x2 : Int), .int (x3.1 : Int), .int (x3.2 : Int)]) := hb4
            k_allIn
            refine ⟨_, rfl, s4, e4q, ?_, t4⟩
            rw [hft none rfl, show (none : Option Str).toList = [] from rfl, List.append_nil]
            exact e4L
          | lost x1 x2 =>
            have hb5 : H4 b = some (.tup [.str "lost", .int (x1 : Int), .int (x2.1 : Int), .int (x2.2 : Int)]) := hb4
            k_allIn
            refine ⟨_, rfl, s4, e4q, ?_, t4⟩
            rw [hft none rfl, show (none : Option Str).toList = [] from rfl, List.append_nil]
            exact e4L
        · rintro σ H4 ⟨v5, rfl, s4, e4q, e4L, t4⟩
          have hly : ys.length = X.length := hX.length
          rw [hly, List.take_length] at e4L
          k_allIn
          refine w_join (SqL.of e4L) ?_ ?_
          · have h1 := sum_le (b := 41) (ys := ("sent" :: X.filterMap (sentP 0) : List Str)) fun y m => (Lin.sents b1.mn okX y m).len
            have h2 := List.length_filterMap_le (sentP 0) X
            have : (" " : Str).length = 1 := by decide +kernel
            rw [this]
            rw [List.length_cons] at h1 ⊢
            omega
          · exact kk A1 rl1 H4 (h1.mono s4) eP1 (m1.trans (.of s4))
    · refine i_dT (by omega) ?_
      k_allIn
      exact k2 (by omega)
end
/-! ### k10: the program's desk over a ring -/
section
variable {P : Program} {w : World} {K : PySem.W.Frag} {mg : Str → Option Value} {base : Heap} {Z : Ad}
theorem ok_ring_answer (T : Txt K mg Z) (c : Nat) : FnOk P w K mg base (L2.CX P w) 7 Z.ring_answer Z.ring_answer_d ["ring", "word", "numbers"] (spRA Z c) := by
  have G_Ring_put := ok_Ring_put (P := P) (w := w) (base := base) T c
  have G_Ring_lose := ok_Ring_lose (P := P) (w := w) (base := base) T c
  have G_Ring_make := ok_Ring_make (P := P) (w := w) (base := base) T c
  have G_Ring_switch_off := ok_Ring_switch_off (P := P) (w := w) (base := base) T c
  have G_Ring_switch_on := ok_Ring_switch_on (P := P) (w := w) (base := base) T c
  have G_steps_answer := ok_steps_answer (P := P) (w := w) (base := base) T c
  have G_tokens_answer := ok_tokens_answer (P := P) (w := w) (base := base) T c
  refine T.F_ring_answer.okX sc_ring_answer (fun vs H Q E h => ?_) (fun cdv X outer s H vs Q E hr h => ?_)
  · obtain ⟨A, rl, R, k, cmd, q, rfl, _⟩ := h
    rfl
  · obtain ⟨A, rl, R, k, cmd, q, rfl, hA, hq, hb, hk, hcc, kk, ke⟩ := h
    refine ⟨_, (pss_cons (ps_if (pt_cmpR op_eq (pv 1) pe_str (nomark _))
        (pss_cons (ps_expr (pe_meth (pv 0) T.cl_Ring T.m_Ring_put G_Ring_put (hr.mono (by omega)) T.b_Ring_put .nil (passes_call (takes_of rfl rfl rfl rfl) (fun _ _ _ _ h => h)) (pa_cons (pe_ix (r := rIx K) ix_seq (pv 2) pe_int (fun _ _ => rfl)) (pa_cons (pe_ix (r := rIx K) ix_seq (pv 2) pe_int (fun _ _ => rfl)) (pa_cons (pe_ix (r := rIx K) ix_seq (pv 2) pe_int (fun _ _ => rfl)) pa_nil)))))
        (pss_one (ps_ret pe_str)))
        pss_nil)
      (pss_cons (ps_if (pt_cmpR op_eq (pv 1) pe_str (nomark _))
        (pss_one (ps_ret (pe_call G_steps_answer (hr.mono (by omega)) rfl T.g_steps_answer T.F_steps_answer.kp T.b_steps_answer .nil pass0 (pa_cons (pv 0) (pa_cons (pe_ix (r := rIx K) ix_seq (pv 2) pe_int (fun _ _ => rfl)) pa_nil)))))
        pss_nil)
      (pss_cons (ps_if (pt_cmpR op_eq (pv 1) pe_str (nomark _))
        (pss_cons (ps_expr (pe_meth (pv 0) T.cl_Ring T.m_Ring_lose G_Ring_lose (hr.mono (by omega)) T.b_Ring_lose .nil (passes_call (takes_of rfl rfl rfl rfl) (fun _ _ _ _ h => h)) (pa_cons (pe_ix (r := rIx K) ix_seq (pv 2) pe_int (fun _ _ => rfl)) pa_nil)))
        (pss_one (ps_ret pe_str)))
        pss_nil)
      (pss_cons (ps_if (pt_cmpR op_eq (pv 1) pe_str (nomark _))
        (pss_cons (ps_expr (pe_meth (pv 0) T.cl_Ring T.m_Ring_make G_Ring_make (hr.mono (by omega)) T.b_Ring_make .nil (passes_call (takes_of rfl rfl rfl rfl) (fun _ _ _ _ h => h)) (pa_cons (pe_ix (r := rIx K) ix_seq (pv 2) pe_int (fun _ _ => rfl)) pa_nil)))
        (pss_one (ps_ret pe_str)))
        pss_nil)
      (pss_cons (ps_if (pt_cmpR op_eq (pv 1) pe_str (nomark _))
        (pss_cons (ps_expr (pe_meth (pv 0) T.cl_Ring T.m_Ring_switch_off G_Ring_switch_off (hr.mono (by omega)) T.b_Ring_switch_off .nil (passes_call (takes_of rfl rfl rfl rfl) (fun _ _ _ _ h => h)) (pa_cons (pe_ix (r := rIx K) ix_seq (pv 2) pe_int (fun _ _ => rfl)) pa_nil)))
        (pss_one (ps_ret pe_str)))
        pss_nil)
      (pss_cons (ps_if (pt_cmpR op_eq (pv 1) pe_str (nomark _))
        (pss_cons (ps_expr (pe_meth (pv 0) T.cl_Ring T.m_Ring_switch_on G_Ring_switch_on (hr.mono (by omega)) T.b_Ring_switch_on .nil (passes_call (takes_of rfl rfl rfl rfl) (fun _ _ _ _ h => h)) (pa_cons (pe_ix (r := rIx K) ix_seq (pv 2) pe_int (fun _ _ => rfl)) pa_nil)))
        (pss_one (ps_ret pe_str)))
        pss_nil)
      (pss_cons (ps_if (pt_cmpR op_eq (pv 1) pe_str (nomark _))
        (pss_one (ps_ret (pe_call G_tokens_answer (hr.mono (by omega)) rfl T.g_tokens_answer T.F_tokens_answer.kp T.b_tokens_answer .nil pass0 (pa_cons (pv 0) pa_nil))))
        pss_nil)
      (pss_one (ps_ret (pe_glob (v := .str "not understood") (by rfl) T.c_NOT_UNDERSTOOD.choose_spec.1 T.c_NOT_UNDERSTOOD.choose_spec.2)))))))))), ?_⟩
    have hc := T.cl_Ring
    have hP := hA.hP
    have hf := hb.few hk (by omega)
    cases cmd with
    | put s r m =>
      have hq' : H q = some (.lst [.int (s : Int), .int (r : Int), .int (m : Int)]) := hq
      show _
      rw [show cmdW (.put s r m) = "put" from rfl]
      k_allIn
      refine ⟨A, rl, R, _, _, _, rfl, hA, hf, .int _, .int _, .int _, fun i' r' m' ei hi er em h1 h2 A5 rl5 H5 h5 eP m5 => ?_, fun z => ?_, fun z1 z2 => ?_⟩
      · have ei' : i' = s := by injection ei with z; omega
        have er' : r' = (r : Int) := by injection er with z; omega
        have em' : m' = (m : Int) := by injection em with z; omega
        subst ei' er' em'
        k_allIn
        exact kk "put" _ (by simp only [doC]; rw [if_pos hi, if_pos ⟨by omega, by omega⟩]) A5 rl5 H5 h5 eP m5
      · by_cases hs : s < R.many
        · exact numB_not hs z
        · exact ke .station (by simp only [doC]; rw [if_neg hs])
      · obtain ⟨i', ei, hi⟩ := numB_nat z1
        have ei' : i' = s := by injection ei with z; omega
        subst ei'
        by_cases hrm : r ≤ 7 ∧ m ≤ 1000000000
        · rw [show (isNumB (.int (r : Int)) 0 7 && isNumB (.int (m : Int)) 0 1000000000) = true by rw [Bool.and_eq_true]; exact ⟨decide_eq_true (by omega), decide_eq_true (by omega)⟩] at z2
          cases z2
        · exact ke .message (by simp only [doC]; rw [if_pos hi, if_neg hrm])
    | steps n =>
      have hq' : H q = some (.lst [.int (n : Int)]) := hq
      rw [show cmdW (.steps n) = "steps" from rfl]
      k_allIn
      refine ⟨A, rl, R, n, k, rfl, hA, hb, hk, hcc, fun hn => ?_, fun hn => ?_⟩
      · exact kk _ _ (by simp only [doC]; rw [if_pos hn])
      · exact kk _ _ (by simp only [doC]; rw [if_neg (by omega)]) A rl H hA rfl (.refl _ _ _ _)
    | lose n =>
      have hq' : H q = some (.lst [.int (n : Int)]) := hq
      rw [show cmdW (.lose n) = "lose" from rfl]
      k_allIn
      refine ⟨A, rl, R, _, rfl, hA, hf, .int _, fun i' ei hi A5 rl5 H5 h5 eP m5 => ?_, fun z => ?_⟩
      · have ei' : i' = n := by injection ei with z; omega
        subst ei'
        k_allIn
        exact kk "lost" _ (by simp only [doC]; rw [if_pos hi]) A5 rl5 H5 h5 eP m5
      · by_cases hs : n < R.tk.length
        · exact numB_not hs z
        · exact ke .token (by simp only [doC]; rw [if_neg hs])
    | make n =>
      have hq' : H q = some (.lst [.int (n : Int)]) := hq
      rw [show cmdW (.make n) = "make" from rfl]
      k_allIn
      refine ⟨A, rl, R, _, rfl, hA, hb.wf, hf, .int _, fun i' ei hi ho A5 rl5 H5 h5 eP m5 => ?_, fun z => ?_, fun i' ei hi ho => ?_⟩
      · have ei' : i' = n := by injection ei with z; omega
        subst ei'
        k_allIn
        exact kk "made" _ (by simp only [doC]; rw [if_pos hi, if_pos ho]) A5 rl5 H5 h5 eP m5
      · by_cases hs : n < R.many
        · exact numB_not hs z
        · exact ke .station (by simp only [doC]; rw [if_neg hs])
      · have ei' : i' = n := by injection ei with z; omega
        subst ei'
        exact ke .off (by simp only [doC]; rw [if_pos hi, if_neg (by rw [ho]; decide)])
    | off n =>
      have hq' : H q = some (.lst [.int (n : Int)]) := hq
      rw [show cmdW (.off n) = "off" from rfl]
      k_allIn
      refine ⟨A, rl, R, _, rfl, hA, hf, hcc, .int _, fun i' ei hi ho A5 rl5 H5 h5 eP m5 => ?_, fun z => ?_, fun i' ei hi ho => ?_⟩
      · have ei' : i' = n := by injection ei with z; omega
        subst ei'
        k_allIn
        exact kk "off" _ (by simp only [doC]; rw [if_pos hi, if_pos ho]) A5 rl5 H5 h5 eP m5
      · by_cases hs : n < R.many
        · exact numB_not hs z
        · exact ke .station (by simp only [doC]; rw [if_neg hs])
      · have ei' : i' = n := by injection ei with z; omega
        subst ei'
        exact ke .off (by simp only [doC]; rw [if_pos hi, if_neg (by rw [ho]; decide)])
    | on n =>
      have hq' : H q = some (.lst [.int (n : Int)]) := hq
      rw [show cmdW (.on n) = "on" from rfl]
      k_allIn
      refine ⟨A, rl, R, _, rfl, hA, .int _, fun i' ei hi ho A5 rl5 H5 h5 eP m5 => ?_, fun z => ?_, fun i' ei hi ho => ?_⟩
      · have ei' : i' = n := by injection ei with z; omega
        subst ei'
        k_allIn
        exact kk "on" _ (by simp only [doC]; rw [if_pos hi, if_neg (by rw [ho]; decide)]) A5 rl5 H5 h5 eP m5
      · by_cases hs : n < R.many
        · exact numB_not hs z
        · exact ke .station (by simp only [doC]; rw [if_neg hs])
      · have ei' : i' = n := by injection ei with z; omega
        subst ei'
        exact ke .on (by simp only [doC]; rw [if_pos hi, if_pos ho])
    | toks =>
      rw [show cmdW .toks = "tokens" from rfl]
      k_allIn
      refine ⟨A, rl, R, k, rfl, hA, hb, hk, fun H' s' => ?_⟩
      exact kk _ _ rfl A rl H' (hA.mono s') rfl (.of s')
    | ring n =>
      rw [show cmdW (.ring n) = "ring" from rfl]
      k_allIn
      exact kk _ _ rfl A rl H hA rfl (.refl _ _ _ _)
end
/-! ### or of values -/
section
variable {X : Cx} {K : PySem.W.Frag} {a b : Expr} {rest : List Expr} {pos : Pos} {ta tb : TE}
theorem k_orT (ha : PE X a ta) (hb : PE X (.BoolOp .Or (b :: rest) pos) tb) (hK : X.K = K := by rfl) : PE X (.BoolOp .Or (a :: b :: rest) pos) (tOrT K ta tb) := by subst hK; exact pe_orT ha hb
end
def orTK (K : PySem.W.Frag) (tb : TE) (σ : L2.St) (x : V) (H : Hp) (Q : VK) : Prop := ∃ k, TruV K x H k ∧ if k = true then Q x H else tb σ H Q
theorem w_orT {K : PySem.W.Frag} {ta tb : TE} {σ : L2.St} {H : Hp} {Q : VK} (k : ta σ H fun x H1 => orTK K tb σ x H1 Q) : tOrT K ta tb σ H Q := k
theorem w_orTL {K : PySem.W.Frag} {tb : TE} {σ : L2.St} {H : Hp} {Q : VK} {p : Addr} {xs : List V} (h : SqL K H p xs) (k : if (!xs.isEmpty) = true then Q (.ref p) H else tb σ H Q) : orTK K tb σ (.ref p) H Q := ⟨_, .inl ⟨xs, h, rfl⟩, k⟩
theorem w_inK {K : PySem.W.Frag} {H : Hp} {Q : VK} {x : V} {p : Addr} {xs : List V} (h : SqL K H p xs) (f : flatV x = true) (fs : xs.all flatV = true) (k : Q (.bl (inV x xs)) H) : rIn K false x (.ref p) H Q := ⟨p, xs, rfl, .inl h, f, fs, k⟩
theorem w_notSign {H : Hp} {Q : VK} {c : Nat} {z : Str} (k : Q (.bl (!decide (c ∈ z.cps.toList))) H) : rNotSign (.str ⟨#[c]⟩) (.str z) H Q := ⟨c, z, rfl, rfl, k⟩
/-! ### k10: the desk -/
def Cls10.eq : Cls10 → Cls10 → Bool
  | .ring, .ring => true
  | .ring, .station => false
  | .ring, .message => false
  | .ring, .off => false
  | .ring, .on => false
  | .ring, .token => false
  | .station, .ring => false
  | .station, .station => true
  | .station, .message => false
  | .station, .off => false
  | .station, .on => false
  | .station, .token => false
  | .message, .ring => false
  | .message, .station => false
  | .message, .message => true
  | .message, .off => false
  | .message, .on => false
  | .message, .token => false
  | .off, .ring => false
  | .off, .station => false
  | .off, .message => false
  | .off, .off => true
  | .off, .on => false
  | .off, .token => false
  | .on, .ring => false
  | .on, .station => false
  | .on, .message => false
  | .on, .off => false
  | .on, .on => true
  | .on, .token => false
  | .token, .ring => false
  | .token, .station => false
  | .token, .message => false
  | .token, .off => false
  | .token, .on => false
  | .token, .token => true
theorem exm10 {K : PySem.W.Frag} {mg : Str → Option Value} {Z : Ad} (T : Txt K mg Z) : ∀ e f : Cls10, PySem.W.exmOne K (.ref (e.a Z)) (.ref (f.a Z)) = some (e.eq f)
  | .ring, .ring => exm_own T.b_NoRing T.i_NoRing T.t_NoRing T.s_NoRing_NoRing
  | .ring, .station => exm_own T.b_NoStation T.i_NoStation T.t_NoStation T.s_NoRing_NoStation
  | .ring, .message => exm_own T.b_NoMessage T.i_NoMessage T.t_NoMessage T.s_NoRing_NoMessage
  | .ring, .off => exm_own T.b_IsOff T.i_IsOff T.t_IsOff T.s_NoRing_IsOff
  | .ring, .on => exm_own T.b_IsOn T.i_IsOn T.t_IsOn T.s_NoRing_IsOn
  | .ring, .token => exm_own T.b_NoToken T.i_NoToken T.t_NoToken T.s_NoRing_NoToken
  | .station, .ring => exm_own T.b_NoRing T.i_NoRing T.t_NoRing T.s_NoStation_NoRing
  | .station, .station => exm_own T.b_NoStation T.i_NoStation T.t_NoStation T.s_NoStation_NoStation
  | .station, .message => exm_own T.b_NoMessage T.i_NoMessage T.t_NoMessage T.s_NoStation_NoMessage
  | .station, .off => exm_own T.b_IsOff T.i_IsOff T.t_IsOff T.s_NoStation_IsOff
  | .station, .on => exm_own T.b_IsOn T.i_IsOn T.t_IsOn T.s_NoStation_IsOn
  | .station, .token => exm_own T.b_NoToken T.i_NoToken T.t_NoToken T.s_NoStation_NoToken
  | .message, .ring => exm_own T.b_NoRing T.i_NoRing T.t_NoRing T.s_NoMessage_NoRing
  | .message, .station => exm_own T.b_NoStation T.i_NoStation T.t_NoStation T.s_NoMessage_NoStation
  | .message, .message => exm_own T.b_NoMessage T.i_NoMessage T.t_NoMessage T.s_NoMessage_NoMessage
  | .message, .off => exm_own T.b_IsOff T.i_IsOff T.t_IsOff T.s_NoMessage_IsOff
  | .message, .on => exm_own T.b_IsOn T.i_IsOn T.t_IsOn T.s_NoMessage_IsOn
  | .message, .token => exm_own T.b_NoToken T.i_NoToken T.t_NoToken T.s_NoMessage_NoToken
  | .off, .ring => exm_own T.b_NoRing T.i_NoRing T.t_NoRing T.s_IsOff_NoRing
  | .off, .station => exm_own T.b_NoStation T.i_NoStation T.t_NoStation T.s_IsOff_NoStation
  | .off, .message => exm_own T.b_NoMessage T.i_NoMessage T.t_NoMessage T.s_IsOff_NoMessage
  | .off, .off => exm_own T.b_IsOff T.i_IsOff T.t_IsOff T.s_IsOff_IsOff
  | .off, .on => exm_own T.b_IsOn T.i_IsOn T.t_IsOn T.s_IsOff_IsOn
  | .off, .token => exm_own T.b_NoToken T.i_NoToken T.t_NoToken T.s_IsOff_NoToken
  | .on, .ring => exm_own T.b_NoRing T.i_NoRing T.t_NoRing T.s_IsOn_NoRing
  | .on, .station => exm_own T.b_NoStation T.i_NoStation T.t_NoStation T.s_IsOn_NoStation
  | .on, .message => exm_own T.b_NoMessage T.i_NoMessage T.t_NoMessage T.s_IsOn_NoMessage
  | .on, .off => exm_own T.b_IsOff T.i_IsOff T.t_IsOff T.s_IsOn_IsOff
  | .on, .on => exm_own T.b_IsOn T.i_IsOn T.t_IsOn T.s_IsOn_IsOn
  | .on, .token => exm_own T.b_NoToken T.i_NoToken T.t_NoToken T.s_IsOn_NoToken
  | .token, .ring => exm_own T.b_NoRing T.i_NoRing T.t_NoRing T.s_NoToken_NoRing
  | .token, .station => exm_own T.b_NoStation T.i_NoStation T.t_NoStation T.s_NoToken_NoStation
  | .token, .message => exm_own T.b_NoMessage T.i_NoMessage T.t_NoMessage T.s_NoToken_NoMessage
  | .token, .off => exm_own T.b_IsOff T.i_IsOff T.t_IsOff T.s_NoToken_IsOff
  | .token, .on => exm_own T.b_IsOn T.i_IsOn T.t_IsOn T.s_NoToken_IsOn
  | .token, .token => exm_own T.b_NoToken T.i_NoToken T.t_NoToken T.s_NoToken_NoToken
section
variable {K : PySem.W.Frag} {Wout : WX} {D : Ends} {r : List (Value × (Addr → Value → Option Addr → TS))} {ts : Addr → Value → Option Addr → TS} {cls c : Value} {d : Option Addr} {σ : L2.St} {H : Hp}
theorem w_miss (h : PySem.W.exmOne K cls c = some false) (k : wMany K Wout D r cls d σ H) : wMany K Wout D ((c, ts) :: r) cls d σ H := ⟨false, h, fun z => (nomatch z), fun _ => k⟩
theorem w_hit (h : PySem.W.exmOne K cls c = some true) (k : ∀ a, H a = none → ts a cls d D σ H) : wMany K Wout D ((c, ts) :: r) cls d σ H := ⟨true, h, fun _ => k, fun z => (nomatch z)⟩
end
/-- the six clauses of a desk: each answers with its class's name -/
theorem six {K : PySem.W.Frag} {mg : Str → Option Value} {Z : Ad} (T : Txt K mg Z) {Wout : WX} {D : Ends} {t1 t2 t3 t4 t5 t6 : Addr → Value → Option Addr → TS} {σ : L2.St} {H : Hp} (e : Cls10)
    (h1 : e = .ring → ∀ a cls d, t1 a cls d D σ H) (h2 : e = .station → ∀ a cls d, t2 a cls d D σ H) (h3 : e = .message → ∀ a cls d, t3 a cls d D σ H) (h4 : e = .off → ∀ a cls d, t4 a cls d D σ H) (h5 : e = .on → ∀ a cls d, t5 a cls d D σ H) (h6 : e = .token → ∀ a cls d, t6 a cls d D σ H) :
    wMany K Wout D [(.ref Z.NoRing, t1), (.ref Z.NoStation, t2), (.ref Z.NoMessage, t3), (.ref Z.IsOff, t4), (.ref Z.IsOn, t5), (.ref Z.NoToken, t6)] (.ref (e.a Z)) none σ H := by
  have x := exm10 T e
  cases e with
  | ring => exact w_hit (x .ring) fun a _ => h1 rfl a _ _
  | station => exact w_miss (x .ring) (w_hit (x .station) fun a _ => h2 rfl a _ _)
  | message => exact w_miss (x .ring) (w_miss (x .station) (w_hit (x .message) fun a _ => h3 rfl a _ _))
  | off => exact w_miss (x .ring) (w_miss (x .station) (w_miss (x .message) (w_hit (x .off) fun a _ => h4 rfl a _ _)))
  | on => exact w_miss (x .ring) (w_miss (x .station) (w_miss (x .message) (w_miss (x .off) (w_hit (x .on) fun a _ => h5 rfl a _ _))))
  | token => exact w_miss (x .ring) (w_miss (x .station) (w_miss (x .message) (w_miss (x .off) (w_miss (x .on) (w_hit (x .token) fun a _ => h6 rfl a _ _)))))
/-! what holds a ring, or none -/
def Hold (Z : Ad) (rl : Addr → Nat) (H : Hp) (p : Addr) (f : Option Addr → HO) : Option RG.Ring → Prop
  | none => H p = some (f none) ∧ rl p = 9000 ∧ Rl rl H
  | some R => ∃ A : RgA, RgAt Z 1000 rl H A R ∧ H p = some (f (some A.P)) ∧ rl p = 9000
def fD (C dx : Addr) : Option Addr → HO := fun a => .ins C dx [("_ring", a.elim V.non V.ref)]
def fL : Option Addr → HO := fun a => .lst (a.elim [] fun x => [V.ref x])
theorem Hold.same {Z : Ad} {rl : Addr → Nat} {H H' : Hp} {p : Addr} {f : Option Addr → HO} {o : Option RG.Ring} (h : Hold Z rl H p f o) (s : Same H H') : Hold Z rl H' p f o := by
  cases o with
  | none => exact ⟨s _ _ h.1, h.2.1, fun x z => h.2.2 x (z.same s)⟩
  | some R =>
    obtain ⟨A, h1, h2, h3⟩ := h
    exact ⟨A, h1.mono s, s _ _ h2, h3⟩
theorem Hold.dfl {Z : Ad} {rl : Addr → Nat} {H : Hp} {p : Addr} {f : Option Addr → HO} {o : Option RG.Ring} (h : Hold Z rl H p f o) : Rl rl H := by
  cases o with
  | none => exact h.2.2
  | some R =>
    obtain ⟨A, h1, _⟩ := h
    exact h1.dfl
theorem Hold.at_ {Z : Ad} {rl : Addr → Nat} {H : Hp} {p : Addr} {f : Option Addr → HO} {o : Option RG.Ring} (h : Hold Z rl H p f o) : ∃ x, H p = some (f x) ∧ rl p = 9000 := by
  cases o with
  | none => exact ⟨_, h.1, h.2.1⟩
  | some R =>
    obtain ⟨A, _, h2, h3⟩ := h
    exact ⟨_, h2, h3⟩
/-! the parts of a split -/
theorem spl_ne (S : List Nat) : ∀ (l : List Nat) (k : Nat) (acc : List Nat), spl S k acc l ≠ []
  | [], k, acc => by rw [spl_nil]; simp
  | c :: r, 0, acc => by
    cases h : pre S (c :: r) with
    | true => rw [spl_hit h]; simp
    | false => rw [spl_miss h]; exact spl_ne S r 0 _
  | c :: r, k + 1, acc => spl_ne S r k acc
theorem split_ne (x : Str) : Txt.split x " " ≠ [] := fun z => by
  have e0 : tl (" " : Str) = [32] := by decide +kernel
  have h := split_spl x " " (by rw [e0]; simp) (kind_ok (by decide +kernel))
  rw [z] at h
  exact spl_ne _ _ _ _ h.symm
theorem joinL_le {S : List Nat} : ∀ {ps : List (List Nat)} {p : List Nat}, p ∈ ps → p.length ≤ (joinL S ps).length
  | [], _, m => by cases m
  | [q], p, m => by cases List.mem_singleton.mp m; exact Nat.le_refl _
  | q :: r :: l, p, m => by
    show p.length ≤ (q ++ (S ++ joinL S (r :: l))).length
    rw [List.length_append, List.length_append]
    rcases List.mem_cons.mp m with rfl | m
    · omega
    · have := joinL_le (S := S) m
      omega
theorem joinL_cnt {S : List Nat} (hS : 1 ≤ S.length) : ∀ ps : List (List Nat), ps.length ≤ (joinL S ps).length + 1
  | [] => Nat.zero_le _
  | [q] => by show 1 ≤ _; omega
  | q :: r :: l => by
    have ih := joinL_cnt hS (r :: l)
    show _ ≤ (q ++ (S ++ joinL S (r :: l))).length + 1
    rw [List.length_append, List.length_append]
    rw [List.length_cons]
    omega
theorem split_len (x : Str) : (Txt.split x " ").length ≤ x.length + 1 ∧ ∀ y, y ∈ Txt.split x " " → y.length ≤ x.length := by
  have e0 : tl (" " : Str) = [32] := by decide +kernel
  have h := PySem.StrLaws.join_split x " "
  have h' : joinL (tl " ") ((Txt.split x " ").map tl) = tl x := by rw [← tl_join, h]
  refine ⟨?_, fun y m => ?_⟩
  · have := joinL_cnt (S := tl " ") (by rw [e0]; decide) ((Txt.split x " ").map tl)
    rw [h', List.length_map] at this
    rw [len_tl]
    exact this
  · have := joinL_le (S := tl " ") (List.mem_map.mpr ⟨y, m, rfl⟩ : tl y ∈ (Txt.split x " ").map tl)
    rw [h'] at this
    rw [len_tl, len_tl]
    exact this
/-! ### k10: the desk's defs -/
def spDInit (Z : Ad) : Sp := fun vs H Q _ => ∃ (p dx : Addr), vs = [.ref p] ∧ H p = some (.ins Z.Desk dx []) ∧ Q .non (upd H p (fD Z.Desk dx none))
def spDone (Z : Ad) : Sp := fun vs H Q E => ∃ (p dx : Addr) (rl : Addr → Nat) (o : Option RG.Ring) (k : Nat) (cmd : Cmd) (q : Addr), vs = [.ref p, .str (cmdW cmd), .ref q] ∧ Hold Z rl H p (fD Z.Desk dx) o ∧ H q = some (.lst ((cmdN cmd).map fun n : Nat => V.int (n : Int))) ∧ OB k o ∧ k ≤ 40 ∧
  (∀ x o' rl' H', doO o cmd = .ok (x, o') → Hold Z rl' H' p (fD Z.Desk dx) o' → Mw 1000 9500 rl H rl' H' → Q (.str x) H') ∧ (∀ e H', doO o cmd = .error e → Same H H' → E (.ref (e.a Z)) none H')
def spDAns (Z : Ad) : Sp := fun vs H Q _ => ∃ (p dx : Addr) (rl : Addr → Nat) (o : Option RG.Ring) (k : Nat) (line : Str), vs = [.ref p, .str line] ∧ Hold Z rl H p (fD Z.Desk dx) o ∧ OB k o ∧ k ≤ 40 ∧ line.length ≤ 50000 ∧
  ∀ rl' H', Hold Z rl' H' p (fD Z.Desk dx) (ans o line).2 → Mw 1000 9500 rl H rl' H' → Q (.str (ans o line).1) H'
section
variable {P : Program} {w : World} {K : PySem.W.Frag} {mg : Str → Option Value} {base : Heap} {Z : Ad}
theorem ok_Desk_init (T : Txt K mg Z) : FnOk P w K mg base CX0 1 Z.Desk_init Z.Desk_init_d ["self"] (spDInit Z) := by
  refine T.F_Desk_init.ok sc_Desk_init (fun vs H Q E h => ?_) (fun cdv A outer s H vs Q E hr h => ?_)
  · obtain ⟨p, dx, rfl, _⟩ := h
    rfl
  · obtain ⟨p, dx, rfl, hp, k⟩ := h
    refine ⟨_, (pss_one (k_sfld (K := K) (pv 0) pe_non rfl)), ?_⟩
    have hc := T.cl_Desk
    have n1 := T.a_Desk_ring
    k_allIn
    exact k
theorem ok_Desk__done (T : Txt K mg Z) : FnOk P w K mg base (L2.CX P w) 8 Z.Desk__done Z.Desk__done_d ["self", "word", "numbers"] (spDone Z) := by
  have G_ring_answer := ok_ring_answer (P := P) (w := w) (base := base) T 1000
  have G_Ring_init := ok_Ring_init (P := P) (w := w) (base := base) T 1000
  refine T.F_Desk__done.okX sc_Desk__done (fun vs H Q E h => ?_) (fun cdv X outer s H vs Q E hr h => ?_)
  · obtain ⟨p, dx, rl, o, k, cmd, q, rfl, _⟩ := h
    rfl
  · obtain ⟨p, dx, rl, o, k, cmd, q, rfl, hh, hq, hb, hk, kk, ke⟩ := h
    refine ⟨_, (pss_cons (ps_if (pt_cmpR op_notNo (k_fld (K := K) (pv 0) rfl) pe_non (nomark _))
        (pss_one (ps_ret (pe_call G_ring_answer (hr.mono (by omega)) rfl T.g_ring_answer T.F_ring_answer.kp T.b_ring_answer .nil (passes_call (takes_of rfl rfl rfl rfl) (fun _ _ _ _ h => h)) (pa_cons (k_fld (K := K) (pv 0) rfl) (pa_cons (pv 1) (pa_cons (pv 2) pa_nil))))))
        pss_nil)
      (pss_cons (ps_if (pt_cmpR op_ne (pv 1) pe_str (nomark _))
        (pss_one (ps_ret (pe_glob (v := .str "not understood") (by rfl) T.c_NOT_UNDERSTOOD.choose_spec.1 T.c_NOT_UNDERSTOOD.choose_spec.2)))
        pss_nil)
      (pss_cons (k_sfld (K := K) (pv 0) (pe_make T.M_Ring G_Ring_init (hr.mono (by omega)) rfl T.g_Ring T.b_Ring_init .nil (passes_call (takes_of rfl rfl rfl rfl) (fun _ _ _ _ h => h)) (pa_cons (pe_ix (r := rIx K) ix_seq (pv 2) pe_int (fun _ _ => rfl)) pa_nil)) rfl)
      (pss_one (ps_ret pe_str))))), ?_⟩
    have hc := T.cl_Desk
    have n1 := T.a_Desk_ring
    cases o with
    | some R =>
      obtain ⟨A, h1, h2, h3⟩ := hh
      have hD : H p = some (.ins Z.Desk dx [("_ring", .ref A.P)]) := h2
      k_allIn
      refine ⟨A, rl, R, k, cmd, q, rfl, h1, hq, hb, hk, by decide, fun x S e A' rl' H' h' eP m => ?_, fun e he => ?_⟩
      · exact kk x (some S) rl' H' (by simp only [doO]; rw [e]) ⟨A', h', by rw [eP]; exact m.out h2 (.inr (by rw [h3]; decide)), (m.ag p (yesO hD fun _ z => (nomatch z))).trans h3⟩ (m.wide (by decide) (by decide))
      · exact ke e H (by simp only [doO]; rw [he]) (Same.refl _)
    | none =>
      obtain ⟨h2, h3, h4⟩ := hh
      have hD : H p = some (.ins Z.Desk dx [("_ring", .non)]) := h2
      cases cmd with
      | ring n =>
        have hq' : H q = some (.lst [.int (n : Int)]) := hq
        rw [show cmdW (.ring n) = "ring" from rfl]
        k_allIn
        refine fun pp dp np ndp _ => ⟨pp, dp, _, H, rl, rfl, upd_same, .int _, h4, same_born np ndp, np, by decide, fun m e g1 g2 A0 rl0 H0 hA0 eP0 m0 => ⟨rfl, ?_⟩, fun z => ?_⟩
        · have e' : m = n := by injection e with z; omega
          subst e'
          subst eP0
          have hD0 := m0.out hD (.inr (by rw [h3]; decide))
          have rD0 : rl0 p = 9000 := (m0.ag p (yesO hD fun _ z => (nomatch z))).trans h3
          k_allIn
          refine kk "ring" (some (RG.ring0 m)) rl0 _ (by simp only [doO]; rw [if_pos ⟨g1, g2⟩]) ⟨A0, hA0.far hD0 (fun _ z => (nomatch z)) (by rw [rD0]; decide) fun _ z => (nomatch z), upd_same, rD0⟩ ((m0.wide (by decide) (by decide)).trans (.upd hD0 fix_ins (by rw [rD0]; decide) (by rw [rD0]; decide) fun _ z => (nomatch z)))
        · refine ke .ring _ ?_ (same_born np ndp)
          simp only [doO]
          rw [if_neg]
          intro hn
          exact numI_not ⟨by omega, by omega⟩ z
      | toks =>
        rw [show cmdW .toks = "tokens" from rfl]
        k_allIn
        exact kk _ none rl H rfl ⟨h2, h3, h4⟩ (.refl _ _ _ _)
      | put s r m =>
        rw [show cmdW (.put s r m) = "put" from rfl]
        k_allIn
        exact kk _ none rl H rfl ⟨h2, h3, h4⟩ (.refl _ _ _ _)
      | steps n =>
        rw [show cmdW (.steps n) = "steps" from rfl]
        k_allIn
        exact kk _ none rl H rfl ⟨h2, h3, h4⟩ (.refl _ _ _ _)
      | lose n =>
        rw [show cmdW (.lose n) = "lose" from rfl]
        k_allIn
        exact kk _ none rl H rfl ⟨h2, h3, h4⟩ (.refl _ _ _ _)
      | make n =>
        rw [show cmdW (.make n) = "make" from rfl]
        k_allIn
        exact kk _ none rl H rfl ⟨h2, h3, h4⟩ (.refl _ _ _ _)
      | off n =>
        rw [show cmdW (.off n) = "off" from rfl]
        k_allIn
        exact kk _ none rl H rfl ⟨h2, h3, h4⟩ (.refl _ _ _ _)
      | on n =>
        rw [show cmdW (.on n) = "on" from rfl]
        k_allIn
        exact kk _ none rl H rfl ⟨h2, h3, h4⟩ (.refl _ _ _ _)
theorem ok_Desk_answer (T : Txt K mg Z) (N : NumT w K Z) : FnOk P w K mg base CX0 9 Z.Desk_answer Z.Desk_answer_d ["self", "row"] (spDAns Z) := by
  have G_is_understood := ok_is_understood (P := P) (w := w) (base := base) T N
  have G_Desk__done := ok_Desk__done (P := P) (w := w) (base := base) T
  refine T.F_Desk_answer.ok sc_Desk_answer (fun vs H Q E h => ?_) (fun cdv X outer s H vs Q E hr h => ?_)
  · obtain ⟨p, dx, rl, o, k, line, rfl, _⟩ := h
    rfl
  · obtain ⟨p, dx, rl, o, k, line, rfl, hh, hb, hk, hl, kk⟩ := h
    refine ⟨_, (pss_cons (ps_set (i := 2) sc_Desk_answer.nd rfl (Or.inl rfl) (k_bm (K := K) PySem.F.plainAttrs_str PySem.F.slot_str_split PySem.F.type_str_split (r := rSplit) mt_split (pv 1) (pa_cons pe_str pa_nil)))
      (pss_cons (ps_if (pt_not (k_tr (K := K) (pe_call G_is_understood (hr.mono (by omega)) rfl T.g_is_understood T.F_is_understood.kp T.b_is_understood .nil pass0 (pa_cons (pv 2) pa_nil)) (fun _ => rfl)))
        (pss_one (ps_ret (pe_glob (v := .str "not understood") (by rfl) T.c_NOT_UNDERSTOOD.choose_spec.1 T.c_NOT_UNDERSTOOD.choose_spec.2)))
        pss_nil)
      (pss_cons (ps_setLc (i := 3) (own := [("word", 4)]) (g := gName 4) rfl sc_Desk_answer.nd rfl rfl (sw_true rfl rfl rfl (by decide +kernel)) (k_list (K := K) (pe_slice (r := rSlL K) sl_list (pv 2) (po_some pe_int) po_none)) (blkOk_by (own := [("word", 4)]) (N := ["self", "row", "words", "numbers", "word"]) (sc := defScope s_Desk_answer) (by decide +kernel)) (fun _ _ _ _ _ => pg_name (i := 4) sc_Desk_answer.nd rfl (Or.inl rfl)) (fun _ _ _ _ _ => pts_nil) (fun _ _ _ _ _ => (pe_callTy (r := rIntT) call_int_str (by rfl) T.n_int (by decide +kernel) (pa_cons (pv 4) pa_nil))))
      (pss_one (ps_try_many rfl rfl takes0
        (fun W pn xe tk _ => (pss_one (ps_ret (k_methS (K := K) (pv 0) T.cl_Desk T.m_Desk__done G_Desk__done (hr.mono (by omega)) T.b_Desk__done (fun σ => passAt tk σ) (pa_cons (pe_ix (r := rIx K) ix_seq (pv 2) pe_int (fun _ _ => rfl)) (pa_cons (pv 3) pa_nil))))))
        (.cons ⟨rfl, by decide, .inl T.g_NoRing⟩ (fun a oe cls d pn hz hf => (pss_one (ps_ret pe_str)))
        (.cons ⟨rfl, by decide, .inl T.g_NoStation⟩ (fun a oe cls d pn hz hf => (pss_one (ps_ret pe_str)))
        (.cons ⟨rfl, by decide, .inl T.g_NoMessage⟩ (fun a oe cls d pn hz hf => (pss_one (ps_ret pe_str)))
        (.cons ⟨rfl, by decide, .inl T.g_IsOff⟩ (fun a oe cls d pn hz hf => (pss_one (ps_ret pe_str)))
        (.cons ⟨rfl, by decide, .inl T.g_IsOn⟩ (fun a oe cls d pn hz hf => (pss_one (ps_ret pe_str)))
        (.cons ⟨rfl, by decide, .inl T.g_NoToken⟩ (fun a oe cls d pn hz hf => (pss_one (ps_ret pe_str)))
        .nil))))))))))), ?_⟩
    have hc := T.cl_Desk
    obtain ⟨sl1, sl2⟩ := split_len line
    have sne := split_ne line
    have ea : ans o line = ansW o (Txt.split line " ") := rfl
    k_allIn
    refine w_split (by decide +kernel) (Nat.le_of_lt (small (by omega))) fun q H1 nq s1 e1 => ?_
    generalize Txt.split line " " = ws at *
    have hh1 := hh.same s1
    obtain ⟨dq0, hD, rD⟩ := hh1.at_
    k_allIn
    refine ⟨q, ws, rfl, e1, sne, by omega, fun x mx => by have := sl2 x mx; omega, fun H2 s2 => ?_⟩
    rw [und_parse]
    have e2 := s2 _ _ e1
    cases hp : parse ws with
    | none =>
      rw [show (none : Option Cmd).isSome = false from rfl]
      k_allIn
      have : ans o line = (nu, o) := by rw [ea]; unfold ansW; rw [hp]
      rw [this] at kk
      exact kk rl H2 (hh1.same s2) (.of (s1.trans s2))
    | some cmd =>
      obtain ⟨as, rfl, hall, hval⟩ := parse_some hp
      rw [show (some cmd : Option Cmd).isSome = true from rfl]
      k_allIn
      refine ⟨q, _, rfl, SqL.of e2, fun q3 nq3 => ?_⟩
      rw [show (1 : Int) = ((1 : Nat) : Int) from rfl, cut_from]
      have s3 := same_new (o := HO.lst (((cmdW cmd :: as).map V.str).drop 1)) nq3
      have e3 := upd_same (H := H2) (a := q3) (o := HO.lst (((cmdW cmd :: as).map V.str).drop 1))
      generalize upd H2 q3 (HO.lst (((cmdW cmd :: as).map V.str).drop 1)) = H3 at *
      have e3' : H3 q3 = some (.lst (as.map V.str)) := e3
      have lcnt : as.length + 1 ≤ 50001 := by rw [List.length_cons] at sl1; omega
      k_allIn
      refine fun D nD => ?_
      refine lc_list (K := K) (a := q3) (xs := as.map V.str) (Pv := fun j H' => Same H3 H' ∧ H' D = some (.lst (((as.take j).map valW).map fun n : Nat => V.int (n : Int)))) ⟨same_new nD, upd_same⟩ (fun j H' _ ⟨s, _⟩ => SqL.of (s _ _ e3')) ?_ ?_
      · rintro j y H4 hy ⟨s4, e4⟩
        obtain ⟨x, hx, rfl⟩ := get_map hy
        have hj : j < as.length := (List.getElem?_eq_some_iff.mp hx).1
        obtain ⟨f1, f2⟩ := numW_figs (List.all_eq_true.mp hall x (List.mem_of_getElem? hx))
        k_allIn
        refine ⟨rfl, ?_⟩
        k_allIn
        refine w_intT (int_of f1 f2) (by rw [len_tl]; omega) ?_
        refine ⟨_, e4, small (by rw [List.length_map, List.length_map, List.length_take]; omega), same_mut s4 nD, ?_⟩
        rw [upd_same, List.take_add_one, hx, List.map_append, List.map_append]
        rfl
      · rintro H4 ⟨s4, e4⟩
        rw [List.length_map, List.take_length, hval] at e4
        have S4 := (s2.trans s3).trans s4
        have hh4 := hh1.same S4
        have hD4 := S4 _ _ hD
        have e2' := s4 _ _ (s3 _ _ e2)
        k_allIn
        have ea' : ∀ z, doO o cmd = z → ans o line = match z with | .ok x => x | .error e => (e.t, o) := fun z hz => by
          rw [ea]
          unfold ansW
          rw [hp]
          show (match doO o cmd with | .ok x => x | .error e => (e.t, o)) = _
          rw [hz]
        refine ⟨p, dx, rl, o, k, cmd, D, rfl, hh4, e4, hb, hk, fun x o' rl' H' e h' m => ?_, fun e H' he s' => ?_⟩
        · rw [ea' _ e] at kk
          exact kk rl' H' h' ((Mw.of (s1.trans S4)).trans m)
        · rw [ea' _ he] at kk
          have fin := kk rl H' (hh4.same s') (.of ((s1.trans S4).trans s'))
          refine six T e (fun z a cls d => ?_) (fun z a cls d => ?_) (fun z a cls d => ?_) (fun z a cls d => ?_) (fun z a cls d => ?_) (fun z a cls d => ?_)
          all_goals
            subst z
            k_allIn
            exact fin
end
/-! ### k10: a text is played -/
theorem Hold.far {Z : Ad} {rl : Addr → Nat} {H : Hp} {p L : Addr} {f : Option Addr → HO} {o : Option RG.Ring} {xs ys : List V} (h : Hold Z rl H p f o) (e0 : H L = some (.lst xs)) (hr : 2000 ≤ rl L) (ne : p ≠ L) : Hold Z rl (upd H L (.lst ys)) p f o := by
  cases o with
  | none => exact ⟨upd_at h.1 ne, h.2.1, rl_upd h.2.2 fun _ z => (nomatch z)⟩
  | some R =>
    obtain ⟨A, h1, h2, h3⟩ := h
    exact ⟨A, h1.far e0 (fun _ z => (nomatch z)) hr fun _ z => (nomatch z), upd_at h2 ne, h3⟩
def spPlayed : Sp := fun vs H Q _ => ∃ (text : Str), vs = [.str text] ∧ text.length + 2 ≤ sizeLine ∧ (Txt.split text "\n").length ≤ 40 ∧ (∀ l, l ∈ Txt.split text "\n" → l.length ≤ 50000) ∧
  ∀ (q : Addr) (H' : Hp), Same H H' → H q = none → H' q = some (.lst ((runL none (Txt.split text "\n")).1.map V.str)) → Q (.ref q) H'
section
variable {P : Program} {w : World} {K : PySem.W.Frag} {mg : Str → Option Value} {base : Heap} {Z : Ad}
theorem ok_played (T : Txt K mg Z) (N : NumT w K Z) : FnOk P w K mg base CX0 10 Z.played Z.played_d ["text"] spPlayed := by
  have G_Desk_init := ok_Desk_init (P := P) (w := w) (base := base) T
  have G_Desk_answer := ok_Desk_answer (P := P) (w := w) (base := base) T N
  refine T.F_played.ok sc_played (fun vs H Q E h => ?_) (fun cdv X outer s H vs Q E hr h => ?_)
  · obtain ⟨text, rfl, _⟩ := h
    rfl
  · obtain ⟨text, rfl, hl, h40, hls, kk⟩ := h
    refine ⟨_, (pss_cons (ps_set (i := 1) sc_played.nd rfl (Or.inl rfl) (pe_make0 T.M_Desk G_Desk_init (hr.mono (by omega)) rfl T.g_Desk T.b_Desk_init .nil pass0))
      (pss_cons (ps_set (i := 2) sc_played.nd rfl (Or.inl rfl) (pe_lst pa_nil))
      (pss_cons (ps_for PassesOwn.never rfl (k_list (K := K) (k_bm (K := K) PySem.F.plainAttrs_str PySem.F.slot_str_split PySem.F.type_str_split (r := rSplit) mt_split (pv 0) (pa_cons pe_str pa_nil))) (pg_name (i := 3) sc_played.nd rfl (Or.inl rfl))
        (pss_one (ps_expr (k_bm (K := K) PySem.F.plainAttrs_list PySem.F.slot_list_append PySem.F.type_list_append mt_append (pv 2) (pa_cons (pe_meth (pv 1) T.cl_Desk T.m_Desk_answer G_Desk_answer (hr.mono (by omega)) T.b_Desk_answer .nil pass0 (pa_cons (pv 3) pa_nil)) pa_nil)))))
      (pss_one (ps_ret (pv 2)))))), ?_⟩
    have hc := T.cl_Desk
    generalize eL : Txt.split text "\n" = lines at *
    k_allIn
    refine fun p dp np ndp nn => ⟨p, dp, rfl, upd_same, ⟨rfl, ?_⟩⟩
    have s1 : Same H (upd (upd (upd H dp (.own p)) p (.ins Z.Desk dp [])) p (fD Z.Desk dp none)) := same_mut (same_born np ndp) np
    have e1 : upd (upd (upd H dp (.own p)) p (.ins Z.Desk dp [])) p (fD Z.Desk dp none) p = some (fD Z.Desk dp none) := upd_same
    generalize upd (upd (upd H dp (.own p)) p (.ins Z.Desk dp [])) p (fD Z.Desk dp none) = H1 at *
    have d1 : Rl (rlN (fun _ => 9999) p 9000) H1 := fun x z => by
      by_cases q : x = p
      · subst q
        exact absurd z (yesO e1 fun _ z => (nomatch z))
      · exact rlN_ne _ _ q
    have hh1 : Hold Z (rlN (fun _ => 9999) p 9000) H1 p (fD Z.Desk dp) none := ⟨e1, rlN_at _ _ _, d1⟩
    k_allIn
    refine w_newS (by simp) fun L H2 nL s2 e2 => ?_
    k_allIn
    refine w_split (by decide +kernel) hl fun q H3 nq s3 e3 => ?_
    rw [eL] at e3
    k_allIn
    have pL : p ≠ L := ne_of_none e1 nL
    have pq : p ≠ q := ne_of_none (s2 _ _ e1) nq
    have qL : q ≠ L := fun z => by rw [z, e2] at nq; cases nq
    refine for_list (xs := lines.map V.str) (fun j σ H' => ∃ (rl' : Addr → Nat) (v3 : Option V), σ = [some (.str text), some (.ref p), some (.ref L), v3] ∧ Hold Z rl' H' p (fD Z.Desk dp) (runL none (lines.take j)).2 ∧ H' q = some (.lst (lines.map V.str)) ∧ H' L = some (.lst ((runL none (lines.take j)).1.map V.str)) ∧ rl' q = 9999 ∧ rl' L = 9999 ∧ Mw 1000 9500 (rlN (fun _ => 9999) p 9000) H1 rl' H')
      ⟨_, _, rfl, hh1.same (s2.trans s3), e3, s3 _ _ e2, rlN_ne _ _ pq.symm, rlN_ne _ _ pL.symm, .of (s2.trans s3)⟩ (fun j σ H' _ ⟨_, _, _, _, e, _⟩ => SqL.of e) ?_ ?_
    · rintro j y σ H4 hy ⟨rl4, v3, rfl, hh4, e4q, e4L, r4q, r4L, m4⟩
      obtain ⟨line, hline, rfl⟩ := get_map hy
      have hj : j < lines.length := (List.getElem?_eq_some_iff.mp hline).1
      obtain ⟨dx4, hD4, rD4⟩ := hh4.at_
      have ob := OB.run (ls := lines) (j := j) (by omega) (by omega)
      have hrun := runL_take hline none
      have hlen := runL_len (lines.take j) none
      generalize runL none (lines.take j) = U at *
      unfold fD at hD4
      k_allIn
      refine ⟨p, dp, rl4, U.2, j, line, rfl, hh4, ob, by omega, hls line (List.mem_of_getElem? hline), fun rl5 H5 h5 m5 => ?_⟩
      have e5L := m5.out e4L (.inr (by rw [r4L]; decide))
      have e5q := m5.out e4q (.inr (by rw [r4q]; decide))
      have r5L : rl5 L = 9999 := (m5.ag _ (yesO e4L fun _ z => (nomatch z))).trans r4L
      have r5q : rl5 q = 9999 := (m5.ag _ (yesO e4q fun _ z => (nomatch z))).trans r4q
      k_allIn
      refine w_append e5L (small (by rw [List.length_map, hlen, List.length_take]; omega)) ?_
      refine ⟨rl5, _, rfl, ?_, upd_at e5q qL, ?_, r5q, r5L, (m4.trans m5).new nL fun _ z => (nomatch z)⟩
      · rw [hrun]
        exact h5.far e5L (by rw [r5L]; decide) pL
      · rw [upd_same, hrun, List.map_append]
        rfl
    · rintro σ H4 ⟨rl4, v3, rfl, hh4, e4q, e4L, r4q, r4L, m4⟩
      rw [List.length_map, List.take_length] at e4L
      k_allIn
      refine kk L H4 (fun b o e => ?_) (none_of s1 nL) e4L
      have hbp : b ≠ p := fun z => by rw [z, np] at e; cases e
      exact m4.kp b o (s1 _ _ e) (.inr (.inr (by rw [rlN_ne _ _ hbp]; decide)))
end
/-! ### k10: the law's reading of a word; its steps, its deeds -/
def spLN : Sp := fun vs H Q _ => ∃ w : Str, vs = [.str w] ∧ w.length ≤ 100000 ∧ ∀ H', Same H H' → Q (if numW w = true then .int ((valW w : Nat) : Int) else .non) H'
def spLS (Z : Ad) (c : Nat) : Sp := fun vs H Q _ => ∃ (A : RgA) (rl : Addr → Nat) (R : RG.Ring) (n k : Nat), vs = [.ref A.P, .int (n : Int)] ∧ RgAt Z c rl H A R ∧ DB k 0 R ∧ k ≤ 40 ∧ n ≤ 1000 ∧ c + 1000 ≤ 9999 ∧
  RgQ Z c rl H A (stepN n R) (Q (.str (stepsT ((stepN n R).rw.drop R.rw.length))))
section
variable {P : Program} {w : World} {K : PySem.W.Frag} {mg : Str → Option Value} {base : Heap} {Z : Ad}
theorem ok_law_number (T : Txt K mg Z) : FnOk P w K mg base CX0 1 Z.law_number Z.law_number_d ["_law_word"] spLN := by
  refine T.F_law_number.ok sc_law_number (fun vs H Q E h => ?_) (fun cdv A outer s H vs Q E hr h => ?_)
  · obtain ⟨w, rfl, _⟩ := h
    rfl
  · obtain ⟨w, rfl, hl, k⟩ := h
    refine ⟨_, (Evl.pss_cut (ps_if (PW.pt (pw_or (pt_cmpR op_eq (pv 0) pe_str (nomark _)) (pw_or (pt_cmpR op_gt (pe_callB (r := rLenT) call_len_str (by rfl) T.n_len PySem.boot_len (pa_cons (pv 0) pa_nil)) pe_int (nomark _)) (pw_or1 (PW.pt (pw_and (pt_cmpR op_eq (pe_ix (r := rIx K) ix_seq (pv 0) pe_int (fun _ _ => rfl)) pe_str (nomark _)) (pw_and1 (pt_cmpR op_ne (pv 0) pe_str (nomark _)))))))))
        (pss_one (ps_ret pe_non))
        pss_nil)
      (pss_cons (ps_if (pt_cmpR (r := rNeE K) (op_neE (hd_of hr)) (pe_lc (own := [("_law_sign", 1)]) (g := gName 1) rfl sc_law_number.nd (pi_str (pv 0)) (blkOk_by (own := [("_law_sign", 1)]) (N := ["_law_word", "_law_sign"]) (sc := defScope s_law_number) (by decide +kernel)) (fun _ _ _ _ _ => pg_name (i := 1) sc_law_number.nd rfl (Or.inl rfl)) (fun _ _ _ _ _ => (pts_one (pt_cmpR (r := rNotSign) op_notIn_sign (pv 1) pe_str rfl))) (fun _ _ _ _ _ => (pv 1))) (pe_lst pa_nil) (nomark _))
        (pss_one (ps_ret pe_non))
        pss_nil)
      (pss_one (ps_ret (pe_callTy (r := rIntT) call_int_str (by rfl) T.n_int (by decide +kernel) (pa_cons (pv 0) pa_nil)))))), ?_⟩
    have e1 : numW w = (figs w && decide ((tl w).length ≤ 12) && (decide (w = "0") || !decide ((tl w).head? = some 48))) := rfl
    have ef : figs w = (!(tl w).isEmpty && (tl w).all dig) := rfl
    have t0 : tl ("" : Str) = [] := by decide +kernel
    have t1 : tl ("0" : Str) = [48] := by decide +kernel
    refine ⟨fun σ' H' => σ' = [some (.str w), none] ∧ H' = H ∧ tl w ≠ [] ∧ (tl w).length ≤ 12 ∧ (decide (w = "0") || !decide ((tl w).head? = some 48)) = true, ?_, ?_⟩
    · k_allIn
      cases hw : tl w with
      | nil =>
        have : w = "" := ext_tl (hw.trans t0.symm)
        rw [show decide (V.str w = V.str "") = true from decide_eq_true (by rw [this])]
        k_allIn
        rw [hw, List.isEmpty_nil, Bool.not_true, Bool.false_and] at ef
        rw [ef, Bool.false_and, Bool.false_and] at e1
        rw [e1, if_neg Bool.false_ne_true] at k
        exact k H (Same.refl _)
      | cons c0 l =>
        have hne : w ≠ "" := fun z => by rw [z, t0] at hw; cases hw
        rw [show decide (V.str w = V.str "") = false from decide_eq_false fun z => hne (V.str.inj z)]
        k_allIn
        refine w_lenStr (Nat.le_of_lt (small hl)) ?_
        k_allIn
        by_cases h12 : (tl w).length ≤ 12
        · refine i_dF (by rw [len_tl]; omega) ?_
          k_allIn
          refine w_ixS (Nat.le_of_lt (small hl)) (atI_nat (j := 0) (by rw [hw]; rfl)) ?_
          k_allIn
          have hc0 : decide (V.str ⟨#[c0]⟩ = V.str "0") = decide ((tl w).head? = some 48) := by
            rw [hw]
            show _ = decide (some c0 = some 48)
            by_cases q : c0 = 48
            · subst q
              have : (⟨#[48]⟩ : Str) = "0" := ext_tl t1.symm
              rw [this, decide_eq_true rfl, decide_eq_true rfl]
            · rw [decide_eq_false (fun z => q (Option.some.inj z))]
              refine decide_eq_false fun z => q ?_
              have := congrArg tl (V.str.inj z)
              rw [t1] at this
              have h' : [c0] = [48] := this
              injection h' with h1
          rw [hc0]
          rw [decide_eq_true h12, Bool.and_true] at e1
          cases hh : decide ((tl w).head? = some 48) with
          | false =>
            k_allIn
            exact ⟨rfl, rfl, List.cons_ne_nil _ _, (by rw [← hw]; exact h12), (by rw [← hw, hh]; simp)⟩
          | true =>
            k_allIn
            by_cases hz : w = "0"
            · rw [show decide (V.str w = V.str "0") = true from decide_eq_true (by rw [hz])]
              k_allIn
              exact ⟨rfl, rfl, List.cons_ne_nil _ _, (by rw [← hw]; exact h12), (by rw [decide_eq_true hz]; rfl)⟩
            · rw [show decide (V.str w = V.str "0") = false from decide_eq_false fun z => hz (V.str.inj z)]
              k_allIn
              rw [hh, decide_eq_false hz, Bool.not_true, Bool.or_false, Bool.and_false] at e1
              rw [e1, if_neg Bool.false_ne_true] at k
              exact k H (Same.refl _)
        · refine i_dT (by rw [len_tl]; omega) ?_
          k_allIn
          rw [decide_eq_false h12, Bool.and_false, Bool.false_and] at e1
          rw [e1, if_neg Bool.false_ne_true] at k
          exact k H (Same.refl _)
    · rintro σ' H' ⟨rfl, rfl, hne, h12, hz⟩
      have ef' : figs w = (tl w).all dig := by
        rw [ef]
        cases h : tl w with
        | nil => exact absurd h hne
        | cons c l => rfl
      rw [hz, Bool.and_true, decide_eq_true h12, Bool.and_true, ef'] at e1
      k_allIn
      refine fun D nD => ?_
      refine lc_str (x := w) (Pv := fun j H2 => Same H' H2 ∧ ∃ vs : List V, H2 D = some (.lst vs) ∧ vs.length ≤ j ∧ vs.isEmpty = ((tl w).take j).all dig) ⟨same_new nD, [], upd_same, Nat.le_refl _, rfl⟩ ?_ ?_
      · rintro j c H2 hc' ⟨s2, vs, e2, l2, i2⟩
        have hj : j < (tl w).length := (List.getElem?_eq_some_iff.mp hc').1
        have ht : ((tl w).take (j + 1)).all dig = (((tl w).take j).all dig && dig c) := by
          rw [List.take_add_one, hc', List.all_append]
          show (_ && (dig c && true)) = _
          rw [Bool.and_true]
        have dd : decide (c ∈ ("0123456789" : Str).cps.toList) = dig c := by
          have e0 : ("0123456789" : Str).cps.toList = [48, 49, 50, 51, 52, 53, 54, 55, 56, 57] := by decide +kernel
          rw [e0]
          unfold dig
          by_cases q : 48 ≤ c ∧ c ≤ 57
          · rw [decide_eq_true q.1, decide_eq_true q.2]
            refine decide_eq_true ?_
            simp only [List.mem_cons, List.not_mem_nil, or_false]
            omega
          · have : (decide (48 ≤ c) && decide (c ≤ 57)) = false := by
              by_cases q1 : 48 ≤ c
              · rw [decide_eq_false (p := c ≤ 57) (fun z => q ⟨q1, z⟩), Bool.and_false]
              · rw [decide_eq_false q1, Bool.false_and]
            rw [this]
            refine decide_eq_false ?_
            simp only [List.mem_cons, List.not_mem_nil, or_false]
            omega
        k_allIn
        refine ⟨rfl, ?_⟩
        k_allIn
        refine w_notSign ?_
        rw [dd]
        cases hd : dig c with
        | true =>
          k_allIn
          exact ⟨s2, vs, e2, Nat.le_succ_of_le l2, by rw [i2, ht, hd, Bool.and_true]⟩
        | false =>
          k_allIn
          refine ⟨vs, e2, small (by omega), same_mut s2 nD, _, upd_same, by rw [List.length_append]; exact Nat.succ_le_succ l2, ?_⟩
          rw [ht, hd, Bool.and_false]
          cases vs <;> rfl
      · rintro H2 ⟨s2, vs, e2, l2, i2⟩
        rw [List.take_length] at i2
        k_allIn
        refine w_newS (by simp) fun z H3 nz s3 e3 => ?_
        k_allIn
        refine w_neE (SqL.of (s3 _ _ e2)) (SqL.of e3) ?_
        rw [i2]
        cases ha : (tl w).all dig with
        | false =>
          k_allIn
          rw [e1, ha, if_neg Bool.false_ne_true] at k
          exact k H3 (s2.trans s3)
        | true =>
          k_allIn
          rw [e1, ha, if_pos rfl] at k
          refine w_intT (int_of (by rw [ef', ha]) h12) (by rw [len_tl]; omega) ?_
          exact k H3 (s2.trans s3)
end
/-! ### k10: the law's steps and deeds -/
def spLD (Z : Ad) (c : Nat) : Sp := fun vs H Q E => ∃ (A : RgA) (rl : Addr → Nat) (R : RG.Ring) (k : Nat) (cmd : Cmd) (q : Addr), vs = [.ref A.P, .str (cmdW cmd), .ref q] ∧ RgAt Z c rl H A R ∧ H q = some (.lst ((cmdN cmd).map fun n : Nat => V.int (n : Int))) ∧ DB k 0 R ∧ k ≤ 40 ∧ c + 1000 ≤ 9999 ∧ (∀ n, cmd ≠ .ring n ∧ cmd ≠ .steps n) ∧
  (∀ x S, doC R cmd = .ok (x, S) → RgQ Z c rl H A S (Q (.str x))) ∧ (∀ e, doC R cmd = .error e → E (.ref (e.a Z)) none H)
section
variable {P : Program} {w : World} {K : PySem.W.Frag} {mg : Str → Option Value} {base : Heap} {Z : Ad}
theorem ok_law_steps (T : Txt K mg Z) (c : Nat) : FnOk P w K mg base CX0 6 Z.law_steps Z.law_steps_d ["_law_ring", "_law_many"] (spLS Z c) := by
  have G_Ring_step := ok_Ring_step (P := P) (w := w) (base := base) T c
  have G_Ring_rows := ok_Ring_rows (P := P) (w := w) (base := base) T c
  refine T.F_law_steps.ok sc_law_steps (fun vs H Q E h => ?_) (fun cdv X outer s H vs Q E hr h => ?_)
  · obtain ⟨A, rl, R, n, k, rfl, _⟩ := h
    rfl
  · obtain ⟨A, rl, R, n, k, rfl, hA, hb, hk, hn, hcc, kk⟩ := h
    refine ⟨_, (pss_cons (ps_set (i := 2) sc_law_steps.nd rfl (Or.inl rfl) (pe_callB (r := rLenS K) call_lenS (by rfl) T.n_len PySem.boot_len (pa_cons (pe_meth0 (pv 0) T.cl_Ring T.m_Ring_rows G_Ring_rows (hr.mono (by omega)) T.b_Ring_rows .nil pass0) pa_nil)))
      (pss_cons (ps_for PassesOwn.never rfl (pi_range1 (by rfl) T.n_range (pa_cons (pv 1) pa_nil)) (pg_name (i := 3) sc_law_steps.nd rfl (Or.inl rfl))
        (pss_one (ps_expr (pe_meth0 (pv 0) T.cl_Ring T.m_Ring_step G_Ring_step (hr.mono (by omega)) T.b_Ring_step .nil pass0))))
      (pss_cons (ps_setLc (i := 4) (own := [("_law_row_here", 5)]) (g := gName 5) rfl sc_law_steps.nd rfl rfl (sw_true rfl rfl rfl (by decide +kernel)) (k_list (K := K) (pe_slice (r := rSlL K) sl_list (pe_meth0 (pv 0) T.cl_Ring T.m_Ring_rows G_Ring_rows (hr.mono (by omega)) T.b_Ring_rows .nil pass0) (po_some (pv 2)) po_none)) (blkOk_by (own := [("_law_row_here", 5)]) (N := ["_law_ring", "_law_many", "_law_ahead", "_law_turn", "_law_sent", "_law_row_here"]) (sc := defScope s_law_steps) (by decide +kernel)) (fun _ _ _ _ _ => pg_name (i := 5) sc_law_steps.nd rfl (Or.inl rfl)) (fun _ _ _ _ _ => (pts_one (pt_cmpR op_eq (pe_ix (r := rIx K) ix_seq (pv 5) pe_int (fun _ _ => rfl)) pe_str (nomark _)))) (fun _ _ _ _ _ => (pe_op (r := rAddS) op_add_str (pe_op (r := rAddS) op_add_str (pe_callTy (r := rStrI) call_str_int (by rfl) T.n_str (by decide +kernel) (pa_cons (pe_ix (r := rIx K) ix_seq (pv 5) pe_int (fun _ _ => rfl)) pa_nil)) pe_str) (pe_callTy (r := rStrI) call_str_int (by rfl) T.n_str (by decide +kernel) (pa_cons (pe_ix (r := rIx K) ix_seq (pv 5) pe_int (fun _ _ => rfl)) pa_nil)))))
      (pss_one (ps_ret (k_bm (K := K) PySem.F.plainAttrs_str PySem.F.slot_str_join PySem.F.type_str_join (r := rJoin K) mt_join pe_str (pa_cons (pe_op op_cat (pe_lst (pa_cons pe_str pa_nil)) (pv 4)) pa_nil))))))), ?_⟩
    have hc := T.cl_Ring
    have hP := hA.hP
    k_allIn
    refine ⟨A, rl, R, rfl, hA, fun q0 H0 nq0 s0 e0 => ?_⟩
    have hA0 := hA.mono s0
    have hP := hA0.hP
    k_allIn
    rw [hA.hrs.length]
    refine for_range (fun i σ H' => ∃ (A' : RgA) (rl' : Addr → Nat) (v3 : Option V), σ = [some (.ref A.P), some (.int (n : Int)), some (.int (R.rw.length : Int)), v3, none, none] ∧ RgAt Z c rl' H' A' (stepN i R) ∧ A'.P = A.P ∧ Mw c (c + 300) rl H rl' H') ⟨A, rl, _, rfl, hA0, rfl, .of s0⟩ ?_ ?_
    · rintro i σ H1 hi ⟨A1, rl1, v3, rfl, h1, eP1, m1⟩
      have hi' : i < n := by omega
      have b1 := hb.steps hk i
      have f1 := b1.few hk (by omega)
      have hP := h1.hP
      rw [eP1] at hP
      k_allIn
      refine ⟨A1, rl1, _, by rw [eP1]; rfl, h1, b1.wf, f1.tk, f1.rw, hcc, fun A2 rl2 H2 h2 eP2 m2 => ?_⟩
      k_allIn
      exact ⟨A2, rl2, _, rfl, h2, eP2.trans eP1, m1.trans m2⟩
    · rintro σ H1 ⟨A1, rl1, v3, rfl, h1, eP1, m1⟩
      rw [show ((n : Int)).toNat = n by omega] at h1
      have b1 := hb.steps hk n
      have g1 := hb.grow hk n
      generalize stepN n R = S at *
      have hP := h1.hP
      rw [eP1] at hP
      k_allIn
      refine ⟨A1, rl1, S, by rw [eP1]; rfl, h1, fun q H2 nq s2 e2 => ?_⟩
      k_allIn
      refine ⟨q, _, rfl, SqL.of e2, fun q3 nq3 => ?_⟩
      rw [cut_from]
      have s3 := same_new (o := HO.lst (A1.rs.drop R.rw.length)) nq3
      have e3 := upd_same (H := H2) (a := q3) (o := HO.lst (A1.rs.drop R.rw.length))
      generalize upd H2 q3 (HO.lst (A1.rs.drop R.rw.length)) = H3 at *
      have hX := (each_drop R.rw.length h1.hrs).mono fun _ _ (⟨a, e, z⟩ : ∃ a, _ = V.ref a ∧ H1 a = _) => (⟨a, e, s3 _ _ (s2 _ _ z)⟩ : ∃ a, _ = V.ref a ∧ H3 a = _)
      have okX : ∀ r, r ∈ S.rw.drop R.rw.length → RG.okRw S.many r := fun r m => b1.td.rs r (List.mem_of_mem_drop m)
      have lX : (S.rw.drop R.rw.length).length ≤ 85000 := by
        rw [List.length_drop]
        omega
      generalize S.rw.drop R.rw.length = X at *
      generalize A1.rs.drop R.rw.length = ys at *
      have hly : ys.length = X.length := hX.length
      k_allIn
      refine fun D nD => ?_
      refine lc_list (K := K) (a := q3) (xs := ys) (Pv := fun j H' => Same H3 H' ∧ H' D = some (.lst (((X.take j).filterMap (sentP 0)).map V.str))) ⟨same_new nD, upd_same⟩ (fun j H' _ ⟨s, _⟩ => SqL.of (s _ _ e3)) ?_ ?_
      · rintro j y H4 hy ⟨s4, e4⟩
        obtain ⟨r, hr', b, rfl, hb'⟩ := each_get hX hy
        have hj : j < X.length := (List.getElem?_eq_some_iff.mp hr').1
        have okr := okX r (List.mem_of_getElem? hr')
        have hft : ∀ z, sentP 0 r = z → (X.take (j + 1)).filterMap (sentP 0) = (X.take j).filterMap (sentP 0) ++ z.toList := fun z e => by
          rw [List.take_add_one, hr', List.filterMap_append]
          congr 1
          show List.filterMap (sentP 0) [r] = _
          rw [← e]
          cases h : sentP 0 r with
          | none => rw [List.filterMap_cons_none h]; rfl
          | some x => rw [List.filterMap_cons_some h]; rfl
        have hb4 := s4 _ _ hb'
        cases r with
        | sent x1 x2 x3 x4 =>
          obtain ⟨o1, o2, o3⟩ := okr
          obtain ⟨mn, rfl⟩ : ∃ mn : Nat, x4 = (mn : Int) := ⟨x4.toNat, by omega⟩
          have hm12 := b1.mn
          have hb5 : H4 b = some (.tup [.str "sent", .int (x1 : Int), .int (x2 : Int), .int x3, .int (mn : Int)]) := hb4
          have l0 : Lin 20 (numT x2) := .num (pow20 (by omega))
          have l1 : Lin 20 (numT mn) := .num (pow20 (by omega))
          have d1 : Lin 1 ":" := .of (by decide +kernel)
          have hl : (((X.take j).filterMap (sentP 0)).map V.str).length ≤ 85000 := by
            rw [List.length_map]
            have := List.length_filterMap_le (sentP 0) (X.take j)
            rw [List.length_take] at this
            omega
          k_allIn
          refine ⟨rfl, ?_⟩
          k_allIn
          refine w_strI (pow20 (by omega)) ?_
          k_allIn
          refine w_addS (Nat.le_trans (Nat.add_le_add l0.len d1.len) (by decide)) ?_
          k_allIn
          refine w_strI (pow20 (by omega)) ?_
          refine w_addS (Nat.le_trans (Nat.add_le_add (l0.app d1).len l1.len) (by decide)) ?_
          refine ⟨_, e4, small (by omega), same_mut s4 nD, ?_⟩
          rw [upd_same, hft _ rfl, List.map_append]
          rfl
        | made x1 x2 x3 =>
          have hb5 : H4 b = some (.tup [.str "made", .int (x1 : Int), .int (x2 : Int), .int (x3 : Int)]) := hb4
          k_allIn
          refine ⟨rfl, ?_⟩
          k_allIn
          refine ⟨s4, ?_⟩
          rw [hft none rfl, show (none : Option Str).toList = [] from rfl, List.append_nil]
          exact e4
        | drop x1 x2 x3 =>
          have hb5 : H4 b = some (.tup [.str "dropped", .int (x1 : Int), .int (x2 : Int), .int (x3.1 : Int), .int (x3.2 : Int)]) := hb4
          k_allIn
          refine ⟨rfl, ?_⟩
          k_allIn
          refine ⟨s4, ?_⟩
          rw [hft none rfl, show (none : Option Str).toList = [] from rfl, List.append_nil]
          exact e4
        | lost x1 x2 =>
          have hb5 : H4 b = some (.tup [.str "lost", .int (x1 : Int), .int (x2.1 : Int), .int (x2.2 : Int)]) := hb4
          k_allIn
          refine ⟨rfl, ?_⟩
          k_allIn
          refine ⟨s4, ?_⟩
          rw [hft none rfl, show (none : Option Str).toList = [] from rfl, List.append_nil]
          exact e4
      · rintro H4 ⟨s4, e4⟩
        rw [hly, List.take_length] at e4
        k_allIn
        refine w_newS (by simp) fun l5 H5 nl5 s5 e5 => ?_
        k_allIn
        have h2 := List.length_filterMap_le (sentP 0) X
        refine w_cat e5 (s5 _ _ e4) (Nat.le_of_lt (small (by
          rw [List.length_map]
          show 1 + _ ≤ _
          omega))) fun l6 H6 nl6 s6 e6 => ?_
        have e6' : H6 l6 = some (.lst (("sent" :: X.filterMap (sentP 0) : List Str).map V.str)) := e6
        refine w_join (SqL.of e6') ?_ ?_
        · have h1 := sum_le (b := 41) (ys := ("sent" :: X.filterMap (sentP 0) : List Str)) fun y m => (Lin.sents b1.mn okX y m).len
          have : (" " : Str).length = 1 := by decide +kernel
          rw [this]
          rw [List.length_cons] at h1 ⊢
          omega
        · have S6 := (((s2.trans s3).trans s4).trans s5).trans s6
          exact kk A1 rl1 H6 (h1.mono S6) eP1 (m1.trans (.of S6))
theorem ok_law_deed (T : Txt K mg Z) (c : Nat) : FnOk P w K mg base (L2.CX P w) 5 Z.law_deed Z.law_deed_d ["_law_ring", "_law_kind", "_law_numbers"] (spLD Z c) := by
  have G_Ring_put := ok_Ring_put (P := P) (w := w) (base := base) T c
  have G_Ring_lose := ok_Ring_lose (P := P) (w := w) (base := base) T c
  have G_Ring_make := ok_Ring_make (P := P) (w := w) (base := base) T c
  have G_Ring_switch_off := ok_Ring_switch_off (P := P) (w := w) (base := base) T c
  have G_Ring_switch_on := ok_Ring_switch_on (P := P) (w := w) (base := base) T c
  have G_Ring_tokens := ok_Ring_tokens (P := P) (w := w) (base := base) T c
  refine T.F_law_deed.okX sc_law_deed (fun vs H Q E h => ?_) (fun cdv X outer s H vs Q E hr h => ?_)
  · obtain ⟨A, rl, R, k, cmd, q, rfl, _⟩ := h
    rfl
  · obtain ⟨A, rl, R, k, cmd, q, rfl, hA, hq, hb, hk, hcc, hno, kk, ke⟩ := h
    refine ⟨_, (pss_cons (ps_if (pt_cmpR op_eq (pv 1) pe_str (nomark _))
        (pss_cons (ps_expr (pe_meth (pv 0) T.cl_Ring T.m_Ring_put G_Ring_put (hr.mono (by omega)) T.b_Ring_put .nil (passes_call (takes_of rfl rfl rfl rfl) (fun _ _ _ _ h => h)) (pa_cons (pe_ix (r := rIx K) ix_seq (pv 2) pe_int (fun _ _ => rfl)) (pa_cons (pe_ix (r := rIx K) ix_seq (pv 2) pe_int (fun _ _ => rfl)) (pa_cons (pe_ix (r := rIx K) ix_seq (pv 2) pe_int (fun _ _ => rfl)) pa_nil)))))
        (pss_one (ps_ret pe_str)))
        pss_nil)
      (pss_cons (ps_if (pt_cmpR op_eq (pv 1) pe_str (nomark _))
        (pss_cons (ps_expr (pe_meth (pv 0) T.cl_Ring T.m_Ring_lose G_Ring_lose (hr.mono (by omega)) T.b_Ring_lose .nil (passes_call (takes_of rfl rfl rfl rfl) (fun _ _ _ _ h => h)) (pa_cons (pe_ix (r := rIx K) ix_seq (pv 2) pe_int (fun _ _ => rfl)) pa_nil)))
        (pss_one (ps_ret pe_str)))
        pss_nil)
      (pss_cons (ps_if (pt_cmpR op_eq (pv 1) pe_str (nomark _))
        (pss_cons (ps_expr (pe_meth (pv 0) T.cl_Ring T.m_Ring_make G_Ring_make (hr.mono (by omega)) T.b_Ring_make .nil (passes_call (takes_of rfl rfl rfl rfl) (fun _ _ _ _ h => h)) (pa_cons (pe_ix (r := rIx K) ix_seq (pv 2) pe_int (fun _ _ => rfl)) pa_nil)))
        (pss_one (ps_ret pe_str)))
        pss_nil)
      (pss_cons (ps_if (pt_cmpR op_eq (pv 1) pe_str (nomark _))
        (pss_cons (ps_expr (pe_meth (pv 0) T.cl_Ring T.m_Ring_switch_off G_Ring_switch_off (hr.mono (by omega)) T.b_Ring_switch_off .nil (passes_call (takes_of rfl rfl rfl rfl) (fun _ _ _ _ h => h)) (pa_cons (pe_ix (r := rIx K) ix_seq (pv 2) pe_int (fun _ _ => rfl)) pa_nil)))
        (pss_one (ps_ret pe_str)))
        pss_nil)
      (pss_cons (ps_if (pt_cmpR op_eq (pv 1) pe_str (nomark _))
        (pss_cons (ps_expr (pe_meth (pv 0) T.cl_Ring T.m_Ring_switch_on G_Ring_switch_on (hr.mono (by omega)) T.b_Ring_switch_on .nil (passes_call (takes_of rfl rfl rfl rfl) (fun _ _ _ _ h => h)) (pa_cons (pe_ix (r := rIx K) ix_seq (pv 2) pe_int (fun _ _ => rfl)) pa_nil)))
        (pss_one (ps_ret pe_str)))
        pss_nil)
      (pss_cons (ps_setLc (i := 3) (own := [("_law_one", 4)]) (g := gName 4) rfl sc_law_deed.nd rfl rfl (sw_true rfl rfl rfl (by decide +kernel)) (k_list (K := K) (pe_meth0 (pv 0) T.cl_Ring T.m_Ring_tokens G_Ring_tokens (hr.mono (by omega)) T.b_Ring_tokens .nil pass0)) (blkOk_by (own := [("_law_one", 4)]) (N := ["_law_ring", "_law_kind", "_law_numbers", "_law_tokens", "_law_one"]) (sc := defScope s_law_deed) (by decide +kernel)) (fun _ _ _ _ _ => pg_name (i := 4) sc_law_deed.nd rfl (Or.inl rfl)) (fun _ _ _ _ _ => pts_nil) (fun _ _ _ _ _ => (pe_op (r := rAddS) op_add_str (pe_op (r := rAddS) op_add_str (pe_op (r := rAddS) op_add_str (pe_op (r := rAddS) op_add_str (pe_callTy (r := rStrI) call_str_int (by rfl) T.n_str (by decide +kernel) (pa_cons (pe_ix (r := rIx K) ix_seq (pv 4) pe_int (fun _ _ => rfl)) pa_nil)) pe_str) (pe_callTy (r := rStrI) call_str_int (by rfl) T.n_str (by decide +kernel) (pa_cons (pe_ix (r := rIx K) ix_seq (pv 4) pe_int (fun _ _ => rfl)) pa_nil))) pe_str) (pe_callTy (r := rStrI) call_str_int (by rfl) T.n_str (by decide +kernel) (pa_cons (pe_ix (r := rIx K) ix_seq (pv 4) pe_int (fun _ _ => rfl)) pa_nil)))))
      (pss_one (ps_ret (k_bm (K := K) PySem.F.plainAttrs_str PySem.F.slot_str_join PySem.F.type_str_join (r := rJoin K) mt_join pe_str (pa_cons (k_orT (K := K) (pv 3) (pe_one (pe_lst (pa_cons pe_str pa_nil)))) pa_nil)))))))))), ?_⟩
    have hc := T.cl_Ring
    have hP := hA.hP
    have hf := hb.few hk (by omega)
    cases cmd with
    | ring n => exact absurd rfl (hno n).1
    | steps n => exact absurd rfl (hno n).2
    | put s r m =>
      have hq' : H q = some (.lst [.int (s : Int), .int (r : Int), .int (m : Int)]) := hq
      show _
      rw [show cmdW (.put s r m) = "put" from rfl]
      k_allIn
      refine ⟨A, rl, R, _, _, _, rfl, hA, hf, .int _, .int _, .int _, fun i' r' m' ei hi er em h1 h2 A5 rl5 H5 h5 eP m5 => ?_, fun z => ?_, fun z1 z2 => ?_⟩
      · have ei' : i' = s := by injection ei with z; omega
        have er' : r' = (r : Int) := by injection er with z; omega
        have em' : m' = (m : Int) := by injection em with z; omega
        subst ei' er' em'
        k_allIn
        exact kk "put" _ (by simp only [doC]; rw [if_pos hi, if_pos ⟨by omega, by omega⟩]) A5 rl5 H5 h5 eP m5
      · by_cases hs : s < R.many
        · exact numB_not hs z
        · exact ke .station (by simp only [doC]; rw [if_neg hs])
      · obtain ⟨i', ei, hi⟩ := numB_nat z1
        have ei' : i' = s := by injection ei with z; omega
        subst ei'
        by_cases hrm : r ≤ 7 ∧ m ≤ 1000000000
        · rw [show (isNumB (.int (r : Int)) 0 7 && isNumB (.int (m : Int)) 0 1000000000) = true by rw [Bool.and_eq_true]; exact ⟨decide_eq_true (by omega), decide_eq_true (by omega)⟩] at z2
          cases z2
        · exact ke .message (by simp only [doC]; rw [if_pos hi, if_neg hrm])
    | lose n =>
      have hq' : H q = some (.lst [.int (n : Int)]) := hq
      rw [show cmdW (.lose n) = "lose" from rfl]
      k_allIn
      refine ⟨A, rl, R, _, rfl, hA, hf, .int _, fun i' ei hi A5 rl5 H5 h5 eP m5 => ?_, fun z => ?_⟩
      · have ei' : i' = n := by injection ei with z; omega
        subst ei'
        k_allIn
        exact kk "lost" _ (by simp only [doC]; rw [if_pos hi]) A5 rl5 H5 h5 eP m5
      · by_cases hs : n < R.tk.length
        · exact numB_not hs z
        · exact ke .token (by simp only [doC]; rw [if_neg hs])
    | make n =>
      have hq' : H q = some (.lst [.int (n : Int)]) := hq
      rw [show cmdW (.make n) = "make" from rfl]
      k_allIn
      refine ⟨A, rl, R, _, rfl, hA, hb.wf, hf, .int _, fun i' ei hi ho A5 rl5 H5 h5 eP m5 => ?_, fun z => ?_, fun i' ei hi ho => ?_⟩
      · have ei' : i' = n := by injection ei with z; omega
        subst ei'
        k_allIn
        exact kk "made" _ (by simp only [doC]; rw [if_pos hi, if_pos ho]) A5 rl5 H5 h5 eP m5
      · by_cases hs : n < R.many
        · exact numB_not hs z
        · exact ke .station (by simp only [doC]; rw [if_neg hs])
      · have ei' : i' = n := by injection ei with z; omega
        subst ei'
        exact ke .off (by simp only [doC]; rw [if_pos hi, if_neg (by rw [ho]; decide)])
    | off n =>
      have hq' : H q = some (.lst [.int (n : Int)]) := hq
      rw [show cmdW (.off n) = "off" from rfl]
      k_allIn
      refine ⟨A, rl, R, _, rfl, hA, hf, hcc, .int _, fun i' ei hi ho A5 rl5 H5 h5 eP m5 => ?_, fun z => ?_, fun i' ei hi ho => ?_⟩
      · have ei' : i' = n := by injection ei with z; omega
        subst ei'
        k_allIn
        exact kk "off" _ (by simp only [doC]; rw [if_pos hi, if_pos ho]) A5 rl5 H5 h5 eP m5
      · by_cases hs : n < R.many
        · exact numB_not hs z
        · exact ke .station (by simp only [doC]; rw [if_neg hs])
      · have ei' : i' = n := by injection ei with z; omega
        subst ei'
        exact ke .off (by simp only [doC]; rw [if_pos hi, if_neg (by rw [ho]; decide)])
    | on n =>
      have hq' : H q = some (.lst [.int (n : Int)]) := hq
      rw [show cmdW (.on n) = "on" from rfl]
      k_allIn
      refine ⟨A, rl, R, _, rfl, hA, .int _, fun i' ei hi ho A5 rl5 H5 h5 eP m5 => ?_, fun z => ?_, fun i' ei hi ho => ?_⟩
      · have ei' : i' = n := by injection ei with z; omega
        subst ei'
        k_allIn
        exact kk "on" _ (by simp only [doC]; rw [if_pos hi, if_neg (by rw [ho]; decide)]) A5 rl5 H5 h5 eP m5
      · by_cases hs : n < R.many
        · exact numB_not hs z
        · exact ke .station (by simp only [doC]; rw [if_neg hs])
      · have ei' : i' = n := by injection ei with z; omega
        subst ei'
        exact ke .on (by simp only [doC]; rw [if_pos hi, if_pos ho])
    | toks =>
      rw [show cmdW .toks = "tokens" from rfl]
      have htk := hb.tk
      k_allIn
      refine ⟨A, rl, R, rfl, hA, by omega, fun q1 as H1 nq1 s1 e1 ea => ?_⟩
      have hlen : as.length = R.tk.length := ea.length
      k_allIn
      refine fun D nD => ?_
      refine lc_list (K := K) (a := q1) (xs := as.map V.ref) (Pv := fun j H' => Same H1 H' ∧ H' D = some (.lst (((R.tk.take j).map tokP).map V.str))) ⟨same_new nD, upd_same⟩ (fun j H' _ ⟨s, _⟩ => SqL.of (s _ _ e1)) ?_ ?_
      · rintro j y H2 hy ⟨s2, e2⟩
        obtain ⟨b, hb', rfl⟩ := get_map hy
        obtain ⟨t, ht, eb⟩ := each_get ea hb'
        have hj : j < as.length := (List.getElem?_eq_some_iff.mp hb').1
        obtain ⟨t1, t2, t3⟩ := hb.tok hk (by omega) (List.mem_of_getElem? ht)
        have eb2 := s2 _ _ eb
        have l0 : Lin 20 (numT t.sp.1) := .num (pow20 (by omega))
        have l1 : Lin 20 (numT t.sp.2) := .num (pow20 (by omega))
        have l2 : Lin 20 (numT t.pl) := .num (pow20 (by omega))
        have d1 : Lin 1 "." := .of (by decide +kernel)
        have d2 : Lin 1 "@" := .of (by decide +kernel)
        k_allIn
        refine ⟨rfl, ?_⟩
        k_allIn
        refine w_strI (pow20 (by omega)) ?_
        k_allIn
        refine w_addS (Nat.le_trans (Nat.add_le_add l0.len d1.len) (by decide)) ?_
        k_allIn
        refine w_strI (pow20 (by omega)) ?_
        refine w_addS (Nat.le_trans (Nat.add_le_add (l0.app d1).len l1.len) (by decide)) ?_
        k_allIn
        refine w_addS (Nat.le_trans (Nat.add_le_add ((l0.app d1).app l1).len d2.len) (by decide)) ?_
        k_allIn
        refine w_strI (pow20 (by omega)) ?_
        refine w_addS (Nat.le_trans (Nat.add_le_add (((l0.app d1).app l1).app d2).len l2.len) (by decide)) ?_
        refine ⟨_, e2, small (by rw [List.length_map, List.length_map, List.length_take]; omega), same_mut s2 nD, ?_⟩
        rw [upd_same, List.take_add_one, ht, List.map_append, List.map_append]
        rfl
      · rintro H2 ⟨s2, e2⟩
        rw [List.length_map, hlen, List.take_length] at e2
        have S2 := s1.trans s2
        have et : toksT R.tk = if R.tk.isEmpty = true then ("none" : Str) else Txt.join " " (R.tk.map tokP) := rfl
        have l1 : (" " : Str).length = 1 := by decide +kernel
        have fin := fun H' (s : Same H H') => kk (toksT R.tk) R rfl A rl H' (hA.mono s) rfl (.of s)
        k_allIn
        refine w_orT ?_
        k_allIn
        refine w_orTL (SqL.of e2) ?_
        cases hem : R.tk.isEmpty with
        | true =>
          have hz : (((R.tk.map tokP).map V.str).isEmpty) = true := by rw [List.isEmpty_iff.mp hem]; rfl
          rw [hz]
          k_allIn
          refine w_newS (by simp) fun z H3 nz s3 e3 => ?_
          have e3' : H3 z = some (.lst ((["none"] : List Str).map V.str)) := e3
          refine w_join (SqL.of e3') (by decide +kernel) ?_
          have : Txt.join " " (["none"] : List Str) = toksT R.tk := by
            rw [et, hem, if_pos rfl, join_eq]
            rfl
          rw [this]
          exact fin H3 (S2.trans s3)
        | false =>
          have hz : (((R.tk.map tokP).map V.str).isEmpty) = false := by
            cases h : R.tk with
            | nil => rw [h] at hem; cases hem
            | cons t l => rfl
          rw [hz]
          k_allIn
          refine w_join (SqL.of e2) ?_ ?_
          · have h1 := sum_le (b := 62) (ys := R.tk.map tokP) fun y m => by
              obtain ⟨t, mt, rfl⟩ := List.mem_map.mp m
              obtain ⟨t1, t2, t3⟩ := hb.tok hk (by omega) mt
              exact (Lin.tok t1 t2 t3).len
            rw [List.length_map] at h1 ⊢
            rw [l1]
            omega
          · have : Txt.join " " (R.tk.map tokP) = toksT R.tk := by
              rw [et, hem, if_neg Bool.false_ne_true]
            rw [this]
            exact fin H2 S2
end
/-! ### k10: the law's answers -/
def ansX (o : Option RG.Ring) (line : Str) : Except Cls10 (Str × Option RG.Ring) := match parse (Txt.split line " ") with
  | none => .ok (nu, o)
  | some c => doO o c
theorem ans_ok {o o' : Option RG.Ring} {line x : Str} (h : ansX o line = .ok (x, o')) : ans o line = (x, o') := by
  unfold ansX at h
  unfold ans ansW
  cases hp : parse (Txt.split line " ") with
  | none => rw [hp] at h; cases h; rfl
  | some c =>
    rw [hp] at h
    have h' : doO o c = .ok (x, o') := h
    show (match doO o c with | .ok x => x | .error e => (e.t, o)) = _
    rw [h']
theorem ans_er {o : Option RG.Ring} {line : Str} {e : Cls10} (h : ansX o line = .error e) : ans o line = (e.t, o) := by
  unfold ansX at h
  unfold ans ansW
  cases hp : parse (Txt.split line " ") with
  | none => rw [hp] at h; cases h
  | some c =>
    rw [hp] at h
    have h' : doO o c = .error e := h
    show (match doO o c with | .ok x => x | .error e => (e.t, o)) = _
    rw [h']
def spLA (Z : Ad) : Sp := fun vs H Q E => ∃ (L : Addr) (rl : Addr → Nat) (o : Option RG.Ring) (k : Nat) (line : Str), vs = [.ref L, .str line] ∧ Hold Z rl H L fL o ∧ OB k o ∧ k ≤ 40 ∧ line.length ≤ 50000 ∧
  (∀ x o' rl' H', ansX o line = .ok (x, o') → Hold Z rl' H' L fL o' → Mw 1000 9500 rl H rl' H' → Q (.str x) H') ∧ (∀ e H', ansX o line = .error e → Same H H' → E (.ref (e.a Z)) none H')
def spLT (Z : Ad) : Sp := fun vs H Q _ => ∃ (L : Addr) (rl : Addr → Nat) (o : Option RG.Ring) (k : Nat) (line : Str), vs = [.ref L, .str line] ∧ Hold Z rl H L fL o ∧ OB k o ∧ k ≤ 40 ∧ line.length ≤ 50000 ∧
  ∀ rl' H', Hold Z rl' H' L fL (ans o line).2 → Mw 1000 9500 rl H rl' H' → Q (.str (ans o line).1) H'
def spLAs : Sp := fun vs H Q _ => ∃ (a : Addr) (lines : List Str), vs = [.ref a] ∧ H a = some (.lst (lines.map V.str)) ∧ lines.length ≤ 40 ∧ (∀ l, l ∈ lines → l.length ≤ 50000) ∧
  ∀ (q : Addr) (H' : Hp), Same H H' → H q = none → H' q = some (.lst ((runL none lines).1.map V.str)) → Q (.ref q) H'
def lawKvs : List (Key × V) := [(.inr "put", .int 4), (.inr "steps", .int 2), (.inr "lose", .int 2), (.inr "make", .int 2), (.inr "off", .int 2), (.inr "on", .int 2), (.inr "tokens", .int 1), (.inr "ring", .int 2)]
theorem lawV (w : Str) : (valV lawKvs (.inr w)).getD (.int 0) = .int (match lookN w numKvs with | some i => i + 1 | none => 0) := by
  have hd : ∀ s : Str, (decide ((Sum.inr s : Key) = .inr w)) = decide (s = w) := fun s => decide_eq_decide.mpr ⟨fun z => Sum.inr.inj z, fun z => congrArg _ z⟩
  cases h : lookN w numKvs with
  | some i =>
    rcases lookN_some h with ⟨rfl, rfl⟩ | ⟨rfl, rfl⟩ | ⟨rfl, rfl⟩ | ⟨rfl, rfl⟩ | ⟨rfl, rfl⟩ | ⟨rfl, rfl⟩ | ⟨rfl, rfl⟩ | ⟨rfl, rfl⟩ <;> decide +kernel
  | none =>
    have ne : ∀ s i, (s, i) ∈ numKvs → s ≠ w := fun s i m z => by
      subst z
      have : ∀ l : List (Str × Int), (s, i) ∈ l → lookN s l ≠ none := fun l => by
        induction l with
        | nil => intro m; cases m
        | cons e l ih =>
          intro m z
          unfold lookN at z
          split at z
          · cases z
          · next hne =>
            rcases List.mem_cons.mp m with rfl | m
            · exact hne rfl
            · exact ih m z
      exact this _ m h
    have n1 := ne "put" 3 (by decide +kernel)
    have n2 := ne "steps" 1 (by decide +kernel)
    have n3 := ne "lose" 1 (by decide +kernel)
    have n4 := ne "make" 1 (by decide +kernel)
    have n5 := ne "off" 1 (by decide +kernel)
    have n6 := ne "on" 1 (by decide +kernel)
    have n7 := ne "tokens" 0 (by decide +kernel)
    have n8 := ne "ring" 1 (by decide +kernel)
    have : valV lawKvs (.inr w) = none := by
      unfold valV lawKvs
      simp only [List.find?_cons, hd, decide_eq_false n1, decide_eq_false n2, decide_eq_false n3, decide_eq_false n4, decide_eq_false n5, decide_eq_false n6, decide_eq_false n7, decide_eq_false n8, List.find?_nil, Option.map_none]
    rw [this]
    rfl
theorem inV_num : ∀ as : List Str, inV .non (as.map fun x => if numW x = true then V.int ((valW x : Nat) : Int) else .non) = !as.all numW
  | [] => rfl
  | x :: as => by
    have ih := inV_num as
    unfold inV at ih ⊢
    rw [List.map_cons, List.any_cons, ih, List.all_cons]
    cases h : numW x with
    | true =>
      rw [if_pos rfl]
      rfl
    | false =>
      rw [if_neg Bool.false_ne_true]
      rfl
theorem map_num {as : List Str} (h : as.all numW = true) : (as.map fun x => if numW x = true then V.int ((valW x : Nat) : Int) else .non) = (as.map valW).map fun n : Nat => V.int (n : Int) := by
  rw [List.map_map]
  refine List.map_congr_left fun x m => ?_
  rw [if_pos (List.all_eq_true.mp h x m)]
  rfl
theorem parse_cons (v : Str) (as : List Str) : parse (v :: as) = if as.all numW = true then parseN v (as.map valW) else none := rfl
section
variable {P : Program} {w : World} {K : PySem.W.Frag} {mg : Str → Option Value} {base : Heap} {Z : Ad}
theorem ok_law_answer (T : Txt K mg Z) : FnOk P w K mg base (L2.CX P w) 7 Z.law_answer Z.law_answer_d ["_law_rings", "_law_line"] (spLA Z) := by
  have G_law_number := ok_law_number (P := P) (w := w) (base := base) T
  have G_law_steps := ok_law_steps (P := P) (w := w) (base := base) T 1000
  have G_law_deed := ok_law_deed (P := P) (w := w) (base := base) T 1000
  have G_Ring_init := ok_Ring_init (P := P) (w := w) (base := base) T 1000
  refine T.F_law_answer.okX sc_law_answer (fun vs H Q E h => ?_) (fun cdv X outer s H vs Q E hr h => ?_)
  · obtain ⟨L, rl, o, k, line, rfl, _⟩ := h
    rfl
  · obtain ⟨L, rl, o, k, line, rfl, hh, hb, hk, hl, kk, ke⟩ := h
    refine ⟨_, (pss_cons (ps_set (i := 2) sc_law_answer.nd rfl (Or.inl rfl) (k_bm (K := K) PySem.F.plainAttrs_str PySem.F.slot_str_split PySem.F.type_str_split (r := rSplit) mt_split (pv 1) (pa_cons pe_str pa_nil)))
      (pss_cons (ps_setLc (i := 3) (own := [("_law_word", 5)]) (g := gName 5) rfl sc_law_answer.nd rfl rfl (sw_true rfl rfl rfl (by decide +kernel)) (k_list (K := K) (pe_slice (r := rSlL K) sl_list (pv 2) (po_some pe_int) po_none)) (blkOk_by (own := [("_law_word", 5)]) (N := ["_law_rings", "_law_line", "_law_words", "_law_numbers", "_law_many", "_law_word"]) (sc := defScope s_law_answer) (by decide +kernel)) (fun _ _ _ _ _ => pg_name (i := 5) sc_law_answer.nd rfl (Or.inl rfl)) (fun _ _ _ _ _ => pts_nil) (fun _ _ _ _ _ => (pe_call G_law_number (hr.mono (by omega)) rfl T.g_law_number T.F_law_number.kp T.b_law_number .nil pass0 (pa_cons (pv 5) pa_nil))))
      (pss_cons (ps_set (i := 4) sc_law_answer.nd rfl (Or.inl rfl) (pe_dget2 (hu_of hr) (pe_disp (pps_cons pe_str pe_int (pps_cons pe_str pe_int (pps_cons pe_str pe_int (pps_cons pe_str pe_int (pps_cons pe_str pe_int (pps_cons pe_str pe_int (pps_cons pe_str pe_int (pps_cons pe_str pe_int pps_nil)))))))) (by rfl) (by rfl) (fun z => by cases z) (by decide)) (pe_ix (r := rIx K) ix_seq (pv 2) pe_int (fun _ _ => rfl)) pe_int ⟨rfl, rfl, rfl, rfl⟩))
      (pss_cons (ps_if (PW.pt (pw_or (pt_cmpR (r := rIn K false) op_in_seq pe_non (pv 3) rfl) (pw_or (pt_cmpR op_ne (pv 4) (pe_callB (r := rLenS K) call_lenS (by rfl) T.n_len PySem.boot_len (pa_cons (pv 2) pa_nil)) (nomark _)) (pw_or1 (pt_cmpR op_eq (pe_cmpR op_eq (pe_ix (r := rIx K) ix_seq (pv 2) pe_int (fun _ _ => rfl)) pe_str (nomark _)) (pe_cmpR (r := rNeE K) (op_neE (hd_of hr)) (pv 0) (pe_lst pa_nil) (nomark _)) (nomark _))))))
        (pss_one (ps_ret pe_str))
        pss_nil)
      (pss_cons (ps_if (pt_cmpR op_eq (pe_ix (r := rIx K) ix_seq (pv 2) pe_int (fun _ _ => rfl)) pe_str (nomark _))
        (pss_cons (ps_expr (k_bm (K := K) PySem.F.plainAttrs_list PySem.F.slot_list_append PySem.F.type_list_append mt_append (pv 0) (pa_cons (pe_make T.M_Ring G_Ring_init (hr.mono (by omega)) rfl T.g_Ring T.b_Ring_init .nil (passes_call (takes_of rfl rfl rfl rfl) (fun _ _ _ _ h => h)) (pa_cons (pe_ix (r := rIx K) ix_seq (pv 3) pe_int (fun _ _ => rfl)) pa_nil)) pa_nil)))
        (pss_one (ps_ret pe_str)))
        pss_nil)
      (pss_cons (ps_if (PW.pt (pw_and (pt_cmpR op_eq (pe_ix (r := rIx K) ix_seq (pv 2) pe_int (fun _ _ => rfl)) pe_str (nomark _)) (pw_and1 (pt_cmpR op_gt (pe_ix (r := rIx K) ix_seq (pv 3) pe_int (fun _ _ => rfl)) pe_int (nomark _)))))
        (pss_one (ps_ret pe_str))
        pss_nil)
      (pss_cons (ps_if (pt_cmpR op_eq (pe_ix (r := rIx K) ix_seq (pv 2) pe_int (fun _ _ => rfl)) pe_str (nomark _))
        (pss_one (ps_ret (pe_call G_law_steps (hr.mono (by omega)) rfl T.g_law_steps T.F_law_steps.kp T.b_law_steps .nil pass0 (pa_cons (pe_ix (r := rIx K) ix_seq (pv 0) pe_int (fun _ _ => rfl)) (pa_cons (pe_ix (r := rIx K) ix_seq (pv 3) pe_int (fun _ _ => rfl)) pa_nil)))))
        pss_nil)
      (pss_one (ps_ret (pe_call G_law_deed (hr.mono (by omega)) rfl T.g_law_deed T.F_law_deed.kp T.b_law_deed .nil (passes_call (takes_of rfl rfl rfl rfl) (fun _ _ _ _ h => h)) (pa_cons (pe_ix (r := rIx K) ix_seq (pv 0) pe_int (fun _ _ => rfl)) (pa_cons (pe_ix (r := rIx K) ix_seq (pv 2) pe_int (fun _ _ => rfl)) (pa_cons (pv 3) pa_nil))))))))))))), ?_⟩
    have hc := T.cl_Ring
    obtain ⟨sl1, sl2⟩ := split_len line
    have sne := split_ne line
    have ea : ansX o line = match parse (Txt.split line " ") with | none => .ok (nu, o) | some c => doO o c := rfl
    k_allIn
    refine w_split (by decide +kernel) (Nat.le_of_lt (small (by omega))) fun q H1 nq s1 e1 => ?_
    generalize Txt.split line " " = ws at *
    obtain ⟨v, as, rfl⟩ : ∃ v r, ws = v :: r := by
      cases ws with
      | nil => exact absurd rfl sne
      | cons v r => exact ⟨v, r, rfl⟩
    have lcnt : as.length + 1 ≤ 50001 := by rw [List.length_cons] at sl1; omega
    k_allIn
    refine ⟨q, _, rfl, SqL.of e1, fun q2 nq2 => ?_⟩
    rw [show (1 : Int) = ((1 : Nat) : Int) from rfl, cut_from]
    have s2 := same_new (o := HO.lst (((v :: as).map V.str).drop 1)) nq2
    have e2 := upd_same (H := H1) (a := q2) (o := HO.lst (((v :: as).map V.str).drop 1))
    generalize upd H1 q2 (HO.lst (((v :: as).map V.str).drop 1)) = H2 at *
    have e2' : H2 q2 = some (.lst (as.map V.str)) := e2
    k_allIn
    refine fun D nD => ?_
    refine lc_list (K := K) (a := q2) (xs := as.map V.str) (Pv := fun j H' => Same H2 H' ∧ H' D = some (.lst ((as.take j).map fun x => if numW x = true then V.int ((valW x : Nat) : Int) else .non))) ⟨same_new nD, upd_same⟩ (fun j H' _ ⟨s, _⟩ => SqL.of (s _ _ e2')) ?_ ?_
    · rintro j y H3 hy ⟨s3, e3⟩
      obtain ⟨x, hx, rfl⟩ := get_map hy
      have hj : j < as.length := (List.getElem?_eq_some_iff.mp hx).1
      k_allIn
      refine ⟨rfl, ?_⟩
      k_allIn
      refine ⟨x, rfl, by have := sl2 x (List.mem_cons_of_mem _ (List.mem_of_getElem? hx)); omega, fun H4 s4 => ?_⟩
      refine ⟨_, s4 _ _ e3, small (by rw [List.length_map, List.length_take]; omega), same_mut (s3.trans s4) nD, ?_⟩
      rw [upd_same, List.take_add_one, hx, List.map_append]
      rfl
    · rintro H3 ⟨s3, e3⟩
      rw [List.length_map, List.take_length] at e3
      have e3q := s3 _ _ (s2 _ _ e1)
      k_allIn
      refine fun d4 nd4 => ?_
      have ed4 := upd_same (H := H3) (a := d4) (o := HO.dK [])
      have s4 := same_new (o := HO.dK []) nd4
      have S4 := (s2.trans s3).trans s4
      k_allIn
      refine w_dispK (kvs := lawKvs) nd4 (Same.refl _) rfl (by decide) fun H5 s5 e5 => ?_
      have e5' : H5 d4 = some (.dK lawKvs) := e5
      have e5q := s5 _ _ e3q
      refine w_dget2K e5' ?_
      k_allIn
      refine ⟨_, DGet.k (k := Sum.inr v) e5', ?_⟩
      rw [lawV]
      k_allIn
      have eD5 := s5 _ _ e3
      have S5 : Same H H5 := ((s1.trans s2).trans s3).trans s5
      have hh5 := hh.same S5
      refine w_inK (SqL.of eD5) rfl ?_ ?_
      · rw [List.all_map]
        refine List.all_eq_true.mpr fun x _ => ?_
        show flatV (if numW x = true then V.int _ else .non) = true
        split <;> rfl
      rw [inV_num]
      cases ha : as.all numW with
      | false =>
        k_allIn
        exact kk nu o rl H5 (by rw [ea, parse_cons, if_neg (by rw [ha]; decide)]) hh5 (.of S5)
      | true =>
        k_allIn
        rw [List.length_map, List.length_cons]
        by_cases hi : lookN v numKvs = some (as.length : Int)
        · have hm : (match lookN v numKvs with | some i => i + 1 | none => 0) = ((as.length + 1 : Nat) : Int) := by
            rw [hi]
            show (as.length : Int) + 1 = _
            omega
          rw [hm]
          k_allIn
          obtain ⟨cmd, hp⟩ : ∃ cmd, parse (v :: as) = some cmd := Option.isSome_iff_exists.mp (by
            rw [← und_parse]
            show (decide (lookN v numKvs = some (as.length : Int)) && as.all numW) = true
            rw [decide_eq_true hi, ha]
            rfl)
          obtain ⟨as', e', _, hval⟩ := parse_some hp
          injection e' with ev eas
          subst eas
          rw [hp] at ea
          have ea2 : ansX o line = doO o cmd := ea
          rw [map_num ha, hval] at eD5
          subst ev
          by_cases hring : ∃ n, cmd = .ring n
          · obtain ⟨n, rfl⟩ := hring
            have eD5' : H5 D = some (.lst [.int (n : Int)]) := eD5
            rw [show decide (V.str (cmdW (.ring n)) = V.str "ring") = true from decide_eq_true rfl]
            refine w_newS (by simp) fun z H6 nz s6 e6 => ?_
            have S6 := S5.trans s6
            have hh6 := hh5.same s6
            have eD6 := s6 _ _ eD5'
            have e6q := s6 _ _ e5q
            k_allIn
            cases o with
            | some R =>
              obtain ⟨A, h1, h2, h3⟩ := id hh6
              have h2' : H6 L = some (.lst [.ref A.P]) := h2
              refine w_neE (SqL.of h2') (SqL.of e6) ?_
              k_allIn
              exact kk nu (some R) rl H6 (by rw [ea2]; rfl) hh6 (.of S6)
            | none =>
              obtain ⟨h2, h3, h4⟩ := id hh6
              have h2' : H6 L = some (.lst []) := h2
              refine w_neE (SqL.of h2') (SqL.of e6) ?_
              k_allIn
              rw [show decide (V.str (cmdW (.ring n)) = V.str "ring") = true from decide_eq_true rfl]
              k_allIn
              refine fun pp dp np ndp _ => ⟨pp, dp, _, H6, rl, rfl, upd_same, .int _, h4, same_born np ndp, np, by decide, fun m e g1 g2 A0 rl0 H0 hA0 eP0 m0 => ⟨rfl, ?_⟩, fun z => ?_⟩
              · have e' : m = n := by injection e with z; omega
                subst e'
                subst eP0
                have hL0 := m0.out h2' (.inr (by rw [h3]; decide))
                have rL0 : rl0 L = 9000 := (m0.ag L (yesO h2' fun _ z => (nomatch z))).trans h3
                k_allIn
                refine w_append hL0 (by decide) ?_
                k_allIn
                refine kk "ring" (some (RG.ring0 m)) rl0 _ (by rw [ea2]; simp only [doO]; rw [if_pos ⟨g1, g2⟩]) ⟨A0, hA0.far hL0 (fun _ z => (nomatch z)) (by rw [rL0]; decide) fun _ z => (nomatch z), upd_same, rL0⟩ ((Mw.of S6).trans ((m0.wide (by decide) (by decide)).trans (.upd hL0 fix_lst (by rw [rL0]; decide) (by rw [rL0]; decide) fun _ z => (nomatch z))))
              · refine ke .ring _ ?_ (S6.trans (same_born np ndp))
                rw [ea2]
                simp only [doO]
                rw [if_neg]
                intro hn
                exact numI_not ⟨by omega, by omega⟩ z
          · have hv : cmdW cmd ≠ "ring" := by
              cases cmd with
              | ring n => exact absurd ⟨n, rfl⟩ hring
              | _ => show (_ : Str) ≠ _; simp only [cmdW]; decide +kernel
            have hvd : decide (V.str (cmdW cmd) = V.str "ring") = false := decide_eq_false fun z => hv (V.str.inj z)
            rw [hvd]
            refine w_newS (by simp) fun z H6 nz s6 e6 => ?_
            have S6 := S5.trans s6
            have hh6 := hh5.same s6
            have eD6 := s6 _ _ eD5
            have e6q := s6 _ _ e5q
            k_allIn
            cases o with
            | none =>
              obtain ⟨h2, h3, h4⟩ := id hh6
              have h2' : H6 L = some (.lst []) := h2
              refine w_neE (SqL.of h2') (SqL.of e6) ?_
              k_allIn
              refine kk nu none rl H6 ?_ hh6 (.of S6)
              rw [ea2]
              cases cmd with
              | ring n => exact absurd ⟨n, rfl⟩ hring
              | _ => rfl
            | some R =>
              obtain ⟨A, h1, h2, h3⟩ := id hh6
              have h2' : H6 L = some (.lst [.ref A.P]) := h2
              refine w_neE (SqL.of h2') (SqL.of e6) ?_
              k_allIn
              rw [show decide (V.bl false = V.bl (!([V.ref A.P] : List V).isEmpty)) = false from rfl]
              k_allIn
              rw [hvd]
              k_allIn
              by_cases hst : ∃ n, cmd = .steps n
              · obtain ⟨n, rfl⟩ := hst
                have eD6' : H6 D = some (.lst [.int (n : Int)]) := eD6
                have hsd : decide (V.str (cmdW (.steps n)) = V.str "steps") = true := decide_eq_true rfl
                rw [hsd]
                k_allIn
                by_cases hn : n ≤ 1000
                · refine i_dF (by omega) ?_
                  k_allIn
                  rw [hsd]
                  k_allIn
                  refine ⟨A, rl, R, n, k, rfl, h1, hb, hk, hn, by decide, fun A' rl' H' h' eP m => ?_⟩
                  exact kk _ (some (stepN n R)) rl' H' (by rw [ea2]; simp only [doO, doC]; rw [if_pos hn]) ⟨A', h', by rw [eP]; exact m.out h2' (.inr (by rw [h3]; decide)), (m.ag L (yesO h2' fun _ z => (nomatch z))).trans h3⟩ ((Mw.of S6).trans (m.wide (by decide) (by decide)))
                · refine i_dT (by omega) ?_
                  k_allIn
                  exact kk nu (some R) rl H6 (by rw [ea2]; simp only [doO, doC]; rw [if_neg hn]) hh6 (.of S6)
              · have hw : cmdW cmd ≠ "steps" := by
                  cases cmd with
                  | steps n => exact absurd ⟨n, rfl⟩ hst
                  | _ => show (_ : Str) ≠ _; simp only [cmdW]; decide +kernel
                have hsd : decide (V.str (cmdW cmd) = V.str "steps") = false := decide_eq_false fun z => hw (V.str.inj z)
                rw [hsd]
                k_allIn
                rw [hsd]
                k_allIn
                refine ⟨A, rl, R, k, cmd, D, rfl, h1, eD6, hb, hk, by decide, fun n => ⟨fun z => hring ⟨n, z⟩, fun z => hst ⟨n, z⟩⟩, fun x S e A' rl' H' h' eP m => ?_, fun e he => ?_⟩
                · exact kk x (some S) rl' H' (by rw [ea2]; simp only [doO]; rw [e]) ⟨A', h', by rw [eP]; exact m.out h2' (.inr (by rw [h3]; decide)), (m.ag L (yesO h2' fun _ z => (nomatch z))).trans h3⟩ ((Mw.of S6).trans (m.wide (by decide) (by decide)))
                · exact ke e H6 (by rw [ea2]; simp only [doO]; rw [he]) S6
        · rw [show decide (V.int (match lookN v numKvs with | some i => i + 1 | none => 0) = V.int ((as.length + 1 : Nat) : Int)) = false from decide_eq_false fun z => hi (by
            have z' := V.int.inj z
            cases h : lookN v numKvs with
            | none =>
              rw [h] at z'
              have z2 : (0 : Int) = ((as.length + 1 : Nat) : Int) := z'
              exact absurd z2 (by omega)
            | some i =>
              rw [h] at z'
              have : i + 1 = ((as.length + 1 : Nat) : Int) := z'
              exact congrArg some (by omega))]
          k_allIn
          refine kk nu o rl H5 ?_ hh5 (.of S5)
          rw [ea]
          have : parse (v :: as) = none := Option.isNone_iff_eq_none.mp (by
            have h := und_parse (v :: as)
            rw [show und (v :: as) = (decide (lookN v numKvs = some (as.length : Int)) && as.all numW) from rfl, decide_eq_false hi, Bool.false_and] at h
            cases h2 : parse (v :: as) with
            | none => rfl
            | some c => rw [h2] at h; cases h)
          rw [this]
end
/-! ### k10: the law's tells -/
section
variable {P : Program} {w : World} {K : PySem.W.Frag} {mg : Str → Option Value} {base : Heap} {Z : Ad}
theorem ok_law_told (T : Txt K mg Z) : FnOk P w K mg base CX0 8 Z.law_told Z.law_told_d ["_law_rings", "_law_line"] (spLT Z) := by
  have G_law_answer := ok_law_answer (P := P) (w := w) (base := base) T
  refine T.F_law_told.ok sc_law_told (fun vs H Q E h => ?_) (fun cdv X outer s H vs Q E hr h => ?_)
  · obtain ⟨L, rl, o, k, line, rfl, _⟩ := h
    rfl
  · obtain ⟨L, rl, o, k, line, rfl, hh, hb, hk, hl, kk⟩ := h
    refine ⟨_, (pss_one (ps_try_many rfl rfl takes0
        (fun W pn xe tk _ => (pss_one (ps_ret (pe_callS G_law_answer (hr.mono (by omega)) rfl T.g_law_answer T.F_law_answer.kp T.b_law_answer (fun σ => passAt tk σ) (pa_cons (pv 0) (pa_cons (pv 1) pa_nil))))))
        (.cons ⟨rfl, by decide, .inl T.g_NoRing⟩ (fun a oe cls d pn hz hf => (pss_one (ps_ret pe_str)))
        (.cons ⟨rfl, by decide, .inl T.g_NoStation⟩ (fun a oe cls d pn hz hf => (pss_one (ps_ret pe_str)))
        (.cons ⟨rfl, by decide, .inl T.g_NoMessage⟩ (fun a oe cls d pn hz hf => (pss_one (ps_ret pe_str)))
        (.cons ⟨rfl, by decide, .inl T.g_IsOff⟩ (fun a oe cls d pn hz hf => (pss_one (ps_ret pe_str)))
        (.cons ⟨rfl, by decide, .inl T.g_IsOn⟩ (fun a oe cls d pn hz hf => (pss_one (ps_ret pe_str)))
        (.cons ⟨rfl, by decide, .inl T.g_NoToken⟩ (fun a oe cls d pn hz hf => (pss_one (ps_ret pe_str)))
        .nil)))))))), ?_⟩
    k_allIn
    refine ⟨L, rl, o, k, line, rfl, hh, hb, hk, hl, fun x o' rl' H' e h' m => ?_, fun e H' he s' => ?_⟩
    · rw [ans_ok e] at kk
      exact kk rl' H' h' m
    · rw [ans_er he] at kk
      have fin := kk rl H' (hh.same s') (.of s')
      refine six T e (fun z a cls d => ?_) (fun z a cls d => ?_) (fun z a cls d => ?_) (fun z a cls d => ?_) (fun z a cls d => ?_) (fun z a cls d => ?_)
      all_goals
        subst z
        k_allIn
        exact fin
theorem ok_law_answers (T : Txt K mg Z) : FnOk P w K mg base CX0 9 Z.law_answers Z.law_answers_d ["_law_lines"] spLAs := by
  have G_law_told := ok_law_told (P := P) (w := w) (base := base) T
  refine T.F_law_answers.ok sc_law_answers (fun vs H Q E h => ?_) (fun cdv X outer s H vs Q E hr h => ?_)
  · obtain ⟨a, lines, rfl, _⟩ := h
    rfl
  · obtain ⟨a, lines, rfl, ea, h40, hls, kk⟩ := h
    refine ⟨_, (pss_cons (ps_set (i := 1) sc_law_answers.nd rfl (Or.inr rfl) (pe_lst pa_nil))
      (pss_one (ps_ret (pe_lc (own := [("_law_line", 2)]) (g := gName 2) rfl sc_law_answers.nd (k_list (K := K) (pv 0)) (blkOk_by (own := [("_law_line", 2)]) (N := ["_law_lines", "_law_rings", "_law_line"]) (sc := defScope s_law_answers) (by decide +kernel)) (fun _ _ _ _ _ => pg_name (i := 2) sc_law_answers.nd rfl (Or.inl rfl)) (fun _ _ _ _ _ => pts_nil) (fun _ _ _ _ _ => (pe_call G_law_told (hr.mono (by omega)) rfl T.g_law_told T.F_law_told.kp T.b_law_told .nil pass0 (pa_cons (pv 1) (pa_cons (pv 2) pa_nil)))))))), ?_⟩
    k_allIn
    refine w_newS (by simp) fun L H1 nL s1 e1 => ?_
    have aL : a ≠ L := ne_of_none ea nL
    have d1 : Rl (rlN (fun _ => 9999) L 9000) H1 := fun x z => by
      by_cases q : x = L
      · subst q
        exact absurd z (yesO e1 fun _ z => (nomatch z))
      · exact rlN_ne _ _ q
    have hh1 : Hold Z (rlN (fun _ => 9999) L 9000) H1 L fL none := ⟨e1, rlN_at _ _ _, d1⟩
    have ea1 := s1 _ _ ea
    k_allIn
    refine fun D nD => ?_
    have LD : L ≠ D := ne_of_none e1 nD
    have aD : a ≠ D := ne_of_none ea1 nD
    refine lc_list (K := K) (a := a) (xs := lines.map V.str) (Pv := fun j H' => ∃ rl' : Addr → Nat, Hold Z rl' H' L fL (runL none (lines.take j)).2 ∧ H' a = some (.lst (lines.map V.str)) ∧ H' D = some (.lst ((runL none (lines.take j)).1.map V.str)) ∧ rl' a = 9999 ∧ rl' D = 9999 ∧ Mw 1000 9500 (rlN (fun _ => 9999) L 9000) H1 rl' H')
      ⟨_, hh1.same (same_new nD), upd_at ea1 aD, upd_same, rlN_ne _ _ aL, rlN_ne _ _ LD.symm, .of (same_new nD)⟩ (fun j H' _ ⟨_, _, e, _⟩ => SqL.of e) ?_ ?_
    · rintro j y H4 hy ⟨rl4, hh4, e4a, e4D, r4a, r4D, m4⟩
      obtain ⟨line, hline, rfl⟩ := get_map hy
      have hj : j < lines.length := (List.getElem?_eq_some_iff.mp hline).1
      have ob := OB.run (ls := lines) (j := j) (by omega) (by omega)
      have hrun := runL_take hline none
      have hlen := runL_len (lines.take j) none
      generalize runL none (lines.take j) = U at *
      k_allIn
      refine ⟨rfl, ?_⟩
      k_allIn
      refine ⟨L, rl4, U.2, j, line, rfl, hh4, ob, by omega, hls line (List.mem_of_getElem? hline), fun rl5 H5 h5 m5 => ?_⟩
      have e5D := m5.out e4D (.inr (by rw [r4D]; decide))
      have e5a := m5.out e4a (.inr (by rw [r4a]; decide))
      have r5D : rl5 D = 9999 := (m5.ag _ (yesO e4D fun _ z => (nomatch z))).trans r4D
      have r5a : rl5 a = 9999 := (m5.ag _ (yesO e4a fun _ z => (nomatch z))).trans r4a
      k_allIn
      refine ⟨_, e5D, small (by rw [List.length_map, hlen, List.length_take]; omega), rl5, ?_, upd_at e5a aD, ?_, r5a, r5D, (m4.trans m5).new nD fun _ z => (nomatch z)⟩
      · rw [hrun]
        exact h5.far e5D (by rw [r5D]; decide) LD
      · rw [upd_same, hrun, List.map_append]
        rfl
    · rintro H4 ⟨rl4, hh4, e4a, e4D, r4a, r4D, m4⟩
      rw [List.length_map, List.take_length] at e4D
      k_allIn
      refine kk D H4 (fun b o e => ?_) (none_of s1 nD) e4D
      have hbL : b ≠ L := ne_of_none e nL
      exact m4.kp b o (s1 _ _ e) (.inr (.inr (by rw [rlN_ne _ _ hbL]; decide)))
end
/-! ### k10: the law's rows -/
def kinds10 : List Str := ["put", "put", "put", "steps", "steps", "steps", "lose", "make", "off", "on", "tokens", "tokens"]
theorem pickL {L : List Str} {i : Int} (h0 : 0 ≤ i) (h1 : i < (L.length : Int)) : ∃ x, x ∈ L ∧ atI (L.map V.str) i = some (.str x) := by
  obtain ⟨j, rfl⟩ : ∃ j : Nat, i = (j : Int) := ⟨i.toNat, by omega⟩
  have hj : j < L.length := by omega
  exact ⟨L[j], List.getElem_mem hj, atI_nat (by rw [List.getElem?_map, List.getElem?_eq_getElem hj]; rfl)⟩
theorem pickG {α : Type} (f : α → V) {L : List α} {i : Int} (h0 : 0 ≤ i) (h1 : i < (L.length : Int)) : ∃ x, x ∈ L ∧ atI (L.map f) i = some (f x) := by
  obtain ⟨j, rfl⟩ : ∃ j : Nat, i = (j : Int) := ⟨i.toNat, by omega⟩
  have hj : j < L.length := by omega
  exact ⟨L[j], List.getElem_mem hj, atI_nat (by rw [List.getElem?_map, List.getElem?_eq_getElem hj]; rfl)⟩
def nI : Nat → V := fun n => .int (n : Int)
theorem kinds_lin : ∀ x, x ∈ kinds10 → Lin 20 x := by
  have : kinds10.all (linB 20) = true := by decide +kernel
  exact fun x m => Lin.of (List.all_eq_true.mp this x m)
theorem natOf {i : Int} {b : Nat} (h0 : 0 ≤ i) (h1 : i < (b : Int)) : ∃ n : Nat, i = (n : Int) ∧ n < b := ⟨i.toNat, by omega, by omega⟩
theorem modOf (i : Int) {b : Nat} (h : 0 < b) : ∃ n : Nat, i % (b : Int) = (n : Int) ∧ n < b := natOf (Int.emod_nonneg _ (by omega)) (Int.emod_lt_of_pos _ (by omega))
theorem w_dispK2 {p : Addr} {ps : List (V × V)} {H : Hp} {Q : VK} {kvs : List (Key × V)} (h : H p = some (.dK [])) (e : ps = kvs.map (fun kv => (kV kv.1, kv.2))) (l : kvs.length ≤ 15) (k : ∀ H', (∀ b o, H b = some o → b ≠ p → H' b = some o) → H' p = some (.dK (mergeK [] kvs)) → Q (.ref p) H') : dispK p ps H Q :=
  ⟨h, kvs, e, l, k _ (fun b o x n => upd_at x n) upd_same⟩
theorem w_intB {b : Bool} {H : Hp} {Q : VK} (k : Q (.int (if b then 1 else 0)) H) : rIntB [.bl b] H Q := .inr ⟨b, rfl, k⟩
theorem w_addSg {a b : Str} {H : Hp} {Q : VK} (h : (linB 200 (a ++ b) && decide (0 < (a ++ b).length) && decide (a.length + b.length ≤ 1000)) = true) (k : ∀ sm, Lin 200 sm → 0 < sm.length → Q (.str sm) H) : rAddS (.str a) (.str b) H Q := by
  rw [Bool.and_eq_true, Bool.and_eq_true] at h
  exact w_addS (Nat.le_trans (of_decide_eq_true h.2) (by decide)) (k _ (Lin.of h.1.1) (of_decide_eq_true h.1.2))
theorem w_addSl {a b : Str} {n m : Nat} {H : Hp} {Q : VK} (ha : Lin n a) (hb : Lin m b) (l : n + m ≤ 100000) (k : ∀ z, Lin (n + m) z → Q (.str z) H) : rAddS (.str a) (.str b) H Q := by
  have h1 := ha.len
  have h2 := hb.len
  exact w_addS (Nat.le_of_lt (small (by omega))) (k _ (ha.app hb))
theorem w_mulSc {a : Str} {n : Int} {H : Hp} {Q : VK} (h : MulOk a n) (hb : linB 40 (Txt.mul a n) = true) (k : ∀ z, Lin 40 z → Q (.str z) H) : rMulS (.str a) (.int n) H Q := w_mulS h (k _ (Lin.of hb))
def spLRow : Sp := fun vs H Q _ => ∃ (cell : Int) (kk many : Nat), vs = [.int cell, .int (kk : Int), .int (many : Int)] ∧ 1 ≤ many ∧ many ≤ 12 ∧ kk ≤ 1000 ∧ ∀ (x : Str) (H' : Hp), Same H H' → Lin 1000 x → Q (.str x) H'
section
variable {P : Program} {w : World} {K : PySem.W.Frag} {mg : Str → Option Value} {base : Heap} {Z : Ad}
theorem ok_law_row (T : Txt K mg Z) : FnOk P w K mg base CX0 2 Z.law_row Z.law_row_d ["_law_cell", "_law_k", "_law_many"] spLRow := by
  have G_law_mixed := ok_law_mixed (P := P) (w := w) (base := base) T
  refine T.F_law_row.ok sc_law_row (fun vs H Q E h => ?_) (fun cdv X outer s H vs Q E hr h => ?_)
  · obtain ⟨cell, kk, many, rfl, _⟩ := h
    rfl
  · obtain ⟨cell, kk, many, rfl, hm1, hm12, hkk, k⟩ := h
    refine ⟨_, (pss_cons (ps_set (i := 3) sc_law_row.nd rfl (Or.inl rfl) (pe_call G_law_mixed (hr.mono (by omega)) rfl T.g_law_mixed T.F_law_mixed.kp T.b_law_mixed .nil pass0 (pa_cons (pv 0) (pa_cons (pv 1) pa_nil))))
      (pss_cons (ps_set (i := 4) sc_law_row.nd rfl (Or.inl rfl) (pe_callTy (r := rStrI) call_str_int (by rfl) T.n_str (by decide +kernel) (pa_cons (pe_op op_mod (pe_op op_fdiv (pv 3) pe_int) (pe_op op_add (pv 2) pe_int)) pa_nil)))
      (pss_cons (ps_set (i := 5) sc_law_row.nd rfl (Or.inl rfl) (pe_ix (r := rIx K) ix_seq (pe_lst (pa_cons pe_str (pa_cons pe_str (pa_cons pe_str (pa_cons pe_str (pa_cons pe_str (pa_cons pe_str (pa_cons pe_str (pa_cons pe_str (pa_cons pe_str (pa_cons pe_str (pa_cons pe_str (pa_cons pe_str pa_nil))))))))))))) (pe_op op_mod (pv 3) pe_int) (fun _ _ => rfl)))
      (pss_cons (ps_set (i := 6) sc_law_row.nd rfl (Or.inl rfl) (pe_dget2 (hu_of hr) (pe_disp (pps_cons pe_str (pe_lst (pa_cons (pv 4) (pa_cons (pe_callTy (r := rStrI) call_str_int (by rfl) T.n_str (by decide +kernel) (pa_cons (pe_op op_mod (pe_op op_fdiv (pv 3) pe_int) pe_int) pa_nil)) (pa_cons (pe_callTy (r := rStrI) call_str_int (by rfl) T.n_str (by decide +kernel) (pa_cons (pe_op op_mod (pv 0) (pe_op op_add (pe_op op_pow pe_int pe_int) pe_int)) pa_nil)) pa_nil)))) (pps_cons pe_str (pe_lst pa_nil) pps_nil)) (by rfl) (by rfl) (fun z => by cases z) (by decide)) (pv 5) (pe_lst (pa_cons (pv 4) pa_nil)) ⟨rfl, rfl, rfl, rfl⟩))
      (Evl.pss_cut (ps_if (pt_cmpR op_eq (pv 5) pe_str (nomark _))
        (pss_one (ps_set (i := 6) sc_law_row.nd rfl (Or.inl rfl) (pe_lst (pa_cons (pe_callTy (r := rStrI) call_str_int (by rfl) T.n_str (by decide +kernel) (pa_cons (pe_ix (r := rIx K) ix_seq (pe_lst (pa_cons (pe_op op_mod (pe_op op_fdiv (pv 3) pe_int) pe_int) (pa_cons (pe_op op_mod (pe_op op_fdiv (pv 3) pe_int) pe_int) pa_nil))) (pe_op op_mod (pe_op op_fdiv (pv 3) pe_int) pe_int) (fun _ _ => rfl)) pa_nil)) pa_nil))))
        pss_nil)
      (Evl.pss_cut (ps_if (PW.pt (pw_and (pt_cmpR op_eq (pv 5) pe_str (nomark _)) (pw_and1 (pt_cmpR op_eq (pv 1) pe_int (nomark _)))))
        (pss_one (ps_set (i := 6) sc_law_row.nd rfl (Or.inl rfl) (pe_lst (pa_cons (pe_callTy (r := rStrI) call_str_int (by rfl) T.n_str (by decide +kernel) (pa_cons (pe_ix (r := rIx K) ix_seq (pe_lst (pa_cons (pe_ix (r := rIx K) ix_seq (pe_lst (pa_cons pe_int (pa_cons pe_int pa_nil))) (pe_callTy (r := rIntB) call_int1 (by rfl) T.n_int (by decide +kernel) (pa_cons (pe_cmpR op_lt (pv 2) pe_int (nomark _)) pa_nil)) (fun _ _ => rfl)) (pa_cons pe_int (pa_cons pe_int (pa_cons pe_int pa_nil))))) (pe_op op_mod (pe_op op_fdiv (pv 3) pe_int) pe_int) (fun _ _ => rfl)) pa_nil)) pa_nil))))
        pss_nil)
      (pss_cons (ps_set (i := 7) sc_law_row.nd rfl (Or.inl rfl) (k_bm (K := K) PySem.F.plainAttrs_str PySem.F.slot_str_join PySem.F.type_str_join (r := rJoin K) mt_join pe_str (pa_cons (pe_op op_cat (pe_lst (pa_cons (pv 5) pa_nil)) (pv 6)) pa_nil)))
      (pss_cons (ps_if (pt_cmpR op_eq (pe_op op_mod (pe_op op_fdiv (pv 3) pe_int) pe_int) pe_int (nomark _))
        (pss_cons (ps_set (i := 8) sc_law_row.nd rfl (Or.inl rfl) (pe_op op_mod (pe_op op_fdiv (pe_call G_law_mixed (hr.mono (by omega)) rfl T.g_law_mixed T.F_law_mixed.kp T.b_law_mixed .nil pass0 (pa_cons (pv 3) (pa_cons pe_int pa_nil))) pe_int) (pe_op op_add (pe_callB (r := rLenT) call_len_str (by rfl) T.n_len PySem.boot_len (pa_cons (pv 7) pa_nil)) pe_int)))
        (pss_cons (ps_set (i := 9) sc_law_row.nd rfl (Or.inl rfl) pe_str)
        (pss_cons (ps_set (i := 9) sc_law_row.nd rfl (Or.inl rfl) (pe_op (r := rAddS) op_add_str (pv 9) pe_str))
        (pss_cons (ps_set (i := 10) sc_law_row.nd rfl (Or.inl rfl) (pe_op (r := rAddS) op_add_str (pe_op (r := rAddS) op_add_str (pe_slice (r := rSlS) sl_str (pv 7) po_none (po_some (pv 8))) (pe_ix (r := rIx K) ix_seq (pv 9) (pe_op op_mod (pe_op op_fdiv (pv 3) pe_int) (pe_callB (r := rLenT) call_len_str (by rfl) T.n_len PySem.boot_len (pa_cons (pv 9) pa_nil))) (fun _ _ => rfl))) (pe_slice (r := rSlS) sl_str (pv 7) (po_some (pv 8)) po_none)))
        (pss_cons (ps_if (pt_cmpR op_eq (pe_op op_mod (pe_op op_fdiv (pv 3) pe_int) pe_int) pe_int (nomark _))
          (pss_one (ps_ret (pv 10)))
          pss_nil)
        (pss_cons (ps_set (i := 11) sc_law_row.nd rfl (Or.inl rfl) (pe_lst (pa_cons (pe_op (r := rAddS) op_add_str (pv 7) pe_str) (pa_cons (pe_op (r := rAddS) op_add_str pe_str (pv 7)) (pa_cons (pe_op (r := rAddS) op_add_str (pe_op (r := rAddS) op_add_str (pe_slice (r := rSlS) sl_str (pv 7) po_none (po_some (pv 8))) pe_str) (pe_slice (r := rSlS) sl_str (pv 7) (po_some (pv 8)) po_none)) (pa_cons (pe_op (r := rAddS) op_add_str (pv 7) pe_str) (pa_cons (pv 5) (pa_cons pe_str (pa_cons pe_str (pa_cons pe_str pa_nil))))))))))
        (pss_cons (ps_set (i := 11) sc_law_row.nd rfl (Or.inl rfl) (pe_op op_cat (pv 11) (pe_lst (pa_cons pe_str (pa_cons pe_str (pa_cons (pe_op (r := rAddS) op_add_str pe_str (pe_op (r := rMulS) op_mulS pe_str pe_int)) (pa_cons (pe_op (r := rAddS) op_add_str pe_str (pe_op (r := rMulS) op_mulS pe_str pe_int)) pa_nil)))))))
        (pss_one (ps_ret (pe_ix (r := rIx K) ix_seq (pe_op op_cat (pv 11) (pe_lst (pa_cons (k_bm0 (K := K) PySem.F.plainAttrs_str PySem.F.slot_str_upper PySem.F.type_str_upper (r := rUpper) mt_upper (pv 7)) (pa_cons pe_str (pa_cons pe_str pa_nil))))) (pe_op op_mod (pe_op op_fdiv (pv 3) pe_int) pe_int) (fun _ _ => rfl)))))))))))
        pss_nil)
      (pss_one (ps_ret (pv 7))))))))))), ?_⟩
    k_allIn
    refine ⟨_, _, rfl, by omega, by omega, ?_⟩
    have hp0 := mix_lo cell (kk : Int)
    generalize mix cell (kk : Int) = pick at *
    k_allIn
    obtain ⟨n, en, hn⟩ := modOf (pick / 16) (b := many + 1) (by omega)
    rw [show ((many : Int) + 1) = ((many + 1 : Nat) : Int) by omega, en]
    refine w_strI (pow20 (by omega)) ?_
    k_allIn
    refine w_newS (by simp) fun l1 H1 nl1 s1 e1 => ?_
    k_allIn
    have e1' : H1 l1 = some (.lst (kinds10.map V.str)) := e1
    obtain ⟨kd, hkd, ekd⟩ := pickL (L := kinds10) (i := pick % 12) (Int.emod_nonneg _ (by decide)) (Int.emod_lt_of_pos _ (by decide))
    refine w_ixL (SqL.of e1') ekd ?_
    k_allIn
    refine fun d nd => ?_
    k_allIn
    obtain ⟨a1, ea1, ha1⟩ := modOf (pick / 300) (b := 9) (by decide)
    rw [show pick / 300 % 9 = (a1 : Int) from ea1]
    refine w_strI (pow20 (by omega)) ?_
    k_allIn
    obtain ⟨a2, ea2, ha2⟩ := modOf cell (b := 1000000001) (by decide)
    rw [show cell % (10 ^ Int.toNat 9 + 1) = (a2 : Int) from ea2]
    refine w_strI (pow20 (by omega)) ?_
    k_allIn
    refine w_newS (by simp) fun l2 H2 nl2 s2 e2 => ?_
    k_allIn
    refine w_newS (by simp) fun l3 H3 nl3 s3 e3 => ?_
    k_allIn
    have ed3 : H3 d = some (.dK []) := s3 _ _ (s2 _ _ upd_same)
    refine w_dispK2 (kvs := [(.inr "put", .ref l2), (.inr "tokens", .ref l3)]) ed3 rfl (by simp) fun H4 k4 e4 => ?_
    have e4' : H4 d = some (.dK [(.inr "put", .ref l2), (.inr "tokens", .ref l3)]) := e4
    have ne2 : l2 ≠ d := (ne_of_none (upd_same (H := H1) (a := d) (o := HO.dK [])) nl2).symm
    have ne3 : l3 ≠ d := (ne_of_none (s2 _ _ upd_same) nl3).symm
    have e4_2 := k4 _ _ (s3 _ _ e2) ne2
    have e4_3 := k4 _ _ e3 ne3
    have S4 : Same H H4 := fun b o e => k4 b o (s3 _ _ (s2 _ _ (upd_other (s1 _ _ e) nd))) (ne_of_none (s1 _ _ e) nd)
    refine w_dget2K e4' ?_
    k_allIn
    refine w_newS (by simp) fun l5 H5 nl5 s5 e5 => ?_
    have e5d := s5 _ _ e4'
    refine ⟨_, DGet.k (k := Sum.inr kd) e5d, ?_⟩
    have Ln : Lin 20 (numT n) := .num (pow20 (by omega))
    obtain ⟨l, ws, el, hl, hlw, hLin⟩ : ∃ (l : Addr) (ws : List Str), (valV [((Sum.inr "put" : Key), V.ref l2), (.inr "tokens", .ref l3)] (.inr kd)).getD (.ref l5) = .ref l ∧ H5 l = some (.lst (ws.map V.str)) ∧ ws.length ≤ 3 ∧ ∀ x, x ∈ ws → Lin 20 x := by
      have hd : ∀ s : Str, (decide ((Sum.inr s : Key) = .inr kd)) = decide (s = kd) := fun s => decide_eq_decide.mpr ⟨fun z => Sum.inr.inj z, fun z => congrArg _ z⟩
      by_cases q1 : ("put" : Str) = kd
      · refine ⟨l2, [numT n, numT a1, numT a2], ?_, s5 _ _ e4_2, by simp, fun x m => ?_⟩
        · unfold valV
          simp only [List.find?_cons, hd, decide_eq_true q1, Option.map_some, Option.getD_some]
        · simp only [List.mem_cons, List.not_mem_nil, or_false] at m
          rcases m with rfl | rfl | rfl
          · exact Ln
          · exact .num (pow20 (by omega))
          · exact .num (pow20 (by omega))
      · by_cases q2 : ("tokens" : Str) = kd
        · refine ⟨l3, [], ?_, s5 _ _ e4_3, by simp, fun x m => by cases m⟩
          unfold valV
          simp only [List.find?_cons, hd, decide_eq_false q1, decide_eq_true q2, Option.map_some, Option.getD_some]
        · refine ⟨l5, [numT n], ?_, e5, by simp, fun x m => by rw [List.mem_singleton.mp m]; exact Ln⟩
          unfold valV
          simp only [List.find?_cons, hd, decide_eq_false q1, decide_eq_false q2, List.find?_nil, Option.map_none, Option.getD_none]
    rw [el]
    have S5 := S4.trans s5
    k_allIn
    refine ⟨fun σ' H' => ∃ (l : Addr) (ws : List Str), σ' = [some (.int cell), some (.int (kk : Int)), some (.int (many : Int)), some (.int pick), some (.str (numT n)), some (.str kd), some (.ref l), none, none, none, none, none] ∧ Same H H' ∧ H' l = some (.lst (ws.map V.str)) ∧ ws.length ≤ 3 ∧ ∀ x, x ∈ ws → Lin 20 x, ?_, ?_⟩
    · k_allIn
      by_cases hst : kd = "steps"
      · rw [show decide (V.str kd = V.str "steps") = true from decide_eq_true (by rw [hst])]
        k_allIn
        obtain ⟨x1, ex1, hx1⟩ := modOf (pick / 16) (b := 12) (by decide)
        obtain ⟨x2, ex2, hx2⟩ := modOf (pick / 16) (b := 4) (by decide)
        rw [show pick / 16 % 12 = (x1 : Int) from ex1, show pick / 16 % 4 = (x2 : Int) from ex2]
        refine w_newS (by simp) fun l6 H6 nl6 s6 e6 => ?_
        have e6' : H6 l6 = some (.lst ([x1, x2].map nI)) := e6
        k_allIn
        obtain ⟨v, hv, ev⟩ := pickG nI (L := [x1, x2]) (i := pick / 700 % 2) (Int.emod_nonneg _ (by decide)) (Int.emod_lt_of_pos _ (by decide))
        refine w_ixL (SqL.of e6') ev ?_
        have hv' : v ≤ 12 := by
          simp only [List.mem_cons, List.not_mem_nil, or_false] at hv
          omega
        rw [show nI v = .int (v : Int) from rfl]
        k_allIn
        refine w_strI (pow20 (by omega)) ?_
        k_allIn
        refine w_newS (by simp) fun l7 H7 nl7 s7 e7 => ?_
        k_allIn
        exact ⟨l7, [numT v], rfl, S5.trans (s6.trans s7), e7, by simp, fun x m => by rw [List.mem_singleton.mp m]; exact .num (pow20 (by omega))⟩
      · rw [show decide (V.str kd = V.str "steps") = false from decide_eq_false fun z => hst (V.str.inj z)]
        k_allIn
        exact ⟨l, ws, rfl, S5, hl, hlw, hLin⟩
    · rintro σ' H6 ⟨l6, ws6, rfl, S6, e6, hw6, hL6⟩
      k_allIn
      refine ⟨fun σ' H' => ∃ (l : Addr) (ws : List Str), σ' = [some (.int cell), some (.int (kk : Int)), some (.int (many : Int)), some (.int pick), some (.str (numT n)), some (.str kd), some (.ref l), none, none, none, none, none] ∧ Same H H' ∧ H' l = some (.lst (ws.map V.str)) ∧ ws.length ≤ 3 ∧ ∀ x, x ∈ ws → Lin 20 x, ?_, ?_⟩
      · k_allIn
        by_cases hst : kd = "steps"
        · rw [show decide (V.str kd = V.str "steps") = true from decide_eq_true (by rw [hst])]
          k_allIn
          by_cases h7 : kk = 7
          · rw [show decide (V.int (kk : Int) = V.int 7) = true from decide_eq_true (by rw [h7]; rfl)]
            k_allIn
            refine w_newS (by simp) fun l7 H7 nl7 s7 e7 => ?_
            k_allIn
            refine w_intB ?_
            obtain ⟨v0, hv0, ev0⟩ : ∃ v0 : Nat, v0 ≤ 1000 ∧ atI [V.int 150, V.int 1000] (if decide ((many : Int) < 5) then 1 else 0) = some (.int (v0 : Int)) := by
              cases decide ((many : Int) < 5) with
              | true => exact ⟨1000, by decide, rfl⟩
              | false => exact ⟨150, by decide, rfl⟩
            refine w_ixL (SqL.of e7) ev0 ?_
            k_allIn
            refine w_newS (by simp) fun l8 H8 nl8 s8 e8 => ?_
            have e8' : H8 l8 = some (.lst ([v0, 1001, 1001, 20].map nI)) := e8
            k_allIn
            obtain ⟨v, hv, ev⟩ := pickG nI (L := [v0, 1001, 1001, 20]) (i := pick / 700 % 4) (Int.emod_nonneg _ (by decide)) (Int.emod_lt_of_pos _ (by decide))
            refine w_ixL (SqL.of e8') ev ?_
            have hv' : v ≤ 1001 := by
              simp only [List.mem_cons, List.not_mem_nil, or_false] at hv
              omega
            rw [show nI v = .int (v : Int) from rfl]
            k_allIn
            refine w_strI (pow20 (by omega)) ?_
            k_allIn
            refine w_newS (by simp) fun l9 H9 nl9 s9 e9 => ?_
            k_allIn
            exact ⟨l9, [numT v], rfl, S6.trans ((s7.trans s8).trans s9), e9, by simp, fun x m => by rw [List.mem_singleton.mp m]; exact .num (pow20 (by omega))⟩
          · rw [show decide (V.int (kk : Int) = V.int 7) = false from decide_eq_false fun z => h7 (by injection z with z; omega)]
            k_allIn
            exact ⟨l6, ws6, rfl, S6, e6, hw6, hL6⟩
        · rw [show decide (V.str kd = V.str "steps") = false from decide_eq_false fun z => hst (V.str.inj z)]
          k_allIn
          exact ⟨l6, ws6, rfl, S6, e6, hw6, hL6⟩
      · rintro σ' H7 ⟨l7, ws7, rfl, S7, e7, hw7, hL7⟩
        k_allIn
        refine w_newS (by simp) fun l8 H8 nl8 s8 e8 => ?_
        k_allIn
        refine w_cat e8 (s8 _ _ e7) (by rw [List.length_map]; show 1 + ws7.length ≤ _; exact Nat.le_trans (show 1 + ws7.length ≤ 4 by omega) (by decide)) fun l9 H9 nl9 s9 e9 => ?_
        have e9' : H9 l9 = some (.lst ((kd :: ws7).map V.str)) := e9
        have hlin : ∀ x, x ∈ kd :: ws7 → Lin 20 x := fun x m => by
          rcases List.mem_cons.mp m with rfl | m
          · exact kinds_lin x hkd
          · exact hL7 x m
        have S9 := S7.trans (s8.trans s9)
        k_allIn
        refine w_join (SqL.of e9') ?_ ?_
        · have h1 := sum_le (b := 20) (ys := kd :: ws7) fun y m => (hlin y m).len
          have : (" " : Str).length = 1 := by decide +kernel
          rw [this]
          rw [List.length_cons] at h1 ⊢
          omega
        have hline : Lin 84 (Txt.join " " (kd :: ws7)) := Lin.join (n := 20) (k := 4) (Lin.of (by decide +kernel)) hlin (by rw [List.length_cons]; omega)
        generalize Txt.join " " (kd :: ws7) = line at *
        have hll := hline.len
        k_allIn
        by_cases c8 : pick / 12 % 8 = 0
        · rw [show decide (V.int (pick / 12 % 8) = V.int 0) = true from decide_eq_true (by rw [c8])]
          k_allIn
          refine ⟨_, _, rfl, by omega, by omega, ?_⟩
          generalize mix pick 3 = at0 at *
          k_allIn
          refine w_lenStr (Nat.le_of_lt (small (by omega))) ?_
          k_allIn
          generalize at0 / 8 % ((line.length : Int) + 1) = at_ at *
          refine w_addSg (by decide +kernel) fun sm hsm psm => ?_
          have psmI : (0 : Int) < (sm.length : Int) := by omega
          have hsl := hsm.len
          k_allIn
          refine w_slS (Nat.le_of_lt (small (by omega))) ?_
          have c1 := hline.cut none (some at_)
          have c2 := hline.cut (some at_) none
          generalize cutS line none (some at_) = lp at *
          k_allIn
          refine w_lenStr (Nat.le_of_lt (small (by omega))) ?_
          k_allIn
          obtain ⟨i, ei, hi⟩ := modOf (pick / 1440) psm
          rw [show pick / 1440 % (sm.length : Int) = (i : Int) from ei]
          have hi' : i < (tl sm).length := by rw [← len_tl]; exact hi
          have hsc := List.getElem?_eq_getElem hi'
          have hsl1 := hsm.one (List.getElem_mem hi')
          generalize (tl sm)[i] = sc at *
          refine w_ixS (Nat.le_of_lt (small (by omega))) (atI_nat hsc) ?_
          refine w_addSl c1 hsl1 (by decide) fun z1 hz1 => ?_
          k_allIn
          refine w_slS (Nat.le_of_lt (small (by omega))) ?_
          generalize cutS line (some at_) none = ls at *
          refine w_addSl hz1 c2 (by decide) fun put hput => ?_
          k_allIn
          by_cases c96 : pick / 96 % 2 = 0
          · rw [show decide (V.int (pick / 96 % 2) = V.int 0) = true from decide_eq_true (by rw [c96])]
            k_allIn
            exact k put H9 S9 (hput.le (by decide))
          · rw [show decide (V.int (pick / 96 % 2) = V.int 0) = false from decide_eq_false fun z => c96 (V.int.inj z)]
            k_allIn
            have d1 : Lin 1 " " := .of (by decide +kernel)
            refine w_addSl hline d1 (by decide) fun o1 ho1 => ?_
            k_allIn
            refine w_addSl d1 hline (by decide) fun o2 ho2 => ?_
            k_allIn
            refine w_slS (Nat.le_of_lt (small (by omega))) ?_
            have c3 := hline.cut none (some at_)
            generalize cutS line none (some at_) = lp2 at *
            k_allIn
            refine w_addSl c3 d1 (by decide) fun o3 ho3 => ?_
            k_allIn
            refine w_slS (Nat.le_of_lt (small (by omega))) ?_
            have c4 := hline.cut (some at_) none
            generalize cutS line (some at_) none = ls2 at *
            refine w_addSl ho3 c4 (by decide) fun o4 ho4 => ?_
            k_allIn
            refine w_addSl hline (Lin.of (n := 2) (by decide +kernel)) (by decide) fun o5 ho5 => ?_
            k_allIn
            refine w_newS (by simp) fun l10 H10 nl10 s10 e10 => ?_
            k_allIn
            refine w_mulSc ⟨by decide, fun _ _ => by decide +kernel, fun _ _ => by decide +kernel⟩ (by decide +kernel) fun m1 hm1' => ?_
            refine w_addSl (Lin.of (n := 8) (by decide +kernel)) hm1' (by decide) fun o6 ho6 => ?_
            k_allIn
            refine w_mulSc ⟨by decide, fun _ _ => by decide +kernel, fun _ _ => by decide +kernel⟩ (by decide +kernel) fun m2 hm2' => ?_
            refine w_addSl (Lin.of (n := 8) (by decide +kernel)) hm2' (by decide) fun o7 ho7 => ?_
            k_allIn
            refine w_newS (by simp) fun l11 H11 nl11 s11 e11 => ?_
            refine w_cat (s11 _ _ e10) e11 (Nat.le_trans (show 8 + 4 ≤ 12 by decide) (by decide)) fun l12 H12 nl12 s12 e12 => ?_
            k_allIn
            refine w_upper (by omega) ?_
            have hup := hline.upper
            generalize Txt.upper line = up at *
            k_allIn
            refine w_newS (by simp) fun l13 H13 nl13 s13 e13 => ?_
            refine w_cat (s13 _ _ e12) e13 (Nat.le_trans (show 12 + 3 ≤ 15 by decide) (by decide)) fun l14 H14 nl14 s14 e14 => ?_
            have e14' : H14 l14 = some (.lst (([o1, o2, o4, o5, kd, "", "steps 01", "on -1", "ring 3", "put 0 1", o6, o7, up, "lose 0x", "step 1"] : List Str).map V.str)) := e14
            k_allIn
            obtain ⟨x, hx, ex⟩ := pickL (L := [o1, o2, o4, o5, kd, "", "steps 01", "on -1", "ring 3", "put 0 1", o6, o7, up, "lose 0x", "step 1"]) (i := pick / 192 % 15) (Int.emod_nonneg _ (by decide)) (Int.emod_lt_of_pos _ (by decide))
            refine w_ixL (SqL.of e14') ex ?_
            refine k x H14 (S9.trans (s10.trans (s11.trans (s12.trans (s13.trans s14))))) ?_
            have cl : ∀ y : Str, linB 1000 y = true → Lin 1000 y := fun y => Lin.of
            simp only [List.mem_cons, List.not_mem_nil, or_false] at hx
            rcases hx with rfl | rfl | rfl | rfl | rfl | rfl | rfl | rfl | rfl | rfl | rfl | rfl | rfl | rfl | rfl
            · exact ho1.le (by decide)
            · exact ho2.le (by decide)
            · exact ho4.le (by decide)
            · exact ho5.le (by decide)
            · exact (kinds_lin _ hkd).le (by decide)
            · exact cl _ (by decide +kernel)
            · exact cl _ (by decide +kernel)
            · exact cl _ (by decide +kernel)
            · exact cl _ (by decide +kernel)
            · exact cl _ (by decide +kernel)
            · exact ho6.le (by decide)
            · exact ho7.le (by decide)
            · exact hup.le (by decide)
            · exact cl _ (by decide +kernel)
            · exact cl _ (by decide +kernel)
        · rw [show decide (V.int (pick / 12 % 8) = V.int 0) = false from decide_eq_false fun z => c8 (V.int.inj z)]
          k_allIn
          exact k line H9 S9 (hline.le (by decide))
end
/-! ### k10: the law -/
theorem Cls10.lin (e : Cls10) : Lin 4000000 e.t := by
  cases e <;> exact Lin.of (by decide +kernel)
theorem nu_lin : Lin 4000000 nu := Lin.of (by decide +kernel)
theorem doC_lin {k : Nat} {R S : RG.Ring} {c : Cmd} {x : Str} (b : DB k 0 R) (hk : k ≤ 40) (h : doC R c = .ok (x, S)) : Lin 4000000 x := by
  cases c with
  | ring n => cases h; exact nu_lin
  | toks =>
    cases h
    have htk := b.tk
    unfold toksT
    split
    · exact Lin.of (by decide +kernel)
    · exact (Lin.join (n := 62) (k := 64) (Lin.of (by decide +kernel)) (fun p m => by
        obtain ⟨t, mt, rfl⟩ := List.mem_map.mp m
        obtain ⟨t1, t2, t3⟩ := b.tok hk (by omega) mt
        exact Lin.tok t1 t2 t3) (by rw [List.length_map]; omega)).le (by decide)
  | put s r m =>
    simp only [doC] at h
    split at h
    · split at h
      · cases h; exact Lin.of (by decide +kernel)
      · cases h
    · cases h
  | steps n =>
    simp only [doC] at h
    split at h
    · next hn =>
      cases h
      have g1 := b.grow hk n
      have b1 := b.steps hk n
      have h2 := List.length_filterMap_le (sentP 0) ((stepN n R).rw.drop R.rw.length)
      rw [List.length_drop] at h2
      exact (Lin.join (n := 41) (k := 85001) (Lin.of (by decide +kernel)) (Lin.sents b1.mn fun r m => b1.td.rs r (List.mem_of_mem_drop m)) (by rw [List.length_cons]; omega)).le (by decide)
    · cases h; exact nu_lin
  | lose j =>
    simp only [doC] at h
    split at h
    · cases h; exact Lin.of (by decide +kernel)
    · cases h
  | make i =>
    simp only [doC] at h
    split at h
    · split at h
      · cases h; exact Lin.of (by decide +kernel)
      · cases h
    · cases h
  | off i =>
    simp only [doC] at h
    split at h
    · split at h
      · cases h; exact Lin.of (by decide +kernel)
      · cases h
    · cases h
  | on i =>
    simp only [doC] at h
    split at h
    · split at h
      · cases h
      · cases h; exact Lin.of (by decide +kernel)
    · cases h
theorem ans_lin {k : Nat} {o : Option RG.Ring} (b : OB k o) (hk : k ≤ 40) (l : Str) : Lin 4000000 (ans o l).1 := by
  unfold ans ansW
  cases parse (Txt.split l " ") with
  | none => exact nu_lin
  | some c =>
    show Lin 4000000 (match doO o c with | .ok x => x | .error e => (e.t, o)).1
    cases h : doO o c with
    | error e => exact e.lin
    | ok x =>
      show Lin 4000000 x.1
      cases o with
      | some R =>
        simp only [doO] at h
        cases h2 : doC R c with
        | error e => rw [h2] at h; cases h
        | ok z => rw [h2] at h; cases h; exact doC_lin b hk (S := z.2) h2
      | none =>
        cases c with
        | ring n =>
          simp only [doO] at h
          split at h
          · cases h; exact (Lin.of (by decide +kernel) : Lin 4000000 ("ring" : Str))
          · cases h
        | _ => cases h; exact nu_lin
theorem run_lin : ∀ (ls : List Str) (o : Option RG.Ring) (k : Nat), OB k o → k + ls.length ≤ 41 → ∀ x, x ∈ (runL o ls).1 → Lin 4000000 x
  | [], _, _, _, _, x, m => by cases m
  | l :: ls, o, k, b, hk, x, m => by
    rw [List.length_cons] at hk
    rcases List.mem_cons.mp m with rfl | m
    · exact ans_lin b (by omega) l
    · exact run_lin ls _ (k + 1) (b.ans (by omega) l) (by omega) x m
theorem strs_rp {H : Hp} : ∀ xs : List Str, RpAll H (xs.map V.str) (xs.map PyData.str)
  | [] => .nil
  | x :: xs => .cons (.str x) (strs_rp xs)
theorem strs_ok : ∀ {xs : List Str}, (∀ x, x ∈ xs → PyData.strOk x = true) → okAll (xs.map PyData.str) = true
  | [], _ => rfl
  | x :: xs, h => by
    rw [List.map_cons, okAll, strs_ok fun y m => h y (List.mem_cons_of_mem _ m), okD, h x (List.mem_cons_self ..)]
    rfl
theorem strs_dep : ∀ xs : List Str, PyData.depthAll (xs.map PyData.str) = 0
  | [] => rfl
  | x :: xs => by
    rw [List.map_cons, PyData.depthAll, strs_dep xs]
    rfl
theorem strs_sh {xs : List Str} (h : ∀ x, x ∈ xs → PyData.strOk x = true) (l : xs.length ≤ 1000) : okD (.list (xs.map PyData.str)) = true ∧ SeqAt.shaped (.list (xs.map PyData.str)) = true := by
  have o : okD (.list (xs.map PyData.str)) = true := by
    rw [okD, strs_ok h, Bool.and_true]
    exact decide_eq_true (small (by rw [List.length_map]; omega))
  exact ⟨o, shaped_of o (by rw [PyData.depth, strs_dep]; decide)⟩
theorem strs_eqv : ∀ {xs ys : List Str}, PyData.eqvAll (xs.map PyData.str) (ys.map PyData.str) = true → xs = ys
  | [], [], _ => rfl
  | [], _ :: _, h => by simp [PyData.eqvAll] at h
  | _ :: _, [], h => by simp [PyData.eqvAll] at h
  | x :: xs, y :: ys, h => by
    rw [List.map_cons, List.map_cons, PyData.eqvAll, Bool.and_eq_true] at h
    have h1 : x = y := by
      have := h.1
      simp only [PyData.eqv] at this
      exact eq_of_beq this
    rw [h1, strs_eqv h.2]
/-- rows that are good -/
structure Rws (n : Nat) (ws : List Str) : Prop where
  ne : ws ≠ []
  ln : ws.length ≤ n
  ok : ∀ x, x ∈ ws → Lin 1000 x
theorem Rws.play {n : Nat} {ws : List Str} (h : Rws n ws) (hn : n ≤ 40) : Txt.split (Txt.join "\n" ws) "\n" = ws ∧ (Txt.join "\n" ws).length ≤ 50000 ∧ (ws.map (·.length)).sum + ws.length * ("\n" : Str).length ≤ 16777216 := by
  have e0 : tl ("\n" : Str) = [10] := by decide +kernel
  refine ⟨split_join e0 (by decide +kernel) h.ne fun p m z => (h.ok p m).no 10 z |>.1 rfl, ?_, ?_⟩
  · rw [len_tl, join_eq, tl_join]
    have := joinL_len (S := tl "\n") (k := 1000) (ps := ws.map tl) fun p mp => by
      obtain ⟨z, mz, rfl⟩ := List.mem_map.mp mp
      exact (h.ok z mz).ln
    rw [List.length_map, e0] at this
    rw [e0]
    have l1 : ([10] : List Nat).length = 1 := rfl
    rw [l1] at this
    have := h.ln
    have h3 := Nat.mul_le_mul_right (1000 + 1) (show ws.length ≤ 40 by omega)
    omega
  · have h1 := sum_le (b := 1000) (ys := ws) fun y m => (h.ok y m).len
    have l1 : ("\n" : Str).length = 1 := by decide +kernel
    rw [l1]
    have := h.ln
    omega
theorem Rws.str {n : Nat} {ws : List Str} (h : Rws n ws) : ∀ x, x ∈ ws → PyData.strOk x = true := fun x m => (h.ok x m).ok
theorem Rws.len {n : Nat} {ws : List Str} (h : Rws n ws) : ∀ x, x ∈ ws → x.length ≤ 50000 := fun x m => Nat.le_trans (h.ok x m).len (by decide)
theorem cut_strs (L : List Str) (lo hi : Option Int) : ∃ L' : List Str, cutV (L.map V.str) lo hi = L'.map V.str ∧ L'.Sublist L := by
  unfold cutV
  rw [← List.map_drop, ← List.map_take]
  exact ⟨_, rfl, (List.take_sublist _ _).trans (List.drop_sublist _ _)⟩
theorem Rws.app {n m : Nat} {xs ws : List Str} (h : Rws n ws) (l : xs.length ≤ m) (ok : ∀ x, x ∈ xs → Lin 1000 x) : Rws (m + n) (xs ++ ws) := ⟨fun z => h.ne (List.append_eq_nil_iff.mp z).2, by rw [List.length_append]; have := h.ln; omega, fun x mx => by
  rcases List.mem_append.mp mx with mx | mx
  · exact ok x mx
  · exact h.ok x mx⟩
theorem Rws.appR {n m : Nat} {xs ws : List Str} (h : Rws n ws) (l : xs.length ≤ m) (ok : ∀ x, x ∈ xs → Lin 1000 x) : Rws (n + m) (ws ++ xs) := ⟨fun z => h.ne (List.append_eq_nil_iff.mp z).1, by rw [List.length_append]; have := h.ln; omega, fun x mx => by
  rcases List.mem_append.mp mx with mx | mx
  · exact h.ok x mx
  · exact ok x mx⟩
def spLaw (K : PySem.W.Frag) : Sp := fun vs H Q _ => ∃ (a : Addr) (ns : List Int), vs = [.ref a] ∧ SqL K H a (ns.map V.int) ∧ ns.length ≤ 63 ∧ ∀ H', Q (.bl true) H'
section
variable {P : Program} {w : World} {K : PySem.W.Frag} {mg : Str → Option Value} {base : Heap} {Z : Ad}
theorem ok_law (T : Txt K mg Z) (N : NumT w K Z) : FnOk P w K mg base CX0 11 Z.law Z.law_d ["_law_script"] (spLaw K) := by
  have G_law_cell_at := ok_law_cell_at (P := P) (w := w) (base := base) T
  have G_law_deeds := ok_law_deeds (P := P) (w := w) (base := base) T
  have G_law_row := ok_law_row (P := P) (w := w) (base := base) T
  have G_law_answers := ok_law_answers (P := P) (w := w) (base := base) T
  have G_played := ok_played (P := P) (w := w) (base := base) T N
  refine T.F_law.ok sc_law (fun vs H Q E h => ?_) (fun cdv X outer s H vs Q E hr h => ?_)
  · obtain ⟨a, ns, rfl, _⟩ := h
    rfl
  · obtain ⟨a, ns, rfl, hS, hl, k⟩ := h
    refine ⟨_, (pss_cons (ps_set (i := 1) sc_law.nd rfl (Or.inr rfl) (pe_op op_add pe_int (pe_op op_mod (pe_call G_law_cell_at (hr.mono (by omega)) rfl T.g_law_cell_at T.F_law_cell_at.kp T.b_law_cell_at .nil pass0 (pa_cons (pv 0) (pa_cons pe_int pa_nil))) pe_int)))
      (pss_cons (ps_set (i := 2) sc_law.nd rfl (Or.inl rfl) (pe_op op_mod (pe_op op_fdiv (pe_call G_law_cell_at (hr.mono (by omega)) rfl T.g_law_cell_at T.F_law_cell_at.kp T.b_law_cell_at .nil pass0 (pa_cons (pv 0) (pa_cons pe_int pa_nil))) pe_int) pe_int))
      (pss_cons (ps_set (i := 3) sc_law.nd rfl (Or.inl rfl) (pe_lst (pa_cons (pe_op (r := rAddS) op_add_str pe_str (pe_callTy (r := rStrI) call_str_int (by rfl) T.n_str (by decide +kernel) (pa_cons (pv 1) pa_nil))) pa_nil)))
      (Evl.pss_cut (ps_if (pt_cmpR op_eq (pv 2) pe_int (nomark _))
        (pss_one (ps_set (i := 3) sc_law.nd rfl (Or.inl rfl) (pe_op op_cat (pe_lst (pa_cons (pe_op (r := rAddS) op_add_str pe_str (pe_ix (r := rIx K) ix_seq (pe_lst (pa_cons pe_str (pa_cons pe_str (pa_cons pe_str pa_nil)))) (pe_op op_mod (pv 1) pe_int) (fun _ _ => rfl))) pa_nil)) (pv 3))))
        pss_nil)
      (Evl.pss_cut (ps_if (pt_cmpR op_eq (pv 2) pe_int (nomark _))
        (pss_one (ps_set (i := 3) sc_law.nd rfl (Or.inl rfl) (pe_op op_cat (pe_slice (r := rSlL K) sl_list (pe_lst (pa_cons pe_str (pa_cons pe_str (pa_cons pe_str pa_nil)))) po_none (po_some (pe_op op_add pe_int (pe_op op_mod (pv 1) pe_int)))) (pv 3))))
        pss_nil)
      (pss_cons (ps_set (i := 4) sc_law.nd rfl (Or.inr rfl) (pe_call G_law_deeds (hr.mono (by omega)) rfl T.g_law_deeds T.F_law_deeds.kp T.b_law_deeds .nil pass0 (pa_cons (pv 0) (pa_cons pe_int (pa_cons pe_int (pa_cons pe_int pa_nil))))))
      (pss_cons (ps_set (i := 3) sc_law.nd rfl (Or.inl rfl) (pe_op op_cat (pv 3) (pe_lc (own := [("_law_k", 8)]) (g := gName 8) rfl sc_law.nd (pi_range1 (by rfl) T.n_range (pa_cons (pe_callB (r := rLenS K) call_lenS (by rfl) T.n_len PySem.boot_len (pa_cons (pv 4) pa_nil)) pa_nil)) (blkOk_by (own := [("_law_k", 8)]) (N := ["_law_script", "_law_many", "_law_draw", "_law_lines", "_law_deeds_here", "_law_due", "_law_rows", "_law_found", "_law_k"]) (sc := defScope s_law) (by decide +kernel)) (fun _ _ _ _ _ => pg_name (i := 8) sc_law.nd rfl (Or.inl rfl)) (fun _ _ _ _ _ => pts_nil) (fun _ _ _ _ _ => (pe_call G_law_row (hr.mono (by omega)) rfl T.g_law_row T.F_law_row.kp T.b_law_row .nil pass0 (pa_cons (pe_ix (r := rIx K) ix_seq (pv 4) (pv 8) (fun _ _ => rfl)) (pa_cons (pv 8) (pa_cons (pv 1) pa_nil))))))))
      (pss_cons (ps_set (i := 5) sc_law.nd rfl (Or.inl rfl) (pe_call G_law_answers (hr.mono (by omega)) rfl T.g_law_answers T.F_law_answers.kp T.b_law_answers .nil pass0 (pa_cons (pv 3) pa_nil)))
      (pss_cons (ps_for PassesOwn.never rfl (k_list (K := K) (pe_lst (pa_cons (pv 3) (pa_cons (pe_lst (pa_cons pe_str (pa_cons pe_str (pa_cons pe_str (pa_cons pe_str (pa_cons pe_str pa_nil)))))) (pa_cons (pe_lst (pa_cons pe_str pa_nil)) (pa_cons (pv 3) pa_nil)))))) (pg_name (i := 6) sc_law.nd rfl (Or.inl rfl))
        (pss_cons (ps_set (i := 7) sc_law.nd rfl (Or.inl rfl) (pe_call G_played (hr.mono (by omega)) rfl T.g_played T.F_played.kp T.b_played .nil pass0 (pa_cons (k_bm (K := K) PySem.F.plainAttrs_str PySem.F.slot_str_join PySem.F.type_str_join (r := rJoin K) mt_join pe_str (pa_cons (pv 6) pa_nil)) pa_nil)))
        (pss_cons (ps_if (PW.pt (pw_or (pt_not (k_tr (K := K) (pe_callB (r := rIsi K) call_isi (by rfl) T.n_isinstance (by decide +kernel) (pa_cons (pv 7) (pa_cons (pe_bltn (v := .ty "list") (by rfl) T.n_list (by decide +kernel) rfl) pa_nil))) (fun _ => rfl))) (pw_or (pt_cmpR (r := rNeD K) (op_neD (hd_of hr)) (pv 7) (pe_call G_law_answers (hr.mono (by omega)) rfl T.g_law_answers T.F_law_answers.kp T.b_law_answers .nil pass0 (pa_cons (pv 6) pa_nil)) (nomark _)) (pw_or1 (PW.pt (pw_and (pt_cmpR (r := rEqD K) (op_eqD (hd_of hr)) (pv 6) (pv 3) (nomark _)) (pw_and1 (pt_cmpR (r := rNeD K) (op_neD (hd_of hr)) (pv 7) (pv 5) (nomark _)))))))))
          (pss_one (ps_ret pe_bl))
          pss_nil)
        (pss_one (ps_expr (k_bm (K := K) PySem.F.plainAttrs_list PySem.F.slot_list_append PySem.F.type_list_append mt_append (pv 7) (pa_cons pe_non pa_nil)))))))
      (pss_one (ps_ret pe_bl))))))))))), ?_⟩
    k_allIn
    refine ⟨a, ns, 0, rfl, hS, ?_⟩
    k_allIn
    obtain ⟨many, em, hm1, hm12⟩ : ∃ m : Nat, 1 + ns.getD 0 0 % 12 = (m : Int) ∧ 1 ≤ m ∧ m ≤ 12 := ⟨(1 + ns.getD 0 0 % 12).toNat, by omega, by omega, by omega⟩
    rw [em]
    refine ⟨a, ns, 0, rfl, hS, ?_⟩
    generalize ns.getD 0 0 = c0 at *
    k_allIn
    generalize c0 / 12 % 8 = draw at *
    refine w_strI (pow20 (by omega)) ?_
    refine w_addSl (Lin.of (n := 5) (by decide +kernel)) (.num (pow20 (by omega))) (by decide) fun line0 hline0 => ?_
    k_allIn
    refine w_newS (by simp) fun l1 H1 nl1 s1 e1 => ?_
    have hS1 := Same.seq s1 hS
    k_allIn
    have g1 : Rws 1 [line0] := ⟨List.cons_ne_nil _ _, Nat.le_refl 1, fun x m => by rw [List.mem_singleton.mp m]; exact hline0.le (by decide)⟩
    refine ⟨fun σ' H' => ∃ (l : Addr) (ws : List Str), σ' = [some (.ref a), some (.int (many : Int)), some (.int draw), some (.ref l), none, none, none, none, none] ∧ Same H H' ∧ H' l = some (.lst (ws.map V.str)) ∧ Rws 2 ws, ?_, ?_⟩
    · k_allIn
      by_cases hd : draw = 1
      · rw [show decide (V.int draw = V.int 1) = true from decide_eq_true (by rw [hd])]
        k_allIn
        refine w_newS (by simp) fun l2 H2 nl2 s2 e2 => ?_
        have e2' : H2 l2 = some (.lst ((["0", "13", "999999999999"] : List Str).map V.str)) := e2
        k_allIn
        obtain ⟨x, hx, ex⟩ := pickL (L := ["0", "13", "999999999999"]) (i := (many : Int) % 3) (Int.emod_nonneg _ (by decide)) (Int.emod_lt_of_pos _ (by decide))
        refine w_ixL (SqL.of e2') ex ?_
        have hlx : Lin 12 x := by
          have : (["0", "13", "999999999999"] : List Str).all (linB 12) = true := by decide +kernel
          exact Lin.of (List.all_eq_true.mp this x hx)
        refine w_addSl (Lin.of (n := 5) (by decide +kernel)) hlx (by decide) fun y hy => ?_
        k_allIn
        refine w_newS (by simp) fun l3 H3 nl3 s3 e3 => ?_
        k_allIn
        refine w_cat e3 (s3 _ _ (s2 _ _ e1)) (by simp; decide) fun l4 H4 nl4 s4 e4 => ?_
        k_allIn
        exact ⟨l4, [y, line0], rfl, s1.trans (s2.trans (s3.trans s4)), e4, g1.app (m := 1) (xs := [y]) (Nat.le_refl 1) fun z m => by rw [List.mem_singleton.mp m]; exact hy.le (by decide)⟩
      · rw [show decide (V.int draw = V.int 1) = false from decide_eq_false fun z => hd (V.int.inj z)]
        k_allIn
        exact ⟨l1, [line0], rfl, s1, e1, ⟨g1.ne, (show 1 ≤ 2 by decide), g1.ok⟩⟩
    · rintro σ' H2 ⟨l2, ws2, rfl, S2, e2, g2⟩
      k_allIn
      refine ⟨fun σ' H' => ∃ (l : Addr) (ws : List Str), σ' = [some (.ref a), some (.int (many : Int)), some (.int draw), some (.ref l), none, none, none, none, none] ∧ Same H H' ∧ H' l = some (.lst (ws.map V.str)) ∧ Rws 5 ws, ?_, ?_⟩
      · k_allIn
        by_cases hd : draw = 2
        · rw [show decide (V.int draw = V.int 2) = true from decide_eq_true (by rw [hd])]
          k_allIn
          refine w_newS (by simp) fun l3 H3 nl3 s3 e3 => ?_
          have e3' : H3 l3 = some (.lst ((["tokens", "steps 3", ""] : List Str).map V.str)) := e3
          k_allIn
          refine ⟨l3, _, rfl, SqL.of e3', fun q nq => ?_⟩
          obtain ⟨L', eL', sL'⟩ := cut_strs ["tokens", "steps 3", ""] none (some (1 + (many : Int) % 3))
          rw [eL']
          have s4 := same_new (o := HO.lst (L'.map V.str)) nq
          have e4 := upd_same (H := H3) (a := q) (o := HO.lst (L'.map V.str))
          generalize upd H3 q (HO.lst (L'.map V.str)) = H4 at *
          have hlen : L'.length ≤ 3 := sL'.length_le
          k_allIn
          refine w_cat e4 (s4 _ _ (s3 _ _ e2)) (by rw [List.length_map, List.length_map]; have := g2.ln; exact Nat.le_trans (show L'.length + ws2.length ≤ 5 by omega) (by decide)) fun l5 H5 nl5 s5 e5 => ?_
          k_allIn
          refine ⟨l5, L' ++ ws2, rfl, S2.trans (s3.trans (s4.trans s5)), by rw [List.map_append]; exact e5, g2.app hlen fun z m => ?_⟩
          have : (["tokens", "steps 3", ""] : List Str).all (linB 1000) = true := by decide +kernel
          exact Lin.of (List.all_eq_true.mp this z (sL'.subset m))
        · rw [show decide (V.int draw = V.int 2) = false from decide_eq_false fun z => hd (V.int.inj z)]
          k_allIn
          exact ⟨l2, ws2, rfl, S2, e2, ⟨g2.ne, Nat.le_trans g2.ln (by decide), g2.ok⟩⟩
      · rintro σ' H3 ⟨l3, ws3, rfl, S3, e3, g3⟩
        have hS3 := Same.seq S3 hS
        k_allIn
        refine ⟨a, ns, 1, 30, 60, rfl, hS3, hl, by decide, by decide, fun L H4 nL s4 e4 => ?_⟩
        have hdl : ((ns.drop 1).take 30).length ≤ 30 := by rw [List.length_take]; omega
        generalize (ns.drop 1).take 30 = ds at *
        have e4l := s4 _ _ e3
        k_allIn
        rw [List.length_map]
        k_allIn
        refine fun D nD => ?_
        refine lc_range (Pv := fun j H' => Same H4 H' ∧ ∃ xs : List Str, H' D = some (.lst (xs.map V.str)) ∧ xs.length = j ∧ ∀ x, x ∈ xs → Lin 1000 x) ⟨same_new nD, [], upd_same, rfl, fun x m => by cases m⟩ ?_ ?_
        · rintro j H5 hj ⟨s5, xs, e5, l5, hx5⟩
          have hj' : j < ds.length := by omega
          have e0 : (0 : Int) + (j : Int) = (j : Int) := by omega
          have e5L := s5 _ _ e4
          k_allIn
          refine ⟨rfl, ?_⟩
          k_allIn
          rw [e0]
          refine w_ixL (SqL.of e5L) (atI_nat (j := j) (by rw [List.getElem?_map, List.getElem?_eq_getElem hj']; rfl)) ?_
          k_allIn
          refine ⟨ds[j], j, many, rfl, hm1, hm12, by omega, fun x H6 s6 hx6 => ?_⟩
          refine ⟨xs.map V.str, s6 _ _ e5, small (by rw [List.length_map]; omega), same_mut (s5.trans s6) nD, xs ++ [x], by rw [upd_same, List.map_append]; rfl, by rw [List.length_append]; exact congrArg (· + 1) l5, fun y m => ?_⟩
          rcases List.mem_append.mp m with m | m
          · exact hx5 y m
          · rw [List.mem_singleton.mp m]; exact hx6
        · rintro H5 ⟨s5, xs, e5, l5, hx5⟩
          have hxl : xs.length ≤ 30 := by omega
          k_allIn
          refine w_cat (s5 _ _ e4l) e5 (by rw [List.length_map, List.length_map]; have := g3.ln; exact Nat.le_trans (show ws3.length + xs.length ≤ 35 by omega) (by decide)) fun l6 H6 nl6 s6 e6 => ?_
          rw [← List.map_append] at e6
          have g6 := g3.appR hxl hx5
          generalize ws3 ++ xs = lines at *
          have S6 := S3.trans (s4.trans (s5.trans s6))
          k_allIn
          refine ⟨l6, lines, rfl, e6, by have := g6.ln; omega, g6.len, fun du H7 s7 ndu e7 => ?_⟩
          have e7l := s7 _ _ e6
          k_allIn
          refine w_newS (by simp) fun r2 H8 nr2 s8 e8 => ?_
          k_allIn
          refine w_newS (by simp) fun r3 H9 nr3 s9 e9 => ?_
          k_allIn
          refine w_newS (by simp) fun lo H10 nlo s10 e10 => ?_
          k_allIn
          have b2 : Rws 35 ["ring 2", "put 1 3 9", "steps 1", "steps 2", "tokens"] := ⟨List.cons_ne_nil _ _, by decide, fun x m => by
            have : (["ring 2", "put 1 3 9", "steps 1", "steps 2", "tokens"] : List Str).all (linB 1000) = true := by decide +kernel
            exact Lin.of (List.all_eq_true.mp this x m)⟩
          have b3 : Rws 35 [""] := ⟨List.cons_ne_nil _ _, by decide, fun x m => by
            rw [List.mem_singleton.mp m]
            exact Lin.of (by decide +kernel)⟩
          have e10l : H10 l6 = some (.lst (lines.map V.str)) := s10 _ _ (s9 _ _ (s8 _ _ e7l))
          have e10d := s10 _ _ (s9 _ _ (s8 _ _ e7))
          have e10_2 : H10 r2 = some (.lst ((["ring 2", "put 1 3 9", "steps 1", "steps 2", "tokens"] : List Str).map V.str)) := s10 _ _ (s9 _ _ e8)
          have e10_3 : H10 r3 = some (.lst (([""] : List Str).map V.str)) := s10 _ _ e9
          have g6' : Rws 35 lines := g6
          have ol := strs_sh g6.str (Nat.le_trans g6.ln (by decide))
          refine for_list (xs := [.ref l6, .ref r2, .ref r3, .ref l6]) (fun j σ H' => ∃ v6 v7 : Option V, σ = [some (.ref a), some (.int (many : Int)), some (.int draw), some (.ref l6), some (.ref L), some (.ref du), v6, v7, none] ∧ Same H10 H') ⟨_, _, rfl, Same.refl _⟩ (fun j σ H' _ ⟨_, _, _, s⟩ => SqL.of (s _ _ e10)) ?_ ?_
          · rintro j y σ H11 hy ⟨v6, v7, rfl, s11⟩
            obtain ⟨r, ws, rfl, er, gr⟩ : ∃ (r : Addr) (ws : List Str), y = .ref r ∧ H10 r = some (.lst (ws.map V.str)) ∧ Rws 35 ws := by
              match j, hy with
              | 0, hy => exact ⟨l6, lines, (Option.some.inj hy).symm, e10l, g6'⟩
              | 1, hy => exact ⟨r2, _, (Option.some.inj hy).symm, e10_2, b2⟩
              | 2, hy => exact ⟨r3, _, (Option.some.inj hy).symm, e10_3, b3⟩
              | 3, hy => exact ⟨l6, lines, (Option.some.inj hy).symm, e10l, g6'⟩
              | n + 4, hy => cases hy
            obtain ⟨p1, p2, p3⟩ := gr.play (by decide)
            have er11 := s11 _ _ er
            have grl := gr.ln
            k_allIn
            refine w_join (SqL.of er11) p3 ?_
            k_allIn
            refine ⟨_, rfl, Nat.le_of_lt (small (by omega)), by rw [p1]; omega, by rw [p1]; exact gr.len, fun f H12 s12 nf e12 => ?_⟩
            rw [p1] at e12
            have er12 := s12 _ _ er11
            k_allIn
            refine isi (t := "list") (b := true) (.base (.lst e12)) (by decide +kernel) ?_
            k_allIn
            refine ⟨r, ws, rfl, er12, by omega, gr.len, fun q H13 s13 nq e13 => ?_⟩
            have oa := strs_sh (xs := (runL none ws).1) (fun x m => (run_lin ws none 0 trivial (by omega) x m).ok) (by rw [runL_len]; omega)
            have ow := strs_sh gr.str (Nat.le_trans gr.ln (by decide))
            have e13f := s13 _ _ e12
            have rf : Rp H13 (.ref f) (.list ((runL none ws).1.map PyData.str)) := .lst e13f (strs_rp _)
            have rq : Rp H13 (.ref q) (.list ((runL none ws).1.map PyData.str)) := .lst e13 (strs_rp _)
            have S13 := s11.trans (s12.trans s13)
            refine ⟨_, _, rf.dp, rq.dp, oa.2, oa.2, ?_⟩
            rw [PySem.SeqAt.eqv_refl _ (okD_lay _ oa.1)]
            k_allIn
            have rw_ : Rp H13 (.ref r) (.list (ws.map PyData.str)) := .lst (s13 _ _ er12) (strs_rp _)
            have rl_ : Rp H13 (.ref l6) (.list (lines.map PyData.str)) := .lst (S13 _ _ e10l) (strs_rp _)
            refine ⟨_, _, rw_.dp, rl_.dp, ow.2, ol.2, ?_⟩
            have hfl : (((runL none ws).1).map V.str).length ≤ 1000 := by rw [List.length_map, runL_len]; omega
            cases hb : PyData.eqv (.list (ws.map PyData.str)) (.list (lines.map PyData.str)) with
            | false =>
              k_allIn
              refine w_append e13f (small (by omega)) ?_
              exact ⟨_, _, rfl, same_mut S13 (none_of s11 nf)⟩
            | true =>
              have hb' : PyData.eqvAll (ws.map PyData.str) (lines.map PyData.str) = true := by
                simp only [PyData.eqv] at hb
                exact hb
              have : ws = lines := strs_eqv hb'
              subst this
              k_allIn
              have rd : Rp H13 (.ref du) (.list ((runL none ws).1.map PyData.str)) := .lst (S13 _ _ e10d) (strs_rp _)
              refine ⟨_, _, rf.dp, rd.dp, oa.2, oa.2, ?_⟩
              rw [PySem.SeqAt.eqv_refl _ (okD_lay _ oa.1)]
              k_allIn
              refine w_append e13f (small (by omega)) ?_
              exact ⟨_, _, rfl, same_mut S13 (none_of s11 nf)⟩
          · rintro σ H11 ⟨v6, v7, rfl, s11⟩
            k_allIn
            exact k H11
end
theorem all_mk {l : PySem.W.OpenLaw} {w : World} {K : PySem.W.Frag} {h : Heap} {mg : Str → Option Value} {fa C_RingError C_NoRing C_NoStation C_NoMessage C_IsOff C_IsOn C_NoToken C_Station C_Token C_Ring C_Desk f0 f1 f2 f3 f4 f5 f6 f7 f8 f9 f10 f11 f12 f13 f14 f15 f16 f17 f18 f19 f20 f21 f22 f23 f24 f25 f26 f27 f28 f29 f30 f31 f32 f33 f34 f35 f36 f37 f38 f39 f40 f41 f42 f43 f44 f45 f46 f47 f48 f49 f50 f51 f52 f53 f54 f55 f56 f57 f58 f59 f60 f61 f62 f63 f64 f65 : Addr} (X : K.In h) (G : h.Ns mainGlobals mg) (hfa : mg "law" = some (.ref fa))
    {od0 an0 : Option Addr} {sl0 : Array (Option Value)} {oc0 kV0 dc0 pm0 cd0 ct0 : Value} {od1 an1 : Option Addr} {sl1 : Array (Option Value)} {oc1 kV1 dc1 pm1 cd1 ct1 : Value} {od2 an2 : Option Addr} {sl2 : Array (Option Value)} {oc2 kV2 dc2 pm2 cd2 ct2 : Value} {od3 an3 : Option Addr} {sl3 : Array (Option Value)} {oc3 kV3 dc3 pm3 cd3 ct3 : Value} {od4 an4 : Option Addr} {sl4 : Array (Option Value)} {oc4 kV4 dc4 pm4 cd4 ct4 : Value} {od5 an5 : Option Addr} {sl5 : Array (Option Value)} {oc5 kV5 dc5 pm5 cd5 ct5 : Value} {od6 an6 : Option Addr} {sl6 : Array (Option Value)} {oc6 kV6 dc6 pm6 cd6 ct6 : Value} {od7 an7 : Option Addr} {sl7 : Array (Option Value)} {oc7 kV7 dc7 pm7 cd7 ct7 : Value} {od8 an8 : Option Addr} {sl8 : Array (Option Value)} {oc8 kV8 dc8 pm8 cd8 ct8 : Value} {od9 an9 : Option Addr} {sl9 : Array (Option Value)} {oc9 kV9 dc9 pm9 cd9 ct9 : Value} {od10 an10 : Option Addr} {sl10 : Array (Option Value)} {oc10 kV10 dc10 pm10 cd10 ct10 : Value} {od11 an11 : Option Addr} {sl11 : Array (Option Value)} {oc11 kV11 dc11 pm11 cd11 ct11 : Value} {od12 an12 : Option Addr} {sl12 : Array (Option Value)} {oc12 kV12 dc12 pm12 cd12 ct12 : Value} {od13 an13 : Option Addr} {sl13 : Array (Option Value)} {oc13 kV13 dc13 pm13 cd13 ct13 : Value} {od14 an14 : Option Addr} {sl14 : Array (Option Value)} {oc14 kV14 dc14 pm14 cd14 ct14 : Value} {od15 an15 : Option Addr} {sl15 : Array (Option Value)} {oc15 kV15 dc15 pm15 cd15 ct15 : Value} {od16 an16 : Option Addr} {sl16 : Array (Option Value)} {oc16 kV16 dc16 pm16 cd16 ct16 : Value} {od17 an17 : Option Addr} {sl17 : Array (Option Value)} {oc17 kV17 dc17 pm17 cd17 ct17 : Value} {od18 an18 : Option Addr} {sl18 : Array (Option Value)} {oc18 kV18 dc18 pm18 cd18 ct18 : Value} {od19 an19 : Option Addr} {sl19 : Array (Option Value)} {oc19 kV19 dc19 pm19 cd19 ct19 : Value} {od20 an20 : Option Addr} {sl20 : Array (Option Value)} {oc20 kV20 dc20 pm20 cd20 ct20 : Value} {od21 an21 : Option Addr} {sl21 : Array (Option Value)} {oc21 kV21 dc21 pm21 cd21 ct21 : Value} {od22 an22 : Option Addr} {sl22 : Array (Option Value)} {oc22 kV22 dc22 pm22 cd22 ct22 : Value} {od23 an23 : Option Addr} {sl23 : Array (Option Value)} {oc23 kV23 dc23 pm23 cd23 ct23 : Value} {od24 an24 : Option Addr} {sl24 : Array (Option Value)} {oc24 kV24 dc24 pm24 cd24 ct24 : Value} {od25 an25 : Option Addr} {sl25 : Array (Option Value)} {oc25 kV25 dc25 pm25 cd25 ct25 : Value} {od26 an26 : Option Addr} {sl26 : Array (Option Value)} {oc26 kV26 dc26 pm26 cd26 ct26 : Value} {od27 an27 : Option Addr} {sl27 : Array (Option Value)} {oc27 kV27 dc27 pm27 cd27 ct27 : Value} {od28 an28 : Option Addr} {sl28 : Array (Option Value)} {oc28 kV28 dc28 pm28 cd28 ct28 : Value} {od29 an29 : Option Addr} {sl29 : Array (Option Value)} {oc29 kV29 dc29 pm29 cd29 ct29 : Value} {od30 an30 : Option Addr} {sl30 : Array (Option Value)} {oc30 kV30 dc30 pm30 cd30 ct30 : Value} {od31 an31 : Option Addr} {sl31 : Array (Option Value)} {oc31 kV31 dc31 pm31 cd31 ct31 : Value} {od32 an32 : Option Addr} {sl32 : Array (Option Value)} {oc32 kV32 dc32 pm32 cd32 ct32 : Value} {od33 an33 : Option Addr} {sl33 : Array (Option Value)} {oc33 kV33 dc33 pm33 cd33 ct33 : Value} {od34 an34 : Option Addr} {sl34 : Array (Option Value)} {oc34 kV34 dc34 pm34 cd34 ct34 : Value} {od35 an35 : Option Addr} {sl35 : Array (Option Value)} {oc35 kV35 dc35 pm35 cd35 ct35 : Value} {od36 an36 : Option Addr} {sl36 : Array (Option Value)} {oc36 kV36 dc36 pm36 cd36 ct36 : Value} {od37 an37 : Option Addr} {sl37 : Array (Option Value)} {oc37 kV37 dc37 pm37 cd37 ct37 : Value} {od38 an38 : Option Addr} {sl38 : Array (Option Value)} {oc38 kV38 dc38 pm38 cd38 ct38 : Value} {od39 an39 : Option Addr} {sl39 : Array (Option Value)} {oc39 kV39 dc39 pm39 cd39 ct39 : Value} {od40 an40 : Option Addr} {sl40 : Array (Option Value)} {oc40 kV40 dc40 pm40 cd40 ct40 : Value} {od41 an41 : Option Addr} {sl41 : Array (Option Value)} {oc41 kV41 dc41 pm41 cd41 ct41 : Value} {od42 an42 : Option Addr} {sl42 : Array (Option Value)} {oc42 kV42 dc42 pm42 cd42 ct42 : Value} {od43 an43 : Option Addr} {sl43 : Array (Option Value)} {oc43 kV43 dc43 pm43 cd43 ct43 : Value} {od44 an44 : Option Addr} {sl44 : Array (Option Value)} {oc44 kV44 dc44 pm44 cd44 ct44 : Value} {od45 an45 : Option Addr} {sl45 : Array (Option Value)} {oc45 kV45 dc45 pm45 cd45 ct45 : Value} {od46 an46 : Option Addr} {sl46 : Array (Option Value)} {oc46 kV46 dc46 pm46 cd46 ct46 : Value} {od47 an47 : Option Addr} {sl47 : Array (Option Value)} {oc47 kV47 dc47 pm47 cd47 ct47 : Value} {od48 an48 : Option Addr} {sl48 : Array (Option Value)} {oc48 kV48 dc48 pm48 cd48 ct48 : Value} {od49 an49 : Option Addr} {sl49 : Array (Option Value)} {oc49 kV49 dc49 pm49 cd49 ct49 : Value} {od50 an50 : Option Addr} {sl50 : Array (Option Value)} {oc50 kV50 dc50 pm50 cd50 ct50 : Value} {od51 an51 : Option Addr} {sl51 : Array (Option Value)} {oc51 kV51 dc51 pm51 cd51 ct51 : Value} {od52 an52 : Option Addr} {sl52 : Array (Option Value)} {oc52 kV52 dc52 pm52 cd52 ct52 : Value} {od53 an53 : Option Addr} {sl53 : Array (Option Value)} {oc53 kV53 dc53 pm53 cd53 ct53 : Value} {od54 an54 : Option Addr} {sl54 : Array (Option Value)} {oc54 kV54 dc54 pm54 cd54 ct54 : Value} {od55 an55 : Option Addr} {sl55 : Array (Option Value)} {oc55 kV55 dc55 pm55 cd55 ct55 : Value} {od56 an56 : Option Addr} {sl56 : Array (Option Value)} {oc56 kV56 dc56 pm56 cd56 ct56 : Value} {od57 an57 : Option Addr} {sl57 : Array (Option Value)} {oc57 kV57 dc57 pm57 cd57 ct57 : Value} {od58 an58 : Option Addr} {sl58 : Array (Option Value)} {oc58 kV58 dc58 pm58 cd58 ct58 : Value} {od59 an59 : Option Addr} {sl59 : Array (Option Value)} {oc59 kV59 dc59 pm59 cd59 ct59 : Value} {od60 an60 : Option Addr} {sl60 : Array (Option Value)} {oc60 kV60 dc60 pm60 cd60 ct60 : Value} {od61 an61 : Option Addr} {sl61 : Array (Option Value)} {oc61 kV61 dc61 pm61 cd61 ct61 : Value} {od62 an62 : Option Addr} {sl62 : Array (Option Value)} {oc62 kV62 dc62 pm62 cd62 ct62 : Value} {od63 an63 : Option Addr} {sl63 : Array (Option Value)} {oc63 kV63 dc63 pm63 cd63 ct63 : Value} {od64 an64 : Option Addr} {sl64 : Array (Option Value)} {oc64 kV64 dc64 pm64 cd64 ct64 : Value} {od65 an65 : Option Addr} {sl65 : Array (Option Value)} {oc65 kV65 dc65 pm65 cd65 ct65 : Value} {es_NUMBERS : Array DictEntry} {nn_NUMBERS : Nat} {ct_MOST_STATIONS : _} {ct_MOST_RANK : _} {ct_MOST_MARK : _} {ct_NOT_UNDERSTOOD : _} {ct_MOST_FIGURES : _} {ct_MOST_STEPS : _} {c_NUMBERS : Addr}
    (aC_RingError : PySem.W.nsIn K mainGlobals "RingError" = some (some (.ref C_RingError)))
    (aC_NoRing : PySem.W.nsIn K mainGlobals "NoRing" = some (some (.ref C_NoRing)))
    (aC_NoStation : PySem.W.nsIn K mainGlobals "NoStation" = some (some (.ref C_NoStation)))
    (aC_NoMessage : PySem.W.nsIn K mainGlobals "NoMessage" = some (some (.ref C_NoMessage)))
    (aC_IsOff : PySem.W.nsIn K mainGlobals "IsOff" = some (some (.ref C_IsOff)))
    (aC_IsOn : PySem.W.nsIn K mainGlobals "IsOn" = some (some (.ref C_IsOn)))
    (aC_NoToken : PySem.W.nsIn K mainGlobals "NoToken" = some (some (.ref C_NoToken)))
    (aC_Station : PySem.W.nsIn K mainGlobals "Station" = some (some (.ref C_Station)))
    (aC_Token : PySem.W.nsIn K mainGlobals "Token" = some (some (.ref C_Token)))
    (aC_Ring : PySem.W.nsIn K mainGlobals "Ring" = some (some (.ref C_Ring)))
    (aC_Desk : PySem.W.nsIn K mainGlobals "Desk" = some (some (.ref C_Desk)))
    (a0 : PySem.W.nsIn K mainGlobals "_wall" = some (some (.ref f0)))
    (l0 : K.lookup f0 = some ⟨oc0, od0, .func (PySem.W.fnOf "_wall" "_wall" (defArgs s_wall) (defBody s_wall) (defScope s_wall) .none kV0 dc0 pm0 an0 cd0 ct0), sl0⟩)
    (c0 : PySem.W.codeIn K cd0 "_wall" = true)
    (k0 : PySem.W.keepIn K (.ref f0) = true)
    (a1 : PySem.W.nsIn K mainGlobals "is_number" = some (some (.ref f1)))
    (l1 : K.lookup f1 = some ⟨oc1, od1, .func (PySem.W.fnOf "is_number" "is_number" (defArgs s_is_number) (defBody s_is_number) (defScope s_is_number) .none kV1 dc1 pm1 an1 cd1 ct1), sl1⟩)
    (c1 : PySem.W.codeIn K cd1 "is_number" = true)
    (k1 : PySem.W.keepIn K (.ref f1) = true)
    (a2 : PySem.W.nsIn K mainGlobals "check_many" = some (some (.ref f2)))
    (l2 : K.lookup f2 = some ⟨oc2, od2, .func (PySem.W.fnOf "check_many" "check_many" (defArgs s_check_many) (defBody s_check_many) (defScope s_check_many) .none kV2 dc2 pm2 an2 cd2 ct2), sl2⟩)
    (c2 : PySem.W.codeIn K cd2 "check_many" = true)
    (k2 : PySem.W.keepIn K (.ref f2) = true)
    (a3 : PySem.W.nsIn K mainGlobals "check_station" = some (some (.ref f3)))
    (l3 : K.lookup f3 = some ⟨oc3, od3, .func (PySem.W.fnOf "check_station" "check_station" (defArgs s_check_station) (defBody s_check_station) (defScope s_check_station) .none kV3 dc3 pm3 an3 cd3 ct3), sl3⟩)
    (c3 : PySem.W.codeIn K cd3 "check_station" = true)
    (k3 : PySem.W.keepIn K (.ref f3) = true)
    (a4 : PySem.W.nsIn K mainGlobals "check_message" = some (some (.ref f4)))
    (l4 : K.lookup f4 = some ⟨oc4, od4, .func (PySem.W.fnOf "check_message" "check_message" (defArgs s_check_message) (defBody s_check_message) (defScope s_check_message) .none kV4 dc4 pm4 an4 cd4 ct4), sl4⟩)
    (c4 : PySem.W.codeIn K cd4 "check_message" = true)
    (k4 : PySem.W.keepIn K (.ref f4) = true)
    (a5 : PySem.W.nsIn K mainGlobals "check_place" = some (some (.ref f5)))
    (l5 : K.lookup f5 = some ⟨oc5, od5, .func (PySem.W.fnOf "check_place" "check_place" (defArgs s_check_place) (defBody s_check_place) (defScope s_check_place) .none kV5 dc5 pm5 an5 cd5 ct5), sl5⟩)
    (c5 : PySem.W.codeIn K cd5 "check_place" = true)
    (k5 : PySem.W.keepIn K (.ref f5) = true)
    (a6 : PySem.W.nsIn K mainGlobals "greater" = some (some (.ref f6)))
    (l6 : K.lookup f6 = some ⟨oc6, od6, .func (PySem.W.fnOf "greater" "greater" (defArgs s_greater) (defBody s_greater) (defScope s_greater) .none kV6 dc6 pm6 an6 cd6 ct6), sl6⟩)
    (c6 : PySem.W.codeIn K cd6 "greater" = true)
    (k6 : PySem.W.keepIn K (.ref f6) = true)
    (a7 : PySem.W.nsIn K mainGlobals "next_on" = some (some (.ref f7)))
    (l7 : K.lookup f7 = some ⟨oc7, od7, .func (PySem.W.fnOf "next_on" "next_on" (defArgs s_next_on) (defBody s_next_on) (defScope s_next_on) .none kV7 dc7 pm7 an7 cd7 ct7), sl7⟩)
    (c7 : PySem.W.codeIn K cd7 "next_on" = true)
    (k7 : PySem.W.keepIn K (.ref f7) = true)
    (a8 : PySem.W.nsIn K mainGlobals "limit" = some (some (.ref f8)))
    (l8 : K.lookup f8 = some ⟨oc8, od8, .func (PySem.W.fnOf "limit" "limit" (defArgs s_limit) (defBody s_limit) (defScope s_limit) .none kV8 dc8 pm8 an8 cd8 ct8), sl8⟩)
    (c8 : PySem.W.codeIn K cd8 "limit" = true)
    (k8 : PySem.W.keepIn K (.ref f8) = true)
    (a9 : PySem.W.findIn K (.ref C_Station) "__init__" = some (some (.ref f9)))
    (i9 : PySem.W.isFn K (.ref f9) = true)
    (l9 : K.lookup f9 = some ⟨oc9, od9, .func (PySem.W.fnOf "__init__" "Station.__init__" (defArgs s_Station_init) (defBody s_Station_init) (defScope s_Station_init) .none kV9 dc9 pm9 an9 cd9 ct9), sl9⟩)
    (c9 : PySem.W.codeIn K cd9 "Station.__init__" = true)
    (k9 : PySem.W.keepIn K (.ref f9) = true)
    (a10 : PySem.W.findIn K (.ref C_Station) "put" = some (some (.ref f10)))
    (i10 : PySem.W.isFn K (.ref f10) = true)
    (l10 : K.lookup f10 = some ⟨oc10, od10, .func (PySem.W.fnOf "put" "Station.put" (defArgs s_Station_put) (defBody s_Station_put) (defScope s_Station_put) .none kV10 dc10 pm10 an10 cd10 ct10), sl10⟩)
    (c10 : PySem.W.codeIn K cd10 "Station.put" = true)
    (k10 : PySem.W.keepIn K (.ref f10) = true)
    (a11 : PySem.W.findIn K (.ref C_Station) "messages" = some (some (.ref f11)))
    (i11 : PySem.W.isFn K (.ref f11) = true)
    (l11 : K.lookup f11 = some ⟨oc11, od11, .func (PySem.W.fnOf "messages" "Station.messages" (defArgs s_Station_messages) (defBody s_Station_messages) (defScope s_Station_messages) .none kV11 dc11 pm11 an11 cd11 ct11), sl11⟩)
    (c11 : PySem.W.codeIn K cd11 "Station.messages" = true)
    (k11 : PySem.W.keepIn K (.ref f11) = true)
    (a12 : PySem.W.findIn K (.ref C_Station) "need" = some (some (.ref f12)))
    (i12 : PySem.W.isFn K (.ref f12) = true)
    (l12 : K.lookup f12 = some ⟨oc12, od12, .func (PySem.W.fnOf "need" "Station.need" (defArgs s_Station_need) (defBody s_Station_need) (defScope s_Station_need) .none kV12 dc12 pm12 an12 cd12 ct12), sl12⟩)
    (c12 : PySem.W.codeIn K cd12 "Station.need" = true)
    (k12 : PySem.W.keepIn K (.ref f12) = true)
    (a13 : PySem.W.findIn K (.ref C_Station) "tell" = some (some (.ref f13)))
    (i13 : PySem.W.isFn K (.ref f13) = true)
    (l13 : K.lookup f13 = some ⟨oc13, od13, .func (PySem.W.fnOf "tell" "Station.tell" (defArgs s_Station_tell) (defBody s_Station_tell) (defScope s_Station_tell) .none kV13 dc13 pm13 an13 cd13 ct13), sl13⟩)
    (c13 : PySem.W.codeIn K cd13 "Station.tell" = true)
    (k13 : PySem.W.keepIn K (.ref f13) = true)
    (a14 : PySem.W.findIn K (.ref C_Station) "send" = some (some (.ref f14)))
    (i14 : PySem.W.isFn K (.ref f14) = true)
    (l14 : K.lookup f14 = some ⟨oc14, od14, .func (PySem.W.fnOf "send" "Station.send" (defArgs s_Station_send) (defBody s_Station_send) (defScope s_Station_send) .none kV14 dc14 pm14 an14 cd14 ct14), sl14⟩)
    (c14 : PySem.W.codeIn K cd14 "Station.send" = true)
    (k14 : PySem.W.keepIn K (.ref f14) = true)
    (a15 : PySem.W.findIn K (.ref C_Token) "__init__" = some (some (.ref f15)))
    (i15 : PySem.W.isFn K (.ref f15) = true)
    (l15 : K.lookup f15 = some ⟨oc15, od15, .func (PySem.W.fnOf "__init__" "Token.__init__" (defArgs s_Token_init) (defBody s_Token_init) (defScope s_Token_init) .none kV15 dc15 pm15 an15 cd15 ct15), sl15⟩)
    (c15 : PySem.W.codeIn K cd15 "Token.__init__" = true)
    (k15 : PySem.W.keepIn K (.ref f15) = true)
    (a16 : PySem.W.findIn K (.ref C_Token) "stamp" = some (some (.ref f16)))
    (i16 : PySem.W.isFn K (.ref f16) = true)
    (l16 : K.lookup f16 = some ⟨oc16, od16, .func (PySem.W.fnOf "stamp" "Token.stamp" (defArgs s_Token_stamp) (defBody s_Token_stamp) (defScope s_Token_stamp) .none kV16 dc16 pm16 an16 cd16 ct16), sl16⟩)
    (c16 : PySem.W.codeIn K cd16 "Token.stamp" = true)
    (k16 : PySem.W.keepIn K (.ref f16) = true)
    (a17 : PySem.W.findIn K (.ref C_Token) "hear" = some (some (.ref f17)))
    (i17 : PySem.W.isFn K (.ref f17) = true)
    (l17 : K.lookup f17 = some ⟨oc17, od17, .func (PySem.W.fnOf "hear" "Token.hear" (defArgs s_Token_hear) (defBody s_Token_hear) (defScope s_Token_hear) .none kV17 dc17 pm17 an17 cd17 ct17), sl17⟩)
    (c17 : PySem.W.codeIn K cd17 "Token.hear" = true)
    (k17 : PySem.W.keepIn K (.ref f17) = true)
    (a18 : PySem.W.findIn K (.ref C_Token) "begin_round" = some (some (.ref f18)))
    (i18 : PySem.W.isFn K (.ref f18) = true)
    (l18 : K.lookup f18 = some ⟨oc18, od18, .func (PySem.W.fnOf "begin_round" "Token.begin_round" (defArgs s_Token_begin_round) (defBody s_Token_begin_round) (defScope s_Token_begin_round) .none kV18 dc18 pm18 an18 cd18 ct18), sl18⟩)
    (c18 : PySem.W.codeIn K cd18 "Token.begin_round" = true)
    (k18 : PySem.W.keepIn K (.ref f18) = true)
    (a19 : PySem.W.nsIn K mainGlobals "sent_by" = some (some (.ref f19)))
    (l19 : K.lookup f19 = some ⟨oc19, od19, .func (PySem.W.fnOf "sent_by" "sent_by" (defArgs s_sent_by) (defBody s_sent_by) (defScope s_sent_by) .none kV19 dc19 pm19 an19 cd19 ct19), sl19⟩)
    (c19 : PySem.W.codeIn K cd19 "sent_by" = true)
    (k19 : PySem.W.keepIn K (.ref f19) = true)
    (a20 : PySem.W.findIn K (.ref C_Ring) "__init__" = some (some (.ref f20)))
    (i20 : PySem.W.isFn K (.ref f20) = true)
    (l20 : K.lookup f20 = some ⟨oc20, od20, .func (PySem.W.fnOf "__init__" "Ring.__init__" (defArgs s_Ring_init) (defBody s_Ring_init) (defScope s_Ring_init) .none kV20 dc20 pm20 an20 cd20 ct20), sl20⟩)
    (c20 : PySem.W.codeIn K cd20 "Ring.__init__" = true)
    (k20 : PySem.W.keepIn K (.ref f20) = true)
    (a21 : PySem.W.findIn K (.ref C_Ring) "put" = some (some (.ref f21)))
    (i21 : PySem.W.isFn K (.ref f21) = true)
    (l21 : K.lookup f21 = some ⟨oc21, od21, .func (PySem.W.fnOf "put" "Ring.put" (defArgs s_Ring_put) (defBody s_Ring_put) (defScope s_Ring_put) .none kV21 dc21 pm21 an21 cd21 ct21), sl21⟩)
    (c21 : PySem.W.codeIn K cd21 "Ring.put" = true)
    (k21 : PySem.W.keepIn K (.ref f21) = true)
    (a22 : PySem.W.findIn K (.ref C_Ring) "step" = some (some (.ref f22)))
    (i22 : PySem.W.isFn K (.ref f22) = true)
    (l22 : K.lookup f22 = some ⟨oc22, od22, .func (PySem.W.fnOf "step" "Ring.step" (defArgs s_Ring_step) (defBody s_Ring_step) (defScope s_Ring_step) .none kV22 dc22 pm22 an22 cd22 ct22), sl22⟩)
    (c22 : PySem.W.codeIn K cd22 "Ring.step" = true)
    (k22 : PySem.W.keepIn K (.ref f22) = true)
    (a23 : PySem.W.findIn K (.ref C_Ring) "lose" = some (some (.ref f23)))
    (i23 : PySem.W.isFn K (.ref f23) = true)
    (l23 : K.lookup f23 = some ⟨oc23, od23, .func (PySem.W.fnOf "lose" "Ring.lose" (defArgs s_Ring_lose) (defBody s_Ring_lose) (defScope s_Ring_lose) .none kV23 dc23 pm23 an23 cd23 ct23), sl23⟩)
    (c23 : PySem.W.codeIn K cd23 "Ring.lose" = true)
    (k23 : PySem.W.keepIn K (.ref f23) = true)
    (a24 : PySem.W.findIn K (.ref C_Ring) "make" = some (some (.ref f24)))
    (i24 : PySem.W.isFn K (.ref f24) = true)
    (l24 : K.lookup f24 = some ⟨oc24, od24, .func (PySem.W.fnOf "make" "Ring.make" (defArgs s_Ring_make) (defBody s_Ring_make) (defScope s_Ring_make) .none kV24 dc24 pm24 an24 cd24 ct24), sl24⟩)
    (c24 : PySem.W.codeIn K cd24 "Ring.make" = true)
    (k24 : PySem.W.keepIn K (.ref f24) = true)
    (a25 : PySem.W.findIn K (.ref C_Ring) "switch_off" = some (some (.ref f25)))
    (i25 : PySem.W.isFn K (.ref f25) = true)
    (l25 : K.lookup f25 = some ⟨oc25, od25, .func (PySem.W.fnOf "switch_off" "Ring.switch_off" (defArgs s_Ring_switch_off) (defBody s_Ring_switch_off) (defScope s_Ring_switch_off) .none kV25 dc25 pm25 an25 cd25 ct25), sl25⟩)
    (c25 : PySem.W.codeIn K cd25 "Ring.switch_off" = true)
    (k25 : PySem.W.keepIn K (.ref f25) = true)
    (a26 : PySem.W.findIn K (.ref C_Ring) "switch_on" = some (some (.ref f26)))
    (i26 : PySem.W.isFn K (.ref f26) = true)
    (l26 : K.lookup f26 = some ⟨oc26, od26, .func (PySem.W.fnOf "switch_on" "Ring.switch_on" (defArgs s_Ring_switch_on) (defBody s_Ring_switch_on) (defScope s_Ring_switch_on) .none kV26 dc26 pm26 an26 cd26 ct26), sl26⟩)
    (c26 : PySem.W.codeIn K cd26 "Ring.switch_on" = true)
    (k26 : PySem.W.keepIn K (.ref f26) = true)
    (a27 : PySem.W.findIn K (.ref C_Ring) "time" = some (some (.ref f27)))
    (i27 : PySem.W.isFn K (.ref f27) = true)
    (l27 : K.lookup f27 = some ⟨oc27, od27, .func (PySem.W.fnOf "time" "Ring.time" (defArgs s_Ring_time) (defBody s_Ring_time) (defScope s_Ring_time) .none kV27 dc27 pm27 an27 cd27 ct27), sl27⟩)
    (c27 : PySem.W.codeIn K cd27 "Ring.time" = true)
    (k27 : PySem.W.keepIn K (.ref f27) = true)
    (a28 : PySem.W.findIn K (.ref C_Ring) "many_on" = some (some (.ref f28)))
    (i28 : PySem.W.isFn K (.ref f28) = true)
    (l28 : K.lookup f28 = some ⟨oc28, od28, .func (PySem.W.fnOf "many_on" "Ring.many_on" (defArgs s_Ring_many_on) (defBody s_Ring_many_on) (defScope s_Ring_many_on) .none kV28 dc28 pm28 an28 cd28 ct28), sl28⟩)
    (c28 : PySem.W.codeIn K cd28 "Ring.many_on" = true)
    (k28 : PySem.W.keepIn K (.ref f28) = true)
    (a29 : PySem.W.findIn K (.ref C_Ring) "tokens" = some (some (.ref f29)))
    (i29 : PySem.W.isFn K (.ref f29) = true)
    (l29 : K.lookup f29 = some ⟨oc29, od29, .func (PySem.W.fnOf "tokens" "Ring.tokens" (defArgs s_Ring_tokens) (defBody s_Ring_tokens) (defScope s_Ring_tokens) .none kV29 dc29 pm29 an29 cd29 ct29), sl29⟩)
    (c29 : PySem.W.codeIn K cd29 "Ring.tokens" = true)
    (k29 : PySem.W.keepIn K (.ref f29) = true)
    (a30 : PySem.W.findIn K (.ref C_Ring) "rows" = some (some (.ref f30)))
    (i30 : PySem.W.isFn K (.ref f30) = true)
    (l30 : K.lookup f30 = some ⟨oc30, od30, .func (PySem.W.fnOf "rows" "Ring.rows" (defArgs s_Ring_rows) (defBody s_Ring_rows) (defScope s_Ring_rows) .none kV30 dc30 pm30 an30 cd30 ct30), sl30⟩)
    (c30 : PySem.W.codeIn K cd30 "Ring.rows" = true)
    (k30 : PySem.W.keepIn K (.ref f30) = true)
    (a31 : PySem.W.findIn K (.ref C_Ring) "many_rows" = some (some (.ref f31)))
    (i31 : PySem.W.isFn K (.ref f31) = true)
    (l31 : K.lookup f31 = some ⟨oc31, od31, .func (PySem.W.fnOf "many_rows" "Ring.many_rows" (defArgs s_Ring_many_rows) (defBody s_Ring_many_rows) (defScope s_Ring_many_rows) .none kV31 dc31 pm31 an31 cd31 ct31), sl31⟩)
    (c31 : PySem.W.codeIn K cd31 "Ring.many_rows" = true)
    (k31 : PySem.W.keepIn K (.ref f31) = true)
    (a32 : PySem.W.findIn K (.ref C_Ring) "rows_behind" = some (some (.ref f32)))
    (i32 : PySem.W.isFn K (.ref f32) = true)
    (l32 : K.lookup f32 = some ⟨oc32, od32, .func (PySem.W.fnOf "rows_behind" "Ring.rows_behind" (defArgs s_Ring_rows_behind) (defBody s_Ring_rows_behind) (defScope s_Ring_rows_behind) .none kV32 dc32 pm32 an32 cd32 ct32), sl32⟩)
    (c32 : PySem.W.codeIn K cd32 "Ring.rows_behind" = true)
    (k32 : PySem.W.keepIn K (.ref f32) = true)
    (a33 : PySem.W.findIn K (.ref C_Ring) "messages" = some (some (.ref f33)))
    (i33 : PySem.W.isFn K (.ref f33) = true)
    (l33 : K.lookup f33 = some ⟨oc33, od33, .func (PySem.W.fnOf "messages" "Ring.messages" (defArgs s_Ring_messages) (defBody s_Ring_messages) (defScope s_Ring_messages) .none kV33 dc33 pm33 an33 cd33 ct33), sl33⟩)
    (c33 : PySem.W.codeIn K cd33 "Ring.messages" = true)
    (k33 : PySem.W.keepIn K (.ref f33) = true)
    (a34 : PySem.W.findIn K (.ref C_Ring) "need" = some (some (.ref f34)))
    (i34 : PySem.W.isFn K (.ref f34) = true)
    (l34 : K.lookup f34 = some ⟨oc34, od34, .func (PySem.W.fnOf "need" "Ring.need" (defArgs s_Ring_need) (defBody s_Ring_need) (defScope s_Ring_need) .none kV34 dc34 pm34 an34 cd34 ct34), sl34⟩)
    (c34 : PySem.W.codeIn K cd34 "Ring.need" = true)
    (k34 : PySem.W.keepIn K (.ref f34) = true)
    (a35 : PySem.W.findIn K (.ref C_Ring) "knows" = some (some (.ref f35)))
    (i35 : PySem.W.isFn K (.ref f35) = true)
    (l35 : K.lookup f35 = some ⟨oc35, od35, .func (PySem.W.fnOf "knows" "Ring.knows" (defArgs s_Ring_knows) (defBody s_Ring_knows) (defScope s_Ring_knows) .none kV35 dc35 pm35 an35 cd35 ct35), sl35⟩)
    (c35 : PySem.W.codeIn K cd35 "Ring.knows" = true)
    (k35 : PySem.W.keepIn K (.ref f35) = true)
    (a36 : PySem.W.findIn K (.ref C_Ring) "is_on" = some (some (.ref f36)))
    (i36 : PySem.W.isFn K (.ref f36) = true)
    (l36 : K.lookup f36 = some ⟨oc36, od36, .func (PySem.W.fnOf "is_on" "Ring.is_on" (defArgs s_Ring_is_on) (defBody s_Ring_is_on) (defScope s_Ring_is_on) .none kV36 dc36 pm36 an36 cd36 ct36), sl36⟩)
    (c36 : PySem.W.codeIn K cd36 "Ring.is_on" = true)
    (k36 : PySem.W.keepIn K (.ref f36) = true)
    (a37 : PySem.W.findIn K (.ref C_Ring) "_station" = some (some (.ref f37)))
    (i37 : PySem.W.isFn K (.ref f37) = true)
    (l37 : K.lookup f37 = some ⟨oc37, od37, .func (PySem.W.fnOf "_station" "Ring._station" (defArgs s_Ring__station) (defBody s_Ring__station) (defScope s_Ring__station) .none kV37 dc37 pm37 an37 cd37 ct37), sl37⟩)
    (c37 : PySem.W.codeIn K cd37 "Ring._station" = true)
    (k37 : PySem.W.keepIn K (.ref f37) = true)
    (a38 : PySem.W.findIn K (.ref C_Ring) "_make_token" = some (some (.ref f38)))
    (i38 : PySem.W.isFn K (.ref f38) = true)
    (l38 : K.lookup f38 = some ⟨oc38, od38, .func (PySem.W.fnOf "_make_token" "Ring._make_token" (defArgs s_Ring__make_token) (defBody s_Ring__make_token) (defScope s_Ring__make_token) .none kV38 dc38 pm38 an38 cd38 ct38), sl38⟩)
    (c38 : PySem.W.codeIn K cd38 "Ring._make_token" = true)
    (k38 : PySem.W.keepIn K (.ref f38) = true)
    (a39 : PySem.W.findIn K (.ref C_Ring) "_add_token" = some (some (.ref f39)))
    (i39 : PySem.W.isFn K (.ref f39) = true)
    (l39 : K.lookup f39 = some ⟨oc39, od39, .func (PySem.W.fnOf "_add_token" "Ring._add_token" (defArgs s_Ring__add_token) (defBody s_Ring__add_token) (defScope s_Ring__add_token) .none kV39 dc39 pm39 an39 cd39 ct39), sl39⟩)
    (c39 : PySem.W.codeIn K cd39 "Ring._add_token" = true)
    (k39 : PySem.W.keepIn K (.ref f39) = true)
    (a40 : PySem.W.findIn K (.ref C_Ring) "_note_lost" = some (some (.ref f40)))
    (i40 : PySem.W.isFn K (.ref f40) = true)
    (l40 : K.lookup f40 = some ⟨oc40, od40, .func (PySem.W.fnOf "_note_lost" "Ring._note_lost" (defArgs s_Ring__note_lost) (defBody s_Ring__note_lost) (defScope s_Ring__note_lost) .none kV40 dc40 pm40 an40 cd40 ct40), sl40⟩)
    (c40 : PySem.W.codeIn K cd40 "Ring._note_lost" = true)
    (k40 : PySem.W.keepIn K (.ref f40) = true)
    (a41 : PySem.W.findIn K (.ref C_Ring) "_move_tokens" = some (some (.ref f41)))
    (i41 : PySem.W.isFn K (.ref f41) = true)
    (l41 : K.lookup f41 = some ⟨oc41, od41, .func (PySem.W.fnOf "_move_tokens" "Ring._move_tokens" (defArgs s_Ring__move_tokens) (defBody s_Ring__move_tokens) (defScope s_Ring__move_tokens) .none kV41 dc41 pm41 an41 cd41 ct41), sl41⟩)
    (c41 : PySem.W.codeIn K cd41 "Ring._move_tokens" = true)
    (k41 : PySem.W.keepIn K (.ref f41) = true)
    (a42 : PySem.W.findIn K (.ref C_Ring) "_is_dropped" = some (some (.ref f42)))
    (i42 : PySem.W.isFn K (.ref f42) = true)
    (l42 : K.lookup f42 = some ⟨oc42, od42, .func (PySem.W.fnOf "_is_dropped" "Ring._is_dropped" (defArgs s_Ring__is_dropped) (defBody s_Ring__is_dropped) (defScope s_Ring__is_dropped) .none kV42 dc42 pm42 an42 cd42 ct42), sl42⟩)
    (c42 : PySem.W.codeIn K cd42 "Ring._is_dropped" = true)
    (k42 : PySem.W.keepIn K (.ref f42) = true)
    (a43 : PySem.W.findIn K (.ref C_Ring) "_receive" = some (some (.ref f43)))
    (i43 : PySem.W.isFn K (.ref f43) = true)
    (l43 : K.lookup f43 = some ⟨oc43, od43, .func (PySem.W.fnOf "_receive" "Ring._receive" (defArgs s_Ring__receive) (defBody s_Ring__receive) (defScope s_Ring__receive) .none kV43 dc43 pm43 an43 cd43 ct43), sl43⟩)
    (c43 : PySem.W.codeIn K cd43 "Ring._receive" = true)
    (k43 : PySem.W.keepIn K (.ref f43) = true)
    (a44 : PySem.W.findIn K (.ref C_Ring) "_count_silence" = some (some (.ref f44)))
    (i44 : PySem.W.isFn K (.ref f44) = true)
    (l44 : K.lookup f44 = some ⟨oc44, od44, .func (PySem.W.fnOf "_count_silence" "Ring._count_silence" (defArgs s_Ring__count_silence) (defBody s_Ring__count_silence) (defScope s_Ring__count_silence) .none kV44 dc44 pm44 an44 cd44 ct44), sl44⟩)
    (c44 : PySem.W.codeIn K cd44 "Ring._count_silence" = true)
    (k44 : PySem.W.keepIn K (.ref f44) = true)
    (a45 : PySem.W.findIn K (.ref C_Ring) "_end_silence" = some (some (.ref f45)))
    (i45 : PySem.W.isFn K (.ref f45) = true)
    (l45 : K.lookup f45 = some ⟨oc45, od45, .func (PySem.W.fnOf "_end_silence" "Ring._end_silence" (defArgs s_Ring__end_silence) (defBody s_Ring__end_silence) (defScope s_Ring__end_silence) .none kV45 dc45 pm45 an45 cd45 ct45), sl45⟩)
    (c45 : PySem.W.codeIn K cd45 "Ring._end_silence" = true)
    (k45 : PySem.W.keepIn K (.ref f45) = true)
    (a46 : PySem.W.nsIn K mainGlobals "is_number_word" = some (some (.ref f46)))
    (l46 : K.lookup f46 = some ⟨oc46, od46, .func (PySem.W.fnOf "is_number_word" "is_number_word" (defArgs s_is_number_word) (defBody s_is_number_word) (defScope s_is_number_word) .none kV46 dc46 pm46 an46 cd46 ct46), sl46⟩)
    (c46 : PySem.W.codeIn K cd46 "is_number_word" = true)
    (k46 : PySem.W.keepIn K (.ref f46) = true)
    (a47 : PySem.W.nsIn K mainGlobals "is_understood" = some (some (.ref f47)))
    (l47 : K.lookup f47 = some ⟨oc47, od47, .func (PySem.W.fnOf "is_understood" "is_understood" (defArgs s_is_understood) (defBody s_is_understood) (defScope s_is_understood) .none kV47 dc47 pm47 an47 cd47 ct47), sl47⟩)
    (c47 : PySem.W.codeIn K cd47 "is_understood" = true)
    (k47 : PySem.W.keepIn K (.ref f47) = true)
    (a48 : PySem.W.nsIn K mainGlobals "steps_answer" = some (some (.ref f48)))
    (l48 : K.lookup f48 = some ⟨oc48, od48, .func (PySem.W.fnOf "steps_answer" "steps_answer" (defArgs s_steps_answer) (defBody s_steps_answer) (defScope s_steps_answer) .none kV48 dc48 pm48 an48 cd48 ct48), sl48⟩)
    (c48 : PySem.W.codeIn K cd48 "steps_answer" = true)
    (k48 : PySem.W.keepIn K (.ref f48) = true)
    (a49 : PySem.W.nsIn K mainGlobals "tokens_answer" = some (some (.ref f49)))
    (l49 : K.lookup f49 = some ⟨oc49, od49, .func (PySem.W.fnOf "tokens_answer" "tokens_answer" (defArgs s_tokens_answer) (defBody s_tokens_answer) (defScope s_tokens_answer) .none kV49 dc49 pm49 an49 cd49 ct49), sl49⟩)
    (c49 : PySem.W.codeIn K cd49 "tokens_answer" = true)
    (k49 : PySem.W.keepIn K (.ref f49) = true)
    (a50 : PySem.W.nsIn K mainGlobals "ring_answer" = some (some (.ref f50)))
    (l50 : K.lookup f50 = some ⟨oc50, od50, .func (PySem.W.fnOf "ring_answer" "ring_answer" (defArgs s_ring_answer) (defBody s_ring_answer) (defScope s_ring_answer) .none kV50 dc50 pm50 an50 cd50 ct50), sl50⟩)
    (c50 : PySem.W.codeIn K cd50 "ring_answer" = true)
    (k50 : PySem.W.keepIn K (.ref f50) = true)
    (a51 : PySem.W.findIn K (.ref C_Desk) "__init__" = some (some (.ref f51)))
    (i51 : PySem.W.isFn K (.ref f51) = true)
    (l51 : K.lookup f51 = some ⟨oc51, od51, .func (PySem.W.fnOf "__init__" "Desk.__init__" (defArgs s_Desk_init) (defBody s_Desk_init) (defScope s_Desk_init) .none kV51 dc51 pm51 an51 cd51 ct51), sl51⟩)
    (c51 : PySem.W.codeIn K cd51 "Desk.__init__" = true)
    (k51 : PySem.W.keepIn K (.ref f51) = true)
    (a52 : PySem.W.findIn K (.ref C_Desk) "answer" = some (some (.ref f52)))
    (i52 : PySem.W.isFn K (.ref f52) = true)
    (l52 : K.lookup f52 = some ⟨oc52, od52, .func (PySem.W.fnOf "answer" "Desk.answer" (defArgs s_Desk_answer) (defBody s_Desk_answer) (defScope s_Desk_answer) .none kV52 dc52 pm52 an52 cd52 ct52), sl52⟩)
    (c52 : PySem.W.codeIn K cd52 "Desk.answer" = true)
    (k52 : PySem.W.keepIn K (.ref f52) = true)
    (a53 : PySem.W.findIn K (.ref C_Desk) "_done" = some (some (.ref f53)))
    (i53 : PySem.W.isFn K (.ref f53) = true)
    (l53 : K.lookup f53 = some ⟨oc53, od53, .func (PySem.W.fnOf "_done" "Desk._done" (defArgs s_Desk__done) (defBody s_Desk__done) (defScope s_Desk__done) .none kV53 dc53 pm53 an53 cd53 ct53), sl53⟩)
    (c53 : PySem.W.codeIn K cd53 "Desk._done" = true)
    (k53 : PySem.W.keepIn K (.ref f53) = true)
    (a54 : PySem.W.nsIn K mainGlobals "played" = some (some (.ref f54)))
    (l54 : K.lookup f54 = some ⟨oc54, od54, .func (PySem.W.fnOf "played" "played" (defArgs s_played) (defBody s_played) (defScope s_played) .none kV54 dc54 pm54 an54 cd54 ct54), sl54⟩)
    (c54 : PySem.W.codeIn K cd54 "played" = true)
    (k54 : PySem.W.keepIn K (.ref f54) = true)
    (a55 : PySem.W.nsIn K mainGlobals "_law_cell_at" = some (some (.ref f55)))
    (l55 : K.lookup f55 = some ⟨oc55, od55, .func (PySem.W.fnOf "_law_cell_at" "_law_cell_at" (defArgs s_law_cell_at) (defBody s_law_cell_at) (defScope s_law_cell_at) .none kV55 dc55 pm55 an55 cd55 ct55), sl55⟩)
    (c55 : PySem.W.codeIn K cd55 "_law_cell_at" = true)
    (k55 : PySem.W.keepIn K (.ref f55) = true)
    (a56 : PySem.W.nsIn K mainGlobals "_law_mixed" = some (some (.ref f56)))
    (l56 : K.lookup f56 = some ⟨oc56, od56, .func (PySem.W.fnOf "_law_mixed" "_law_mixed" (defArgs s_law_mixed) (defBody s_law_mixed) (defScope s_law_mixed) .none kV56 dc56 pm56 an56 cd56 ct56), sl56⟩)
    (c56 : PySem.W.codeIn K cd56 "_law_mixed" = true)
    (k56 : PySem.W.keepIn K (.ref f56) = true)
    (a57 : PySem.W.nsIn K mainGlobals "_law_deeds" = some (some (.ref f57)))
    (l57 : K.lookup f57 = some ⟨oc57, od57, .func (PySem.W.fnOf "_law_deeds" "_law_deeds" (defArgs s_law_deeds) (defBody s_law_deeds) (defScope s_law_deeds) .none kV57 dc57 pm57 an57 cd57 ct57), sl57⟩)
    (c57 : PySem.W.codeIn K cd57 "_law_deeds" = true)
    (k57 : PySem.W.keepIn K (.ref f57) = true)
    (a58 : PySem.W.nsIn K mainGlobals "_law_row" = some (some (.ref f58)))
    (l58 : K.lookup f58 = some ⟨oc58, od58, .func (PySem.W.fnOf "_law_row" "_law_row" (defArgs s_law_row) (defBody s_law_row) (defScope s_law_row) .none kV58 dc58 pm58 an58 cd58 ct58), sl58⟩)
    (c58 : PySem.W.codeIn K cd58 "_law_row" = true)
    (k58 : PySem.W.keepIn K (.ref f58) = true)
    (a59 : PySem.W.nsIn K mainGlobals "_law_number" = some (some (.ref f59)))
    (l59 : K.lookup f59 = some ⟨oc59, od59, .func (PySem.W.fnOf "_law_number" "_law_number" (defArgs s_law_number) (defBody s_law_number) (defScope s_law_number) .none kV59 dc59 pm59 an59 cd59 ct59), sl59⟩)
    (c59 : PySem.W.codeIn K cd59 "_law_number" = true)
    (k59 : PySem.W.keepIn K (.ref f59) = true)
    (a60 : PySem.W.nsIn K mainGlobals "_law_steps" = some (some (.ref f60)))
    (l60 : K.lookup f60 = some ⟨oc60, od60, .func (PySem.W.fnOf "_law_steps" "_law_steps" (defArgs s_law_steps) (defBody s_law_steps) (defScope s_law_steps) .none kV60 dc60 pm60 an60 cd60 ct60), sl60⟩)
    (c60 : PySem.W.codeIn K cd60 "_law_steps" = true)
    (k60 : PySem.W.keepIn K (.ref f60) = true)
    (a61 : PySem.W.nsIn K mainGlobals "_law_deed" = some (some (.ref f61)))
    (l61 : K.lookup f61 = some ⟨oc61, od61, .func (PySem.W.fnOf "_law_deed" "_law_deed" (defArgs s_law_deed) (defBody s_law_deed) (defScope s_law_deed) .none kV61 dc61 pm61 an61 cd61 ct61), sl61⟩)
    (c61 : PySem.W.codeIn K cd61 "_law_deed" = true)
    (k61 : PySem.W.keepIn K (.ref f61) = true)
    (a62 : PySem.W.nsIn K mainGlobals "_law_answer" = some (some (.ref f62)))
    (l62 : K.lookup f62 = some ⟨oc62, od62, .func (PySem.W.fnOf "_law_answer" "_law_answer" (defArgs s_law_answer) (defBody s_law_answer) (defScope s_law_answer) .none kV62 dc62 pm62 an62 cd62 ct62), sl62⟩)
    (c62 : PySem.W.codeIn K cd62 "_law_answer" = true)
    (k62 : PySem.W.keepIn K (.ref f62) = true)
    (a63 : PySem.W.nsIn K mainGlobals "_law_told" = some (some (.ref f63)))
    (l63 : K.lookup f63 = some ⟨oc63, od63, .func (PySem.W.fnOf "_law_told" "_law_told" (defArgs s_law_told) (defBody s_law_told) (defScope s_law_told) .none kV63 dc63 pm63 an63 cd63 ct63), sl63⟩)
    (c63 : PySem.W.codeIn K cd63 "_law_told" = true)
    (k63 : PySem.W.keepIn K (.ref f63) = true)
    (a64 : PySem.W.nsIn K mainGlobals "_law_answers" = some (some (.ref f64)))
    (l64 : K.lookup f64 = some ⟨oc64, od64, .func (PySem.W.fnOf "_law_answers" "_law_answers" (defArgs s_law_answers) (defBody s_law_answers) (defScope s_law_answers) .none kV64 dc64 pm64 an64 cd64 ct64), sl64⟩)
    (c64 : PySem.W.codeIn K cd64 "_law_answers" = true)
    (k64 : PySem.W.keepIn K (.ref f64) = true)
    (a65 : PySem.W.nsIn K mainGlobals "law" = some (some (.ref f65)))
    (l65 : K.lookup f65 = some ⟨oc65, od65, .func (PySem.W.fnOf "law" "law" (defArgs s_law) (defBody s_law) (defScope s_law) .none kV65 dc65 pm65 an65 cd65 ct65), sl65⟩)
    (c65 : PySem.W.codeIn K cd65 "law" = true)
    (k65 : PySem.W.keepIn K (.ref f65) = true)
    (xx_RingError : PySem.W.excIn K C_RingError [.type "ValueError", .type "Exception", .type "BaseException", .type "object"] "ValueError.__new__" = true)
    (xk_RingError : PySem.W.keepIn K (.ref C_RingError) = true)
    (xb_RingError : PySem.W.subIn K (.ref C_RingError) (.type "BaseException") = some true)
    (xt_RingError : PySem.W.typeIn K (.ref C_RingError) = some (.type "type"))
    (xi_RingError : PySem.W.isClsIn K C_RingError = true)
    (xv_RingError : PySem.W.subIn K (.ref C_RingError) (.type "ValueError") = some true)
    (xs_RingError_RingError : PySem.W.subIn K (.ref C_RingError) (.ref C_RingError) = some true)
    (xs_RingError_NoRing : PySem.W.subIn K (.ref C_RingError) (.ref C_NoRing) = some false)
    (xs_RingError_NoStation : PySem.W.subIn K (.ref C_RingError) (.ref C_NoStation) = some false)
    (xs_RingError_NoMessage : PySem.W.subIn K (.ref C_RingError) (.ref C_NoMessage) = some false)
    (xs_RingError_IsOff : PySem.W.subIn K (.ref C_RingError) (.ref C_IsOff) = some false)
    (xs_RingError_IsOn : PySem.W.subIn K (.ref C_RingError) (.ref C_IsOn) = some false)
    (xs_RingError_NoToken : PySem.W.subIn K (.ref C_RingError) (.ref C_NoToken) = some false)
    (xx_NoRing : PySem.W.excIn K C_NoRing [.type "ValueError", .type "Exception", .type "BaseException", .type "object"] "ValueError.__new__" = true)
    (xk_NoRing : PySem.W.keepIn K (.ref C_NoRing) = true)
    (xb_NoRing : PySem.W.subIn K (.ref C_NoRing) (.type "BaseException") = some true)
    (xt_NoRing : PySem.W.typeIn K (.ref C_NoRing) = some (.type "type"))
    (xi_NoRing : PySem.W.isClsIn K C_NoRing = true)
    (xv_NoRing : PySem.W.subIn K (.ref C_NoRing) (.type "ValueError") = some true)
    (xs_NoRing_RingError : PySem.W.subIn K (.ref C_NoRing) (.ref C_RingError) = some true)
    (xs_NoRing_NoRing : PySem.W.subIn K (.ref C_NoRing) (.ref C_NoRing) = some true)
    (xs_NoRing_NoStation : PySem.W.subIn K (.ref C_NoRing) (.ref C_NoStation) = some false)
    (xs_NoRing_NoMessage : PySem.W.subIn K (.ref C_NoRing) (.ref C_NoMessage) = some false)
    (xs_NoRing_IsOff : PySem.W.subIn K (.ref C_NoRing) (.ref C_IsOff) = some false)
    (xs_NoRing_IsOn : PySem.W.subIn K (.ref C_NoRing) (.ref C_IsOn) = some false)
    (xs_NoRing_NoToken : PySem.W.subIn K (.ref C_NoRing) (.ref C_NoToken) = some false)
    (xx_NoStation : PySem.W.excIn K C_NoStation [.type "ValueError", .type "Exception", .type "BaseException", .type "object"] "ValueError.__new__" = true)
    (xk_NoStation : PySem.W.keepIn K (.ref C_NoStation) = true)
    (xb_NoStation : PySem.W.subIn K (.ref C_NoStation) (.type "BaseException") = some true)
    (xt_NoStation : PySem.W.typeIn K (.ref C_NoStation) = some (.type "type"))
    (xi_NoStation : PySem.W.isClsIn K C_NoStation = true)
    (xv_NoStation : PySem.W.subIn K (.ref C_NoStation) (.type "ValueError") = some true)
    (xs_NoStation_RingError : PySem.W.subIn K (.ref C_NoStation) (.ref C_RingError) = some true)
    (xs_NoStation_NoRing : PySem.W.subIn K (.ref C_NoStation) (.ref C_NoRing) = some false)
    (xs_NoStation_NoStation : PySem.W.subIn K (.ref C_NoStation) (.ref C_NoStation) = some true)
    (xs_NoStation_NoMessage : PySem.W.subIn K (.ref C_NoStation) (.ref C_NoMessage) = some false)
    (xs_NoStation_IsOff : PySem.W.subIn K (.ref C_NoStation) (.ref C_IsOff) = some false)
    (xs_NoStation_IsOn : PySem.W.subIn K (.ref C_NoStation) (.ref C_IsOn) = some false)
    (xs_NoStation_NoToken : PySem.W.subIn K (.ref C_NoStation) (.ref C_NoToken) = some false)
    (xx_NoMessage : PySem.W.excIn K C_NoMessage [.type "ValueError", .type "Exception", .type "BaseException", .type "object"] "ValueError.__new__" = true)
    (xk_NoMessage : PySem.W.keepIn K (.ref C_NoMessage) = true)
    (xb_NoMessage : PySem.W.subIn K (.ref C_NoMessage) (.type "BaseException") = some true)
    (xt_NoMessage : PySem.W.typeIn K (.ref C_NoMessage) = some (.type "type"))
    (xi_NoMessage : PySem.W.isClsIn K C_NoMessage = true)
    (xv_NoMessage : PySem.W.subIn K (.ref C_NoMessage) (.type "ValueError") = some true)
    (xs_NoMessage_RingError : PySem.W.subIn K (.ref C_NoMessage) (.ref C_RingError) = some true)
    (xs_NoMessage_NoRing : PySem.W.subIn K (.ref C_NoMessage) (.ref C_NoRing) = some false)
    (xs_NoMessage_NoStation : PySem.W.subIn K (.ref C_NoMessage) (.ref C_NoStation) = some false)
    (xs_NoMessage_NoMessage : PySem.W.subIn K (.ref C_NoMessage) (.ref C_NoMessage) = some true)
    (xs_NoMessage_IsOff : PySem.W.subIn K (.ref C_NoMessage) (.ref C_IsOff) = some false)
    (xs_NoMessage_IsOn : PySem.W.subIn K (.ref C_NoMessage) (.ref C_IsOn) = some false)
    (xs_NoMessage_NoToken : PySem.W.subIn K (.ref C_NoMessage) (.ref C_NoToken) = some false)
    (xx_IsOff : PySem.W.excIn K C_IsOff [.type "ValueError", .type "Exception", .type "BaseException", .type "object"] "ValueError.__new__" = true)
    (xk_IsOff : PySem.W.keepIn K (.ref C_IsOff) = true)
    (xb_IsOff : PySem.W.subIn K (.ref C_IsOff) (.type "BaseException") = some true)
    (xt_IsOff : PySem.W.typeIn K (.ref C_IsOff) = some (.type "type"))
    (xi_IsOff : PySem.W.isClsIn K C_IsOff = true)
    (xv_IsOff : PySem.W.subIn K (.ref C_IsOff) (.type "ValueError") = some true)
    (xs_IsOff_RingError : PySem.W.subIn K (.ref C_IsOff) (.ref C_RingError) = some true)
    (xs_IsOff_NoRing : PySem.W.subIn K (.ref C_IsOff) (.ref C_NoRing) = some false)
    (xs_IsOff_NoStation : PySem.W.subIn K (.ref C_IsOff) (.ref C_NoStation) = some false)
    (xs_IsOff_NoMessage : PySem.W.subIn K (.ref C_IsOff) (.ref C_NoMessage) = some false)
    (xs_IsOff_IsOff : PySem.W.subIn K (.ref C_IsOff) (.ref C_IsOff) = some true)
    (xs_IsOff_IsOn : PySem.W.subIn K (.ref C_IsOff) (.ref C_IsOn) = some false)
    (xs_IsOff_NoToken : PySem.W.subIn K (.ref C_IsOff) (.ref C_NoToken) = some false)
    (xx_IsOn : PySem.W.excIn K C_IsOn [.type "ValueError", .type "Exception", .type "BaseException", .type "object"] "ValueError.__new__" = true)
    (xk_IsOn : PySem.W.keepIn K (.ref C_IsOn) = true)
    (xb_IsOn : PySem.W.subIn K (.ref C_IsOn) (.type "BaseException") = some true)
    (xt_IsOn : PySem.W.typeIn K (.ref C_IsOn) = some (.type "type"))
    (xi_IsOn : PySem.W.isClsIn K C_IsOn = true)
    (xv_IsOn : PySem.W.subIn K (.ref C_IsOn) (.type "ValueError") = some true)
    (xs_IsOn_RingError : PySem.W.subIn K (.ref C_IsOn) (.ref C_RingError) = some true)
    (xs_IsOn_NoRing : PySem.W.subIn K (.ref C_IsOn) (.ref C_NoRing) = some false)
    (xs_IsOn_NoStation : PySem.W.subIn K (.ref C_IsOn) (.ref C_NoStation) = some false)
    (xs_IsOn_NoMessage : PySem.W.subIn K (.ref C_IsOn) (.ref C_NoMessage) = some false)
    (xs_IsOn_IsOff : PySem.W.subIn K (.ref C_IsOn) (.ref C_IsOff) = some false)
    (xs_IsOn_IsOn : PySem.W.subIn K (.ref C_IsOn) (.ref C_IsOn) = some true)
    (xs_IsOn_NoToken : PySem.W.subIn K (.ref C_IsOn) (.ref C_NoToken) = some false)
    (xx_NoToken : PySem.W.excIn K C_NoToken [.type "ValueError", .type "Exception", .type "BaseException", .type "object"] "ValueError.__new__" = true)
    (xk_NoToken : PySem.W.keepIn K (.ref C_NoToken) = true)
    (xb_NoToken : PySem.W.subIn K (.ref C_NoToken) (.type "BaseException") = some true)
    (xt_NoToken : PySem.W.typeIn K (.ref C_NoToken) = some (.type "type"))
    (xi_NoToken : PySem.W.isClsIn K C_NoToken = true)
    (xv_NoToken : PySem.W.subIn K (.ref C_NoToken) (.type "ValueError") = some true)
    (xs_NoToken_RingError : PySem.W.subIn K (.ref C_NoToken) (.ref C_RingError) = some true)
    (xs_NoToken_NoRing : PySem.W.subIn K (.ref C_NoToken) (.ref C_NoRing) = some false)
    (xs_NoToken_NoStation : PySem.W.subIn K (.ref C_NoToken) (.ref C_NoStation) = some false)
    (xs_NoToken_NoMessage : PySem.W.subIn K (.ref C_NoToken) (.ref C_NoMessage) = some false)
    (xs_NoToken_IsOff : PySem.W.subIn K (.ref C_NoToken) (.ref C_IsOff) = some false)
    (xs_NoToken_IsOn : PySem.W.subIn K (.ref C_NoToken) (.ref C_IsOn) = some false)
    (xs_NoToken_NoToken : PySem.W.subIn K (.ref C_NoToken) (.ref C_NoToken) = some true)
    (pg_Station : PySem.W.plainGet K C_Station Str.empty = true)
    (hd_Station : PySem.W.hasDictIn K C_Station = true)
    (po_Station : PySem.W.plainOver K C_Station = true)
    (sa_Station : PySem.W.findIn K (.ref C_Station) "__setattr__" = some (some (.builtin "object.__setattr__")))
    (mk_Station : PySem.W.makesIn K C_Station = true)
    (kc_Station : PySem.W.keepIn K (.ref C_Station) = true)
    (no_Station_on : PySem.W.findIn K (.ref C_Station) "on" = some none)
    (no_Station_seen : PySem.W.findIn K (.ref C_Station) "seen" = some none)
    (no_Station_silence : PySem.W.findIn K (.ref C_Station) "silence" = some none)
    (no_Station_row : PySem.W.findIn K (.ref C_Station) "_row" = some none)
    (no_Station_told : PySem.W.findIn K (.ref C_Station) "_told" = some none)
    (pg_Token : PySem.W.plainGet K C_Token Str.empty = true)
    (hd_Token : PySem.W.hasDictIn K C_Token = true)
    (po_Token : PySem.W.plainOver K C_Token = true)
    (sa_Token : PySem.W.findIn K (.ref C_Token) "__setattr__" = some (some (.builtin "object.__setattr__")))
    (mk_Token : PySem.W.makesIn K C_Token = true)
    (kc_Token : PySem.W.keepIn K (.ref C_Token) = true)
    (no_Token_number : PySem.W.findIn K (.ref C_Token) "number" = some none)
    (no_Token_maker : PySem.W.findIn K (.ref C_Token) "maker" = some none)
    (no_Token_at : PySem.W.findIn K (.ref C_Token) "at" = some none)
    (no_Token_winner : PySem.W.findIn K (.ref C_Token) "winner" = some none)
    (no_Token_best : PySem.W.findIn K (.ref C_Token) "best" = some none)
    (pg_Ring : PySem.W.plainGet K C_Ring Str.empty = true)
    (hd_Ring : PySem.W.hasDictIn K C_Ring = true)
    (po_Ring : PySem.W.plainOver K C_Ring = true)
    (sa_Ring : PySem.W.findIn K (.ref C_Ring) "__setattr__" = some (some (.builtin "object.__setattr__")))
    (mk_Ring : PySem.W.makesIn K C_Ring = true)
    (kc_Ring : PySem.W.keepIn K (.ref C_Ring) = true)
    (no_Ring_time : PySem.W.findIn K (.ref C_Ring) "_time" = some none)
    (no_Ring_stations : PySem.W.findIn K (.ref C_Ring) "_stations" = some none)
    (no_Ring_tokens : PySem.W.findIn K (.ref C_Ring) "_tokens" = some none)
    (no_Ring_rows : PySem.W.findIn K (.ref C_Ring) "_rows" = some none)
    (pg_Desk : PySem.W.plainGet K C_Desk Str.empty = true)
    (hd_Desk : PySem.W.hasDictIn K C_Desk = true)
    (po_Desk : PySem.W.plainOver K C_Desk = true)
    (sa_Desk : PySem.W.findIn K (.ref C_Desk) "__setattr__" = some (some (.builtin "object.__setattr__")))
    (mk_Desk : PySem.W.makesIn K C_Desk = true)
    (kc_Desk : PySem.W.keepIn K (.ref C_Desk) = true)
    (no_Desk_ring : PySem.W.findIn K (.ref C_Desk) "_ring" = some none)
    (z_all : PySem.W.nsIn K mainGlobals "all" = some none)
    (z_bool : PySem.W.nsIn K mainGlobals "bool" = some none)
    (z_enumerate : PySem.W.nsIn K mainGlobals "enumerate" = some none)
    (z_int : PySem.W.nsIn K mainGlobals "int" = some none)
    (z_isinstance : PySem.W.nsIn K mainGlobals "isinstance" = some none)
    (z_len : PySem.W.nsIn K mainGlobals "len" = some none)
    (z_list : PySem.W.nsIn K mainGlobals "list" = some none)
    (z_min : PySem.W.nsIn K mainGlobals "min" = some none)
    (z_range : PySem.W.nsIn K mainGlobals "range" = some none)
    (z_str : PySem.W.nsIn K mainGlobals "str" = some none)
    (cc_MOST_STATIONS : PySem.W.nsIn K mainGlobals "MOST_STATIONS" = some (some (.int 12 ct_MOST_STATIONS)))
    (cc_MOST_RANK : PySem.W.nsIn K mainGlobals "MOST_RANK" = some (some (.int 7 ct_MOST_RANK)))
    (cc_MOST_MARK : PySem.W.nsIn K mainGlobals "MOST_MARK" = some (some (.int 1000000000 ct_MOST_MARK)))
    (cc_NOT_UNDERSTOOD : PySem.W.nsIn K mainGlobals "NOT_UNDERSTOOD" = some (some (.str "not understood" ct_NOT_UNDERSTOOD)))
    (cc_MOST_FIGURES : PySem.W.nsIn K mainGlobals "MOST_FIGURES" = some (some (.int 12 ct_MOST_FIGURES)))
    (cc_MOST_STEPS : PySem.W.nsIn K mainGlobals "MOST_STEPS" = some (some (.int 1000 ct_MOST_STEPS)))
    (cc_NUMBERS : PySem.W.nsIn K mainGlobals "NUMBERS" = some (some (.ref c_NUMBERS)))
    (dn_NUMBERS : K.lookup c_NUMBERS = some ⟨.type "dict", none, .dict es_NUMBERS nn_NUMBERS, #[]⟩)
    (dk_NUMBERS : PySem.W.KeysLit w.params es_NUMBERS.toList)
    (dl_NUMBERS : (c_NUMBERS == sysModules) = false)
    (dv_NUMBERS : es_NUMBERS.toList.map kvOf = numKvs.map some) :
    ∃ fd : FuncData, (∀ (s : Shared) (v : Value), BindsTo s fd ⟨[v], []⟩ [("_law_script", v)]) ∧ ∀ base : Heap, K.In base → base.Ns mainGlobals mg → FnOk l.prog w K mg base CX0 11 fa fd ["_law_script"] (spLaw K) := by
  have e := hfa.symm.trans (PySem.W.mg_of X G a65)
  cases e
  have F0 := fun_mk (st := s_wall) l0 c0 k0
  have F1 := fun_mk (st := s_is_number) l1 c1 k1
  have F2 := fun_mk (st := s_check_many) l2 c2 k2
  have F3 := fun_mk (st := s_check_station) l3 c3 k3
  have F4 := fun_mk (st := s_check_message) l4 c4 k4
  have F5 := fun_mk (st := s_check_place) l5 c5 k5
  have F6 := fun_mk (st := s_greater) l6 c6 k6
  have F7 := fun_mk (st := s_next_on) l7 c7 k7
  have F8 := fun_mk (st := s_limit) l8 c8 k8
  have F9 := fun_mk (st := s_Station_init) l9 c9 k9
  have F10 := fun_mk (st := s_Station_put) l10 c10 k10
  have F11 := fun_mk (st := s_Station_messages) l11 c11 k11
  have F12 := fun_mk (st := s_Station_need) l12 c12 k12
  have F13 := fun_mk (st := s_Station_tell) l13 c13 k13
  have F14 := fun_mk (st := s_Station_send) l14 c14 k14
  have F15 := fun_mk (st := s_Token_init) l15 c15 k15
  have F16 := fun_mk (st := s_Token_stamp) l16 c16 k16
  have F17 := fun_mk (st := s_Token_hear) l17 c17 k17
  have F18 := fun_mk (st := s_Token_begin_round) l18 c18 k18
  have F19 := fun_mk (st := s_sent_by) l19 c19 k19
  have F20 := fun_mk (st := s_Ring_init) l20 c20 k20
  have F21 := fun_mk (st := s_Ring_put) l21 c21 k21
  have F22 := fun_mk (st := s_Ring_step) l22 c22 k22
  have F23 := fun_mk (st := s_Ring_lose) l23 c23 k23
  have F24 := fun_mk (st := s_Ring_make) l24 c24 k24
  have F25 := fun_mk (st := s_Ring_switch_off) l25 c25 k25
  have F26 := fun_mk (st := s_Ring_switch_on) l26 c26 k26
  have F27 := fun_mk (st := s_Ring_time) l27 c27 k27
  have F28 := fun_mk (st := s_Ring_many_on) l28 c28 k28
  have F29 := fun_mk (st := s_Ring_tokens) l29 c29 k29
  have F30 := fun_mk (st := s_Ring_rows) l30 c30 k30
  have F31 := fun_mk (st := s_Ring_many_rows) l31 c31 k31
  have F32 := fun_mk (st := s_Ring_rows_behind) l32 c32 k32
  have F33 := fun_mk (st := s_Ring_messages) l33 c33 k33
  have F34 := fun_mk (st := s_Ring_need) l34 c34 k34
  have F35 := fun_mk (st := s_Ring_knows) l35 c35 k35
  have F36 := fun_mk (st := s_Ring_is_on) l36 c36 k36
  have F37 := fun_mk (st := s_Ring__station) l37 c37 k37
  have F38 := fun_mk (st := s_Ring__make_token) l38 c38 k38
  have F39 := fun_mk (st := s_Ring__add_token) l39 c39 k39
  have F40 := fun_mk (st := s_Ring__note_lost) l40 c40 k40
  have F41 := fun_mk (st := s_Ring__move_tokens) l41 c41 k41
  have F42 := fun_mk (st := s_Ring__is_dropped) l42 c42 k42
  have F43 := fun_mk (st := s_Ring__receive) l43 c43 k43
  have F44 := fun_mk (st := s_Ring__count_silence) l44 c44 k44
  have F45 := fun_mk (st := s_Ring__end_silence) l45 c45 k45
  have F46 := fun_mk (st := s_is_number_word) l46 c46 k46
  have F47 := fun_mk (st := s_is_understood) l47 c47 k47
  have F48 := fun_mk (st := s_steps_answer) l48 c48 k48
  have F49 := fun_mk (st := s_tokens_answer) l49 c49 k49
  have F50 := fun_mk (st := s_ring_answer) l50 c50 k50
  have F51 := fun_mk (st := s_Desk_init) l51 c51 k51
  have F52 := fun_mk (st := s_Desk_answer) l52 c52 k52
  have F53 := fun_mk (st := s_Desk__done) l53 c53 k53
  have F54 := fun_mk (st := s_played) l54 c54 k54
  have F55 := fun_mk (st := s_law_cell_at) l55 c55 k55
  have F56 := fun_mk (st := s_law_mixed) l56 c56 k56
  have F57 := fun_mk (st := s_law_deeds) l57 c57 k57
  have F58 := fun_mk (st := s_law_row) l58 c58 k58
  have F59 := fun_mk (st := s_law_number) l59 c59 k59
  have F60 := fun_mk (st := s_law_steps) l60 c60 k60
  have F61 := fun_mk (st := s_law_deed) l61 c61 k61
  have F62 := fun_mk (st := s_law_answer) l62 c62 k62
  have F63 := fun_mk (st := s_law_told) l63 c63 k63
  have F64 := fun_mk (st := s_law_answers) l64 c64 k64
  have F65 := fun_mk (st := s_law) l65 c65 k65
  have b0 := F0.binds (ps := ["k"]) fun _ _ _ _ _ _ us hl => match us, hl with | [_], _ => rfl
  have b1 := F1.binds (ps := ["worth", "least", "most"]) fun _ _ _ _ _ _ us hl => match us, hl with | [_, _, _], _ => rfl
  have b2 := F2.binds (ps := ["many"]) fun _ _ _ _ _ _ us hl => match us, hl with | [_], _ => rfl
  have b3 := F3.binds (ps := ["station", "many"]) fun _ _ _ _ _ _ us hl => match us, hl with | [_, _], _ => rfl
  have b4 := F4.binds (ps := ["rank", "mark"]) fun _ _ _ _ _ _ us hl => match us, hl with | [_, _], _ => rfl
  have b5 := F5.binds (ps := ["place", "many"]) fun _ _ _ _ _ _ us hl => match us, hl with | [_, _], _ => rfl
  have b6 := F6.binds (ps := ["one", "other"]) fun _ _ _ _ _ _ us hl => match us, hl with | [_, _], _ => rfl
  have b7 := F7.binds (ps := ["on", "at"]) fun _ _ _ _ _ _ us hl => match us, hl with | [_, _], _ => rfl
  have b8 := F8.binds (ps := ["many", "station"]) fun _ _ _ _ _ _ us hl => match us, hl with | [_, _], _ => rfl
  have b9 := F9.binds (ps := ["self"]) fun _ _ _ _ _ _ us hl => match us, hl with | [_], _ => rfl
  have b10 := F10.binds (ps := ["self", "rank", "mark"]) fun _ _ _ _ _ _ us hl => match us, hl with | [_, _, _], _ => rfl
  have b11 := F11.binds (ps := ["self"]) fun _ _ _ _ _ _ us hl => match us, hl with | [_], _ => rfl
  have b12 := F12.binds (ps := ["self"]) fun _ _ _ _ _ _ us hl => match us, hl with | [_], _ => rfl
  have b13 := F13.binds (ps := ["self"]) fun _ _ _ _ _ _ us hl => match us, hl with | [_], _ => rfl
  have b14 := F14.binds (ps := ["self"]) fun _ _ _ _ _ _ us hl => match us, hl with | [_], _ => rfl
  have b15 := F15.binds (ps := ["self", "number", "maker", "at"]) fun _ _ _ _ _ _ us hl => match us, hl with | [_, _, _, _], _ => rfl
  have b16 := F16.binds (ps := ["self"]) fun _ _ _ _ _ _ us hl => match us, hl with | [_], _ => rfl
  have b17 := F17.binds (ps := ["self", "need", "station"]) fun _ _ _ _ _ _ us hl => match us, hl with | [_, _, _], _ => rfl
  have b18 := F18.binds (ps := ["self"]) fun _ _ _ _ _ _ us hl => match us, hl with | [_], _ => rfl
  have b19 := F19.binds (ps := ["station", "token"]) fun _ _ _ _ _ _ us hl => match us, hl with | [_, _], _ => rfl
  have b20 := F20.binds (ps := ["self", "many"]) fun _ _ _ _ _ _ us hl => match us, hl with | [_, _], _ => rfl
  have b21 := F21.binds (ps := ["self", "station", "rank", "mark"]) fun _ _ _ _ _ _ us hl => match us, hl with | [_, _, _, _], _ => rfl
  have b22 := F22.binds (ps := ["self"]) fun _ _ _ _ _ _ us hl => match us, hl with | [_], _ => rfl
  have b23 := F23.binds (ps := ["self", "place"]) fun _ _ _ _ _ _ us hl => match us, hl with | [_, _], _ => rfl
  have b24 := F24.binds (ps := ["self", "station"]) fun _ _ _ _ _ _ us hl => match us, hl with | [_, _], _ => rfl
  have b25 := F25.binds (ps := ["self", "station"]) fun _ _ _ _ _ _ us hl => match us, hl with | [_, _], _ => rfl
  have b26 := F26.binds (ps := ["self", "station"]) fun _ _ _ _ _ _ us hl => match us, hl with | [_, _], _ => rfl
  have b27 := F27.binds (ps := ["self"]) fun _ _ _ _ _ _ us hl => match us, hl with | [_], _ => rfl
  have b28 := F28.binds (ps := ["self"]) fun _ _ _ _ _ _ us hl => match us, hl with | [_], _ => rfl
  have b29 := F29.binds (ps := ["self"]) fun _ _ _ _ _ _ us hl => match us, hl with | [_], _ => rfl
  have b30 := F30.binds (ps := ["self"]) fun _ _ _ _ _ _ us hl => match us, hl with | [_], _ => rfl
  have b31 := F31.binds (ps := ["self"]) fun _ _ _ _ _ _ us hl => match us, hl with | [_], _ => rfl
  have b32 := F32.binds (ps := ["self", "known"]) fun _ _ _ _ _ _ us hl => match us, hl with | [_, _], _ => rfl
  have b33 := F33.binds (ps := ["self", "station"]) fun _ _ _ _ _ _ us hl => match us, hl with | [_, _], _ => rfl
  have b34 := F34.binds (ps := ["self", "station"]) fun _ _ _ _ _ _ us hl => match us, hl with | [_, _], _ => rfl
  have b35 := F35.binds (ps := ["self", "station"]) fun _ _ _ _ _ _ us hl => match us, hl with | [_, _], _ => rfl
  have b36 := F36.binds (ps := ["self", "station"]) fun _ _ _ _ _ _ us hl => match us, hl with | [_, _], _ => rfl
  have b37 := F37.binds (ps := ["self", "number"]) fun _ _ _ _ _ _ us hl => match us, hl with | [_, _], _ => rfl
  have b38 := F38.binds (ps := ["self", "at"]) fun _ _ _ _ _ _ us hl => match us, hl with | [_, _], _ => rfl
  have b39 := F39.binds (ps := ["self", "token"]) fun _ _ _ _ _ _ us hl => match us, hl with | [_, _], _ => rfl
  have b40 := F40.binds (ps := ["self", "token"]) fun _ _ _ _ _ _ us hl => match us, hl with | [_, _], _ => rfl
  have b41 := F41.binds (ps := ["self"]) fun _ _ _ _ _ _ us hl => match us, hl with | [_], _ => rfl
  have b42 := F42.binds (ps := ["self", "token", "at"]) fun _ _ _ _ _ _ us hl => match us, hl with | [_, _, _], _ => rfl
  have b43 := F43.binds (ps := ["self", "token", "at"]) fun _ _ _ _ _ _ us hl => match us, hl with | [_, _, _], _ => rfl
  have b44 := F44.binds (ps := ["self", "heard"]) fun _ _ _ _ _ _ us hl => match us, hl with | [_, _], _ => rfl
  have b45 := F45.binds (ps := ["self"]) fun _ _ _ _ _ _ us hl => match us, hl with | [_], _ => rfl
  have b46 := F46.binds (ps := ["word"]) fun _ _ _ _ _ _ us hl => match us, hl with | [_], _ => rfl
  have b47 := F47.binds (ps := ["words"]) fun _ _ _ _ _ _ us hl => match us, hl with | [_], _ => rfl
  have b48 := F48.binds (ps := ["ring", "many"]) fun _ _ _ _ _ _ us hl => match us, hl with | [_, _], _ => rfl
  have b49 := F49.binds (ps := ["ring"]) fun _ _ _ _ _ _ us hl => match us, hl with | [_], _ => rfl
  have b50 := F50.binds (ps := ["ring", "word", "numbers"]) fun _ _ _ _ _ _ us hl => match us, hl with | [_, _, _], _ => rfl
  have b51 := F51.binds (ps := ["self"]) fun _ _ _ _ _ _ us hl => match us, hl with | [_], _ => rfl
  have b52 := F52.binds (ps := ["self", "row"]) fun _ _ _ _ _ _ us hl => match us, hl with | [_, _], _ => rfl
  have b53 := F53.binds (ps := ["self", "word", "numbers"]) fun _ _ _ _ _ _ us hl => match us, hl with | [_, _, _], _ => rfl
  have b54 := F54.binds (ps := ["text"]) fun _ _ _ _ _ _ us hl => match us, hl with | [_], _ => rfl
  have b55 := F55.binds (ps := ["_law_script", "_law_k"]) fun _ _ _ _ _ _ us hl => match us, hl with | [_, _], _ => rfl
  have b56 := F56.binds (ps := ["_law_cell", "_law_k"]) fun _ _ _ _ _ _ us hl => match us, hl with | [_, _], _ => rfl
  have b57 := F57.binds (ps := ["_law_script", "_law_first", "_law_few", "_law_many"]) fun _ _ _ _ _ _ us hl => match us, hl with | [_, _, _, _], _ => rfl
  have b58 := F58.binds (ps := ["_law_cell", "_law_k", "_law_many"]) fun _ _ _ _ _ _ us hl => match us, hl with | [_, _, _], _ => rfl
  have b59 := F59.binds (ps := ["_law_word"]) fun _ _ _ _ _ _ us hl => match us, hl with | [_], _ => rfl
  have b60 := F60.binds (ps := ["_law_ring", "_law_many"]) fun _ _ _ _ _ _ us hl => match us, hl with | [_, _], _ => rfl
  have b61 := F61.binds (ps := ["_law_ring", "_law_kind", "_law_numbers"]) fun _ _ _ _ _ _ us hl => match us, hl with | [_, _, _], _ => rfl
  have b62 := F62.binds (ps := ["_law_rings", "_law_line"]) fun _ _ _ _ _ _ us hl => match us, hl with | [_, _], _ => rfl
  have b63 := F63.binds (ps := ["_law_rings", "_law_line"]) fun _ _ _ _ _ _ us hl => match us, hl with | [_, _], _ => rfl
  have b64 := F64.binds (ps := ["_law_lines"]) fun _ _ _ _ _ _ us hl => match us, hl with | [_], _ => rfl
  have b65 := F65.binds (ps := ["_law_script"]) fun _ _ _ _ _ _ us hl => match us, hl with | [_], _ => rfl
  have T : Txt K mg ⟨C_RingError, C_NoRing, C_NoStation, C_NoMessage, C_IsOff, C_IsOn, C_NoToken, C_Station, C_Token, C_Ring, C_Desk, _, _, _, _, _, _, _, _, _, _, _, _, _, _, _, _, _, _, _, _, _, _, _, _, _, _, _, _, _, _, _, _, _, _, _, _, _, _, _, _, _, _, _, _, _, _, _, _, _, _, _, _, _, _, _, _, _, _, _, _, _, _, _, _, _, _, _, _, _, _, _, _, _, _, _, _, _, _, _, _, _, _, _, _, _, _, _, _, _, _, _, _, _, _, _, _, _, _, _, _, _, _, _, _, _, _, _, _, _, _, _, _, _, _, _, _, _, _, _, _, _, _, _, _, _, _, _, _, _, _, _, _, c_NUMBERS⟩ := ⟨F0, b0, PySem.W.mg_of X G a0, F1, b1, PySem.W.mg_of X G a1, F2, b2, PySem.W.mg_of X G a2, F3, b3, PySem.W.mg_of X G a3, F4, b4, PySem.W.mg_of X G a4, F5, b5, PySem.W.mg_of X G a5, F6, b6, PySem.W.mg_of X G a6, F7, b7, PySem.W.mg_of X G a7, F8, b8, PySem.W.mg_of X G a8, F9, b9, F10, b10, ⟨a10, i10, k10⟩, F11, b11, ⟨a11, i11, k11⟩, F12, b12, ⟨a12, i12, k12⟩, F13, b13, ⟨a13, i13, k13⟩, F14, b14, ⟨a14, i14, k14⟩, F15, b15, F16, b16, ⟨a16, i16, k16⟩, F17, b17, ⟨a17, i17, k17⟩, F18, b18, ⟨a18, i18, k18⟩, F19, b19, PySem.W.mg_of X G a19, F20, b20, F21, b21, ⟨a21, i21, k21⟩, F22, b22, ⟨a22, i22, k22⟩, F23, b23, ⟨a23, i23, k23⟩, F24, b24, ⟨a24, i24, k24⟩, F25, b25, ⟨a25, i25, k25⟩, F26, b26, ⟨a26, i26, k26⟩, F27, b27, ⟨a27, i27, k27⟩, F28, b28, ⟨a28, i28, k28⟩, F29, b29, ⟨a29, i29, k29⟩, F30, b30, ⟨a30, i30, k30⟩, F31, b31, ⟨a31, i31, k31⟩, F32, b32, ⟨a32, i32, k32⟩, F33, b33, ⟨a33, i33, k33⟩, F34, b34, ⟨a34, i34, k34⟩, F35, b35, ⟨a35, i35, k35⟩, F36, b36, ⟨a36, i36, k36⟩, F37, b37, ⟨a37, i37, k37⟩, F38, b38, ⟨a38, i38, k38⟩, F39, b39, ⟨a39, i39, k39⟩, F40, b40, ⟨a40, i40, k40⟩, F41, b41, ⟨a41, i41, k41⟩, F42, b42, ⟨a42, i42, k42⟩, F43, b43, ⟨a43, i43, k43⟩, F44, b44, ⟨a44, i44, k44⟩, F45, b45, ⟨a45, i45, k45⟩, F46, b46, PySem.W.mg_of X G a46, F47, b47, PySem.W.mg_of X G a47, F48, b48, PySem.W.mg_of X G a48, F49, b49, PySem.W.mg_of X G a49, F50, b50, PySem.W.mg_of X G a50, F51, b51, F52, b52, ⟨a52, i52, k52⟩, F53, b53, ⟨a53, i53, k53⟩, F54, b54, PySem.W.mg_of X G a54, F55, b55, PySem.W.mg_of X G a55, F56, b56, PySem.W.mg_of X G a56, F57, b57, PySem.W.mg_of X G a57, F58, b58, PySem.W.mg_of X G a58, F59, b59, PySem.W.mg_of X G a59, F60, b60, PySem.W.mg_of X G a60, F61, b61, PySem.W.mg_of X G a61, F62, b62, PySem.W.mg_of X G a62, F63, b63, PySem.W.mg_of X G a63, F64, b64, PySem.W.mg_of X G a64, F65, b65, PySem.W.mg_of X G a65, PySem.W.mg_of X G aC_RingError, xx_RingError, xk_RingError, xb_RingError, xt_RingError, xi_RingError, xv_RingError, xs_RingError_RingError, xs_RingError_NoRing, xs_RingError_NoStation, xs_RingError_NoMessage, xs_RingError_IsOff, xs_RingError_IsOn, xs_RingError_NoToken, PySem.W.mg_of X G aC_NoRing, xx_NoRing, xk_NoRing, xb_NoRing, xt_NoRing, xi_NoRing, xv_NoRing, xs_NoRing_RingError, xs_NoRing_NoRing, xs_NoRing_NoStation, xs_NoRing_NoMessage, xs_NoRing_IsOff, xs_NoRing_IsOn, xs_NoRing_NoToken, PySem.W.mg_of X G aC_NoStation, xx_NoStation, xk_NoStation, xb_NoStation, xt_NoStation, xi_NoStation, xv_NoStation, xs_NoStation_RingError, xs_NoStation_NoRing, xs_NoStation_NoStation, xs_NoStation_NoMessage, xs_NoStation_IsOff, xs_NoStation_IsOn, xs_NoStation_NoToken, PySem.W.mg_of X G aC_NoMessage, xx_NoMessage, xk_NoMessage, xb_NoMessage, xt_NoMessage, xi_NoMessage, xv_NoMessage, xs_NoMessage_RingError, xs_NoMessage_NoRing, xs_NoMessage_NoStation, xs_NoMessage_NoMessage, xs_NoMessage_IsOff, xs_NoMessage_IsOn, xs_NoMessage_NoToken, PySem.W.mg_of X G aC_IsOff, xx_IsOff, xk_IsOff, xb_IsOff, xt_IsOff, xi_IsOff, xv_IsOff, xs_IsOff_RingError, xs_IsOff_NoRing, xs_IsOff_NoStation, xs_IsOff_NoMessage, xs_IsOff_IsOff, xs_IsOff_IsOn, xs_IsOff_NoToken, PySem.W.mg_of X G aC_IsOn, xx_IsOn, xk_IsOn, xb_IsOn, xt_IsOn, xi_IsOn, xv_IsOn, xs_IsOn_RingError, xs_IsOn_NoRing, xs_IsOn_NoStation, xs_IsOn_NoMessage, xs_IsOn_IsOff, xs_IsOn_IsOn, xs_IsOn_NoToken, PySem.W.mg_of X G aC_NoToken, xx_NoToken, xk_NoToken, xb_NoToken, xt_NoToken, xi_NoToken, xv_NoToken, xs_NoToken_RingError, xs_NoToken_NoRing, xs_NoToken_NoStation, xs_NoToken_NoMessage, xs_NoToken_IsOff, xs_NoToken_IsOn, xs_NoToken_NoToken, PySem.W.mg_of X G aC_Station, ⟨pg_Station, hd_Station, po_Station, sa_Station⟩, ⟨mk_Station, a9, i9, kc_Station⟩, no_Station_on, no_Station_seen, no_Station_silence, no_Station_row, no_Station_told, PySem.W.mg_of X G aC_Token, ⟨pg_Token, hd_Token, po_Token, sa_Token⟩, ⟨mk_Token, a15, i15, kc_Token⟩, no_Token_number, no_Token_maker, no_Token_at, no_Token_winner, no_Token_best, PySem.W.mg_of X G aC_Ring, ⟨pg_Ring, hd_Ring, po_Ring, sa_Ring⟩, ⟨mk_Ring, a20, i20, kc_Ring⟩, no_Ring_time, no_Ring_stations, no_Ring_tokens, no_Ring_rows, PySem.W.mg_of X G aC_Desk, ⟨pg_Desk, hd_Desk, po_Desk, sa_Desk⟩, ⟨mk_Desk, a51, i51, kc_Desk⟩, no_Desk_ring, PySem.W.mg_none_of X G z_all, PySem.W.mg_none_of X G z_bool, PySem.W.mg_none_of X G z_enumerate, PySem.W.mg_none_of X G z_int, PySem.W.mg_none_of X G z_isinstance, PySem.W.mg_none_of X G z_len, PySem.W.mg_none_of X G z_list, PySem.W.mg_none_of X G z_min, PySem.W.mg_none_of X G z_range, PySem.W.mg_none_of X G z_str, ⟨_, PySem.W.mg_of X G cc_MOST_STATIONS, ⟨_, rfl⟩⟩, ⟨_, PySem.W.mg_of X G cc_MOST_RANK, ⟨_, rfl⟩⟩, ⟨_, PySem.W.mg_of X G cc_MOST_MARK, ⟨_, rfl⟩⟩, ⟨_, PySem.W.mg_of X G cc_NOT_UNDERSTOOD, ⟨_, rfl⟩⟩, ⟨_, PySem.W.mg_of X G cc_MOST_FIGURES, ⟨_, rfl⟩⟩, ⟨_, PySem.W.mg_of X G cc_MOST_STEPS, ⟨_, rfl⟩⟩, ⟨_, PySem.W.mg_of X G cc_NUMBERS, rfl⟩⟩
  exact ⟨PySem.W.fnOf "law" "law" (defArgs s_law) (defBody s_law) (defScope s_law) .none kV65 dc65 pm65 an65 cd65 ct65, fun s v => .of_eq rfl, fun base _ _ => ok_law T ⟨es_NUMBERS, nn_NUMBERS, dn_NUMBERS, dk_NUMBERS, dl_NUMBERS, dv_NUMBERS⟩⟩
end Pr
open PySem PySem.W PyProof.Rows
set_option maxRecDepth 100000 in
set_option maxHeartbeats 0 in
theorem PySem.Challenge.cw_passring_k10_whole_desk_holds : PySem.Challenge.rw_passring_k10_whole_desk.Holds := by
  w_on; o_law; k_head; (case hw => w_witness2)
  k_fill
  refine L2.walk_of (l := PySem.Challenge.rw_passring_k10_whole_desk) (n := 63) (k := 11) (x := "_law_script") (CX := fun _ => L2.CX0) (sp := fun w => Pr.spLaw _) rfl (by decide) rfl ⟨rfl, by decide, by decide⟩ (fun w h Y => PySem.W.kIn_of Y) ?F (fun _ _ a ns hl _ hS => ⟨a, ns, rfl, hS, hl, fun _ => rfl⟩) (fun _ _ _ _ _ h => h)
  case F =>
    intro w mg fa h KX G hmg
    refine' Pr.all_mk KX G hmg ?aC_RingError ?aC_NoRing ?aC_NoStation ?aC_NoMessage ?aC_IsOff ?aC_IsOn ?aC_NoToken ?aC_Station ?aC_Token ?aC_Ring ?aC_Desk ?a0 ?l0 ?c0 ?k0 ?a1 ?l1 ?c1 ?k1 ?a2 ?l2 ?c2 ?k2 ?a3 ?l3 ?c3 ?k3 ?a4 ?l4 ?c4 ?k4 ?a5 ?l5 ?c5 ?k5 ?a6 ?l6 ?c6 ?k6 ?a7 ?l7 ?c7 ?k7 ?a8 ?l8 ?c8 ?k8 ?a9 ?i9 ?l9 ?c9 ?k9 ?a10 ?i10 ?l10 ?c10 ?k10 ?a11 ?i11 ?l11 ?c11 ?k11 ?a12 ?i12 ?l12 ?c12 ?k12 ?a13 ?i13 ?l13 ?c13 ?k13 ?a14 ?i14 ?l14 ?c14 ?k14 ?a15 ?i15 ?l15 ?c15 ?k15 ?a16 ?i16 ?l16 ?c16 ?k16 ?a17 ?i17 ?l17 ?c17 ?k17 ?a18 ?i18 ?l18 ?c18 ?k18 ?a19 ?l19 ?c19 ?k19 ?a20 ?i20 ?l20 ?c20 ?k20 ?a21 ?i21 ?l21 ?c21 ?k21 ?a22 ?i22 ?l22 ?c22 ?k22 ?a23 ?i23 ?l23 ?c23 ?k23 ?a24 ?i24 ?l24 ?c24 ?k24 ?a25 ?i25 ?l25 ?c25 ?k25 ?a26 ?i26 ?l26 ?c26 ?k26 ?a27 ?i27 ?l27 ?c27 ?k27 ?a28 ?i28 ?l28 ?c28 ?k28 ?a29 ?i29 ?l29 ?c29 ?k29 ?a30 ?i30 ?l30 ?c30 ?k30 ?a31 ?i31 ?l31 ?c31 ?k31 ?a32 ?i32 ?l32 ?c32 ?k32 ?a33 ?i33 ?l33 ?c33 ?k33 ?a34 ?i34 ?l34 ?c34 ?k34 ?a35 ?i35 ?l35 ?c35 ?k35 ?a36 ?i36 ?l36 ?c36 ?k36 ?a37 ?i37 ?l37 ?c37 ?k37 ?a38 ?i38 ?l38 ?c38 ?k38 ?a39 ?i39 ?l39 ?c39 ?k39 ?a40 ?i40 ?l40 ?c40 ?k40 ?a41 ?i41 ?l41 ?c41 ?k41 ?a42 ?i42 ?l42 ?c42 ?k42 ?a43 ?i43 ?l43 ?c43 ?k43 ?a44 ?i44 ?l44 ?c44 ?k44 ?a45 ?i45 ?l45 ?c45 ?k45 ?a46 ?l46 ?c46 ?k46 ?a47 ?l47 ?c47 ?k47 ?a48 ?l48 ?c48 ?k48 ?a49 ?l49 ?c49 ?k49 ?a50 ?l50 ?c50 ?k50 ?a51 ?i51 ?l51 ?c51 ?k51 ?a52 ?i52 ?l52 ?c52 ?k52 ?a53 ?i53 ?l53 ?c53 ?k53 ?a54 ?l54 ?c54 ?k54 ?a55 ?l55 ?c55 ?k55 ?a56 ?l56 ?c56 ?k56 ?a57 ?l57 ?c57 ?k57 ?a58 ?l58 ?c58 ?k58 ?a59 ?l59 ?c59 ?k59 ?a60 ?l60 ?c60 ?k60 ?a61 ?l61 ?c61 ?k61 ?a62 ?l62 ?c62 ?k62 ?a63 ?l63 ?c63 ?k63 ?a64 ?l64 ?c64 ?k64 ?a65 ?l65 ?c65 ?k65 ?xx_RingError ?xk_RingError ?xb_RingError ?xt_RingError ?xi_RingError ?xv_RingError ?xs_RingError_RingError ?xs_RingError_NoRing ?xs_RingError_NoStation ?xs_RingError_NoMessage ?xs_RingError_IsOff ?xs_RingError_IsOn ?xs_RingError_NoToken ?xx_NoRing ?xk_NoRing ?xb_NoRing ?xt_NoRing ?xi_NoRing ?xv_NoRing ?xs_NoRing_RingError ?xs_NoRing_NoRing ?xs_NoRing_NoStation ?xs_NoRing_NoMessage ?xs_NoRing_IsOff ?xs_NoRing_IsOn ?xs_NoRing_NoToken ?xx_NoStation ?xk_NoStation ?xb_NoStation ?xt_NoStation ?xi_NoStation ?xv_NoStation ?xs_NoStation_RingError ?xs_NoStation_NoRing ?xs_NoStation_NoStation ?xs_NoStation_NoMessage ?xs_NoStation_IsOff ?xs_NoStation_IsOn ?xs_NoStation_NoToken ?xx_NoMessage ?xk_NoMessage ?xb_NoMessage ?xt_NoMessage ?xi_NoMessage ?xv_NoMessage ?xs_NoMessage_RingError ?xs_NoMessage_NoRing ?xs_NoMessage_NoStation ?xs_NoMessage_NoMessage ?xs_NoMessage_IsOff ?xs_NoMessage_IsOn ?xs_NoMessage_NoToken ?xx_IsOff ?xk_IsOff ?xb_IsOff ?xt_IsOff ?xi_IsOff ?xv_IsOff ?xs_IsOff_RingError ?xs_IsOff_NoRing ?xs_IsOff_NoStation ?xs_IsOff_NoMessage ?xs_IsOff_IsOff ?xs_IsOff_IsOn ?xs_IsOff_NoToken ?xx_IsOn ?xk_IsOn ?xb_IsOn ?xt_IsOn ?xi_IsOn ?xv_IsOn ?xs_IsOn_RingError ?xs_IsOn_NoRing ?xs_IsOn_NoStation ?xs_IsOn_NoMessage ?xs_IsOn_IsOff ?xs_IsOn_IsOn ?xs_IsOn_NoToken ?xx_NoToken ?xk_NoToken ?xb_NoToken ?xt_NoToken ?xi_NoToken ?xv_NoToken ?xs_NoToken_RingError ?xs_NoToken_NoRing ?xs_NoToken_NoStation ?xs_NoToken_NoMessage ?xs_NoToken_IsOff ?xs_NoToken_IsOn ?xs_NoToken_NoToken ?pg_Station ?hd_Station ?po_Station ?sa_Station ?mk_Station ?kc_Station ?no_Station_on ?no_Station_seen ?no_Station_silence ?no_Station_row ?no_Station_told ?pg_Token ?hd_Token ?po_Token ?sa_Token ?mk_Token ?kc_Token ?no_Token_number ?no_Token_maker ?no_Token_at ?no_Token_winner ?no_Token_best ?pg_Ring ?hd_Ring ?po_Ring ?sa_Ring ?mk_Ring ?kc_Ring ?no_Ring_time ?no_Ring_stations ?no_Ring_tokens ?no_Ring_rows ?pg_Desk ?hd_Desk ?po_Desk ?sa_Desk ?mk_Desk ?kc_Desk ?no_Desk_ring ?z_all ?z_bool ?z_enumerate ?z_int ?z_isinstance ?z_len ?z_list ?z_min ?z_range ?z_str ?cc_MOST_STATIONS ?cc_MOST_RANK ?cc_MOST_MARK ?cc_NOT_UNDERSTOOD ?cc_MOST_FIGURES ?cc_MOST_STEPS ?cc_NUMBERS ?dn_NUMBERS ?dk_NUMBERS ?dl_NUMBERS ?dv_NUMBERS
    (case aC_RingError => k_is)
    (case aC_NoRing => k_is)
    (case aC_NoStation => k_is)
    (case aC_NoMessage => k_is)
    (case aC_IsOff => k_is)
    (case aC_IsOn => k_is)
    (case aC_NoToken => k_is)
    (case aC_Station => k_is)
    (case aC_Token => k_is)
    (case aC_Ring => k_is)
    (case aC_Desk => k_is)
    (case a0 => k_is)
    (case l0 => k_is)
    (case c0 => k_is)
    (case k0 => k_is)
    (case a1 => k_is)
    (case l1 => k_is)
    (case c1 => k_is)
    (case k1 => k_is)
    (case a2 => k_is)
    (case l2 => k_is)
    (case c2 => k_is)
    (case k2 => k_is)
    (case a3 => k_is)
    (case l3 => k_is)
    (case c3 => k_is)
    (case k3 => k_is)
    (case a4 => k_is)
    (case l4 => k_is)
    (case c4 => k_is)
    (case k4 => k_is)
    (case a5 => k_is)
    (case l5 => k_is)
    (case c5 => k_is)
    (case k5 => k_is)
    (case a6 => k_is)
    (case l6 => k_is)
    (case c6 => k_is)
    (case k6 => k_is)
    (case a7 => k_is)
    (case l7 => k_is)
    (case c7 => k_is)
    (case k7 => k_is)
    (case a8 => k_is)
    (case l8 => k_is)
    (case c8 => k_is)
    (case k8 => k_is)
    (case a9 => k_is)
    (case i9 => k_is)
    (case l9 => k_is)
    (case c9 => k_is)
    (case k9 => k_is)
    (case a10 => k_is)
    (case i10 => k_is)
    (case l10 => k_is)
    (case c10 => k_is)
    (case k10 => k_is)
    (case a11 => k_is)
    (case i11 => k_is)
    (case l11 => k_is)
    (case c11 => k_is)
    (case k11 => k_is)
    (case a12 => k_is)
    (case i12 => k_is)
    (case l12 => k_is)
    (case c12 => k_is)
    (case k12 => k_is)
    (case a13 => k_is)
    (case i13 => k_is)
    (case l13 => k_is)
    (case c13 => k_is)
    (case k13 => k_is)
    (case a14 => k_is)
    (case i14 => k_is)
    (case l14 => k_is)
    (case c14 => k_is)
    (case k14 => k_is)
    (case a15 => k_is)
    (case i15 => k_is)
    (case l15 => k_is)
    (case c15 => k_is)
    (case k15 => k_is)
    (case a16 => k_is)
    (case i16 => k_is)
    (case l16 => k_is)
    (case c16 => k_is)
    (case k16 => k_is)
    (case a17 => k_is)
    (case i17 => k_is)
    (case l17 => k_is)
    (case c17 => k_is)
    (case k17 => k_is)
    (case a18 => k_is)
    (case i18 => k_is)
    (case l18 => k_is)
    (case c18 => k_is)
    (case k18 => k_is)
    (case a19 => k_is)
    (case l19 => k_is)
    (case c19 => k_is)
    (case k19 => k_is)
    (case a20 => k_is)
    (case i20 => k_is)
    (case l20 => k_is)
    (case c20 => k_is)
    (case k20 => k_is)
    (case a21 => k_is)
    (case i21 => k_is)
    (case l21 => k_is)
    (case c21 => k_is)
    (case k21 => k_is)
    (case a22 => k_is)
    (case i22 => k_is)
    (case l22 => k_is)
    (case c22 => k_is)
    (case k22 => k_is)
    (case a23 => k_is)
    (case i23 => k_is)
    (case l23 => k_is)
    (case c23 => k_is)
    (case k23 => k_is)
    (case a24 => k_is)
    (case i24 => k_is)
    (case l24 => k_is)
    (case c24 => k_is)
    (case k24 => k_is)
    (case a25 => k_is)
    (case i25 => k_is)
    (case l25 => k_is)
    (case c25 => k_is)
    (case k25 => k_is)
    (case a26 => k_is)
    (case i26 => k_is)
    (case l26 => k_is)
    (case c26 => k_is)
    (case k26 => k_is)
    (case a27 => k_is)
    (case i27 => k_is)
    (case l27 => k_is)
    (case c27 => k_is)
    (case k27 => k_is)
    (case a28 => k_is)
    (case i28 => k_is)
    (case l28 => k_is)
    (case c28 => k_is)
    (case k28 => k_is)
    (case a29 => k_is)
    (case i29 => k_is)
    (case l29 => k_is)
    (case c29 => k_is)
    (case k29 => k_is)
    (case a30 => k_is)
    (case i30 => k_is)
    (case l30 => k_is)
    (case c30 => k_is)
    (case k30 => k_is)
    (case a31 => k_is)
    (case i31 => k_is)
    (case l31 => k_is)
    (case c31 => k_is)
    (case k31 => k_is)
    (case a32 => k_is)
    (case i32 => k_is)
    (case l32 => k_is)
    (case c32 => k_is)
    (case k32 => k_is)
    (case a33 => k_is)
    (case i33 => k_is)
    (case l33 => k_is)
    (case c33 => k_is)
    (case k33 => k_is)
    (case a34 => k_is)
    (case i34 => k_is)
    (case l34 => k_is)
    (case c34 => k_is)
    (case k34 => k_is)
    (case a35 => k_is)
    (case i35 => k_is)
    (case l35 => k_is)
    (case c35 => k_is)
    (case k35 => k_is)
    (case a36 => k_is)
    (case i36 => k_is)
    (case l36 => k_is)
    (case c36 => k_is)
    (case k36 => k_is)
    (case a37 => k_is)
    (case i37 => k_is)
    (case l37 => k_is)
    (case c37 => k_is)
    (case k37 => k_is)
    (case a38 => k_is)
    (case i38 => k_is)
    (case l38 => k_is)
    (case c38 => k_is)
    (case k38 => k_is)
    (case a39 => k_is)
    (case i39 => k_is)
    (case l39 => k_is)
    (case c39 => k_is)
    (case k39 => k_is)
    (case a40 => k_is)
    (case i40 => k_is)
    (case l40 => k_is)
    (case c40 => k_is)
    (case k40 => k_is)
    (case a41 => k_is)
    (case i41 => k_is)
    (case l41 => k_is)
    (case c41 => k_is)
    (case k41 => k_is)
    (case a42 => k_is)
    (case i42 => k_is)
    (case l42 => k_is)
    (case c42 => k_is)
    (case k42 => k_is)
    (case a43 => k_is)
    (case i43 => k_is)
    (case l43 => k_is)
    (case c43 => k_is)
    (case k43 => k_is)
    (case a44 => k_is)
    (case i44 => k_is)
    (case l44 => k_is)
    (case c44 => k_is)
    (case k44 => k_is)
    (case a45 => k_is)
    (case i45 => k_is)
    (case l45 => k_is)
    (case c45 => k_is)
    (case k45 => k_is)
    (case a46 => k_is)
    (case l46 => k_is)
    (case c46 => k_is)
    (case k46 => k_is)
    (case a47 => k_is)
    (case l47 => k_is)
    (case c47 => k_is)
    (case k47 => k_is)
    (case a48 => k_is)
    (case l48 => k_is)
    (case c48 => k_is)
    (case k48 => k_is)
    (case a49 => k_is)
    (case l49 => k_is)
    (case c49 => k_is)
    (case k49 => k_is)
    (case a50 => k_is)
    (case l50 => k_is)
    (case c50 => k_is)
    (case k50 => k_is)
    (case a51 => k_is)
    (case i51 => k_is)
    (case l51 => k_is)
    (case c51 => k_is)
    (case k51 => k_is)
    (case a52 => k_is)
    (case i52 => k_is)
    (case l52 => k_is)
    (case c52 => k_is)
    (case k52 => k_is)
    (case a53 => k_is)
    (case i53 => k_is)
    (case l53 => k_is)
    (case c53 => k_is)
    (case k53 => k_is)
    (case a54 => k_is)
    (case l54 => k_is)
    (case c54 => k_is)
    (case k54 => k_is)
    (case a55 => k_is)
    (case l55 => k_is)
    (case c55 => k_is)
    (case k55 => k_is)
    (case a56 => k_is)
    (case l56 => k_is)
    (case c56 => k_is)
    (case k56 => k_is)
    (case a57 => k_is)
    (case l57 => k_is)
    (case c57 => k_is)
    (case k57 => k_is)
    (case a58 => k_is)
    (case l58 => k_is)
    (case c58 => k_is)
    (case k58 => k_is)
    (case a59 => k_is)
    (case l59 => k_is)
    (case c59 => k_is)
    (case k59 => k_is)
    (case a60 => k_is)
    (case l60 => k_is)
    (case c60 => k_is)
    (case k60 => k_is)
    (case a61 => k_is)
    (case l61 => k_is)
    (case c61 => k_is)
    (case k61 => k_is)
    (case a62 => k_is)
    (case l62 => k_is)
    (case c62 => k_is)
    (case k62 => k_is)
    (case a63 => k_is)
    (case l63 => k_is)
    (case c63 => k_is)
    (case k63 => k_is)
    (case a64 => k_is)
    (case l64 => k_is)
    (case c64 => k_is)
    (case k64 => k_is)
    (case a65 => k_is)
    (case l65 => k_is)
    (case c65 => k_is)
    (case k65 => k_is)
    (case xx_RingError => k_exc)
    (case xk_RingError => k_is)
    (case xb_RingError => k_is)
    (case xt_RingError => k_is)
    (case xi_RingError => k_is)
    (case xv_RingError => k_is)
    (case xs_RingError_RingError => first | rfl | k_is)
    (case xs_RingError_NoRing => first | rfl | k_is)
    (case xs_RingError_NoStation => first | rfl | k_is)
    (case xs_RingError_NoMessage => first | rfl | k_is)
    (case xs_RingError_IsOff => first | rfl | k_is)
    (case xs_RingError_IsOn => first | rfl | k_is)
    (case xs_RingError_NoToken => first | rfl | k_is)
    (case xx_NoRing => k_exc)
    (case xk_NoRing => k_is)
    (case xb_NoRing => k_is)
    (case xt_NoRing => k_is)
    (case xi_NoRing => k_is)
    (case xv_NoRing => k_is)
    (case xs_NoRing_RingError => first | rfl | k_is)
    (case xs_NoRing_NoRing => first | rfl | k_is)
    (case xs_NoRing_NoStation => first | rfl | k_is)
    (case xs_NoRing_NoMessage => first | rfl | k_is)
    (case xs_NoRing_IsOff => first | rfl | k_is)
    (case xs_NoRing_IsOn => first | rfl | k_is)
    (case xs_NoRing_NoToken => first | rfl | k_is)
    (case xx_NoStation => k_exc)
    (case xk_NoStation => k_is)
    (case xb_NoStation => k_is)
    (case xt_NoStation => k_is)
    (case xi_NoStation => k_is)
    (case xv_NoStation => k_is)
    (case xs_NoStation_RingError => first | rfl | k_is)
    (case xs_NoStation_NoRing => first | rfl | k_is)
    (case xs_NoStation_NoStation => first | rfl | k_is)
    (case xs_NoStation_NoMessage => first | rfl | k_is)
    (case xs_NoStation_IsOff => first | rfl | k_is)
    (case xs_NoStation_IsOn => first | rfl | k_is)
    (case xs_NoStation_NoToken => first | rfl | k_is)
    (case xx_NoMessage => k_exc)
    (case xk_NoMessage => k_is)
    (case xb_NoMessage => k_is)
    (case xt_NoMessage => k_is)
    (case xi_NoMessage => k_is)
    (case xv_NoMessage => k_is)
    (case xs_NoMessage_RingError => first | rfl | k_is)
    (case xs_NoMessage_NoRing => first | rfl | k_is)
    (case xs_NoMessage_NoStation => first | rfl | k_is)
    (case xs_NoMessage_NoMessage => first | rfl | k_is)
    (case xs_NoMessage_IsOff => first | rfl | k_is)
    (case xs_NoMessage_IsOn => first | rfl | k_is)
    (case xs_NoMessage_NoToken => first | rfl | k_is)
    (case xx_IsOff => k_exc)
    (case xk_IsOff => k_is)
    (case xb_IsOff => k_is)
    (case xt_IsOff => k_is)
    (case xi_IsOff => k_is)
    (case xv_IsOff => k_is)
    (case xs_IsOff_RingError => first | rfl | k_is)
    (case xs_IsOff_NoRing => first | rfl | k_is)
    (case xs_IsOff_NoStation => first | rfl | k_is)
    (case xs_IsOff_NoMessage => first | rfl | k_is)
    (case xs_IsOff_IsOff => first | rfl | k_is)
    (case xs_IsOff_IsOn => first | rfl | k_is)
    (case xs_IsOff_NoToken => first | rfl | k_is)
    (case xx_IsOn => k_exc)
    (case xk_IsOn => k_is)
    (case xb_IsOn => k_is)
    (case xt_IsOn => k_is)
    (case xi_IsOn => k_is)
    (case xv_IsOn => k_is)
    (case xs_IsOn_RingError => first | rfl | k_is)
    (case xs_IsOn_NoRing => first | rfl | k_is)
    (case xs_IsOn_NoStation => first | rfl | k_is)
    (case xs_IsOn_NoMessage => first | rfl | k_is)
    (case xs_IsOn_IsOff => first | rfl | k_is)
    (case xs_IsOn_IsOn => first | rfl | k_is)
    (case xs_IsOn_NoToken => first | rfl | k_is)
    (case xx_NoToken => k_exc)
    (case xk_NoToken => k_is)
    (case xb_NoToken => k_is)
    (case xt_NoToken => k_is)
    (case xi_NoToken => k_is)
    (case xv_NoToken => k_is)
    (case xs_NoToken_RingError => first | rfl | k_is)
    (case xs_NoToken_NoRing => first | rfl | k_is)
    (case xs_NoToken_NoStation => first | rfl | k_is)
    (case xs_NoToken_NoMessage => first | rfl | k_is)
    (case xs_NoToken_IsOff => first | rfl | k_is)
    (case xs_NoToken_IsOn => first | rfl | k_is)
    (case xs_NoToken_NoToken => first | rfl | k_is)
    (case pg_Station => k_is)
    (case hd_Station => k_is)
    (case po_Station => k_is)
    (case sa_Station => k_is)
    (case mk_Station => k_is)
    (case kc_Station => k_is)
    (case no_Station_on => k_is)
    (case no_Station_seen => k_is)
    (case no_Station_silence => k_is)
    (case no_Station_row => k_is)
    (case no_Station_told => k_is)
    (case pg_Token => k_is)
    (case hd_Token => k_is)
    (case po_Token => k_is)
    (case sa_Token => k_is)
    (case mk_Token => k_is)
    (case kc_Token => k_is)
    (case no_Token_number => k_is)
    (case no_Token_maker => k_is)
    (case no_Token_at => k_is)
    (case no_Token_winner => k_is)
    (case no_Token_best => k_is)
    (case pg_Ring => k_is)
    (case hd_Ring => k_is)
    (case po_Ring => k_is)
    (case sa_Ring => k_is)
    (case mk_Ring => k_is)
    (case kc_Ring => k_is)
    (case no_Ring_time => k_is)
    (case no_Ring_stations => k_is)
    (case no_Ring_tokens => k_is)
    (case no_Ring_rows => k_is)
    (case pg_Desk => k_is)
    (case hd_Desk => k_is)
    (case po_Desk => k_is)
    (case sa_Desk => k_is)
    (case mk_Desk => k_is)
    (case kc_Desk => k_is)
    (case no_Desk_ring => k_is)
    (case z_all => k_is)
    (case z_bool => k_is)
    (case z_enumerate => k_is)
    (case z_int => k_is)
    (case z_isinstance => k_is)
    (case z_len => k_is)
    (case z_list => k_is)
    (case z_min => k_is)
    (case z_range => k_is)
    (case z_str => k_is)
    (case cc_MOST_STATIONS => k_is)
    (case cc_MOST_RANK => k_is)
    (case cc_MOST_MARK => k_is)
    (case cc_NOT_UNDERSTOOD => k_is)
    (case cc_MOST_FIGURES => k_is)
    (case cc_MOST_STEPS => k_is)
    (case cc_NUMBERS => k_is)
    (case dn_NUMBERS => k_is)
    (case dk_NUMBERS => exact ⟨⟨_, _, rfl, rfl⟩, ⟨_, _, rfl, rfl⟩, ⟨_, _, rfl, rfl⟩, ⟨_, _, rfl, rfl⟩, ⟨_, _, rfl, rfl⟩, ⟨_, _, rfl, rfl⟩, ⟨_, _, rfl, rfl⟩, ⟨_, _, rfl, rfl⟩, trivial⟩)
    (case dl_NUMBERS => first | rfl | decide +kernel)
    (case dv_NUMBERS => first | rfl | decide +kernel)

