import PyProof.Rows.All
import Wide.All
import OpenK.AllK
import Wide.FinOn
import PySem.Challenge.RW_anyprice_k01_rows_and_costs
import HandS.ForMost
import HandS.Exc
import HandS.ExcOwn
import HandS.CallSlots
import HandS.WordsExc
import HandS.Wide
import HandS.IsInst
import HandS.Deep
import HandS.NoneIn
import HandS.TupAny
import HandS.TupMul
import HandS.Text
import KE.DataMinMax
import HandS.Style
import HandS.TryMany
import HandS.ExcInit
import HandS.ExcField
import KE.GoesNew
import KE.GoesEnum
import KE.SortData
import HandS.Ends
import HandS.HeadEnd
import HandS.HeadHook1
import HandS.HeadHook2
import PyProof.IsiBase
import PyProof.FactsAll.str
import HandS.Small
import HandS.ListItems
import KE.KStateDown
import HandS.Head0
import HandS.Head1
import HandS.Head2
set_option Elab.async false
set_option linter.all false
set_option maxRecDepth 100000
set_option maxHeartbeats 4000000
namespace VL
open PySem L2

/-- data without a heap: what is never changed any more -/
inductive D where
  | non | bl (b : Bool) | int (i : Int) | str (x : Str) | ty (n : String)
  | glob (x : Str)
  | lst (xs : List D) | tup (xs : List D)
  | scr (ns : List Int)
  | dic (ks : List D) (vs : List D)
  | ins (c : Str) (ns : List Str) (vs : List D)
/-- a value: data, or a cell that may change -/
inductive W where
  | d (x : D) | c (k : Nat)
inductive Cell where
  | lst (ws : List W)
  | dK (ks : List Key) (ws : List W)
  | dT (ks : List (List Key)) (ws : List W)
  | ins (c : Str) (ns : List Str) (ws : List W)
structure S where
  sl : List (Option W)
  ce : List (Option Cell)
inductive Out (α : Type) where
  | ok (a : α) (s : S)
  | exc (c : Str) (ns : List Str) (ws : List W) (s : S)
  | bad
inductive Fl where
  | nx (s : S) | rt (w : W) (s : S) | bk (s : S) | ct (s : S)
  | exc (c : Str) (ns : List Str) (ws : List W) (s : S)
  | bad
def Out.bind {α β : Type} (o : Out α) (f : α → S → Out β) : Out β := match o with
  | .ok a s => f a s
  | .exc c ns ws s => .exc c ns ws s
  | .bad => .bad
def Out.then {α : Type} (o : Out α) (f : α → S → Fl) : Fl := match o with
  | .ok a s => f a s
  | .exc c ns ws s => .exc c ns ws s
  | .bad => .bad
def Fl.then (o : Fl) (f : S → Fl) : Fl := match o with
  | .nx s => f s
  | .rt w s => .rt w s
  | .bk s => .bk s
  | .ct s => .ct s
  | .exc c ns ws s => .exc c ns ws s
  | .bad => .bad
@[simp] theorem Out.bind_ok {α β : Type} {a : α} {s : S} {f : α → S → Out β} : (Out.ok a s).bind f = f a s := rfl
@[simp] theorem Out.bind_bad {α β : Type} {f : α → S → Out β} : (Out.bad).bind f = .bad := rfl
@[simp] theorem Out.bind_exc {α β : Type} {c ns ws s} {f : α → S → Out β} : (Out.exc c ns ws s).bind f = .exc c ns ws s := rfl
@[simp] theorem Out.then_ok {α : Type} {a : α} {s : S} {f : α → S → Fl} : (Out.ok a s).then f = f a s := rfl
@[simp] theorem Out.then_bad {α : Type} {f : α → S → Fl} : (Out.bad).then f = .bad := rfl
@[simp] theorem Out.then_exc {α : Type} {c ns ws s} {f : α → S → Fl} : (Out.exc c ns ws s).then f = .exc c ns ws s := rfl
@[simp] theorem Fl.then_nx {s : S} {f : S → Fl} : (Fl.nx s).then f = f s := rfl
@[simp] theorem Fl.then_rt {w : W} {s : S} {f : S → Fl} : (Fl.rt w s).then f = .rt w s := rfl
@[simp] theorem Fl.then_bk {s : S} {f : S → Fl} : (Fl.bk s).then f = .bk s := rfl
@[simp] theorem Fl.then_ct {s : S} {f : S → Fl} : (Fl.ct s).then f = .ct s := rfl
@[simp] theorem Fl.then_bad {f : S → Fl} : (Fl.bad).then f = .bad := rfl
@[simp] theorem Fl.then_exc {c ns ws s} {f : S → Fl} : (Fl.exc c ns ws s).then f = .exc c ns ws s := rfl

def Ex (H H' : Hp) : Prop := ∀ a o, H a = some o → H' a = some o
theorem Ex.refl (H : Hp) : Ex H H := fun _ _ h => h
theorem Ex.trans {H H1 H2 : Hp} (a : Ex H H1) (b : Ex H1 H2) : Ex H H2 := fun x o h => b x o (a x o h)
theorem ex_rd {H H' : Hp} {a : Addr} {u : HO} (e : Ex H H') (h : Rd H a u) : Rd H' a u := by
  rcases h with h | ⟨o, h⟩
  · exact Or.inl (e a _ h)
  · exact Or.inr ⟨o, e a _ h⟩
theorem ex_l {K : PySem.W.Frag} {H H' : Hp} {a : Addr} {xs : List V} (e : Ex H H') (h : SqL K H a xs) : SqL K H' a xs := by
  rcases h with h | h
  · exact Or.inl (ex_rd e h)
  · exact Or.inr h
theorem ex_t {K : PySem.W.Frag} {H H' : Hp} {a : Addr} {xs : List V} (e : Ex H H') (h : SqT K H a xs) : SqT K H' a xs := by
  rcases h with h | h
  · exact Or.inl (ex_rd e h)
  · exact Or.inr h

/-- a dict's keys as data -/
def kD : Key → D
  | .inl i => .int i
  | .inr x => .str x

section
variable (K : PySem.W.Frag) (mg : Str → Option Value)
mutual
inductive R (F : Hp) : V → D → Prop
  | non : R F .non .non
  | bl (b : Bool) : R F (.bl b) (.bl b)
  | int (i : Int) : R F (.int i) (.int i)
  | str (x : Str) : R F (.str x) (.str x)
  | ty (n : String) : R F (.ty n) (.ty n)
  | glob {x : Str} {a : Addr} : mg x = some (.ref a) → PySem.W.isFn K (.ref a) = true → R F (.ref a) (.glob x)
  | scr {a : Addr} {ns : List Int} : SqL K F a (ns.map V.int) → R F (.ref a) (.scr ns)
  | lst {a : Addr} {vs : List V} {ds : List D} : F a = some (.lst vs) → RAll F vs ds → R F (.ref a) (.lst ds)
  | tup {a : Addr} {vs : List V} {ds : List D} : SqT K F a vs → RAll F vs ds → R F (.ref a) (.tup ds)
  | dicK {a : Addr} {ks : List Key} {vs : List V} {ds : List D} : F a = some (.dK (ks.zip vs)) → ks.length = vs.length → RAll F vs ds → R F (.ref a) (.dic (ks.map kD) ds)
  | dicT {a : Addr} {ks : List (List Key)} {vs : List V} {ds : List D} : ks ≠ [] → F a = some (.dT (ks.zip vs)) → ks.length = vs.length → RAll F vs ds → R F (.ref a) (.dic (ks.map fun k => .tup (k.map kD)) ds)
  | ins {a C dx : Addr} {c : Str} {ns : List Str} {vs : List V} {ds : List D} : mg c = some (.ref C) → F a = some (.ins C dx (ns.zip vs)) → ns.length = vs.length → RAll F vs ds → R F (.ref a) (.ins c ns ds)
inductive RAll (F : Hp) : List V → List D → Prop
  | nil : RAll F [] []
  | cons {v : V} {vs : List V} {d : D} {ds : List D} : R F v d → RAll F vs ds → RAll F (v :: vs) (d :: ds)
end
end
section
variable {K : PySem.W.Frag} {mg : Str → Option Value} {F F' : Hp}
theorem Rmono_aux (e : Ex F F') : (∀ v d, R K mg F v d → R K mg F' v d) ∧ (∀ vs ds, RAll K mg F vs ds → RAll K mg F' vs ds) := by
  constructor
  · intro v d h
    exact R.rec (motive_1 := fun v d _ => R K mg F' v d) (motive_2 := fun vs ds _ => RAll K mg F' vs ds) .non .bl .int .str .ty (fun h h2 => .glob h h2) (fun h => .scr (ex_l e h))
      (fun h _ ih => .lst (e _ _ h) ih) (fun h _ ih => .tup (ex_t e h) ih) (fun h l _ ih => .dicK (e _ _ h) l ih) (fun h0 h l _ ih => .dicT h0 (e _ _ h) l ih)
      (fun hc h l _ ih => .ins hc (e _ _ h) l ih) .nil (fun _ _ a b => .cons a b) h
  · intro vs ds h
    exact RAll.rec (motive_1 := fun v d _ => R K mg F' v d) (motive_2 := fun vs ds _ => RAll K mg F' vs ds) .non .bl .int .str .ty (fun h h2 => .glob h h2) (fun h => .scr (ex_l e h))
      (fun h _ ih => .lst (e _ _ h) ih) (fun h _ ih => .tup (ex_t e h) ih) (fun h l _ ih => .dicK (e _ _ h) l ih) (fun h0 h l _ ih => .dicT h0 (e _ _ h) l ih)
      (fun hc h l _ ih => .ins hc (e _ _ h) l ih) .nil (fun _ _ a b => .cons a b) h
theorem R.mono {v : V} {d : D} (h : R K mg F v d) (e : Ex F F') : R K mg F' v d := (Rmono_aux e).1 v d h
theorem RAll.mono {vs : List V} {ds : List D} (h : RAll K mg F vs ds) (e : Ex F F') : RAll K mg F' vs ds := (Rmono_aux e).2 vs ds h
theorem RAll.length {vs : List V} : ∀ {ds : List D}, RAll K mg F vs ds → vs.length = ds.length := by
  induction vs with
  | nil => intro ds h; cases h; rfl
  | cons v vs ih => intro ds h; cases h with | cons _ h2 => simp [ih h2]
theorem RAll.get {vs : List V} : ∀ {ds : List D} {i : Nat} {d : D}, RAll K mg F vs ds → ds[i]? = some d → ∃ v, vs[i]? = some v ∧ R K mg F v d := by
  induction vs with
  | nil => intro ds i d h e; cases h; simp at e
  | cons v vs ih =>
    intro ds i d h e
    cases h with
    | cons h1 h2 =>
      cases i with
      | zero => simp at e; subst e; exact ⟨v, rfl, h1⟩
      | succ i => exact ih (i := i) h2 (by simpa using e)
theorem RAll.append {vs : List V} : ∀ {ds : List D} {us : List V} {es : List D}, RAll K mg F vs ds → RAll K mg F us es → RAll K mg F (vs ++ us) (ds ++ es) := by
  induction vs with
  | nil => intro ds us es h k; cases h; exact k
  | cons v vs ih => intro ds us es h k; cases h with | cons h1 h2 => exact .cons h1 (ih h2 k)
theorem RAll.take {vs : List V} : ∀ {ds : List D} (n : Nat), RAll K mg F vs ds → RAll K mg F (vs.take n) (ds.take n) := by
  induction vs with
  | nil => intro ds n h; cases h; cases n <;> exact .nil
  | cons v vs ih => intro ds n h; cases h with | cons h1 h2 => cases n with | zero => exact .nil | succ n => exact .cons h1 (ih n h2)
theorem RAll.drop {vs : List V} : ∀ {ds : List D} (n : Nat), RAll K mg F vs ds → RAll K mg F (vs.drop n) (ds.drop n) := by
  induction vs with
  | nil => intro ds n h; cases h; cases n <;> exact .nil
  | cons v vs ih => intro ds n h; cases h with | cons h1 h2 => cases n with | zero => exact .cons h1 h2 | succ n => exact ih n h2
end

section
variable (K : PySem.W.Frag) (mg : Str → Option Value)
/-- a value that may be a cell; A tells the cells' addresses -/
def RW (A : List Addr) (F : Hp) (v : V) : W → Prop
  | .d x => R K mg F v x
  | .c k => ∃ a, A[k]? = some a ∧ v = .ref a
inductive RWs (A : List Addr) (F : Hp) : List V → List W → Prop
  | nil : RWs A F [] []
  | cons {v : V} {vs : List V} {w : W} {ws : List W} : RW K mg A F v w → RWs A F vs ws → RWs A F (v :: vs) (w :: ws)
def CR (A : List Addr) (F H : Hp) (a : Addr) : Cell → Prop
  | .lst ws => ∃ vs, H a = some (.lst vs) ∧ RWs K mg A F vs ws
  | .dK ks ws => ∃ vs, ks.length = ws.length ∧ RWs K mg A F vs ws ∧ H a = some (.dK (ks.zip vs))
  | .dT ks ws => ∃ vs, ks.length = ws.length ∧ RWs K mg A F vs ws ∧ H a = some (.dT (ks.zip vs))
  | .ins c ns ws => ∃ C dx vs, mg c = some (.ref C) ∧ ns.length = ws.length ∧ RWs K mg A F vs ws ∧ H a = some (.ins C dx (ns.zip vs))
/-- the cells lie in the heap, outside of the frozen part F -/
structure RelC (A : List Addr) (F : Hp) (ce : List (Option Cell)) (H : Hp) : Prop where
  ex : Ex F H
  len : A.length = ce.length
  nd : A.Nodup
  trk : ∀ a, a ∈ A → ∃ o, H a = some o
  cell : ∀ (k : Nat) c, ce[k]? = some (some c) → ∃ a, A[k]? = some a ∧ F a = none ∧ CR K mg A F H a c
structure Rel (A : List Addr) (F : Hp) (s : S) (σ : L2.St) (H : Hp) : Prop where
  cs : RelC K mg A F s.ce H
  sz : s.sl.length = σ.length
  slot : ∀ (i : Nat) w, s.sl[i]? = some (some w) → ∃ v, σ[i]? = some (some v) ∧ RW K mg A F v w
def PostE (W' : WX) (A : List Addr) (F : Hp) (σ : L2.St) (Q : VK) : Out W → Prop
  | .ok w s' => ∀ A' F' H' v, A <+: A' → Ex F F' → Rel K mg A' F' s' σ H' → RW K mg A' F' v w → Q v H'
  | .exc c ns ws s' => ∀ A' F' H' C d vs, A <+: A' → Ex F F' → Rel K mg A' F' s' σ H' → mg c = some (.ref C) → RWs K mg A' F' vs ws → H' d = some (.xd (ns.zip vs)) → W' (.ref C) (some d) σ H'
  | .bad => False
def PostT (W' : WX) (A : List Addr) (F : Hp) (σ : L2.St) (Q : Bool → Hp → Prop) : Out Bool → Prop
  | .ok w s' => ∀ A' F' H', A <+: A' → Ex F F' → Rel K mg A' F' s' σ H' → Q w H'
  | .exc c ns ws s' => ∀ A' F' H' C d vs, A <+: A' → Ex F F' → Rel K mg A' F' s' σ H' → mg c = some (.ref C) → RWs K mg A' F' vs ws → H' d = some (.xd (ns.zip vs)) → W' (.ref C) (some d) σ H'
  | .bad => False
def PostA (W' : WX) (A : List Addr) (F : Hp) (σ : L2.St) (Q : List V → Hp → Prop) : Out (List W) → Prop
  | .ok ws s' => ∀ A' F' H' vs, A <+: A' → Ex F F' → Rel K mg A' F' s' σ H' → RWs K mg A' F' vs ws → Q vs H'
  | .exc c ns ws s' => ∀ A' F' H' C d vs, A <+: A' → Ex F F' → Rel K mg A' F' s' σ H' → mg c = some (.ref C) → RWs K mg A' F' vs ws → H' d = some (.xd (ns.zip vs)) → W' (.ref C) (some d) σ H'
  | .bad => False
def PostS (W' : WX) (A : List Addr) (F : Hp) (De : Ends) : Fl → Prop
  | .nx s' => ∀ A' F' H' σ', A <+: A' → Ex F F' → Rel K mg A' F' s' σ' H' → De.nx σ' H'
  | .bk s' => ∀ A' F' H' σ', A <+: A' → Ex F F' → Rel K mg A' F' s' σ' H' → De.bk σ' H'
  | .ct s' => ∀ A' F' H' σ', A <+: A' → Ex F F' → Rel K mg A' F' s' σ' H' → De.ct σ' H'
  | .rt w s' => ∀ A' F' H' v, A <+: A' → Ex F F' → RelC K mg A' F' s'.ce H' → RW K mg A' F' v w → De.rt v H'
  | .exc c ns ws s' => ∀ A' F' H' C d vs σ', A <+: A' → Ex F F' → Rel K mg A' F' s' σ' H' → mg c = some (.ref C) → RWs K mg A' F' vs ws → H' d = some (.xd (ns.zip vs)) → W' (.ref C) (some d) σ' H'
  | .bad => False
def tE (W' : WX) (f : S → Out W) : TE := fun σ H Q => ∃ s A F, Rel K mg A F s σ H ∧ PostE K mg W' A F σ Q (f s)
def tT (W' : WX) (f : S → Out Bool) : TT := fun σ H Q => ∃ s A F, Rel K mg A F s σ H ∧ PostT K mg W' A F σ Q (f s)
def tA (W' : WX) (f : S → Out (List W)) : TA := fun σ H Q => ∃ s A F, Rel K mg A F s σ H ∧ PostA K mg W' A F σ Q (f s)
def tS (W' : WX) (f : S → Fl) : TS := fun De σ H => ∃ s A F, Rel K mg A F s σ H ∧ PostS K mg W' A F De (f s)
end

section
variable {K : PySem.W.Frag} {mg : Str → Option Value} {A A' A1 : List Addr} {F F' F1 H H' : Hp} {σ : L2.St} {W' : WX} {s s1 : S} {Q : VK}
theorem RW.mono {v : V} {w : W} (h : RW K mg A F v w) (a : A <+: A') (e : Ex F F') : RW K mg A' F' v w := by
  cases w with
  | d x => exact R.mono h e
  | c k =>
    obtain ⟨b, h1, h2⟩ := h
    obtain ⟨t, rfl⟩ := a
    refine ⟨b, ?_, h2⟩
    rw [List.getElem?_append_left]
    · exact h1
    · exact (List.getElem?_eq_some_iff.mp h1).1
theorem RWs.mono {vs : List V} {ws : List W} (h : RWs K mg A F vs ws) (a : A <+: A') (e : Ex F F') : RWs K mg A' F' vs ws := by
  induction h with
  | nil => exact .nil
  | cons h1 _ ih => exact .cons (h1.mono a e) ih
theorem RWs.length {vs : List V} {ws : List W} (h : RWs K mg A F vs ws) : vs.length = ws.length := by
  induction h with
  | nil => rfl
  | cons _ _ ih => simp [ih]
theorem RWs.append {vs us : List V} {ws zs : List W} (h : RWs K mg A F vs ws) (k : RWs K mg A F us zs) : RWs K mg A F (vs ++ us) (ws ++ zs) := by
  induction h with
  | nil => exact k
  | cons h1 _ ih => exact .cons h1 ih
theorem RWs.get {vs : List V} {ws : List W} (h : RWs K mg A F vs ws) : ∀ {i : Nat} {w : W}, ws[i]? = some w → ∃ v, vs[i]? = some v ∧ RW K mg A F v w := by
  induction h with
  | nil => intro i w e; simp at e
  | cons h1 _ ih =>
    intro i w e
    cases i with
    | zero => simp at e; subst e; exact ⟨_, rfl, h1⟩
    | succ i => exact ih (i := i) (by simpa using e)
theorem RWs.get' {vs : List V} {ws : List W} (h : RWs K mg A F vs ws) : ∀ {i : Nat} {v : V}, vs[i]? = some v → ∃ w, ws[i]? = some w ∧ RW K mg A F v w := by
  induction h with
  | nil => intro i w e; simp at e
  | cons h1 _ ih =>
    intro i w e
    cases i with
    | zero => simp at e; subst e; exact ⟨_, rfl, h1⟩
    | succ i => exact ih (i := i) (by simpa using e)
theorem RWs.set {vs : List V} {ws : List W} {v : V} {w : W} (h : RWs K mg A F vs ws) (k : RW K mg A F v w) : ∀ i : Nat, RWs K mg A F (vs.set i v) (ws.set i w) := by
  induction h with
  | nil => intro i; exact .nil
  | cons h1 h2 ih => intro i; cases i with | zero => exact .cons k h2 | succ i => exact .cons h1 (ih i)
theorem RWs.take {vs : List V} {ws : List W} (h : RWs K mg A F vs ws) : ∀ n : Nat, RWs K mg A F (vs.take n) (ws.take n) := by
  induction h with
  | nil => intro i; cases i <;> exact .nil
  | cons h1 h2 ih => intro i; cases i with | zero => exact .nil | succ i => exact .cons h1 (ih i)
theorem RWs.drop {vs : List V} {ws : List W} (h : RWs K mg A F vs ws) : ∀ n : Nat, RWs K mg A F (vs.drop n) (ws.drop n) := by
  induction h with
  | nil => intro i; cases i <;> exact .nil
  | cons h1 h2 ih => intro i; cases i with | zero => exact .cons h1 h2 | succ i => exact ih i
theorem RWs.ofR {vs : List V} : ∀ {ds : List D}, RAll K mg F vs ds → RWs K mg A F vs (ds.map .d) := by
  induction vs with
  | nil => intro ds h; cases h; exact .nil
  | cons v vs ih => intro ds h; cases h with | cons h1 h2 => exact .cons h1 (ih h2)
theorem CR.mono {a : Addr} {c : Cell} (h : CR K mg A F H a c) (p : A <+: A') (e : Ex F F') (k : ∀ o, H a = some o → H' a = some o) : CR K mg A' F' H' a c := by
  cases c with
  | lst ws => obtain ⟨vs, h1, h2⟩ := h; exact ⟨vs, k _ h1, h2.mono p e⟩
  | dK ks ws => obtain ⟨vs, hl, h2, h3⟩ := h; exact ⟨vs, hl, h2.mono p e, k _ h3⟩
  | dT ks ws => obtain ⟨vs, hl, h2, h3⟩ := h; exact ⟨vs, hl, h2.mono p e, k _ h3⟩
  | ins c ns ws => obtain ⟨C, dx, vs, h1, h2, h3, h4⟩ := h; exact ⟨C, dx, vs, h1, h2, h3.mono p e, k _ h4⟩
theorem PostE.imp {Q' : VK} {o : Out W} (h : PostE K mg W' A F σ Q o) (k : ∀ v H, Q v H → Q' v H) : PostE K mg W' A F σ Q' o := by
  cases o with
  | ok w s' => exact fun A' F' H' v a e r q => k _ _ (h A' F' H' v a e r q)
  | exc c ns ws s' => exact h
  | bad => exact h
/-- what was wanted from the start is wanted later -/
theorem PostE.later {o : Out W} (h : PostE K mg W' A F σ Q o) (a : A <+: A1) (e : Ex F F1) : PostE K mg W' A1 F1 σ Q o := by
  cases o with
  | ok w s' => exact fun A' F' H' v a' e' r q => h A' F' H' v (a.trans a') (e.trans e') r q
  | exc c ns ws s' => exact fun A' F' H' C d vs a' e' r q => h A' F' H' C d vs (a.trans a') (e.trans e') r q
  | bad => exact h
theorem PostT.later {Q : Bool → Hp → Prop} {o : Out Bool} (h : PostT K mg W' A F σ Q o) (a : A <+: A1) (e : Ex F F1) : PostT K mg W' A1 F1 σ Q o := by
  cases o with
  | ok w s' => exact fun A' F' H' a' e' r => h A' F' H' (a.trans a') (e.trans e') r
  | exc c ns ws s' => exact fun A' F' H' C d vs a' e' r q => h A' F' H' C d vs (a.trans a') (e.trans e') r q
  | bad => exact h
theorem PostA.later {Q : List V → Hp → Prop} {o : Out (List W)} (h : PostA K mg W' A F σ Q o) (a : A <+: A1) (e : Ex F F1) : PostA K mg W' A1 F1 σ Q o := by
  cases o with
  | ok w s' => exact fun A' F' H' v a' e' r q => h A' F' H' v (a.trans a') (e.trans e') r q
  | exc c ns ws s' => exact fun A' F' H' C d vs a' e' r q => h A' F' H' C d vs (a.trans a') (e.trans e') r q
  | bad => exact h
theorem PostS.later {De : Ends} {o : Fl} (h : PostS K mg W' A F De o) (a : A <+: A1) (e : Ex F F1) : PostS K mg W' A1 F1 De o := by
  cases o with
  | nx s' => exact fun A' F' H' σ' a' e' r => h A' F' H' σ' (a.trans a') (e.trans e') r
  | bk s' => exact fun A' F' H' σ' a' e' r => h A' F' H' σ' (a.trans a') (e.trans e') r
  | ct s' => exact fun A' F' H' σ' a' e' r => h A' F' H' σ' (a.trans a') (e.trans e') r
  | rt w s' => exact fun A' F' H' v a' e' r q => h A' F' H' v (a.trans a') (e.trans e') r q
  | exc c ns ws s' => exact fun A' F' H' C d vs σ' a' e' r q => h A' F' H' C d vs σ' (a.trans a') (e.trans e') r q
  | bad => exact h
/-! one behind another -/
theorem PostE.bind {o : Out W} {g : W → S → Out W} (h : PostE K mg W' A F σ Q (o.bind g)) :
    PostE K mg W' A F σ (fun v H1 => ∃ w s1 A1 F1, A <+: A1 ∧ Ex F F1 ∧ Rel K mg A1 F1 s1 σ H1 ∧ RW K mg A1 F1 v w ∧ PostE K mg W' A1 F1 σ Q (g w s1)) o := by
  cases o with
  | ok w s' => exact fun A' F' H' v a e r q => ⟨w, s', A', F', a, e, r, q, PostE.later h a e⟩
  | exc c ns ws s' => exact h
  | bad => exact h
theorem PostE.bindA {o : Out W} {g : W → S → Out (List W)} {Q : List V → Hp → Prop} (h : PostA K mg W' A F σ Q (o.bind g)) :
    PostE K mg W' A F σ (fun v H1 => ∃ w s1 A1 F1, A <+: A1 ∧ Ex F F1 ∧ Rel K mg A1 F1 s1 σ H1 ∧ RW K mg A1 F1 v w ∧ PostA K mg W' A1 F1 σ Q (g w s1)) o := by
  cases o with
  | ok w s' => exact fun A' F' H' v a e r q => ⟨w, s', A', F', a, e, r, q, PostA.later h a e⟩
  | exc c ns ws s' => exact h
  | bad => exact h
theorem PostA.bind {o : Out (List W)} {g : List W → S → Out W} (h : PostE K mg W' A F σ Q (o.bind g)) :
    PostA K mg W' A F σ (fun v H1 => ∃ w s1 A1 F1, A <+: A1 ∧ Ex F F1 ∧ Rel K mg A1 F1 s1 σ H1 ∧ RWs K mg A1 F1 v w ∧ PostE K mg W' A1 F1 σ Q (g w s1)) o := by
  cases o with
  | ok w s' => exact fun A' F' H' v a e r q => ⟨w, s', A', F', a, e, r, q, PostE.later h a e⟩
  | exc c ns ws s' => exact h
  | bad => exact h
theorem PostA.bindA {o : Out (List W)} {g : List W → S → Out (List W)} {Q : List V → Hp → Prop} (h : PostA K mg W' A F σ Q (o.bind g)) :
    PostA K mg W' A F σ (fun v H1 => ∃ w s1 A1 F1, A <+: A1 ∧ Ex F F1 ∧ Rel K mg A1 F1 s1 σ H1 ∧ RWs K mg A1 F1 v w ∧ PostA K mg W' A1 F1 σ Q (g w s1)) o := by
  cases o with
  | ok w s' => exact fun A' F' H' v a e r q => ⟨w, s', A', F', a, e, r, q, PostA.later h a e⟩
  | exc c ns ws s' => exact h
  | bad => exact h
theorem PostE.bindT {o : Out W} {g : W → S → Out Bool} {Q : Bool → Hp → Prop} (h : PostT K mg W' A F σ Q (o.bind g)) :
    PostE K mg W' A F σ (fun v H1 => ∃ w s1 A1 F1, A <+: A1 ∧ Ex F F1 ∧ Rel K mg A1 F1 s1 σ H1 ∧ RW K mg A1 F1 v w ∧ PostT K mg W' A1 F1 σ Q (g w s1)) o := by
  cases o with
  | ok w s' => exact fun A' F' H' v a e r q => ⟨w, s', A', F', a, e, r, q, PostT.later h a e⟩
  | exc c ns ws s' => exact h
  | bad => exact h
theorem PostT.bindT {o : Out Bool} {g : Bool → S → Out Bool} {Q : Bool → Hp → Prop} (h : PostT K mg W' A F σ Q (o.bind g)) :
    PostT K mg W' A F σ (fun v H1 => ∃ s1 A1 F1, A <+: A1 ∧ Ex F F1 ∧ Rel K mg A1 F1 s1 σ H1 ∧ PostT K mg W' A1 F1 σ Q (g v s1)) o := by
  cases o with
  | ok w s' => exact fun A' F' H' a e r => ⟨s', A', F', a, e, r, PostT.later h a e⟩
  | exc c ns ws s' => exact h
  | bad => exact h
theorem PostT.bind {o : Out Bool} {g : Bool → S → Out W} (h : PostE K mg W' A F σ Q (o.bind g)) :
    PostT K mg W' A F σ (fun v H1 => ∃ s1 A1 F1, A <+: A1 ∧ Ex F F1 ∧ Rel K mg A1 F1 s1 σ H1 ∧ PostE K mg W' A1 F1 σ Q (g v s1)) o := by
  cases o with
  | ok w s' => exact fun A' F' H' a e r => ⟨s', A', F', a, e, r, PostE.later h a e⟩
  | exc c ns ws s' => exact h
  | bad => exact h
theorem PostE.thenS {De : Ends} {o : Out W} {g : W → S → Fl} (h : PostS K mg W' A F De (o.then g)) :
    PostE K mg W' A F σ (fun v H1 => ∃ w s1 A1 F1, A <+: A1 ∧ Ex F F1 ∧ Rel K mg A1 F1 s1 σ H1 ∧ RW K mg A1 F1 v w ∧ PostS K mg W' A1 F1 De (g w s1)) o := by
  cases o with
  | ok w s' => exact fun A' F' H' v a e r q => ⟨w, s', A', F', a, e, r, q, PostS.later h a e⟩
  | exc c ns ws s' => exact fun A' F' H' C d vs a e r m q hd => h A' F' H' C d vs σ a e r m q hd
  | bad => exact h
theorem PostT.thenS {De : Ends} {o : Out Bool} {g : Bool → S → Fl} (h : PostS K mg W' A F De (o.then g)) :
    PostT K mg W' A F σ (fun v H1 => ∃ s1 A1 F1, A <+: A1 ∧ Ex F F1 ∧ Rel K mg A1 F1 s1 σ H1 ∧ PostS K mg W' A1 F1 De (g v s1)) o := by
  cases o with
  | ok w s' => exact fun A' F' H' a e r => ⟨s', A', F', a, e, r, PostS.later h a e⟩
  | exc c ns ws s' => exact fun A' F' H' C d vs a e r m q hd => h A' F' H' C d vs σ a e r m q hd
  | bad => exact h
theorem PostS.thenS {De : Ends} {o : Fl} {g : S → Fl} (h : PostS K mg W' A F De (o.then g)) :
    PostS K mg W' A F { De with nx := fun σ' H1 => ∃ s1 A1 F1, A <+: A1 ∧ Ex F F1 ∧ Rel K mg A1 F1 s1 σ' H1 ∧ PostS K mg W' A1 F1 De (g s1) } o := by
  cases o with
  | nx s' => exact fun A' F' H' σ' a e r => ⟨s', A', F', a, e, r, PostS.later h a e⟩
  | bk s' => exact h
  | ct s' => exact h
  | rt w s' => exact h
  | exc c ns ws s' => exact h
  | bad => exact h
end
end VL

set_option maxHeartbeats 4000000
namespace VL
open PySem L2

section
variable {K : PySem.W.Frag} {mg : Str → Option Value} {A A' : List Addr} {F F' H H' : Hp} {σ : L2.St} {W' : WX} {s : S} {Q : VK} {ce : List (Option Cell)}
/-! ### laying something new -/
theorem ex_upd {p : Addr} {o : HO} (h : H p = none) : Ex H (upd H p o) := fun a u e => by
  rw [upd_ne (ne_of_none e h)]
  exact e
theorem RelC.none_of (r : RelC K mg A F ce H) {p : Addr} (h : H p = none) : F p = none := by
  cases e : F p with
  | none => rfl
  | some o => rw [r.ex p o e] at h; cases h
/-- a new object goes to the frozen part -/
theorem RelC.new (r : RelC K mg A F ce H) {p : Addr} (h : H p = none) (o : HO) : RelC K mg A (upd F p o) ce (upd H p o) := by
  have hp : p ∉ A := fun m => by obtain ⟨o', e⟩ := r.trk p m; rw [h] at e; cases e
  refine ⟨fun a u e => ?_, r.len, r.nd, fun a m => ?_, fun k c e => ?_⟩
  · by_cases q : a = p
    · subst q; rw [upd_same] at e ⊢; exact e
    · rw [upd_ne q] at e ⊢; exact r.ex a u e
  · obtain ⟨o', e⟩ := r.trk a m
    exact ⟨o', ex_upd h a o' e⟩
  · obtain ⟨a, h1, h2, h3⟩ := r.cell k c e
    have ha : a ≠ p := fun q => hp (q ▸ List.mem_of_getElem? h1)
    exact ⟨a, h1, by rw [upd_ne ha]; exact h2, h3.mono (List.prefix_refl A) (ex_upd (r.none_of h)) (fun o e => ex_upd h a o e)⟩
/-- several new objects, none of which was there -/
theorem RelC.grow (r : RelC K mg A F ce H) (e : Ex H H') (k : ∀ a, H a = none → F' a = H' a) (k2 : ∀ a o, H a = some o → F' a = F a) : RelC K mg A F' ce H' := by
  have ef : Ex F F' := fun a o h => by rw [k2 a o (r.ex a o h)]; exact h
  refine ⟨fun a u h => ?_, r.len, r.nd, fun a m => ?_, fun i c h => ?_⟩
  · cases q : H a with
    | none => rw [← k a q]; exact h
    | some o => rw [k2 a o q] at h; exact e a u (r.ex a u h)
  · obtain ⟨o', e'⟩ := r.trk a m
    exact ⟨o', e a o' e'⟩
  · obtain ⟨a, h1, h2, h3⟩ := r.cell i c h
    obtain ⟨o, ho⟩ := r.trk a (List.mem_of_getElem? h1)
    exact ⟨a, h1, by rw [k2 a o ho]; exact h2, h3.mono (List.prefix_refl A) ef (fun o q => e a o q)⟩
theorem Rel.slots (r : Rel K mg A F s σ H) (e : Ex F F') (c : RelC K mg A F' s.ce H') : Rel K mg A F' s σ H' :=
  ⟨c, r.sz, fun i w h => by obtain ⟨v, h1, h2⟩ := r.slot i w h; exact ⟨v, h1, h2.mono (List.prefix_refl A) e⟩⟩
theorem Rel.self (r : Rel K mg A F s σ H) : ∀ (i : Nat) w, s.sl[i]? = some (some w) → ∃ v, σ[i]? = some (some v) ∧ RW K mg A F v w := r.slot

/-! ### data of values -/
def datAll : List W → Option (List D)
  | [] => some []
  | .d x :: r => (datAll r).map (x :: ·)
  | .c _ :: _ => none
theorem datAll_map (ds : List D) : datAll (ds.map .d) = some ds := by
  induction ds with
  | nil => rfl
  | cons d ds ih => simp [datAll, ih]
theorem datAll_eq : ∀ {ws : List W} {ds : List D}, datAll ws = some ds → ws = ds.map .d
  | [], ds, h => by simp [datAll] at h; subst h; rfl
  | .d x :: r, ds, h => by
    simp [datAll] at h
    obtain ⟨es, h1, h2⟩ := h
    subst h2
    rw [datAll_eq h1]; rfl
  | .c _ :: _, ds, h => by simp [datAll] at h
def dat (ce : List (Option Cell)) : W → Option D
  | .d x => some x
  | .c k => match ce[k]? with
    | some (some (.lst ws)) => (datAll ws).map .lst
    | some (some (.dK ks ws)) => (datAll ws).map (.dic (ks.map kD))
    | some (some (.dT (k0 :: ks) ws)) => (datAll ws).map (.dic ((k0 :: ks).map fun k => .tup (k.map kD)))
    | _ => none
@[simp] theorem dat_d {x : D} : dat ce (.d x) = some x := rfl
theorem RAll.ofW {vs : List V} {ds : List D} (h : RWs K mg A F vs (ds.map .d)) : RAll K mg F vs ds := by
  induction ds generalizing vs with
  | nil => cases h; exact .nil
  | cons d ds ih => cases h with | cons h1 h2 => exact .cons h1 (ih h2)
/-- a value's data: the root is read in H, what it holds in F -/
inductive RT (K : PySem.W.Frag) (mg : Str → Option Value) (F H : Hp) : V → D → Prop
  | flat {v : V} {d : D} : R K mg F v d → (∀ ds, d ≠ .lst ds) → (∀ ds, d ≠ .tup ds) → (∀ ks ds, d ≠ .dic ks ds) → RT K mg F H v d
  | lst {a : Addr} {vs : List V} {ds : List D} : H a = some (.lst vs) → RAll K mg F vs ds → RT K mg F H (.ref a) (.lst ds)
  | tup {a : Addr} {vs : List V} {ds : List D} : SqT K H a vs → RAll K mg F vs ds → RT K mg F H (.ref a) (.tup ds)
  | dicK {a : Addr} {ks : List Key} {vs : List V} {ds : List D} : H a = some (.dK (ks.zip vs)) → ks.length = vs.length → RAll K mg F vs ds → RT K mg F H (.ref a) (.dic (ks.map kD) ds)
  | dicT {a : Addr} {ks : List (List Key)} {vs : List V} {ds : List D} : ks ≠ [] → H a = some (.dT (ks.zip vs)) → ks.length = vs.length → RAll K mg F vs ds → RT K mg F H (.ref a) (.dic (ks.map fun k => .tup (k.map kD)) ds)
theorem R.rt {v : V} {d : D} (h : R K mg F v d) (e : Ex F H) : RT K mg F H v d := by
  cases h with
  | lst h1 h2 => exact .lst (e _ _ h1) h2
  | tup h1 h2 => exact .tup (ex_t e h1) h2
  | dicK h1 h2 h3 => exact .dicK (e _ _ h1) h2 h3
  | dicT h0 h1 h2 h3 => exact .dicT h0 (e _ _ h1) h2 h3
  | non => exact .flat .non (by intros; simp) (by intros; simp) (by intros; simp)
  | bl b => exact .flat (.bl b) (by intros; simp) (by intros; simp) (by intros; simp)
  | int b => exact .flat (.int b) (by intros; simp) (by intros; simp) (by intros; simp)
  | str b => exact .flat (.str b) (by intros; simp) (by intros; simp) (by intros; simp)
  | ty b => exact .flat (.ty b) (by intros; simp) (by intros; simp) (by intros; simp)
  | glob b hf => exact .flat (.glob b hf) (by intros; simp) (by intros; simp) (by intros; simp)
  | scr b => exact .flat (.scr b) (by intros; simp) (by intros; simp) (by intros; simp)
  | ins a b c d => exact .flat (.ins a b c d) (by intros; simp) (by intros; simp) (by intros; simp)
theorem RT.r {v : V} {d : D} (h : RT K mg F H v d) (e : Ex F H) : R K mg H v d := by
  cases h with
  | flat h _ _ _ => exact h.mono e
  | lst h1 h2 => exact .lst h1 (h2.mono e)
  | tup h1 h2 => exact .tup h1 (h2.mono e)
  | dicK h1 h2 h3 => exact .dicK h1 h2 (h3.mono e)
  | dicT h0 h1 h2 h3 => exact .dicT h0 h1 h2 (h3.mono e)
theorem dat_rt (r : RelC K mg A F ce H) {v : V} {w : W} {x : D} (h : RW K mg A F v w) (e : dat ce w = some x) : RT K mg F H v x := by
  cases w with
  | d y => simp [dat] at e; subst e; exact R.rt h r.ex
  | c k =>
    obtain ⟨a, ha, rfl⟩ := h
    simp only [dat] at e
    split at e
    · rename_i ws hc
      obtain ⟨b, h1, h2, vs, h3, h4⟩ := r.cell k _ hc
      rw [ha] at h1; cases h1
      cases q : datAll ws with
      | none => rw [q] at e; cases e
      | some ds =>
        rw [q] at e; cases e
        rw [datAll_eq q] at h4
        exact .lst h3 (RAll.ofW h4)
    · rename_i ks ws hc
      obtain ⟨b, h1, h2, vs, hl, h4, h3⟩ := r.cell k _ hc
      rw [ha] at h1; cases h1
      cases q : datAll ws with
      | none => rw [q] at e; cases e
      | some ds =>
        rw [q] at e; cases e
        rw [datAll_eq q] at h4 hl
        have hv := h4.length
        exact .dicK h3 (by simp at hl hv; omega) (RAll.ofW h4)
    · rename_i k0 ks ws hc
      obtain ⟨b, h1, h2, vs, hl, h4, h3⟩ := r.cell k _ hc
      rw [ha] at h1; cases h1
      cases q : datAll ws with
      | none => rw [q] at e; cases e
      | some ds =>
        rw [q] at e; cases e
        rw [datAll_eq q] at h4 hl
        have hv := h4.length
        exact .dicT (by simp) h3 (by simp at hl hv ⊢; omega) (RAll.ofW h4)
    · cases e

/-! ### operations on values that make data -/
abbrev P2 := List (Option Cell) → W → W → Option D
abbrev PN := List (Option Cell) → List W → Option D
def Fin (K : PySem.W.Frag) (mg : Str → Option Value) (A : List Addr) (F : Hp) (ce : List (Option Cell)) (d : D) (Q : VK) : Prop := ∀ F' H' v, Ex F F' → RelC K mg A F' ce H' → R K mg F' v d → Q v H'
def rP2 (K : PySem.W.Frag) (mg : Str → Option Value) (o : P2) : R2 := fun vx vy H Q => ∃ ce A F x y d, RelC K mg A F ce H ∧ RW K mg A F vx x ∧ RW K mg A F vy y ∧ o ce x y = some d ∧ Fin K mg A F ce d Q
def rP1 (K : PySem.W.Frag) (mg : Str → Option Value) (o : List (Option Cell) → W → Option D) : V → Hp → VK → Prop := fun vx H Q => ∃ ce A F x d, RelC K mg A F ce H ∧ RW K mg A F vx x ∧ o ce x = some d ∧ Fin K mg A F ce d Q
def rPN (K : PySem.W.Frag) (mg : Str → Option Value) (o : PN) : List V → Hp → VK → Prop := fun vs H Q => ∃ ce A F ws d, RelC K mg A F ce H ∧ RWs K mg A F vs ws ∧ o ce ws = some d ∧ Fin K mg A F ce d Q
theorem Fin.now (k : Fin K mg A F ce d Q) (r : RelC K mg A F ce H) {v : V} (h : R K mg F v d) : Q v H := k F H v (Ex.refl F) r h
theorem Fin.lst {ds : List D} (k : Fin K mg A F ce (.lst ds) Q) (r : RelC K mg A F ce H) {vs : List V} (h : RAll K mg F vs ds) {p : Addr} (hp : H p = none) : Q (.ref p) (upd H p (.lst vs)) :=
  k _ _ _ (ex_upd (r.none_of hp)) (r.new hp _) (.lst upd_same (h.mono (ex_upd (r.none_of hp))))
theorem Fin.tup {ds : List D} (k : Fin K mg A F ce (.tup ds) Q) (r : RelC K mg A F ce H) {vs : List V} (h : RAll K mg F vs ds) {p : Addr} (hp : H p = none) : Q (.ref p) (upd H p (.tup vs)) :=
  k _ _ _ (ex_upd (r.none_of hp)) (r.new hp _) (.tup (SqT.of upd_same) (h.mono (ex_upd (r.none_of hp))))
end

/-! ### expressions -/
def opt (o : Option D) (s : S) : Out W := match o with
  | some d => .ok (.d d) s
  | none => .bad
@[simp] theorem opt_some {d : D} {s : S} : opt (some d) s = .ok (.d d) s := rfl
@[simp] theorem opt_none {s : S} : opt none s = .bad := rfl
def eVar (i : Nat) (s : S) : Out W := match s.sl[i]? with
  | some (some w) => .ok w s
  | _ => .bad
def eC (d : D) (s : S) : Out W := .ok (.d d) s
def eOp1 (o : List (Option Cell) → W → Option D) (fa : S → Out W) (s : S) : Out W := (fa s).bind fun x s1 => opt (o s1.ce x) s1
def eOp2 (o : P2) (fa fb : S → Out W) (s : S) : Out W := (fa s).bind fun x s1 => (fb s1).bind fun y s2 => opt (o s2.ce x y) s2
def eOpN (o : PN) (fa : S → Out (List W)) (s : S) : Out W := (fa s).bind fun ws s1 => opt (o s1.ce ws) s1
def aNil (s : S) : Out (List W) := .ok [] s
def aCons (fa : S → Out W) (fr : S → Out (List W)) (s : S) : Out (List W) := (fa s).bind fun x s1 => (fr s1).bind fun xs s2 => .ok (x :: xs) s2

section
variable {X : Cx} {W' : WX} {a b e : Expr} {es : List Expr} {fa fb : S → Out W} {fr : S → Out (List W)} {pos : Pos} {o : P2}
theorem PE.imp {t t' : TE} (h : PE X e t) (k : ∀ σ H Q, t' σ H Q → t σ H Q) : PE X e t' := ⟨fun pins s σ H Q I q => h.run pins s σ H Q I (k σ H Q q)⟩
theorem PT.imp {t t' : TT} (h : PT X e t) (k : ∀ σ H Q, t' σ H Q → t σ H Q) : PT X e t' := ⟨fun pins s σ H Q I q => h.run pins s σ H Q I (k σ H Q q)⟩
theorem PA.imp {t t' : TA} (h : PA X es t) (k : ∀ σ H Q, t' σ H Q → t σ H Q) : PA X es t' := ⟨fun pos pins s σ H Q I q => h.run pos pins s σ H Q I (k σ H Q q)⟩
theorem PSs.imp {st : List Stmt} {t t' : TS} (h : PSs X st t) (k : ∀ D σ H, t' D σ H → t D σ H) : PSs X st t' := ⟨fun pins s σ H D I q => h.run pins s σ H D I (k D σ H q)⟩
theorem PS.imp {st : Stmt} {t t' : TS} (h : PS X st t) (k : ∀ D σ H, t' D σ H → t D σ H) : PS X st t' := ⟨fun pins s σ H D I q => h.run pins s σ H D I (k D σ H q)⟩
abbrev VE (X : Cx) (W' : WX) (e : Expr) (f : S → Out W) : Prop := PE X e (tE X.K X.mg W' f)
abbrev VT (X : Cx) (W' : WX) (e : Expr) (f : S → Out Bool) : Prop := PT X e (tT X.K X.mg W' f)
abbrev VA (X : Cx) (W' : WX) (es : List Expr) (f : S → Out (List W)) : Prop := PA X es (tA X.K X.mg W' f)
abbrev VS (X : Cx) (W' : WX) (st : Stmt) (f : S → Fl) : Prop := PS X st (tS X.K X.mg W' f)
abbrev VSs (X : Cx) (W' : WX) (st : List Stmt) (f : S → Fl) : Prop := PSs X st (tS X.K X.mg W' f)

theorem ve_var (i : Nat) {x : Str} (hN : X.N[i]? = some x := by rfl) (hv : Vis X.env.scope x := by first | exact Or.inl rfl | exact Or.inr (Or.inl rfl) | exact Or.inr (Or.inr rfl)) (hd : (x == ("__debug__" : Str)) = false := by decide)
    (hcd : (x == ("__classdict__" : Str)) = false := by decide) : VE X W' (.Name x pos) (eVar i) := PE.imp (pe_var hN hv hd hcd) fun σ H Q h => by
  obtain ⟨s, A, F, r, q⟩ := h
  unfold eVar at q
  split at q
  · rename_i w hw
    obtain ⟨v, h1, h2⟩ := r.slot i w hw
    exact ⟨v, h1, q A F H v (List.prefix_refl A) (Ex.refl F) r h2⟩
  · exact False.elim q
theorem ve_c {v : V} {d : D} (h : PE X e (tC v)) (k : ∀ F, R X.K X.mg F v d) : VE X W' e (eC d) := PE.imp h fun σ H Q h => by
  obtain ⟨s, A, F, r, q⟩ := h
  exact q A F H v (List.prefix_refl A) (Ex.refl F) r (k F)
theorem ve_int {i j} : VE X W' (.Constant (.int i) j pos) (eC (.int i)) := ve_c pe_int fun _ => .int i
theorem ve_bl {i j} : VE X W' (.Constant (.bool i) j pos) (eC (.bl i)) := ve_c pe_bl fun _ => .bl i
theorem ve_non {j} : VE X W' (.Constant .none j pos) (eC .non) := ve_c pe_non fun _ => .non
theorem ve_str {i j} : VE X W' (.Constant (.str i) j pos) (eC (.str i)) := ve_c pe_str fun _ => .str i
theorem ve_glob {x : Str} {f : Addr} (hm : X.mg x = some (.ref f)) (hf : PySem.W.isFn X.K (.ref f) = true) (hg : Gl X x := by rfl) (hd : (x == ("__debug__" : Str)) = false := by decide) : VE X W' (.Name x pos) (eC (.glob x)) := ve_c (v := .ref f) (pe_glob hg hm rfl hd) fun _ => .glob hm hf
theorem ve_ty {x : Str} {n : String} (hm : X.mg x = none) (hv : bootBuiltins x = some (.type n)) (hg : Gl X x := by rfl) (hn : x ≠ "__name__" := by decide) (hd : (x == ("__debug__" : Str)) = false := by decide) :
    VE X W' (.Name x pos) (eC (.ty n)) := ve_c (v := .ty n) (pe_bltn hg hm hv rfl hn hd) fun _ => .ty n
theorem ve_kint {x : Str} {i : Int} {t : Tok} (hm : X.mg x = some (.int i t)) (hg : Gl X x := by rfl) (hd : (x == ("__debug__" : Str)) = false := by decide) : VE X W' (.Name x pos) (eC (.int i)) := ve_c (v := .int i) (pe_glob hg hm ⟨t, rfl⟩ hd) fun _ => .int i
theorem ve_kstr {x : Str} {i : Str} {t : Tok} (hm : X.mg x = some (.str i t)) (hg : Gl X x := by rfl) (hd : (x == ("__debug__" : Str)) = false := by decide) : VE X W' (.Name x pos) (eC (.str i)) := ve_c (v := .str i) (pe_glob hg hm ⟨t, rfl⟩ hd) fun _ => .str i

theorem op2_imp {fa fb : S → Out W} {σ : L2.St} {H : Hp} {Q : VK} (h : tE X.K X.mg W' (eOp2 o fa fb) σ H Q) : tOp (rP2 X.K X.mg o) (tE X.K X.mg W' fa) (tE X.K X.mg W' fb) σ H Q := by
  obtain ⟨s, A, F, r, q⟩ := h
  refine ⟨s, A, F, r, PostE.imp (PostE.bind q) fun vx H1 ⟨x, s1, A1, F1, a1, e1, r1, rx, q1⟩ => ?_⟩
  refine ⟨s1, A1, F1, r1, PostE.imp (PostE.bind q1) fun vy H2 ⟨y, s2, A2, F2, a2, e2, r2, ry, q2⟩ => ?_⟩
  cases ho : o s2.ce x y with
  | none => rw [ho] at q2; exact False.elim q2
  | some d =>
    rw [ho] at q2
    exact ⟨s2.ce, A2, F2, x, y, d, r2.cs, rx.mono a2 e2, ry, ho, fun F' H' v e' c' h' => q2 A2 F' H' v (List.prefix_refl _) e' (r2.slots e' c') h'⟩
theorem ve_bin {op : Operator} (ho : OpR X (binaryOp op) (rP2 X.K X.mg o)) (ha : VE X W' a fa) (hb : VE X W' b fb) : VE X W' (.BinOp a op b pos) (eOp2 o fa fb) :=
  PE.imp (pe_op ho ha hb) fun _ _ _ h => op2_imp h
theorem ve_cmp {op : CmpOp} (ho : OpR X (compareOp op) (rP2 X.K X.mg o)) (ha : VE X W' a fa) (hb : VE X W' b fb) (hm : behindInMarks op b = false := by first | exact nomark _ | rfl) : VE X W' (.Compare a [op] [b] pos) (eOp2 o fa fb) :=
  PE.imp (pe_cmpR ho ha hb hm) fun _ _ _ h => op2_imp h
theorem va_nil : VA X W' [] aNil := PA.imp pa_nil fun σ H Q h => by
  obtain ⟨s, A, F, r, q⟩ := h
  exact q A F H [] (List.prefix_refl A) (Ex.refl F) r .nil
theorem va_cons (ha : VE X W' e fa) (hr : VA X W' es fr) (hs : starEach (e :: es) X.env = (false, eval e X.env) :: starEach es X.env := by rfl) : VA X W' (e :: es) (aCons fa fr) := PA.imp (pa_cons ha hr hs) fun σ H Q h => by
  obtain ⟨s, A, F, r, q⟩ := h
  refine ⟨s, A, F, r, PostE.imp (PostE.bindA q) fun vx H1 ⟨x, s1, A1, F1, a1, e1, r1, rx, q1⟩ => ?_⟩
  refine ⟨s1, A1, F1, r1, ?_⟩
  revert q1
  cases fr s1 with
  | ok ws s2 => exact fun q1 A2 F2 H2 vs a2 e2 r2 rs => q1 A2 F2 H2 (vx :: vs) a2 e2 r2 (.cons (rx.mono a2 e2) rs)
  | exc c ns ws s' => exact fun q2 => q2
  | bad => exact fun q2 => q2
theorem opN_imp {o : PN} {σ : L2.St} {H : Hp} {Q : VK} (h : tE X.K X.mg W' (eOpN o fr) σ H Q) : tCB (rPN X.K X.mg o) (tA X.K X.mg W' fr) σ H Q := by
  obtain ⟨s, A, F, r, q⟩ := h
  have q0 := PostA.bind q
  refine ⟨s, A, F, r, ?_⟩
  revert q0
  cases fr s with
  | ok ws s1 =>
    intro q0 A' F' H' vs a' e' r' rs
    obtain ⟨w2, s2, A2, F2, a2, e2, r2, rx, q2⟩ := q0 A' F' H' vs a' e' r' rs
    cases ho : o s2.ce w2 with
    | none => rw [ho] at q2; exact False.elim q2
    | some d =>
      rw [ho] at q2
      exact ⟨s2.ce, A2, F2, w2, d, r2.cs, rx, ho, fun F' H' v e' c' h' => q2 A2 F' H' v (List.prefix_refl _) e' (r2.slots e' c') h'⟩
  | exc c ns ws s' => exact fun q0 => q0
  | bad => exact fun q0 => q0
/-- a call of a built-in -/
theorem ve_callB {o : PN} {id : String} {x : Str} {p : Pos} (hc : CallR X (.builtin id) (rPN X.K X.mg o)) (hg : Gl X x) (hm : X.mg x = none) (hv : bootBuiltins x = some (.builtin id)) (ha : VA X W' (e :: es) fr) (hn : x ≠ "__name__" := by decide)
    (hdb : (x == ("__debug__" : Str)) = false := by decide) (he : starEach (e :: es) X.env = (false, eval e X.env) :: starEach es X.env := by rfl) (hpl : (backTo pos (starEach es X.env)).any (·.1) = false := by rfl) :
    VE X W' (.Call (.Name x p) (e :: es) [] pos) (eOpN o fr) := PE.imp (pe_callB hc hg hm hv ha hn hdb he hpl) fun _ _ _ h => opN_imp h
theorem ve_callTy {o : PN} {id : String} {x : Str} {p : Pos} (hc : CallR X (.type id) (rPN X.K X.mg o)) (hg : Gl X x) (hm : X.mg x = none) (hv : bootBuiltins x = some (.type id)) (ha : VA X W' (e :: es) fr) (hn : x ≠ "__name__" := by decide)
    (hdb : (x == ("__debug__" : Str)) = false := by decide) (he : starEach (e :: es) X.env = (false, eval e X.env) :: starEach es X.env := by rfl) (hpl : (backTo pos (starEach es X.env)).any (·.1) = false := by rfl) :
    VE X W' (.Call (.Name x p) (e :: es) [] pos) (eOpN o fr) := PE.imp (pe_callTy hc hg hm hv ha hn hdb he hpl) fun _ _ _ h => opN_imp h
end
end VL

set_option maxHeartbeats 4000000
namespace VL
open PySem L2

/-! ### truth, tests -/
def truD : D → Option Bool
  | .non => some false
  | .bl b => some b
  | .int i => some (i != 0)
  | .str x => if x.length ≤ sizeLine then some ((x.length : Int) != 0) else none
  | .lst ds => some (!ds.isEmpty)
  | .tup ds => some (!ds.isEmpty)
  | _ => none
def bTru (fa : S → Out W) (s : S) : Out Bool := (fa s).bind fun w s1 => match (dat s1.ce w).bind truD with
  | some b => .ok b s1
  | none => .bad
def bNot (fa : S → Out Bool) (s : S) : Out Bool := (fa s).bind fun b s1 => .ok (!b) s1
def bAnd (fa fb : S → Out Bool) (s : S) : Out Bool := (fa s).bind fun b s1 => if b = true then fb s1 else .ok false s1
def bOr (fa fb : S → Out Bool) (s : S) : Out Bool := (fa s).bind fun b s1 => if b = true then .ok true s1 else fb s1
def eIf (c : S → Out Bool) (fa fb : S → Out W) (s : S) : Out W := (c s).bind fun b s1 => if b = true then fa s1 else fb s1
/-- and, or, not as values: of bools alone -/
def eNot (fa : S → Out W) (s : S) : Out W := (fa s).bind fun w s1 => match w with
  | .d (.bl b) => .ok (.d (.bl (!b))) s1
  | _ => .bad
def eAnd (fa fb : S → Out W) (s : S) : Out W := (fa s).bind fun w s1 => match w with
  | .d (.bl b) => if b = true then fb s1 else .ok (.d (.bl false)) s1
  | _ => .bad
def eOr (fa fb : S → Out W) (s : S) : Out W := (fa s).bind fun w s1 => match w with
  | .d (.bl b) => if b = true then .ok (.d (.bl true)) s1 else fb s1
  | _ => .bad
section
variable {X : Cx} {W' : WX} {a b e : Expr} {es rest : List Expr} {fa fb : S → Out W} {ta tb : S → Out Bool} {pos : Pos}
abbrev VW (X : Cx) (W' : WX) (e : Expr) (f : S → Out Bool) : Prop := PW X e (tT X.K X.mg W' f)
theorem PW.imp {t t' : TT} (h : PW X e t) (k : ∀ σ H Q, t' σ H Q → t σ H Q) : PW X e t' := ⟨fun wh pins s σ H Q I q => h.run wh pins s σ H Q I (k σ H Q q)⟩
theorem tru_of {K : PySem.W.Frag} {mg : Str → Option Value} {F H : Hp} {v : V} {d : D} {k : Bool} (h : RT K mg F H v d) (e : truD d = some k) (ht : ∀ ks ds, d ≠ .dic ks ds) : TruV K v H k := by
  cases h with
  | lst h1 h2 =>
    simp only [truD, Option.some.injEq] at e
    have := h2.length
    refine .inl ⟨_, SqL.of h1, ?_⟩
    subst e
    rename_i vs ds
    cases vs <;> cases ds <;> simp_all
  | tup h1 h2 =>
    simp only [truD, Option.some.injEq] at e
    have := h2.length
    refine .inr (.inl ⟨_, h1, ?_⟩)
    subst e
    rename_i vs ds
    cases vs <;> cases ds <;> simp_all
  | dicK _ _ _ => exact absurd rfl (ht _ _)
  | dicT _ _ _ => exact absurd rfl (ht _ _)
  | flat h0 h1 h2 h3 =>
    cases h0 with
    | non => simp [truD] at e; exact e
    | bl b => simp [truD] at e; exact e.symm
    | int i => simp [truD] at e; exact e.symm
    | str x =>
      simp only [truD] at e
      split at e
      · cases e; exact ⟨by assumption, rfl⟩
      · cases e
    | ty n => simp [truD] at e
    | glob _ _ => simp [truD] at e
    | scr _ => simp [truD] at e
    | lst _ _ => exact absurd rfl (h1 _)
    | tup _ _ => exact absurd rfl (h2 _)
    | dicK _ _ _ => simp [truD] at e
    | dicT _ _ _ => simp [truD] at e
    | ins _ _ _ _ => simp [truD] at e
theorem vt_tru (ha : VE X W' a fa) (he : ∀ whole, isTrue a X.env whole = (do let v ← whole; standAt a.pos; holding [v] (truthy v)) := by intro _; rfl) : VT X W' a (bTru fa) := PT.imp (pt_truth ha he) fun σ H Q h => by
  obtain ⟨s, A, F, r, q⟩ := h
  refine ⟨s, A, F, r, PostE.imp (PostE.bindT q) fun vx H1 ⟨x, s1, A1, F1, a1, e1, r1, rx, q1⟩ => ?_⟩
  cases hd : dat s1.ce x with
  | none => rw [hd] at q1; exact False.elim q1
  | some d =>
    rw [hd] at q1
    simp only [Option.bind] at q1
    cases ht : truD d with
    | none => rw [ht] at q1; exact False.elim q1
    | some k =>
      rw [ht] at q1
      exact ⟨k, tru_of (dat_rt r1.cs rx hd) ht (fun ks ds z => by subst z; simp [truD] at ht), q1 A1 F1 H1 (List.prefix_refl _) (Ex.refl _) r1⟩
theorem vt_not (ha : VT X W' a ta) : VT X W' (.UnaryOp .Not a pos) (bNot ta) := PT.imp (pt_not ha) fun σ H Q h => by
  obtain ⟨s, A, F, r, q⟩ := h
  refine ⟨s, A, F, r, ?_⟩
  have q0 := PostT.bindT q
  revert q0
  cases ta s with
  | ok b s1 => exact fun q0 A' F' H' a' e' r' => by obtain ⟨s2, A2, F2, a2, e2, r2, q2⟩ := q0 A' F' H' a' e' r'; exact q2 A2 F2 H' (List.prefix_refl _) (Ex.refl _) r2
  | exc c ns ws s' => exact fun q0 => q0
  | bad => exact fun q0 => q0
theorem PostT.imp {K : PySem.W.Frag} {mg : Str → Option Value} {A : List Addr} {F : Hp} {σ : L2.St} {Q Q' : Bool → Hp → Prop} {o : Out Bool} (h : PostT K mg W' A F σ Q o) (k : ∀ v H, Q v H → Q' v H) : PostT K mg W' A F σ Q' o := by
  cases o with
  | ok w s' => exact fun A' F' H' a e r => k _ _ (h A' F' H' a e r)
  | exc c ns ws s' => exact h
  | bad => exact h
theorem PostA.imp {K : PySem.W.Frag} {mg : Str → Option Value} {A : List Addr} {F : Hp} {σ : L2.St} {Q Q' : List V → Hp → Prop} {o : Out (List W)} (h : PostA K mg W' A F σ Q o) (k : ∀ v H, Q v H → Q' v H) : PostA K mg W' A F σ Q' o := by
  cases o with
  | ok w s' => exact fun A' F' H' v a e r q => k _ _ (h A' F' H' v a e r q)
  | exc c ns ws s' => exact h
  | bad => exact h
theorem vw_and1 (ha : VT X W' a ta) : VW X W' (.BoolOp .And [a] pos) ta := pw_and1 ha
theorem vw_or1 (ha : VT X W' a ta) : VW X W' (.BoolOp .Or [a] pos) ta := pw_or1 ha
theorem vw_and (ha : VT X W' a ta) (hb : VW X W' (.BoolOp .And (b :: rest) pos) tb) : VW X W' (.BoolOp .And (a :: b :: rest) pos) (bAnd ta tb) := PW.imp (pw_and ha hb) fun σ H Q h => by
  obtain ⟨s, A, F, r, q⟩ := h
  refine ⟨s, A, F, r, PostT.imp (PostT.bindT q) fun k H1 ⟨s1, A1, F1, a1, e1, r1, q1⟩ => ?_⟩
  by_cases hk : k = true
  · rw [if_pos hk] at q1 ⊢; exact ⟨s1, A1, F1, r1, q1⟩
  · rw [if_neg hk] at q1 ⊢; exact q1 A1 F1 H1 (List.prefix_refl _) (Ex.refl _) r1
theorem vw_or (ha : VT X W' a ta) (hb : VW X W' (.BoolOp .Or (b :: rest) pos) tb) : VW X W' (.BoolOp .Or (a :: b :: rest) pos) (bOr ta tb) := PW.imp (pw_or ha hb) fun σ H Q h => by
  obtain ⟨s, A, F, r, q⟩ := h
  refine ⟨s, A, F, r, PostT.imp (PostT.bindT q) fun k H1 ⟨s1, A1, F1, a1, e1, r1, q1⟩ => ?_⟩
  by_cases hk : k = true
  · rw [if_pos hk] at q1 ⊢; exact q1 A1 F1 H1 (List.prefix_refl _) (Ex.refl _) r1
  · rw [if_neg hk] at q1 ⊢; exact ⟨s1, A1, F1, r1, q1⟩
theorem vt_w (h : VW X W' e ta) : VT X W' e ta := PW.pt h
theorem ve_one {op} (h : VE X W' a fa) : VE X W' (.BoolOp op [a] pos) fa := pe_one h
theorem ve_and (ha : VE X W' a fa) (hb : VE X W' (.BoolOp .And (b :: rest) pos) fb) : VE X W' (.BoolOp .And (a :: b :: rest) pos) (eAnd fa fb) := PE.imp (pe_and ha hb) fun σ H Q h => by
  obtain ⟨s, A, F, r, q⟩ := h
  refine ⟨s, A, F, r, PostE.imp (PostE.bind q) fun vx H1 ⟨x, s1, A1, F1, a1, e1, r1, rx, q1⟩ => ?_⟩
  split at q1
  · rename_i k
    cases rx
    refine ⟨k, rfl, ?_⟩
    by_cases hk : k = true
    · rw [if_pos hk] at q1 ⊢; exact ⟨s1, A1, F1, r1, q1⟩
    · rw [if_neg hk] at q1 ⊢; exact q1 A1 F1 H1 _ (List.prefix_refl _) (Ex.refl _) r1 (.bl false)
  · exact False.elim q1
theorem ve_or (ha : VE X W' a fa) (hb : VE X W' (.BoolOp .Or (b :: rest) pos) fb) : VE X W' (.BoolOp .Or (a :: b :: rest) pos) (eOr fa fb) := PE.imp (pe_or ha hb) fun σ H Q h => by
  obtain ⟨s, A, F, r, q⟩ := h
  refine ⟨s, A, F, r, PostE.imp (PostE.bind q) fun vx H1 ⟨x, s1, A1, F1, a1, e1, r1, rx, q1⟩ => ?_⟩
  split at q1
  · rename_i k
    cases rx
    refine ⟨k, rfl, ?_⟩
    by_cases hk : k = true
    · rw [if_pos hk] at q1 ⊢; exact q1 A1 F1 H1 _ (List.prefix_refl _) (Ex.refl _) r1 (.bl true)
    · rw [if_neg hk] at q1 ⊢; exact ⟨s1, A1, F1, r1, q1⟩
  · exact False.elim q1
theorem ve_not (ha : VE X W' a fa) : VE X W' (.UnaryOp .Not a pos) (eNot fa) := PE.imp (pe_not ha) fun σ H Q h => by
  obtain ⟨s, A, F, r, q⟩ := h
  refine ⟨s, A, F, r, PostE.imp (PostE.bind q) fun vx H1 ⟨x, s1, A1, F1, a1, e1, r1, rx, q1⟩ => ?_⟩
  split at q1
  · rename_i k
    cases rx
    exact ⟨k, rfl, q1 A1 F1 H1 _ (List.prefix_refl _) (Ex.refl _) r1 (.bl _)⟩
  · exact False.elim q1
theorem ve_if {c : Expr} (hc : VT X W' c ta) (ha : VE X W' a fa) (hb : VE X W' b fb) : VE X W' (.IfExp c a b pos) (eIf ta fa fb) := PE.imp (pe_ifExp hc ha hb) fun σ H Q h => by
  obtain ⟨s, A, F, r, q⟩ := h
  refine ⟨s, A, F, r, PostT.imp (PostT.bind q) fun k H1 ⟨s1, A1, F1, a1, e1, r1, q1⟩ => ?_⟩
  by_cases hk : k = true
  · rw [if_pos hk] at q1 ⊢; exact ⟨s1, A1, F1, r1, q1⟩
  · rw [if_neg hk] at q1 ⊢; exact ⟨s1, A1, F1, r1, q1⟩
end

/-! ### displays -/
def eTup (fr : S → Out (List W)) (s : S) : Out W := (fr s).bind fun ws s1 => match datAll ws with
  | some ds => if ds.length ≤ sizeLine then .ok (.d (.tup ds)) s1 else .bad
  | none => .bad
def eLst (fr : S → Out (List W)) (s : S) : Out W := (fr s).bind fun ws s1 => match datAll ws with
  | some ds => if ds.length ≤ sizeLine then .ok (.d (.lst ds)) s1 else .bad
  | none => .bad
/-- a list that may change -/
def eCell (fr : S → Out (List W)) (s : S) : Out W := (fr s).bind fun ws s1 => if ws.length ≤ sizeLine then .ok (.c s1.ce.length) ⟨s1.sl, s1.ce ++ [some (.lst ws)]⟩ else .bad
section
variable {K : PySem.W.Frag} {mg : Str → Option Value} {A A' : List Addr} {F F' H H' : Hp} {σ : L2.St} {W' : WX} {s : S} {ce : List (Option Cell)}
theorem RelC.cellNew (r : RelC K mg A F ce H) {p : Addr} (hp : H p = none) {o : HO} {c : Cell} (hc : CR K mg A F (upd H p o) p c) : RelC K mg (A ++ [p]) F (ce ++ [some c]) (upd H p o) := by
  have hA : p ∉ A := fun m => by obtain ⟨o', e⟩ := r.trk p m; rw [hp] at e; cases e
  have px : A <+: A ++ [p] := List.prefix_append _ _
  refine ⟨r.ex.trans (ex_upd hp), by simp [r.len], ?_, fun a m => ?_, fun k c' e => ?_⟩
  · rw [List.nodup_append]
    refine ⟨r.nd, by simp, fun a ha b hb => ?_⟩
    simp at hb; subst hb
    exact fun z => hA (z ▸ ha)
  · rcases List.mem_append.mp m with m | m
    · obtain ⟨o', e⟩ := r.trk a m; exact ⟨o', ex_upd hp a o' e⟩
    · simp at m; subst m; exact ⟨o, upd_same⟩
  · by_cases hk : k < ce.length
    · rw [List.getElem?_append_left hk] at e
      obtain ⟨a, h1, h2, h3⟩ := r.cell k c' e
      refine ⟨a, ?_, h2, h3.mono px (Ex.refl F) (fun o' q => ex_upd hp a o' q)⟩
      rw [List.getElem?_append_left (by rw [r.len]; exact hk)]; exact h1
    · rw [List.getElem?_append_right (by omega)] at e
      have hk' : k - ce.length = 0 := by
        cases q : k - ce.length with
        | zero => rfl
        | succ n => rw [q] at e; simp at e
      rw [hk'] at e
      simp at e; subst e
      refine ⟨p, ?_, r.none_of hp, hc.mono px (Ex.refl F) (fun _ q => q)⟩
      rw [List.getElem?_append_right (by rw [r.len]; omega), r.len, hk']; rfl
theorem Rel.cells {A' : List Addr} {ce' : List (Option Cell)} (r : Rel K mg A F s σ H) (p : A <+: A') (e : Ex F F') (c : RelC K mg A' F' ce' H') : Rel K mg A' F' ⟨s.sl, ce'⟩ σ H' :=
  ⟨c, r.sz, fun i w h => by obtain ⟨v, h1, h2⟩ := r.slot i w h; exact ⟨v, h1, h2.mono p e⟩⟩
end
section
variable {X : Cx} {W' : WX} {es : List Expr} {fr : S → Out (List W)} {pos : Pos}
theorem ve_tup {x1} (h : VA X W' es fr) : VE X W' (.Tuple es x1 pos) (eTup fr) := PE.imp (pe_tup h) fun σ H Q h => by
  obtain ⟨s, A, F, r, q⟩ := h
  refine ⟨s, A, F, r, PostA.imp (PostA.bind q) fun vs H1 ⟨ws, s1, A1, F1, a1, e1, r1, rx, q1⟩ => ?_⟩
  split at q1
  · rename_i ds hd
    by_cases hl : ds.length ≤ sizeLine
    · rw [if_pos hl] at q1
      rw [datAll_eq hd] at rx
      have rr := RAll.ofW rx
      refine ⟨by rw [rr.length]; exact hl, fun p hp => ?_⟩
      exact Fin.tup (A := A1) (F := F1) (ce := s1.ce) (K := X.K) (mg := X.mg) (fun F' H' v e' c' h' => q1 A1 F' H' v (List.prefix_refl _) e' (r1.slots e' c') h') r1.cs rr hp
    · rw [if_neg hl] at q1; exact False.elim q1
  · exact False.elim q1
theorem ve_lst (h : VA X W' es fr) : VE X W' (.List es pos) (eLst fr) := PE.imp (pe_lst h) fun σ H Q h => by
  obtain ⟨s, A, F, r, q⟩ := h
  refine ⟨s, A, F, r, PostA.imp (PostA.bind q) fun vs H1 ⟨ws, s1, A1, F1, a1, e1, r1, rx, q1⟩ => ?_⟩
  split at q1
  · rename_i ds hd
    by_cases hl : ds.length ≤ sizeLine
    · rw [if_pos hl] at q1
      rw [datAll_eq hd] at rx
      have rr := RAll.ofW rx
      refine ⟨by rw [rr.length]; exact hl, fun p hp => ?_⟩
      exact Fin.lst (A := A1) (F := F1) (ce := s1.ce) (K := X.K) (mg := X.mg) (fun F' H' v e' c' h' => q1 A1 F' H' v (List.prefix_refl _) e' (r1.slots e' c') h') r1.cs rr hp
    · rw [if_neg hl] at q1; exact False.elim q1
  · exact False.elim q1
theorem ve_cell (h : VA X W' es fr) : VE X W' (.List es pos) (eCell fr) := PE.imp (pe_lst h) fun σ H Q h => by
  obtain ⟨s, A, F, r, q⟩ := h
  refine ⟨s, A, F, r, PostA.imp (PostA.bind q) fun vs H1 ⟨ws, s1, A1, F1, a1, e1, r1, rx, q1⟩ => ?_⟩
  by_cases hl : ws.length ≤ sizeLine
  · rw [if_pos hl] at q1
    refine ⟨by rw [rx.length]; exact hl, fun p hp => ?_⟩
    have px : A1 <+: A1 ++ [p] := List.prefix_append _ _
    refine q1 (A1 ++ [p]) F1 _ _ px (Ex.refl _) (r1.cells px (Ex.refl _) (r1.cs.cellNew hp ⟨vs, upd_same, rx⟩)) ⟨p, ?_, rfl⟩
    rw [← r1.cs.len, List.getElem?_append_right (by omega)]; simp
  · rw [if_neg hl] at q1; exact False.elim q1
end

/-! ### statements -/
def sNext (s : S) : Fl := .nx s
def sSeq (f g : S → Fl) (s : S) : Fl := (f s).then g
def sDrop (fa : S → Out W) (s : S) : Fl := (fa s).then fun _ s1 => .nx s1
def sRet (fa : S → Out W) (s : S) : Fl := (fa s).then fun w s1 => .rt w s1
def sRetN (s : S) : Fl := .rt (.d .non) s
def sIf (c : S → Out Bool) (f g : S → Fl) (s : S) : Fl := (c s).then fun b s1 => if b = true then f s1 else g s1
def setSl (i : Nat) (w : W) (s : S) : S := ⟨s.sl.set i (some w), s.ce⟩
def sSet (i : Nat) (fa : S → Out W) (s : S) : Fl := (fa s).then fun w s1 => .nx (setSl i w s1)
def sBreak (s : S) : Fl := .bk s
def sCont (s : S) : Fl := .ct s
section
variable {K : PySem.W.Frag} {mg : Str → Option Value} {A A' : List Addr} {F F' H H' : Hp} {σ : L2.St} {W' : WX} {s : S}
theorem Rel.set (r : Rel K mg A F s σ H) {v : V} {w : W} (h : RW K mg A F v w) (i : Nat) : Rel K mg A F (setSl i w s) (σ.set i (some v)) H :=
  ⟨r.cs, by simp [setSl, r.sz], fun j z e => by
    simp only [setSl] at e
    by_cases hj : i = j
    · subst hj
      by_cases hl : i < s.sl.length
      · rw [List.getElem?_set_self hl] at e
        cases e
        exact ⟨v, by rw [List.getElem?_set_self (by rw [← r.sz]; exact hl)], h⟩
      · rw [List.getElem?_eq_none_iff.mpr (by simp; omega)] at e; cases e
    · rw [List.getElem?_set_ne hj] at e
      obtain ⟨u, h1, h2⟩ := r.slot j z e
      exact ⟨u, by rw [List.getElem?_set_ne hj]; exact h1, h2⟩⟩
end
section
variable {X : Cx} {W' : WX} {st : Stmt} {rest : List Stmt} {f g : S → Fl} {e c : Expr} {fa : S → Out W} {tc : S → Out Bool} {pos : Pos}
theorem vss_nil : VSs X W' [] sNext := PSs.imp pss_nil fun De σ H h => by
  obtain ⟨s, A, F, r, q⟩ := h
  exact q A F H σ (List.prefix_refl _) (Ex.refl _) r
theorem PostS.impNx {K : PySem.W.Frag} {mg : Str → Option Value} {A : List Addr} {F : Hp} {De De' : Ends} {o : Fl} (h : PostS K mg W' A F De o) (hn : ∀ σ H, De.nx σ H → De'.nx σ H) (hb : ∀ σ H, De.bk σ H → De'.bk σ H) (hc : ∀ σ H, De.ct σ H → De'.ct σ H) (hr : ∀ v H, De.rt v H → De'.rt v H) : PostS K mg W' A F De' o := by
  cases o with
  | nx s' => exact fun A' F' H' σ' a e r => hn _ _ (h A' F' H' σ' a e r)
  | bk s' => exact fun A' F' H' σ' a e r => hb _ _ (h A' F' H' σ' a e r)
  | ct s' => exact fun A' F' H' σ' a e r => hc _ _ (h A' F' H' σ' a e r)
  | rt w s' => exact fun A' F' H' v a e r q => hr _ _ (h A' F' H' v a e r q)
  | exc c ns ws s' => exact h
  | bad => exact h
theorem vss_cons (h1 : VS X W' st f) (h2 : VSs X W' rest g) : VSs X W' (st :: rest) (sSeq f g) := PSs.imp (pss_cons h1 h2) fun De σ H h => by
  obtain ⟨s, A, F, r, q⟩ := h
  exact ⟨s, A, F, r, PostS.impNx (PostS.thenS q) (fun σ' H1 ⟨s1, A1, F1, a1, e1, r1, q1⟩ => ⟨s1, A1, F1, r1, q1⟩) (fun _ _ h => h) (fun _ _ h => h) (fun _ _ h => h)⟩
theorem vss_one (h1 : VS X W' st f) : VSs X W' [st] f := pss_one h1
theorem vs_pass : VS X W' (.Pass pos) sNext := PS.imp ps_pass fun De σ H h => by
  obtain ⟨s, A, F, r, q⟩ := h
  exact q A F H σ (List.prefix_refl _) (Ex.refl _) r
theorem vs_break : VS X W' (.Break pos) sBreak := PS.imp ps_break fun De σ H h => by
  obtain ⟨s, A, F, r, q⟩ := h
  exact q A F H σ (List.prefix_refl _) (Ex.refl _) r
theorem vs_cont : VS X W' (.Continue pos) sCont := PS.imp ps_continue fun De σ H h => by
  obtain ⟨s, A, F, r, q⟩ := h
  exact q A F H σ (List.prefix_refl _) (Ex.refl _) r
theorem vs_expr (he : VE X W' e fa) (hs : swapsWith e none pos.line X.env = pure false := by rfl) : VS X W' (.Expr e pos) (sDrop fa) := PS.imp (ps_expr he hs) fun De σ H h => by
  obtain ⟨s, A, F, r, q⟩ := h
  exact ⟨s, A, F, r, PostE.imp (PostE.thenS q) fun v H1 ⟨w, s1, A1, F1, a1, e1, r1, rw1, q1⟩ => q1 A1 F1 H1 σ (List.prefix_refl _) (Ex.refl _) r1⟩
theorem vs_ret (he : VE X W' e fa) : VS X W' (.Return (some e) pos) (sRet fa) := PS.imp (ps_ret he) fun De σ H h => by
  obtain ⟨s, A, F, r, q⟩ := h
  exact ⟨s, A, F, r, PostE.imp (PostE.thenS q) fun v H1 ⟨w, s1, A1, F1, a1, e1, r1, rw1, q1⟩ => q1 A1 F1 H1 v (List.prefix_refl _) (Ex.refl _) r1.cs rw1⟩
theorem vs_retN : VS X W' (.Return none pos) sRetN := PS.imp ps_retN fun De σ H h => by
  obtain ⟨s, A, F, r, q⟩ := h
  exact q A F H .non (List.prefix_refl _) (Ex.refl _) r.cs .non
theorem vs_if {a b : List Stmt} (hc : VT X W' c tc) (ha : VSs X W' a f) (hb : VSs X W' b g) : VS X W' (.If c a b pos) (sIf tc f g) := PS.imp (ps_if hc ha hb) fun De σ H h => by
  obtain ⟨s, A, F, r, q⟩ := h
  refine ⟨s, A, F, r, PostT.imp (PostT.thenS q) fun k H1 ⟨s1, A1, F1, a1, e1, r1, q1⟩ => ?_⟩
  by_cases hk : k = true
  · rw [if_pos hk] at q1 ⊢; exact ⟨s1, A1, F1, r1, q1⟩
  · rw [if_neg hk] at q1 ⊢; exact ⟨s1, A1, F1, r1, q1⟩
theorem vs_set (i : Nat) {x : Str} {pos' : Pos} (hN : X.N.Nodup) (he : VE X W' e fa) (hi : X.N[i]? = some x := by rfl) (hx : Loc X.env.scope x := by first | exact Or.inl rfl | exact Or.inr rfl) (hs : swapsWith e (some (.Name x pos')) pos.line X.env = pure false := by rfl)
    (hf : X.fn x = true ∨ X.env.scope.names.lookup x = some .local := by first | exact .inl rfl | exact .inr rfl | assumption) : VS X W' (.Assign [.Name x pos'] e pos) (sSet i fa) := PS.imp (ps_set hN hi hx he hs hf) fun De σ H h => by
  obtain ⟨s, A, F, r, q⟩ := h
  exact ⟨s, A, F, r, PostE.imp (PostE.thenS q) fun v H1 ⟨w, s1, A1, F1, a1, e1, r1, rw1, q1⟩ => q1 A1 F1 H1 _ (List.prefix_refl _) (Ex.refl _) (r1.set rw1 i)⟩
end
end VL

set_option maxHeartbeats 4000000
namespace VL
open PySem PySem.Spec PyProof.Rows L2

/-! ### defs -/
abbrev Fn := List W → List (Option Cell) → Out W
section
variable (K : PySem.W.Frag) (mg : Str → Option Value)
def PostC (A : List Addr) (F : Hp) (Q : VK) (E : XK) : Out W → Prop
  | .ok w s' => ∀ A' F' H' v, A <+: A' → Ex F F' → RelC K mg A' F' s'.ce H' → RW K mg A' F' v w → Q v H'
  | .exc c ns ws s' => ∀ A' F' H' C d vs, A <+: A' → Ex F F' → RelC K mg A' F' s'.ce H' → mg c = some (.ref C) → RWs K mg A' F' vs ws → H' d = some (.xd (ns.zip vs)) → E (.ref C) (some d) H'
  | .bad => False
def spOf (np : Nat) (G : Fn) : Sp := fun vs H Q E => vs.length = np ∧ ∃ ws ce A F, RelC K mg A F ce H ∧ RWs K mg A F vs ws ∧ PostC K mg A F Q E (G ws ce)
end
def eCall (G : Fn) (fr : S → Out (List W)) (s : S) : Out W := (fr s).bind fun ws s1 => match G ws s1.ce with
  | .ok w s2 => .ok w ⟨s1.sl, s2.ce⟩
  | .exc c ns ws s2 => .exc c ns ws ⟨s1.sl, s2.ce⟩
  | .bad => .bad
theorem passesC {X : Cx} {W' : WX} (tk : Takes X W') : ∀ σ, PassesAt (L2.CX X.prog X.w) X σ (WE W' σ) := fun σ => passAt tk σ
section
variable {X : Cx} {W' : WX} {k : Nat} {f : Addr} {fd : FuncData} {ps : List Str} {x : Str} {p pos : Pos} {e : Expr} {es : List Expr} {fr : S → Out (List W)} {G : Fn} {np : Nat}
theorem call_imp {σ : L2.St} {H : Hp} {Q : VK} (h : tE X.K X.mg W' (eCall G fr) σ H Q) (hnp : ∀ s ws s1, fr s = .ok ws s1 → ws.length = np) : tCallS (spOf X.K X.mg np G) (WE W') (tA X.K X.mg W' fr) σ H Q := by
  obtain ⟨s, A, F, r, q⟩ := h
  have q0 := PostA.bind q
  refine ⟨s, A, F, r, ?_⟩
  have hn := hnp s
  revert q0 hn
  cases fr s with
  | ok ws s1 =>
    intro q0 hn A' F' H' vs a' e' r' rs
    obtain ⟨w2, s2, A2, F2, a2, e2, r2, rx, q2⟩ := q0 A' F' H' vs a' e' r' rs
    refine ⟨by rw [rs.length]; exact hn _ _ rfl, w2, s2.ce, A2, F2, r2.cs, rx, ?_⟩
    revert q2
    cases G w2 s2.ce with
    | ok w s3 => exact fun q2 A3 F3 H3 v a3 e3 r3 h3 => q2 A3 F3 H3 v a3 e3 (r2.cells a3 e3 r3) h3
    | exc c ns ws s3 => exact fun q2 A3 F3 H3 C d vs a3 e3 r3 hc h3 hd => q2 A3 F3 H3 C d vs a3 e3 (r2.cells a3 e3 r3) hc h3 hd
    | bad => exact fun q2 => q2
  | exc c ns ws s' => exact fun q0 _ => q0
  | bad => exact fun q0 _ => q0
end
/-- how many arguments a list of arguments has -/
inductive Many : Nat → (S → Out (List W)) → Prop
  | nil : Many 0 aNil
  | cons {n : Nat} {fa : S → Out W} {fr : S → Out (List W)} : Many n fr → Many (n + 1) (aCons fa fr)
theorem Many.len {n : Nat} {fr : S → Out (List W)} (h : Many n fr) : ∀ s ws s1, fr s = .ok ws s1 → ws.length = n := by
  induction h with
  | nil => intro s ws s1 e; simp only [aNil] at e; cases e; rfl
  | @cons n fa fr _ ih =>
    intro s ws s1 e
    simp only [aCons] at e
    cases q : fa s with
    | ok a s2 =>
      rw [q] at e
      simp only [Out.bind_ok] at e
      cases q2 : fr s2 with
      | ok xs s3 => rw [q2] at e; simp only [Out.bind_ok] at e; cases e; simp [ih _ _ _ q2]
      | exc => rw [q2] at e; cases e
      | bad => rw [q2] at e; cases e
    | exc => rw [q] at e; cases e
    | bad => rw [q] at e; cases e
section
variable {X : Cx} {W' : WX} {k : Nat} {f : Addr} {fd : FuncData} {ps : List Str} {x : Str} {p pos : Pos} {e : Expr} {es : List Expr} {fr : S → Out (List W)} {G : Fn} {np : Nat}
theorem ve_call (F : FnOk X.prog X.w X.K X.mg X.base (L2.CX X.prog X.w) k f fd ps (spOf X.K X.mg np G)) (hr : Room k X.A) (hm : X.mg x = some (.ref f)) (hk : PySem.W.keepIn X.K (.ref f) = true) (hb : Binds X.K fd ps []) (tk : Takes X W')
    (hg : Gl X x) (ha : VA X W' (e :: es) fr) (hn : Many np fr) (hdb : (x == ("__debug__" : Str)) = false := by decide) (he : starEach (e :: es) X.env = (false, eval e X.env) :: starEach es X.env := by rfl) (hpl : (backTo pos (starEach es X.env)).any (·.1) = false := by rfl) :
    VE X W' (.Call (.Name x p) (e :: es) [] pos) (eCall G fr) := PE.imp (pe_callS F hr hg hm hk hb (passesC tk) ha hdb he hpl) fun σ H Q h => call_imp h hn.len
end

/-! ### a def by its body -/
def fitW (n : Nat) : W → Bool
  | .d _ => true
  | .c k => decide (k < n)
def fitC (n : Nat) : Option Cell → Bool
  | none => true
  | some (.lst ws) => ws.all (fitW n)
  | some (.dK _ ws) => ws.all (fitW n)
  | some (.dT _ ws) => ws.all (fitW n)
  | some (.ins _ _ ws) => ws.all (fitW n)
def Fits (n : Nat) (ce : List (Option Cell)) : Bool := ce.all (fitC n)
/-- what a def hands back: the cells that it made are forgotten -/
def shut (n : Nat) : Fl → Out W
  | .rt w s => if Fits n (s.ce.take n) = true ∧ fitW n w = true then .ok w ⟨[], s.ce.take n⟩ else .bad
  | .nx s => if Fits n (s.ce.take n) = true then .ok (.d .non) ⟨[], s.ce.take n⟩ else .bad
  | .exc c ns ws s => if Fits n (s.ce.take n) = true ∧ ws.all (fitW n) = true then .exc c ns ws ⟨[], s.ce.take n⟩ else .bad
  | _ => .bad
/-- .. they are kept -/
def keep : Fl → Out W
  | .rt w s => .ok w ⟨[], s.ce⟩
  | .nx s => .ok (.d .non) ⟨[], s.ce⟩
  | .exc c ns ws s => .exc c ns ws ⟨[], s.ce⟩
  | _ => .bad
def entry (nl : Nat) (ws : List W) (ce : List (Option Cell)) : S := ⟨ws.map some ++ List.replicate (nl - ws.length) none, ce⟩
def runT (nl : Nat) (body : S → Fl) : Fn := fun ws ce => shut ce.length (body (entry nl ws ce))
def runK (nl : Nat) (body : S → Fl) : Fn := fun ws ce => keep (body (entry nl ws ce))
section
variable {K : PySem.W.Frag} {mg : Str → Option Value} {A A' : List Addr} {F F' H H' : Hp}
theorem RW.cut {n : Nat} {v : V} {w : W} (h : RW K mg A' F v w) (hp : A <+: A') (hn : A.length = n) (hf : fitW n w = true) : RW K mg A F v w := by
  cases w with
  | d x => exact h
  | c k =>
    obtain ⟨a, h1, h2⟩ := h
    have hk : k < A.length := by simp [fitW] at hf; omega
    obtain ⟨t, rfl⟩ := hp
    rw [List.getElem?_append_left hk] at h1
    exact ⟨a, h1, h2⟩
theorem RWs.cut {n : Nat} {vs : List V} {ws : List W} (h : RWs K mg A' F vs ws) (hp : A <+: A') (hn : A.length = n) (hf : ws.all (fitW n) = true) : RWs K mg A F vs ws := by
  induction h with
  | nil => exact .nil
  | cons h1 _ ih =>
    simp only [List.all_cons, Bool.and_eq_true] at hf
    exact .cons (h1.cut hp hn hf.1) (ih hf.2)
theorem RelC.cut {n : Nat} {ce : List (Option Cell)} (r : RelC K mg A' F ce H) (hp : A <+: A') (hn : A.length = n) (hf : Fits n (ce.take n) = true) : RelC K mg A F (ce.take n) H := by
  have hle : A.length ≤ A'.length := hp.length_le
  refine ⟨r.ex, ?_, r.nd.sublist hp.sublist, fun a m => r.trk a (hp.subset m), fun k c e => ?_⟩
  · rw [List.length_take, ← r.len]; omega
  · have hk : k < n := by
      have := (List.getElem?_eq_some_iff.mp e).1
      simp at this; omega
    have e' : ce[k]? = some (some c) := by rw [List.getElem?_take_of_lt hk] at e; exact e
    obtain ⟨a, h1, h2, h3⟩ := r.cell k c e'
    have hc : fitC n (some c) = true := by
      unfold Fits at hf
      rw [List.all_eq_true] at hf
      exact hf _ (List.mem_of_getElem? e)
    obtain ⟨t, rfl⟩ := hp
    refine ⟨a, by rw [List.getElem?_append_left (by omega)] at h1; exact h1, h2, ?_⟩
    cases c with
    | lst ws => obtain ⟨vs, q1, q2⟩ := h3; exact ⟨vs, q1, q2.cut (List.prefix_append _ _) hn hc⟩
    | dK ks ws => obtain ⟨vs, hl, q1, q2⟩ := h3; exact ⟨vs, hl, q1.cut (List.prefix_append _ _) hn hc, q2⟩
    | dT ks ws => obtain ⟨vs, hl, q1, q2⟩ := h3; exact ⟨vs, hl, q1.cut (List.prefix_append _ _) hn hc, q2⟩
    | ins c ns ws => obtain ⟨C, dx, vs, q0, hl, q1, q2⟩ := h3; exact ⟨C, dx, vs, q0, hl, q1.cut (List.prefix_append _ _) hn hc, q2⟩
theorem entry_rel {N : List Str} {vs : List V} {ws : List W} {ce : List (Option Cell)} (r : RelC K mg A F ce H) (h : RWs K mg A F vs ws) (hl : vs.length ≤ N.length) : Rel K mg A F (entry N.length ws ce) (L2.start N vs) H := by
  have e := h.length
  refine ⟨r, by simp [entry, L2.start, e], fun i w q => ?_⟩
  simp only [entry] at q
  by_cases hi : i < ws.length
  · rw [List.getElem?_append_left (by simpa using hi), List.getElem?_map] at q
    cases z : ws[i]? with
    | none => rw [z] at q; cases q
    | some w' =>
      rw [z] at q; cases q
      obtain ⟨v, h1, h2⟩ := h.get z
      refine ⟨v, ?_, h2⟩
      unfold L2.start
      rw [List.getElem?_append_left (by simp; omega), List.getElem?_map, h1]; rfl
  · rw [List.getElem?_append_right (by simpa using hi), List.getElem?_replicate] at q
    split at q <;> cases q
end
section
variable {P : Program} {w : World} {K : PySem.W.Frag} {mg : Str → Option Value} {base : Heap}
/-- THE RULE: a def keeps what its body is worth -/
theorem fn_ok {x qual : Str} {st : Stmt} {f : Addr} {fd : FuncData} {N ps : List Str} {k np : Nat} {body : S → Fl} (Fu : Fun K x qual st f fd) (Sc : FnScope N ps (defScope st)) (hnp : ps.length = np) (sh : Nat → Fl → Out W) (hsh : sh = shut ∨ sh = fun _ => keep)
    (hbody : ∀ (cdv : Value) (A : Around) (outer : List Env) (s : Shared) (H : Hp) (E : XK), Room k (A.deeper (envOfC qual (defScope st) s.heap.objs.size f cdv)) →
      VSs (cxOf (L2.CX P w) P w K mg base N qual (defScope st) f cdv A outer s H E) (fun c d _ H => E c d H) (defBody st) body) :
    FnOk P w K mg base (L2.CX P w) (k + 1) f fd ps (spOf K mg np fun ws ce => sh ce.length (body (entry N.length ws ce))) := by
  refine Fu.okX Sc (fun vs H Q E h => by rw [h.1, hnp]) fun cdv A outer s H vs Q E hr h => ?_
  obtain ⟨hl, ws, ce, A0, F, r, rs, q⟩ := h
  have hN : ps.length ≤ N.length := by have := congrArg List.length Sc.pre; rw [List.length_take] at this; omega
  refine ⟨_, hbody cdv A outer s H E hr, ?_⟩
  refine ⟨entry N.length ws ce, A0, F, entry_rel r rs (by omega), ?_⟩
  show PostS K mg _ A0 F _ (body (entry N.length ws ce))
  have hlen := r.len
  rcases hsh with rfl | rfl
  · replace q : PostC K mg A0 F Q E (shut ce.length (body (entry N.length ws ce))) := q
    revert q
    generalize body (entry N.length ws ce) = o
    cases o with
    | nx s' =>
      intro q A' F' H' σ' a' e' r'
      simp only [shut] at q
      split at q
      · rename_i hf; exact q A0 F' H' .non (List.prefix_refl _) e' (r'.cs.cut a' hlen hf) .non
      · exact q.elim
    | rt w s' =>
      intro q A' F' H' v a' e' r' h'
      simp only [shut] at q
      split at q
      · rename_i hf; exact q A0 F' H' v (List.prefix_refl _) e' (r'.cut a' hlen hf.1) (h'.cut a' hlen hf.2)
      · exact q.elim
    | exc c ns ws s' =>
      intro q A' F' H' C d vs σ' a' e' r' hc h' hd
      simp only [shut] at q
      split at q
      · rename_i hf; exact q A0 F' H' C d vs (List.prefix_refl _) e' (r'.cs.cut a' hlen hf.1) hc (h'.cut a' hlen hf.2) hd
      · exact q.elim
    | bk s' => exact fun q => q.elim
    | ct s' => exact fun q => q.elim
    | bad => exact fun q => q.elim
  · replace q : PostC K mg A0 F Q E (keep (body (entry N.length ws ce))) := q
    revert q
    generalize body (entry N.length ws ce) = o
    cases o with
    | nx s' => exact fun q A' F' H' σ' a' e' r' => q A' F' H' .non a' e' r'.cs .non
    | rt w s' => exact fun q A' F' H' v a' e' r' h' => q A' F' H' v a' e' r' h'
    | exc c ns ws s' => exact fun q A' F' H' C d vs σ' a' e' r' hc h' hd => q A' F' H' C d vs a' e' r'.cs hc h' hd
    | bk s' => exact fun q => q.elim
    | ct s' => exact fun q => q.elim
    | bad => exact fun q => q.elim
end
end VL

set_option maxHeartbeats 4000000
namespace VL
open PySem PySem.Spec PyProof.Rows L2
open Classical

/-! ### targets -/
inductive Pat where
  | nm (i : Nat)
  | tp (ps : List Pat)
/-- what a loop hands out: a value, or a new tuple of values -/
inductive Itm where
  | w (x : W)
  | pr (xs : List W)
mutual
def binds : Pat → W → List (Option Cell) → Option (List (Nat × W))
  | .nm i, w, _ => some [(i, w)]
  | .tp ps, w, ce => match w with
    | .d (.tup ds) => bindsL ps (ds.map .d) ce
    | .d (.lst ds) => bindsL ps (ds.map .d) ce
    | .c k => match ce[k]? with
      | some (some (.lst ws)) => bindsL ps ws ce
      | _ => none
    | _ => none
def bindsL : List Pat → List W → List (Option Cell) → Option (List (Nat × W))
  | [], [], _ => some []
  | p :: ps, d :: ds, ce => match binds p d ce, bindsL ps ds ce with
    | some a, some b => some (a ++ b)
    | _, _ => none
  | _, _, _ => none
end
def bindsI (p : Pat) (it : Itm) (ce : List (Option Cell)) : Option (List (Nat × W)) := match it with
  | .w x => binds p x ce
  | .pr xs => match p with
    | .tp ps => bindsL ps xs ce
    | .nm _ => none
@[simp] theorem bindsI_w {p : Pat} {x : W} {ce : List (Option Cell)} : bindsI p (.w x) ce = binds p x ce := rfl
@[simp] theorem bindsI_pr {ps : List Pat} {xs : List W} {ce : List (Option Cell)} : bindsI (.tp ps) (.pr xs) ce = bindsL ps xs ce := rfl
def setAll (σ : L2.St) : List Nat → List V → L2.St
  | i :: is, v :: vs => setAll (σ.set i (some v)) is vs
  | _, _ => σ
def setSls (sl : List (Option W)) : List (Nat × W) → List (Option W)
  | (i, w) :: r => setSls (sl.set i (some w)) r
  | [] => sl
theorem setAll_append : ∀ {is js : List Nat} {us vs : List V} {σ : L2.St}, is.length = us.length → setAll σ (is ++ js) (us ++ vs) = setAll (setAll σ is us) js vs
  | [], js, [], vs, σ, _ => rfl
  | i :: is, js, u :: us, vs, σ, h => by
    show setAll (σ.set i (some u)) (is ++ js) (us ++ vs) = _
    rw [setAll_append (by simpa using h)]; rfl
section
variable (K : PySem.W.Frag) (mg : Str → Option Value)
def RI (A : List Addr) (F H : Hp) (v : V) : Itm → Prop
  | .w x => RW K mg A F v x
  | .pr xs => ∃ T vs, v = .ref T ∧ H T = some (.tup vs) ∧ RWs K mg A F vs xs
def tG (p : Pat) : TG := fun v σ H Q => ∃ ce A F it bs, RelC K mg A F ce H ∧ RI K mg A F H v it ∧ bindsI p it ce = some bs ∧ ∀ us, RWs K mg A F us (bs.map (·.2)) → Q (setAll σ (bs.map (·.1)) us) H
def tGs (ps : List Pat) : TGs := fun vs σ H Q => ∃ ce A F ws bs, RelC K mg A F ce H ∧ RWs K mg A F vs ws ∧ bindsL ps ws ce = some bs ∧ ∀ us, RWs K mg A F us (bs.map (·.2)) → Q (setAll σ (bs.map (·.1)) us) H
end
section
variable {X : Cx} {pos : Pos}
abbrev VG (X : Cx) (tg : Expr) (p : Pat) : Prop := PG X tg (tG X.K X.mg p)
abbrev VGs (X : Cx) (tg : List Expr) (p : List Pat) : Prop := PGs X tg (tGs X.K X.mg p)
theorem PG.imp {tg : Expr} {t t' : TG} (h : PG X tg t) (k : ∀ v σ H Q, t' v σ H Q → t v σ H Q) : PG X tg t' := ⟨fun pins s σ H v u Q I r q => h.run pins s σ H v u Q I r (k v σ H Q q)⟩
theorem PGs.imp {tg : List Expr} {t t' : TGs} (h : PGs X tg t) (k : ∀ v σ H Q, t' v σ H Q → t v σ H Q) : PGs X tg t' := ⟨fun pins s σ H v u Q I r q => h.run pins s σ H v u Q I r (k v σ H Q q)⟩
theorem RWs.split {K : PySem.W.Frag} {mg : Str → Option Value} {A : List Addr} {F : Hp} : ∀ {as bs : List W} {us : List V}, RWs K mg A F us (as ++ bs) → ∃ xs ys, us = xs ++ ys ∧ RWs K mg A F xs as ∧ RWs K mg A F ys bs
  | [], bs, us, h => ⟨[], us, rfl, .nil, h⟩
  | a :: as, bs, _, .cons h1 h2 => by
    obtain ⟨xs, ys, rfl, r1, r2⟩ := RWs.split h2
    exact ⟨_ :: xs, ys, rfl, .cons h1 r1, r2⟩
theorem vg_nm {i : Nat} {x : Str} (hN : X.N.Nodup) (hi : X.N[i]? = some x := by rfl) (hx : Loc X.env.scope x := by first | exact Or.inl rfl | exact Or.inr rfl) (hf : X.fn x = true ∨ X.env.scope.names.lookup x = some .local := by first | exact .inl rfl | exact .inr rfl | assumption) :
    VG X (.Name x pos) (.nm i) := PG.imp (pg_name hN hi hx hf) fun v σ H Q ⟨ce, A, F, it, bs, r, rw1, hb, q⟩ => by
  cases it with
  | pr xs => simp [bindsI] at hb
  | w w =>
  simp only [bindsI, binds, Option.some.injEq] at hb
  subst hb
  exact q [v] (.cons rw1 .nil)
theorem vgs_nil : VGs X [] [] := PGs.imp pgs_nil fun vs σ H Q ⟨ce, A, F, ds, bs, r, ra, hb, q⟩ => by
  cases ds with
  | nil =>
    simp only [bindsL, Option.some.injEq] at hb
    subst hb
    cases ra
    exact ⟨rfl, q [] .nil⟩
  | cons d ds => simp [bindsL] at hb
theorem vgs_cons {e : Expr} {es : List Expr} {p : Pat} {ps : List Pat} (h1 : VG X e p) (h2 : VGs X es ps) (hs : (assignEach (e :: es) X.env).map (·.2) = assign e X.env :: (assignEach es X.env).map (·.2) := by rfl) : VGs X (e :: es) (p :: ps) :=
  PGs.imp (pgs_cons h1 h2 hs) fun vs σ H Q ⟨ce, A, F, ds, bs, r, ra, hb, q⟩ => by
  cases ds with
  | nil => simp [bindsL] at hb
  | cons d ds =>
    cases ra with
    | @cons v vs _ _ hv hvs =>
    simp only [bindsL] at hb
    split at hb
    · rename_i a b ha hb'
      cases hb
      refine ⟨_, _, rfl, ce, A, F, .w d, a, r, hv, ha, fun us hu => ?_⟩
      refine ⟨ce, A, F, ds, b, r, hvs, hb', fun us' hu' => ?_⟩
      have := q (us ++ us') (by rw [List.map_append]; exact hu.append hu')
      rw [List.map_append, setAll_append (by rw [hu.length]; simp)] at this
      exact this
    · cases hb
theorem bindsL_len {ce : List (Option Cell)} : ∀ (ps : List Pat) (ds : List W) (bs : List (Nat × W)), bindsL ps ds ce = some bs → ds.length = ps.length := by
  intro ps
  induction ps with
  | nil => intro ds bs h; cases ds with | nil => rfl | cons _ _ => simp [bindsL] at h
  | cons p ps ih =>
    intro ds bs h
    cases ds with
    | nil => simp [bindsL] at h
    | cons d ds =>
      simp only [bindsL] at h
      split at h
      · rename_i a b ha hb'; simp [ih _ _ hb']
      · cases h
theorem vg_tp {es : List Expr} {k : Nat} {ps : List Pat} (hc : X.calm = true) (h : VGs X es ps) (n : Nat) (hp : ps.length = n := by rfl) (hn : (assignEach es X.env).length = n := by rfl) (hst : (assignEach es X.env).findIdx? (·.1) = none := by rfl) :
    VG X (.Tuple es k pos) (.tp ps) := by
  have h1 := pg_tup (k := k) (pos := pos) hc h hn hst
  have h2 := pg_unl (k := k) (pos := pos) hc h hn hst
  refine ⟨fun pins s σ H v u Q I r q => ?_⟩
  obtain ⟨ce, A, F, it, bs, rc, rw1, hb, q⟩ := q
  cases it with
  | pr xs =>
    obtain ⟨T, vs, rfl, hT, hr⟩ := rw1
    exact h1.run pins s σ H _ u Q I r ⟨_, _, rfl, SqT.of hT, by rw [hr.length, bindsL_len _ _ _ hb, hp], ce, A, F, xs, bs, rc, hr, hb, q⟩
  | w w =>
  simp only [bindsI, binds] at hb
  split at hb
  · rename_i ds
    have rw2 : R X.K X.mg F v (.tup ds) := rw1
    cases rw2 with
    | tup hq ra => exact h1.run pins s σ H _ u Q I r ⟨_, _, rfl, ex_t rc.ex hq, by rw [ra.length, ← hp, ← bindsL_len _ _ _ hb, List.length_map], ce, A, F, ds.map .d, bs, rc, RWs.ofR ra, hb, q⟩
  · rename_i ds
    have rw2 : R X.K X.mg F v (.lst ds) := rw1
    cases rw2 with
    | lst hq ra => exact h2.run pins s σ H _ u Q I r ⟨_, _, rfl, SqL.of (rc.ex _ _ hq), by rw [ra.length, ← hp, ← bindsL_len _ _ _ hb, List.length_map], ce, A, F, ds.map .d, bs, rc, RWs.ofR ra, hb, q⟩
  · rename_i k'
    split at hb
    · rename_i ws hc'
      obtain ⟨a, ha, rfl⟩ := rw1
      obtain ⟨b, q1, q2, vs, q3, q4⟩ := rc.cell _ _ hc'
      rw [ha] at q1; cases q1
      exact h2.run pins s σ H _ u Q I r ⟨_, _, rfl, SqL.of q3, by rw [q4.length, bindsL_len _ _ _ hb, hp], ce, A, F, ws, bs, rc, q4, hb, q⟩
    · cases hb
  · cases hb
end
/-- an assignment to several names -/
def sSets (p : Pat) (fa : S → Out W) (s : S) : Fl := (fa s).then fun w s1 => match binds p w s1.ce with
  | some bs => .nx ⟨setSls s1.sl bs, s1.ce⟩
  | none => .bad
section
variable {K : PySem.W.Frag} {mg : Str → Option Value} {A A' : List Addr} {F F' H H' : Hp} {σ : L2.St} {s : S}
theorem Rel.sets : ∀ {bs : List (Nat × W)} {us : List V} {s : S} {σ : L2.St}, Rel K mg A F s σ H → RWs K mg A F us (bs.map (·.2)) → Rel K mg A F ⟨setSls s.sl bs, s.ce⟩ (setAll σ (bs.map (·.1)) us) H
  | [], us, s, σ, r, h => by cases h; exact r
  | (i, w) :: bs, _, s, σ, r, .cons h1 h2 => Rel.sets (s := setSl i w s) (r.set h1 i) h2
end
section
variable {X : Cx} {W' : WX} {e tg : Expr} {fa : S → Out W} {pos : Pos} {p : Pat}
theorem vs_sets (he : VE X W' e fa) (hg : VG X tg p) (hs : swapsWithSole [tg] e pos.line X.env = pure false := by rfl) (hw : swappedStores [tg] e X.env = pure none := by rfl)
    (h1 : (assignEach [tg] X.env).map (·.2) = [assign tg X.env] := by rfl) : VS X W' (.Assign [tg] e pos) (sSets p fa) := PS.imp (ps_asg he hg hs hw h1) fun De σ H h => by
  obtain ⟨s, A, F, r, q⟩ := h
  refine ⟨s, A, F, r, PostE.imp (PostE.thenS q) fun v H1 ⟨w, s1, A1, F1, a1, e1, r1, rw1, q1⟩ => ?_⟩
  split at q1
  · rename_i bs hb
    exact ⟨s1.ce, A1, F1, .w w, bs, r1.cs, rw1, hb, fun us hu => q1 A1 F1 H1 _ (List.prefix_refl _) (Ex.refl _) (r1.sets hu)⟩
  · exact q1.elim
end

/-! ### what is walked -/
structure Src where
  ws : List Itm
  kp : List (Nat × Cell)
def Stay (kp : List (Nat × Cell)) (ce : List (Option Cell)) : Prop := ∀ p ∈ kp, ce[p.1]? = some (some p.2)
@[simp] theorem stay_nil {ce : List (Option Cell)} : Stay [] ce := fun p h => by cases h
section
variable (K : PySem.W.Frag) (mg : Str → Option Value)
def Walks (A : List Addr) (F : Hp) (J : It) (src : Src) : Prop := ∀ A' F' ce H, A <+: A' → Ex F F' → RelC K mg A' F' ce H → Stay src.kp ce → ∀ i,
  (∀ w, src.ws[i]? = some w → J.go i H ∧ ∀ x H', J.yld i H x H' → ∃ F'', Ex F' F'' ∧ RelC K mg A' F'' ce H' ∧ RI K mg A' F'' H' x w) ∧ (src.ws.length = i → J.stop i H)
def PostI (W' : WX) (A : List Addr) (F : Hp) (σ : L2.St) (R : It → Hp → Prop) : Out Src → Prop
  | .ok src s' => ∀ A' F' H' J, A <+: A' → Ex F F' → Rel K mg A' F' s' σ H' → Walks K mg A' F' J src → R J H'
  | .exc c ns ws s' => ∀ A' F' H' C d vs, A <+: A' → Ex F F' → Rel K mg A' F' s' σ H' → mg c = some (.ref C) → RWs K mg A' F' vs ws → H' d = some (.xd (ns.zip vs)) → W' (.ref C) (some d) σ H'
  | .bad => False
def tI (W' : WX) (f : S → Out Src) : TI := fun σ H R => ∃ s A F, Rel K mg A F s σ H ∧ PostI K mg W' A F σ R (f s)
end
abbrev VI (X : Cx) (W' : WX) (tg it : Expr) (f : S → Out Src) : Prop := PI X tg it (tI X.K X.mg W' f)
theorem PI.imp {X : Cx} {tg it : Expr} {t t' : TI} (h : PI X tg it t) (k : ∀ σ H Q, t' σ H Q → t σ H Q) : PI X tg it t' := ⟨fun pins s σ H R I q => h.run pins s σ H R I (k σ H R q)⟩
/-- a list, a tuple -/
def src1 (w : W) (ce : List (Option Cell)) : Option Src := match w with
  | .d (.lst ds) => some ⟨ds.map fun d => .w (.d d), []⟩
  | .d (.tup ds) => some ⟨ds.map fun d => .w (.d d), []⟩
  | .d (.scr ns) => some ⟨ns.map fun n => .w (.d (.int n)), []⟩
  | .c k => match ce[k]? with
    | some (some (.lst ws)) => some ⟨ws.map .w, [(k, .lst ws)]⟩
    | _ => none
  | _ => none
def iSeq (fa : S → Out W) (s : S) : Out Src := (fa s).bind fun w s1 => match src1 w s1.ce with
  | some src => .ok src s1
  | none => .bad
/-- range(n), range(a, b) -/
def iRange1 (fr : S → Out (List W)) (s : S) : Out Src := (fr s).bind fun ws s1 => match ws with
  | [.d (.int n)] => if -(2 ^ 62) ≤ n ∧ n < 2 ^ 62 then .ok ⟨(List.range n.toNat).map fun i : Nat => .w (.d (.int (i : Int))), []⟩ s1 else .bad
  | _ => .bad
def iRange2 (fr : S → Out (List W)) (s : S) : Out Src := (fr s).bind fun ws s1 => match ws with
  | [.d (.int a), .d (.int b)] => if -(2 ^ 62) ≤ a ∧ a < 2 ^ 62 ∧ -(2 ^ 62) ≤ b ∧ b < 2 ^ 62 then .ok ⟨(List.range (b - a).toNat).map fun i : Nat => .w (.d (.int (a + (i : Int)))), []⟩ s1 else .bad
  | _ => .bad
section
variable {K : PySem.W.Frag} {mg : Str → Option Value} {A : List Addr} {F : Hp}
theorem get_w {ds : List D} {i : Nat} {w : Itm} (h : (ds.map fun d => Itm.w (.d d))[i]? = some w) : ∃ d, ds[i]? = some d ∧ w = .w (.d d) := by
  rw [List.getElem?_map] at h
  cases q : ds[i]? with
  | none => rw [q] at h; cases h
  | some d => rw [q] at h; cases h; exact ⟨d, rfl, rfl⟩
theorem walks_lst {a : Addr} {vs : List V} {ds : List D} (h : SqL K F a vs) (ra : RAll K mg F vs ds) : Walks K mg A F (Itl K a) ⟨ds.map fun d => .w (.d d), []⟩ := fun A' F' ce H p e r _ i => by
  have hH : SqL K H a vs := ex_l (e.trans r.ex) h
  refine ⟨fun w hw => ?_, fun hl => ⟨vs, hH, by rw [ra.length]; simp at hl; omega⟩⟩
  obtain ⟨d, hd, rfl⟩ := get_w hw
  obtain ⟨v, h1, h2⟩ := ra.get hd
  exact ⟨⟨vs, v, hH, h1⟩, fun x H' ⟨e1, h3⟩ => ⟨F', Ex.refl _, e1 ▸ r, by have := h3 vs hH; rw [h1] at this; cases this; exact h2.mono e⟩⟩
end
theorem Out.bindI {K : PySem.W.Frag} {mg : Str → Option Value} {A : List Addr} {F : Hp} {σ : L2.St} {W' : WX} {o : Out W} {g : W → S → Out Src} {R : It → Hp → Prop} (h : PostI K mg W' A F σ R (o.bind g)) :
    PostE K mg W' A F σ (fun v H1 => ∃ w s1 A1 F1, A <+: A1 ∧ Ex F F1 ∧ Rel K mg A1 F1 s1 σ H1 ∧ RW K mg A1 F1 v w ∧ PostI K mg W' A1 F1 σ R (g w s1)) o := by
  cases o with
  | ok w s' =>
    refine fun A' F' H' v a e r q => ⟨w, s', A', F', a, e, r, q, ?_⟩
    simp only [Out.bind_ok] at h
    revert h
    cases g w s' with
    | ok src s2 => exact fun h A2 F2 H2 J a2 e2 r2 w2 => h A2 F2 H2 J (a.trans a2) (e.trans e2) r2 w2
    | exc c ns ws s2 => exact fun h A2 F2 H2 C d vs a2 e2 r2 => h A2 F2 H2 C d vs (a.trans a2) (e.trans e2) r2
    | bad => exact fun h => h
  | exc c ns ws s' => exact h
  | bad => exact h
theorem Out.bindIA {K : PySem.W.Frag} {mg : Str → Option Value} {A : List Addr} {F : Hp} {σ : L2.St} {W' : WX} {o : Out (List W)} {g : List W → S → Out Src} {R : It → Hp → Prop} (h : PostI K mg W' A F σ R (o.bind g)) :
    PostA K mg W' A F σ (fun v H1 => ∃ w s1 A1 F1, A <+: A1 ∧ Ex F F1 ∧ Rel K mg A1 F1 s1 σ H1 ∧ RWs K mg A1 F1 v w ∧ PostI K mg W' A1 F1 σ R (g w s1)) o := by
  cases o with
  | ok w s' =>
    refine fun A' F' H' v a e r q => ⟨w, s', A', F', a, e, r, q, ?_⟩
    simp only [Out.bind_ok] at h
    revert h
    cases g w s' with
    | ok src s2 => exact fun h A2 F2 H2 J a2 e2 r2 w2 => h A2 F2 H2 J (a.trans a2) (e.trans e2) r2 w2
    | exc c ns ws s2 => exact fun h A2 F2 H2 C d vs a2 e2 r2 => h A2 F2 H2 C d vs (a.trans a2) (e.trans e2) r2
    | bad => exact fun h => h
  | exc c ns ws s' => exact h
  | bad => exact h
section
variable {X : Cx} {W' : WX} {tg it : Expr} {fa : S → Out W} {fr : S → Out (List W)}
/-- two readings of one walk -/
theorem pi_or {t t' : TI} (h : PI X tg it t) (h' : PI X tg it t') : PI X tg it (fun σ H R => t σ H R ∨ t' σ H R) := ⟨fun pins s σ H R I q => q.elim (h.run pins s σ H R I) (h'.run pins s σ H R I)⟩
/-- a walk may use what is so in every heap that is held -/
theorem pi_inv {t t' : TI} (h : PI X tg it t) (k : ∀ pins s σ H R, Inv X pins σ H s → t' σ H R → t σ H R) : PI X tg it t' := ⟨fun pins s σ H R I q => h.run pins s σ H R I (k pins s σ H R I q)⟩
end
end VL

set_option maxHeartbeats 4000000
namespace VL
open PySem PySem.Spec PyProof.Rows L2
open Classical
section
variable {K : PySem.W.Frag} {mg : Str → Option Value} {A : List Addr} {F : Hp}
theorem rall_ints : ∀ ns : List Int, RAll K mg F (ns.map V.int) (ns.map D.int)
  | [] => .nil
  | n :: ns => .cons (.int n) (rall_ints ns)
theorem walks_tup {a : Addr} {vs : List V} {ds : List D} (h : SqT K F a vs) (ra : RAll K mg F vs ds) : Walks K mg A F (Itt K a) ⟨ds.map fun d => .w (.d d), []⟩ := fun A' F' ce H p e r _ i => by
  have hH : SqT K H a vs := ex_t (e.trans r.ex) h
  refine ⟨fun w hw => ?_, fun hl => ⟨vs, hH, by rw [ra.length]; simp at hl; omega⟩⟩
  obtain ⟨d, hd, rfl⟩ := get_w hw
  obtain ⟨v, h1, h2⟩ := ra.get hd
  exact ⟨⟨vs, v, hH, h1⟩, fun x H' ⟨e1, h3⟩ => ⟨F', Ex.refl _, e1 ▸ r, by have := h3 vs hH; rw [h1] at this; cases this; exact h2.mono e⟩⟩
theorem walks_cell {k : Nat} {a : Addr} {ws : List W} (ha : A[k]? = some a) : Walks K mg A F (Itl K a) ⟨ws.map .w, [(k, .lst ws)]⟩ := fun A' F' ce H p e r st i => by
  have hk : ce[k]? = some (some (.lst ws)) := st (k, .lst ws) (by simp)
  obtain ⟨b, h1, h2, vs, h3, h4⟩ := r.cell k _ hk
  have hb : b = a := by
    obtain ⟨t, rfl⟩ := p
    rw [List.getElem?_append_left (List.getElem?_eq_some_iff.mp ha).1, ha] at h1
    cases h1; rfl
  subst hb
  refine ⟨fun w hw => ?_, fun hl => ⟨vs, SqL.of h3, by rw [h4.length]; simp at hl; omega⟩⟩
  rw [List.getElem?_map] at hw
  cases hws : ws[i]? with
  | none => rw [hws] at hw; cases hw
  | some w' =>
  rw [hws] at hw; cases hw
  obtain ⟨v, q1, q2⟩ := h4.get hws
  exact ⟨⟨vs, v, SqL.of h3, q1⟩, fun x H' ⟨e1, h5⟩ => ⟨F', Ex.refl _, e1 ▸ r, by have := h5 vs (SqL.of h3); rw [q1] at this; cases this; exact q2⟩⟩
theorem walks_rng {lo : Int} {n : Nat} : Walks K mg A F (Itr lo n) ⟨(List.range n).map fun i : Nat => .w (.d (.int (lo + (i : Int)))), []⟩ := fun A' F' ce H p e r st i => by
  refine ⟨fun w hw => ?_, fun hl => show n ≤ i by simp at hl; omega⟩
  rw [List.getElem?_map] at hw
  cases q : (List.range n)[i]? with
  | none => rw [q] at hw; cases hw
  | some j =>
    rw [q] at hw; cases hw
    have hi : i < n := by have := (List.getElem?_eq_some_iff.mp q).1; simpa using this
    rw [List.getElem?_range hi] at q; cases q
    exact ⟨hi, fun x H' ⟨e1, e2⟩ => ⟨F', Ex.refl _, e1 ▸ r, by subst e2; exact .int _⟩⟩
end
section
variable {X : Cx} {W' : WX} {tg it : Expr} {fa : S → Out W} {fr : S → Out (List W)} {a b : Expr} {p pos : Pos}
theorem vi_seq (he : VE X W' it fa) : VI X W' tg it (iSeq fa) := PI.imp (pi_or (pi_list (tg := tg) he) (pi_tup (tg := tg) he)) fun σ H R h => by
  obtain ⟨s, A, F, r, q⟩ := h
  have q0 := Out.bindI q
  cases ho : fa s with
  | bad => rw [ho] at q0; exact q0.elim
  | exc c ns ws s' =>
    rw [ho] at q0
    refine .inl ⟨s, A, F, r, ?_⟩
    rw [ho]; exact q0
  | ok w s1 =>
    rw [ho] at q0
    unfold iSeq at q
    rw [ho] at q
    simp only [Out.bind_ok] at q
    cases hs : src1 w s1.ce with
    | none => rw [hs] at q; exact q.elim
    | some src =>
      rw [hs] at q
      have q : PostI X.K X.mg W' A F σ R (.ok src s1) := q
      cases w with
      | c k =>
        simp only [src1] at hs
        split at hs
        · rename_i ws hc
          cases hs
          refine .inl ⟨s, A, F, r, ?_⟩
          rw [ho]
          intro A' F' H' v a' e' r' hv
          obtain ⟨b, hb, rfl⟩ := hv
          obtain ⟨b', h1, h2, vs, h3, h4⟩ := r'.cs.cell k _ hc
          rw [hb] at h1; cases h1
          exact ⟨b, rfl, ⟨vs, SqL.of h3⟩, q A' F' H' _ a' e' r' (walks_cell hb)⟩
        · cases hs
      | d x =>
        simp only [src1] at hs
        split at hs
        · rename_i ds hw
          cases hs
          cases hw
          refine .inl ⟨s, A, F, r, ?_⟩
          rw [ho]
          intro A' F' H' v a' e' r' hv
          cases hv with
          | lst h1 h2 => exact ⟨_, rfl, ⟨_, ex_l r'.cs.ex (SqL.of h1)⟩, q A' F' H' _ a' e' r' (walks_lst (SqL.of h1) h2)⟩
        · rename_i ds hw
          cases hs
          cases hw
          refine .inr ⟨s, A, F, r, ?_⟩
          rw [ho]
          intro A' F' H' v a' e' r' hv
          cases hv with
          | tup h1 h2 => exact ⟨_, rfl, ⟨_, ex_t r'.cs.ex h1⟩, q A' F' H' _ a' e' r' (walks_tup h1 h2)⟩
        · rename_i ns hw
          cases hs
          cases hw
          refine .inl ⟨s, A, F, r, ?_⟩
          rw [ho]
          intro A' F' H' v a' e' r' hv
          cases hv with
          | scr h1 =>
            have hm : ns.map (fun n => Itm.w (.d (.int n))) = (ns.map D.int).map fun d => .w (.d d) := by simp
            refine ⟨_, rfl, ⟨_, ex_l r'.cs.ex h1⟩, q A' F' H' _ a' e' r' ?_⟩
            rw [hm]
            exact walks_lst h1 (rall_ints ns)
        · rename_i hw; cases hw
        · cases hs
theorem vi_range1 (hm : X.mg "range" = none) (ha : VA X W' [a] fr) (hg : Gl X "range" := by rfl) (hs : starEach [a] X.env = [(false, eval a X.env)] := by rfl) : VI X W' tg (.Call (.Name "range" p) [a] [] pos) (iRange1 fr) :=
  PI.imp (pi_range1 hg hm ha hs) fun σ H R h => by
  obtain ⟨s, A, F, r, q⟩ := h
  refine ⟨s, A, F, r, PostA.imp (Out.bindIA q) fun vs H1 ⟨ws, s1, A1, F1, a1, e1, r1, rw1, q1⟩ => ?_⟩
  split at q1
  · rename_i n
    cases rw1 with
    | cons h1 h2 =>
      cases h2
      cases h1
      by_cases hn : -(2 ^ 62) ≤ n ∧ n < 2 ^ 62
      · rw [if_pos hn] at q1
        refine ⟨n, rfl, hn.1, hn.2, q1 A1 F1 H1 _ (List.prefix_refl _) (Ex.refl _) r1 ?_⟩
        have := walks_rng (K := X.K) (mg := X.mg) (A := A1) (F := F1) (lo := 0) (n := n.toNat)
        simpa using this
      · rw [if_neg hn] at q1; exact q1.elim
  · exact q1.elim
theorem vi_range2 (hm : X.mg "range" = none) (ha : VA X W' [a, b] fr) (hg : Gl X "range" := by rfl) (hs : starEach [a, b] X.env = [(false, eval a X.env), (false, eval b X.env)] := by rfl) (hs2 : starEach [b] X.env = [(false, eval b X.env)] := by rfl) :
    VI X W' tg (.Call (.Name "range" p) [a, b] [] pos) (iRange2 fr) := PI.imp (pi_range2 hg hm ha hs hs2) fun σ H R h => by
  obtain ⟨s, A, F, r, q⟩ := h
  refine ⟨s, A, F, r, PostA.imp (Out.bindIA q) fun vs H1 ⟨ws, s1, A1, F1, a1, e1, r1, rw1, q1⟩ => ?_⟩
  split at q1
  · rename_i i j
    cases rw1 with
    | cons h1 h2 =>
      cases h2 with
      | cons h3 h4 =>
      cases h4
      cases h1
      cases h3
      by_cases hn : -(2 ^ 62) ≤ i ∧ i < 2 ^ 62 ∧ -(2 ^ 62) ≤ j ∧ j < 2 ^ 62
      · rw [if_pos hn] at q1
        exact ⟨i, j, rfl, hn, q1 A1 F1 H1 _ (List.prefix_refl _) (Ex.refl _) r1 walks_rng⟩
      · rw [if_neg hn] at q1; exact q1.elim
  · exact q1.elim
end

/-! ### for, while -/
noncomputable def loopF (p : Pat) (kp : List (Nat × Cell)) (body : S → Fl) : List Itm → S → Fl
  | [], s => if Stay kp s.ce then .nx s else .bad
  | w :: r, s => if Stay kp s.ce then match bindsI p w s.ce with
      | none => .bad
      | some bs => match body ⟨setSls s.sl bs, s.ce⟩ with
        | .nx s2 => loopF p kp body r s2
        | .ct s2 => loopF p kp body r s2
        | .bk s2 => .nx s2
        | .rt w' s2 => .rt w' s2
        | .exc c ns ws s2 => .exc c ns ws s2
        | .bad => .bad
    else .bad
noncomputable def sFor (p : Pat) (fi : S → Out Src) (body : S → Fl) (s : S) : Fl := (fi s).then fun src s1 => loopF p src.kp body src.ws s1
def loopW (c : S → Out Bool) (body : S → Fl) : Nat → S → Fl
  | 0, _ => .bad
  | n + 1, s => (c s).then fun b s1 => if b = true then match body s1 with
      | .nx s2 => loopW c body n s2
      | .ct s2 => loopW c body n s2
      | .bk s2 => .nx s2
      | .rt w' s2 => .rt w' s2
      | .exc c ns ws s2 => .exc c ns ws s2
      | .bad => .bad
    else .nx s1
section
variable {X : Cx} {W' : WX} {tg it c : Expr} {body : List Stmt} {fi : S → Out Src} {fb : S → Fl} {fc : S → Out Bool} {p : Pat} {pos : Pos}
theorem Out.thenI {K : PySem.W.Frag} {mg : Str → Option Value} {A : List Addr} {F : Hp} {σ : L2.St} {o : Out Src} {g : Src → S → Fl} {De : Ends} (h : PostS K mg W' A F De (o.then g)) :
    PostI K mg W' A F σ (fun J H1 => ∃ src s1 A1 F1, A <+: A1 ∧ Ex F F1 ∧ Rel K mg A1 F1 s1 σ H1 ∧ Walks K mg A1 F1 J src ∧ PostS K mg W' A1 F1 De (g src s1)) o := by
  cases o with
  | ok w s' => exact fun A' F' H' J a e r q => ⟨w, s', A', F', a, e, r, q, PostS.later h a e⟩
  | exc c ns ws s' => exact fun A' F' H' C d vs a e r m q hd => h A' F' H' C d vs σ a e r m q hd
  | bad => exact h
theorem vs_for (hp : PassesOwn (model X.prog X.w) X.A X.env X.xe) (hc : X.calm = true) (hi : VI X W' tg it fi) (hg : VG X tg p) (hb : VSs X W' body fb) (hs : ∀ x, foldedSetIterable it X.env x = pure x := by intro _; rfl) :
    VS X W' (.For tg it body [] pos) (sFor p fi fb) := PS.imp (ps_for hp hc hi hg hb hs) fun De σ H h => by
  obtain ⟨s, A, F, r, q⟩ := h
  refine ⟨s, A, F, r, ?_⟩
  have q0 := Out.thenI (σ := σ) q
  revert q0
  cases fi s with
  | bad => exact fun q0 => q0
  | exc c ns ws s' => exact fun q0 => q0
  | ok src s' =>
    intro q0 A' F' H' J a' e' r' wk
    obtain ⟨src, s1, A1, F1, a1, e1, r1, wk, q1⟩ := q0 A' F' H' J a' e' r' wk
    refine ⟨fun i m σ H => i ≤ src.ws.length ∧ m = src.ws.length - i ∧ ∃ s2 A2 F2, A1 <+: A2 ∧ Ex F1 F2 ∧ Rel X.K X.mg A2 F2 s2 σ H ∧ PostS X.K X.mg W' A2 F2 De (loopF p src.kp fb (src.ws.drop i) s2),
      ⟨src.ws.length, Nat.zero_le _, by simp, s1, A1, F1, List.prefix_refl _, Ex.refl _, r1, q1⟩, ?_⟩
    rintro i m σ2 H2 ⟨hi, rfl, s2, A2, F2, a2, e2, r2, q2⟩
    have stay : Stay src.kp s2.ce := by
      cases hd : src.ws.drop i with
      | nil =>
        rw [hd] at q2; unfold loopF at q2
        by_cases hs' : Stay src.kp s2.ce
        · exact hs'
        · rw [if_neg hs'] at q2; exact q2.elim
      | cons w rr =>
        rw [hd] at q2; unfold loopF at q2
        by_cases hs' : Stay src.kp s2.ce
        · exact hs'
        · rw [if_neg hs'] at q2; exact q2.elim
    obtain ⟨wg, wsn⟩ := wk A2 F2 s2.ce H2 a2 e2 r2.cs stay i
    by_cases hl : i < src.ws.length
    · right
      have hget : src.ws[i]? = some src.ws[i] := List.getElem?_eq_getElem hl
      obtain ⟨hgo, hy⟩ := wg _ hget
      refine ⟨hgo, fun σ' H' => ∃ s3 A3 F3, A1 <+: A3 ∧ Ex F1 F3 ∧ Rel X.K X.mg A3 F3 s3 σ' H' ∧ PostS X.K X.mg W' A3 F3 De (loopF p src.kp fb (src.ws.drop (i + 1)) s3), fun σ' H' h3 => ⟨_, by omega, by omega, rfl, h3⟩, fun x H' yl => ?_⟩
      obtain ⟨F3, e3, c3, w3⟩ := hy x H' yl
      rw [List.drop_eq_getElem_cons hl] at q2
      unfold loopF at q2
      rw [if_pos stay] at q2
      cases hb' : bindsI p src.ws[i] s2.ce with
      | none => rw [hb'] at q2; exact q2.elim
      | some bs =>
        rw [hb'] at q2
        simp only at q2
        have r3 := r2.slots e3 c3
        refine ⟨s2.ce, A2, F3, src.ws[i], bs, c3, w3, hb', fun us hu => ⟨_, A2, F3, r3.sets hu, ?_⟩⟩
        revert q2
        cases fb ⟨setSls s2.sl bs, s2.ce⟩ with
        | nx s4 => exact fun q2 A4 F4 H4 σ4 a4 e4 r4 => ⟨s4, A4, F4, a2.trans a4, (e2.trans e3).trans e4, r4, q2.later a4 (e3.trans e4)⟩
        | ct s4 => exact fun q2 A4 F4 H4 σ4 a4 e4 r4 => ⟨s4, A4, F4, a2.trans a4, (e2.trans e3).trans e4, r4, q2.later a4 (e3.trans e4)⟩
        | bk s4 => exact fun q2 A4 F4 H4 σ4 a4 e4 r4 => q2 A4 F4 H4 σ4 a4 (e3.trans e4) r4
        | rt w s4 => exact fun q2 A4 F4 H4 v a4 e4 r4 h4 => q2 A4 F4 H4 v a4 (e3.trans e4) r4 h4
        | exc c ns ws s4 => exact fun q2 A4 F4 H4 C d vs σ4 a4 e4 => q2 A4 F4 H4 C d vs σ4 a4 (e3.trans e4)
        | bad => exact fun q2 => q2
    · left
      refine ⟨wsn (by omega), ?_⟩
      rw [List.drop_eq_nil_of_le (by omega)] at q2
      unfold loopF at q2
      rw [if_pos stay] at q2
      exact q2 A2 F2 H2 σ2 (List.prefix_refl _) (Ex.refl _) r2
theorem vs_while (n : Nat) (hp : PassesOwn (model X.prog X.w) X.A X.env X.xe) (hc : VT X W' c fc) (hb : VSs X W' body fb) : VS X W' (.While c body [] pos) (loopW fc fb n) := PS.imp (ps_while hp hc hb) fun De σ H h => by
  obtain ⟨s, A, F, r, q⟩ := h
  refine ⟨fun m σ H => ∃ s2 A2 F2, A <+: A2 ∧ Ex F F2 ∧ Rel X.K X.mg A2 F2 s2 σ H ∧ PostS X.K X.mg W' A2 F2 De (loopW fc fb m s2), ⟨n, s, A, F, List.prefix_refl _, Ex.refl _, r, q⟩, ?_⟩
  rintro m σ2 H2 ⟨s2, A2, F2, a2, e2, r2, q2⟩
  cases m with
  | zero => exact q2.elim
  | succ m =>
    unfold loopW at q2
    refine ⟨s2, A2, F2, r2, PostT.imp (PostT.thenS q2) fun b H3 ⟨s3, A3, F3, a3, e3, r3, q3⟩ => ?_⟩
    by_cases hb' : b = true
    · rw [if_pos hb'] at q3 ⊢
      refine ⟨fun σ' H' => ∃ s4 A4 F4, A <+: A4 ∧ Ex F F4 ∧ Rel X.K X.mg A4 F4 s4 σ' H' ∧ PostS X.K X.mg W' A4 F4 De (loopW fc fb m s4), fun σ' H' h3 => ⟨m, by omega, h3⟩, s3, A3, F3, r3, ?_⟩
      revert q3
      cases fb s3 with
      | nx s4 => exact fun q2 A4 F4 H4 σ4 a4 e4 r4 => ⟨s4, A4, F4, (a2.trans a3).trans a4, (e2.trans e3).trans e4, r4, q2.later a4 e4⟩
      | ct s4 => exact fun q2 A4 F4 H4 σ4 a4 e4 r4 => ⟨s4, A4, F4, (a2.trans a3).trans a4, (e2.trans e3).trans e4, r4, q2.later a4 e4⟩
      | bk s4 => exact fun q2 A4 F4 H4 σ4 a4 e4 r4 => q2 A4 F4 H4 σ4 a4 e4 r4
      | rt w s4 => exact fun q2 => q2
      | exc c ns ws s4 => exact fun q2 => q2
      | bad => exact fun q2 => q2
    · rw [if_neg hb'] at q3 ⊢
      exact q3 A3 F3 H3 σ2 (List.prefix_refl _) (Ex.refl _) r3
end
end VL

set_option maxHeartbeats 4000000
namespace VL
open PySem PySem.Spec PyProof.Rows L2
open Classical

/-! ### list comprehensions -/
def wipeS (sl : List (Option W)) : List Nat → List (Option W)
  | [] => sl
  | v :: vs => (wipeS sl vs).set v none
noncomputable def lcLoop (k : Nat) (sl : List (Option W)) (vs : List Nat) (p : Pat) (kp : List (Nat × Cell)) (ft : S → Out Bool) (fe : S → Out W) : List Itm → List (Option Cell) → Option (List (Option Cell))
  | [], ce => if Stay kp ce then some ce else none
  | w :: r, ce => if Stay kp ce then match bindsI p w ce with
      | none => none
      | some bs => if (bs.map (·.1)).all (fun i => decide (i ∈ vs)) = true then match ft ⟨setSls (wipeS sl vs) bs, ce⟩ with
          | .ok true s2 => match fe s2 with
            | .ok (.d d) s3 => match s3.ce[k]? with
              | some (some (.lst acc)) => if acc.length < sizeLine then lcLoop k sl vs p kp ft fe r (s3.ce.set k (some (.lst (acc ++ [.d d])))) else none
              | _ => none
            | _ => none
          | .ok false s2 => lcLoop k sl vs p kp ft fe r s2.ce
          | _ => none
        else none
    else none
def dropDead (k : Nat) (ce : List (Option Cell)) : List (Option Cell) := if ce.length = k + 1 ∧ Fits k (ce.take k) = true then ce.take k else ce.set k none
noncomputable def eLc (vs : List Nat) (p : Pat) (fi : S → Out Src) (ft : S → Out Bool) (fe : S → Out W) (s : S) : Out W := (fi s).bind fun src s1 =>
  match lcLoop s1.ce.length s1.sl vs p src.kp ft fe src.ws (s1.ce ++ [some (.lst [])]) with
  | some ce => match ce[s1.ce.length]? with
    | some (some (.lst acc)) => match datAll acc with
      | some ds => .ok (.d (.lst ds)) ⟨s1.sl, dropDead s1.ce.length ce⟩
      | none => .bad
    | _ => .bad
  | none => .bad
def bYes (s : S) : Out Bool := .ok true s
section
variable {K : PySem.W.Frag} {mg : Str → Option Value} {A A' : List Addr} {F F' H H' : Hp} {σ : L2.St} {s : S} {ce : List (Option Cell)}
theorem wipeS_length (sl : List (Option W)) : ∀ vs, (wipeS sl vs).length = sl.length
  | [] => rfl
  | v :: vs => by unfold wipeS; rw [List.length_set, wipeS_length sl vs]
theorem Rel.wipe (r : Rel K mg A F s σ H) : ∀ vs, Rel K mg A F ⟨wipeS s.sl vs, s.ce⟩ (L2.wipe σ vs) H
  | [] => r
  | v :: vs => by
    have ih := Rel.wipe r vs
    refine ⟨r.cs, by simp [wipeS_length, wipe_length, r.sz], fun i w h => ?_⟩
    simp only [wipeS] at h
    unfold L2.wipe
    by_cases hi : v = i
    · subst hi
      by_cases hl : v < (wipeS s.sl vs).length
      · rw [List.getElem?_set_self hl] at h; cases h
      · rw [List.getElem?_eq_none_iff.mpr (by simp; omega)] at h; cases h
    · rw [List.getElem?_set_ne hi] at h
      rw [List.getElem?_set_ne hi]
      exact ih.slot i w h
theorem set_comm_none {σ : L2.St} {i v : Nat} {x : Option V} : ((σ.set i x).set v none) = if i = v then σ.set v none else (σ.set v none).set i x := by
  by_cases h : i = v
  · subst h; rw [if_pos rfl, List.set_set]
  · rw [if_neg h, List.set_comm _ _ h]
theorem wipe_set {i : Nat} {x : Option V} : ∀ {vs : List Nat} {σ : L2.St}, i ∈ vs → L2.wipe (σ.set i x) vs = L2.wipe σ vs
  | v :: vs, σ, h => by
    unfold L2.wipe
    by_cases hv : i ∈ vs
    · rw [wipe_set hv]
    · have hi : i = v := (List.mem_cons.mp h).resolve_right hv
      subst hi
      have : ∀ (vs : List Nat) (σ : L2.St), i ∉ vs → L2.wipe (σ.set i x) vs = (L2.wipe σ vs).set i x := by
        intro vs
        induction vs with
        | nil => intro σ _; rfl
        | cons u us ih =>
          intro σ hn
          unfold L2.wipe
          rw [ih σ (fun m => hn (List.mem_cons_of_mem _ m)), List.set_comm]
          exact fun e => hn (by simp [e])
      rw [this vs σ hv, List.set_set]
theorem wipe_setAll {vs : List Nat} : ∀ {is : List Nat} {us : List V} {σ : L2.St}, is.all (fun i => decide (i ∈ vs)) = true → L2.wipe (setAll σ is us) vs = L2.wipe σ vs
  | [], us, σ, _ => rfl
  | i :: is, [], σ, _ => rfl
  | i :: is, u :: us, σ, h => by
    simp only [List.all_cons, Bool.and_eq_true, decide_eq_true_eq] at h
    show L2.wipe (setAll (σ.set i (some u)) is us) vs = _
    rw [wipe_setAll h.2, wipe_set h.1]
theorem wipe_wipe {σ : L2.St} : ∀ {vs : List Nat}, L2.wipe (L2.wipe σ vs) vs = L2.wipe σ vs := by
  intro vs
  have gen : ∀ (us : List Nat), (∀ u ∈ us, u ∈ vs) → L2.wipe (L2.wipe σ us) vs = L2.wipe σ vs := by
    intro us
    induction us with
    | nil => intro _; rfl
    | cons u us ih =>
      intro h
      show L2.wipe ((L2.wipe σ us).set u none) vs = _
      rw [wipe_set (h u (by simp)), ih (fun w hw => h w (by simp [hw]))]
  exact gen vs (fun _ h => h)
/-- a cell's list changes -/
theorem RelC.put (r : RelC K mg A F ce H) {k : Nat} {a : Addr} {c c' : Cell} {o : HO} (hk : ce[k]? = some (some c)) (ha : A[k]? = some a) (hc : CR K mg A F (upd H a o) a c') : RelC K mg A F (ce.set k (some c')) (upd H a o) := by
  obtain ⟨b, h1, h2, h3⟩ := r.cell k c hk
  rw [ha] at h1; cases h1
  refine ⟨fun x u e => ?_, by rw [List.length_set]; exact r.len, r.nd, fun x m => ?_, fun j c2 e => ?_⟩
  · by_cases q : x = a
    · subst q; rw [h2] at e; cases e
    · rw [upd_ne q]; exact r.ex x u e
  · by_cases q : x = a
    · subst q; exact ⟨o, upd_same⟩
    · rw [upd_ne q]; exact r.trk x m
  · by_cases q : k = j
    · subst q
      rw [List.getElem?_set_self (List.getElem?_eq_some_iff.mp hk).1] at e
      cases e
      exact ⟨a, ha, h2, hc⟩
    · rw [List.getElem?_set_ne q] at e
      obtain ⟨b, h4, h5, h6⟩ := r.cell j c2 e
      have hb : b ≠ a := fun z => by
        subst z
        exact q ((List.getElem?_inj (List.getElem?_eq_some_iff.mp ha).1 r.nd).mp (ha.trans h4.symm))
      refine ⟨b, h4, h5, ?_⟩
      cases c2 with
      | lst ws => obtain ⟨vs, q1, q2⟩ := h6; exact ⟨vs, by rw [upd_ne hb]; exact q1, q2⟩
      | dK ks ws => obtain ⟨vs, hl, q1, q2⟩ := h6; exact ⟨vs, hl, q1, by rw [upd_ne hb]; exact q2⟩
      | dT ks ws => obtain ⟨vs, hl, q1, q2⟩ := h6; exact ⟨vs, hl, q1, by rw [upd_ne hb]; exact q2⟩
      | ins c ns ws => obtain ⟨C, dx, vs, q0, hl, q1, q2⟩ := h6; exact ⟨C, dx, vs, q0, hl, q1, by rw [upd_ne hb]; exact q2⟩
/-- a list cell of data is frozen -/
theorem RelC.freeze (r : RelC K mg A F ce H) {k : Nat} {ws : List W} {ds : List D} (hk : ce[k]? = some (some (.lst ws))) (hd : datAll ws = some ds) :
    ∃ F' a, A[k]? = some a ∧ Ex F F' ∧ RelC K mg A F' (ce.set k none) H ∧ R K mg F' (.ref a) (.lst ds) := by
  obtain ⟨a, h1, h2, vs, h3, h4⟩ := r.cell k _ hk
  rw [datAll_eq hd] at h4
  have ef : Ex F (upd F a (.lst vs)) := ex_upd h2
  refine ⟨upd F a (.lst vs), a, h1, ef, ⟨fun x u e => ?_, by rw [List.length_set]; exact r.len, r.nd, r.trk, fun j c2 e => ?_⟩, .lst upd_same ((RAll.ofW h4).mono ef)⟩
  · by_cases q : x = a
    · subst q; rw [upd_same] at e; cases e; exact h3
    · rw [upd_ne q] at e; exact r.ex x u e
  · by_cases q : k = j
    · subst q
      rw [List.getElem?_set_self (List.getElem?_eq_some_iff.mp hk).1] at e; cases e
    · rw [List.getElem?_set_ne q] at e
      obtain ⟨b, h4, h5, h6⟩ := r.cell j c2 e
      have hb : b ≠ a := fun z => by
        subst z
        exact q ((List.getElem?_inj (List.getElem?_eq_some_iff.mp h1).1 r.nd).mp (h1.trans h4.symm))
      exact ⟨b, h4, by rw [upd_ne hb]; exact h5, h6.mono (List.prefix_refl _) ef (fun _ q => q)⟩
end
section
variable {X : Cx} {W' : WX} {tg it elt : Expr} {fi : S → Out Src} {ft : S → Out Bool} {fe : S → Out W} {p : Pat} {pos : Pos}
abbrev W0 : WX := fun _ _ _ _ => False
abbrev VTs (X : Cx) (W' : WX) (ifs : List Expr) (f : S → Out Bool) : Prop := PTs X ifs (tT X.K X.mg W' f)
theorem vts_nil : VTs X W' [] bYes := ⟨fun pins s σ H Q I hw => pts_nil.run pins s σ H Q I (by
  obtain ⟨s, A, F, r, q⟩ := hw
  exact q A F H (List.prefix_refl _) (Ex.refl _) r)⟩
theorem vts_one {c : Expr} {ft : S → Out Bool} (h : VT X W' c ft) : VTs X W' [c] ft := pts_one h
theorem takes0 {Y : Cx} : Takes Y W0 := fun u s' ⟨_, _, _, _, _, _, _, _, _, _, _, _, _, _, _, _, h⟩ => h.elim
theorem lc_imp {K : PySem.W.Frag} {mg : Str → Option Value} {vs : List Nat} {σ : L2.St} {H : Hp} {Q : VK} (h : tE K mg W' (eLc vs p fi ft fe) σ H Q) : tLc (tI K mg W' fi) (tG K mg p) (tT K mg W0 ft) (tE K mg W0 fe) vs σ H Q := by
  obtain ⟨s, A, F, r, q⟩ := h
  refine ⟨s, A, F, r, ?_⟩
  unfold eLc at q
  revert q
  cases fi s with
  | bad => exact fun q => q
  | exc c ns ws s' => exact fun q => q
  | ok src s1 =>
    intro q A1 F1 H1 J a1 e1 r1 wk Dl hD
    simp only [Out.bind_ok] at q
    have hlen := r1.cs.len
    cases hlc : lcLoop s1.ce.length s1.sl vs p src.kp ft fe src.ws (s1.ce ++ [some (.lst [])]) with
    | none => rw [hlc] at q; exact q.elim
    | some ceE =>
    rw [hlc] at q
    simp only at q
    have px : A1 <+: A1 ++ [Dl] := List.prefix_append _ _
    have rD : Rel K mg (A1 ++ [Dl]) F1 ⟨s1.sl, s1.ce ++ [some (.lst [])]⟩ σ (upd H1 Dl (.lst [])) := r1.cells px (Ex.refl _) (r1.cs.cellNew hD ⟨[], upd_same, .nil⟩)
    have hkD : (A1 ++ [Dl])[s1.ce.length]? = some Dl := by rw [← hlen, List.getElem?_append_right (by omega)]; simp
    refine ⟨fun i m H => i ≤ src.ws.length ∧ m = src.ws.length - i ∧ ∃ ce A2 F2, A1 ++ [Dl] <+: A2 ∧ Ex F1 F2 ∧ Rel K mg A2 F2 ⟨s1.sl, ce⟩ σ H ∧ lcLoop s1.ce.length s1.sl vs p src.kp ft fe (src.ws.drop i) ce = some ceE,
      ⟨src.ws.length, Nat.zero_le _, by simp, _, A1 ++ [Dl], F1, List.prefix_refl _, Ex.refl _, rD, hlc⟩, ?_⟩
    rintro i m H2 ⟨hi', rfl, ce, A2, F2, a2, e2, r2, q2⟩
    have stay : Stay src.kp ce := by
      cases hd : src.ws.drop i with
      | nil =>
        rw [hd] at q2; unfold lcLoop at q2
        by_cases hs' : Stay src.kp ce
        · exact hs'
        · rw [if_neg hs'] at q2; cases q2
      | cons w rr =>
        rw [hd] at q2; unfold lcLoop at q2
        by_cases hs' : Stay src.kp ce
        · exact hs'
        · rw [if_neg hs'] at q2; cases q2
    obtain ⟨wg, wsn⟩ := wk A2 F2 ce H2 (px.trans a2) e2 r2.cs stay i
    by_cases hl : i < src.ws.length
    · right
      have hget : src.ws[i]? = some src.ws[i] := List.getElem?_eq_getElem hl
      obtain ⟨hgo, hy⟩ := wg _ hget
      refine ⟨hgo, fun H' => ∃ ce A3 F3, A1 ++ [Dl] <+: A3 ∧ Ex F1 F3 ∧ Rel K mg A3 F3 ⟨s1.sl, ce⟩ σ H' ∧ lcLoop s1.ce.length s1.sl vs p src.kp ft fe (src.ws.drop (i + 1)) ce = some ceE, fun H' h3 => ⟨_, by omega, by omega, rfl, h3⟩, fun x H' yl => ?_⟩
      obtain ⟨F3, e3, c3, w3⟩ := hy x H' yl
      rw [List.drop_eq_getElem_cons hl] at q2
      unfold lcLoop at q2
      rw [if_pos stay] at q2
      cases hb' : bindsI p src.ws[i] ce with
      | none => rw [hb'] at q2; cases q2
      | some bs =>
        rw [hb'] at q2
        simp only at q2
        by_cases hin : (bs.map (·.1)).all (fun i => decide (i ∈ vs)) = true
        · rw [if_pos hin] at q2
          refine ⟨ce, A2, F3, src.ws[i], bs, c3, w3, hb', fun us hu => ⟨?_, ?_⟩⟩
          · rw [wipe_setAll hin, wipe_wipe]
          have r3 : Rel K mg A2 F3 ⟨setSls (wipeS s1.sl vs) bs, ce⟩ (setAll (L2.wipe σ vs) (bs.map (·.1)) us) H' := by
            have r4 : Rel K mg A2 F3 ⟨wipeS s1.sl vs, ce⟩ (L2.wipe σ vs) H' := (Rel.slots r2 e3 c3).wipe vs
            exact r4.sets hu
          refine ⟨_, A2, F3, r3, ?_⟩
          revert q2
          cases ft ⟨setSls (wipeS s1.sl vs) bs, ce⟩ with
          | bad => intro q2; cases q2
          | exc => intro q2; cases q2
          | ok b s2 =>
          cases b with
          | false =>
            intro q2 A4 F4 H4 a4 e4 r4
            rw [if_neg Bool.false_ne_true]
            exact ⟨s2.ce, A4, F4, a2.trans a4, (e2.trans e3).trans e4, ⟨r4.cs, r1.sz, fun j w h => by
              obtain ⟨v, h1, h2⟩ := r1.slot j w h
              exact ⟨v, h1, h2.mono ((px.trans a2).trans a4) ((e2.trans e3).trans e4)⟩⟩, q2⟩
          | true =>
            intro q2 A4 F4 H4 a4 e4 r4
            rw [if_pos rfl]
            refine ⟨s2, A4, F4, r4, ?_⟩
            revert q2
            show (match fe s2 with | .ok (.d d) s3 => _ | _ => _) = some ceE → _
            cases fe s2 with
            | bad => intro q2; cases q2
            | exc => intro q2; cases q2
            | ok w s3 =>
            cases w with
            | c k => intro q2; cases q2
            | d d =>
              intro q2 A5 F5 H5 v a5 e5 r5 hv
              simp only at q2
              split at q2
              · rename_i acc hacc
                by_cases hz : acc.length < sizeLine
                · rw [if_pos hz] at q2
                  obtain ⟨b, h1, h2, as, h3, h4⟩ := r5.cs.cell _ _ hacc
                  have hDb : b = Dl := by
                    have pp := (a2.trans a4).trans a5
                    obtain ⟨t, rfl⟩ := pp
                    rw [List.getElem?_append_left (List.getElem?_eq_some_iff.mp hkD).1, hkD] at h1
                    cases h1; rfl
                  subst hDb
                  refine ⟨as, h3, by rw [h4.length]; exact hz, s3.ce.set s1.ce.length (some (.lst (acc ++ [.d d]))), A5, F5, (a2.trans a4).trans a5, ((e2.trans e3).trans e4).trans e5, ?_, q2⟩
                  have rc := r5.cs.put (o := .lst (as ++ [v])) (c' := .lst (acc ++ [.d d])) hacc h1 ⟨_, upd_same, h4.append (.cons hv .nil)⟩
                  exact ⟨rc, r1.sz, fun j w h => by
                    obtain ⟨v, h1, h2⟩ := r1.slot j w h
                    exact ⟨v, h1, h2.mono (((px.trans a2).trans a4).trans a5) (((e2.trans e3).trans e4).trans e5)⟩⟩
                · rw [if_neg hz] at q2; cases q2
              · cases q2
        · rw [if_neg hin] at q2; cases q2
    · left
      refine ⟨wsn (by omega), ?_⟩
      rw [List.drop_eq_nil_of_le (by omega)] at q2
      unfold lcLoop at q2
      rw [if_pos stay] at q2
      injection q2 with q2
      rw [← q2] at q
      split at q
      · rename_i acc hacc
        cases hd : datAll acc with
        | none => rw [hd] at q; exact q.elim
        | some ds =>
          rw [hd] at q
          simp only at q
          obtain ⟨F3, b, hb, e3, c3, hv⟩ := r2.cs.freeze hacc hd
          have hDb : b = Dl := by
            obtain ⟨t, rfl⟩ := a2
            rw [List.getElem?_append_left (List.getElem?_eq_some_iff.mp hkD).1, hkD] at hb
            cases hb; rfl
          subst hDb
          unfold dropDead at q
          by_cases hk : ce.length = s1.ce.length + 1 ∧ Fits s1.ce.length (ce.take s1.ce.length) = true
          · rw [if_pos hk] at q
            refine q A1 F3 H2 _ a1 (e1.trans (e2.trans e3)) ?_ hv
            have c4 : RelC K mg A1 F3 ((ce.set s1.ce.length none).take s1.ce.length) H2 := by
              have ee : (ce.set s1.ce.length none).take s1.ce.length = ce.take s1.ce.length := by
                rw [List.take_set_of_le (Nat.le_refl _)]
              exact c3.cut (px.trans a2) hlen (by rw [ee]; exact hk.2)
            have ee : (ce.set s1.ce.length none).take s1.ce.length = ce.take s1.ce.length := by
              rw [List.take_set_of_le (Nat.le_refl _)]
            rw [ee] at c4
            exact ⟨c4, r1.sz, fun j w h => by
              obtain ⟨v, h1, h2⟩ := r1.slot j w h
              exact ⟨v, h1, h2.mono (List.prefix_refl _) (e2.trans e3)⟩⟩
          · rw [if_neg hk] at q
            exact q A2 F3 H2 _ (a1.trans (px.trans a2)) (e1.trans (e2.trans e3)) ⟨c3, r1.sz, fun j w h => by
              obtain ⟨v, h1, h2⟩ := r1.slot j w h
              exact ⟨v, h1, h2.mono (px.trans a2) (e2.trans e3)⟩⟩ hv
      · exact q.elim
theorem ve_lc {ifs : List Expr} {scope : Scope} {own : List (Str × Nat)} (hc : X.calm = true) (hN : X.N.Nodup) (hi : VI X W' tg it fi) (ok : BlkOk X.N X.env.scope scope own)
    (hg : ∀ (s : Shared) (H : Hp) (C : Addr) (cl : List (Str × Addr)) (fp : List Addr), VG (X.blk s H scope (compEnvC scope cl C X.env) fp) tg p)
    (ht : ∀ (s : Shared) (H : Hp) (C : Addr) (cl : List (Str × Addr)) (fp : List Addr), VTs (X.blk s H scope (compEnvC scope cl C X.env) fp) W0 ifs ft)
    (he : ∀ (s : Shared) (H : Hp) (C : Addr) (cl : List (Str × Addr)) (fp : List Addr), VE (X.blk s H scope (compEnvC scope cl C X.env) fp) W0 elt fe)
    (hs : ∀ x, foldedSetIterable it X.env x = pure x := by intro _; rfl) :
    VE X W' (.ListComp elt [⟨tg, it, ifs, 0⟩] scope pos) (eLc (own.map (·.2)) p fi ft fe) := by
  exact PE.imp (pe_lc (g := tG X.K X.mg p) (tt := tT X.K X.mg W0 ft) (te := tE X.K X.mg W0 fe) hc hN hi ok hg ht he hs) fun σ H Q h => lc_imp h
theorem vs_setLc (i : Nat) {y : Str} {py spos : Pos} {ifs : List Expr} {scope : Scope} {own : List (Str × Nat)} (hc : X.calm = true) (hN : X.N.Nodup) (hi : VI X W' tg it fi) (ok : BlkOk X.N X.env.scope scope own)
    (hg : ∀ (s : Shared) (H : Hp) (C : Addr) (cl : List (Str × Addr)) (fp : List Addr), VG (X.blk s H scope (compEnvC scope cl C X.env) fp) tg p)
    (ht : ∀ (s : Shared) (H : Hp) (C : Addr) (cl : List (Str × Addr)) (fp : List Addr), VTs (X.blk s H scope (compEnvC scope cl C X.env) fp) W0 ifs ft)
    (he : ∀ (s : Shared) (H : Hp) (C : Addr) (cl : List (Str × Addr)) (fp : List Addr), VE (X.blk s H scope (compEnvC scope cl C X.env) fp) W0 elt fe)
    (hy : X.N[i]? = some y := by rfl) (hyl : X.env.scope.names.lookup y = some .local := by rfl) (hsw : swapsWith (.ListComp elt [⟨tg, it, ifs, 0⟩] scope pos) (some (.Name y py)) spos.line X.env = pure true := by exact sw_true rfl rfl rfl (by decide +kernel))
    (hs : ∀ x, foldedSetIterable it X.env x = pure x := by intro _; rfl) :
    VS X W' (.Assign [.Name y py] (.ListComp elt [⟨tg, it, ifs, 0⟩] scope pos) spos) (fun s => (eLc (own.map (·.2)) p fi ft fe s).then fun w s1 => .nx (setSl i w s1)) := by
  refine PS.imp (ps_setLc (g := tG X.K X.mg p) (tt := tT X.K X.mg W0 ft) (te := tE X.K X.mg W0 fe) hc hN hy hyl hsw hi ok hg ht he hs) fun De σ H h => ?_
  obtain ⟨s, A, F, r, q⟩ := h
  exact lc_imp ⟨s, A, F, r, PostE.imp (PostE.thenS q) fun v H1 ⟨w, s1, A1, F1, a1, e1, r1, rw1, q1⟩ => q1 A1 F1 H1 _ (List.prefix_refl _) (Ex.refl _) (r1.set rw1 i)⟩
end
end VL

set_option maxHeartbeats 4000000
namespace VL
open PySem PySem.Spec PyProof.Rows L2

/-! ### operators -/
section
variable {K : PySem.W.Frag} {mg : Str → Option Value} {A : List Addr} {F H : Hp} {ce : List (Option Cell)} {v : V} {w : W}
theorem d_int (r : RelC K mg A F ce H) (h : RW K mg A F v w) {i : Int} (e : dat ce w = some (.int i)) : v = .int i := by
  cases dat_rt r h e with | flat h _ _ _ => cases h; rfl
theorem d_bl (r : RelC K mg A F ce H) (h : RW K mg A F v w) {i : Bool} (e : dat ce w = some (.bl i)) : v = .bl i := by
  cases dat_rt r h e with | flat h _ _ _ => cases h; rfl
theorem d_str (r : RelC K mg A F ce H) (h : RW K mg A F v w) {i : Str} (e : dat ce w = some (.str i)) : v = .str i := by
  cases dat_rt r h e with | flat h _ _ _ => cases h; rfl
theorem d_non (r : RelC K mg A F ce H) (h : RW K mg A F v w) (e : dat ce w = some .non) : v = .non := by
  cases dat_rt r h e with | flat h _ _ _ => cases h; rfl
theorem d_ty (r : RelC K mg A F ce H) (h : RW K mg A F v w) {n : String} (e : dat ce w = some (.ty n)) : v = .ty n := by
  cases dat_rt r h e with | flat h _ _ _ => cases h; rfl
theorem d_lst (r : RelC K mg A F ce H) (h : RW K mg A F v w) {ds : List D} (e : dat ce w = some (.lst ds)) : ∃ a vs, v = .ref a ∧ H a = some (.lst vs) ∧ RAll K mg F vs ds := by
  cases dat_rt r h e with
  | flat _ h _ _ => exact absurd rfl (h _)
  | lst h1 h2 => exact ⟨_, _, rfl, h1, h2⟩
theorem d_tup (r : RelC K mg A F ce H) (h : RW K mg A F v w) {ds : List D} (e : dat ce w = some (.tup ds)) : ∃ a vs, v = .ref a ∧ SqT K H a vs ∧ RAll K mg F vs ds := by
  cases dat_rt r h e with
  | flat _ _ h _ => exact absurd rfl (h _)
  | tup h1 h2 => exact ⟨_, _, rfl, h1, h2⟩
theorem d_scr (r : RelC K mg A F ce H) (h : RW K mg A F v w) {ns : List Int} (e : dat ce w = some (.scr ns)) : ∃ a, v = .ref a ∧ SqL K H a (ns.map V.int) := by
  cases dat_rt r h e with | flat h _ _ _ => cases h with | scr h => exact ⟨_, rfl, ex_l r.ex h⟩
end
/-! ### t * 1: t itself -/
theorem tuple_mulS (l : Addr) (items : Array Value) (n : Nat) (dd : Option Addr) (sl : Array (Option Value)) (u : Tok) :
    Meets (Builtin.«tuple.__mul__» ⟨[.ref l, .int 1 u], []⟩) (fun _ R s => s.heap.get? l = some { cls := .type "tuple", dict := dd, data := .seq items n, slots := sl } ∧ R (.ok (.ret (Value.ref l))) s) :=
  .of_wp fun prog w A R s h => by
    obtain ⟨hp, g, d, tk, os⟩ := s
    obtain ⟨hl, h⟩ := h
    have f1 := AutoSeq1.idx_int
    have c1 : (items.isEmpty || (1 : Int) == 1) = true := by rw [show ((1 : Int) == 1) = true from by decide, Bool.or_true]
    wp_walk using wpAny_loadPart' hl
    repeat (first
      | (refine wpAny_ite_false (decide_eq_false (by decide)) ?_; wp_walk using wpAny_loadPart' hl)
      | (refine wpAny_ite_true (decide_eq_true c1) ?_; wp_walk using wpAny_loadPart' hl)
      | (refine wpAny_ite_true (decide_eq_true (by decide)) ?_; wp_walk using wpAny_loadPart' hl))
    exact ⟨_, rfl, h⟩
section
variable {X : Cx}
theorem op_repT1 : OpR X (binaryOp .Mult) (fun x y H Q => ∃ l xs, x = .ref l ∧ y = .int 1 ∧ SqT X.K H l xs ∧ Q (.ref l) H) := by
  intro pins s σ H x y v u Q I rx ry h
  obtain ⟨l, xs, rfl, rfl, hT, q⟩ := h
  cases rx
  obtain ⟨t, rfl⟩ := ry
  obtain ⟨its, r, ⟨⟨cls, dd, data, sl⟩, ho, hc, n, hd⟩, hs⟩ := I.tuple hT
  simp only at hc hd
  subst hc hd
  refine wpAny_binaryOp_repeat_ref (T := "tuple") (U := "int") (by decide) ⟨_, ho, rfl⟩ (fun s' => typeIs_int s' 1 t) noFill_tuple_mul F.fills_int_mul F.slot_int_rmul repeat_tuple F.slot_int_index.lookup
    (call_meets F.slot_int_rmul (typeIs_int s 1 t) F.entry_int_rmul (F.args_int_rmul_2 _ _) (int_rmul_tuple 1 t l its.toArray n dd sl)
      ⟨ho, rfl, ⟨_, ho, rfl⟩, call_meets F.slot_tuple_mul ⟨_, ho, rfl⟩ F.entry_tuple_mul (F.args_tuple_mul_2 _ _) (tuple_mulS l its.toArray n dd sl t) ⟨ho, ?_⟩⟩)
  exact ⟨.ref l, H, I, rfl, q⟩
end
theorem r_tup {K : PySem.W.Frag} {mg : Str → Option Value} {A : List Addr} {F : Hp} {ce : List (Option Cell)} {v : V} {w : W} (h : RW K mg A F v w) {ds : List D} (e : dat ce w = some (.tup ds)) : R K mg F v (.tup ds) := by
  cases w with
  | d x => simp only [dat, Option.some.injEq] at e; subst e; exact h
  | c k =>
    simp only [dat] at e
    split at e
    · cases q : datAll _ with
      | none => rw [q] at e; cases e
      | some ds => rw [q] at e; cases e
    · cases q : datAll _ with
      | none => rw [q] at e; cases e
      | some ds => rw [q] at e; cases e
    · cases q : datAll _ with
      | none => rw [q] at e; cases e
      | some ds => rw [q] at e; cases e
    · cases e
def two (f : D → D → Option D) : P2 := fun ce x y => match dat ce x, dat ce y with
  | some a, some b => f a b
  | _, _ => none
@[simp] theorem two_d {f : D → D → Option D} {ce : List (Option Cell)} {a b : D} : two f ce (.d a) (.d b) = f a b := rfl
def fAdd : D → D → Option D
  | .int i, .int j => some (.int (i + j))
  | .str a, .str b => if a.length + b.length ≤ sizeLine then some (.str (a ++ b)) else none
  | .lst a, .lst b => if a.length + b.length ≤ sizeLine then some (.lst (a ++ b)) else none
  | .tup a, .tup b => if a.length + b.length ≤ sizeLine then some (.tup (a ++ b)) else none
  | _, _ => none
def fSub : D → D → Option D
  | .int i, .int j => some (.int (i - j))
  | _, _ => none
def fMul : D → D → Option D
  | .int i, .int j => if (-(2 ^ 64) < i ∧ i < 2 ^ 64) ∨ (-(2 ^ 64) < j ∧ j < 2 ^ 64) then some (.int (i * j)) else none
  | .lst a, .int k => if -(2 ^ 63) ≤ k ∧ k < 2 ^ 63 ∧ a.length * k.toNat ≤ sizeLine then some (.lst (List.replicate k.toNat a).flatten) else none
  | .tup a, .int k => if a ≠ [] ∧ 1 ≤ k ∧ k ≤ 1000 ∧ a.length ≤ 1000 then some (.tup (List.replicate k.toNat a).flatten) else none
  | _, _ => none
def fDiv : D → D → Option D
  | .int i, .int j => if 0 < j ∧ j < 1073741824 then some (.int (i / j)) else none
  | _, _ => none
def fMod : D → D → Option D
  | .int i, .int j => if 0 < j then some (.int (i % j)) else none
  | _, _ => none
def fPow : D → D → Option D
  | .int i, .int j => if 0 ≤ j ∧ j ≤ 1000000 ∧ i.natAbs < 2 ^ 64 then some (.int (i ^ j.toNat)) else none
  | _, _ => none
def fLt : D → D → Option D
  | .int i, .int j => some (.bl (decide (i < j)))
  | _, _ => none
def fLe : D → D → Option D
  | .int i, .int j => some (.bl (decide (i ≤ j)))
  | _, _ => none
def fGt : D → D → Option D
  | .int i, .int j => some (.bl (decide (j < i)))
  | _, _ => none
def fGe : D → D → Option D
  | .int i, .int j => some (.bl (decide (j ≤ i)))
  | _, _ => none
section
variable {X : Cx}
theorem RAll.rep {K : PySem.W.Frag} {mg : Str → Option Value} {F : Hp} {vs : List V} {ds : List D} (h : RAll K mg F vs ds) : ∀ n, RAll K mg F (List.replicate n vs).flatten (List.replicate n ds).flatten
  | 0 => .nil
  | n + 1 => by simp only [List.replicate_succ, List.flatten_cons]; exact h.append (RAll.rep h n)
theorem two_some {f : D → D → Option D} {ce : List (Option Cell)} {x y : W} {d : D} (h : two f ce x y = some d) : ∃ a b, dat ce x = some a ∧ dat ce y = some b ∧ f a b = some d := by
  unfold two at h
  split at h
  · rename_i a b h1 h2; exact ⟨a, b, h1, h2, h⟩
  · cases h
theorem o_add : OpR X (binaryOp .Add) (rP2 X.K X.mg (two fAdd)) := by
  intro pins s σ H x y v u Q I rx ry ⟨ce, A, F, wx, wy, d, rc, hx, hy, ho, fin⟩
  obtain ⟨a, b, ha, hb, hf⟩ := two_some ho
  unfold fAdd at hf
  split at hf
  · cases hf
    cases d_int rc hx ha; cases d_int rc hy hb
    exact op_add pins s σ H _ _ v u Q I rx ry ⟨_, _, rfl, rfl, fin.now rc (.int _)⟩
  · split at hf
    · cases hf
      cases d_str rc hx ha; cases d_str rc hy hb
      exact op_add_str pins s σ H _ _ v u Q I rx ry ⟨_, _, rfl, rfl, by assumption, fin.now rc (.str _)⟩
    · cases hf
  · split at hf
    · cases hf
      obtain ⟨p, vs, rfl, h1, r1⟩ := d_lst rc hx ha
      obtain ⟨q, us, rfl, h2, r2⟩ := d_lst rc hy hb
      exact op_cat pins s σ H _ _ v u Q I rx ry ⟨_, _, _, _, rfl, rfl, h1, h2, by rw [r1.length, r2.length]; assumption, fun p hp => fin.lst rc (r1.append r2) hp⟩
    · cases hf
  · split at hf
    · cases hf
      obtain ⟨p, vs, rfl, h1, r1⟩ := d_tup rc hx ha
      obtain ⟨q, us, rfl, h2, r2⟩ := d_tup rc hy hb
      refine op_catA pins s σ H _ _ v u Q I rx ry ⟨_, _, _, _, rfl, rfl, h1, h2, by rw [r1.length, r2.length]; assumption, fun e => ?_, fun _ e => ?_, fun _ _ p hp => fin.tup rc (r1.append r2) hp⟩
      · subst e; cases r1
        have := dat_rt rc hy hb
        cases wy with
        | d z => simp [dat] at hb; subst hb; exact fin.now rc hy
        | c k => simp only [dat] at hb; split at hb <;> (try cases hb) <;> (rename_i q _; cases q' : datAll _ <;> rw [q'] at hb <;> cases hb)
      · subst e; cases r2
        rw [List.append_nil] at fin
        cases wx with
        | d z => simp [dat] at ha; subst ha; exact fin.now rc hx
        | c k => simp only [dat] at ha; split at ha <;> (try cases ha) <;> (rename_i q _; cases q' : datAll _ <;> rw [q'] at ha <;> cases ha)
    · cases hf
  · cases hf
theorem o_sub : OpR X (binaryOp .Sub) (rP2 X.K X.mg (two fSub)) := by
  intro pins s σ H x y v u Q I rx ry ⟨ce, A, F, wx, wy, d, rc, hx, hy, ho, fin⟩
  obtain ⟨a, b, ha, hb, hf⟩ := two_some ho
  unfold fSub at hf
  split at hf
  · cases hf
    cases d_int rc hx ha; cases d_int rc hy hb
    exact op_sub pins s σ H _ _ v u Q I rx ry ⟨_, _, rfl, rfl, fin.now rc (.int _)⟩
  · cases hf
theorem o_mul : OpR X (binaryOp .Mult) (rP2 X.K X.mg (two fMul)) := by
  intro pins s σ H x y v u Q I rx ry ⟨ce, A, F, wx, wy, d, rc, hx, hy, ho, fin⟩
  obtain ⟨a, b, ha, hb, hf⟩ := two_some ho
  unfold fMul at hf
  split at hf
  · split at hf
    · cases hf
      cases d_int rc hx ha; cases d_int rc hy hb
      exact op_mul pins s σ H _ _ v u Q I rx ry ⟨_, _, rfl, rfl, by assumption, fin.now rc (.int _)⟩
    · cases hf
  · split at hf
    · rename_i hc
      cases hf
      cases d_int rc hy hb
      obtain ⟨p, vs, rfl, h1, r1⟩ := d_lst rc hx ha
      exact op_rep pins s σ H _ _ v u Q I rx ry ⟨_, _, _, rfl, rfl, h1, hc.1, hc.2.1, by rw [r1.length]; exact hc.2.2, fun p hp => fin.lst rc (r1.rep _) hp⟩
    · cases hf
  · split at hf
    · rename_i hc
      cases hf
      cases d_int rc hy hb
      rename_i a0 k0
      by_cases hk1 : k0 = 1
      · subst hk1
        have hr := r_tup (ce := ce) hx ha
        obtain ⟨p, vs, rfl, h1, r1⟩ := d_tup rc hx ha
        have e1 : (List.replicate (1 : Int).toNat a0).flatten = a0 := by simp
        rw [e1] at fin
        exact op_repT1 pins s σ H _ _ v u Q I rx ry ⟨_, _, rfl, rfl, h1, fin.now rc hr⟩
      · obtain ⟨p, vs, rfl, h1, r1⟩ := d_tup rc hx ha
        refine op_repT pins s σ H _ _ v u Q I rx ry ⟨_, _, _, rfl, rfl, h1, ?_, by have := hc.2.1; omega, hc.2.2.1, by rw [r1.length]; exact hc.2.2.2, fun p hp => fin.tup rc (r1.rep _) hp⟩
        intro e; subst e; cases r1; exact hc.1 rfl
    · cases hf
  · cases hf
theorem o_div : OpR X (binaryOp .FloorDiv) (rP2 X.K X.mg (two fDiv)) := by
  intro pins s σ H x y v u Q I rx ry ⟨ce, A, F, wx, wy, d, rc, hx, hy, ho, fin⟩
  obtain ⟨a, b, ha, hb, hf⟩ := two_some ho
  unfold fDiv at hf
  split at hf
  · split at hf
    · cases hf
      cases d_int rc hx ha; cases d_int rc hy hb
      exact op_fdiv pins s σ H _ _ v u Q I rx ry ⟨_, _, rfl, rfl, by assumption, fin.now rc (.int _)⟩
    · cases hf
  · cases hf
theorem o_mod : OpR X (binaryOp .Mod) (rP2 X.K X.mg (two fMod)) := by
  intro pins s σ H x y v u Q I rx ry ⟨ce, A, F, wx, wy, d, rc, hx, hy, ho, fin⟩
  obtain ⟨a, b, ha, hb, hf⟩ := two_some ho
  unfold fMod at hf
  split at hf
  · split at hf
    · cases hf
      cases d_int rc hx ha; cases d_int rc hy hb
      exact op_mod pins s σ H _ _ v u Q I rx ry ⟨_, _, rfl, rfl, by assumption, fin.now rc (.int _)⟩
    · cases hf
  · cases hf
theorem o_pow : OpR X (binaryOp .Pow) (rP2 X.K X.mg (two fPow)) := by
  intro pins s σ H x y v u Q I rx ry ⟨ce, A, F, wx, wy, d, rc, hx, hy, ho, fin⟩
  obtain ⟨a, b, ha, hb, hf⟩ := two_some ho
  unfold fPow at hf
  split at hf
  · split at hf
    · cases hf
      cases d_int rc hx ha; cases d_int rc hy hb
      exact op_pow pins s σ H _ _ v u Q I rx ry ⟨_, _, rfl, rfl, by assumption, fin.now rc (.int _)⟩
    · cases hf
  · cases hf
theorem cmp_of {op : CmpOp} {f : D → D → Option D} {g : Int → Int → Bool} (hf : ∀ a b d, f a b = some d → ∃ i j, a = .int i ∧ b = .int j ∧ d = .bl (g i j)) (h : OpR X (compareOp op) (rI0 fun i j => .bl (g i j))) : OpR X (compareOp op) (rP2 X.K X.mg (two f)) := by
  intro pins s σ H x y v u Q I rx ry ⟨ce, A, F, wx, wy, d, rc, hx, hy, ho, fin⟩
  obtain ⟨a, b, ha, hb, hf'⟩ := two_some ho
  obtain ⟨i, j, rfl, rfl, rfl⟩ := hf a b d hf'
  cases d_int rc hx ha; cases d_int rc hy hb
  exact h pins s σ H _ _ v u Q I rx ry ⟨_, _, rfl, rfl, fin.now rc (.bl _)⟩
theorem o_lt : OpR X (compareOp .Lt) (rP2 X.K X.mg (two fLt)) := cmp_of (fun a b d h => by unfold fLt at h; split at h <;> cases h; exact ⟨_, _, rfl, rfl, rfl⟩) op_lt
theorem o_le : OpR X (compareOp .LtE) (rP2 X.K X.mg (two fLe)) := cmp_of (fun a b d h => by unfold fLe at h; split at h <;> cases h; exact ⟨_, _, rfl, rfl, rfl⟩) op_le
theorem o_gt : OpR X (compareOp .Gt) (rP2 X.K X.mg (two fGt)) := cmp_of (fun a b d h => by unfold fGt at h; split at h <;> cases h; exact ⟨_, _, rfl, rfl, rfl⟩) op_gt
theorem o_ge : OpR X (compareOp .GtE) (rP2 X.K X.mg (two fGe)) := cmp_of (fun a b d h => by unfold fGe at h; split at h <;> cases h; exact ⟨_, _, rfl, rfl, rfl⟩) op_ge
end
/-! ### equality, at any depth -/
mutual
def pyD : D → Option PyData
  | .non => some .none
  | .bl b => some (.bool b)
  | .int i => some (.int i)
  | .str x => some (.str x)
  | .lst ds => (pyDs ds).map .list
  | .tup ds => (pyDs ds).map .tuple
  | _ => none
def pyDs : List D → Option (List PyData)
  | [] => some []
  | d :: ds => match pyD d, pyDs ds with
    | some a, some b => some (a :: b)
    | _, _ => none
end
def fEqD (a b : D) : Option D := match pyD a, pyD b with
  | some p, some q => if SeqAt.shaped p = true ∧ SeqAt.shaped q = true then some (.bl (PyData.eqv p q)) else none
  | _, _ => none
def fNeD (a b : D) : Option D := match pyD a, pyD b with
  | some p, some q => if SeqAt.shaped p = true ∧ SeqAt.shaped q = true then some (.bl (!PyData.eqv p q)) else none
  | _, _ => none
def fEq : D → D → Option D
  | .int i, .int j => some (.bl (i == j))
  | .str i, .str j => some (.bl (i == j))
  | a, b => fEqD a b
def fNe : D → D → Option D
  | .int i, .int j => some (.bl (!(i == j)))
  | .str i, .str j => some (.bl (!(i == j)))
  | a, b => fNeD a b
section
variable {K : PySem.W.Frag} {mg : Str → Option Value} {F H : Hp}
mutual
theorem R.dp : ∀ {d : D} {v : V} {p : PyData}, R K mg H v d → pyD d = some p → Dp K H v p
  | .non, _, _, h, e => by cases h; simp [pyD] at e; subst e; exact .non
  | .bl _, _, _, h, e => by cases h; simp [pyD] at e; subst e; exact .bl _
  | .int _, _, _, h, e => by cases h; simp [pyD] at e; subst e; exact .int _
  | .str _, _, _, h, e => by cases h; simp [pyD] at e; subst e; exact .str _
  | .lst ds, _, _, h, e => by
    cases h with
    | lst h1 h2 =>
      simp only [pyD] at e
      cases q : pyDs ds with
      | none => rw [q] at e; cases e
      | some ps => rw [q] at e; cases e; exact .lst (SqL.of h1) (RAll.dp h2 q)
  | .tup ds, _, _, h, e => by
    cases h with
    | tup h1 h2 =>
      simp only [pyD] at e
      cases q : pyDs ds with
      | none => rw [q] at e; cases e
      | some ps => rw [q] at e; cases e; exact .tup h1 (RAll.dp h2 q)
  | .ty _, _, _, _, e => by simp [pyD] at e
  | .glob _, _, _, _, e => by simp [pyD] at e
  | .scr _, _, _, _, e => by simp [pyD] at e
  | .dic _ _, _, _, _, e => by simp [pyD] at e
  | .ins _ _ _, _, _, _, e => by simp [pyD] at e
theorem RAll.dp : ∀ {ds : List D} {vs : List V} {ps : List PyData}, RAll K mg H vs ds → pyDs ds = some ps → DpAll K H vs ps
  | [], _, _, h, e => by cases h; simp [pyDs] at e; subst e; exact .nil
  | d :: ds, _, _, h, e => by
    cases h with
    | cons h1 h2 =>
      simp only [pyDs] at e
      cases q : pyD d with
      | none => rw [q] at e; cases e
      | some p =>
        cases q2 : pyDs ds with
        | none => rw [q, q2] at e; cases e
        | some ps => rw [q, q2] at e; cases e; exact .cons (R.dp h1 q) (RAll.dp h2 q2)
end
end
section
variable {X : Cx}
theorem o_eq (hu : X.A.units + 64 < cLine) : OpR X (compareOp .Eq) (rP2 X.K X.mg (two fEq)) := by
  intro pins s σ H x y v u Q I rx ry ⟨ce, A, F, wx, wy, d, rc, hx, hy, ho, fin⟩
  obtain ⟨a, b, ha, hb, hf⟩ := two_some ho
  unfold fEq at hf
  split at hf
  · rename_i i j
    cases hf
    cases d_int rc hx ha; cases d_int rc hy hb
    exact op_eq pins s σ H _ _ v u Q I rx ry ⟨rfl, by rw [dec_int]; exact fin.now rc (.bl _)⟩
  · rename_i i j
    cases hf
    cases d_str rc hx ha; cases d_str rc hy hb
    exact op_eq pins s σ H _ _ v u Q I rx ry ⟨rfl, by rw [dec_str]; exact fin.now rc (.bl _)⟩
  · unfold fEqD at hf
    split at hf
    · rename_i p q hp hq
      split at hf
      · rename_i hs
        cases hf
        exact op_eqD hu pins s σ H _ _ v u Q I rx ry ⟨p, q, R.dp ((dat_rt rc hx ha).r rc.ex) hp, R.dp ((dat_rt rc hy hb).r rc.ex) hq, hs.1, hs.2, fin.now rc (.bl _)⟩
      · cases hf
    · cases hf
theorem o_ne (hu : X.A.units + 64 < cLine) : OpR X (compareOp .NotEq) (rP2 X.K X.mg (two fNe)) := by
  intro pins s σ H x y v u Q I rx ry ⟨ce, A, F, wx, wy, d, rc, hx, hy, ho, fin⟩
  obtain ⟨a, b, ha, hb, hf⟩ := two_some ho
  unfold fNe at hf
  split at hf
  · rename_i i j
    cases hf
    cases d_int rc hx ha; cases d_int rc hy hb
    exact op_ne pins s σ H _ _ v u Q I rx ry ⟨rfl, by rw [dec_int]; exact fin.now rc (.bl _)⟩
  · rename_i i j
    cases hf
    cases d_str rc hx ha; cases d_str rc hy hb
    exact op_ne pins s σ H _ _ v u Q I rx ry ⟨rfl, by rw [dec_str]; exact fin.now rc (.bl _)⟩
  · unfold fNeD at hf
    split at hf
    · rename_i p q hp hq
      split at hf
      · rename_i hs
        cases hf
        exact op_neD hu pins s σ H _ _ v u Q I rx ry ⟨p, q, R.dp ((dat_rt rc hx ha).r rc.ex) hp, R.dp ((dat_rt rc hy hb).r rc.ex) hq, hs.1, hs.2, fin.now rc (.bl _)⟩
      · cases hf
    · cases hf
end
/-- in, not in -/
def inY (neg : Bool) (qs : List PyData) (p : PyData) : D := .bl (if neg then !qs.any (fun z => PyData.eqv z p) else qs.any fun z => PyData.eqv z p)
def fInY (neg : Bool) (p : PyData) : PyData → Option D
  | .list qs => if SeqAt.shaped p = true ∧ SeqAt.shaped (.list qs) = true then some (inY neg qs p) else none
  | .tuple qs => if SeqAt.shaped p = true ∧ SeqAt.shaped (.tuple qs) = true then some (inY neg qs p) else none
  | .str z => match p with
    | .str ⟨⟨[c]⟩⟩ => if neg then none else some (.bl (decide (c ∈ z.cps.toList)))
    | _ => none
  | _ => none
def fIn (neg : Bool) (a b : D) : Option D := match pyD a, pyD b with
  | some p, some q => fInY neg p q
  | _, _ => none
section
variable {X : Cx}
theorem op_inT (hu : X.A.units + 65 < cLine) : OpR X (compareOp .In) (fun x y H Q => ∃ d ds, Dp X.K H x d ∧ Dp X.K H y (.tuple ds) ∧ SeqAt.shaped d = true ∧ SeqAt.shaped (.tuple ds) = true ∧ Q (.bl (ds.any fun z => PyData.eqv z d)) H) := by
  rintro pins s σ H x y v u Q I rx ry ⟨d, ds, hd, he, sd, se, q⟩
  obtain ⟨as, r1⟩ := Dp.reads I d x v hd rx
  obtain ⟨bs, r2⟩ := Dp.reads I (.tuple ds) y u he ry
  exact SeqAt.in_tuple_reads r2 r1 (SeqAt.canLay_of_shaped se) (SeqAt.canLay_of_shaped sd) (room_in_shaped sd hu) ⟨.bl _, H, I, rfl, q⟩
theorem op_notInT (hu : X.A.units + 65 < cLine) : OpR X (compareOp .NotIn) (fun x y H Q => ∃ d ds, Dp X.K H x d ∧ Dp X.K H y (.tuple ds) ∧ SeqAt.shaped d = true ∧ SeqAt.shaped (.tuple ds) = true ∧ Q (.bl (!ds.any fun z => PyData.eqv z d)) H) := by
  rintro pins s σ H x y v u Q I rx ry ⟨d, ds, hd, he, sd, se, q⟩
  obtain ⟨as, r1⟩ := Dp.reads I d x v hd rx
  obtain ⟨bs, r2⟩ := Dp.reads I (.tuple ds) y u he ry
  exact SeqAt.notIn_tuple_reads r2 r1 (SeqAt.canLay_of_shaped se) (SeqAt.canLay_of_shaped sd) (room_in_shaped sd hu) ⟨.bl _, H, I, rfl, q⟩
theorem o_in (hu : X.A.units + 65 < cLine) : OpR X (compareOp .In) (rP2 X.K X.mg (two (fIn false))) := by
  intro pins s σ H x y v u Q I rx ry ⟨ce, A, F, wx, wy, d, rc, hx, hy, ho, fin⟩
  obtain ⟨a, b, ha, hb, hf⟩ := two_some ho
  unfold fIn at hf
  split at hf
  · rename_i p q hp hq
    have d1 := R.dp ((dat_rt rc hx ha).r rc.ex) hp
    have d2 := R.dp ((dat_rt rc hy hb).r rc.ex) hq
    unfold fInY at hf
    split at hf
    · split at hf
      · rename_i hs
        cases hf
        exact op_inD hu pins s σ H _ _ v u Q I rx ry ⟨p, _, d1, d2, hs.1, hs.2, fin.now rc (.bl _)⟩
      · cases hf
    · split at hf
      · rename_i hs
        cases hf
        exact op_inT hu pins s σ H _ _ v u Q I rx ry ⟨p, _, d1, d2, hs.1, hs.2, fin.now rc (.bl _)⟩
      · cases hf
    · split at hf
      · rename_i z c
        cases hf
        cases d1; cases d2
        exact op_in_sign pins s σ H _ _ v u Q I rx ry ⟨_, _, rfl, rfl, fin.now rc (.bl _)⟩
      · cases hf
    · cases hf
  · cases hf
theorem o_notIn (hu : X.A.units + 65 < cLine) : OpR X (compareOp .NotIn) (rP2 X.K X.mg (two (fIn true))) := by
  intro pins s σ H x y v u Q I rx ry ⟨ce, A, F, wx, wy, d, rc, hx, hy, ho, fin⟩
  obtain ⟨a, b, ha, hb, hf⟩ := two_some ho
  unfold fIn at hf
  split at hf
  · rename_i p q hp hq
    have d1 := R.dp ((dat_rt rc hx ha).r rc.ex) hp
    have d2 := R.dp ((dat_rt rc hy hb).r rc.ex) hq
    unfold fInY at hf
    split at hf
    · split at hf
      · rename_i hs
        cases hf
        exact op_notInD hu pins s σ H _ _ v u Q I rx ry ⟨p, _, d1, d2, hs.1, hs.2, fin.now rc (.bl _)⟩
      · cases hf
    · split at hf
      · rename_i hs
        cases hf
        exact op_notInT hu pins s σ H _ _ v u Q I rx ry ⟨p, _, d1, d2, hs.1, hs.2, fin.now rc (.bl _)⟩
      · cases hf
    · split at hf
      · cases hf
      · cases hf
    · cases hf
  · cases hf
end
end VL

set_option maxHeartbeats 4000000
namespace VL
open PySem PySem.Spec PyProof.Rows L2

/-! ### built-in calls of one argument, by its data -/
def one (f : D → Option D) : PN := fun ce ws => match ws with
  | [w] => (dat ce w).bind f
  | _ => none
@[simp] theorem one_d {f : D → Option D} {ce : List (Option Cell)} {a : D} : one f ce [.d a] = f a := rfl
def fLen : D → Option D
  | .str x => if x.length ≤ sizeLine then some (.int (x.length : Nat)) else none
  | .lst ds => some (.int (ds.length : Nat))
  | .tup ds => some (.int (ds.length : Nat))
  | .scr ns => some (.int (ns.length : Nat))
  | _ => none
def fInt : D → Option D
  | .int i => some (.int i)
  | .bl b => some (.int (if b then 1 else 0))
  | _ => none
def fList : D → Option D
  | .lst ds => some (.lst ds)
  | .tup ds => some (.lst ds)
  | .scr ns => some (.lst (ns.map .int))
  | _ => none
def fTuple : D → Option D
  | .lst ds => some (.tup ds)
  | .tup ds => some (.tup ds)
  | _ => none
def bls : List D → Option (List Bool)
  | [] => some []
  | .bl b :: r => (bls r).map (b :: ·)
  | _ => none
def intsD : List D → Option (List Int)
  | [] => some []
  | .int b :: r => (intsD r).map (b :: ·)
  | _ => none
def fAll : D → Option D
  | .lst ds => (bls ds).map fun bs => .bl (bs.all id)
  | _ => none
def fAny : D → Option D
  | .lst ds => (bls ds).map fun bs => .bl (bs.any id)
  | _ => none
def fSum : D → Option D
  | .lst ds => (intsD ds).map fun ns => .int ns.sum
  | .scr ns => some (.int ns.sum)
  | _ => none
def fMaxL : D → Option D
  | .tup ds => match intsD ds with
    | some (n :: ns) => some (.int (ns.foldl max n))
    | _ => none
  | .lst ds => match intsD ds with
    | some (n :: ns) => some (.int (ns.foldl max n))
    | _ => none
  | _ => none
def fMinL : D → Option D
  | .tup ds => match intsD ds with
    | some (n :: ns) => some (.int (ns.foldl min n))
    | _ => none
  | .lst ds => match intsD ds with
    | some (n :: ns) => some (.int (ns.foldl min n))
    | _ => none
  | _ => none
def fAbs : D → Option D
  | .int i => some (.int (if i < 0 then -i else i))
  | _ => none
def twoN (f : D → D → Option D) : PN := fun ce ws => match ws with
  | [x, y] => two f ce x y
  | _ => none
@[simp] theorem twoN_d {f : D → D → Option D} {ce : List (Option Cell)} {a b : D} : twoN f ce [.d a, .d b] = f a b := rfl
def fMax2 : D → D → Option D
  | .int i, .int j => some (.int (if j > i then j else i))
  | _, _ => none
def fMin2 : D → D → Option D
  | .int i, .int j => some (.int (if j < i then j else i))
  | _, _ => none
section
variable {K : PySem.W.Frag} {mg : Str → Option Value} {A : List Addr} {F H : Hp} {ce : List (Option Cell)} {X : Cx}
theorem bls_eq : ∀ {ds : List D} {bs : List Bool}, bls ds = some bs → ds = bs.map .bl
  | [], bs, h => by simp [bls] at h; subst h; rfl
  | d :: ds, bs, h => by
    cases d <;> simp only [bls] at h <;> try (cases h; done)
    cases q : bls ds with
    | none => rw [q] at h; cases h
    | some cs => rw [q] at h; cases h; rw [bls_eq q]; rfl
theorem intsD_eq : ∀ {ds : List D} {bs : List Int}, intsD ds = some bs → ds = bs.map .int
  | [], bs, h => by simp [intsD] at h; subst h; rfl
  | d :: ds, bs, h => by
    cases d <;> simp only [intsD] at h <;> try (cases h; done)
    cases q : intsD ds with
    | none => rw [q] at h; cases h
    | some cs => rw [q] at h; cases h; rw [intsD_eq q]; rfl
@[simp] theorem bls_map (bs : List Bool) : bls (bs.map .bl) = some bs := by
  induction bs with
  | nil => rfl
  | cons b bs ih => simp [bls, ih]
@[simp] theorem intsD_map (bs : List Int) : intsD (bs.map .int) = some bs := by
  induction bs with
  | nil => rfl
  | cons b bs ih => simp [intsD, ih]
theorem RAll.bl : ∀ {bs : List Bool} {vs : List V}, RAll K mg F vs (bs.map .bl) → vs = bs.map V.bl
  | [], _, h => by cases h; rfl
  | b :: bs, _, h => by cases h with | cons h1 h2 => cases h1; rw [RAll.bl h2]; rfl
theorem RAll.int : ∀ {bs : List Int} {vs : List V}, RAll K mg F vs (bs.map .int) → vs = bs.map V.int
  | [], _, h => by cases h; rfl
  | b :: bs, _, h => by cases h with | cons h1 h2 => cases h1; rw [RAll.int h2]; rfl
theorem one_some {f : D → Option D} {ws : List W} {d : D} (h : one f ce ws = some d) : ∃ w a, ws = [w] ∧ dat ce w = some a ∧ f a = some d := by
  unfold one at h
  split at h
  · rename_i w
    cases q : dat ce w with
    | none => rw [q] at h; cases h
    | some a => rw [q] at h; exact ⟨w, a, rfl, q, h⟩
  · cases h
theorem one_vs {vs : List V} {w : W} (h : RWs K mg A F vs [w]) : ∃ v, vs = [v] ∧ RW K mg A F v w := by
  cases h with | cons h1 h2 => cases h2; exact ⟨_, rfl, h1⟩
theorem b_len : CallR X (.builtin "len") (rPN X.K X.mg (one fLen)) := by
  intro pins s σ H xs us Q I r ⟨ce, A, F, ws, d, rc, hx, ho, fin⟩
  obtain ⟨w, a, rfl, ha, hf⟩ := one_some ho
  obtain ⟨v, rfl, hv⟩ := one_vs hx
  unfold fLen at hf
  split at hf
  · split at hf
    · cases hf; cases d_str rc hv ha
      exact call_len pins s σ H _ us Q I r ⟨_, _, rfl, ⟨by assumption, rfl⟩, fin.now rc (.int _)⟩
    · cases hf
  · cases hf
    obtain ⟨p, vs, rfl, h1, r1⟩ := d_lst rc hv ha
    exact call_len pins s σ H _ us Q I r ⟨_, _, rfl, .inl ⟨vs, SqL.of h1, rfl⟩, by rw [r1.length]; exact fin.now rc (.int _)⟩
  · cases hf
    obtain ⟨p, vs, rfl, h1, r1⟩ := d_tup rc hv ha
    exact call_len pins s σ H _ us Q I r ⟨_, _, rfl, .inr ⟨vs, h1, rfl⟩, by rw [r1.length]; exact fin.now rc (.int _)⟩
  · cases hf
    obtain ⟨p, rfl, h1⟩ := d_scr rc hv ha
    exact call_len pins s σ H _ us Q I r ⟨_, _, rfl, .inl ⟨_, h1, rfl⟩, by rw [List.length_map]; exact fin.now rc (.int _)⟩
  · cases hf
theorem b_int : CallR X (.type "int") (rPN X.K X.mg (one fInt)) := by
  intro pins s σ H xs us Q I r ⟨ce, A, F, ws, d, rc, hx, ho, fin⟩
  obtain ⟨w, a, rfl, ha, hf⟩ := one_some ho
  obtain ⟨v, rfl, hv⟩ := one_vs hx
  unfold fInt at hf
  split at hf
  · cases hf; cases d_int rc hv ha
    exact call_int1 pins s σ H _ us Q I r (.inl ⟨_, rfl, fin.now rc (.int _)⟩)
  · cases hf; cases d_bl rc hv ha
    exact call_int1 pins s σ H _ us Q I r (.inr ⟨_, rfl, fin.now rc (.int _)⟩)
  · cases hf
theorem b_list : CallR X (.type "list") (rPN X.K X.mg (one fList)) := by
  intro pins s σ H xs us Q I r ⟨ce, A, F, ws, d, rc, hx, ho, fin⟩
  obtain ⟨w, a, rfl, ha, hf⟩ := one_some ho
  obtain ⟨v, rfl, hv⟩ := one_vs hx
  unfold fList at hf
  split at hf
  · cases hf
    obtain ⟨p, vs, rfl, h1, r1⟩ := d_lst rc hv ha
    exact call_list_of pins s σ H _ us Q I r ⟨p, vs, rfl, .inl (SqL.of h1), fun l hl => fin.lst rc r1 hl⟩
  · cases hf
    obtain ⟨p, vs, rfl, h1, r1⟩ := d_tup rc hv ha
    exact call_list_of pins s σ H _ us Q I r ⟨p, vs, rfl, .inr h1, fun l hl => fin.lst rc r1 hl⟩
  · cases hf
    obtain ⟨p, rfl, h1⟩ := d_scr rc hv ha
    exact call_list_of pins s σ H _ us Q I r ⟨p, _, rfl, .inl h1, fun l hl => fin.lst rc (rall_ints _) hl⟩
  · cases hf
/-- a tuple that is data is frozen -/
theorem tup_in {v : V} {w : W} {ds : List D} (h : RW K mg A F v w) (e : dat ce w = some (.tup ds)) : R K mg F v (.tup ds) := by
  cases w with
  | d z => simp [dat] at e; subst e; exact h
  | c k =>
    simp only [dat] at e
    split at e
    · rename_i ws _; cases q : datAll ws <;> rw [q] at e <;> cases e
    · rename_i ws _; cases q : datAll ws <;> rw [q] at e <;> cases e
    · rename_i ws _; cases q : datAll ws <;> rw [q] at e <;> cases e
    · cases e
theorem b_tuple : CallR X (.type "tuple") (rPN X.K X.mg (one fTuple)) := by
  intro pins s σ H xs us Q I r ⟨ce, A, F, ws, d, rc, hx, ho, fin⟩
  obtain ⟨w, a, rfl, ha, hf⟩ := one_some ho
  obtain ⟨v, rfl, hv⟩ := one_vs hx
  unfold fTuple at hf
  split at hf
  · cases hf
    obtain ⟨p, vs, rfl, h1, r1⟩ := d_lst rc hv ha
    exact call_tuple_of pins s σ H _ us Q I r ⟨p, vs, rfl, .inl ⟨SqL.of h1, fun l hl => fin.tup rc r1 hl⟩⟩
  · cases hf
    have ht := tup_in hv ha
    obtain ⟨p, vs, rfl, h1, r1⟩ := d_tup rc hv ha
    exact call_tuple_of pins s σ H _ us Q I r ⟨p, vs, rfl, .inr ⟨h1, fin.now rc ht⟩⟩
  · cases hf
theorem b_all (hc : X.calm = true) : CallR X (.builtin "all") (rPN X.K X.mg (one fAll)) := by
  intro pins s σ H xs us Q I r ⟨ce, A, F, ws, d, rc, hx, ho, fin⟩
  obtain ⟨w, a, rfl, ha, hf⟩ := one_some ho
  obtain ⟨v, rfl, hv⟩ := one_vs hx
  unfold fAll at hf
  split at hf
  · rename_i ds
    cases q : bls ds with
    | none => rw [q] at hf; cases hf
    | some bs =>
      rw [q] at hf; cases hf
      obtain ⟨p, vs, rfl, h1, r1⟩ := d_lst rc hv ha
      rw [bls_eq q] at r1
      have := RAll.bl r1; subst this
      exact cr_all hc pins s σ H _ us Q I r ⟨p, bs, rfl, SqL.of h1, fin.now rc (.bl _)⟩
  · cases hf
theorem b_any (hc : X.calm = true) : CallR X (.builtin "any") (rPN X.K X.mg (one fAny)) := by
  intro pins s σ H xs us Q I r ⟨ce, A, F, ws, d, rc, hx, ho, fin⟩
  obtain ⟨w, a, rfl, ha, hf⟩ := one_some ho
  obtain ⟨v, rfl, hv⟩ := one_vs hx
  unfold fAny at hf
  split at hf
  · rename_i ds
    cases q : bls ds with
    | none => rw [q] at hf; cases hf
    | some bs =>
      rw [q] at hf; cases hf
      obtain ⟨p, vs, rfl, h1, r1⟩ := d_lst rc hv ha
      rw [bls_eq q] at r1
      have := RAll.bl r1; subst this
      exact cr_any hc pins s σ H _ us Q I r ⟨p, bs, rfl, SqL.of h1, fin.now rc (.bl _)⟩
  · cases hf
theorem b_sum (hc : X.calm = true) : CallR X (.builtin "sum") (rPN X.K X.mg (one fSum)) := by
  intro pins s σ H xs us Q I r ⟨ce, A, F, ws, d, rc, hx, ho, fin⟩
  obtain ⟨w, a, rfl, ha, hf⟩ := one_some ho
  obtain ⟨v, rfl, hv⟩ := one_vs hx
  unfold fSum at hf
  split at hf
  · rename_i ds
    cases q : intsD ds with
    | none => rw [q] at hf; cases hf
    | some bs =>
      rw [q] at hf; cases hf
      obtain ⟨p, vs, rfl, h1, r1⟩ := d_lst rc hv ha
      rw [intsD_eq q] at r1
      have := RAll.int r1; subst this
      exact cr_sum hc pins s σ H _ us Q I r ⟨p, bs, rfl, SqL.of h1, fin.now rc (.int _)⟩
  · cases hf
    obtain ⟨p, rfl, h1⟩ := d_scr rc hv ha
    exact cr_sum hc pins s σ H _ us Q I r ⟨p, _, rfl, h1, fin.now rc (.int _)⟩
  · cases hf
theorem foldl_max (ns : List Int) : ∀ n, (∀ y ∈ n :: ns, y ≤ ns.foldl max n) ∧ ns.foldl max n ∈ n :: ns := by
  induction ns with
  | nil => intro n; simp
  | cons m ns ih =>
    intro n
    obtain ⟨h1, h2⟩ := ih (max n m)
    simp only [List.foldl_cons]
    refine ⟨fun y hy => ?_, ?_⟩
    · have h0 := h1 (max n m) (by simp)
      rcases List.mem_cons.mp hy with e | hy
      · subst e; omega
      rcases List.mem_cons.mp hy with e | hy
      · subst e; omega
      · exact h1 y (by simp [hy])
    · rcases List.mem_cons.mp h2 with e | h2
      · rw [e]; rcases Int.le_total n m with h | h
        · rw [Int.max_eq_right h]; simp
        · rw [Int.max_eq_left h]; simp
      · simp [h2]
theorem foldl_min (ns : List Int) : ∀ n, (∀ y ∈ n :: ns, ns.foldl min n ≤ y) ∧ ns.foldl min n ∈ n :: ns := by
  induction ns with
  | nil => intro n; simp
  | cons m ns ih =>
    intro n
    obtain ⟨h1, h2⟩ := ih (min n m)
    simp only [List.foldl_cons]
    refine ⟨fun y hy => ?_, ?_⟩
    · have h0 := h1 (min n m) (by simp)
      rcases List.mem_cons.mp hy with e | hy
      · subst e; omega
      rcases List.mem_cons.mp hy with e | hy
      · subst e; omega
      · exact h1 y (by simp [hy])
    · rcases List.mem_cons.mp h2 with e | h2
      · rw [e]; rcases Int.le_total n m with h | h
        · rw [Int.min_eq_left h]; simp
        · rw [Int.min_eq_right h]; simp
      · simp [h2]
/-- max, min: of one list, or of two intsD -/
def fMaxN : PN := fun ce ws => match ws with
  | [_] => one fMaxL ce ws
  | _ => twoN fMax2 ce ws
def fMinN : PN := fun ce ws => match ws with
  | [_] => one fMinL ce ws
  | _ => twoN fMin2 ce ws
@[simp] theorem fMaxN_1 {a : D} : fMaxN ce [.d a] = fMaxL a := rfl
@[simp] theorem fMaxN_2 {a b : D} : fMaxN ce [.d a, .d b] = fMax2 a b := rfl
@[simp] theorem fMinN_1 {a : D} : fMinN ce [.d a] = fMinL a := rfl
@[simp] theorem fMinN_2 {a b : D} : fMinN ce [.d a, .d b] = fMin2 a b := rfl
theorem CallR.or {f : Value} {r r' : List V → Hp → VK → Prop} (h : CallR X f r) (h' : CallR X f r') : CallR X f (fun xs H Q => r xs H Q ∨ r' xs H Q) := fun pins s σ H xs us Q I rx q =>
  q.elim (h pins s σ H xs us Q I rx) (h' pins s σ H xs us Q I rx)
theorem dp_ints {K : PySem.W.Frag} {H : Hp} : ∀ ns : List Int, DpAll K H (ns.map V.int) (ns.map PyData.int)
  | [] => .nil
  | n :: ns => .cons (.int n) (dp_ints ns)
theorem depth_ints : ∀ ns : List Int, PyData.depthAll (ns.map PyData.int) ≤ 2
  | [] => by simp [PyData.depthAll]
  | n :: ns => by
    have := depth_ints ns
    simp only [List.map_cons, PyData.depthAll, PyData.depth]
    omega
theorem alike_ints1 (ns : List Int) : PySem.W.AlikeAll (ns.map PyData.int) := ⟨fun x hx y hy => by
  obtain ⟨i, _, rfl⟩ := List.mem_map.mp hx
  obtain ⟨j, _, rfl⟩ := List.mem_map.mp hy
  rfl, fun x hx => by
  obtain ⟨i, _, rfl⟩ := List.mem_map.mp hx
  exact fun h => nomatch h⟩
theorem cr_maxT (hc : X.calm = true) (hu : X.A.units + 198 < cLine) : CallR X (.builtin "max") (fun vs H Q => ∃ a n ns, vs = [V.ref a] ∧ SqT X.K H a (((n :: ns : List Int)).map V.int) ∧ Q (.int (ns.foldl max n)) H) := by
  rintro pins s σ H vs us Q I r ⟨a, n, ns, rfl, hs, q⟩
  obtain ⟨its, rv, ht, _⟩ := I.tuple hs
  rw [Vals.ref1 r]
  obtain ⟨as, hr⟩ := Dp.readsAll I ((n :: ns).map .int) _ its (dp_ints _) rv
  have hd := depth_ints (n :: ns)
  refine PySem.W.max_tuple_data (I.ok.hd hc) ht hr (alike_ints1 (n :: ns)) (by simp only [List.map_cons] at hd; omega) fun i v h' tk bs hv hr' hk => ?_
  rw [PySem.W.maxD_ints] at hr'
  cases hr'
  exact ⟨.int _, H, I.kept hk, ⟨_, rfl⟩, q⟩
theorem cr_minT (hc : X.calm = true) (hu : X.A.units + 198 < cLine) : CallR X (.builtin "min") (fun vs H Q => ∃ a n ns, vs = [V.ref a] ∧ SqT X.K H a (((n :: ns : List Int)).map V.int) ∧ Q (.int (ns.foldl min n)) H) := by
  rintro pins s σ H vs us Q I r ⟨a, n, ns, rfl, hs, q⟩
  obtain ⟨its, rv, ht, _⟩ := I.tuple hs
  rw [Vals.ref1 r]
  obtain ⟨as, hr⟩ := Dp.readsAll I ((n :: ns).map .int) _ its (dp_ints _) rv
  have hd := depth_ints (n :: ns)
  refine PySem.W.min_tuple_data (I.ok.hd hc) ht hr (alike_ints1 (n :: ns)) (by simp only [List.map_cons] at hd; omega) fun i v h' tk bs hv hr' hk => ?_
  rw [PySem.W.minD_ints] at hr'
  cases hr'
  exact ⟨.int _, H, I.kept hk, ⟨_, rfl⟩, q⟩
theorem b_max (hc : X.calm = true) (hu : X.A.units + 198 < cLine) : CallR X (.builtin "max") (rPN X.K X.mg fMaxN) := by
  intro pins s σ H xs us Q I r ⟨ce, A, F, ws, d, rc, hx, ho, fin⟩
  unfold fMaxN at ho
  split at ho
  · obtain ⟨w, a, hw, ha, hf⟩ := one_some ho
    rw [hw] at hx
    obtain ⟨v, rfl, hv⟩ := one_vs hx
    unfold fMaxL at hf
    split at hf
    · rename_i ds
      split at hf
      · rename_i n ns q
        cases hf
        obtain ⟨p, vs, rfl, h1, r1⟩ := d_tup rc hv ha
        rw [intsD_eq q] at r1
        have := RAll.int r1; subst this
        exact cr_maxT hc hu pins s σ H _ us Q I r ⟨p, n, ns, rfl, h1, fin.now rc (.int _)⟩
      · cases hf
    · rename_i ds
      split at hf
      · rename_i n ns q
        cases hf
        obtain ⟨p, vs, rfl, h1, r1⟩ := d_lst rc hv ha
        rw [intsD_eq q] at r1
        have := RAll.int r1; subst this
        refine cr_max hc pins s σ H _ us Q I r ⟨p, n :: ns, rfl, SqL.of h1, by simp, fun m hm hle => ?_⟩
        obtain ⟨f1, f2⟩ := foldl_max ns n
        have : m = ns.foldl max n := Int.le_antisymm (f1 m hm) (hle _ f2)
        rw [this]; exact fin.now rc (.int _)
      · cases hf
    · cases hf
  · unfold twoN at ho
    split at ho
    · rename_i wx wy _
      obtain ⟨a, b, ha, hb, hf⟩ := two_some ho
      unfold fMax2 at hf
      split at hf
      · cases hf
        cases hx with
        | cons h1 h2 => cases h2 with
          | cons h2 h3 =>
            cases h3
            cases d_int rc h1 ha; cases d_int rc h2 hb
            exact call_max2 hc pins s σ H _ us Q I r ⟨_, _, rfl, fin.now rc (.int _)⟩
      · cases hf
    · cases ho
theorem b_min (hc : X.calm = true) (hu : X.A.units + 198 < cLine) : CallR X (.builtin "min") (rPN X.K X.mg fMinN) := by
  intro pins s σ H xs us Q I r ⟨ce, A, F, ws, d, rc, hx, ho, fin⟩
  unfold fMinN at ho
  split at ho
  · obtain ⟨w, a, hw, ha, hf⟩ := one_some ho
    rw [hw] at hx
    obtain ⟨v, rfl, hv⟩ := one_vs hx
    unfold fMinL at hf
    split at hf
    · rename_i ds
      split at hf
      · rename_i n ns q
        cases hf
        obtain ⟨p, vs, rfl, h1, r1⟩ := d_tup rc hv ha
        rw [intsD_eq q] at r1
        have := RAll.int r1; subst this
        exact cr_minT hc hu pins s σ H _ us Q I r ⟨p, n, ns, rfl, h1, fin.now rc (.int _)⟩
      · cases hf
    · rename_i ds
      split at hf
      · rename_i n ns q
        cases hf
        obtain ⟨p, vs, rfl, h1, r1⟩ := d_lst rc hv ha
        rw [intsD_eq q] at r1
        have := RAll.int r1; subst this
        refine cr_min hc pins s σ H _ us Q I r ⟨p, n :: ns, rfl, SqL.of h1, by simp, fun m hm hle => ?_⟩
        obtain ⟨f1, f2⟩ := foldl_min ns n
        have : m = ns.foldl min n := Int.le_antisymm (hle _ f2) (f1 m hm)
        rw [this]; exact fin.now rc (.int _)
      · cases hf
    · cases hf
  · unfold twoN at ho
    split at ho
    · rename_i wx wy _
      obtain ⟨a, b, ha, hb, hf⟩ := two_some ho
      unfold fMin2 at hf
      split at hf
      · cases hf
        cases hx with
        | cons h1 h2 => cases h2 with
          | cons h2 h3 =>
            cases h3
            cases d_int rc h1 ha; cases d_int rc h2 hb
            exact call_min2 hc pins s σ H _ us Q I r ⟨_, _, rfl, fin.now rc (.int _)⟩
      · cases hf
    · cases ho
theorem b_abs : CallR X (.builtin "abs") (rPN X.K X.mg (one fAbs)) := by
  intro pins s σ H xs us Q I r ⟨ce, A, F, ws, d, rc, hx, ho, fin⟩
  obtain ⟨w, a, rfl, ha, hf⟩ := one_some ho
  obtain ⟨v, rfl, hv⟩ := one_vs hx
  unfold fAbs at hf
  split at hf
  · cases hf; cases d_int rc hv ha
    exact call_abs pins s σ H _ us Q I r ⟨_, rfl, fin.now rc (.int _)⟩
  · cases hf
end
end VL

set_option maxHeartbeats 4000000
namespace VL
open PySem PySem.Spec PyProof.Rows L2

/-! ### chains of two comparisons -/
def eChain (o o' : P2) (fa fb fc : S → Out W) (s : S) : Out W := (fa s).bind fun x s1 => (fb s1).bind fun y s2 => match o s2.ce x y with
  | some (.bl true) => (fc s2).bind fun z s3 => opt (o' s3.ce y z) s3
  | some (.bl false) => .ok (.d (.bl false)) s2
  | _ => .bad
section
variable {X : Cx} {W' : WX} {a b c e : Expr} {fa fb fc : S → Out W} {fr : S → Out (List W)} {pos : Pos} {o o' : P2}
theorem ve_chain {op op' : CmpOp} (ho : OpR X (compareOp op) (rP2 X.K X.mg o)) (ho' : OpR X (compareOp op') (rP2 X.K X.mg o')) (ha : VE X W' a fa) (hb : VE X W' b fb) (hc : VE X W' c fc)
    (hm : lastMarks [op, op'] [b, c] = false := by with_unfolding_all rfl) : VE X W' (.Compare a [op, op'] [b, c] pos) (eChain o o' fa fb fc) := PE.imp (pe_chain ho ho' ha hb hc hm) fun σ H Q h => by
  obtain ⟨s, A, F, r, q⟩ := h
  refine ⟨s, A, F, r, PostE.imp (PostE.bind q) fun vx H1 ⟨x, s1, A1, F1, a1, e1, r1, rx, q1⟩ => ?_⟩
  refine ⟨s1, A1, F1, r1, PostE.imp (PostE.bind q1) fun vy H2 ⟨y, s2, A2, F2, a2, e2, r2, ry, q2⟩ => ?_⟩
  cases hk : o s2.ce x y with
  | none => rw [hk] at q2; exact q2.elim
  | some d =>
    rw [hk] at q2
    refine ⟨s2.ce, A2, F2, x, y, d, r2.cs, rx.mono a2 e2, ry, hk, fun F3 H3 v e3 c3 hv => ?_⟩
    have r3 := r2.slots e3 c3
    split at q2
    · rename_i hd; cases hd; cases hv
      refine ⟨true, rfl, ?_⟩
      rw [if_pos rfl]
      refine ⟨s2, A2, F3, r3, PostE.imp (PostE.bind (PostE.later q2 (List.prefix_refl _) e3)) fun vz H4 ⟨z, s4, A4, F4, a4, e4, r4, rz, q4⟩ => ?_⟩
      cases hk' : o' s4.ce y z with
      | none => rw [hk'] at q4; exact q4.elim
      | some d =>
        rw [hk'] at q4
        exact ⟨s4.ce, A4, F4, y, z, d, r4.cs, ry.mono a4 (e3.trans e4), rz, hk', fun F5 H5 v e5 c5 h5 => q4 A4 F5 H5 v (List.prefix_refl _) e5 (r4.slots e5 c5) h5⟩
    · rename_i hd; cases hd; cases hv
      refine ⟨false, rfl, ?_⟩
      rw [if_neg Bool.false_ne_true]
      exact q2 A2 F3 H3 _ (List.prefix_refl _) e3 r3 (.bl false)
    · exact q2.elim
end
/-- a comparison in a test -/
def bOf (fa : S → Out W) (s : S) : Out Bool := (fa s).bind fun w s1 => match w with
  | .d (.bl b) => .ok b s1
  | _ => .bad
section
variable {X : Cx} {W' : WX} {a b c e : Expr} {fa fb fc : S → Out W} {pos : Pos} {o o' : P2}
theorem bOf_imp {t : TE} {fa : S → Out W} {σ : L2.St} {H : Hp} {Q : Bool → Hp → Prop} (k : ∀ σ H Q, tE X.K X.mg W' fa σ H Q → t σ H Q) (h : tT X.K X.mg W' (bOf fa) σ H Q) : tTest t σ H Q := by
  obtain ⟨s, A, F, r, q⟩ := h
  refine k _ _ _ ⟨s, A, F, r, PostE.imp (PostE.bindT q) fun vx H1 ⟨x, s1, A1, F1, a1, e1, r1, rx, q1⟩ => ?_⟩
  split at q1
  · cases rx; exact ⟨_, rfl, q1 A1 F1 H1 (List.prefix_refl _) (Ex.refl _) r1⟩
  · exact q1.elim
theorem vt_cmp {op : CmpOp} (ho : OpR X (compareOp op) (rP2 X.K X.mg o)) (ha : VE X W' a fa) (hb : VE X W' b fb) (hm : behindInMarks op b = false := by first | exact nomark _ | rfl) : VT X W' (.Compare a [op] [b] pos) (bOf (eOp2 o fa fb)) :=
  PT.imp (pt_cmpR ho ha hb hm) fun _ _ _ h => bOf_imp (fun _ _ _ q => op2_imp q) h
end
/-! ### minus -/
def fNeg : D → Option D
  | .int i => some (.int (-i))
  | _ => none
def un (f : D → Option D) : List (Option Cell) → W → Option D := fun ce w => (dat ce w).bind f
@[simp] theorem un_d {f : D → Option D} {ce : List (Option Cell)} {a : D} : un f ce (.d a) = f a := rfl
section
variable {X : Cx} {W' : WX} {a : Expr} {fa : S → Out W} {pos : Pos}
theorem pe_un1 {op : UnaryOp} {t : V → Hp → VK → Prop} (hu : UnR X (unaryOp op) t) (ha : VE X W' a fa) (h : ∀ te, PE X a te → PE X (.UnaryOp op a pos) (tUn t te)) : PE X (.UnaryOp op a pos) (tUn t (tE X.K X.mg W' fa)) := h _ ha
theorem ve_neg (ha : VE X W' a fa) (h : ∀ te, PE X a te → PE X (.UnaryOp .USub a pos) (tUn (rU fun i => .int (-i)) te)) : VE X W' (.UnaryOp .USub a pos) (eOp1 (un fNeg) fa) := PE.imp (h _ ha) fun σ H Q q => by
  obtain ⟨s, A, F, r, q⟩ := q
  refine ⟨s, A, F, r, PostE.imp (PostE.bind q) fun vx H1 ⟨x, s1, A1, F1, a1, e1, r1, rx, q1⟩ => ?_⟩
  unfold un at q1
  cases hd : dat s1.ce x with
  | none => rw [hd] at q1; exact q1.elim
  | some d =>
    rw [hd] at q1
    cases d with
    | int i =>
      cases d_int r1.cs rx hd
      exact ⟨i, rfl, q1 A1 F1 H1 _ (List.prefix_refl _) (Ex.refl _) r1 (.int _)⟩
    | _ => exact q1.elim
end
/-! ### items -/
/-- the item of a list, a tuple, a text -/
def ixD (i : Int) : D → Option D
  | .lst ds => atI ds i
  | .tup ds => atI ds i
  | .scr ns => (atI ns i).map .int
  | .str z => if z.length ≤ sizeLine then (atI z.cps.toList i).map fun c => .str ⟨#[c]⟩ else none
  | _ => none
def ixW (ce : List (Option Cell)) (x y : W) : Option W := match y with
  | .d (.int i) => match x with
    | .d d => (ixD i d).map .d
    | .c k => match ce[k]? with
      | some (some (.lst ws)) => atI ws i
      | _ => none
  | _ => none
def eIx (fa fb : S → Out W) (s : S) : Out W := (fa s).bind fun x s1 => (fb s1).bind fun y s2 => match ixW s2.ce x y with
  | some w => .ok w s2
  | none => .bad
def rIxW (K : PySem.W.Frag) (mg : Str → Option Value) : R2 := fun vx vy H Q => ∃ ce A F x y w, RelC K mg A F ce H ∧ RW K mg A F vx x ∧ RW K mg A F vy y ∧ ixW ce x y = some w ∧ ∀ v, RW K mg A F v w → Q v H
section
variable {K : PySem.W.Frag} {mg : Str → Option Value} {A : List Addr} {F H : Hp} {X : Cx}
theorem atI_map {α β : Type} (f : α → β) (xs : List α) (i : Int) : atI (xs.map f) i = (atI xs i).map f := by
  unfold atI
  rw [List.length_map]
  cases ixN xs.length i with
  | none => rfl
  | some j => simp
theorem RAll.at {vs : List V} {ds : List D} (h : RAll K mg F vs ds) {i : Int} {d : D} (e : atI ds i = some d) : ∃ v, atI vs i = some v ∧ R K mg F v d := by
  unfold atI at e ⊢
  rw [h.length]
  cases q : ixN ds.length i with
  | none => rw [q] at e; cases e
  | some j => rw [q] at e; exact h.get e
theorem RWs.at {vs : List V} {ds : List W} (h : RWs K mg A F vs ds) {i : Int} {d : W} (e : atI ds i = some d) : ∃ v, atI vs i = some v ∧ RW K mg A F v d := by
  unfold atI at e ⊢
  rw [h.length]
  cases q : ixN ds.length i with
  | none => rw [q] at e; cases e
  | some j => rw [q] at e; exact h.get e
theorem x_ix : IxR X (rIxW X.K X.mg) := by
  intro value slice pins s σ H x y v u Q I rx ry h hs
  obtain ⟨ce, A, F, wx, wy, w, rc, hx, hy, ho, fin⟩ := h
  unfold ixW at ho
  split at ho
  · rename_i i
    cases hy
    split at ho
    · rename_i d
      cases hd : ixD i d with
      | none => rw [hd] at ho; cases ho
      | some d' =>
        rw [hd] at ho; cases ho
        unfold ixD at hd
        split at hd
        · obtain ⟨p, vs, rfl, h1, r1⟩ := d_lst (ce := ce) rc hx rfl
          obtain ⟨z, q1, q2⟩ := r1.at hd
          exact ix_list value slice pins s σ H _ _ v u Q I rx ry ⟨p, vs, i, z, rfl, rfl, SqL.of h1, q1, fin z q2⟩ hs
        · obtain ⟨p, vs, rfl, h1, r1⟩ := d_tup (ce := ce) rc hx rfl
          obtain ⟨z, q1, q2⟩ := r1.at hd
          exact ix_tup value slice pins s σ H _ _ v u Q I rx ry ⟨p, vs, i, z, rfl, rfl, h1, q1, fin z q2⟩ hs
        · rename_i ns
          obtain ⟨p, rfl, h1⟩ := d_scr (ce := ce) rc hx rfl
          cases hn : atI ns i with
          | none => rw [hn] at hd; cases hd
          | some n =>
            rw [hn] at hd; cases hd
            exact ix_list value slice pins s σ H _ _ v u Q I rx ry ⟨p, _, i, .int n, rfl, rfl, h1, by rw [atI_map, hn]; rfl, fin _ (.int n)⟩ hs
        · rename_i z
          split at hd
          · cases hn : atI z.cps.toList i with
            | none => rw [hn] at hd; cases hd
            | some c =>
              rw [hn] at hd; cases hd
              cases hx
              exact ix_str value slice pins s σ H _ _ v u Q I rx ry ⟨z, i, c, rfl, rfl, by assumption, hn, fin _ (.str _)⟩ hs
          · cases hd
        · cases hd
    · rename_i k
      split at ho
      · rename_i ws hc
        obtain ⟨a, ha, rfl⟩ := hx
        obtain ⟨b, h1, h2, vs, h3, h4⟩ := rc.cell k _ hc
        rw [ha] at h1; cases h1
        obtain ⟨z, q1, q2⟩ := h4.at ho
        exact ix_list value slice pins s σ H _ _ v u Q I rx ry ⟨a, vs, i, z, rfl, rfl, SqL.of h3, q1, fin z q2⟩ hs
      · cases ho
  · cases ho
end
section
variable {X : Cx} {W' : WX} {a b : Expr} {fa fb : S → Out W} {pos : Pos}
theorem ve_ix (ha : VE X W' a fa) (hb : VE X W' b fb) (hs : PlainIx b := by intro _ _; rfl) : VE X W' (.Subscript a b pos) (eIx fa fb) := PE.imp (pe_ix x_ix ha hb hs) fun σ H Q h => by
  obtain ⟨s, A, F, r, q⟩ := h
  refine ⟨s, A, F, r, PostE.imp (PostE.bind q) fun vx H1 ⟨x, s1, A1, F1, a1, e1, r1, rx, q1⟩ => ?_⟩
  refine ⟨s1, A1, F1, r1, PostE.imp (PostE.bind q1) fun vy H2 ⟨y, s2, A2, F2, a2, e2, r2, ry, q2⟩ => ?_⟩
  cases hk : ixW s2.ce x y with
  | none => rw [hk] at q2; exact q2.elim
  | some w =>
    rw [hk] at q2
    exact ⟨s2.ce, A2, F2, x, y, w, r2.cs, rx.mono a2 e2, ry, hk, fun v hv => q2 A2 F2 H2 v (List.prefix_refl _) (Ex.refl _) r2 hv⟩
end
/-! ### slices -/
def oNone (s : S) : Out (Option Int) := .ok none s
def oSome (fa : S → Out W) (s : S) : Out (Option Int) := (fa s).bind fun w s1 => match w with
  | .d (.int i) => .ok (some i) s1
  | _ => .bad
def cutD {α : Type} (xs : List α) (lo hi : Option Int) : List α := (xs.drop (HT.sIx xs.length 0 lo)).take (HT.sIx xs.length xs.length hi - HT.sIx xs.length 0 lo)
/-! ### t[a:b], the whole: t itself -/
section
variable {prog : Program} {w : World} {A : Around} {E : Value → Shared → Prop} {s : Shared}
theorem tuple_whole {t sl : Addr} {items : Array Value} {vl vu : Value} {lo hi : Option Int} {Q : Value → Shared → Prop} (ht : IsTup s.heap t items) (hs : s.heap.IsSliceOf sl vl vu .none) (pl : IsPart vl lo) (pu : IsPart vu hi)
    (h0 : HT.sIx items.size 0 lo = 0) (h1 : HT.sIx items.size items.size hi = items.size) (h : Q (.ref t) s) : wpAny (model prog w) A (getItem (.ref t) (.ref sl)) Q E s := by
  obtain ⟨os, hos, hcs, hds⟩ := id hs
  unfold getItem
  try with_reducible refine wpAny_holding ?_
  first | refine wpAny_bind (wpAny_pure ?_) | skip
  refine wpAny_bind (wpAny_sequenceKey ht.typeIs (by decide) (wpAny_bind (wpAny_callSpecial?_slot (name := Str.ofString "__getitem__") ht.typeIs PyProof.Rows.slot_tuple_getitem (wpAny_call_entry PyProof.Rows.slot_tuple_getitem ht.typeIs entry_tuple_getitem ?_ (args_tuple_getitem _ _)))))
  show wpAny _ _ (Builtin.Tuple.tupleItemsOf (.ref t) >>= _) _ _ s
  refine wpAny_bind (tupleItemsOf_ ht (wpAny_bind (wpAny_typeOf (show s.TypeIs (.ref sl) "slice" from ⟨os, hos, hcs⟩) ?_)))
  rw [if_pos (by decide)]
  refine wpAny_bind (HT.sliceApplied_gen hs pl pu ?_)
  have yes : ((((HT.sIx items.size 0 lo : Nat) : Int) == 0 && (1 : Int) == 1 && (HT.sIx items.size items.size hi - HT.sIx items.size 0 lo) == items.size) = true) := by rw [h0, h1]; simp
  show wpAny _ _ (if ((((HT.sIx items.size 0 lo : Nat) : Int) == 0 && (1 : Int) == 1 && (HT.sIx items.size items.size hi - HT.sIx items.size 0 lo) == items.size) = true) then _ else _) _ _ s
  rw [if_pos yes]
  unfold Builtin.Tuple.tupleIsExact
  refine wpAny_bind (wpAny_bind (wpAny_typeOf ht.typeIs (wpAny_pure ?_)))
  rw [if_pos (by decide)]
  refine wpAny_bind (wpAny_rule ?_)
  exact wpAny_pure ⟨_, rfl, wpAny_pure h⟩
end
section
variable {X : Cx}
theorem sl_tupW : SlR X (fun x lo hi H Q => ∃ a xs, x = .ref a ∧ SqT X.K H a xs ∧ (HT.sIx xs.length 0 lo = 0 ∧ HT.sIx xs.length xs.length hi = xs.length) ∧ Q (.ref a) H) := by
  rintro pins s σ H x v vl vu lo hi sl Q I rx hs pl pu ⟨a, xs, rfl, hx, hw, q⟩
  cases rx
  obtain ⟨its, r, ht, hz⟩ := I.tuple hx
  have hlen : its.toArray.size = xs.length := List.size_toArray.trans r.length.symm
  exact ⟨"tuple", _, PyProof.Rows.slot_tuple_getitem.lookup, ht.typeIs, tuple_whole ht hs pl pu (by rw [hlen]; exact hw.1) (by rw [hlen]; exact hw.2) ⟨.ref a, H, I, rfl, q⟩⟩
end
def fSl (lo hi : Option Int) : D → Option D
  | .lst ds => some (.lst (cutD ds lo hi))
  | .scr ns => some (.lst ((cutD ns lo hi).map .int))
  | .tup ds => some (.tup (cutD ds lo hi))
  | _ => none
def eSl (fa : S → Out W) (fl fh : S → Out (Option Int)) (s : S) : Out W := (fa s).bind fun w s1 => (fl s1).bind fun lo s2 => (fh s2).bind fun hi s3 => opt ((dat s3.ce w).bind (fSl lo hi)) s3
section
variable (K : PySem.W.Frag) (mg : Str → Option Value)
def PostO (W' : WX) (A : List Addr) (F : Hp) (σ : L2.St) (Q : Option Int → Hp → Prop) : Out (Option Int) → Prop
  | .ok w s' => ∀ A' F' H', A <+: A' → Ex F F' → Rel K mg A' F' s' σ H' → Q w H'
  | .exc c ns ws s' => ∀ A' F' H' C d vs, A <+: A' → Ex F F' → Rel K mg A' F' s' σ H' → mg c = some (.ref C) → RWs K mg A' F' vs ws → H' d = some (.xd (ns.zip vs)) → W' (.ref C) (some d) σ H'
  | .bad => False
def tO (W' : WX) (f : S → Out (Option Int)) : TO := fun σ H Q => ∃ s A F, Rel K mg A F s σ H ∧ PostO K mg W' A F σ Q (f s)
end
section
variable {K : PySem.W.Frag} {mg : Str → Option Value} {A A1 : List Addr} {F F1 : Hp} {σ : L2.St} {W' : WX} {Q : VK}
theorem PostO.bind {o : Out (Option Int)} {g : Option Int → S → Out W} (h : PostE K mg W' A F σ Q (o.bind g)) :
    PostO K mg W' A F σ (fun v H1 => ∃ s1 A1 F1, A <+: A1 ∧ Ex F F1 ∧ Rel K mg A1 F1 s1 σ H1 ∧ PostE K mg W' A1 F1 σ Q (g v s1)) o := by
  cases o with
  | ok w s' => exact fun A' F' H' a e r => ⟨s', A', F', a, e, r, PostE.later h a e⟩
  | exc c ns ws s' => exact h
  | bad => exact h
theorem PostO.imp {Q Q' : Option Int → Hp → Prop} {o : Out (Option Int)} (h : PostO K mg W' A F σ Q o) (k : ∀ v H, Q v H → Q' v H) : PostO K mg W' A F σ Q' o := by
  cases o with
  | ok w s' => exact fun A' F' H' a e r => k _ _ (h A' F' H' a e r)
  | exc c ns ws s' => exact h
  | bad => exact h
theorem PostE.bindO {o : Out W} {g : W → S → Out (Option Int)} {Q : Option Int → Hp → Prop} (h : PostO K mg W' A F σ Q (o.bind g)) :
    PostE K mg W' A F σ (fun v H1 => ∃ w s1 A1 F1, A <+: A1 ∧ Ex F F1 ∧ Rel K mg A1 F1 s1 σ H1 ∧ RW K mg A1 F1 v w ∧ PostO K mg W' A1 F1 σ Q (g w s1)) o := by
  cases o with
  | ok w s' =>
    refine fun A' F' H' v a e r q => ⟨w, s', A', F', a, e, r, q, ?_⟩
    simp only [Out.bind_ok] at h
    revert h
    cases g w s' with
    | ok src s2 => exact fun h A2 F2 H2 a2 e2 r2 => h A2 F2 H2 (a.trans a2) (e.trans e2) r2
    | exc c ns ws s2 => exact fun h A2 F2 H2 C d vs a2 e2 r2 => h A2 F2 H2 C d vs (a.trans a2) (e.trans e2) r2
    | bad => exact fun h => h
  | exc c ns ws s' => exact h
  | bad => exact h
theorem RAll.cut {vs : List V} {ds : List D} (h : RAll K mg F vs ds) (lo hi : Option Int) : RAll K mg F (cutV vs lo hi) (cutD ds lo hi) := by
  unfold cutV cutD
  rw [h.length]
  exact (h.drop _).take _
end
abbrev VO (X : Cx) (W' : WX) (e : Option Expr) (f : S → Out (Option Int)) : Prop := PO X e (tO X.K X.mg W' f)
def rSlW (K : PySem.W.Frag) (mg : Str → Option Value) : V → Option Int → Option Int → Hp → VK → Prop := fun vx lo hi H Q => ∃ ce A F x d d', RelC K mg A F ce H ∧ RW K mg A F vx x ∧ dat ce x = some d ∧ fSl lo hi d = some d' ∧ Fin K mg A F ce d' Q
section
variable {X : Cx} {W' : WX} {e : Expr} {lo hi : Option Expr} {fa : S → Out W} {fl fh : S → Out (Option Int)} {pos p2 : Pos}
theorem PO.imp {t t' : TO} (h : PO X lo t) (k : ∀ σ H Q, t' σ H Q → t σ H Q) : PO X lo t' := ⟨fun pins s σ H Q I q => h.run pins s σ H Q I (k σ H Q q)⟩
theorem vo_none : VO X W' none oNone := PO.imp po_none fun σ H Q h => by
  obtain ⟨s, A, F, r, q⟩ := h
  exact q A F H (List.prefix_refl _) (Ex.refl _) r
theorem vo_some (h : VE X W' e fa) : VO X W' (some e) (oSome fa) := PO.imp (po_some h) fun σ H Q h => by
  obtain ⟨s, A, F, r, q⟩ := h
  refine ⟨s, A, F, r, PostE.imp (PostE.bindO q) fun vx H1 ⟨x, s1, A1, F1, a1, e1, r1, rx, q1⟩ => ?_⟩
  split at q1
  · cases rx; exact ⟨_, rfl, q1 A1 F1 H1 (List.prefix_refl _) (Ex.refl _) r1⟩
  · exact q1.elim
theorem x_sl : SlR X (rSlW X.K X.mg) := by
  intro pins s σ H x v vl vu lo hi sl Q I rx hs pl pu ⟨ce, A, F, w, d, d', rc, hx, hd, hf, fin⟩
  unfold fSl at hf
  split at hf
  · cases hf
    obtain ⟨p, vs, rfl, h1, r1⟩ := d_lst rc hx hd
    exact sl_list pins s σ H _ v vl vu lo hi sl Q I rx hs pl pu ⟨p, vs, rfl, SqL.of h1, fun l hl => fin.lst rc (r1.cut lo hi) hl⟩
  · rename_i ns
    cases hf
    obtain ⟨p, rfl, h1⟩ := d_scr rc hx hd
    refine sl_list pins s σ H _ v vl vu lo hi sl Q I rx hs pl pu ⟨p, _, rfl, h1, fun l hl => fin.lst rc ?_ hl⟩
    have hh := (rall_ints (K := X.K) (mg := X.mg) (F := F) ns).cut lo hi
    have e : cutD (ns.map D.int) lo hi = (cutD ns lo hi).map D.int := by unfold cutD; simp [List.map_take, List.map_drop]
    rw [e] at hh
    exact hh
  · rename_i ds
    cases hf
    by_cases hw : HT.sIx ds.length 0 lo = 0 ∧ HT.sIx ds.length ds.length hi = ds.length
    · obtain ⟨p, vs, rfl, h1, r1⟩ := d_tup rc hx hd
      have e : cutD ds lo hi = ds := by unfold cutD; rw [hw.1, hw.2]; simp
      rw [e] at fin
      exact sl_tupW pins s σ H _ v vl vu lo hi sl Q I rx hs pl pu ⟨p, vs, rfl, h1, by rw [r1.length]; exact hw, fin.now rc (tup_in hx hd)⟩
    · obtain ⟨p, vs, rfl, h1, r1⟩ := d_tup rc hx hd
      exact sl_tup pins s σ H _ v vl vu lo hi sl Q I rx hs pl pu ⟨p, vs, rfl, h1, by rw [r1.length]; exact hw, fun l hl => fin.tup rc (r1.cut lo hi) hl⟩
  · cases hf
theorem ve_sl (he : VE X W' e fa) (hl : VO X W' lo fl) (hu : VO X W' hi fh) : VE X W' (.Subscript e (.Slice lo hi none p2) pos) (eSl fa fl fh) := PE.imp (pe_slice x_sl he hl hu) fun σ H Q h => by
  obtain ⟨s, A, F, r, q⟩ := h
  refine ⟨s, A, F, r, PostE.imp (PostE.bind q) fun vx H1 ⟨x, s1, A1, F1, a1, e1, r1, rx, q1⟩ => ?_⟩
  refine ⟨s1, A1, F1, r1, PostO.imp (PostO.bind q1) fun l H2 ⟨s2, A2, F2, a2, e2, r2, q2⟩ => ?_⟩
  refine ⟨s2, A2, F2, r2, PostO.imp (PostO.bind q2) fun u H3 ⟨s3, A3, F3, a3, e3, r3, q3⟩ => ?_⟩
  cases hd : dat s3.ce x with
  | none => rw [hd] at q3; exact q3.elim
  | some d =>
    rw [hd] at q3
    simp only [Option.bind] at q3
    cases hf : fSl l u d with
    | none => rw [hf] at q3; exact q3.elim
    | some d' =>
      rw [hf] at q3
      exact ⟨s3.ce, A3, F3, x, d, d', r3.cs, (rx.mono a2 e2).mono a3 e3, hd, hf, fun F' H' v e' c' h' => q3 A3 F' H' v (List.prefix_refl _) e' (r3.slots e' c') h'⟩
end
end VL

set_option maxHeartbeats 4000000
namespace VL
open PySem PySem.Spec PyProof.Rows L2

/-! ### several clauses that name what they caught -/
abbrev Hd := Value × Nat × (Addr → Value → Option Addr → TS)
/-- the ends of a suite: the caught one's name is gone -/
def gone (De : Ends) (i : Nat) : Ends := { nx := fun σ' H' => De.nx (σ'.set i none) H', rt := De.rt, bk := fun σ' H' => De.bk (σ'.set i none) H', ct := fun σ' H' => De.ct (σ'.set i none) H' }
def wAsN (K : PySem.W.Frag) (Wt : WX) (De : Ends) : List Hd → WX
  | [] => Wt
  | (c, i, ts) :: r => fun cls d σ H => ∃ b, PySem.W.exmOne K cls c = some b ∧ (b = true → ∀ a, H a = none → ts a cls d (gone De i) (σ.set i (some (.ref a))) H) ∧ (b = false → wAsN K Wt De r cls d σ H)
inductive Hds (X : Cx) : List ExceptHandler → List Hd → Prop
  | nil : Hds X [] []
  | cons {x n : Str} {c : Value} {i : Nat} {ts : Addr → Value → Option Addr → TS} {b0 : Stmt} {bs : List Stmt} {np pos' : Pos} {hds : List ExceptHandler} {l : List Hd} (hi : X.N[i]? = some n) (hln : X.env.kindOf n = some .local) (hc : Names X x c)
      (hsu : ∀ (a : Addr) (oe : Obj) (cls : Value) (d : Option Addr) (pn : List (Addr × Obj)), Zc cls d oe → (∃ vs, oe.data = .fields vs) → PSs (X.suite a ((a, oe) :: pn)) (b0 :: bs) (ts a cls d)) (r : Hds X hds l) :
      Hds X (.ExceptHandler (some (.Name x np)) (some n) (b0 :: bs) pos' :: hds) ((c, i, ts) :: l)
section
variable {X : Cx} {body : List Stmt} {h0 : ExceptHandler} {hds : List ExceptHandler} {l : List Hd} {pos : Pos} {tb : WX → TS} {Wt : WX}
theorem ps_try_asN (hs : X.stack = X.env :: X.outer) (hf : X.env.frame = some X.env.locals) (hN : X.N.Nodup) (tk : Takes X Wt)
    (hb : ∀ (Wb : WX) (pn : List (Addr × Obj)) (xe : Value → Shared → Prop), Takes (X.tr pn xe) Wb → PassesOwn (model X.prog X.w) X.A X.env xe → PSs (X.tr pn xe) body (tb Wb))
    (hh : Hds X (h0 :: hds) l) : PS X (.Try body (h0 :: hds) [] [] pos) (fun De σ H => tb (wAsN X.K Wt De l) De σ H) := by
  constructor
  intro pins s σ H De I hw
  have okX := I.ok
  have frX : X.A.frames = some (X.env :: X.outer) := okX.frames.trans (congrArg some hs)
  apply wpAny_Try_except
  have tkB : Takes (X.tr (X.pn ++ pins) (fun e s1 => wpAny (model X.prog X.w) X.A (noteFrame e X.env) (fun _ s2 => wpAny (model X.prog X.w) X.A (setFlight e none) (fun _ s3 =>
      wpAny (model X.prog X.w) X.A (handleBy e X.env (h0 :: hds)) (SP X pins De) X.xe s3) X.xe s2) X.xe s1)) (wAsN X.K Wt De l) := by
    rintro u s' ⟨a, B, sI, pins', σ', H', cls, d, rfl, jT, nb, up, sky, na, os, ag, hwant⟩
    have jX : Inv X pins σ' H' sI := jT.ofTry okX
    have skyX : Sky B (X.env :: X.outer) a (Zc cls d) X.env.locals s'.heap := hs ▸ sky
    refine Sky.land Zc.steady frX hf skyX fun hC flC upC => ?_
    have jC : Inv X pins σ' H' { s' with heap := hC } := jX.landed nb flC.1 (up.trans upC) os ag
    obtain ⟨oC, vsC, heC, hzC, hdC⟩ := flC.there
    have aFr : a ∉ frs (X.env :: X.outer) := fun hm => by
      obtain ⟨_, o2, e2, nf2⟩ := flC.2.2.1.mem hm
      cases heC.symm.trans e2
      exact nf2 _ hdC
    have aL : a ≠ X.env.locals := fun z => aFr (List.mem_filterMap.mpr ⟨X.env, List.mem_cons_self, by simp only [hf, z]⟩)
    have aF : a ∉ X.fs := fun hm => by
      obtain ⟨e1, m1, q1⟩ := List.mem_filterMap.mp hm
      exact aFr (List.mem_filterMap.mpr ⟨e1, .tail _ m1, q1⟩)
    have sC := jC.suite heC hdC na aL aF
    have go : ∀ {hs' : List ExceptHandler} {l' : List Hd}, Hds X hs' l' → wAsN X.K Wt De l' cls d σ' H' → wpAny (model X.prog X.w) X.A (handleBy (.ref a) X.env hs') (SP X pins De) X.xe { s' with heap := hC } := by
      intro hs' l' hk
      induction hk with
      | nil =>
        intro wn
        apply wpAny_handleBy_nil
        obtain ⟨k1, k2, k3, oe, vs, T, oT, tsx, he, hz, hd, h1, hr⟩ := id flC
        have fin : wpAny (model X.prog X.w) X.A (setFlight (.ref a) X.env.frame) (fun _ s4 => wpAny (model X.prog X.w) X.A (throw (.ref a) : Sem Flow) (SP X pins De) X.xe s4) X.xe { s' with heap := hC } :=
          hf ▸ HandSPX.setFlight_upZ flC fun hD flD upD => wpAny_throw (tk _ _ ⟨a, B, sI, pins, σ', H', cls, d, rfl, jX, nb, (up.trans upC).trans upD, .inr (.inr (hs.symm ▸ flD)), na, os, ag, wn⟩)
        unfold PySem.passOn
        refine wpAny_bind (wpAny_field he hd h1 ?_)
        rw [if_neg (by simp : ¬ ((Value.ref T == Value.none) = true))]
        first
          | exact wpAny_bind (wpAny_pure (wpAny_bind fin))
          | exact wpAny_bind fin
      | @cons x n c i ts b0 bs np pos' hds2 l2 hi hln hc hsu r ih =>
        rintro ⟨b, hb1, hyes, hno⟩
        have loc : Loc X.env.scope n := Or.inl hln
        refine wpAny_handleBy_cons (codeAny_handlers_test ?_) (fun q => nomatch q)
        have looksT : PySem.W.Looks (model X.prog X.w) hC (typeOf (.ref a)) cls := fun A1 Q1 E1 s1 k1 q1 => wpAny_typeOf_ref (k1 _ _ heC) (hzC.1.symm ▸ q1)
        have looksM := PySem.W.exm_one (M := model X.prog X.w) jC.kIn looksT hb1
        have named : ∀ {Q1 : Value → Shared → Prop} {E1 : Value → Shared → Prop}, Q1 c { s' with heap := hC } → wpAny (model X.prog X.w) (X.A.mark (some (.ref a))) (eval (.Name x np) X.env) Q1 E1 { s' with heap := hC } := fun {Q1 E1} q1 => by
          obtain ⟨g1, g2, g3 | ⟨g3, g4, g5⟩⟩ := hc
          · exact ld_glob (X := X.suite a ((a, oC) :: (X.pn ++ pins))) sC g1 g3 q1 g2
          · exact ld_blt (X := X.suite a ((a, oC) :: (X.pn ++ pins))) sC g1 g3 g4 q1 g5 g2
        apply named
        apply looksM.here
        cases b with
        | false => exact ih (hno rfl)
        | true =>
          apply codeAny_handlers_suite_as
          refine HandSPX.lands_againZ flC fun hD flD upD => ?_
          have jD : Inv X pins σ' H' { s' with heap := hD } := jX.landed nb flD.1 ((up.trans upC).trans upD) os ag
          obtain ⟨oD, vsD, heD, hzD, hdD⟩ := flD.there
          have sD := jD.suite heD hdD na aL aF
          refine store_ok (X := X.suite a ((a, oD) :: (X.pn ++ pins))) (v := .ref a) sD hN hi loc rfl (fun sE SE => ?_) (Or.inr hln)
          refine wpAny_mono ((hsu a oD cls d (X.pn ++ pins) hzD ⟨_, hdD⟩).run [] sE _ H' _ SE (hyes rfl a na)) (fun f sF hsp => ?_) (fun _ _ z => z.elim)
          have close : ∀ {σ6 : L2.St} {H6 : Hp} {Q6 : Shared → Prop}, Inv (X.suite a ((a, oD) :: (X.pn ++ pins))) [] σ6 H6 sF → (∀ s7, Inv X pins (σ6.set i none) H6 s7 → Q6 s7) →
              wpAny (model X.prog X.w) X.A (do bindName X.env n .none; unbindBehindTheSuite X.env n pos') (fun _ s7 => Q6 s7) X.xe sF := fun {σ6 H6 Q6} S6 h6 => gone_ok (S6.unsuite okX) hN hi hln h6
          cases f with
          | next => obtain ⟨σ6, H6, S6, q6⟩ := hsp; exact close S6 fun s7 J7 => ⟨_, _, J7, q6⟩
          | brk => obtain ⟨σ6, H6, S6, q6⟩ := hsp; exact close S6 fun s7 J7 => ⟨_, _, J7, q6⟩
          | cont => obtain ⟨σ6, H6, S6, q6⟩ := hsp; exact close S6 fun s7 J7 => ⟨_, _, J7, q6⟩
          | ret u => obtain ⟨v6, σ6, H6, S6, r6, q6⟩ := hsp; exact close S6 fun s7 J7 => ⟨_, _, _, J7, r6, q6⟩
    exact go hh hwant
  refine wpAny_mono ((hb (wAsN X.K Wt De l) (X.pn ++ pins) _ tkB PassesOwn.looking).run [] s σ H De (I.toTry _) hw) (fun f s1 hsp => ?_) (fun _ _ z => z)
  cases f with
  | next => obtain ⟨σ1, H1, J1, q⟩ := hsp; exact wpAny_execs_nil ⟨σ1, H1, J1.ofTry okX, q⟩
  | brk => obtain ⟨σ1, H1, J1, q⟩ := hsp; exact ⟨σ1, H1, J1.ofTry okX, q⟩
  | cont => obtain ⟨σ1, H1, J1, q⟩ := hsp; exact ⟨σ1, H1, J1.ofTry okX, q⟩
  | ret u => obtain ⟨v, σ1, H1, J1, r, q⟩ := hsp; exact ⟨v, σ1, H1, J1.ofTry okX, r, q⟩
end

/-! ### own errors with one field -/
def spInit1 (K : PySem.W.Frag) (C : Addr) (n : Str) : Sp := fun vs H Q _ => ∃ a y, vs = [.ref a, y] ∧ H a = some (exo a C none) ∧ ∀ dx, H dx = none → dx ≠ a → Q .non (upd (upd H dx (exd dx [(n, y)])) a (exo a C (some dx)))
/-- what is known of an error class c that keeps what it is made with as n -/
structure Err1 (P : Program) (w : World) (K : PySem.W.Frag) (mg : Str → Option Value) (base : Heap) (c n : Str) (C : Addr) : Prop where
  gC : mg c = some (.ref C)
  ox : OexC K C
  xf : XfC K C
  no : PySem.W.findIn K (.ref C) n = some none
  ini : ∃ (fI : Addr) (fd : FuncData) (p0 : Str), PySem.W.findIn K (.ref C) "__init__" = some (some (.ref fI)) ∧ PySem.W.typeIn K (.ref fI) = some (.type "function") ∧ FnOk P w K mg base (L2.CX P w) 1 fI fd [p0, n] (spInit1 K C n) ∧ Binds K fd [p0, n] []
theorem passes00 {X : Cx} : Passes (L2.CX X.prog X.w) X (fun _ _ _ => False) := fun _ _ _ _ _ _ _ c => by
  obtain ⟨_, _, _, _, _, _, _, _, _, _, _, _, h⟩ := c
  exact h.elim
/-- raise c(e) -/
def sRaise1 (c n : Str) (fa : S → Out W) (s : S) : Fl := (fa s).then fun w s1 => .exc c [n] [w] s1
section
variable {X : Cx} {W' : WX} {e : Expr} {fa : S → Out W} {c n : Str} {C : Addr} {p pos pos2 : Pos}
theorem upd_del {H : Hp} {a dx : Addr} {o1 o2 o3 o4 : HO} (ha : H a = none) (hne : dx ≠ a) : upd (del (upd (upd (upd H a o1) dx o2) a o3) a) dx o4 = upd H dx o4 := by
  funext b
  by_cases h1 : b = dx
  · subst h1; rw [upd_same, upd_same]
  · rw [upd_ne h1, upd_ne h1]
    by_cases h2 : b = a
    · subst h2; rw [del_same, ha]
    · rw [del_ne h2, upd_ne h2, upd_ne h1, upd_ne h2]
theorem vs_raise1 (hc : X.calm = true) (E : Err1 X.prog X.w X.K X.mg X.base c n C) (hr : Room 2 X.A) (tk : Takes X W') (ha : VE X W' e fa) (hg : Gl X c := by rfl) (hdb : (c == ("__debug__" : Str)) = false := by decide)
    (he : starEach (e :: []) X.env = (false, eval e X.env) :: starEach [] X.env := by rfl) (hpl : (backTo pos (starEach [] X.env)).any (·.1) = false := by rfl) :
    VS X W' (.Raise (some (.Call (.Name c p) [e] [] pos)) none pos2) (sRaise1 c n fa) := by
  obtain ⟨fI, fd, p0, iC, tI, F1, b1⟩ := E.ini
  refine PS.imp (ps_raise hc tk (pmk_oex E.ox iC tI F1 hr b1 .nil passes00 hg E.gC (pa_cons ha pa_nil he) hdb he hpl)) fun De σ H h => ?_
  obtain ⟨s, A, F, r, q⟩ := h
  refine ⟨s, A, F, r, PostE.imp (PostE.thenS q) fun v H1 ⟨w, s1, A1, F1, a1, e1, r1, rw1, q1⟩ => ?_⟩
  refine ⟨by simp, fun a hH => ⟨a, v, rfl, upd_same, fun dx hd hne => ⟨rfl, dx, [(n, v)], upd_same, ?_, ?_, ?_⟩⟩⟩
  · rw [upd_ne hne, upd_same]
  · rw [upd_ne hne] at hd; exact hd
  · rw [upd_ne hne] at hd
    rw [upd_del hH hne]
    exact q1 A1 _ _ C dx [v] σ (List.prefix_refl _) (ex_upd (r1.cs.none_of hd)) (r1.slots (ex_upd (r1.cs.none_of hd)) (r1.cs.new hd _)) E.gC (.cons (rw1.mono (List.prefix_refl _) (ex_upd (r1.cs.none_of hd))) .nil) upd_same
end
end VL

set_option maxHeartbeats 4000000
namespace VL
open PySem PySem.Spec PyProof.Rows L2

abbrev Hnd := Str → List Str → List W → S → Fl
/-- what a suite does of what was caught -/
def SuiteOk (K : PySem.W.Frag) (mg : Str → Option Value) (W' : WX) (i : Nat) (ts : Addr → Value → Option Addr → TS) (h : Hnd) : Prop :=
  ∀ c ns C a dd vs ws s A F σ H De, Rel K mg A F s σ H → mg c = some (.ref C) → RWs K mg A F vs ws → H dd = some (.xd (ns.zip vs)) → PostS K mg W' A F De (h c ns ws s) → ts a (.ref C) (some dd) (gone De i) (σ.set i (some (.ref a))) H
/-- which class of errors a clause takes: mt c c' -/
def pick (mt : Str → Str → Bool) (c : Str) (ns : List Str) (ws : List W) (s : S) : List (Str × Hnd) → Fl
  | [] => .exc c ns ws s
  | (c', h) :: r => if mt c c' = true then h c ns ws s else pick mt c ns ws s r
def sTry (mt : Str → Str → Bool) (f : S → Fl) (cl : List (Str × Hnd)) (s : S) : Fl := match f s with
  | .exc c ns ws s1 => pick mt c ns ws s1 cl
  | .nx s1 => .nx s1
  | .rt w s1 => .rt w s1
  | .bk s1 => .bk s1
  | .ct s1 => .ct s1
  | .bad => .bad
inductive Clauses (K : PySem.W.Frag) (mg : Str → Option Value) (W' : WX) (mt : Str → Str → Bool) : List (Str × Hnd) → List Hd → Prop
  | nil : Clauses K mg W' mt [] []
  | cons {c' : Str} {h : Hnd} {v : Value} {i : Nat} {ts : Addr → Value → Option Addr → TS} {r : List (Str × Hnd)} {l : List Hd} (hm : ∀ c C, mg c = some (.ref C) → (∃ b, PySem.W.exmOne K (.ref C) v = some b ∧ b = mt c c') ∨ ∀ ns ws s, pick mt c ns ws s ((c', h) :: r) = .bad) (hs : SuiteOk K mg W' i ts h) (t : Clauses K mg W' mt r l) : Clauses K mg W' mt ((c', h) :: r) ((v, i, ts) :: l)
section
variable {K : PySem.W.Frag} {mg : Str → Option Value} {A A' : List Addr} {F F' H H' : Hp} {σ : L2.St} {W' : WX} {s : S}
theorem clauses_ok {mt : Str → Str → Bool} {cl : List (Str × Hnd)} {l : List Hd} (hc : Clauses K mg W' mt cl l) {De : Ends} {c : Str} {ns : List Str} {ws : List W} {vs : List V} {C dd : Addr} (r : Rel K mg A F s σ H) (hm : mg c = some (.ref C)) (hw : RWs K mg A F vs ws)
    (hd : H dd = some (.xd (ns.zip vs))) (h : PostS K mg W' A F De (pick mt c ns ws s cl)) : wAsN K W' De l (.ref C) (some dd) σ H := by
  induction hc with
  | nil => exact h A F H C dd vs σ (List.prefix_refl _) (Ex.refl _) r hm hw hd
  | @cons c' hn v i ts r' l' hmt hs t ih =>
    rcases hmt c C hm with ⟨b, h1, h2⟩ | hbad
    · refine ⟨b, h1, fun hb a ha => ?_, fun hb => ?_⟩
      · unfold pick at h
        rw [if_pos (by rw [← h2]; exact hb)] at h
        exact hs c ns C a dd vs ws s A F σ H De r hm hw hd h
      · unfold pick at h
        rw [if_neg (by rw [← h2, hb]; exact Bool.false_ne_true)] at h
        exact ih h
    · rw [hbad] at h; exact h.elim
theorem Rel.setNone (r : Rel K mg A F s σ H) (i : Nat) (v : Option V) : Rel K mg A F ⟨s.sl.set i none, s.ce⟩ (σ.set i v) H :=
  ⟨r.cs, by simp [r.sz], fun j z e => by
    by_cases hj : i = j
    · subst hj
      by_cases hl : i < s.sl.length
      · rw [List.getElem?_set_self hl] at e; cases e
      · rw [List.getElem?_eq_none_iff.mpr (by simp; omega)] at e; cases e
    · rw [List.getElem?_set_ne hj] at e
      obtain ⟨u, h1, h2⟩ := r.slot j z e
      exact ⟨u, by rw [List.getElem?_set_ne hj]; exact h1, h2⟩⟩
end
section
variable {X : Cx} {W' : WX} {body : List Stmt} {h0 : ExceptHandler} {hds : List ExceptHandler} {pos : Pos} {fb : S → Fl}
theorem vs_try {mt : Str → Str → Bool} {cl : List (Str × Hnd)} {l : List Hd} (hs : X.stack = X.env :: X.outer) (hf : X.env.frame = some X.env.locals) (hN : X.N.Nodup) (tk : Takes X W')
    (hb : ∀ (Wb : WX) (pn : List (Addr × Obj)) (xe : Value → Shared → Prop), Takes (X.tr pn xe) Wb → PassesOwn (model X.prog X.w) X.A X.env xe → VSs (X.tr pn xe) Wb body fb)
    (hh : Hds X (h0 :: hds) l) (hc : Clauses X.K X.mg W' mt cl l) : VS X W' (.Try body (h0 :: hds) [] [] pos) (sTry mt fb cl) := by
  refine PS.imp (ps_try_asN (tb := fun Wb => tS X.K X.mg Wb fb) hs hf hN tk hb hh) fun De σ H h => ?_
  obtain ⟨s, A, F, r, q⟩ := h
  refine ⟨s, A, F, r, ?_⟩
  unfold sTry at q
  revert q
  cases fb s with
  | exc c ns ws s1 => exact fun q A' F' H' C d vs σ' a e r' hm hw hd => clauses_ok hc r' hm hw hd (PostS.later q a e)
  | nx s1 => exact fun q => q
  | rt w s1 => exact fun q => q
  | bk s1 => exact fun q => q
  | ct s1 => exact fun q => q
  | bad => exact fun q => q
end
/-! ### the suites that are met -/
/-- x = [text, error.n] -/
def hAsgL (i j : Nat) (c n k : Str) : Hnd := fun c' ns ws s => if c' = c ∧ ns = [n] ∧ i < s.sl.length then match ws with
    | [.d x] => .nx ⟨(s.sl.set j (some (.d (.lst [.str k, x])))).set i none, s.ce⟩
    | _ => .bad
  else .bad
def hRetL (i : Nat) (c n k : Str) : Hnd := fun c' ns ws s => if c' = c ∧ ns = [n] ∧ i < s.sl.length then match ws with
    | [.d x] => .rt (.d (.lst [.str k, x])) ⟨s.sl.set i none, s.ce⟩
    | _ => .bad
  else .bad
def hRetT (i : Nat) (c n k : Str) : Hnd := fun c' ns ws s => if c' = c ∧ ns = [n] ∧ i < s.sl.length then match ws with
    | [.d x] => .rt (.d (.tup [.str k, x])) ⟨s.sl.set i none, s.ce⟩
    | _ => .bad
  else .bad
section
variable {K : PySem.W.Frag} {mg : Str → Option Value} {W' : WX} {i j : Nat} {c n k : Str} {C : Addr}
theorem two_le : 2 ≤ sizeLine := by decide
theorem suite_asgL (hm : mg c = some (.ref C)) (hij : i ≠ j) : SuiteOk K mg W' i (fun a cls d => tAsg (tLst (tCons (tC (.str k)) (tCons (tXf a cls d C n (tVar i)) tNil))) (gName j)) (hAsgL i j c n k) := by
  intro c' ns C' a dd vs ws s A F σ H De r hm' hw hd h
  unfold hAsgL at h
  by_cases hc : c' = c ∧ ns = [n] ∧ i < s.sl.length
  · obtain ⟨rfl, rfl, hl⟩ := hc
    rw [if_pos ⟨rfl, rfl, hl⟩] at h
    rw [r.sz] at hl
    rw [hm] at hm'; cases hm'
    split at h
    · rename_i x
      cases hw with
      | @cons v vs _ _ h1 h2 =>
      cases h2
      refine ⟨.ref a, by rw [List.getElem?_set_self hl], rfl, rfl, dd, _, v, rfl, hd, by simp [List.lookup], two_le, fun p hp => ?_⟩
      show De.nx (((σ.set i (some (.ref a))).set j (some (.ref p))).set i none) (upd H p (.lst [.str k, v]))
      have e1 : ((σ.set i (some (.ref a))).set j (some (.ref p))).set i none = (σ.set j (some (.ref p))).set i none := by
        rw [List.set_comm _ _ hij, List.set_set]
      rw [e1]
      have ef : Ex F (upd F p (.lst [.str k, v])) := ex_upd (r.cs.none_of hp)
      have hv : R K mg (upd F p (.lst [.str k, v])) (.ref p) (.lst [.str k, x]) := .lst upd_same (.cons (.str k) (.cons (R.mono h1 ef) .nil))
      have r2 := (r.slots ef (r.cs.new hp (.lst [.str k, v]))).set (w := .d (.lst [.str k, x])) hv j
      exact h A _ _ _ (List.prefix_refl _) ef (r2.setNone i none)
    · exact h.elim
  · rw [if_neg hc] at h; exact h.elim
theorem suite_retL (hm : mg c = some (.ref C)) : SuiteOk K mg W' i (fun a cls d => tRet (tLst (tCons (tC (.str k)) (tCons (tXf a cls d C n (tVar i)) tNil)))) (hRetL i c n k) := by
  intro c' ns C' a dd vs ws s A F σ H De r hm' hw hd h
  unfold hRetL at h
  by_cases hc : c' = c ∧ ns = [n] ∧ i < s.sl.length
  · obtain ⟨rfl, rfl, hl⟩ := hc
    rw [if_pos ⟨rfl, rfl, hl⟩] at h
    rw [r.sz] at hl
    rw [hm] at hm'; cases hm'
    split at h
    · rename_i x
      cases hw with
      | @cons v vs _ _ h1 h2 =>
      cases h2
      refine ⟨.ref a, by rw [List.getElem?_set_self hl], rfl, rfl, dd, _, v, rfl, hd, by simp [List.lookup], two_le, fun p hp => ?_⟩
      have ef : Ex F (upd F p (.lst [.str k, v])) := ex_upd (r.cs.none_of hp)
      have hv : R K mg (upd F p (.lst [.str k, v])) (.ref p) (.lst [.str k, x]) := .lst upd_same (.cons (.str k) (.cons (R.mono h1 ef) .nil))
      exact h A _ _ _ (List.prefix_refl _) ef (r.cs.new hp (.lst [.str k, v])) hv
    · exact h.elim
  · rw [if_neg hc] at h; exact h.elim
theorem suite_retT (hm : mg c = some (.ref C)) : SuiteOk K mg W' i (fun a cls d => tRet (tTup (tCons (tC (.str k)) (tCons (tXf a cls d C n (tVar i)) tNil)))) (hRetT i c n k) := by
  intro c' ns C' a dd vs ws s A F σ H De r hm' hw hd h
  unfold hRetT at h
  by_cases hc : c' = c ∧ ns = [n] ∧ i < s.sl.length
  · obtain ⟨rfl, rfl, hl⟩ := hc
    rw [if_pos ⟨rfl, rfl, hl⟩] at h
    rw [r.sz] at hl
    rw [hm] at hm'; cases hm'
    split at h
    · rename_i x
      cases hw with
      | @cons v vs _ _ h1 h2 =>
      cases h2
      refine ⟨.ref a, by rw [List.getElem?_set_self hl], rfl, rfl, dd, _, v, rfl, hd, by simp [List.lookup], two_le, fun p hp => ?_⟩
      have ef : Ex F (upd F p (.tup [.str k, v])) := ex_upd (r.cs.none_of hp)
      have hv : R K mg (upd F p (.tup [.str k, v])) (.ref p) (.tup [.str k, x]) := .tup (SqT.of upd_same) (.cons (.str k) (.cons (R.mono h1 ef) .nil))
      exact h A _ _ _ (List.prefix_refl _) ef (r.cs.new hp (.tup [.str k, v])) hv
    · exact h.elim
  · rw [if_neg hc] at h; exact h.elim
end
end VL

set_option maxHeartbeats 4000000
namespace VL
open PySem PySem.Spec PyProof.Rows L2

/-! ### cells change -/
def lstC (ce : List (Option Cell)) (w : W) : Option (Nat × List W) := match w with
  | .c k => match ce[k]? with
    | some (some (.lst ws)) => some (k, ws)
    | _ => none
  | _ => none
theorem lstC_eq {ce : List (Option Cell)} {w : W} {k : Nat} {ws : List W} (h : lstC ce w = some (k, ws)) : w = .c k ∧ ce[k]? = some (some (.lst ws)) := by
  unfold lstC at h
  split at h
  · split at h
    · rename_i h1; cases h; exact ⟨rfl, h1⟩
    · cases h
  · cases h
def putC (s : S) (k : Nat) (ws : List W) : S := ⟨s.sl, s.ce.set k (some (.lst ws))⟩
def eAppend (fo fe : S → Out W) (s : S) : Out W := (fo s).bind fun w s1 => match lstC s1.ce w with
  | none => .bad
  | some _ => (fe s1).bind fun y s2 => match lstC s2.ce w with
    | some (k, ws) => if ws.length < sizeLine then .ok (.d .non) (putC s2 k (ws ++ [y])) else .bad
    | none => .bad
/-- xs.pop() -/
def ePop (fo : S → Out W) (s : S) : Out W := (fo s).bind fun w s1 => match lstC s1.ce w with
  | some (k, ws) => match ws[ws.length - 1]? with
    | some y => .ok y (putC s1 k ws.dropLast)
    | none => .bad
  | none => .bad
/-- xs.pop(i) -/
def ePopAt (fo fe : S → Out W) (s : S) : Out W := (fo s).bind fun w s1 => match lstC s1.ce w with
  | none => .bad
  | some _ => (fe s1).bind fun y s2 => match y, lstC s2.ce w with
    | .d (.int i), some (k, ws) => if -(2 ^ 63) ≤ i ∧ i < 2 ^ 63 then match seqIndex? i ws.length with
        | some j => match ws[j]? with
          | some z => .ok z (putC s2 k (ws.eraseIdx j))
          | none => .bad
        | none => .bad
      else .bad
    | _, _ => .bad
/-- xs[i] = v -/
def sSetIx (fo fi fe : S → Out W) (s : S) : Fl := (fe s).then fun v s1 => (fo s1).then fun w s2 => (fi s2).then fun ix s3 => match ix, lstC s3.ce w with
  | .d (.int i), some (k, ws) => match ixN ws.length i with
    | some j => .nx (putC s3 k (ws.set j v))
    | none => .bad
  | _, _ => .bad
/-- x op= e, of ints -/
def sAug (i : Nat) (g : Int → Int → Int) (fe : S → Out W) (s : S) : Fl := match s.sl[i]? with
  | some (some (.d (.int a))) => (fe s).then fun w s1 => match w with
    | .d (.int b) => .nx (setSl i (.d (.int (g a b))) s1)
    | _ => .bad
  | _ => .bad
/-- a, b = x, y -/
def sPar (is : List Nat) (fr : S → Out (List W)) (s : S) : Fl := (fr s).then fun ws s1 => if ws.length = is.length then .nx ⟨setSls s1.sl (is.zip ws), s1.ce⟩ else .bad
section
variable {K : PySem.W.Frag} {mg : Str → Option Value} {A A' : List Addr} {F F' H H' : Hp} {σ : L2.St} {W' : WX} {s : S} {Q : VK}
theorem RWs.eraseIdx {vs : List V} {ws : List W} (h : RWs K mg A F vs ws) : ∀ n : Nat, RWs K mg A F (vs.eraseIdx n) (ws.eraseIdx n) := by
  induction h with
  | nil => intro i; exact .nil
  | cons h1 h2 ih => intro i; cases i with | zero => exact h2 | succ i => exact .cons h1 (ih i)
theorem RWs.dropLast {vs : List V} {ws : List W} (h : RWs K mg A F vs ws) : RWs K mg A F vs.dropLast ws.dropLast := by
  have e1 : vs.dropLast = vs.take (vs.length - 1) := List.dropLast_eq_take
  have e2 : ws.dropLast = ws.take (ws.length - 1) := List.dropLast_eq_take
  rw [e1, e2, h.length]; exact h.take _
/-- a cell's list as it lies -/
theorem Rel.lst (r : RelC K mg A F s.ce H) {w : W} {v : V} {k : Nat} {ws : List W} (h : RW K mg A F v w) (hl : lstC s.ce w = some (k, ws)) :
    ∃ a vs, v = .ref a ∧ H a = some (.lst vs) ∧ RWs K mg A F vs ws ∧ ∀ ws' vs', RWs K mg A F vs' ws' → RelC K mg A F (s.ce.set k (some (.lst ws'))) (upd H a (.lst vs')) := by
  obtain ⟨rfl, hc⟩ := lstC_eq hl
  obtain ⟨a, ha, rfl⟩ := h
  obtain ⟨b, h1, h2, vs, h3, h4⟩ := r.cell k _ hc
  rw [ha] at h1; cases h1
  exact ⟨a, vs, rfl, h3, h4, fun ws' vs' h' => r.put hc ha ⟨vs', upd_same, h'⟩⟩
theorem Rel.put' (r : Rel K mg A F s σ H) {k : Nat} {ws : List W} (c : RelC K mg A F (s.ce.set k (some (.lst ws))) H') : Rel K mg A F (putC s k ws) σ H' := ⟨c, r.sz, r.slot⟩
end
section
variable {X : Cx} {W' : WX} {e o i a b : Expr} {es : List Expr} {fo fe fi : S → Out W} {fr : S → Out (List W)} {pos apos cpos : Pos}
theorem ve_append (ho : VE X W' o fo) (he : VE X W' e fe) (hbase : attributeBase o "append" X.env (eval o X.env) = eval o X.env := by rfl)
    (hfew : ((backTo cpos (starEach [e] X.env)).all (fun x => !x.1) && (backToKw cpos (keywordEach [] X.env)).all (fun x => x.1.isSome) && decide ([e].length + ([] : List Keyword).length + (if ([] : List Keyword).isEmpty then 0 else 1) < 30)) = true := by rfl)
    (hline : (apos.endLine == cpos.line) = true := by rfl) (hs : starEach [e] X.env = (false, eval e X.env) :: starEach [] X.env := by rfl) (hplain : (backTo cpos (starEach [] X.env)).any (·.1) = false := by rfl) :
    VE X W' (.Call (.Attribute o "append" apos) [e] [] cpos) (eAppend fo fe) :=
  PE.imp (pe_bm PySem.F.plainAttrs_list PySem.F.slot_list_append PySem.F.type_list_append mt_append ho (pa_cons he pa_nil hs) hbase hfew hline hs hplain) fun σ H Q h => by
  obtain ⟨s, A, F, r, q⟩ := h
  refine ⟨s, A, F, r, PostE.imp (PostE.bind q) fun vx H1 ⟨x, s1, A1, F1, a1, e1, r1, rx, q1⟩ => ?_⟩
  cases hl : lstC s1.ce x with
  | none => rw [hl] at q1; exact q1.elim
  | some p =>
    rw [hl] at q1
    obtain ⟨a, vs, rfl, h1, _, _⟩ := Rel.lst r1.cs rx hl
    refine ⟨Or.inl ⟨rfl, vs, SqL.of h1⟩, s1, A1, F1, r1, PostE.imp (PostE.bind q1) fun vy H2 ⟨y, s2, A2, F2, a2, e2, r2, ry, q2⟩ => ?_⟩
    cases hl2 : lstC s2.ce x with
    | none => rw [hl2] at q2; exact q2.elim
    | some p2 =>
      obtain ⟨k, ws⟩ := p2
      rw [hl2] at q2
      simp only at q2
      by_cases hz : ws.length < sizeLine
      · rw [if_pos hz] at q2
        obtain ⟨b, us, hb, h3, h4, h5⟩ := Rel.lst r2.cs (rx.mono a2 e2) hl2
        cases hb
        refine ⟨a, us, vy, rfl, rfl, h3, by rw [h4.length]; exact hz, q2 A2 F2 _ _ (List.prefix_refl _) (Ex.refl _) (r2.put' (h5 _ _ (h4.append (.cons ry .nil)))) .non⟩
      · rw [if_neg hz] at q2; exact q2.elim
theorem ve_pop (ho : VE X W' o fo) (hbase : attributeBase o "pop" X.env (eval o X.env) = eval o X.env := by rfl) (hline : (apos.endLine == cpos.line) = true := by rfl) :
    VE X W' (.Call (.Attribute o "pop" apos) [] [] cpos) (ePop fo) := PE.imp (pe_bm0 PySem.F.plainAttrs_list PySem.F.slot_list_pop PySem.F.type_list_pop mt_pop ho hbase hline) fun σ H Q h => by
  obtain ⟨s, A, F, r, q⟩ := h
  refine ⟨s, A, F, r, PostE.imp (PostE.bind q) fun vx H1 ⟨x, s1, A1, F1, a1, e1, r1, rx, q1⟩ => ?_⟩
  cases hl : lstC s1.ce x with
  | none => rw [hl] at q1; exact q1.elim
  | some p =>
    obtain ⟨k, ws⟩ := p
    rw [hl] at q1
    obtain ⟨a, vs, rfl, h1, h2, h3⟩ := Rel.lst r1.cs rx hl
    simp only at q1
    cases hy : ws[ws.length - 1]? with
    | none => rw [hy] at q1; exact q1.elim
    | some y =>
      rw [hy] at q1
      obtain ⟨v, hv, hr⟩ := h2.get hy
      exact ⟨Or.inl ⟨rfl, vs, SqL.of h1⟩, a, vs, v, rfl, rfl, h1, by rw [h2.length]; exact hv, q1 A1 F1 _ _ (List.prefix_refl _) (Ex.refl _) (r1.put' (h3 _ _ h2.dropLast)) hr⟩
theorem ve_popAt (ho : VE X W' o fo) (he : VE X W' e fe) (hbase : attributeBase o "pop" X.env (eval o X.env) = eval o X.env := by rfl)
    (hfew : ((backTo cpos (starEach [e] X.env)).all (fun x => !x.1) && (backToKw cpos (keywordEach [] X.env)).all (fun x => x.1.isSome) && decide ([e].length + ([] : List Keyword).length + (if ([] : List Keyword).isEmpty then 0 else 1) < 30)) = true := by rfl)
    (hline : (apos.endLine == cpos.line) = true := by rfl) (hs : starEach [e] X.env = (false, eval e X.env) :: starEach [] X.env := by rfl) (hplain : (backTo cpos (starEach [] X.env)).any (·.1) = false := by rfl) :
    VE X W' (.Call (.Attribute o "pop" apos) [e] [] cpos) (ePopAt fo fe) :=
  PE.imp (pe_bm PySem.F.plainAttrs_list PySem.F.slot_list_pop PySem.F.type_list_pop mt_popAt ho (pa_cons he pa_nil hs) hbase hfew hline hs hplain) fun σ H Q h => by
  obtain ⟨s, A, F, r, q⟩ := h
  refine ⟨s, A, F, r, PostE.imp (PostE.bind q) fun vx H1 ⟨x, s1, A1, F1, a1, e1, r1, rx, q1⟩ => ?_⟩
  cases hl : lstC s1.ce x with
  | none => rw [hl] at q1; exact q1.elim
  | some p =>
    rw [hl] at q1
    obtain ⟨a, vs, rfl, h1, _, _⟩ := Rel.lst r1.cs rx hl
    refine ⟨Or.inl ⟨rfl, vs, SqL.of h1⟩, s1, A1, F1, r1, PostE.imp (PostE.bind q1) fun vy H2 ⟨y, s2, A2, F2, a2, e2, r2, ry, q2⟩ => ?_⟩
    split at q2
    · rename_i i k ws hl2
      cases ry
      split at q2
      · rename_i hb
        split at q2
        · rename_i j hj
          split at q2
          · rename_i z hz
            obtain ⟨b, us, hb', h3, h4, h5⟩ := Rel.lst r2.cs (rx.mono a2 e2) hl2
            cases hb'
            obtain ⟨v, hv, hr⟩ := h4.get hz
            exact ⟨a, us, i, j, v, rfl, rfl, h3, hb.1, hb.2, by rw [h4.length]; exact hj, hv, q2 A2 F2 _ _ (List.prefix_refl _) (Ex.refl _) (r2.put' (h5 _ _ (h4.eraseIdx j))) hr⟩
          · exact q2.elim
        · exact q2.elim
      · exact q2.elim
    · exact q2.elim
theorem vs_setIx (ho : VE X W' o fo) (hi : VE X W' i fi) (he : VE X W' e fe)
    (hs : swapsWithSole [.Subscript o i apos] e pos.line X.env = pure false := by rfl) (hw : swappedStores [.Subscript o i apos] e X.env = pure none := by rfl) (h1 : (assignEach [.Subscript o i apos] X.env).map (·.2) = [assign (.Subscript o i apos) X.env] := by rfl)
    (ha : ∀ v, assign (.Subscript o i apos) X.env v = (do
      let ov ← holding [v] (eval o X.env)
      let iv ← holding [v, ov] (eval i X.env)
      standAt apos
      holding [v, ov, iv] (setItem ov iv v)
      release [v, ov, iv] []) := by intro _; rfl) :
    VS X W' (.Assign [.Subscript o i apos] e pos) (sSetIx fo fi fe) := PS.imp (ps_asg he (pg_sub ho hi set_list ha) hs hw h1) fun De σ H h => by
  obtain ⟨s, A, F, r, q⟩ := h
  refine ⟨s, A, F, r, PostE.imp (PostE.thenS q) fun v H1 ⟨w, s1, A1, F1, a1, e1, r1, rw1, q1⟩ => ?_⟩
  refine ⟨s1, A1, F1, r1, PostE.imp (PostE.thenS q1) fun vo H2 ⟨wo, s2, A2, F2, a2, e2, r2, rw2, q2⟩ => ?_⟩
  refine ⟨s2, A2, F2, r2, PostE.imp (PostE.thenS q2) fun vi H3 ⟨wi, s3, A3, F3, a3, e3, r3, rw3, q3⟩ => ?_⟩
  split at q3
  · rename_i ii k ws hl
    cases rw3
    obtain ⟨b, us, rfl, h3, h4, h5⟩ := Rel.lst r3.cs (rw2.mono a3 e3) hl
    split at q3
    · rename_i j hj
      exact ⟨b, us, ii, j, rfl, rfl, h3, by rw [h4.length]; exact hj, q3 A3 F3 _ σ (List.prefix_refl _) (Ex.refl _) (r3.put' (h5 _ _ (h4.set ((rw1.mono a2 e2).mono a3 e3) j)))⟩
    · exact q3.elim
  · exact q3.elim
theorem vs_aug (j : Nat) {x : Str} {op : Operator} {g : Int → Int → Int} {pos' : Pos} (hop : OpR X (inplaceOp op) (rI0 fun i j => .int (g i j))) (hN : X.N.Nodup) (he : VE X W' e fe) (hi : X.N[j]? = some x := by rfl) (hx : Loc X.env.scope x := by first | exact Or.inl rfl | exact Or.inr rfl)
    (hf : X.fn x = true ∨ X.env.scope.names.lookup x = some .local := by first | exact .inl rfl | exact .inr rfl | assumption) : VS X W' (.AugAssign (.Name x pos') op e pos) (sAug j g fe) := PS.imp (ps_aug hN hi hx he hop hf) fun De σ H h => by
  obtain ⟨s, A, F, r, q⟩ := h
  unfold sAug at q
  split at q
  · rename_i a ha
    obtain ⟨v, h1, h2⟩ := r.slot j _ ha
    cases h2
    refine ⟨.int a, h1, s, A, F, r, PostE.imp (PostE.thenS q) fun vy H1 ⟨w, s1, A1, F1, a1, e1, r1, rw1, q1⟩ => ?_⟩
    split at q1
    · rename_i b
      cases rw1
      exact ⟨a, b, rfl, rfl, q1 A1 F1 H1 _ (List.prefix_refl _) (Ex.refl _) (r1.set (w := .d (.int (g a b))) (.int _) j)⟩
    · exact q1.elim
  · exact q.elim
theorem PostA.thenS {K : PySem.W.Frag} {mg : Str → Option Value} {A : List Addr} {F : Hp} {σ : L2.St} {De : Ends} {o : Out (List W)} {g : List W → S → Fl} (h : PostS K mg W' A F De (o.then g)) :
    PostA K mg W' A F σ (fun v H1 => ∃ w s1 A1 F1, A <+: A1 ∧ Ex F F1 ∧ Rel K mg A1 F1 s1 σ H1 ∧ RWs K mg A1 F1 v w ∧ PostS K mg W' A1 F1 De (g w s1)) o := by
  cases o with
  | ok w s' => exact fun A' F' H' v a e r q => ⟨w, s', A', F', a, e, r, q, PostS.later h a e⟩
  | exc c ns ws s' => exact fun A' F' H' C d vs a e r m q hd => h A' F' H' C d vs σ a e r m q hd
  | bad => exact h
theorem vs_par {j k : Nat} {x y : Str} {px py pt : Pos} {kt k2 pt2} (hc : X.calm = true) (hN : X.N.Nodup) (hjk : j ≠ k) (ha : VA X W' [a, b] fr) (hj : X.N[j]? = some x := by rfl) (hk : X.N[k]? = some y := by rfl)
    (hx : X.env.scope.names.lookup x = some .local := by rfl) (hy : X.env.scope.names.lookup y = some .local := by rfl)
    (hw : swappedStores [.Tuple [.Name x px, .Name y py] kt pt] (.Tuple [a, b] k2 pt2) X.env = pure (some [x, y]) := by rfl)
    (hs : swapsWithSole [.Tuple [.Name x px, .Name y py] kt pt] (.Tuple [a, b] k2 pt2) pos.line X.env = pure false := by rfl) :
    VS X W' (.Assign [.Tuple [.Name x px, .Name y py] kt pt] (.Tuple [a, b] k2 pt2) pos) (sPar [j, k] fr) := PS.imp (ps_par hc hN hj hk hjk hx hy ha hw hs) fun De σ H h => by
  obtain ⟨s, A, F, r, q⟩ := h
  refine ⟨s, A, F, r, PostA.imp (PostA.thenS q) fun vs H1 ⟨ws, s1, A1, F1, a1, e1, r1, rw1, q1⟩ => ?_⟩
  split at q1
  · rename_i hl
    match ws, rw1, hl with
    | [w1, w2], .cons h1 (.cons h2 .nil), _ =>
      exact ⟨_, _, rfl, q1 A1 F1 H1 _ (List.prefix_refl _) (Ex.refl _) ((r1.set h1 j).set h2 k)⟩
  · exact q1.elim
theorem vs_par3 {c : Expr} {j k l : Nat} {x y z : Str} {px py pz pt : Pos} {kt k2 pt2} (hc : X.calm = true) (hN : X.N.Nodup) (hjk : j ≠ k) (hjl : j ≠ l) (hkl : k ≠ l) (ha : VA X W' [a, b, c] fr) (hj : X.N[j]? = some x := by rfl) (hk : X.N[k]? = some y := by rfl) (hl : X.N[l]? = some z := by rfl)
    (hx : X.env.scope.names.lookup x = some .local := by rfl) (hy : X.env.scope.names.lookup y = some .local := by rfl) (hz : X.env.scope.names.lookup z = some .local := by rfl)
    (hw : swappedStores [.Tuple [.Name x px, .Name y py, .Name z pz] kt pt] (.Tuple [a, b, c] k2 pt2) X.env = pure (some [x, y, z]) := by rfl)
    (hs : swapsWithSole [.Tuple [.Name x px, .Name y py, .Name z pz] kt pt] (.Tuple [a, b, c] k2 pt2) pos.line X.env = pure false := by rfl) :
    VS X W' (.Assign [.Tuple [.Name x px, .Name y py, .Name z pz] kt pt] (.Tuple [a, b, c] k2 pt2) pos) (sPar [j, k, l] fr) := PS.imp (ps_par3 hc hN hj hk hl hjk hjl hkl hx hy hz ha hw hs) fun De σ H h => by
  obtain ⟨s, A, F, r, q⟩ := h
  refine ⟨s, A, F, r, PostA.imp (PostA.thenS q) fun vs H1 ⟨ws, s1, A1, F1, a1, e1, r1, rw1, q1⟩ => ?_⟩
  split at q1
  · rename_i hl'
    match ws, rw1, hl' with
    | [w1, w2, w3], .cons h1 (.cons h2 (.cons h3 .nil)), _ =>
      exact ⟨_, _, _, rfl, q1 A1 F1 H1 _ (List.prefix_refl _) (Ex.refl _) (((r1.set h1 j).set h2 k).set h3 l)⟩
  · exact q1.elim
end
/-! ### isinstance -/
def tyD : D → Option String
  | .non => some "NoneType"
  | .bl _ => some "bool"
  | .int _ => some "int"
  | .str _ => some "str"
  | .lst _ => some "list"
  | .tup _ => some "tuple"
  | .dic _ _ => some "dict"
  | .scr _ => some "list"
  | _ => none
def isSub (t c : String) : Bool := t == c || (t == "bool" && c == "int")
/-- a value's type; of a cell its own alone is looked at -/
def tyW (ce : List (Option Cell)) : W → Option String
  | .d x => tyD x
  | .c k => match ce[k]? with
    | some (some (.lst _)) => some "list"
    | some (some (.dK _ _)) => some "dict"
    | some (some (.dT _ _)) => some "dict"
    | _ => none
@[simp] theorem tyW_d {x : D} {ce : List (Option Cell)} : tyW ce (.d x) = tyD x := rfl
def isC : List String := ["int", "bool", "str", "list", "tuple", "dict"]
theorem kit_is : ∀ t ∈ ["NoneType", "bool", "int", "str", "list", "tuple", "dict"], ∀ c ∈ isC, kitB t c = some (isSub t c) := by decide +kernel
section
variable {K : PySem.W.Frag} {mg : Str → Option Value} {A : List Addr} {F H : Hp} {ce : List (Option Cell)} {X : Cx}
theorem tyD_mem {d : D} {t : String} (h : tyD d = some t) : t ∈ ["NoneType", "bool", "int", "str", "list", "tuple", "dict"] := by
  cases d <;> simp [tyD] at h <;> subst h <;> decide
theorem tyx_of {v : V} {d : D} {t : String} (h : RT K mg F H v d) (e : tyD d = some t) (r : Ex F H) : TyX K H v (.type t) := by
  cases h with
  | lst h1 h2 => simp [tyD] at e; subst e; exact .base (.lst h1)
  | tup h1 h2 =>
    simp [tyD] at e; subst e
    rcases h1 with (h1 | ⟨o, h1⟩) | ⟨o, its, n, h1, h2, _⟩
    · exact .base (.tup h1)
    · exact .fTuple h1
    · exact .kTuple h1 h2
  | dicK h1 _ _ => simp [tyD] at e; subst e; exact .base (.dK h1)
  | dicT _ h1 _ _ => simp [tyD] at e; subst e; exact .base (.dT h1)
  | flat h0 h1 h2 h3 =>
    cases h0 with
    | non => simp [tyD] at e; subst e; exact .base .non
    | bl b => simp [tyD] at e; subst e; exact .base (.bl b)
    | int b => simp [tyD] at e; subst e; exact .base (.int b)
    | str b => simp [tyD] at e; subst e; exact .base (.str b)
    | scr hs =>
      simp [tyD] at e; subst e
      rcases ex_l r hs with (h | ⟨o, h⟩) | ⟨o, its, n, h, h2, _⟩
      · exact .base (.lst h)
      · exact .base (.frz h)
      · exact .kList h h2
    | ty n => simp [tyD] at e
    | glob _ _ => simp [tyD] at e
    | lst _ _ => exact absurd rfl (h1 _)
    | tup _ _ => exact absurd rfl (h2 _)
    | dicK _ _ _ => exact absurd rfl (h3 _ _)
    | dicT _ _ _ _ => exact absurd rfl (h3 _ _)
    | ins _ _ _ _ => simp [tyD] at e
theorem tyW_mem {w : W} {t : String} (h : tyW ce w = some t) : t ∈ ["NoneType", "bool", "int", "str", "list", "tuple", "dict"] := by
  cases w with
  | d x => exact tyD_mem h
  | c k => simp only [tyW] at h; split at h <;> cases h <;> decide
theorem tyx_ofW {v : V} {w : W} {t : String} (rc : RelC K mg A F ce H) (h : RW K mg A F v w) (e : tyW ce w = some t) : TyX K H v (.type t) := by
  cases w with
  | d x => exact tyx_of (R.rt h rc.ex) e rc.ex
  | c k =>
    obtain ⟨a, ha, rfl⟩ := h
    simp only [tyW] at e
    split at e
    · rename_i ws hc
      cases e
      obtain ⟨b, h1, h2, vs, h3, h4⟩ := rc.cell k _ hc
      rw [ha] at h1; cases h1
      exact .base (.lst h3)
    · rename_i ks ws hc
      cases e
      obtain ⟨b, h1, h2, vs, hl, h4, h3⟩ := rc.cell k _ hc
      rw [ha] at h1; cases h1
      exact .base (.dK h3)
    · rename_i ks ws hc
      cases e
      obtain ⟨b, h1, h2, vs, hl, h4, h3⟩ := rc.cell k _ hc
      rw [ha] at h1; cases h1
      exact .base (.dT h3)
    · cases e
/-- isinstance(x, T), T a built-in class -/
def isiN : PN := fun ce ws => match ws with
  | [x, .d (.ty c)] => if c ∈ isC then (tyW ce x).map fun t => .bl (isSub t c) else none
  | _ => none
@[simp] theorem isiN_d {x : W} {c : String} : isiN ce [x, .d (.ty c)] = if c ∈ isC then (tyW ce x).map (fun t => .bl (isSub t c)) else none := rfl
theorem b_isi : CallR X (.builtin "isinstance") (rPN X.K X.mg isiN) := by
  intro pins s σ H xs us Q I r ⟨ce, A, F, ws, d, rc, hx, ho, fin⟩
  unfold isiN at ho
  split at ho
  · rename_i wx c
    split at ho
    · rename_i hc
      cases hx with
      | cons h1 h2 => cases h2 with
        | cons h2 h3 =>
        cases h3
        cases ht : tyW ce wx with
        | none => rw [ht] at ho; cases ho
        | some t =>
          rw [ht] at ho
          cases ho
          cases h2
          exact call_isi pins s σ H _ us Q I r ⟨_, .ty c, .type t, .type c, isSub t c, rfl, .ty c, tyx_ofW rc h1 ht, kit_ty (kit_is t (tyW_mem ht) c hc), fin.now rc (.bl _)⟩
    · cases ho
  · cases ho
end
/-- isinstance(x, (T, U, ..)) -/
def eIsi (cs : List String) (fa : S → Out W) (s : S) : Out W := (fa s).bind fun w s1 => opt ((tyW s1.ce w).map fun t => .bl (cs.any (isSub t))) s1
theorem kitAny_ty {K : PySem.W.Frag} {t : String} (ht : t ∈ ["NoneType", "bool", "int", "str", "list", "tuple", "dict"]) : ∀ cs : List String, (∀ c ∈ cs, c ∈ isC) → PySem.W.kitAny K (.type t) (cs.map Value.type) = some (cs.any (isSub t))
  | [], _ => rfl
  | c :: cs, h => by
    refine kitAny_cons (kit_ty (kit_is t ht c (h c (by simp)))) (r := (c :: cs).any (isSub t)) (fun hf => ?_) (fun hb => by simp [hb])
    rw [List.any_cons, hf, Bool.false_or]
    exact kitAny_ty ht cs (fun c hc => h c (by simp [hc]))
theorem cls_all : ∀ cs : List String, Paired ClsV (cs.map V.ty) (cs.map Value.type)
  | [] => .nil
  | c :: cs => .cons (.ty c) (cls_all cs)
section
variable {X : Cx} {W' : WX} {a : Expr} {ts : List Expr} {fa : S → Out W} {p pos tpos : Pos} {tk : Nat}
def tTys : List String → TA
  | [] => tNil
  | c :: cs => tCons (tC (.ty c)) (tTys cs)
theorem tTys_run {σ : L2.St} : ∀ {cs : List String} {H : Hp} {Q : List V → Hp → Prop}, Q (cs.map V.ty) H → tTys cs σ H Q
  | [], _, _, q => q
  | _ :: cs, _, _, q => tTys_run (cs := cs) q
theorem ve_isiT (cs : List String) (hcs : cs.all (fun c => decide (c ∈ isC)) = true ∧ cs.length ≤ 100) (hm : X.mg "isinstance" = none) (hv : bootBuiltins "isinstance" = some (.builtin "isinstance")) (ha : VE X W' a fa) (ht : PA X ts (tTys cs)) (hg : Gl X "isinstance" := by rfl)
    (he1 : starEach [.Tuple ts tk tpos] X.env = (false, eval (.Tuple ts tk tpos) X.env) :: starEach [] X.env := by rfl)
    (he : starEach (a :: [.Tuple ts tk tpos]) X.env = (false, eval a X.env) :: starEach [.Tuple ts tk tpos] X.env := by rfl) (hpl : (backTo pos (starEach [.Tuple ts tk tpos] X.env)).any (·.1) = false := by rfl) :
    VE X W' (.Call (.Name "isinstance" p) (a :: [.Tuple ts tk tpos]) [] pos) (eIsi cs fa) :=
  PE.imp (pe_callB call_isiT hg hm hv (pa_cons ha (pa_cons (pe_tup ht) pa_nil he1) he) (by decide) (by decide) he hpl) fun σ H Q h => by
  obtain ⟨s, A, F, r, q⟩ := h
  refine ⟨s, A, F, r, PostE.imp (PostE.bind q) fun vx H1 ⟨x, s1, A1, F1, a1, e1, r1, rx, q1⟩ => ?_⟩
  cases ht : tyW s1.ce x with
  | none => rw [ht] at q1; exact q1.elim
  | some t =>
    rw [ht] at q1
    simp only [Option.map, opt_some] at q1
    refine tTys_run ⟨by rw [List.length_map]; exact Nat.le_trans hcs.2 (by decide), fun p hp => ?_⟩
    have ef : Ex F1 (upd F1 p (.tup (cs.map V.ty))) := ex_upd (r1.cs.none_of hp)
    have r2 := r1.slots ef (r1.cs.new hp (.tup (cs.map V.ty)))
    have hmem : ∀ c ∈ cs, c ∈ isC := fun c hc => by have := List.all_eq_true.mp hcs.1 c hc; simpa using this
    exact ⟨vx, p, cs.map V.ty, .type t, cs.map Value.type, cs.any (isSub t), rfl, upd_same, cls_all cs, tyx_ofW r2.cs (rx.mono (List.prefix_refl _) ef) ht, kitAny_ty (tyW_mem ht) cs hmem, q1 A1 _ _ _ (List.prefix_refl _) ef r2 (.bl _)⟩
end
/-! ### len, also of cells; a cell is frozen -/
def lenN : PN := fun ce ws => match ws with
  | [.d x] => fLen x
  | [.c k] => match ce[k]? with
    | some (some (.lst ws)) => some (.int (ws.length : Nat))
    | _ => none
  | _ => none
@[simp] theorem lenN_d {x : D} {ce : List (Option Cell)} : lenN ce [.d x] = fLen x := rfl
theorem b_lenN {X : Cx} : CallR X (.builtin "len") (rPN X.K X.mg lenN) := by
  intro pins s σ H xs us Q I r ⟨ce, A, F, ws, d, rc, hx, ho, fin⟩
  unfold lenN at ho
  split at ho
  · rename_i x
    exact b_len pins s σ H xs us Q I r ⟨ce, A, F, [.d x], d, rc, hx, ho, fin⟩
  · rename_i k
    split at ho
    · rename_i ws' hc
      cases ho
      obtain ⟨v, rfl, hv⟩ := one_vs hx
      obtain ⟨a, ha, rfl⟩ := hv
      obtain ⟨b, h1, h2, vs, h3, h4⟩ := rc.cell k _ hc
      rw [ha] at h1; cases h1
      exact call_len pins s σ H _ us Q I r ⟨_, _, rfl, .inl ⟨vs, SqL.of h3, rfl⟩, by rw [h4.length]; exact fin.now rc (.int _)⟩
    · cases ho
  · cases ho
def eFrz (fa : S → Out W) (s : S) : Out W := (fa s).bind fun w s1 => match w with
  | .d x => .ok (.d x) s1
  | .c k => match s1.ce[k]? with
    | some (some (.lst ws)) => match datAll ws with
      | some ds => .ok (.d (.lst ds)) ⟨s1.sl, s1.ce.set k none⟩
      | none => .bad
    | _ => .bad
theorem ve_frz {X : Cx} {W' : WX} {e : Expr} {fa : S → Out W} (h : VE X W' e fa) : VE X W' e (eFrz fa) := PE.imp h fun σ H Q h => by
  obtain ⟨s, A, F, r, q⟩ := h
  refine ⟨s, A, F, r, ?_⟩
  unfold eFrz at q
  revert q
  cases fa s with
  | bad => exact fun q => q
  | exc c ns ws s' => exact fun q => q
  | ok w s1 =>
    intro q A1 F1 H1 v a1 e1 r1 hv
    simp only [Out.bind_ok] at q
    cases w with
    | d x => exact q A1 F1 H1 v a1 e1 r1 hv
    | c k =>
      simp only at q
      split at q
      · rename_i ws hc
        cases hd : datAll ws with
        | none => rw [hd] at q; exact q.elim
        | some ds =>
          rw [hd] at q
          obtain ⟨F2, b, hb, e2, c2, hr⟩ := r1.cs.freeze hc hd
          obtain ⟨a, ha, rfl⟩ := hv
          rw [ha] at hb; cases hb
          exact q A1 F2 H1 _ a1 (e1.trans e2) (r1.cells (List.prefix_refl _) e2 c2) hr
      · exact q.elim
end VL

set_option maxHeartbeats 1000000
namespace VL
open PySem PySem.Spec PyProof.Rows L2

/-! ### zip, enumerate: of lists and tuples in any mix -/
inductive SK where
  | l | t
def SK.itO (a : Addr) : SK → Obj
  | .l => { cls := .type "list_iterator", data := .fields #[.ref a, .int 0 0] }
  | .t => { cls := .type "tuple_iterator", data := .fields #[.ref a, .int 0 0] }
def SK.HS (h : Heap) (a : Addr) (items : Array Value) : SK → Prop
  | .l => h.IsList a items
  | .t => h.IsTuple a items
def SK.IT (h : Heap) (it a : Addr) (i : Nat) : SK → Prop
  | .l => h.IsListIter it a i
  | .t => h.IsTupleIter it a i
def SK.Sq (K : PySem.W.Frag) (H : Hp) (a : Addr) (xs : List V) : SK → Prop
  | .l => SqL K H a xs
  | .t => SqT K H a xs
theorem SK.draws {P : Program} {w : World} {A : Around} (hh : A.handled = none) (k : SK) (it a : Addr) (hne : a ≠ it) (items : Array Value) :
    Draws P w A it [it, a] items.size (fun i v => items[i]? = some v) (fun i h => k.IT h it a i ∧ k.HS h a items) := by
  cases k with
  | l => exact Draws.list hh it a hne items
  | t => exact Draws.tuple hh it a hne items
theorem SK.begins (k : SK) (a : Addr) (items : Array Value) : Begins (.ref a) (k.itO a) fun h => k.HS h a items := by
  cases k with
  | l => exact begins_list a items
  | t => exact begins_tuple a items
theorem SK.itAt (k : SK) {h : Heap} {it a : Addr} (e : h.get? it = some (k.itO a)) : k.IT h it a 0 := by
  cases k with
  | l => exact ⟨_, e, rfl, rfl⟩
  | t => exact ⟨_, e, rfl, rfl⟩
theorem SK.itObj (k : SK) {h : Heap} {it a : Addr} {i : Nat} (e : k.IT h it a i) : ∃ o, h.get? it = some o ∧ ∀ v, o.data ≠ .cell v := by
  cases k with
  | l => obtain ⟨o, h1, h2, h3⟩ := e; exact ⟨o, h1, fun v q => by rw [h3] at q; cases q⟩
  | t => obtain ⟨o, h1, h2, h3⟩ := e; exact ⟨o, h1, fun v q => by rw [h3] at q; cases q⟩
theorem SK.itKeep (k : SK) {h h' : Heap} {it a : Addr} {i : Nat} (e : k.IT h it a i) (q : ∀ o, h.get? it = some o → h'.get? it = some o) : k.IT h' it a i := by
  cases k with
  | l => exact Heap.IsListIter.at e q
  | t => exact Heap.IsTupleIter.at e q
section
variable {X : Cx} {pins : List (Addr × Obj)} {σ : L2.St} {H : Hp} {s : Shared} {a : Addr} {xs ys : List V}
theorem SK.of (k : SK) (I : L2.Inv X pins σ H s) (h : k.Sq X.K H a xs) : ∃ its : List Value, Vals xs its ∧ k.HS s.heap a its.toArray ∧ a < s.heap.objs.size := by
  cases k with
  | l => obtain ⟨its, rv, p, _⟩ := I.list h; exact ⟨its, rv, p.isList, p.lt⟩
  | t => obtain ⟨its, rv, p, _⟩ := I.tuple h; exact ⟨its, rv, p, p.lt⟩
theorem SK.inj (k : SK) (I : L2.Inv X pins σ H s) (h : k.Sq X.K H a xs) (h' : k.Sq X.K H a ys) : xs = ys := by
  cases k with
  | l => exact I.list_inj h h'
  | t => exact I.tuple_inj h h'
end
/-- pairs of the items of a and b, as they stand at each turn -/
def ItzK (K : PySem.W.Frag) (k1 k2 : SK) (a b : Addr) : It :=
  ⟨fun i H => ∃ (xs ys : List V) (x y : V), k1.Sq K H a xs ∧ k2.Sq K H b ys ∧ xs[i]? = some x ∧ ys[i]? = some y,
    fun i H v H' => ∃ T x y, v = .ref T ∧ H T = none ∧ H' = upd H T (.tup [x, y]) ∧ (∀ xs, k1.Sq K H a xs → xs[i]? = some x) ∧ ∀ ys, k2.Sq K H b ys → ys[i]? = some y,
    fun i H => ∃ xs ys : List V, k1.Sq K H a xs ∧ k2.Sq K H b ys ∧ i = min xs.length ys.length⟩
theorem turn_zipK {P : Program} {w : World} {K : PySem.W.Frag} {elts : List Expr} {kk : Nat} {tpos : Pos} {a b z TI TO i1 i2 : Addr} (k1 k2 : SK) (D : ZipSep2 z TI TO i1 i2 [i1, a] [i2, b]) (n1 : a ≠ i1) (n2 : b ≠ i2) :
    Turn P w K (.Tuple elts kk tpos) (ItzK K k1 k2 a b) [z, TI, TO, i1, i2] z (fun i h => IsZip h z TI TO .none ∧ IsTupOf2 h TI (.ref i1) (.ref i2) ∧ (∃ x y, IsTupOf2 h TO x y) ∧ k1.IT h i1 a i ∧ k2.IT h i2 b i) where
  mem := by simp
  obj := fun i h ⟨hz, hTI, ⟨x, y, hTO⟩, h1, h2⟩ c hc => by
    have e' : c = z ∨ c = TI ∨ c = TO ∨ c = i1 ∨ c = i2 := by simpa using hc
    rcases e' with q | q | q | q | q
    · exact q ▸ ⟨_, hz, fun v q => nomatch q⟩
    · exact q ▸ ⟨_, hTI, fun v q => nomatch q⟩
    · exact q ▸ ⟨_, hTO, fun v q => nomatch q⟩
    · exact q ▸ k1.itObj h1
    · exact q ▸ k2.itObj h2
  keep := fun i h h' ⟨hz, hTI, ⟨x, y, hTO⟩, h1, h2⟩ k =>
    ⟨k z (by simp) _ hz, k TI (by simp) _ hTI, ⟨x, y, k TO (by simp) _ hTO⟩, k1.itKeep h1 fun o q => k i1 (by simp) o q, k2.itKeep h2 fun o q => k i2 (by simp) o q⟩
  item := by
    intro X hP hw hK hc i pins s σ H E I hf st hg
    subst hP hw hK
    obtain ⟨hz, hTI, hTO, h1, h2⟩ := st
    obtain ⟨xs, ys, x, y, hqx, hqy, hx, hy⟩ := hg
    obtain ⟨its, rv, p1, l1⟩ := k1.of I hqx
    obtain ⟨its2, rv2, p2, l2⟩ := k2.of I hqy
    have hd : X.A.in1.handled = none := I.ok.hd hc
    have G := GoesN.zip2 (elts := elts) (x1 := kk) (pos := tpos) D (k1.draws (P := X.prog) (w := X.w) hd i1 a n1 its.toArray) (k2.draws hd i2 b n2 its2.toArray)
    have e1 := rv.length
    have e2 := rv2.length
    have hi : i < min its.toArray.size its2.toArray.size := by
      have q1 := (List.getElem?_eq_some_iff.mp hx).1
      have q2 := (List.getElem?_eq_some_iff.mp hy).1
      simp only [List.size_toArray]; omega
    refine wpAny_mono (G.goes i s (fun v s2 => ∃ x H', L2.Inv X pins σ H' s2 ∧ RelV x v ∧ (ItzK X.K k1 k2 a b).yld i H x H' ∧ (IsZip s2.heap z TI TO .none ∧ IsTupOf2 s2.heap TI (.ref i1) (.ref i2) ∧ (∃ x y, IsTupOf2 s2.heap TO x y) ∧ k1.IT s2.heap i1 a (i + 1) ∧ k2.IT s2.heap i2 b (i + 1)) ∧ ∀ b' ∈ [z, TI, TO, i1, i2], H' b' = none) E hi
      ⟨hz, hTI, hTO, ⟨h1, p1⟩, ⟨h2, p2⟩⟩ fun v h' tk ⟨T, u, u2, ev, hnew, hu, hu2, hT⟩ ⟨z1, z2, z3, z4, z5⟩ kp _ => ?_) (fun r s1 ⟨v, hr, hw⟩ => ⟨v, hr, hw⟩) (fun _ _ h => h)
    subst ev
    obtain ⟨ux, hux, rux⟩ := rv.get hx
    obtain ⟨uy, huy, ruy⟩ := rv2.get hy
    have : u = ux := by have q := hu; simp at q; rw [hux] at q; exact (Option.some.inj q).symm
    subst this
    have : u2 = uy := by have q := hu2; simp at q; rw [huy] at q; exact (Option.some.inj q).symm
    subst this
    have new : ObjOk X.prog X.w (upd H T (.tup [x, y])) h' T (.tup [x, y]) := ⟨by show 2 ≤ sizeLine; decide, [u, u2], .cons rux (.cons ruy .nil), hT⟩
    have I1 : L2.Inv X pins σ (upd H T (.tup [x, y])) { s with heap := h', toks := tk } :=
      I.turnedNew (ch := [z, TI, TO, i1, i2]) (fun c o hb q => kp c o (fun m => hb (by
        have : c = z ∨ c = TO ∨ c = i1 ∨ c = i2 := by simpa using m
        rcases this with e | e | e | e <;> simp [e])) q) hf hnew new
    refine ⟨.ref T, _, I1, rfl, ⟨T, x, y, rfl, I.hok.fresh hnew, rfl, fun l hl => by rw [k1.inj I hl hqx]; exact hx, fun l hl => by rw [k2.inj I hl hqy]; exact hy⟩, ⟨z1, z2, z3, z4.1, z5.1⟩, fun c hcm => ?_⟩
    have hlt : c ≠ T := fun e => by
      subst e
      have q := (hf c hcm).1
      have e' : c = z ∨ c = TI ∨ c = TO ∨ c = i1 ∨ c = i2 := by simpa using hcm
      have hlt : c < s.heap.objs.size := by
        rcases e' with q | q | q | q | q
        · rw [q]; exact Heap.lt_size hz
        · rw [q]; exact Heap.lt_size hTI
        · obtain ⟨_, _, q'⟩ := hTO; rw [q]; exact Heap.lt_size q'
        · obtain ⟨_, q', _⟩ := k1.itObj h1; rw [q]; exact Heap.lt_size q'
        · obtain ⟨_, q', _⟩ := k2.itObj h2; rw [q]; exact Heap.lt_size q'
      exact Nat.lt_irrefl _ (Nat.lt_of_lt_of_le hlt hnew)
    rw [upd_ne hlt]
    exact (hf c hcm).1
  done := by
    intro X hP hw hK hc i pins s σ H E I hf st hg
    subst hP hw hK
    obtain ⟨hz, hTI, hTO, h1, h2⟩ := st
    obtain ⟨xs, ys, hqx, hqy, hend⟩ := hg
    obtain ⟨its, rv, p1, l1⟩ := k1.of I hqx
    obtain ⟨its2, rv2, p2, l2⟩ := k2.of I hqy
    have hd : X.A.in1.handled = none := I.ok.hd hc
    have G := GoesN.zip2 (elts := elts) (x1 := kk) (pos := tpos) D (k1.draws (P := X.prog) (w := X.w) hd i1 a n1 its.toArray) (k2.draws hd i2 b n2 its2.toArray)
    have e1 := rv.length
    have e2 := rv2.length
    have hi : i = min its.toArray.size its2.toArray.size := by simp only [List.size_toArray]; omega
    subst hi
    exact G.stops s (fun s1 => L2.Inv X pins σ H s1) E ⟨hz, hTI, hTO, ⟨h1, p1⟩, ⟨h2, p2⟩⟩ fun h' tk kp _ => I.turnedL (t' := tk) (ch := [z, TI, TO, i1, i2]) (fun c o hb q => kp c o (fun m => hb (by
        have : c = z ∨ c = TO ∨ c = i1 ∨ c = i2 := by simpa using m
        rcases this with e | e | e | e <;> simp [e])) q) hf
  self := fun A i s Q E st h => wpAny_pyIter_zip st.1 h
def iZipK (K : PySem.W.Frag) (ta : TA) : TI := fun σ H R => ta σ H fun vs H1 => ∃ k1 k2 a b xs ys, vs = [.ref a, .ref b] ∧ SK.Sq K H1 a xs k1 ∧ SK.Sq K H1 b ys k2 ∧ R (ItzK K k1 k2 a b) H1
theorem pi_zipK {X : Cx} {e e2 : Expr} {ta : TA} {p pos tpos : Pos} {elts : List Expr} {kk : Nat} (hg : Gl X "zip") (hm : X.mg "zip" = none) (ha : PA X [e, e2] ta)
    (hs : starEach [e, e2] X.env = (false, eval e X.env) :: starEach [e2] X.env := by rfl) (hpl : (backTo pos (starEach [e2] X.env)).any (·.1) = false := by rfl) :
    PI X (.Tuple elts kk tpos) (.Call (.Name "zip" p) [e, e2] [] pos) (iZipK X.K ta) := by
  constructor
  intro pins s σ H R I h
  refine Call_ (ld_blt I hg hm PyProof.Rows.boot_zip (PyProof.Rows.callWith_type1 (thn (ha.run pos pins s σ H _ I h) fun us s1 ⟨vs, H1, I1, r1, k1, k2, a, b, xs, ys, ex, hq1, hq2, q⟩ => ?_) hs hpl))
  subst ex
  cases r1 with
  | cons ra rr =>
  cases rr with
  | cons rb rr =>
  cases rr
  cases ra
  cases rb
  obtain ⟨its, rv, p1, l1⟩ := k1.of I1 hq1
  obtain ⟨its2, rv2, p2, l2⟩ := k2.of I1 hq2
  refine zip_begins2 (k1.begins a its.toArray) (k2.begins b its2.toArray) p1 p2 fun h' hz hTI hTO o1 o2 hsz hk => wpAny_pyIter_zip hz ?_
  have I2 : L2.Inv X pins σ H1 { s1 with heap := h' } := I1.kept (t' := s1.toks) hk
  have D : ZipSep2 (s1.heap.objs.size + 4) (s1.heap.objs.size + 2) (s1.heap.objs.size + 3) s1.heap.objs.size (s1.heap.objs.size + 1) [s1.heap.objs.size, a] [s1.heap.objs.size + 1, b] := zip_sep2 (by simpa using l1) (by simpa using l2)
  have n1 : a ≠ s1.heap.objs.size := Nat.ne_of_lt l1
  have n2 : b ≠ s1.heap.objs.size + 1 := Nat.ne_of_lt (Nat.lt_succ_of_lt l2)
  have T1 := turn_zipK (P := X.prog) (w := X.w) (K := X.K) (elts := elts) (kk := kk) (tpos := tpos) k1 k2 D n1 n2
  refine ⟨s1.heap.objs.size + 4, [s1.heap.objs.size + 4, s1.heap.objs.size + 2, s1.heap.objs.size + 3, s1.heap.objs.size, s1.heap.objs.size + 1], _, _, H1, rfl, I2, T1, ⟨hz, hTI, ⟨_, _, hTO⟩, k1.itAt o1, k2.itAt o2⟩, fun c hc => ?_, q⟩
  have hle : s1.heap.objs.size ≤ c := by
    have e' : c = s1.heap.objs.size + 4 ∨ c = s1.heap.objs.size + 2 ∨ c = s1.heap.objs.size + 3 ∨ c = s1.heap.objs.size ∨ c = s1.heap.objs.size + 1 := by simpa using hc
    rcases e' with e | e | e | e | e <;> rw [e] <;> omega
  exact I1.fpOk hle (I1.hok.fresh hle)
end VL

set_option maxHeartbeats 1000000
namespace VL
open PySem PySem.Spec PyProof.Rows L2

/-- what may be zipped: the values, the cells that must stay -/
def seqW (w : W) (ce : List (Option Cell)) : Option (List W × List (Nat × Cell)) := match w with
  | .d (.lst ds) => some (ds.map .d, [])
  | .d (.tup ds) => some (ds.map .d, [])
  | .d (.scr ns) => some (ns.map fun n => .d (.int n), [])
  | .c k => match ce[k]? with
    | some (some (.lst ws)) => some (ws, [(k, .lst ws)])
    | _ => none
  | _ => none
@[simp] theorem seqW_lst {ds : List D} {ce : List (Option Cell)} : seqW (.d (.lst ds)) ce = some (ds.map .d, []) := rfl
@[simp] theorem seqW_tup {ds : List D} {ce : List (Option Cell)} : seqW (.d (.tup ds)) ce = some (ds.map .d, []) := rfl
@[simp] theorem seqW_scr {ns : List Int} {ce : List (Option Cell)} : seqW (.d (.scr ns)) ce = some (ns.map fun n => .d (.int n), []) := rfl
section
variable {K : PySem.W.Frag} {mg : Str → Option Value} {A : List Addr} {F : Hp}
/-- a thing that is walked: at each later time it reads as these values -/
structure Seen (K : PySem.W.Frag) (mg : Str → Option Value) (A : List Addr) (F : Hp) (k : SK) (a : Addr) (ws : List W) (kp : List (Nat × Cell)) : Prop where
  see : ∀ A' F' ce H, A <+: A' → Ex F F' → RelC K mg A' F' ce H → Stay kp ce → ∃ vs, k.Sq K H a vs ∧ RWs K mg A' F' vs ws
theorem seqW_seen {ce : List (Option Cell)} {H : Hp} (r : RelC K mg A F ce H) {v : V} {w : W} {ws : List W} {kp : List (Nat × Cell)} (h : RW K mg A F v w) (e : seqW w ce = some (ws, kp)) : ∃ k a, v = .ref a ∧ Stay kp ce ∧ Seen K mg A F k a ws kp := by
  unfold seqW at e
  split at e
  · cases e
    have h' : R K mg F v (.lst _) := h
    cases h' with
    | lst h1 h2 => exact ⟨.l, _, rfl, stay_nil, ⟨fun A' F' ce H p e' r' _ => ⟨_, SqL.of (r'.ex _ _ (e' _ _ h1)), (RWs.ofR h2).mono p e'⟩⟩⟩
  · cases e
    have h' : R K mg F v (.tup _) := h
    cases h' with
    | tup h1 h2 => exact ⟨.t, _, rfl, stay_nil, ⟨fun A' F' ce H p e' r' _ => ⟨_, ex_t (e'.trans r'.ex) h1, (RWs.ofR h2).mono p e'⟩⟩⟩
  · rename_i ns
    cases e
    have h' : R K mg F v (.scr _) := h
    cases h' with
    | scr h1 =>
      have e2 : ns.map (fun n => W.d (.int n)) = (ns.map D.int).map .d := by simp
      rw [e2]
      exact ⟨.l, _, rfl, stay_nil, ⟨fun A' F' ce H p e' r' _ => ⟨_, ex_l (e'.trans r'.ex) h1, (RWs.ofR (rall_ints ns)).mono p e'⟩⟩⟩
  · rename_i k
    split at e
    · rename_i ws' hc
      cases e
      obtain ⟨a, ha, rfl⟩ := h
      refine ⟨.l, a, rfl, fun p hp => by simp at hp; subst hp; exact hc, ⟨fun A' F' ce' H' p e' r' st => ?_⟩⟩
      have hk := st (k, .lst ws) (by simp)
      obtain ⟨b, h1, h2, vs, h3, h4⟩ := r'.cell k _ hk
      have hb : b = a := by
        obtain ⟨t, rfl⟩ := p
        rw [List.getElem?_append_left (List.getElem?_eq_some_iff.mp ha).1, ha] at h1
        cases h1; rfl
      subst hb
      exact ⟨vs, SqL.of h3, h4⟩
    · cases e
  · cases e
theorem stay_append {kp kq : List (Nat × Cell)} {ce : List (Option Cell)} : Stay (kp ++ kq) ce ↔ Stay kp ce ∧ Stay kq ce := by
  constructor
  · intro h; exact ⟨fun p hp => h p (by simp [hp]), fun p hp => h p (by simp [hp])⟩
  · rintro ⟨h1, h2⟩ p hp
    rcases List.mem_append.mp hp with h | h
    · exact h1 p h
    · exact h2 p h
theorem walks_zip {k1 k2 : SK} {a b : Addr} {ws us : List W} {kp kq : List (Nat × Cell)} (h1 : Seen K mg A F k1 a ws kp) (h2 : Seen K mg A F k2 b us kq) : Walks K mg A F (ItzK K k1 k2 a b) ⟨(ws.zip us).map fun p => .pr [p.1, p.2], kp ++ kq⟩ := fun A' F' ce H p e r st i => by
  obtain ⟨s1, s2⟩ := stay_append.mp st
  obtain ⟨vs, q1, r1⟩ := h1.see A' F' ce H p e r s1
  obtain ⟨zs, q2, r2⟩ := h2.see A' F' ce H p e r s2
  refine ⟨fun w hw => ?_, fun hl => ⟨vs, zs, q1, q2, by simp at hl; rw [r1.length, r2.length]; exact hl.symm⟩⟩
  rw [List.getElem?_map] at hw
  cases hz : (ws.zip us)[i]? with
  | none => rw [hz] at hw; cases hw
  | some pr =>
    rw [hz] at hw; cases hw
    obtain ⟨w1, w2⟩ := pr
    obtain ⟨g1, g2⟩ := List.getElem?_zip_eq_some.mp hz
    obtain ⟨v1, f1, t1⟩ := r1.get g1
    obtain ⟨v2, f2, t2⟩ := r2.get g2
    refine ⟨⟨vs, zs, v1, v2, q1, q2, f1, f2⟩, fun x H' ⟨T, x1, x2, e1, hT, e2, g3, g4⟩ => ?_⟩
    have := g3 vs q1; rw [f1] at this; cases this
    have := g4 zs q2; rw [f2] at this; cases this
    subst e2
    have ef : Ex F' (upd F' T (.tup [v1, v2])) := ex_upd (r.none_of hT)
    exact ⟨_, ef, r.new hT _, T, [v1, v2], e1, upd_same, .cons (t1.mono (List.prefix_refl _) ef) (.cons (t2.mono (List.prefix_refl _) ef) .nil)⟩
end
def iZip (fr : S → Out (List W)) (s : S) : Out Src := (fr s).bind fun ws s1 => match ws with
  | [x, y] => match seqW x s1.ce, seqW y s1.ce with
    | some (a, p), some (b, q) => .ok ⟨(a.zip b).map fun p => .pr [p.1, p.2], p ++ q⟩ s1
    | _, _ => .bad
  | _ => .bad
section
variable {X : Cx} {W' : WX} {e e2 : Expr} {fr : S → Out (List W)} {p pos tpos : Pos} {elts : List Expr} {kk : Nat}
theorem vi_zip (hm : X.mg "zip" = none) (ha : VA X W' [e, e2] fr) (hg : Gl X "zip" := by rfl) (hs : starEach [e, e2] X.env = (false, eval e X.env) :: starEach [e2] X.env := by rfl) (hpl : (backTo pos (starEach [e2] X.env)).any (·.1) = false := by rfl) :
    VI X W' (.Tuple elts kk tpos) (.Call (.Name "zip" p) [e, e2] [] pos) (iZip fr) := PI.imp (pi_zipK hg hm ha hs hpl) fun σ H R h => by
  obtain ⟨s, A, F, r, q⟩ := h
  refine ⟨s, A, F, r, PostA.imp (Out.bindIA q) fun vs H1 ⟨ws, s1, A1, F1, a1, e1, r1, rw1, q1⟩ => ?_⟩
  split at q1
  · rename_i x y
    split at q1
    · rename_i a p b q hx hy
      cases rw1 with
      | cons h1 h2 =>
      cases h2 with
      | cons h2 h3 =>
      cases h3
      obtain ⟨k1, a', rfl, st1, sn1⟩ := seqW_seen r1.cs h1 hx
      obtain ⟨k2, b', rfl, st2, sn2⟩ := seqW_seen r1.cs h2 hy
      obtain ⟨vs, g1, _⟩ := sn1.see A1 F1 s1.ce H1 (List.prefix_refl _) (Ex.refl _) r1.cs st1
      obtain ⟨zs, g2, _⟩ := sn2.see A1 F1 s1.ce H1 (List.prefix_refl _) (Ex.refl _) r1.cs st2
      exact ⟨k1, k2, a', b', vs, zs, rfl, g1, g2, q1 A1 F1 H1 _ (List.prefix_refl _) (Ex.refl _) r1 (walks_zip sn1 sn2)⟩
    · exact q1.elim
  · exact q1.elim
end
end VL

set_option maxHeartbeats 1000000
namespace VL
open PySem PySem.Spec PyProof.Rows L2

abbrev enO (it : Addr) : Obj := { cls := .type "enumerate", data := .fields #[.none, .bool false, .ref it, rawInt 0, .none, .none] }
theorem meets_enum1 {v : Value} {o : Obj} {B0 : Heap → Prop} (B : Begins v o B0) :
    Meets (Builtin.«enumerate.__new__» ⟨[.type "enumerate", v], []⟩) (fun _ R s => B0 s.heap ∧ R (.ok (.ret (.ref (s.heap.push o).objs.size))) { s with heap := (s.heap.push o).push (enO s.heap.objs.size) }) := by
  refine Meets.of_wp fun prog w A R s h => ?_
  obtain ⟨hp, gs, dr, tk, os⟩ := s
  obtain ⟨hB, hR⟩ := h
  have sub := sub_enumerate
  have it1 : ∀ {A1 : Around} {E1 : Value → Shared → Prop} {Q1 : Value → Shared → Prop}, Q1 (.ref hp.objs.size) ⟨hp.push o, gs, dr, tk, os⟩ → wpAny (model prog w) A1 (pyIter v) Q1 E1 ⟨hp, gs, dr, tk, os⟩ :=
    fun {A1 E1 Q1} z => B.iter prog w A1 E1 ⟨hp, gs, dr, tk, os⟩ Q1 hB z
  wp_walk using it1
  refine wpAny_stack_any fun _ => wpAny_pure ?_
  split
  · rename_i cl _ _ _ _ _
    cases (cl == Value.type "enumerate") <;> (wp_walk using it1; exact ⟨_, rfl, hR⟩)
  · wp_walk using it1
    exact ⟨_, rfl, hR⟩
theorem enum_begins1 {prog : Program} {w : World} {A : Around} {E : Value → Shared → Prop} {s : Shared} {v : Value} {o : Obj} {B0 : Heap → Prop} {Q : Value → Shared → Prop} (B : Begins v o B0) (h1 : B0 s.heap)
    (h : ∀ h', IsEnum h' (s.heap.objs.size + 1) s.heap.objs.size 0 .none → h'.get? s.heap.objs.size = some o → h'.objs.size = s.heap.objs.size + 2 → (∀ b o, s.heap.get? b = some o → h'.get? b = some o) → Q (.ref (s.heap.objs.size + 1)) { s with heap := h' }) :
    wpAny (model prog w) A (call (.type "enumerate") [v]) Q E s := by
  refine callType_new F.called_enumerate (by decide) (F.typeCall_enumerate_1 _) (F.newCall_enumerate_1 _) (fun obj => F.args_object_init_2 obj _) F.entry_enumerate_new (meets_enum1 B) ⟨h1, ?_⟩
  have sz : (s.heap.push o).objs.size = s.heap.objs.size + 1 := Heap.size_push ..
  have he : IsEnum ((s.heap.push o).push (enO s.heap.objs.size)) (s.heap.objs.size + 1) s.heap.objs.size 0 .none := by
    have q := Heap.get?_push_size (s.heap.push o) (o := enO s.heap.objs.size) rfl
    rw [sz] at q
    exact q
  show _ ∧ _
  rw [sz]
  exact ⟨⟨_, he, rfl⟩, h _ he (Heap.get?_push_of_some _ (Heap.get?_push_size _ B.free)) (by rw [Heap.size_push, sz]) fun b o x => Heap.get?_push_of_some _ (Heap.get?_push_of_some _ x)⟩
def IteK (K : PySem.W.Frag) (k : SK) (a : Addr) : It :=
  ⟨fun i H => ∃ (xs : List V) (x : V), k.Sq K H a xs ∧ xs[i]? = some x, fun i H v H' => ∃ T x, v = .ref T ∧ H T = none ∧ H' = upd H T (.tup [.int (i : Nat), x]) ∧ ∀ xs, k.Sq K H a xs → xs[i]? = some x, fun i H => ∃ xs : List V, k.Sq K H a xs ∧ i = xs.length⟩
theorem turn_enumK {P : Program} {w : World} {K : PySem.W.Frag} {elts : List Expr} {kk : Nat} {tpos : Pos} {a e it : Addr} (k : SK) (hei : e ≠ it) (hea : e ≠ a) (n1 : a ≠ it) :
    Turn P w K (.Tuple elts kk tpos) (IteK K k a) [e, it] e (fun i h => (∃ old, IsEnum h e it (0 + (i : Int)) old) ∧ k.IT h it a i) where
  mem := by simp
  obj := fun i h ⟨⟨old, he⟩, h1⟩ c hc => by
    have e' : c = e ∨ c = it := by simpa using hc
    rcases e' with q | q
    · exact q ▸ ⟨_, he, fun v q => nomatch q⟩
    · exact q ▸ k.itObj h1
  keep := fun i h h' ⟨⟨old, he⟩, h1⟩ kp => ⟨⟨old, kp e (by simp) _ he⟩, k.itKeep h1 fun o q => kp it (by simp) o q⟩
  item := by
    intro X hP hw hK hc i pins s σ H E I hf st hg
    subst hP hw hK
    obtain ⟨he, h1⟩ := st
    obtain ⟨xs, x, hqx, hx⟩ := hg
    obtain ⟨its, rv, p1, l1⟩ := k.of I hqx
    have hd : X.A.in1.handled = none := I.ok.hd hc
    have G := GoesN.enumFrom (elts := elts) (x1 := kk) (pos := tpos) 0 (k.draws (P := X.prog) (w := X.w) hd it a n1 its.toArray) e hei (by simp [hei, hea]) (by simp)
    have e1 := rv.length
    have hi : i < its.toArray.size := by
      have q1 := (List.getElem?_eq_some_iff.mp hx).1
      simp only [List.size_toArray]; omega
    refine wpAny_mono (G.goes i s (fun v s2 => ∃ x H', L2.Inv X pins σ H' s2 ∧ RelV x v ∧ (IteK X.K k a).yld i H x H' ∧ ((∃ old, IsEnum s2.heap e it (0 + ((i + 1 : Nat) : Int)) old) ∧ k.IT s2.heap it a (i + 1)) ∧ ∀ b' ∈ [e, it], H' b' = none) E hi
      ⟨he, h1, p1⟩ fun v h' tk ⟨T, t, u, ev, hnew, hu, hT⟩ ⟨z1, z2⟩ kp _ => ?_) (fun r s1 ⟨v, hr, hw⟩ => ⟨v, hr, hw⟩) (fun _ _ h => h)
    subst ev
    obtain ⟨ux, hux, rux⟩ := rv.get hx
    have : u = ux := by have q := hu; simp at q; rw [hux] at q; exact (Option.some.inj q).symm
    subst this
    have hT' : h'.IsTuple T #[.int ((i : Nat) : Int) t, u] := by have q := hT; rw [Int.zero_add] at q; exact q
    have new : ObjOk X.prog X.w (upd H T (.tup [.int (i : Nat), x])) h' T (.tup [.int (i : Nat), x]) := ⟨by show 2 ≤ sizeLine; decide, [.int i t, u], .cons ⟨t, rfl⟩ (.cons rux .nil), hT'⟩
    have I1 : L2.Inv X pins σ (upd H T (.tup [.int (i : Nat), x])) { s with heap := h', toks := tk } :=
      I.turnedNew (ch := [e, it]) (fun c o hb q => kp c o hb q) hf hnew new
    refine ⟨.ref T, _, I1, rfl, ⟨T, x, rfl, I.hok.fresh hnew, rfl, fun l hl => by rw [k.inj I hl hqx]; exact hx⟩, ⟨z1, z2.1⟩, fun c hcm => ?_⟩
    have hlt : c ≠ T := fun ec => by
      subst ec
      have e' : c = e ∨ c = it := by simpa using hcm
      have hlt : c < s.heap.objs.size := by
        rcases e' with q | q
        · obtain ⟨_, q'⟩ := he; rw [q]; exact Heap.lt_size q'
        · obtain ⟨_, q', _⟩ := k.itObj h1; rw [q]; exact Heap.lt_size q'
      exact Nat.lt_irrefl _ (Nat.lt_of_lt_of_le hlt hnew)
    rw [upd_ne hlt]
    exact (hf c hcm).1
  done := by
    intro X hP hw hK hc i pins s σ H E I hf st hg
    subst hP hw hK
    obtain ⟨he, h1⟩ := st
    obtain ⟨xs, hqx, hend⟩ := hg
    obtain ⟨its, rv, p1, l1⟩ := k.of I hqx
    have hd : X.A.in1.handled = none := I.ok.hd hc
    have G := GoesN.enumFrom (elts := elts) (x1 := kk) (pos := tpos) 0 (k.draws (P := X.prog) (w := X.w) hd it a n1 its.toArray) e hei (by simp [hei, hea]) (by simp)
    have e1 := rv.length
    have hi : i = its.toArray.size := by simp only [List.size_toArray]; omega
    subst hi
    exact G.stops s (fun s1 => L2.Inv X pins σ H s1) E ⟨he, h1, p1⟩ fun h' tk kp _ => I.turnedL (t' := tk) (ch := [e, it]) (fun c o hb q => kp c o hb q) hf
  self := fun A i s Q E st h => let ⟨⟨_, he⟩, _⟩ := st; wpAny_pyIter_enum he h
def iEnumK (K : PySem.W.Frag) (ta : TA) : TI := fun σ H R => ta σ H fun vs H1 => ∃ k a xs, vs = [.ref a] ∧ SK.Sq K H1 a xs k ∧ R (IteK K k a) H1
theorem pi_enumK {X : Cx} {e : Expr} {ta : TA} {p pos tpos : Pos} {elts : List Expr} {kk : Nat} (hg : Gl X "enumerate") (hm : X.mg "enumerate" = none) (ha : PA X [e] ta) (hs : starEach [e] X.env = [(false, eval e X.env)] := by rfl) :
    PI X (.Tuple elts kk tpos) (.Call (.Name "enumerate" p) [e] [] pos) (iEnumK X.K ta) := by
  constructor
  intro pins s σ H R I h
  refine Call_ (ld_blt I hg hm boot_enumerate (PyProof.Rows.callWith_type1 (thn (ha.run pos pins s σ H _ I h) fun us s1 ⟨vs, H1, I1, r1, k, a, xs, ex, hq, q⟩ => ?_) hs rfl))
  subst ex
  cases r1 with
  | cons ra rr =>
  cases rr
  cases ra
  obtain ⟨its, rv, p1, l1⟩ := k.of I1 hq
  refine enum_begins1 (k.begins a its.toArray) p1 fun h' he o1 hsz hk => wpAny_pyIter_enum he ?_
  have I2 : L2.Inv X pins σ H1 { s1 with heap := h' } := I1.kept (t' := s1.toks) hk
  have T1 := turn_enumK (P := X.prog) (w := X.w) (K := X.K) (elts := elts) (kk := kk) (tpos := tpos) (a := a) (e := s1.heap.objs.size + 1) (it := s1.heap.objs.size) k (Nat.succ_ne_self _) (Nat.ne_of_gt (Nat.lt_succ_of_lt l1)) (Nat.ne_of_lt l1)
  refine ⟨s1.heap.objs.size + 1, [s1.heap.objs.size + 1, s1.heap.objs.size], _, _, H1, rfl, I2, T1, ⟨⟨.none, he⟩, k.itAt o1⟩, fun c hc => ?_, q⟩
  have hle : s1.heap.objs.size ≤ c := by
    have e' : c = s1.heap.objs.size + 1 ∨ c = s1.heap.objs.size := by simpa using hc
    rcases e' with e | e <;> rw [e] <;> omega
  exact I1.fpOk hle (I1.hok.fresh hle)
def numFrom (k : Nat) : List W → List Itm
  | [] => []
  | w :: r => .pr [.d (.int (k : Nat)), w] :: numFrom (k + 1) r
theorem numFrom_get : ∀ {ws : List W} {k i : Nat}, (numFrom k ws)[i]? = (ws[i]?).map fun w => .pr [.d (.int ((k + i : Nat) : Int)), w]
  | [], k, i => by simp [numFrom]
  | w :: r, k, 0 => by simp [numFrom]
  | w :: r, k, i + 1 => by
    show (numFrom (k + 1) r)[i]? = _
    rw [numFrom_get]
    have e : k + 1 + i = k + (i + 1) := by omega
    rw [e]; rfl
theorem numFrom_len : ∀ {ws : List W} {k : Nat}, (numFrom k ws).length = ws.length
  | [], _ => rfl
  | _ :: r, k => by simp [numFrom, numFrom_len]
theorem walks_enum {K : PySem.W.Frag} {mg : Str → Option Value} {A : List Addr} {F : Hp} {k : SK} {a : Addr} {ws : List W} {kp : List (Nat × Cell)} (h1 : Seen K mg A F k a ws kp) : Walks K mg A F (IteK K k a) ⟨numFrom 0 ws, kp⟩ := fun A' F' ce H p e r st i => by
  obtain ⟨vs, q1, r1⟩ := h1.see A' F' ce H p e r st
  refine ⟨fun w hw => ?_, fun hl => ⟨vs, q1, by simp only [numFrom_len] at hl; rw [r1.length]; exact hl.symm⟩⟩
  simp only [numFrom_get] at hw
  cases hz : ws[i]? with
  | none => rw [hz] at hw; cases hw
  | some w1 =>
    rw [hz] at hw; cases hw
    obtain ⟨v1, f1, t1⟩ := r1.get hz
    refine ⟨⟨vs, v1, q1, f1⟩, fun x H' ⟨T, x1, e1, hT, e2, g3⟩ => ?_⟩
    have := g3 vs q1; rw [f1] at this; cases this
    subst e2
    have ef : Ex F' (upd F' T (.tup [.int (i : Nat), v1])) := ex_upd (r.none_of hT)
    refine ⟨_, ef, r.new hT _, T, [.int (i : Nat), v1], e1, upd_same, ?_⟩
    rw [Nat.zero_add]
    exact .cons (w := .d (.int (i : Nat))) (.int _) (.cons (t1.mono (List.prefix_refl _) ef) .nil)
def iEnum (fr : S → Out (List W)) (s : S) : Out Src := (fr s).bind fun ws s1 => match ws with
  | [x] => match seqW x s1.ce with
    | some (a, p) => .ok ⟨numFrom 0 a, p⟩ s1
    | _ => .bad
  | _ => .bad
section
variable {X : Cx} {W' : WX} {e : Expr} {fr : S → Out (List W)} {p pos tpos : Pos} {elts : List Expr} {kk : Nat}
theorem vi_enum (hm : X.mg "enumerate" = none) (ha : VA X W' [e] fr) (hg : Gl X "enumerate" := by rfl) (hs : starEach [e] X.env = [(false, eval e X.env)] := by rfl) :
    VI X W' (.Tuple elts kk tpos) (.Call (.Name "enumerate" p) [e] [] pos) (iEnum fr) := PI.imp (pi_enumK hg hm ha hs) fun σ H R h => by
  obtain ⟨s, A, F, r, q⟩ := h
  refine ⟨s, A, F, r, PostA.imp (Out.bindIA q) fun vs H1 ⟨ws, s1, A1, F1, a1, e1, r1, rw1, q1⟩ => ?_⟩
  split at q1
  · rename_i x
    split at q1
    · rename_i a p hx
      cases rw1 with
      | cons h1 h2 =>
      cases h2
      obtain ⟨k1, a', rfl, st1, sn1⟩ := seqW_seen r1.cs h1 hx
      obtain ⟨vs, g1, _⟩ := sn1.see A1 F1 s1.ce H1 (List.prefix_refl _) (Ex.refl _) r1.cs st1
      exact ⟨k1, a', vs, rfl, g1, q1 A1 F1 H1 _ (List.prefix_refl _) (Ex.refl _) r1 (walks_enum sn1)⟩
    · exact q1.elim
  · exact q1.elim
end
end VL

set_option maxHeartbeats 1000000
namespace VL
open PySem PySem.Spec PyProof.Rows L2

/-! ### defs that know that nothing stands guard around them -/
structure RmG (k : Nat) (A : Around) : Prop where
  rm : Room k A
  gd : A.guards = some []
theorem RmG.mono {j k : Nat} {A : Around} (r : RmG k A) (h : j ≤ k) : RmG j A := ⟨r.rm.mono h, r.gd⟩
theorem RmG.deep {k : Nat} {A : Around} (r : RmG (k + 1) A) (env : Env) : RmG k (A.deeper env) := ⟨r.rm.deeper env, r.gd⟩
structure FnG (P : Program) (w : World) (K : PySem.W.Frag) (mg : Str → Option Value) (base : Heap) (k : Nat) (f : Addr) (fd : FuncData) (ps : List Str) (sp : Sp) : Prop where
  len : ∀ vs H Q E, sp vs H Q E → vs.length = ps.length
  go : ∀ (A : Around) (out : List Env) (s : Shared) (H : Hp) (args : Args) (us : List Value) (vs : List V) (Q : VK) (E : XK), RmG k A → Env0 P w K mg base A out s H → BindsTo s fd args (ps.zip us) → Vals vs us → sp vs H Q E →
    codeAny (model P w) A (.call (.ref f) args) (L2.CR (L2.CX P w) out P w H s Q E) s
theorem FnG.mono {P : Program} {w : World} {K : PySem.W.Frag} {mg : Str → Option Value} {base : Heap} {j k : Nat} {f : Addr} {fd : FuncData} {ps : List Str} {sp : Sp} (F : FnG P w K mg base j f fd ps sp) (h : j ≤ k) : FnG P w K mg base k f fd ps sp :=
  ⟨F.len, fun A out s H args us vs Q E hr => F.go A out s H args us vs Q E (hr.mono h)⟩
def picks {α : Type} (ix : List Nat) (xs : List α) : List α := ix.filterMap fun i => xs[i]?
/-- how a call of m values and of the keywords ks is bound: ix says where each parameter's value stands among the values, the keywords' values, the defaults -/
structure BindX (K : PySem.W.Frag) (fd : FuncData) (ps : List Str) (ds : List Value) (m : Nat) (ks : List Str) (ix : List Nat) : Prop where
  to : ∀ (s : Shared) (us ws : List Value), K.In s.heap → us.length = m → ws.length = ks.length → BindsTo s fd ⟨us, ks.zip ws⟩ (ps.zip (picks ix (us ++ ws ++ ds)))
theorem pick_vals {vs : List V} {us : List Value} (r : Vals vs us) (ix : List Nat) : Vals (picks ix vs) (picks ix us) := by
  induction ix with
  | nil => exact .nil
  | cons i ix ih =>
    have h : (vs[i]? = none ∧ us[i]? = none) ∨ ∃ v u, vs[i]? = some v ∧ us[i]? = some u ∧ RelV v u := by
      clear ih
      induction r generalizing i with
      | nil => exact .inl ⟨rfl, rfl⟩
      | cons a b ih => cases i with
        | zero => exact .inr ⟨_, _, rfl, rfl, a⟩
        | succ i => exact ih i
    rcases h with ⟨h1, h2⟩ | ⟨v, u, h1, h2, h3⟩
    · show Vals (List.filterMap _ _) (List.filterMap _ _)
      rw [List.filterMap_cons_none h1, List.filterMap_cons_none h2]
      exact ih
    · show Vals (List.filterMap _ _) (List.filterMap _ _)
      rw [List.filterMap_cons_some h1, List.filterMap_cons_some h2]
      exact .cons h3 ih
theorem pick_rws {K : PySem.W.Frag} {mg : Str → Option Value} {A : List Addr} {F : Hp} {vs : List V} {us : List W} (r : RWs K mg A F vs us) (ix : List Nat) : RWs K mg A F (picks ix vs) (picks ix us) := by
  induction ix with
  | nil => exact .nil
  | cons i ix ih =>
    have h : (vs[i]? = none ∧ us[i]? = none) ∨ ∃ v u, vs[i]? = some v ∧ us[i]? = some u ∧ RW K mg A F v u := by
      clear ih
      induction r generalizing i with
      | nil => exact .inl ⟨rfl, rfl⟩
      | cons a b ih => cases i with
        | zero => exact .inr ⟨_, _, rfl, rfl, a⟩
        | succ i => exact ih i
    rcases h with ⟨h1, h2⟩ | ⟨v, u, h1, h2, h3⟩
    · show RWs K mg A F (List.filterMap _ _) (List.filterMap _ _)
      rw [List.filterMap_cons_none h1, List.filterMap_cons_none h2]
      exact ih
    · show RWs K mg A F (List.filterMap _ _) (List.filterMap _ _)
      rw [List.filterMap_cons_some h1, List.filterMap_cons_some h2]
      exact .cons h3 ih
/-- values, then keywords' values, picked into the parameters' order -/
def tCallX (sp : Sp) (ix : List Nat) (dvs : List V) (E : L2.St → XK) (t tk : TA) : TE := fun σ H Q => t σ H fun vs H1 => tk σ H1 fun zs H2 => sp (picks ix (vs ++ zs ++ dvs)) H2 Q (E σ)
def tCallP (sp : Sp) (E : L2.St → XK) (t : TA) : TE := fun σ H Q => t σ H fun vs H1 => sp vs H1 Q (E σ)
section
variable {X : Cx} {k m : Nat} {f : Addr} {fd : FuncData} {ps ks : List Str} {sp : Sp} {ix : List Nat} {dvs : List V} {ds : List Value} {E : L2.St → XK} {x : Str} {p pos : Pos} {e : Expr} {es : List Expr} {kws : List Keyword} {t tk : TA}
theorem runG {pins : List (Addr × Obj)} {σ : L2.St} {H : Hp} {s : Shared} {Q : VK} {us : List Value} {kv : List (Str × Value)} {uu : List Value} {vs : List V} (F : FnG X.prog X.w X.K X.mg X.base k f fd ps sp) (hr : RmG k X.A) (hb : BindsTo s fd ⟨us, kv⟩ (ps.zip uu)) (hx : PassesAt (L2.CX X.prog X.w) X σ (E σ))
    (I : Inv X pins σ H s) (r : Vals vs uu) (h : sp vs H Q (E σ)) : wpAny (model X.prog X.w) X.A (call (.ref f) us kv) (EP X pins σ Q) X.xe s := by
  refine wpAny_call (codeAny_mono (F.go X.A X.stack s H ⟨us, kv⟩ uu vs Q (E σ) hr I.env0 hb r h) fun o s' hq => ?_)
  match o with
  | .error e => exact hx pins H s e s' I hq
  | .ok (.ret u) => exact I.after hq
  | .ok .next => exact hq.elim
  | .ok .brk => exact hq.elim
  | .ok .cont => exact hq.elim
theorem pe_callP (F : FnG X.prog X.w X.K X.mg X.base k f fd ps sp) (hr : RmG k X.A) (hg : Gl X x) (hm : X.mg x = some (.ref f)) (hk : PySem.W.keepIn X.K (.ref f) = true) (hb : Binds X.K fd ps []) (hx : ∀ σ, PassesAt (L2.CX X.prog X.w) X σ (E σ))
    (ha : PA X (e :: es) t) (hdb : (x == ("__debug__" : Str)) = false) (he : starEach (e :: es) X.env = (false, eval e X.env) :: starEach es X.env) (hpl : (backTo pos (starEach es X.env)).any (·.1) = false) : PE X (.Call (.Name x p) (e :: es) [] pos) (tCallP sp E t) := by
  refine ⟨fun pins s σ H Q I h => wpAny_Call_Name_kw (ld_glob I hg hm (PySem.W.callWith_K (h₀ := X.base) I.ok.mod.kin hk (thn (ha.run pos pins s σ H _ I h) fun us s1 ⟨vs, H1, I1, r, q⟩ => ⟨I1.kIn, ?_⟩) he hpl) hdb)⟩
  have hl : us.length = ps.length := by rw [← r.length]; exact F.len _ _ _ _ q
  have b := hb s1 us I1.kIn (by rw [List.append_nil]; exact hl)
  rw [List.append_nil] at b
  exact runG F hr b (hx σ) I1 r q
theorem pe_callX (F : FnG X.prog X.w X.K X.mg X.base k f fd ps sp) (hr : RmG k X.A) (hg : Gl X x) (hm : X.mg x = some (.ref f)) (hk : PySem.W.keepIn X.K (.ref f) = true) (hb : BindX X.K fd ps ds m ks ix) (hd : Vals dvs ds) (hx : ∀ σ, PassesAt (L2.CX X.prog X.w) X σ (E σ))
    (ha : PA X (e :: es) t) (hkw : PK X kws tk) (hn : ∀ σ H Q, t σ H Q → t σ H fun vs H1 => vs.length = m ∧ Q vs H1) (hn2 : ∀ σ H Q, tk σ H Q → tk σ H fun vs H1 => vs.length = ks.length ∧ Q vs H1)
    (hall : (backToKw pos (keywordEach kws X.env)).all (·.1.isSome) = true) (hks : (backToKw pos (keywordEach kws X.env)).filterMap (·.1) = ks)
    (hdb : (x == ("__debug__" : Str)) = false) (he : starEach (e :: es) X.env = (false, eval e X.env) :: starEach es X.env)
    (hpl : ((backTo pos (starEach (e :: es) X.env)).any (·.1) || (backToKw pos (keywordEach kws X.env)).any (·.1.isNone)) = false) : PE X (.Call (.Name x p) (e :: es) kws pos) (tCallX sp ix dvs E t tk) := by
  refine ⟨fun pins s σ H Q I h => wpAny_Call_Name_kw (ld_glob I hg hm (PySem.W.callWith_KW (h₀ := X.base) I.ok.mod.kin hk hall (thn (ha.run pos pins s σ H _ I (hn _ _ _ h)) fun us s1 ⟨vs, H1, I1, r, hm1, q⟩ => ?_) hpl he) hdb)⟩
  refine thn (hkw.run pos pins s1 σ H1 _ I1 (hn2 _ _ _ q)) fun ws s2 ⟨zs, H2, I2, rz, hm2, q2⟩ => ⟨I2.kIn, ?_⟩
  rw [hks]
  exact runG F hr (hb.to s2 us ws I2.kIn (by rw [← r.length]; exact hm1) (by rw [← rz.length]; exact hm2)) (hx σ) I2 (pick_vals ((r.append rz).append hd) ix) q2
theorem pe_callX0 (F : FnG X.prog X.w X.K X.mg X.base k f fd ps sp) (hr : RmG k X.A) (hg : Gl X x) (hm : X.mg x = some (.ref f)) (hk : PySem.W.keepIn X.K (.ref f) = true) (hb : BindX X.K fd ps ds 0 ks ix) (hd : Vals dvs ds) (hx : ∀ σ, PassesAt (L2.CX X.prog X.w) X σ (E σ))
    (hkw : PK X kws tk) (hn2 : ∀ σ H Q, tk σ H Q → tk σ H fun vs H1 => vs.length = ks.length ∧ Q vs H1)
    (hall : (backToKw pos (keywordEach kws X.env)).all (·.1.isSome) = true) (hks : (backToKw pos (keywordEach kws X.env)).filterMap (·.1) = ks)
    (hdb : (x == ("__debug__" : Str)) = false) (hpl : ((backTo pos (starEach [] X.env)).any (·.1) || (backToKw pos (keywordEach kws X.env)).any (·.1.isNone)) = false) : PE X (.Call (.Name x p) [] kws pos) (tCallX sp ix dvs E tNil tk) := by
  refine ⟨fun pins s σ H Q I h => wpAny_Call_Name_kw (ld_glob I hg hm (PySem.W.callWith_KW0 (h₀ := X.base) I.ok.mod.kin hk hall ?_ hpl) hdb)⟩
  refine thn (hkw.run pos pins s σ H _ I (hn2 _ _ _ h)) fun ws s2 ⟨zs, H2, I2, rz, hm2, q2⟩ => ⟨I2.kIn, ?_⟩
  rw [hks]
  exact runG F hr (hb.to s2 [] ws I2.kIn rfl (by rw [← rz.length]; exact hm2)) (hx σ) I2 (pick_vals (((show Vals [] [] from .nil).append rz).append hd) ix) q2
end
/-! a def's own object, its body -/
section
variable {P : Program} {w : World} {K : PySem.W.Frag} {mg : Str → Option Value} {base : Heap}
theorem fnG_of {k : Nat} {f : Addr} {name qual : Str} {params : Arguments} {body : List Stmt} {scope : Scope} {dV kV doc pm cdv ct oc : Value} {an od : Option Addr} {osl : Array (Option Value)} {N ps : List Str} {sp : Sp}
    (lk : K.lookup f = some ⟨oc, od, .func (PySem.W.fnOf name qual params body scope dV kV doc pm an cdv ct), osl⟩) (hcd : PySem.W.codeIn K cdv qual = true) (S : FnScope N ps scope) (len : ∀ vs H Q E, sp vs H Q E → vs.length = ps.length)
    (hbody : ∀ (A : Around) (out : List Env) (s : Shared) (H : Hp) (vs : List V) (Q : VK) (E : XK), RmG k (A.deeper (envOfC qual scope s.heap.objs.size f cdv)) → sp vs H Q E →
      ∃ t, PSs (cxOf (L2.CX P w) P w K mg base N qual scope f cdv A out s H E) body t ∧ t { nx := fun _ H' => Q .non H', rt := Q } (start N vs) H) : FnG P w K mg base (k + 1) f (PySem.W.fnOf name qual params body scope dV kV doc pm an cdv ct) ps sp := by
  refine ⟨len, fun A out s H args us vs Q E hr e0 hb r hsp => ?_⟩
  have KX : K.In s.heap := e0.mod.kin.keeps fun b o e => (e0.bs b o e).1
  have nl : s.heap.NoLimit := e0.mod.nolimit.keeps fun b o e => (e0.bs b o e).1
  have par : ∀ y ∈ ps.zip us, scope.names.lookup y.1 = some .local ∨ (scope.names.lookup y.1 = some .cell ∧ ((cellsFrom (s.heap.objs.size + 1) scope.names []).lookup y.1).isSome = true) := by
    rintro ⟨n, v⟩ hy
    rcases S.par n (List.of_mem_zip hy).1 with q | q
    · exact Or.inl q
    · exact Or.inr ⟨q, PySem.W.cellsFrom_some _ _ _ (Or.inl q)⟩
  refine codeAny_call_function hr.rm.depth (KX _ _ lk) rfl S.co S.gen rfl (PySem.W.codeRec_of KX hcd) (hb _ _ _ _ (wpAny_newFunctionEnv_cells S.kind par fun env he s1 x => ?_))
  subst he
  refine ⟨nl.keeps x.toInCall.keep, codeAny_func ?_⟩
  obtain ⟨t, ht, hq⟩ := hbody A out s H vs Q E (hr.deep _) hsp
  have I := inv_start (CX := L2.CX P w) (E := E) S hr.rm.hd e0 (len _ _ _ _ hsp) r x
  refine wpAny_mono (ht.run [] s1 (start N vs) H _ I hq) (fun fl s' hs => ?_) fun _ _ hs => hs
  match fl with
  | .ret u => obtain ⟨v, σ', H', J, rv, q⟩ := hs; exact ⟨v, H', J.os, J.bare, J.base, J.hok, rv, q⟩
  | .next => obtain ⟨σ', H', J, q⟩ := hs; exact ⟨V.non, H', J.os, J.bare, J.base, J.hok, (rfl : RelV V.non Value.none), q⟩
  | .brk => obtain ⟨_, _, _, q⟩ := hs; exact q.elim
  | .cont => obtain ⟨_, _, _, q⟩ := hs; exact q.elim
theorem fun_okG {x qual : Str} {st : Stmt} {f : Addr} {fd : FuncData} {N ps : List Str} {k : Nat} {sp : Sp} (F : Fun K x qual st f fd) (S : FnScope N ps (defScope st)) (len : ∀ vs H Q E, sp vs H Q E → vs.length = ps.length)
    (hbody : ∀ (cdv : Value) (A : Around) (out : List Env) (s : Shared) (H : Hp) (vs : List V) (Q : VK) (E : XK), RmG k (A.deeper (envOfC qual (defScope st) s.heap.objs.size f cdv)) → sp vs H Q E →
      ∃ t, PSs (cxOf (L2.CX P w) P w K mg base N qual (defScope st) f cdv A out s H E) (defBody st) t ∧ t { nx := fun _ H' => Q .non H', rt := Q } (start N vs) H) : FnG P w K mg base (k + 1) f fd ps sp := by
  obtain ⟨oc, od, kV, doc, pm, an, cdv, ct, osl, rfl, lk, hcd⟩ := F.ex
  exact fnG_of lk hcd S len (hbody cdv)
/-- a body's worth is the def's -/
theorem fn_okG {x qual : Str} {st : Stmt} {f : Addr} {fd : FuncData} {N ps : List Str} {k np : Nat} {body : S → Fl} (Fu : Fun K x qual st f fd) (Sc : FnScope N ps (defScope st)) (hnp : ps.length = np) (sh : Nat → Fl → Out W) (hsh : sh = shut ∨ sh = fun _ => keep)
    (hbody : ∀ (cdv : Value) (A : Around) (outer : List Env) (s : Shared) (H : Hp) (E : XK), RmG k (A.deeper (envOfC qual (defScope st) s.heap.objs.size f cdv)) →
      VSs (cxOf (L2.CX P w) P w K mg base N qual (defScope st) f cdv A outer s H E) (fun c d _ H => E c d H) (defBody st) body) :
    FnG P w K mg base (k + 1) f fd ps (spOf K mg np fun ws ce => sh ce.length (body (entry N.length ws ce))) := by
  refine fun_okG Fu Sc (fun vs H Q E h => by rw [h.1, hnp]) fun cdv A outer s H vs Q E hr h => ?_
  obtain ⟨hl, ws, ce, A0, F, r, rs, q⟩ := h
  have hN : ps.length ≤ N.length := by have := congrArg List.length Sc.pre; rw [List.length_take] at this; omega
  refine ⟨_, hbody cdv A outer s H E hr, ?_⟩
  refine ⟨entry N.length ws ce, A0, F, entry_rel r rs (by omega), ?_⟩
  show PostS K mg _ A0 F _ (body (entry N.length ws ce))
  have hlen := r.len
  rcases hsh with rfl | rfl
  · replace q : PostC K mg A0 F Q E (shut ce.length (body (entry N.length ws ce))) := q
    revert q
    generalize body (entry N.length ws ce) = o
    cases o with
    | nx s' =>
      intro q A' F' H' σ' a' e' r'
      simp only [shut] at q
      split at q
      · rename_i hf; exact q A0 F' H' .non (List.prefix_refl _) e' (r'.cs.cut a' hlen hf) .non
      · exact q.elim
    | rt w s' =>
      intro q A' F' H' v a' e' r' h'
      simp only [shut] at q
      split at q
      · rename_i hf; exact q A0 F' H' v (List.prefix_refl _) e' (r'.cut a' hlen hf.1) (h'.cut a' hlen hf.2)
      · exact q.elim
    | exc c ns ws s' =>
      intro q A' F' H' C d vs σ' a' e' r' hc h' hd
      simp only [shut] at q
      split at q
      · rename_i hf; exact q A0 F' H' C d vs (List.prefix_refl _) e' (r'.cs.cut a' hlen hf.1) hc (h'.cut a' hlen hf.2) hd
      · exact q.elim
    | bk s' => exact fun q => q.elim
    | ct s' => exact fun q => q.elim
    | bad => exact fun q => q.elim
  · replace q : PostC K mg A0 F Q E (keep (body (entry N.length ws ce))) := q
    revert q
    generalize body (entry N.length ws ce) = o
    cases o with
    | nx s' => exact fun q A' F' H' σ' a' e' r' => q A' F' H' .non a' e' r'.cs .non
    | rt w s' => exact fun q A' F' H' v a' e' r' h' => q A' F' H' v a' e' r' h'
    | exc c ns ws s' => exact fun q A' F' H' C d vs σ' a' e' r' hc h' hd => q A' F' H' C d vs a' e' r'.cs hc h' hd
    | bk s' => exact fun q => q.elim
    | ct s' => exact fun q => q.elim
    | bad => exact fun q => q.elim
end
end VL

set_option maxHeartbeats 1000000
namespace VL
open PySem PySem.Spec PyProof.Rows L2

theorem hu64 {k : Nat} {A : Around} (hr : RmG k A) : A.units + 64 < cLine := hr.rm.units
theorem hu65 {k : Nat} {A : Around} (hr : RmG k A) : A.units + 65 < cLine := by have := hr.rm.un; omega
theorem hu198 {k : Nat} {A : Around} (hr : RmG k A) : A.units + 198 < cLine := by have := hr.rm.un; omega
section
variable {X : Cx} {W' : WX} {e : Expr} {es : List Expr} {fr : S → Out (List W)} {p pos : Pos}
theorem ve_globE {x : Str} (h : ∃ a, X.mg x = some (.ref a) ∧ PySem.W.isFn X.K (.ref a) = true) (hg : Gl X x := by rfl) (hd : (x == ("__debug__" : Str)) = false := by decide) : VE X W' (.Name x pos) (eC (.glob x)) := by
  obtain ⟨a, ha, hf⟩ := h
  exact ve_glob ha hf hg hd
theorem ve_kintE {x : Str} {i : Int} (h : ∃ t, X.mg x = some (.int i t)) (hg : Gl X x := by rfl) (hd : (x == ("__debug__" : Str)) = false := by decide) : VE X W' (.Name x pos) (eC (.int i)) := by
  obtain ⟨a, ha⟩ := h
  exact ve_kint ha hg hd
theorem ve_kstrE {x : Str} {i : Str} (h : ∃ t, X.mg x = some (.str i t)) (hg : Gl X x := by rfl) (hd : (x == ("__debug__" : Str)) = false := by decide) : VE X W' (.Name x pos) (eC (.str i)) := by
  obtain ⟨a, ha⟩ := h
  exact ve_kstr ha hg hd
end
/-- a def of the text as it stands behind the top -/
structure FunAt (K : PySem.W.Frag) (mg : Str → Option Value) (x : Str) (st : Stmt) (ps : List Str) : Prop where
  ex : ∃ (f : Addr) (fd : FuncData), mg x = some (.ref f) ∧ Fun K x x st f fd ∧ Binds K fd ps []
  nm : ps = (defArgs st).args.map (·.arg)
/-- a def keeps what G says -/
structure DefOk (P : Program) (w : World) (K : PySem.W.Frag) (mg : Str → Option Value) (base : Heap) (x : Str) (k np : Nat) (G : Fn) : Prop where
  ex : ∃ (f : Addr) (fd : FuncData) (ps : List Str), mg x = some (.ref f) ∧ PySem.W.keepIn K (.ref f) = true ∧ Binds K fd ps [] ∧ FnG P w K mg base k f fd ps (spOf K mg np G) ∧ ∃ (oc : Value) (od : Option Addr) (osl : Array (Option Value)), K.lookup f = some ⟨oc, od, .func fd, osl⟩ ∧ ps = fd.params.args.map (·.arg)
theorem DefOk.gl {P : Program} {w : World} {K : PySem.W.Frag} {mg : Str → Option Value} {base : Heap} {x : Str} {k np : Nat} {G : Fn} (h : DefOk P w K mg base x k np G) : ∃ a, mg x = some (.ref a) := by
  obtain ⟨f, _, _, hm, _⟩ := h.ex
  exact ⟨f, hm⟩
theorem def_ok {P : Program} {w : World} {K : PySem.W.Frag} {mg : Str → Option Value} {base : Heap} {x : Str} {st : Stmt} {N ps : List Str} {k : Nat} {body : S → Fl} (FA : FunAt K mg x st ps) (Sc : FnScope N ps (defScope st)) (sh : Nat → Fl → Out W) (hsh : sh = shut ∨ sh = fun _ => keep)
    (hbody : ∀ (f : Addr) (cdv : Value) (A : Around) (outer : List Env) (s : Shared) (H : Hp) (E : XK), RmG k (A.deeper (envOfC x (defScope st) s.heap.objs.size f cdv)) →
      VSs (cxOf (L2.CX P w) P w K mg base N x (defScope st) f cdv A outer s H E) (fun c d _ H => E c d H) (defBody st) body) :
    DefOk P w K mg base x (k + 1) ps.length (fun ws ce => sh ce.length (body (entry N.length ws ce))) := by
  obtain ⟨f, fd, hm, Fu, hb⟩ := FA.ex
  refine ⟨f, fd, ps, hm, Fu.kp, hb, fn_okG Fu Sc rfl sh hsh fun cdv A outer s H E hr => hbody f cdv A outer s H E hr, ?_⟩
  obtain ⟨oc, od, kV, doc, pm, an, cdv, ct, osl, e, lk, _⟩ := Fu.ex
  exact ⟨oc, od, osl, lk, by rw [FA.nm, e]⟩
section
variable {X : Cx} {W' : WX} {k k' m : Nat} {x : Str} {p pos kpos : Pos} {e : Expr} {es : List Expr} {kws : List Keyword} {ks : List Str} {ix : List Nat} {fa : S → Out W} {fr fk : S → Out (List W)} {G : Fn} {np : Nat} {nm : Option Str}
theorem callP_imp {σ : L2.St} {H : Hp} {Q : VK} (h : tE X.K X.mg W' (eCall G fr) σ H Q) (hn : ∀ s ws s1, fr s = .ok ws s1 → ws.length = np) : tCallP (spOf X.K X.mg np G) (WE W') (tA X.K X.mg W' fr) σ H Q := by
  have h' := call_imp h hn
  simpa only [tCallP, tCallS] using h'
theorem ve_callD (D : DefOk X.prog X.w X.K X.mg X.base x k np G) (hr : RmG k' X.A) (tk : Takes X W') (ha : VA X W' (e :: es) fr) (hn : Many np fr) (hk : k ≤ k' := by decide)
    (hg : Gl X x := by rfl) (hdb : (x == ("__debug__" : Str)) = false := by decide) (he : starEach (e :: es) X.env = (false, eval e X.env) :: starEach es X.env := by rfl) (hpl : (backTo pos (starEach es X.env)).any (·.1) = false := by rfl) :
    VE X W' (.Call (.Name x p) (e :: es) [] pos) (eCall G fr) := by
  obtain ⟨f, fd, ps, hm, hkp, hb, F, _⟩ := D.ex
  exact PE.imp (pe_callP F (hr.mono hk) hg hm hkp hb (passesC tk) ha hdb he hpl) fun σ H Q h => callP_imp h hn.len
/-- calls with keywords, with defaults -/
def VK' (X : Cx) (W' : WX) (kws : List Keyword) (f : S → Out (List W)) : Prop := PK X kws (tA X.K X.mg W' f)
theorem PK.imp {t t' : TA} (h : PK X kws t) (k : ∀ σ H Q, t' σ H Q → t σ H Q) : PK X kws t' := ⟨fun pos pins s σ H Q I q => h.run pos pins s σ H Q I (k σ H Q q)⟩
theorem vk_nil : VK' X W' [] aNil := PK.imp pk_nil fun σ H Q h => by
  obtain ⟨s, A, F, r, q⟩ := h
  exact q A F H [] (List.prefix_refl A) (Ex.refl F) r .nil
theorem vk_cons (ha : VE X W' e fa) (hr : VK' X W' kws fr) : VK' X W' (⟨nm, e, kpos⟩ :: kws) (aCons fa fr) := PK.imp (pk_cons ha hr) fun σ H Q h => by
  obtain ⟨s, A, F, r, q⟩ := h
  refine ⟨s, A, F, r, PostE.imp (PostE.bindA q) fun vx H1 ⟨x, s1, A1, F1, a1, e1, r1, rx, q1⟩ => ⟨s1, A1, F1, r1, ?_⟩⟩
  revert q1
  cases fr s1 with
  | ok ws s2 => exact fun q1 A2 F2 H2 vs a2 e2 r2 rs => q1 A2 F2 H2 (vx :: vs) a2 e2 r2 (.cons (rx.mono a2 e2) rs)
  | exc c ns ws s' => exact fun q2 => q2
  | bad => exact fun q2 => q2
def eCallX (G : Fn) (ix : List Nat) (dws : List D) (fr fk : S → Out (List W)) (s : S) : Out W := (fr s).bind fun ws s1 => (fk s1).bind fun zs s2 => match G (picks ix (ws ++ zs ++ dws.map .d)) s2.ce with
  | .ok w s3 => .ok w ⟨s2.sl, s3.ce⟩
  | .exc c ns ws s3 => .exc c ns ws ⟨s2.sl, s3.ce⟩
  | .bad => .bad
theorem ta_len {σ : L2.St} {H : Hp} {Q : List V → Hp → Prop} (hn : Many m fr) (h : tA X.K X.mg W' fr σ H Q) : tA X.K X.mg W' fr σ H fun vs H1 => vs.length = m ∧ Q vs H1 := by
  obtain ⟨s, A, F, r, q⟩ := h
  refine ⟨s, A, F, r, ?_⟩
  have hl := hn.len s
  revert q hl
  cases fr s with
  | ok ws s1 => exact fun q hl A' F' H' vs a' e' r' rs => ⟨by rw [rs.length]; exact hl _ _ rfl, q A' F' H' vs a' e' r' rs⟩
  | exc c ns ws s' => exact fun q _ => q
  | bad => exact fun q _ => q
/-- constants as defaults -/
inductive Dfs : List V → List D → Prop
  | nil : Dfs [] []
  | int {i : Int} {vs ds} : Dfs vs ds → Dfs (.int i :: vs) (.int i :: ds)
  | non {vs ds} : Dfs vs ds → Dfs (.non :: vs) (.non :: ds)
  | bl {b : Bool} {vs ds} : Dfs vs ds → Dfs (.bl b :: vs) (.bl b :: ds)
  | str {x : Str} {vs ds} : Dfs vs ds → Dfs (.str x :: vs) (.str x :: ds)
theorem Dfs.rws {vs : List V} {ds : List D} (h : Dfs vs ds) {K : PySem.W.Frag} {mg : Str → Option Value} {A : List Addr} {F : Hp} : RWs K mg A F vs (ds.map .d) := by
  induction h with
  | nil => exact .nil
  | int _ ih => exact .cons (.int _) ih
  | non _ ih => exact .cons .non ih
  | bl _ ih => exact .cons (.bl _) ih
  | str _ ih => exact .cons (.str _) ih
theorem RWs.app {K : PySem.W.Frag} {mg : Str → Option Value} {A : List Addr} {F : Hp} {vs us : List V} {ws zs : List W} (h : RWs K mg A F vs ws) (h2 : RWs K mg A F us zs) : RWs K mg A F (vs ++ us) (ws ++ zs) := by
  induction h with
  | nil => exact h2
  | cons a _ ih => exact .cons a ih
theorem callX_imp {σ : L2.St} {H : Hp} {Q : VK} {dvs : List V} {dws : List D} (hd : Dfs dvs dws) (h : tE X.K X.mg W' (eCallX G ix dws fr fk) σ H Q) (hl : ∀ (ws zs : List W), ws.length = m → zs.length = ks.length → (picks ix (ws ++ zs ++ dws.map .d)).length = np) (hn : Many m fr) (hk : Many ks.length fk) :
    tCallX (spOf X.K X.mg np G) ix dvs (WE W') (tA X.K X.mg W' fr) (tA X.K X.mg W' fk) σ H Q := by
  obtain ⟨s, A, F, r, q⟩ := h
  have q0 := PostA.bind q
  refine ⟨s, A, F, r, ?_⟩
  have hn' := hn.len s
  revert q0 hn'
  cases fr s with
  | ok ws s1 =>
    intro q0 hn' A' F' H' vs a' e' r' rs
    obtain ⟨w2, s2, A2, F2, a2, e2, r2, rx, q2⟩ := q0 A' F' H' vs a' e' r' rs
    refine ⟨s2, A2, F2, r2, ?_⟩
    have q3 := PostA.bind q2
    have hk' := hk.len s2
    revert q3 hk'
    cases fk s2 with
    | ok zs s3 =>
      intro q3 hk' A3 F3 H3 us a3 e3 r3 ru
      obtain ⟨z4, s4, A4, F4, a4, e4, r4, ry, q4⟩ := q3 A3 F3 H3 us a3 e3 r3 ru
      have hz : w2.length = m := by rw [← rx.length, rs.length]; exact hn' _ _ rfl
      have hz2 : z4.length = ks.length := by rw [← ry.length, ru.length]; exact hk' _ _ rfl
      have rr := pick_rws (((rx.mono a4 e4).app ry).app hd.rws) ix
      refine ⟨by rw [rr.length]; exact hl _ _ hz hz2, _, s4.ce, A4, F4, r4.cs, rr, ?_⟩
      revert q4
      cases G (picks ix (w2 ++ z4 ++ dws.map .d)) s4.ce with
      | ok w s3 => exact fun q2 A3 F3 H3 v a3 e3 r3 h3 => q2 A3 F3 H3 v a3 e3 (r4.cells a3 e3 r3) h3
      | exc c ns ws s3 => exact fun q2 A3 F3 H3 C d vs a3 e3 r3 hc h3 hd => q2 A3 F3 H3 C d vs a3 e3 (r4.cells a3 e3 r3) hc h3 hd
      | bad => exact fun q2 => q2
    | exc c ns ws s' => exact fun q0 _ => q0
    | bad => exact fun q0 _ => q0
  | exc c ns ws s' => exact fun q0 _ => q0
  | bad => exact fun q0 _ => q0
/-- a def that is called with keywords, with defaults -/
structure DefOkX (P : Program) (w : World) (K : PySem.W.Frag) (mg : Str → Option Value) (base : Heap) (x : Str) (k np : Nat) (m : Nat) (ks : List Str) (ix : List Nat) (dws : List D) (G : Fn) : Prop where
  ex : ∃ (f : Addr) (fd : FuncData) (ps : List Str) (ds : List Value) (dvs : List V), mg x = some (.ref f) ∧ PySem.W.keepIn K (.ref f) = true ∧ BindX K fd ps ds m ks ix ∧ Vals dvs ds ∧ Dfs dvs dws ∧ FnG P w K mg base k f fd ps (spOf K mg np G)
theorem ve_callX {dws : List D} (D : DefOkX X.prog X.w X.K X.mg X.base x k np m ks ix dws G) (hr : RmG k' X.A) (tk : Takes X W') (ha : VA X W' (e :: es) fr) (hkw : VK' X W' kws fk) (hn : Many m fr) (hn2 : Many ks.length fk)
    (hl : ∀ (ws zs : List W), ws.length = m → zs.length = ks.length → (picks ix (ws ++ zs ++ dws.map .d)).length = np) (hk : k ≤ k' := by decide)
    (hall : (backToKw pos (keywordEach kws X.env)).all (·.1.isSome) = true := by rfl) (hks : (backToKw pos (keywordEach kws X.env)).filterMap (·.1) = ks := by rfl)
    (hg : Gl X x := by rfl) (hdb : (x == ("__debug__" : Str)) = false := by decide) (he : starEach (e :: es) X.env = (false, eval e X.env) :: starEach es X.env := by rfl)
    (hpl : ((backTo pos (starEach (e :: es) X.env)).any (·.1) || (backToKw pos (keywordEach kws X.env)).any (·.1.isNone)) = false := by rfl) : VE X W' (.Call (.Name x p) (e :: es) kws pos) (eCallX G ix dws fr fk) := by
  obtain ⟨f, fd, ps, ds, dvs, hm, hkp, hb, hd, hd2, F⟩ := D.ex
  exact PE.imp (pe_callX F (hr.mono hk) hg hm hkp hb hd (passesC tk) ha hkw (fun _ _ _ h => ta_len hn h) (fun _ _ _ h => ta_len hn2 h) hall hks hdb he hpl) fun σ H Q h => callX_imp hd2 h hl hn hn2
theorem ve_callX0 {dws : List D} (D : DefOkX X.prog X.w X.K X.mg X.base x k np 0 ks ix dws G) (hr : RmG k' X.A) (tk : Takes X W') (hkw : VK' X W' kws fk) (hn2 : Many ks.length fk)
    (hl : ∀ (ws zs : List W), ws.length = 0 → zs.length = ks.length → (picks ix (ws ++ zs ++ dws.map .d)).length = np) (hk : k ≤ k' := by decide)
    (hall : (backToKw pos (keywordEach kws X.env)).all (·.1.isSome) = true := by rfl) (hks : (backToKw pos (keywordEach kws X.env)).filterMap (·.1) = ks := by rfl)
    (hg : Gl X x := by rfl) (hdb : (x == ("__debug__" : Str)) = false := by decide) (hpl : ((backTo pos (starEach [] X.env)).any (·.1) || (backToKw pos (keywordEach kws X.env)).any (·.1.isNone)) = false := by rfl) :
    VE X W' (.Call (.Name x p) [] kws pos) (eCallX G ix dws aNil fk) := by
  obtain ⟨f, fd, ps, ds, dvs, hm, hkp, hb, hd, hd2, F⟩ := D.ex
  refine PE.imp (pe_callX0 F (hr.mono hk) hg hm hkp hb hd (passesC tk) hkw (fun _ _ _ h => ta_len hn2 h) hall hks hdb hpl) fun σ H Q h => ?_
  have q := callX_imp hd2 h hl .nil hn2
  obtain ⟨s, A, F0, r, q⟩ := q
  exact q A F0 H [] (List.prefix_refl _) (Ex.refl _) r .nil
end
/-! chains in tests -/
section
variable {X : Cx} {W' : WX} {a b c : Expr} {fa fb fc : S → Out W} {pos : Pos} {o o' : P2}
theorem chain_imp {σ : L2.St} {H : Hp} {Q : VK} (h : tE X.K X.mg W' (eChain o o' fa fb fc) σ H Q) : tChain (rP2 X.K X.mg o) (rP2 X.K X.mg o') (tE X.K X.mg W' fa) (tE X.K X.mg W' fb) (tE X.K X.mg W' fc) σ H Q := by
  obtain ⟨s, A, F, r, q⟩ := h
  refine ⟨s, A, F, r, PostE.imp (PostE.bind q) fun vx H1 ⟨x, s1, A1, F1, a1, e1, r1, rx, q1⟩ => ?_⟩
  refine ⟨s1, A1, F1, r1, PostE.imp (PostE.bind q1) fun vy H2 ⟨y, s2, A2, F2, a2, e2, r2, ry, q2⟩ => ?_⟩
  cases hk : o s2.ce x y with
  | none => rw [hk] at q2; exact q2.elim
  | some d =>
    rw [hk] at q2
    refine ⟨s2.ce, A2, F2, x, y, d, r2.cs, rx.mono a2 e2, ry, hk, fun F3 H3 v e3 c3 hv => ?_⟩
    have r3 := r2.slots e3 c3
    split at q2
    · rename_i hd; cases hd; cases hv
      refine ⟨true, rfl, ?_⟩
      rw [if_pos rfl]
      refine ⟨s2, A2, F3, r3, PostE.imp (PostE.bind (PostE.later q2 (List.prefix_refl _) e3)) fun vz H4 ⟨z, s4, A4, F4, a4, e4, r4, rz, q4⟩ => ?_⟩
      cases hk' : o' s4.ce y z with
      | none => rw [hk'] at q4; exact q4.elim
      | some d =>
        rw [hk'] at q4
        exact ⟨s4.ce, A4, F4, y, z, d, r4.cs, ry.mono a4 (e3.trans e4), rz, hk', fun F5 H5 v e5 c5 h5 => q4 A4 F5 H5 v (List.prefix_refl _) e5 (r4.slots e5 c5) h5⟩
    · rename_i hd; cases hd; cases hv
      refine ⟨false, rfl, ?_⟩
      rw [if_neg Bool.false_ne_true]
      exact q2 A2 F3 H3 _ (List.prefix_refl _) e3 r3 (.bl false)
    · exact q2.elim
theorem vt_chain {op op' : CmpOp} (ho : OpR X (compareOp op) (rP2 X.K X.mg o)) (ho' : OpR X (compareOp op') (rP2 X.K X.mg o')) (ha : VE X W' a fa) (hb : VE X W' b fb) (hc : VE X W' c fc)
    (hm : lastMarks [op, op'] [b, c] = false := by with_unfolding_all rfl) : VT X W' (.Compare a [op, op'] [b, c] pos) (bOf (eChain o o' fa fb fc)) := PT.imp (pt_chain ho ho' ha hb hc hm) fun _ _ _ h => bOf_imp (fun _ _ _ q => chain_imp q) h
end
/-! what the built-ins stand for -/
theorem bt_len : bootBuiltins "len" = some (.builtin "len") := by decide +kernel
theorem bt_isinstance : bootBuiltins "isinstance" = some (.builtin "isinstance") := by decide +kernel
theorem bt_all : bootBuiltins "all" = some (.builtin "all") := by decide +kernel
theorem bt_any : bootBuiltins "any" = some (.builtin "any") := by decide +kernel
theorem bt_sum : bootBuiltins "sum" = some (.builtin "sum") := by decide +kernel
theorem bt_max : bootBuiltins "max" = some (.builtin "max") := by decide +kernel
theorem bt_min : bootBuiltins "min" = some (.builtin "min") := by decide +kernel
theorem bt_abs : bootBuiltins "abs" = some (.builtin "abs") := by decide +kernel
theorem bt_int : bootBuiltins "int" = some (.type "int") := by decide +kernel
theorem bt_bool : bootBuiltins "bool" = some (.type "bool") := by decide +kernel
theorem bt_str : bootBuiltins "str" = some (.type "str") := by decide +kernel
theorem bt_list : bootBuiltins "list" = some (.type "list") := by decide +kernel
theorem bt_tuple : bootBuiltins "tuple" = some (.type "tuple") := by decide +kernel
theorem bt_dict : bootBuiltins "dict" = some (.type "dict") := by decide +kernel
end VL

set_option maxHeartbeats 1000000
namespace VL
open PySem PySem.Spec PyProof.Rows L2

/-! ### sorted, of data -/
open Classical in
noncomputable def srtD (ds : List D) : Option (List D) := match pyDs ds with
  | some ps => if PySem.W.AllAlike ps ∧ PySem.W.Sortable ps ∧ (∀ p ∈ ps, p.depth ≤ 60) then some (((ds.zip ps).mergeSort (fun a b => PySem.W.dataLe false Prod.snd a b)).map Prod.fst) else none
  | none => none
noncomputable def fSorted : D → Option D
  | .lst ds => (srtD ds).map .lst
  | _ => none
theorem pyDs_len : ∀ {ds : List D} {ps : List PyData}, pyDs ds = some ps → ds.length = ps.length
  | [], ps, e => by simp [pyDs] at e; subst e; rfl
  | d :: ds, ps, e => by
    simp only [pyDs] at e
    cases q : pyD d with
    | none => rw [q] at e; cases e
    | some p => cases q2 : pyDs ds with
      | none => rw [q, q2] at e; cases e
      | some qs => rw [q, q2] at e; cases e; simp [pyDs_len q2]
section
variable {X : Cx} {pins : List (Addr × Obj)} {s : Shared} {σ : L2.St} {H F : Hp}
theorem each_of {K : PySem.W.Frag} {mg : Str → Option Value} {A : List Addr} {ce : List (Option Cell)} (I : Inv X pins σ H s) (e : Ex F H) : ∀ {vs : List V} {us : List Value} {ds : List D} {ps : List PyData}, Vals vs us → RAll X.K X.mg F vs ds → pyDs ds = some ps →
    ∃ bs : List (V × D × PyData), PySem.W.EachIs (fun u b => RelV b.1 u) us bs ∧ PySem.W.EachIs (fun u b => ∃ as, Reads s.heap u b.2.2 as) us bs ∧ bs.map (·.2.2) = ps ∧ bs.map (·.2) = ds.zip ps ∧ (∀ b ∈ bs, R X.K X.mg F b.1 b.2.1) := by
  intro vs us ds ps hv
  induction hv generalizing ds ps with
  | nil =>
    intro r q
    cases r
    simp [pyDs] at q
    subst q
    exact ⟨[], .nil, .nil, rfl, rfl, by simp⟩
  | @cons v u vs us a b ih =>
    intro r q
    cases r with
    | @cons _ _ d ds r1 r2 =>
      simp only [pyDs] at q
      cases q1 : pyD d with
      | none => rw [q1] at q; cases q
      | some p =>
        cases q2 : pyDs ds with
        | none => rw [q1, q2] at q; cases q
        | some qs =>
          rw [q1, q2] at q; cases q
          obtain ⟨bs, h1, h2, h3, h4, h5⟩ := ih r2 q2
          obtain ⟨as, hr⟩ := Dp.reads I p v u (R.dp (r1.mono e) q1) a
          exact ⟨(v, d, p) :: bs, .cons a h1, .cons ⟨as, hr⟩ h2, by simp [h3], by simp [h4], fun z hz => by
            rcases List.mem_cons.mp hz with rfl | hz
            · exact r1
            · exact h5 z hz⟩
theorem each_vals {us : List Value} {bs : List (V × D × PyData)} (h : PySem.W.EachIs (fun u b => RelV b.1 u) us bs) : Vals (bs.map (·.1)) us := by
  induction h with
  | nil => exact .nil
  | cons a _ ih => exact .cons a ih
theorem rall_map {K : PySem.W.Frag} {mg : Str → Option Value} {bs : List (V × D × PyData)} (h : ∀ b ∈ bs, R K mg F b.1 b.2.1) : RAll K mg F (bs.map (·.1)) (bs.map (·.2.1)) := by
  induction bs with
  | nil => exact .nil
  | cons b bs ih => exact .cons (h b List.mem_cons_self) (ih fun z hz => h z (List.mem_cons_of_mem _ hz))
theorem b_sorted (hu : X.A.units + 198 < cLine) : CallR X (.builtin "sorted") (rPN X.K X.mg (one fSorted)) := by
  intro pins s σ H xs us Q I r ⟨ce, A, F, ws, d, rc, hx, ho, fin⟩
  obtain ⟨w, a, rfl, ha, hf⟩ := one_some ho
  obtain ⟨v, rfl, hv⟩ := one_vs hx
  unfold fSorted at hf
  split at hf
  · rename_i ds
    cases hs : srtD ds with
    | none => rw [hs] at hf; cases hf
    | some es =>
      rw [hs] at hf; cases hf
      unfold srtD at hs
      split at hs
      · rename_i ps hps
        split at hs
        · rename_i hc
          obtain ⟨c1, c2, c3⟩ := hc
          cases hs
          obtain ⟨p, vs, rfl, h1, r1⟩ := d_lst rc hv ha
          obtain ⟨its, rv, hl, hz⟩ := I.list (SqL.of h1)
          obtain ⟨bs, e1, e2, e3, e4, e5⟩ := each_of (K := X.K) (mg := X.mg) (A := A) (ce := ce) I rc.ex rv r1 hps
          have hlen : bs.length = its.length := by
            have := congrArg List.length e3; rw [List.length_map] at this
            rw [this, ← pyDs_len hps, ← r1.length, rv.length]
          rw [Vals.ref1 r]
          refine PySem.W.sorted_data (enc := fun b : V × D × PyData => b.2.2) (R := fun u b => RelV b.1 u) hl.isList e1 e2 (by rw [e3]; exact c1) (by rw [e3]; exact c2) (by rw [hlen, ← rv.length]; exact hz) (fun b hb => ?_) fun out h1' h2' => ?_
          · have : b.2.2 ∈ ps := by rw [← e3]; exact List.mem_map.mpr ⟨b, hb, rfl⟩
            have := c3 _ this
            omega
          · have hv' := each_vals h2'
            have hr' : RAll X.K X.mg F ((bs.mergeSort (PySem.W.dataLe false fun b => b.2.2)).map (·.1)) ((bs.mergeSort (PySem.W.dataLe false fun b => b.2.2)).map (·.2.1)) := rall_map fun b hb => e5 b (List.mem_mergeSort.mp hb)
            have hd : (bs.mergeSort (PySem.W.dataLe false fun b => b.2.2)).map (·.2.1) = ((ds.zip ps).mergeSort (fun a b => PySem.W.dataLe false Prod.snd a b)).map Prod.fst := by
              rw [← e4, ← List.map_mergeSort (f := fun b : V × D × PyData => b.2) (r := PySem.W.dataLe false fun b : V × D × PyData => b.2.2) (fun a _ b _ => rfl), List.map_map]
              rfl
            rw [hd] at hr'
            obtain ⟨ep, he'⟩ := PyProof.Rows.sortedAll_at s.heap its out.toArray
            have hsz : ((bs.mergeSort (PySem.W.dataLe false fun b => b.2.2)).map (·.1)).length ≤ sizeLine := by
              rw [List.length_map, (List.mergeSort_perm _ _).length_eq, hlen, ← rv.length]; exact hz
            exact ⟨.ref _, upd H (s.heap.objs.size + 1) (.lst ((bs.mergeSort (PySem.W.dataLe false fun b => b.2.2)).map (·.1))), I.laid (t' := s.toks) (fun _ _ => PyProof.Rows.sortedAll_old) (Nat.le_succ _) ⟨hsz, out, ep, hv', he'⟩, rfl, fin.lst rc hr' (I.hok.fresh (Nat.le_succ _))⟩
        · cases hs
      · cases hs
  · cases hf
end
/-! ### repr, of lists and tuples -/
def fRepr (a : D) : Option D := match a with
  | .lst _ | .tup _ => match pyD a with
    | some p => if p.showable = true ∧ p.hasDict = false ∧ p.depth ≤ 60 ∧ p.shown.length ≤ sizeLine then some (.str p.shown) else none
    | none => none
  | _ => none
section
variable {X : Cx} {H F : Hp}
theorem rt_at {K : PySem.W.Frag} {mg : Str → Option Value} {v : V} {d : D} (h : R K mg F v d) (hd : (∃ ds, d = .lst ds) ∨ ∃ ds, d = .tup ds) : ∃ a, v = .ref a := by
  rcases hd with ⟨ds, rfl⟩ | ⟨ds, rfl⟩ <;> cases h <;> exact ⟨_, rfl⟩
theorem b_repr (hu : X.A.units + 198 < cLine) (hg : X.A.guards = some []) : CallR X (.builtin "repr") (rPN X.K X.mg (one fRepr)) := by
  intro pins s σ H xs us Q I r ⟨ce, A, F, ws, d, rc, hx, ho, fin⟩
  obtain ⟨w, a, rfl, ha, hf⟩ := one_some ho
  obtain ⟨v, rfl, hv⟩ := one_vs hx
  have hr := (dat_rt rc hv ha).r rc.ex
  have hk : (∃ ds, a = .lst ds) ∨ ∃ ds, a = .tup ds := by
    unfold fRepr at hf
    split at hf
    · exact .inl ⟨_, rfl⟩
    · exact .inr ⟨_, rfl⟩
    · cases hf
  have hq : ∃ p, pyD a = some p ∧ (p.showable = true ∧ p.hasDict = false ∧ p.depth ≤ 60 ∧ p.shown.length ≤ sizeLine) ∧ d = .str p.shown := by
    unfold fRepr at hf
    rcases hk with ⟨ds, rfl⟩ | ⟨ds, rfl⟩ <;> simp only at hf <;> split at hf
    · split at hf
      · cases hf; exact ⟨_, by assumption, by assumption, rfl⟩
      · cases hf
    · cases hf
    · split at hf
      · cases hf; exact ⟨_, by assumption, by assumption, rfl⟩
      · cases hf
    · cases hf
  obtain ⟨p, hp, ⟨c1, c2, c3, c4⟩, rfl⟩ := hq
  obtain ⟨q, rfl⟩ := rt_at hr hk
  rw [Vals.ref1 r]
  obtain ⟨as, rd⟩ := Dp.reads I p _ (.ref q) (R.dp hr hp) rfl
  exact repr_of_reads' rd c1 (fun z => by rw [c2] at z; cases z) hg (by omega) (fun _ _ e => e) (fun h' u tk k => ⟨.str _, H, I.kept k, ⟨u, rfl⟩, fin.now rc (.str _)⟩) c4
end
end VL

set_option maxHeartbeats 1000000
namespace VL
open PySem PySem.Spec PyProof.Rows L2

/-! ### xs[a:b] = ys -/
def sSetSl (fo fl fh fe : S → Out W) (s : S) : Fl := (fe s).then fun v s1 => (fo s1).then fun w s2 => (fl s2).then fun l s3 => (fh s3).then fun h s4 => match v, lstC s4.ce w, l, h with
  | .d (.lst ds), some (k, ws), .d (.int i), .d (.int j) => if 0 ≤ i ∧ i ≤ j ∧ j ≤ ws.length ∧ ws.length + ds.length ≤ sizeLine then .nx (putC s4 k (ws.take i.toNat ++ ds.map .d ++ ws.drop j.toNat)) else .bad
  | _, _, _, _ => .bad
def gSetSl (to tl th : TE) : TG := fun v σ H Q => to σ H fun x H1 => tl σ H1 fun l H2 => th σ H2 fun u H3 => ∃ p b xs ys a c, x = .ref p ∧ v = .ref b ∧ l = .int a ∧ u = .int c ∧ H3 p = some (.lst xs) ∧ H3 b = some (.lst ys) ∧ p ≠ b ∧ 0 ≤ a ∧ a ≤ c ∧ c ≤ xs.length ∧
  xs.length + ys.length ≤ sizeLine ∧ Q σ (upd H3 p (.lst (xs.take a.toNat ++ ys ++ xs.drop c.toNat)))
section
variable {X : Cx} {W' : WX} {e o lo hi : Expr} {fo fe fl fh : S → Out W} {pos apos p2 : Pos} {to tl th : TE}
theorem pg_sl (ho : PE X o to) (hl : PE X lo tl) (hh : PE X hi th)
    (ha : ∀ v, assign (.Subscript o (.Slice (some lo) (some hi) none p2) apos) X.env v = (do let ov ← holding [v] (eval o X.env); let iv ← holding [v, ov] (eval (.Slice (some lo) (some hi) none p2) X.env); standAt apos; holding [v, ov, iv] (setItem ov iv v); release [iv, v, ov] [])) :
    PG X (.Subscript o (.Slice (some lo) (some hi) none p2) apos) (gSetSl to tl th) := by
  refine ⟨fun pins s σ H v u Q I r h => ?_⟩
  rw [ha]
  refine wpAny_bind (wpAny_holding (thn (ho.run pins s σ H _ I h) fun ov s1 ⟨x, H1, I1, r1, q1⟩ => wpAny_bind (wpAny_holding (wpAny_Slice ?_))))
  rw [evalPart_some, evalPart_some, evalPart_none]
  refine thn (hl.run pins s1 σ H1 _ I1 q1) fun vl s2 ⟨l, H2, I2, rl, q2⟩ => thn (hh.run pins s2 σ H2 _ I2 q2) fun vu s3 ⟨c, H3, I3, ru, p, b, xs, ys, ia, ic, e1, e2, e3, e4, hp, hb, hne, z0, z1, z2, z3, q3⟩ => wpAny_pure ?_
  subst e1 e2 e3 e4
  cases r1
  cases r
  have I4 : Inv X pins σ H3 { s3 with heap := s3.heap.push { cls := .type "slice", data := .fields #[vl, vu, .none] } } := I3.kept (t' := s3.toks) fun b ob q => Heap.get?_push_of_some _ q
  refine wpAny_bind (wpAny_standAt (wpAny_bind (wpAny_holding (set_slice I4 hp hb hne (Heap.IsSliceOf.new ..) rl ru z0 z1 z2 z3 fun s' I5 => ?_))))
  exact wpAny_release ⟨σ, _, I5, q3⟩
theorem vs_setSl (ho : VE X W' o fo) (hl : VE X W' lo fl) (hh : VE X W' hi fh) (he : VE X W' e fe)
    (hs : swapsWithSole [.Subscript o (.Slice (some lo) (some hi) none p2) apos] e pos.line X.env = pure false := by rfl) (hw : swappedStores [.Subscript o (.Slice (some lo) (some hi) none p2) apos] e X.env = pure none := by rfl)
    (h1 : (assignEach [.Subscript o (.Slice (some lo) (some hi) none p2) apos] X.env).map (·.2) = [assign (.Subscript o (.Slice (some lo) (some hi) none p2) apos) X.env] := by rfl)
    (ha : ∀ v, assign (.Subscript o (.Slice (some lo) (some hi) none p2) apos) X.env v = (do let ov ← holding [v] (eval o X.env); let iv ← holding [v, ov] (eval (.Slice (some lo) (some hi) none p2) X.env); standAt apos; holding [v, ov, iv] (setItem ov iv v); release [iv, v, ov] []) := by intro _; rfl) :
    VS X W' (.Assign [.Subscript o (.Slice (some lo) (some hi) none p2) apos] e pos) (sSetSl fo fl fh fe) := PS.imp (ps_asg he (pg_sl ho hl hh ha) hs hw h1) fun De σ H h => by
  obtain ⟨s, A, F, r, q⟩ := h
  refine ⟨s, A, F, r, PostE.imp (PostE.thenS q) fun v H1 ⟨w, s1, A1, F1, a1, e1, r1, rw1, q1⟩ => ?_⟩
  refine ⟨s1, A1, F1, r1, PostE.imp (PostE.thenS q1) fun vo H2 ⟨wo, s2, A2, F2, a2, e2, r2, rw2, q2⟩ => ?_⟩
  refine ⟨s2, A2, F2, r2, PostE.imp (PostE.thenS q2) fun vl H3 ⟨wl, s3, A3, F3, a3, e3, r3, rw3, q3⟩ => ?_⟩
  refine ⟨s3, A3, F3, r3, PostE.imp (PostE.thenS q3) fun vh H4 ⟨wh, s4, A4, F4, a4, e4, r4, rw4, q4⟩ => ?_⟩
  split at q4
  · rename_i ds k ws i j hc _ _ _
    cases rw3
    cases rw4
    split at q4
    · rename_i hz
      have ra := (rw2.mono a3 e3).mono a4 e4
      obtain ⟨hk, hcc⟩ := lstC_eq hc
      obtain ⟨b, us, hb', h3, h4, h5⟩ := Rel.lst r4.cs ra hc
      subst hb'
      have rv := ((rw1.mono a2 e2).mono a3 e3).mono a4 e4
      cases rv with
      | @lst y ys _ hF rall =>
        have hy := r4.cs.ex _ _ hF
        obtain ⟨b2, g1, g2, _⟩ := r4.cs.cell k _ hcc
        have hne : b ≠ y := by
          rintro rfl
          subst hk
          obtain ⟨b3, g3, g4⟩ := ra
          cases g4
          rw [g1] at g3; cases g3
          rw [g2] at hF; cases hF
        have hws : RWs X.K X.mg A4 F4 ys (ds.map .d) := RWs.ofR rall
        exact ⟨b, y, us, ys, i, j, rfl, rfl, rfl, rfl, h3, hy, hne, hz.1, hz.2.1, by rw [h4.length]; exact hz.2.2.1, by rw [h4.length, rall.length]; exact hz.2.2.2,
          q4 A4 F4 _ σ (List.prefix_refl _) (Ex.refl _) (r4.put' (h5 _ _ (((h4.take _).append hws).append (h4.drop _))))⟩
    · exact q4.elim
  · exact q4.elim
end
end VL

set_option maxHeartbeats 1000000
namespace VL
open PySem PySem.Spec PyProof.Rows L2

/-! ### clauses, by a table of the errors that may come -/
structure ExTab (K : PySem.W.Frag) (mg : Str → Option Value) (EC : List Str) : Prop where
  ex : ∀ c ∈ EC, ∀ c' ∈ EC, ∃ C C', mg c = some (.ref C) ∧ mg c' = some (.ref C') ∧ PySem.W.exmOne K (.ref C) (.ref C') = some (c == c')
def mtE (EC : List Str) (c c' : Str) : Bool := !EC.contains c || c == c'
structure ErrF (K : PySem.W.Frag) (mg : Str → Option Value) (c n : Str) (C : Addr) : Prop where
  gC : mg c = some (.ref C)
  xf : XfC K C
  no : PySem.W.findIn K (.ref C) n = some none
theorem Err1.f {P : Program} {w : World} {K : PySem.W.Frag} {mg : Str → Option Value} {base : Heap} {c n : Str} {C : Addr} (E : Err1 P w K mg base c n C) : ErrF K mg c n C := ⟨E.gC, E.xf, E.no⟩
def Cls2 (X : Cx) (W' : WX) (EC : List Str) (hds : List ExceptHandler) (cl : List (Str × Hnd)) : Prop := ∃ l, Hds X hds l ∧ Clauses X.K X.mg W' (mtE EC) cl l
section
variable {X : Cx} {W' : WX} {EC : List Str} {c c' n k x er : Str} {C C' : Addr} {i j : Nat} {h : Hnd} {hds : List ExceptHandler} {cl r : List (Str × Hnd)} {p p1 p2 p3 p4 p5 pos pos' : Pos} {kd : Nat}
theorem hm_of (T : ExTab X.K X.mg EC) (hc : c' ∈ EC) (hC : X.mg c' = some (.ref C')) (hbad : ∀ c ns ws s, c ≠ c' → h c ns ws s = .bad) :
    ∀ c C, X.mg c = some (.ref C) → (∃ b, PySem.W.exmOne X.K (.ref C) (.ref C') = some b ∧ b = mtE EC c c') ∨ ∀ ns ws s, pick (mtE EC) c ns ws s ((c', h) :: r) = .bad := by
  intro c C hm
  by_cases he : c ∈ EC
  · obtain ⟨D, D', h1, h2, h3⟩ := T.ex c he c' hc
    rw [hm] at h1; cases h1
    rw [hC] at h2; cases h2
    exact .inl ⟨_, h3, by simp [mtE, he]⟩
  · refine .inr fun ns ws s => ?_
    have hne : c ≠ c' := fun z => he (z ▸ hc)
    simp only [pick]
    rw [if_pos (by simp [mtE, he])]
    exact hbad _ _ _ _ hne
theorem cl_nil : Cls2 X W' EC [] [] := ⟨[], .nil, .nil⟩
theorem hAsgL_bad : ∀ c ns ws s, c ≠ c' → hAsgL i j c' n k c ns ws s = .bad := fun c ns ws s h => by unfold hAsgL; rw [if_neg fun z => h z.1]
theorem hRetL_bad : ∀ c ns ws s, c ≠ c' → hRetL i c' n k c ns ws s = .bad := fun c ns ws s h => by unfold hRetL; rw [if_neg fun z => h z.1]
theorem hRetT_bad : ∀ c ns ws s, c ≠ c' → hRetT i c' n k c ns ws s = .bad := fun c ns ws s h => by unfold hRetT; rw [if_neg fun z => h z.1]
theorem el_ok {a : Addr} {oe : Obj} {cls : Value} {d : Option Addr} {pn : List (Addr × Obj)} (E : ErrF X.K X.mg c n C) (hz : Zc cls d oe) (hf : ∃ vs, oe.data = .fields vs) (hi : X.N[i]? = some er) (hv : Vis X.env.scope er) (hd : (er == ("__debug__" : Str)) = false) (hcd : (er == ("__classdict__" : Str)) = false)
    (hb : attributeBase (.Name er p2) n X.env (eval (.Name er p2) X.env) = eval (.Name er p2) X.env) :
    PE (X.suite a ((a, oe) :: pn)) (.List [.Constant (.str k) kd p1, .Attribute (.Name er p2) n p3] p4) (tLst (tCons (tC (.str k)) (tCons (tXf a cls d C n (tVar i)) tNil))) :=
  pe_lst (pa_cons pe_str (pa_cons (pe_xf E.xf E.no hz hf (pe_var hi hv hd hcd) hb) pa_nil))
theorem cl_asgL (j : Nat) (T : ExTab X.K X.mg EC) (E : ErrF X.K X.mg c n C) (hN : X.N.Nodup) (i : Nat) (R : Cls2 X W' EC hds cl) (hc : c ∈ EC := by decide) (hij : i ≠ j := by decide) (hi : X.N[i]? = some er := by rfl) (hj : X.N[j]? = some x := by rfl) (hln : X.env.kindOf er = some .local := by rfl)
    (hg : Gl X c := by rfl) (hdb : (c == ("__debug__" : Str)) = false := by decide) (hv : Vis X.env.scope er := by first | exact Or.inl rfl | exact Or.inr (Or.inl rfl) | exact Or.inr (Or.inr rfl)) (hd : (er == ("__debug__" : Str)) = false := by decide) (hcd : (er == ("__classdict__" : Str)) = false := by decide)
    (hb : attributeBase (.Name er p2) n X.env (eval (.Name er p2) X.env) = eval (.Name er p2) X.env := by rfl) (hx : Loc X.env.scope x := by first | exact Or.inl rfl | exact Or.inr rfl) (hs : swapsWith (.List [.Constant (.str k) kd p1, .Attribute (.Name er p2) n p3] p4) (some (.Name x p5)) pos.line X.env = pure false := by rfl)
    (hf : X.fn x = true ∨ X.env.scope.names.lookup x = some .local := by first | exact .inl rfl | exact .inr rfl | assumption) :
    Cls2 X W' EC (.ExceptHandler (some (.Name c p)) (some er) [.Assign [.Name x p5] (.List [.Constant (.str k) kd p1, .Attribute (.Name er p2) n p3] p4) pos] pos' :: hds) ((c, hAsgL i j c n k) :: cl) := by
  obtain ⟨l, R1, R2⟩ := R
  exact ⟨_, .cons (i := i) (ts := fun a cls d => tAsg (tLst (tCons (tC (.str k)) (tCons (tXf a cls d C n (tVar i)) tNil))) (gName j)) hi hln ⟨hg, hdb, .inl E.gC⟩ (fun a oe cls d pn hz hff => pss_one (ps_set (X := X.suite a ((a, oe) :: pn)) hN hj hx (el_ok E hz hff hi hv hd hcd hb) hs hf)) R1,
    .cons (hm_of T hc E.gC hAsgL_bad) (suite_asgL E.gC hij) R2⟩
theorem cl_retL (T : ExTab X.K X.mg EC) (E : ErrF X.K X.mg c n C) (i : Nat) (R : Cls2 X W' EC hds cl) (hc : c ∈ EC := by decide) (hi : X.N[i]? = some er := by rfl) (hln : X.env.kindOf er = some .local := by rfl)
    (hg : Gl X c := by rfl) (hdb : (c == ("__debug__" : Str)) = false := by decide) (hv : Vis X.env.scope er := by first | exact Or.inl rfl | exact Or.inr (Or.inl rfl) | exact Or.inr (Or.inr rfl)) (hd : (er == ("__debug__" : Str)) = false := by decide) (hcd : (er == ("__classdict__" : Str)) = false := by decide)
    (hb : attributeBase (.Name er p2) n X.env (eval (.Name er p2) X.env) = eval (.Name er p2) X.env := by rfl) :
    Cls2 X W' EC (.ExceptHandler (some (.Name c p)) (some er) [.Return (some (.List [.Constant (.str k) kd p1, .Attribute (.Name er p2) n p3] p4)) pos] pos' :: hds) ((c, hRetL i c n k) :: cl) := by
  obtain ⟨l, R1, R2⟩ := R
  exact ⟨_, .cons (i := i) (ts := fun a cls d => tRet (tLst (tCons (tC (.str k)) (tCons (tXf a cls d C n (tVar i)) tNil)))) hi hln ⟨hg, hdb, .inl E.gC⟩ (fun a oe cls d pn hz hff => pss_one (ps_ret (X := X.suite a ((a, oe) :: pn)) (el_ok E hz hff hi hv hd hcd hb))) R1,
    .cons (hm_of T hc E.gC hRetL_bad) (suite_retL E.gC) R2⟩
theorem vs_tryC {body : List Stmt} {h0 : ExceptHandler} {fb : S → Fl} (R : Cls2 X W' EC (h0 :: hds) cl) (hN : X.N.Nodup) (tk : Takes X W')
    (hb : ∀ (Wb : WX) (pn : List (Addr × Obj)) (xe : Value → Shared → Prop), Takes (X.tr pn xe) Wb → PassesOwn (model X.prog X.w) X.A X.env xe → VSs (X.tr pn xe) Wb body fb)
    (hs : X.stack = X.env :: X.outer := by rfl) (hf : X.env.frame = some X.env.locals := by rfl) : VS X W' (.Try body (h0 :: hds) [] [] pos) (sTry (mtE EC) fb cl) := by
  obtain ⟨l, R1, R2⟩ := R
  exact vs_try hs hf hN tk hb R1 R2
end
end VL

set_option maxHeartbeats 1000000
namespace VL
open PySem PySem.Spec PyProof.Rows L2

/-! ### the law's end, for defs that know their surroundings -/
section
variable {P : Program} {w : World} {K : PySem.W.Frag} {mg mb : Str → Option Value} {k : Nat} {fa a : Addr} {fd : FuncData} {x : Str} {sp : Sp} {st : Shared} {us : List Value} {ns : List Int}
/-- what is wanted of the law's call -/
def EndG (s0 : Shared) (r : Result) (s' : Shared) : Prop := r = .ok (.ret (.bool true)) ∧ OldK s0.heap s'.heap ∧ s'.os = s0.os ∧ AllBare s'.gens
/-- the script's object alone may be tracked -/
structure OneH (K : PySem.W.Frag) (a : Addr) (H : Hp) : Prop where
  only : Only H
  one : ∀ b u, H b = some u → b = a
  out : ∀ u, H a = some u → K.lookup a = none
theorem oneH_none : OneH K a (fun _ => none) := ⟨fun _ => .inl rfl, fun _ _ z => (by cases z), fun _ z => (by cases z)⟩
theorem lawG_at (KX : K.In st.heap) (hns : st.heap.Ns mainGlobals mg) (hb : st.heap.Ns builtinsNs mb) (hbb : ∀ x : Str, x ≠ "__name__" → mb x = bootBuiltins x) (hlim : st.heap.NoLimit) (hg : st.gens = #[])
    (ha : st.heap.get? a = some { cls := .type "list", data := .seq us.toArray }) (hr : RmG k callerA) (F : ∀ base : Heap, K.In base → base.Ns mainGlobals mg → FnG P w K mg base k fa fd [x] sp) (hbind : ∀ (s : Shared) (u : Value), BindsTo s fd ⟨[u], []⟩ [(x, u)])
    {H : Hp} (hO : OneH K a H) (hok : HOk P w H st.heap) (hsp : sp [.ref a] H (fun v _ => v = .bl true) fun _ _ _ => False) :
    codeAny (model P w) callerA (.call (.ref fa) ⟨[.ref a], []⟩) (EndG st) st := by
  -- an object that is no list of the script's is not tracked
  have off : ∀ {b : Addr} {o : Obj}, st.heap.get? b = some o → (b = a → False) → H b = none := by
    intro b o _ hne
    cases q : H b with
    | none => rfl
    | some u => exact (hne (hO.one b u q)).elim
  have offD : ∀ {b : Addr} {o : Obj} {es : Array DictEntry} {ep : Nat}, st.heap.get? b = some o → o.data = .dict es ep → H b = none := fun e d => off e (by
    rintro rfl
    rw [ha] at e
    cases e
    cases (show Data.seq us.toArray _ = Data.dict _ _ from d))
  have names : ∀ {b : Addr} {m : Str → Option Value}, st.heap.Ns b m → (hidT st.heap H).Ns b m := by
    rintro b m ⟨o, es, ep, e, d, r⟩
    exact ⟨o, es, ep, hidT_get e (offD e d), d, r⟩
  have inK : K.In (hidT st.heap H) := fun b o e => hidT_get (KX b o e) (by
    cases q : H b with
    | none => rfl
    | some u =>
      obtain rfl := hO.one b u q
      rw [hO.out u q] at e
      cases e)
  obtain ⟨mc, l1, l2⟩ := hlim
  have env : Env0 P w K mg (hidT st.heap H) callerA [] st H :=
    ⟨rfl, ⟨inK, names hns, ⟨mb, names hb, hbb⟩, ⟨mc, names l1, l2⟩⟩, fun b o e => of_hidT e, Nat.le_of_eq (hidT_size _ _), trivial, fun b z => (by cases (show b ∈ ([] : List Addr) from z)), hok, AllBare.of_eq hg⟩
  have run := (F _ inK (names hns)).go callerA [] st H ⟨[.ref a], []⟩ [.ref a] [.ref a] (fun v _ => v = .bl true) (fun _ _ _ => False) hr env (hbind st (.ref a)) (.cons rfl .nil) hsp
  refine codeAny_mono run fun r s' h => ?_
  match r with
  | .error e =>
    obtain ⟨_, _, _, _, _, _, _, _, _, _, _, _, z⟩ := (h : L2.CX P w [] H st (fun _ _ _ => False) e s')
    exact z.elim
  | .ok .next => exact h.elim
  | .ok .brk => exact h.elim
  | .ok .cont => exact h.elim
  | .ok (.ret u) =>
    obtain ⟨v, H', ho, hbare, un, hok', rv, rfl⟩ := h
    refine ⟨by rw [show u = Value.bool true from rv], OldK.of_keep fun b o e => ?_, ho, hbare⟩
    rcases hO.only b with z | ⟨ob, xs, z⟩
    · exact un.keep b o e z (fun y => by cases y) (fun y => by cases y)
    · obtain ⟨e1, _⟩ := hok b _ z
      rw [e] at e1
      cases e1
      exact (hok' b _ (un.frzs b _ _ z)).1
theorem lawG (KX : K.In st.heap) (hns : st.heap.Ns mainGlobals mg) (hb : st.heap.Ns builtinsNs mb) (hbb : ∀ x : Str, x ≠ "__name__" → mb x = bootBuiltins x) (hlim : st.heap.NoLimit) (hg : st.gens = #[])
    (ha : st.heap.get? a = some { cls := .type "list", data := .seq us.toArray }) (hi : IntsAre us ns) (hl : ns.length ≤ sizeLine) (hr : RmG k callerA) (F : ∀ base : Heap, K.In base → base.Ns mainGlobals mg → FnG P w K mg base k fa fd [x] sp)
    (hbind : ∀ (s : Shared) (u : Value), BindsTo s fd ⟨[u], []⟩ [(x, u)]) (hsp : ∀ H : Hp, Only H → SqL K H a (ns.map V.int) → sp [.ref a] H (fun v _ => v = .bl true) fun _ _ _ => False) :
    codeAny (model P w) callerA (.call (.ref fa) ⟨[.ref a], []⟩) (EndG st) st := by
  have rv : Vals (ns.map V.int) us := vals_ints hi
  cases hk : K.lookup a with
  | some o =>
    have e := KX a o hk
    rw [ha] at e
    cases e
    exact lawG_at KX hns hb hbb hlim hg ha hr F hbind oneH_none (fun _ _ z => by cases z) (hsp _ (oneH_none (K := K) (a := a)).only (.inr ⟨_, us.toArray, _, hk, rfl, rfl, rfl, by simpa [hi.length] using hl, by simpa using rv⟩))
  | none =>
    have at_ : ∀ b u, (if b = a then some (HO.frz { cls := .type "list", data := .seq us.toArray } (.lst (ns.map V.int))) else none) = some u → b = a ∧ u = HO.frz { cls := .type "list", data := .seq us.toArray } (.lst (ns.map V.int)) := by
      intro b u z
      split at z
      · exact ⟨by assumption, by cases z; rfl⟩
      · cases z
    have one : OneH K a (fun b => if b = a then some (HO.frz { cls := .type "list", data := .seq us.toArray } (.lst (ns.map V.int))) else none) :=
      ⟨fun b => by
        by_cases hba : b = a
        · exact .inr ⟨_, _, if_pos hba⟩
        · exact .inl (if_neg hba), fun b u z => (at_ b u z).1, fun _ _ => hk⟩
    refine lawG_at KX hns hb hbb hlim hg ha hr F hbind one (fun b u z => ?_) (hsp _ one.only (.inl (.inr ⟨_, if_pos rfl⟩)))
    obtain ⟨rfl, rfl⟩ := at_ b u z
    exact ⟨ha, by simpa using hl, us, _, rv, ha⟩
end
theorem rmG_caller {k : Nat} (h1 : 1 + claimMargin + 3 * k + 5 < recursionLimit) (h2 : 4 + 16 * k + 200 < cLine) : RmG k callerA := ⟨⟨rfl, h1, h2⟩, rfl⟩
theorem walkG {l : PySem.W.OpenLaw} {n k : Nat} {q : Program} {loose : List Str} {XP : (Str → Option Value) → Heap → Prop} {YP : World → Heap → Prop} {d : DefRec} {x : Str} (hn : l.most = some n) (hn2 : n ≤ sizeLine) (hdf : d.params.defaults = []) (hr : RmG k callerA)
    (F : ∀ (w : World) (mg : Str → Option Value) (fa : Addr) (h : Heap), YP w h → h.Ns mainGlobals mg → mg d.name = some (.ref fa) → ∃ (K : PySem.W.Frag) (fd : FuncData) (sp : Sp), K.In h ∧ (∀ (s : Shared) (u : Value), BindsTo s fd ⟨[u], []⟩ [(x, u)]) ∧
      (∀ (H : Hp) (a : Addr) (ns : List Int), ns.length ≤ n → Only H → SqL K H a (ns.map V.int) → sp [.ref a] H (fun v _ => v = .bl true) fun _ _ _ => False) ∧ ∀ base : Heap, K.In base → base.Ns mainGlobals mg → FnG l.prog w K mg base k fa fd [x] sp) :
    PySem.W.WalkO q loose XP YP l.row.toRowW d [] (fun f vs => PySem.call f vs) := by
  refine Att.attach_call hn hdf fun w s0 s1 mg mb fa o pm cd doc a us ns G Y ho hd hcd hmg hobj hints hlen hg => ?_
  obtain ⟨K, fd, sp, KX, hb, hsp, hF⟩ := F w mg fa _ Y G.T.g hmg
  exact lawG KX G.T.g G.T.b G.T.builtins G.T.nolimit hg hobj hints (Nat.le_trans hlen hn2) hr hF hb fun H hO hS => hsp H a ns hlen hO hS
end VL

set_option maxHeartbeats 1000000
namespace VL
open PySem PySem.Spec PyProof.Rows L2

theorem bt_sorted : bootBuiltins "sorted" = some (.builtin "sorted") := by decide +kernel
theorem bt_repr : bootBuiltins "repr" = some (.builtin "repr") := by decide +kernel
theorem picks_all {α : Type} (ix : List Nat) (xs : List α) (h : ∀ i ∈ ix, i < xs.length) : (picks ix xs).length = ix.length := by
  induction ix with
  | nil => rfl
  | cons i ix ih =>
    have e : xs[i]? = some (xs[i]'(h i List.mem_cons_self)) := List.getElem?_eq_getElem _
    show (List.filterMap _ _).length = _
    rw [List.filterMap_cons_some e, List.length_cons, List.length_cons]
    exact congrArg (· + 1) (ih fun j hj => h j (List.mem_cons_of_mem _ hj))
theorem picks_len {ix : List Nat} {dws : List D} {m nk np : Nat} (h : (ix.all fun i => decide (i < m + nk + dws.length)) = true) (hn : ix.length = np) (ws zs : List W) (h1 : ws.length = m) (h2 : zs.length = nk) : (picks ix (ws ++ zs ++ dws.map .d)).length = np := by
  rw [picks_all ix _ fun i hi => ?_, hn]
  have := of_decide_eq_true (List.all_eq_true.mp h i hi)
  simp only [List.length_append, List.length_map]
  omega
/-! ### facts of the written part, by any look -/
abbrev Fact := PySem.W.Frag → Bool
def obsE (fs : List Fact) (fn : List He.DefD) (K : PySem.W.Frag) : He.AlD := ((fs.all fun f => f K) && fn.all fun d => d.ok K, fn.map fun d => He.fnW K d.at_)
def SaysE (fs : List Fact) (fn : List He.DefD) (K : PySem.W.Frag) : Prop := obsE fs fn K = He.valD fn
def obsEG (n : Nat) (fs : List Fact) (fn : List He.DefD) (g : Addr → Option Obj) : He.AlD := obsE fs fn (He.frG g (He.asD g n))
def hookE (n : Nat) (fs : List Fact) (fn : List He.DefD) : PySem.W.Hook where
  α := He.AlD
  obs := fun s => obsEG n fs fn s.heap.get?
  val := fun _ => He.valD fn
  says := fun _ h => ∃ K : PySem.W.Frag, K.In h ∧ SaysE fs fn K
  of := fun _ _ e => ⟨_, He.frG_in, e⟩
  keeps := fun _ _ _ h k => h.imp fun _ z => ⟨PySem.W.Frag.In.keeps z.1 k, z.2⟩
theorem obsEG_eq {n : Nat} {fs : List Fact} {fn : List He.DefD} {g : Addr → Option Obj} {s : Shared} (h : ∀ a, g a = s.heap.get? a) : obsEG n fs fn g = (hookE n fs fn).obs s := by
  obtain rfl : g = s.heap.get? := funext h
  rfl
section
variable {fs : List Fact} {fn : List He.DefD} {K : PySem.W.Frag}
theorem SaysE.two (c : SaysE fs fn K) : (∀ f ∈ fs, f K = true) ∧ ∀ d ∈ fn, d.ok K = true := by
  have z := congrArg (fun q : He.AlD => q.1) c
  have z2 : ((fs.all fun f => f K) && fn.all fun d => d.ok K) = true := z
  rw [Bool.and_eq_true, List.all_eq_true, List.all_eq_true] at z2
  exact z2
theorem SaysE.fact (c : SaysE fs fn K) {f : Fact} (h : f ∈ fs) : f K = true := c.two.1 f h
theorem SaysE.def_ (c : SaysE fs fn K) {d : He.DefD} (h : d ∈ fn) : ∃ fd, FunD K d.name d.qual d.params d.body d.scope (d.dvs K) (d.kws K) (He.fAd K d.at_) fd := by
  obtain ⟨i, hi⟩ := List.getElem?_of_mem h
  have z : fn.map (fun d => He.fnW K d.at_) = fn.map He.DefD.val := congrArg (fun q : He.AlD => q.2) c
  have z1 := congrArg (fun l => l[i]?) z
  simp only [List.getElem?_map, hi, Option.map_some] at z1
  exact d.funD (Option.some.inj z1) (c.two.2 d h)
end
def glB (x : Str) : Fact := fun K => (He.Fa.glo x).ok K
def frB (x : Str) : Fact := fun K => (He.Fa.free x).ok K
def inB (x : Str) (i : Int) : Fact := fun K => (He.Fa.int x i).ok K
def stB (x z : Str) : Fact := fun K => (He.Fa.str x z).ok K
/-! ### defs -/
theorem fun_ofD {K : PySem.W.Frag} {x q : Str} {st : Stmt} {f : Addr} {fd : FuncData} (F : FunD K x q (defArgs st) (defBody st) (defScope st) [] [] f fd) : Fun K x q st f fd := by
  obtain ⟨oc, od, dV, kV, doc, pm, an, cdv, ct, osl, e, lk, hcd, hD, hK⟩ := F.ex
  rcases hD with ⟨_, rfl⟩ | ⟨z, _⟩
  · exact ⟨⟨oc, od, kV, doc, pm, an, cdv, ct, osl, e, lk, hcd⟩, F.kp⟩
  · exact absurd rfl z
/-- a plain def of the top: bound as it is written -/
def defAt (x : Str) (st : Stmt) : He.DefD := ⟨(x, none), x, x, defArgs st, defBody st, defScope st, [], []⟩
def methAt (c m : Str) (q : Str) (st : Stmt) : He.DefD := ⟨(c, some m), m, q, defArgs st, defBody st, defScope st, [], []⟩
theorem funAt {fs : List Fact} {fn : List He.DefD} {K : PySem.W.Frag} {h : Heap} {mg : Str → Option Value} {x : Str} {st : Stmt} {ps : List Str} (X : K.In h) (G : h.Ns mainGlobals mg) (c : SaysE fs fn K) (hd : defAt x st ∈ fn) (hf : glB x ∈ fs)
    (hb : ∀ (kV doc pm : Value) (an : Option Addr) (cdv ct : Value) (us : List Value), us.length = ps.length → bindArgs (PySem.W.fnOf x x (defArgs st) (defBody st) (defScope st) .none kV doc pm an cdv ct) ⟨us, []⟩ = pure (ps.zip us)) (hn : ps = (defArgs st).args.map (·.arg)) : FunAt K mg x st ps := by
  obtain ⟨fd, F⟩ := c.def_ hd
  exact ⟨⟨He.ga K x, fd, He.glo_ok X G (c.fact hf), fun_ofD F, FunD.bindsN F hb⟩, hn⟩
/-! ### own errors -/
def oexB (K : PySem.W.Frag) (C : Addr) : Bool := match K.lookup C with
  | some ⟨.type "type", _, .cls cd, sl⟩ => (match cd.mro, sl.toList with
    | .ref C' :: bm, [_, _, _, _, some (.builtin n), _] => C' == C && (n == "ValueError.__new__" && (!cd.hasDel && (cd.hasDict && HandSPX.refsVE bm)))
    | _, _ => false)
  | _ => false
theorem oexB_ok {K : PySem.W.Frag} {C : Addr} (h : oexB K C = true) : ∃ nm q N bs bm sn sub ab col dd k0 k1 k2 k3 k5, K.lookup C = some (excClassObj nm q C N bs bm true sn sub ab col dd k0 k1 k2 k3 k5 "ValueError.__new__") ∧ HandSPX.refsVE bm = true := by
  unfold oexB at h
  split at h
  · rename_i dd cd sl hl
    split at h
    · rename_i D bm k0 k1 k2 k3 n k5 hm hs
      rw [Bool.and_eq_true, Bool.and_eq_true, Bool.and_eq_true, Bool.and_eq_true] at h
      obtain ⟨h1, h2, h3, h4, h5⟩ := h
      obtain rfl := beq_iff_eq.mp h1
      obtain rfl := beq_iff_eq.mp h2
      obtain ⟨nm, bs, mro, ns, qn, hd, sn, sub, ab, col, del⟩ := cd
      simp only [Bool.not_eq_true'] at hm h3 h4
      subst hm h3 h4
      have es : sl = #[k0, k1, k2, k3, some (.builtin "ValueError.__new__"), k5] := by
        cases sl
        exact congrArg List.toArray hs
      subst es
      exact ⟨nm, qn, ns, bs, bm, sn, sub, ab, col, dd, k0, k1, k2, k3, k5, hl, h5⟩
    · cases h
  · cases h
def errB (x n : Str) : Fact := fun K => (He.Fa.glo x).ok K && (oexB K (He.ga K x) && (xfB K (He.ga K x) && (decide (PySem.W.findIn K (.ref (He.ga K x)) "__setattr__" = some (some (.builtin "object.__setattr__"))) && (decide (PySem.W.typeIn K (.ref (He.ga K x)) = some (.type "type")) &&
  (PySem.W.keepIn K (.ref (He.ga K x)) && (decide (PySem.W.findIn K (.ref (He.ga K x)) n = some none) && (decide (PySem.W.findIn K (.ref (He.ga K x)) "__init__" = some (some (.ref (He.ma K (He.ga K x) "__init__")))) && PySem.W.isFn K (.ref (He.ma K (He.ga K x) "__init__")))))))))
/-- `def __init__(self, n): self.n = n` -/
theorem init1_ok {P : Program} {w : World} {K : PySem.W.Frag} {mg : Str → Option Value} {base : Heap} {C f : Addr} {fd : FuncData} {q sf n : Str} {st : Stmt} {p1 p2 p3 p4 : Pos} (T : OexC K C) (hno : PySem.W.findIn K (.ref C) n = some none) (F : Fun K "__init__" q st f fd) (S : FnScope [sf, n] [sf, n] (defScope st))
    (hbody : defBody st = [.Assign [.Attribute (.Name sf p1) n p2] (.Name n p3) p4]) (hs : Vis (defScope st) sf) (hn : Vis (defScope st) n) (hd1 : (sf == ("__debug__" : Str)) = false) (hc1 : (sf == ("__classdict__" : Str)) = false) (hd2 : (n == ("__debug__" : Str)) = false) (hc2 : (n == ("__classdict__" : Str)) = false) :
    FnOk P w K mg base (L2.CX P w) 1 f fd [sf, n] (spInit1 K C n) := by
  refine Fun.okX F S (fun vs H Q E h => ?_) fun cdv A outer s H vs Q E hr h => ?_
  · obtain ⟨a, y, rfl, _⟩ := h
    rfl
  · obtain ⟨a, y, rfl, h1, h2⟩ := h
    rw [hbody]
    refine ⟨_, pss_one (ps_ost (pe_var (i := 0) rfl hs hd1 hc1) (pe_var (i := 1) rfl hn hd2 hc2)), ?_⟩
    exact ⟨y, rfl, .ref a, rfl, a, C, rfl, T, hno, .inl ⟨h1, fun dx e1 e2 => h2 dx e1 e2⟩⟩
theorem err1_of {fs : List Fact} {fn : List He.DefD} {P : Program} {w : World} {K : PySem.W.Frag} {h base : Heap} {mg : Str → Option Value} {x n q sf : Str} {st : Stmt} {p1 p2 p3 p4 : Pos} (X : K.In h) (G : h.Ns mainGlobals mg) (c : SaysE fs fn K) (hf : errB x n ∈ fs) (hd : methAt x "__init__" q st ∈ fn)
    (S : FnScope [sf, n] [sf, n] (defScope st)) (hbody : defBody st = [.Assign [.Attribute (.Name sf p1) n p2] (.Name n p3) p4]) (hs : Vis (defScope st) sf) (hn : Vis (defScope st) n) (hd1 : (sf == ("__debug__" : Str)) = false) (hc1 : (sf == ("__classdict__" : Str)) = false) (hd2 : (n == ("__debug__" : Str)) = false) (hc2 : (n == ("__classdict__" : Str)) = false)
    (hb : ∀ (kV doc pm : Value) (an : Option Addr) (cdv ct : Value) (us : List Value), us.length = 2 → bindArgs (PySem.W.fnOf "__init__" q (defArgs st) (defBody st) (defScope st) .none kV doc pm an cdv ct) ⟨us, []⟩ = pure (([sf, n] : List Str).zip us)) :
    ∃ C, Err1 P w K mg base x n C := by
  have z := c.fact hf
  simp only [errB, Bool.and_eq_true] at z
  obtain ⟨z1, z2, z3, z4, z5, z6, z7, z8, z9⟩ := z
  obtain ⟨fd, F⟩ := c.def_ hd
  have xf := xfB_ok z3
  have T : OexC K (He.ga K x) := ⟨oexB_ok z2, of_decide_eq_true z4, xf.exC, of_decide_eq_true z5, z6⟩
  exact ⟨He.ga K x, He.glo_ok X G z1, T, xf, of_decide_eq_true z7, He.ma K (He.ga K x) "__init__", fd, sf, of_decide_eq_true z8, eq_of_beq z9, init1_ok T (of_decide_eq_true z7) (fun_ofD F) S hbody hs hn hd1 hc1 hd2 hc2, FunD.bindsN F hb⟩
def exB (EC : List Str) : Fact := fun K => EC.all fun c => (He.Fa.glo c).ok K && EC.all fun c' => decide (PySem.W.exmOne K (.ref (He.ga K c)) (.ref (He.ga K c')) = some (c == c'))
theorem exTab_of {fs : List Fact} {fn : List He.DefD} {K : PySem.W.Frag} {h : Heap} {mg : Str → Option Value} {EC : List Str} (X : K.In h) (G : h.Ns mainGlobals mg) (c : SaysE fs fn K) (hf : exB EC ∈ fs) : ExTab K mg EC := by
  have z := c.fact hf
  simp only [exB, List.all_eq_true, Bool.and_eq_true] at z
  exact ⟨fun a ha b hb => ⟨_, _, He.glo_ok X G (z a ha).1, He.glo_ok X G (z b hb).1, of_decide_eq_true ((z a ha).2 b hb)⟩⟩
end VL

set_option maxHeartbeats 1000000
namespace VL
open PySem PySem.Spec PyProof.Rows L2

/-! ### instances of own classes: fields -/
def putNs (f : Str) : List Str → List Str
  | [] => [f]
  | n :: ns => if n = f then n :: ns else n :: putNs f ns
def putWs {α : Type} (f : Str) (w : α) : List Str → List α → List α
  | n :: ns, x :: ws => if n = f then w :: ws else x :: putWs f w ns ws
  | _, _ => [w]
theorem putF_zip (f : Str) (y : V) : ∀ (ns : List Str) (vs : List V), ns.length = vs.length → putF f y (ns.zip vs) = (putNs f ns).zip (putWs f y ns vs)
  | [], [], _ => rfl
  | n :: ns, v :: vs, h => by
    show (if n = f then (n, y) :: ns.zip vs else (n, v) :: putF f y (ns.zip vs)) = (if n = f then n :: ns else n :: putNs f ns).zip (if n = f then y :: vs else v :: putWs f y ns vs)
    by_cases e : n = f
    · rw [if_pos e, if_pos e, if_pos e]; rfl
    · rw [if_neg e, if_neg e, if_neg e, putF_zip f y ns vs (by simpa using h)]; rfl
theorem put_len {α : Type} (f : Str) (w : α) : ∀ (ns : List Str) (ws : List α), ns.length = ws.length → (putNs f ns).length = (putWs f w ns ws).length
  | [], [], _ => rfl
  | n :: ns, x :: ws, h => by
    show (if n = f then n :: ns else n :: putNs f ns).length = (if n = f then w :: ws else x :: putWs f w ns ws).length
    by_cases e : n = f
    · rw [if_pos e, if_pos e]; simpa using h
    · rw [if_neg e, if_neg e, List.length_cons, List.length_cons, put_len f w ns ws (by simpa using h)]
section
variable {K : PySem.W.Frag} {mg : Str → Option Value} {A A' : List Addr} {F F' H : Hp} {ce : List (Option Cell)}
theorem RWs.putWs {f : Str} {v : V} {w : W} (h1 : RW K mg A F v w) : ∀ {ns : List Str} {vs : List V} {ws : List W}, RWs K mg A F vs ws → RWs K mg A F (putWs f v ns vs) (putWs f w ns ws)
  | [], _, _, _ => .cons h1 .nil
  | n :: ns, _, _, .nil => .cons h1 .nil
  | n :: ns, _, _, .cons (v := x) (vs := vs) (w := z) (ws := ws) a b => by
    show RWs K mg A F (if n = f then v :: vs else x :: VL.putWs f v ns vs) (if n = f then w :: ws else z :: VL.putWs f w ns ws)
    by_cases e : n = f
    · rw [if_pos e, if_pos e]; exact .cons h1 b
    · rw [if_neg e, if_neg e]; exact .cons a (RWs.putWs h1 b)
theorem RWs.look {f : Str} {w : W} : ∀ {ns : List Str} {vs : List V} {ws : List W}, RWs K mg A F vs ws → (ns.zip ws).lookup f = some w → ∃ v, (ns.zip vs).lookup f = some v ∧ RW K mg A F v w
  | [], _, _, _, e => by simp at e
  | n :: ns, _, _, .nil, e => by simp at e
  | n :: ns, _, _, .cons (v := x) (vs := vs) (w := z) (ws := ws) a b, e => by
    rw [List.zip_cons_cons, List.lookup_cons] at e
    rw [List.zip_cons_cons]
    by_cases q : (f == n) = true
    · rw [q] at e; cases e
      exact ⟨x, by rw [List.lookup_cons, q], a⟩
    · rw [Bool.eq_false_iff.mpr q] at e
      obtain ⟨v, h1, h2⟩ := RWs.look b e
      exact ⟨v, by rw [List.lookup_cons, Bool.eq_false_iff.mpr q]; exact h1, h2⟩
theorem zip_look {α : Type} {f : Str} : ∀ {ns : List Str} {vs : List α}, f ∉ ns → (ns.zip vs).lookup f = none
  | [], _, _ => by simp
  | n :: ns, [], _ => by simp
  | n :: ns, v :: vs, h => by
    have e : (f == n) = false := beq_eq_false_iff_ne.mpr fun z => h (by rw [z]; exact List.mem_cons_self)
    rw [List.zip_cons_cons, List.lookup_cons, e]
    exact zip_look fun z => h (List.mem_cons_of_mem _ z)
/-- an instance: its class, its fields -/
def insW (ce : List (Option Cell)) : W → Option (Str × List Str × List W)
  | .d (.ins c ns ds) => some (c, ns, ds.map .d)
  | .c k => match ce[k]? with
    | some (some (.ins c ns ws)) => some (c, ns, ws)
    | _ => none
  | _ => none
theorem insW_ok (r : RelC K mg A F ce H) {v : V} {w : W} {c : Str} {ns : List Str} {ws : List W} (h : RW K mg A F v w) (e : insW ce w = some (c, ns, ws)) :
    ∃ a C dx vs, v = .ref a ∧ mg c = some (.ref C) ∧ H a = some (.ins C dx (ns.zip vs)) ∧ ns.length = vs.length ∧ RWs K mg A F vs ws := by
  cases w with
  | d x =>
    cases x <;> simp [insW] at e
    obtain ⟨rfl, rfl, rfl⟩ := e
    cases h with
    | @ins a C dx _ _ vs ds hc h1 h2 h3 => exact ⟨a, C, dx, vs, rfl, hc, r.ex _ _ h1, h2, RWs.ofR h3⟩
  | c k =>
    obtain ⟨a, ha, rfl⟩ := h
    simp only [insW] at e
    split at e
    · rename_i hk
      cases e
      obtain ⟨b, h1, h2, C, dx, vs, h3, h4, h5, h6⟩ := r.cell k _ hk
      rw [ha] at h1; cases h1
      exact ⟨a, C, dx, vs, rfl, h3, h6, by rw [h4, h5.length], h5⟩
    · cases e
/-- a cell's object is frozen -/
theorem RelC.frzAt (r : RelC K mg A F ce H) {k : Nat} {c : Cell} {a : Addr} {o : HO} (hk : ce[k]? = some (some c)) (ha : A[k]? = some a) (ho : H a = some o) : Ex F (upd F a o) ∧ RelC K mg A (upd F a o) (ce.set k none) H := by
  obtain ⟨b, h1, h2, _⟩ := r.cell k c hk
  rw [ha] at h1; cases h1
  have ef : Ex F (upd F a o) := ex_upd h2
  refine ⟨ef, fun x u e => ?_, by rw [List.length_set]; exact r.len, r.nd, r.trk, fun j c2 e => ?_⟩
  · by_cases q : x = a
    · subst q; rw [upd_same] at e; cases e; exact ho
    · rw [upd_ne q] at e; exact r.ex x u e
  · by_cases q : k = j
    · subst q
      rw [List.getElem?_set_self (List.getElem?_eq_some_iff.mp hk).1] at e; cases e
    · rw [List.getElem?_set_ne q] at e
      obtain ⟨b, h4, h5, h6⟩ := r.cell j c2 e
      have hb : b ≠ a := fun z => by
        subst z
        exact q ((List.getElem?_inj (List.getElem?_eq_some_iff.mp ha).1 r.nd).mp (ha.trans h4.symm))
      exact ⟨b, h4, by rw [upd_ne hb]; exact h5, h6.mono (List.prefix_refl _) ef (fun _ q => q)⟩
end
/-- o.f, o of one of the classes cs -/
def eAttr (cs : List Str) (f : Str) (fo : S → Out W) (s : S) : Out W := (fo s).bind fun w s1 => match insW s1.ce w with
  | some (c, ns, ws) => if c ∈ cs then match (ns.zip ws).lookup f with
      | some x => .ok x s1
      | none => .bad
    else .bad
  | none => .bad
/-- o.f = e, o made here -/
def sSetAttr (cs : List Str) (f : Str) (fo fe : S → Out W) (s : S) : Fl := (fe s).then fun w s1 => (fo s1).then fun o s2 => match o with
  | .c k => match s2.ce[k]? with
    | some (some (.ins c ns ws)) => if c ∈ cs ∧ ns.length < 1000 then .nx ⟨s2.sl, s2.ce.set k (some (.ins c (putNs f ns) (putWs f w ns ws)))⟩ else .bad
    | _ => .bad
  | _ => .bad
/-- what is known of the field f in the classes cs -/
structure FldC (K : PySem.W.Frag) (mg : Str → Option Value) (cs : List Str) (f : Str) : Prop where
  ex : ∀ c ∈ cs, ∃ C, mg c = some (.ref C) ∧ Cls K C ∧ NoAttr K C f
section
variable {X : Cx} {W' : WX} {cs : List Str} {f : Str} {e o : Expr} {fo fe : S → Out W} {pos p' : Pos}
theorem ve_attr (T : FldC X.K X.mg cs f) (ho : VE X W' o fo) (hb : attributeBase o f X.env (eval o X.env) = eval o X.env := by rfl) : VE X W' (.Attribute o f pos) (eAttr cs f fo) := PE.imp (pe_fld ho hb) fun σ H Q h => by
  obtain ⟨s, A, F, r, q⟩ := h
  refine ⟨s, A, F, r, PostE.imp (PostE.bind q) fun v H1 ⟨w, s1, A1, F1, a1, e1, r1, rw1, q1⟩ => ?_⟩
  split at q1
  · rename_i c ns ws hi
    split at q1
    · rename_i hc
      split at q1
      · rename_i x hx
        obtain ⟨a, C, dx, vs, rfl, hm, hH, hl, rws⟩ := insW_ok r1.cs rw1 hi
        obtain ⟨C', hm', cl, na⟩ := T.ex c hc
        rw [hm] at hm'; cases hm'
        obtain ⟨y, h1, h2⟩ := rws.look hx
        exact ⟨a, C, dx, _, y, rfl, hH, cl, na, h1, q1 A1 F1 H1 y (List.prefix_refl _) (Ex.refl _) r1 h2⟩
      · exact q1.elim
    · exact q1.elim
  · exact q1.elim
theorem vs_setAttr (T : FldC X.K X.mg cs f) (ho : VE X W' o fo) (he : VE X W' e fe) (hs : swapsWith e (some (.Attribute o f p')) pos.line X.env = pure false := by rfl) : VS X W' (.Assign [.Attribute o f p'] e pos) (sSetAttr cs f fo fe) := PS.imp (ps_fld ho he hs) fun De σ H h => by
  obtain ⟨s, A, F, r, q⟩ := h
  refine ⟨s, A, F, r, PostE.imp (PostE.thenS q) fun v H1 ⟨w, s1, A1, F1, a1, e1, r1, rw1, q1⟩ => ?_⟩
  refine ⟨s1, A1, F1, r1, PostE.imp (PostE.thenS q1) fun vo H2 ⟨wo, s2, A2, F2, a2, e2, r2, rw2, q2⟩ => ?_⟩
  split at q2
  · rename_i k
    split at q2
    · rename_i c ns ws hk
      split at q2
      · rename_i hc
        obtain ⟨a, ha, rfl⟩ := rw2
        obtain ⟨b, h1, h2, C, dx, vs, h3, h4, h5, h6⟩ := r2.cs.cell k _ hk
        rw [ha] at h1; cases h1
        obtain ⟨C', hm', cl, na⟩ := T.ex c hc.1
        rw [h3] at hm'; cases hm'
        have hl : ns.length = vs.length := by rw [h4, h5.length]
        refine ⟨a, C, dx, _, rfl, h6, cl, na, by rw [List.length_zip]; omega, ?_⟩
        have rel : RelC X.K X.mg A2 F2 (s2.ce.set k (some (.ins c (putNs f ns) (putWs f w ns ws)))) (upd H2 a (.ins C dx (putF f v (ns.zip vs)))) :=
          r2.cs.put hk ha ⟨C, dx, putWs f v ns vs, h3, put_len f w ns ws h4, RWs.putWs (rw1.mono a2 e2) h5, by rw [upd_same, putF_zip f v ns vs hl]⟩
        exact q2 A2 F2 _ σ (List.prefix_refl _) (Ex.refl _) ⟨rel, r2.sz, r2.slot⟩
      · exact q2.elim
    · exact q2.elim
  · exact q2.elim
end
end VL

set_option maxHeartbeats 1000000
namespace VL
open PySem PySem.Spec PyProof.Rows L2

/-! ### methods of own classes, their instances made -/
/-- o.m(..): the instance first -/
def tMethP (C : Addr) (m : Str) (sp : Sp) (E : L2.St → XK) (to : TE) (t : TA) : TE := fun σ H Q => to σ H fun x H1 => ∃ a dx fs, x = .ref a ∧ H1 a = some (.ins C dx fs) ∧ fs.lookup m = none ∧ t σ H1 fun vs H2 => sp (x :: vs) H2 Q (E σ)
/-- C(..) -/
def tMakeP (C : Addr) (sp : Sp) (E : L2.St → XK) (t : TA) : TE := fun σ H Q => t σ H fun vs H1 => ∀ x dx, H1 x = none → H1 dx = none → dx ≠ x → sp (.ref x :: vs) (upd (upd H1 dx (.own x)) x (.ins C dx [])) (fun v H2 => v = .non ∧ Q (.ref x) H2) (E σ)
theorem RmG.mk' {k : Nat} {A : Around} (r : RmG (k + 1) A) (C : Addr) (us : List Value) (kw : List (Str × Value)) : RmG k (A.under (.builtin "type.__call__" ⟨.ref C :: us, kw⟩)) := by
  refine ⟨r.rm.make C us kw, ?_⟩
  have e : Code.guards (.builtin "type.__call__" ⟨.ref C :: us, kw⟩) = [] := if_neg (by show ¬ (guardIds.contains "type.__call__" = true); decide)
  show pushGuards (Code.guards (.builtin "type.__call__" ⟨.ref C :: us, kw⟩)) A.guards = some []
  rw [e]
  exact r.gd
section
variable {X : Cx} {k : Nat} {f C : Addr} {fd : FuncData} {ps : List Str} {sp : Sp} {E : L2.St → XK} {x m : Str} {p pos apos : Pos} {e o : Expr} {es : List Expr} {to : TE} {t : TA}
theorem pe_methP {pl : Sem Bool} (ho : PE X o to) (c : Cls X.K C) (hm : Meth X.K C m f) (F : FnG X.prog X.w X.K X.mg X.base k f fd ps sp) (hr : RmG k X.A) (hb : Binds X.K fd ps []) (hx : ∀ σ, PassesAt (L2.CX X.prog X.w) X σ (E σ)) (ha : PA X (e :: es) t)
    (hst : starEach (e :: es) X.env = (false, eval e X.env) :: starEach es X.env) (hpl : (backTo pos (starEach es X.env)).any (·.1) = false)
    (ht : eval (.Call (.Attribute o m apos) (e :: es) [] pos) X.env = (do let ov ← eval o X.env; standAt apos.atName; let (f, first) ← holding [ov] (getMethod ov m pl); callWith pos f first (backTo pos (starEach (e :: es) X.env)) (backToKw pos (keywordEach [] X.env)))) :
    PE X (.Call (.Attribute o m apos) (e :: es) [] pos) (tMethP C m sp E to t) := by
  refine ⟨fun pins s σ H Q I h => PySem.W.methodCall_KW (pl := pl) (thn (ho.run pins s σ H _ I h) fun u s1 ⟨x, H1, I1, rx, a, dx, fs, ex, ea, l, q⟩ => ?_) ht⟩
  subst ex
  cases rx
  refine getmeth_ok I1 ea c hm l (PySem.W.callWith_K (first := [.ref a]) (h₀ := X.base) I.ok.mod.kin hm.kp (thn (ha.run pos pins s1 σ H1 _ I1 q) fun us s2 ⟨vs, H2, I2, r, q2⟩ => ⟨I2.kIn, ?_⟩) hst hpl)
  have r2 : Vals (V.ref a :: vs) (Value.ref a :: us) := .cons rfl r
  have hl : (Value.ref a :: us).length = ps.length := by rw [← r2.length]; exact F.len _ _ _ _ q2
  have b := hb s2 (.ref a :: us) I2.kIn (by rw [List.append_nil]; exact hl)
  rw [List.append_nil] at b
  exact runG F hr b (hx σ) I2 r2 q2
theorem pe_methP0 {pl : Sem Bool} (ho : PE X o to) (c : Cls X.K C) (hm : Meth X.K C m f) (F : FnG X.prog X.w X.K X.mg X.base k f fd ps sp) (hr : RmG k X.A) (hb : Binds X.K fd ps []) (hx : ∀ σ, PassesAt (L2.CX X.prog X.w) X σ (E σ))
    (ht : eval (.Call (.Attribute o m apos) [] [] pos) X.env = (do let ov ← eval o X.env; standAt apos.atName; let (f, first) ← holding [ov] (getMethod ov m pl); callWith pos f first (backTo pos (starEach [] X.env)) (backToKw pos (keywordEach [] X.env)))) :
    PE X (.Call (.Attribute o m apos) [] [] pos) (tMethP C m sp E to tNil) := by
  refine ⟨fun pins s σ H Q I h => PySem.W.methodCall_KW (pl := pl) (thn (ho.run pins s σ H _ I h) fun u s1 ⟨x, H1, I1, rx, a, dx, fs, ex, ea, l, q⟩ => ?_) ht⟩
  subst ex
  cases rx
  have r2 : Vals [V.ref a] [Value.ref a] := .cons rfl .nil
  have hl : ([Value.ref a] : List Value).length = ps.length := by rw [← r2.length]; exact F.len _ _ _ _ q
  have b := hb s1 [.ref a] I1.kIn (by rw [List.append_nil]; exact hl)
  rw [List.append_nil] at b
  exact getmeth_ok I1 ea c hm l (PySem.W.callWith_K0 (first := [.ref a]) I1.kIn hm.kp (runG F hr b (hx σ) I1 r2 q))
theorem makeG {pins : List (Addr × Obj)} {σ : L2.St} {H : Hp} {s : Shared} {Q : VK} {us : List Value} {vs : List V} (M : Mk X.K C f) (F : FnG X.prog X.w X.K X.mg X.base k f fd ps sp) (hr : RmG (k + 1) X.A) (hb : Binds X.K fd ps []) (hx : ∀ σ, PassesAt (L2.CX X.prog X.w) X σ (E σ)) (I : Inv X pins σ H s) (r : Vals vs us)
    (h : ∀ x dx, H x = none → H dx = none → dx ≠ x → sp (.ref x :: vs) (upd (upd H dx (.own x)) x (.ins C dx [])) (fun v H2 => v = .non ∧ Q (.ref x) H2) (E σ)) : wpAny (model X.prog X.w) X.A (call (.ref C) us) (EP X pins σ Q) X.xe s := by
  have q := h (s.heap.objs.size + 1) s.heap.objs.size (I.hok.fresh (Nat.le_add_right _ 1)) (I.hok.fresh (Nat.le_refl _)) (Nat.ne_of_lt (Nat.lt_succ_self _))
  have J := Inv.made (C := C) I
  have r2 : Vals (V.ref (s.heap.objs.size + 1) :: vs) (Value.ref (s.heap.objs.size + 1) :: us) := .cons rfl r
  have hl : (Value.ref (s.heap.objs.size + 1) :: us).length = ps.length := by rw [← r2.length]; exact F.len _ _ _ _ q
  have b := hb _ (Value.ref (s.heap.objs.size + 1) :: us) J.kIn (by rw [List.append_nil]; exact hl)
  rw [List.append_nil] at b
  refine wpAny_call (make_map (f := f) I.kIn M.makes M.init (eq_of_beq M.fn) (codeAny_mono (F.go _ X.stack _ _ ⟨Value.ref (s.heap.objs.size + 1) :: us, []⟩ _ _ _ (E σ) (hr.mk' C us []) (J.env0.make C us []) b r2 q) fun o s' z => ?_))
  match o with
  | .error e => exact hx σ pins _ _ e s' J z
  | .ok (.ret u) =>
    obtain ⟨v, H', I3, rv, ev, q3⟩ := J.after z
    cases ev
    exact ⟨rv, .ref (s.heap.objs.size + 1), H', I3, rfl, q3⟩
  | .ok .next => exact z.elim
  | .ok .brk => exact z.elim
  | .ok .cont => exact z.elim
theorem pe_makeP (M : Mk X.K C f) (F : FnG X.prog X.w X.K X.mg X.base k f fd ps sp) (hr : RmG (k + 1) X.A) (hg : Gl X x) (hmg : X.mg x = some (.ref C)) (hb : Binds X.K fd ps []) (hx : ∀ σ, PassesAt (L2.CX X.prog X.w) X σ (E σ)) (ha : PA X (e :: es) t)
    (hdb : (x == ("__debug__" : Str)) = false) (he : starEach (e :: es) X.env = (false, eval e X.env) :: starEach es X.env) (hpl : (backTo pos (starEach es X.env)).any (·.1) = false) : PE X (.Call (.Name x p) (e :: es) [] pos) (tMakeP C sp E t) :=
  ⟨fun pins s σ H Q I h => wpAny_Call_Name_kw (ld_glob I hg hmg (PySem.W.callWith_K (h₀ := X.base) I.ok.mod.kin M.kp (thn (ha.run pos pins s σ H _ I h) fun us s1 ⟨vs, H1, I1, r, q⟩ => ⟨I1.kIn, makeG M F hr hb hx I1 r q⟩) he hpl) hdb)⟩
end
end VL

set_option maxHeartbeats 1000000
namespace VL
open PySem PySem.Spec PyProof.Rows L2

def retC (s : S) : Out W → Out W
  | .ok x s3 => .ok x ⟨s.sl, s3.ce⟩
  | .exc c ns ws s3 => .exc c ns ws ⟨s.sl, s3.ce⟩
  | .bad => .bad
/-- o.m(..), o of the class c -/
def eMeth (c m : Str) (G : Fn) (fo : S → Out W) (fr : S → Out (List W)) (s : S) : Out W := (fo s).bind fun w s1 => match insW s1.ce w with
  | some (c', ns, _) => if c' = c ∧ m ∉ ns then (fr s1).bind fun ws s2 => retC s2 (G (w :: ws) s2.ce) else .bad
  | none => .bad
structure MethOk (P : Program) (w : World) (K : PySem.W.Frag) (mg : Str → Option Value) (base : Heap) (c m : Str) (k np : Nat) (G : Fn) : Prop where
  ex : ∃ (C f : Addr) (fd : FuncData) (ps : List Str), mg c = some (.ref C) ∧ Cls K C ∧ Meth K C m f ∧ Binds K fd ps [] ∧ FnG P w K mg base k f fd ps (spOf K mg np G)
/-- C(..): made, then data -/
def frzI (c : Str) (sl : List (Option W)) (k : Nat) : Out W → Out W
  | .ok (.d .non) s2 => match s2.ce[k]? with
    | some (some (.ins c' ns zs)) => if c' = c ∧ Fits k (s2.ce.take k) = true then match datAll zs with
        | some ds => .ok (.d (.ins c ns ds)) ⟨sl, s2.ce.take k⟩
        | none => .bad
      else .bad
    | _ => .bad
  | .exc c' ns ws s2 => if Fits k (s2.ce.take k) = true ∧ ws.all (fitW k) = true then .exc c' ns ws ⟨sl, s2.ce.take k⟩ else .bad
  | _ => .bad
def eMake (c : Str) (G : Fn) (fr : S → Out (List W)) (s : S) : Out W := (fr s).bind fun ws s1 => frzI c s1.sl s1.ce.length (G (.c s1.ce.length :: ws) (s1.ce ++ [some (.ins c [] [])]))
structure MakeOk (P : Program) (w : World) (K : PySem.W.Frag) (mg : Str → Option Value) (base : Heap) (c : Str) (k np : Nat) (G : Fn) : Prop where
  ex : ∃ (C f : Addr) (fd : FuncData) (ps : List Str), mg c = some (.ref C) ∧ Mk K C f ∧ Binds K fd ps [] ∧ FnG P w K mg base k f fd ps (spOf K mg np G)
section
variable {X : Cx} {W' : WX} {c m : Str} {k k' n np : Nat} {G : Fn} {o e : Expr} {es : List Expr} {fo : S → Out W} {fr : S → Out (List W)} {p pos apos : Pos} {C : Addr}
theorem methP_imp {σ : L2.St} {H : Hp} {Q : VK} (hm : X.mg c = some (.ref C)) (hn : Many n fr) (hnp : n + 1 = np) (h : tE X.K X.mg W' (eMeth c m G fo fr) σ H Q) : tMethP C m (spOf X.K X.mg np G) (WE W') (tE X.K X.mg W' fo) (tA X.K X.mg W' fr) σ H Q := by
  obtain ⟨s, A, F, r, q⟩ := h
  refine ⟨s, A, F, r, PostE.imp (PostE.bind q) fun v H1 ⟨w, s1, A1, F1, a1, e1, r1, rw1, q1⟩ => ?_⟩
  split at q1
  · rename_i c' ns ws0 hi
    split at q1
    · rename_i hc
      obtain ⟨rfl, hmn⟩ := hc
      obtain ⟨a, C', dx, vs, rfl, hm', hH, hl, rws⟩ := insW_ok r1.cs rw1 hi
      rw [hm] at hm'; cases hm'
      refine ⟨a, dx, _, rfl, hH, zip_look hmn, s1, A1, F1, r1, ?_⟩
      have q2 := PostA.bind q1
      have hlen := hn.len s1
      revert q2 hlen
      cases fr s1 with
      | ok zs s2 =>
        intro q2 hlen A2 F2 H2 us a2 e2 r2 ru
        obtain ⟨z3, s3, A3, F3, a3, e3, r3, ry, q3⟩ := q2 A2 F2 H2 us a2 e2 r2 ru
        refine ⟨by rw [List.length_cons, ru.length, hlen _ _ rfl]; exact hnp, w :: z3, s3.ce, A3, F3, r3.cs, .cons (rw1.mono a3 e3) ry, ?_⟩
        revert q3
        cases G (w :: z3) s3.ce with
        | ok w s4 => exact fun q3 A4 F4 H4 v a4 e4 r4 h4 => q3 A4 F4 H4 v a4 e4 (r3.cells a4 e4 r4) h4
        | exc c ns ws s4 => exact fun q3 A4 F4 H4 C d vs a4 e4 r4 hc h4 hd => q3 A4 F4 H4 C d vs a4 e4 (r3.cells a4 e4 r4) hc h4 hd
        | bad => exact fun q3 => q3
      | exc c ns ws s' => exact fun q0 _ => q0
      | bad => exact fun q0 _ => q0
    · exact q1.elim
  · exact q1.elim
theorem ve_meth {pl : Sem Bool} (D : MethOk X.prog X.w X.K X.mg X.base c m k np G) (hr : RmG k' X.A) (tk : Takes X W') (ho : VE X W' o fo) (ha : VA X W' (e :: es) fr) (hn : Many n fr) (hnp : n + 1 = np := by decide) (hk : k ≤ k' := by decide)
    (hst : starEach (e :: es) X.env = (false, eval e X.env) :: starEach es X.env := by rfl) (hpl : (backTo pos (starEach es X.env)).any (·.1) = false := by rfl)
    (ht : eval (.Call (.Attribute o m apos) (e :: es) [] pos) X.env = (do let ov ← eval o X.env; standAt apos.atName; let (f, first) ← holding [ov] (getMethod ov m pl); callWith pos f first (backTo pos (starEach (e :: es) X.env)) (backToKw pos (keywordEach [] X.env))) := by rfl) :
    VE X W' (.Call (.Attribute o m apos) (e :: es) [] pos) (eMeth c m G fo fr) := by
  obtain ⟨C, f, fd, ps, hm, hc, hmm, hb, F⟩ := D.ex
  exact PE.imp (pe_methP (pl := pl) ho hc hmm F (hr.mono hk) hb (passesC tk) ha hst hpl ht) fun σ H Q h => methP_imp hm hn hnp h
theorem ve_meth0 {pl : Sem Bool} (D : MethOk X.prog X.w X.K X.mg X.base c m k 1 G) (hr : RmG k' X.A) (tk : Takes X W') (ho : VE X W' o fo) (hk : k ≤ k' := by decide)
    (ht : eval (.Call (.Attribute o m apos) [] [] pos) X.env = (do let ov ← eval o X.env; standAt apos.atName; let (f, first) ← holding [ov] (getMethod ov m pl); callWith pos f first (backTo pos (starEach [] X.env)) (backToKw pos (keywordEach [] X.env))) := by rfl) :
    VE X W' (.Call (.Attribute o m apos) [] [] pos) (eMeth c m G fo aNil) := by
  obtain ⟨C, f, fd, ps, hm, hc, hmm, hb, F⟩ := D.ex
  refine PE.imp (pe_methP0 (pl := pl) ho hc hmm F (hr.mono hk) hb (passesC tk) ht) fun σ H Q h => ?_
  have q := methP_imp (np := 1) hm Many.nil rfl h
  obtain ⟨s, A, F0, r, q⟩ := q
  refine ⟨s, A, F0, r, PostE.imp q fun v H1 ⟨a, dx, fs, h1, h2, h3, s1, A1, F1, r1, q1⟩ => ⟨a, dx, fs, h1, h2, h3, ?_⟩⟩
  exact q1 A1 F1 H1 [] (List.prefix_refl _) (Ex.refl _) r1 .nil
theorem take_set_at {α : Type} : ∀ (l : List α) (k : Nat) (x : α), (l.set k x).take k = l.take k
  | [], _, _ => by simp
  | _ :: _, 0, _ => by simp
  | a :: l, k + 1, x => by simp [take_set_at l k x]
theorem makeP_imp {σ : L2.St} {H : Hp} {Q : VK} (hm : X.mg c = some (.ref C)) (hn : Many n fr) (hnp : n + 1 = np) (h : tE X.K X.mg W' (eMake c G fr) σ H Q) : tMakeP C (spOf X.K X.mg np G) (WE W') (tA X.K X.mg W' fr) σ H Q := by
  obtain ⟨s, A, F, r, q⟩ := h
  refine ⟨s, A, F, r, ?_⟩
  have q2 := PostA.bind q
  have hlen := hn.len s
  revert q2 hlen
  cases fr s with
  | ok zs s1 =>
    intro q2 hlen A1 F1 H1 us a1 e1 r1 ru x dx hx hdx hne
    obtain ⟨z2, s2, A2, F2, a2, e2, r2, ry, q3⟩ := q2 A1 F1 H1 us a1 e1 r1 ru
    have hlA : A2.length = s2.ce.length := r2.cs.len
    have c1 : RelC X.K X.mg A2 (upd F2 dx (.own x)) s2.ce (upd H1 dx (.own x)) := r2.cs.new hdx _
    have ef : Ex F2 (upd F2 dx (.own x)) := ex_upd (r2.cs.none_of hdx)
    have hx1 : upd H1 dx (.own x) x = none := by rw [upd_ne (Ne.symm hne)]; exact hx
    have c2 : RelC X.K X.mg (A2 ++ [x]) (upd F2 dx (.own x)) (s2.ce ++ [some (.ins c [] [])]) (upd (upd H1 dx (.own x)) x (.ins C dx [])) :=
      c1.cellNew hx1 ⟨C, dx, [], hm, rfl, .nil, by rw [upd_same]; rfl⟩
    have px : A2 <+: A2 ++ [x] := List.prefix_append _ _
    refine ⟨by rw [List.length_cons, ru.length, hlen _ _ rfl]; exact hnp, .c s2.ce.length :: z2, _, _, _, c2, .cons ⟨x, by rw [← hlA]; simp, rfl⟩ (ry.mono px ef), ?_⟩
    revert q3
    generalize G (.c s2.ce.length :: z2) (s2.ce ++ [some (.ins c [] [])]) = o
    cases o with
    | ok w s4 =>
      intro q3 A4 F4 H4 v a4 e4 r4 h4
      have pA : A2 <+: A4 := px.trans a4
      have hxk : A4[s2.ce.length]? = some x := by
        obtain ⟨t, rfl⟩ := a4
        rw [List.getElem?_append_left (by simp; omega), ← hlA]; simp
      unfold frzI at q3
      split at q3
      · rename_i heq
        cases heq
        cases h4
        split at q3
        · rename_i c' ns zz hk
          split at q3
          · rename_i hc
            obtain ⟨rfl, hf⟩ := hc
            split at q3
            · rename_i ds hd
              obtain ⟨b, h1, h2, C', dx', vs, h3, hl, h5, h6⟩ := r4.cell _ _ hk
              rw [hxk] at h1; cases h1
              obtain ⟨ef2, rc⟩ := r4.frzAt hk hxk h6
              have et : (s4.ce.set s2.ce.length none).take s2.ce.length = s4.ce.take s2.ce.length := take_set_at _ _ _
              have rc2 := rc.cut pA hlA (by rw [et]; exact hf)
              rw [et] at rc2
              rw [datAll_eq hd] at h5 hl
              have hl2 : ns.length = vs.length := by rw [hl, h5.length]
              exact ⟨rfl, q3 A2 _ H4 (.ref x) (List.prefix_refl _) (ef.trans (e4.trans ef2)) (r2.cells (List.prefix_refl _) (ef.trans (e4.trans ef2)) rc2) (R.ins h3 upd_same hl2 ((RAll.ofW h5).mono ef2))⟩
            · exact q3.elim
          · exact q3.elim
        · exact q3.elim
      · rename_i heq; cases heq
      · exact q3.elim
    | exc c' ns ws s4 =>
      intro q3 A4 F4 H4 C' d vs a4 e4 r4 hc' h4 hd
      simp only [frzI] at q3
      split at q3
      · rename_i hf
        have pA : A2 <+: A4 := px.trans a4
        have rc := r4.cut pA hlA hf.1
        exact q3 A2 F4 H4 C' d vs (List.prefix_refl _) (ef.trans e4) (r2.cells (List.prefix_refl _) (ef.trans e4) rc) hc' (h4.cut pA hlA hf.2) hd
      · exact q3.elim
    | bad => exact fun q3 => q3
  | exc c ns ws s' => exact fun q0 _ => q0
  | bad => exact fun q0 _ => q0
end
end VL

set_option maxHeartbeats 1000000
namespace VL
open PySem PySem.Spec PyProof.Rows L2
section
variable {X : Cx} {W' : WX} {c m : Str} {k k' n np : Nat} {G : Fn} {o e : Expr} {es : List Expr} {fo : S → Out W} {fr : S → Out (List W)} {p pos apos : Pos} {C : Addr}
theorem ve_make (D : MakeOk X.prog X.w X.K X.mg X.base c k np G) (hr : RmG k' X.A) (tk : Takes X W') (ha : VA X W' (e :: es) fr) (hn : Many n fr) (hnp : n + 1 = np := by decide) (hk : k + 1 ≤ k' := by decide)
    (hg : Gl X c := by rfl) (hdb : (c == ("__debug__" : Str)) = false := by decide) (he : starEach (e :: es) X.env = (false, eval e X.env) :: starEach es X.env := by rfl) (hpl : (backTo pos (starEach es X.env)).any (·.1) = false := by rfl) :
    VE X W' (.Call (.Name c p) (e :: es) [] pos) (eMake c G fr) := by
  obtain ⟨C, f, fd, ps, hm, M, hb, F⟩ := D.ex
  exact PE.imp (pe_makeP M F (hr.mono hk) hg hm hb (passesC tk) ha hdb he hpl) fun σ H Q h => makeP_imp hm hn hnp h
end
/-! facts of a class -/
def clB (c : Str) : Fact := fun K => (He.Fa.glo c).ok K && (He.Fa.cls c).ok K
def fldB (cs : List Str) (f : Str) : Fact := fun K => cs.all fun c => (He.Fa.glo c).ok K && ((He.Fa.cls c).ok K && (He.Fa.noat c f).ok K)
def metB (c m : Str) : Fact := fun K => (He.Fa.glo c).ok K && ((He.Fa.cls c).ok K && (He.Fa.meth c m).ok K)
def mkB (c : Str) : Fact := fun K => (He.Fa.glo c).ok K && (He.Fa.mkr c).ok K
section
variable {fs : List Fact} {fn : List He.DefD} {P : Program} {w : World} {K : PySem.W.Frag} {h base : Heap} {mg : Str → Option Value}
theorem fldC_of {cs : List Str} {f : Str} (X : K.In h) (G : h.Ns mainGlobals mg) (c : SaysE fs fn K) (hf : fldB cs f ∈ fs) : FldC K mg cs f := by
  have z := c.fact hf
  simp only [fldB, List.all_eq_true, Bool.and_eq_true] at z
  exact ⟨fun c hc => ⟨_, He.glo_ok X G (z c hc).1, He.cls_ok (z c hc).2.1, He.noat_ok (z c hc).2.2⟩⟩
/-- a method as it stands: its object, its def -/
theorem methOk_of {c m q : Str} {st : Stmt} {ps : List Str} {k np : Nat} {Gn : Fn} (X : K.In h) (G : h.Ns mainGlobals mg) (s : SaysE fs fn K) (hf : metB c m ∈ fs) (hd : methAt c m q st ∈ fn)
    (hb : ∀ (kV doc pm : Value) (an : Option Addr) (cdv ct : Value) (us : List Value), us.length = ps.length → bindArgs (PySem.W.fnOf m q (defArgs st) (defBody st) (defScope st) .none kV doc pm an cdv ct) ⟨us, []⟩ = pure (ps.zip us))
    (F : ∀ (f : Addr) (fd : FuncData), Fun K m q st f fd → FnG P w K mg base k f fd ps (spOf K mg np Gn)) : MethOk P w K mg base c m k np Gn := by
  have z := s.fact hf
  simp only [metB, Bool.and_eq_true] at z
  obtain ⟨fd, D⟩ := s.def_ hd
  exact ⟨He.ga K c, He.ma K (He.ga K c) m, fd, ps, He.glo_ok X G z.1, He.cls_ok z.2.1, He.meth_ok z.2.2, FunD.bindsN D hb, F _ _ (fun_ofD D)⟩
theorem makeOk_of {c q : Str} {st : Stmt} {ps : List Str} {k np : Nat} {Gn : Fn} (X : K.In h) (G : h.Ns mainGlobals mg) (s : SaysE fs fn K) (hf : mkB c ∈ fs) (hd : methAt c "__init__" q st ∈ fn)
    (hb : ∀ (kV doc pm : Value) (an : Option Addr) (cdv ct : Value) (us : List Value), us.length = ps.length → bindArgs (PySem.W.fnOf "__init__" q (defArgs st) (defBody st) (defScope st) .none kV doc pm an cdv ct) ⟨us, []⟩ = pure (ps.zip us))
    (F : ∀ (f : Addr) (fd : FuncData), Fun K "__init__" q st f fd → FnG P w K mg base k f fd ps (spOf K mg np Gn)) : MakeOk P w K mg base c k np Gn := by
  have z := s.fact hf
  simp only [mkB, Bool.and_eq_true] at z
  obtain ⟨fd, D⟩ := s.def_ hd
  exact ⟨He.ga K c, He.ma K (He.ga K c) "__init__", fd, ps, He.glo_ok X G z.1, He.mkr_ok z.2, FunD.bindsN D hb, F _ _ (fun_ofD D)⟩
end
end VL

set_option maxHeartbeats 2000000
namespace VL.Fu
open PySem PySem.Spec
open Sem (wp)
theorem lk_cls : typeLookup (.type "function") "__class__" = pure (some (.builtin "object.__class__")) := by rw [typeLookup_type, builtinLookup_eq_fast]; kernel_rfl
theorem sub_cls : isSubtype (.type "function") (.type (".".intercalate ("object.__class__".cutAt '.').dropLast)) = pure true := by rw [F.owner_object_class, isSubtype_type]; kernel_rfl
theorem slot_ga : Slot "function" "__getattribute__" "object.__getattribute__" := .of (owner := "object") (n := "__getattribute__") (by rw [typeLookup_type, builtinLookup_eq_fast]; kernel_rfl) (by decide +kernel) (by decide +kernel) (by decide +kernel) (by first | exact .inl (by decide +kernel) | exact .inr (by decide +kernel)) (by rw [isSubtype_type]; kernel_rfl)
section
variable {prog : Program} {w : World} {A : Around} {E : Value → Shared → Prop} {h : Heap} {g : Array GenState} {d : Drawn} {t : Nat} {os : OsState} {a : Addr} {o : Obj}
theorem got {R : Result → Shared → Prop} (ha : h.get? a = some o) (hc : o.cls = .type "function") (hq : R (.ok (.ret (.type "function"))) ⟨h, g, d, t, os⟩) : codeAny (model prog w) A (.call (.builtin "getset_descriptor.__get__") ⟨[.builtin "object.__class__", .ref a, .type "function"], []⟩) R ⟨h, g, d, t, os⟩ := by
  have t1 : (⟨h, g, d, t, os⟩ : Shared).TypeIs (.ref a) "function" := ⟨_, ha, hc⟩
  have t2 : (⟨h, g, d, t, os⟩ : Shared).TypeIs (.builtin "object.__class__") "getset_descriptor" := F.typeOf_object_class
  have t3 := sub_cls
  refine codeAny_call_builtin F.slot_gs_get.plain F.entry_gs_get (F.slot_gs_get.check _ _ _ _ _ _ _ _ t2 (F.args_gs_get _ _ _) ?_)
  (repeat any_goals first | assumption | wp_step)
  refine ⟨Code.quiet_builtin _ (by decide +kernel), codeAny_builtin F.entry_object_class ?_⟩
  (repeat any_goals first | assumption | wp_step)
theorem entry {tk : Tok} {Q : PySem.Fin → Shared → Prop} (ha : h.get? a = some o) (hc : o.cls = .type "function") (hq : Q (.done (.ret (.type "function"))) ⟨h, g, d, t, os⟩) : wpAny (model prog w) A (Builtin.«object.__getattribute__» ⟨[.ref a, .str "__class__" tk], []⟩) Q E ⟨h, g, d, t, os⟩ := by
  have t1 : (⟨h, g, d, t, os⟩ : Shared).TypeIs (.ref a) "function" := ⟨_, ha, hc⟩
  have t2 : (⟨h, g, d, t, os⟩ : Shared).TypeIs (.builtin "object.__class__") "getset_descriptor" := F.typeOf_object_class
  have t3 := lk_cls
  have t4 := F.typeOf_object_class
  have t5 := F.slot_gs_get.lookup
  have t6 := F.slot_gs_set.lookup
  (repeat any_goals first | assumption | wp_step)
  refine got ha hc ?_
  (repeat any_goals first | assumption | wp_step)
theorem called {tk : Tok} {R : Result → Shared → Prop} (ha : h.get? a = some o) (hc : o.cls = .type "function") (hq : R (.ok (.ret (.type "function"))) ⟨h, g, d, t, os⟩) : codeAny (model prog w) A (.call (.builtin "object.__getattribute__") ⟨[.ref a, .str "__class__" tk], []⟩) R ⟨h, g, d, t, os⟩ :=
  codeAny_call_builtin slot_ga.plain F.entry_object_getattribute (slot_ga.check _ _ _ _ _ _ _ _ (show (⟨h, g, d, t, os⟩ : Shared).TypeIs (.ref a) "function" from ⟨_, ha, hc⟩) (F.args_object_getattribute_2 _ _) (entry ha hc hq))
theorem by_ {tk : Tok} {Q : Value → Shared → Prop} (ha : h.get? a = some o) (hc : o.cls = .type "function") (hq : Q (.type "function") ⟨h, g, d, t, os⟩) : wpAny (model prog w) A (getAttrBy (.ref a) (.str "__class__" tk) false) Q E ⟨h, g, d, t, os⟩ := by
  have t1 : (⟨h, g, d, t, os⟩ : Shared).TypeIs (.ref a) "function" := ⟨_, ha, hc⟩
  have t2 := slot_ga.lookup
  have t3 := slot_ga.bind (.ref a)
  (repeat any_goals first | assumption | wp_step)
  refine called ha hc ?_
  (repeat any_goals first | assumption | wp_step)
theorem attr {Q : Option Value → Shared → Prop} (ha : h.get? a = some o) (hc : o.cls = .type "function") (hq : Q (some (.type "function")) ⟨h, g, d, t + 1, os⟩) : wpAny (model prog w) A (getAttr? (.ref a) "__class__") Q E ⟨h, g, d, t, os⟩ := by
  unfold getAttr? getAttrBy?
  repeat any_goals first | assumption | with_reducible apply by_ ha hc | wp_step
end
theorem kitx_fun {K : W.Frag} {a : Addr} : W.KitX K (.ref a) (.type "function") (W.KitAt a "function") := W.kitx_of W.kitAt_ty fun {_ _ _ _ _ s} p k => by
  obtain ⟨h, g, d, t, os⟩ := s
  obtain ⟨o, h1, h2⟩ := p
  exact attr h1 h2 k
end VL.Fu

set_option maxHeartbeats 1000000
namespace VL
open PySem PySem.Spec PyProof.Rows L2

/-! ### isinstance of any value, of own classes too -/
abbrev TZ := Sum String Str
def tyZ (ce : List (Option Cell)) (w : W) : Option TZ := match w with
  | .d (.glob _) => some (.inl "function")
  | _ => match insW ce w with
    | some (c, _, _) => some (.inr c)
    | none => (tyW ce w).map .inl
def isZ : TZ → TZ → Bool
  | .inl t, .inl c => isSub t c
  | .inl _, .inr _ => false
  | .inr _, .inl _ => false
  | .inr c, .inr c' => c == c'
def bT : List String := ["NoneType", "bool", "int", "str", "list", "tuple", "dict", "function"]
theorem kit_isF : ∀ t ∈ bT, ∀ c ∈ isC, kitB t c = some (isSub t c) := by decide +kernel
/-- the class that a test names -/
def CV (mg : Str → Option Value) : TZ → V → Prop
  | .inl t, v => v = .ty t
  | .inr c, v => ∃ C, mg c = some (.ref C) ∧ v = .ref C
structure IsTab (K : PySem.W.Frag) (mg : Str → Option Value) (own : List Str) : Prop where
  oo : ∀ c ∈ own, ∀ c' ∈ own, ∃ C C', mg c = some (.ref C) ∧ mg c' = some (.ref C') ∧ PySem.W.kitOne K (.ref C) (.ref C') = some (c == c')
  bo : ∀ t ∈ bT, ∀ c ∈ own, ∃ C, mg c = some (.ref C) ∧ PySem.W.kitOne K (.type t) (.ref C) = some false
  ob : ∀ c ∈ own, ∀ t ∈ isC, ∃ C, mg c = some (.ref C) ∧ PySem.W.kitOne K (.ref C) (.type t) = some false
  at_ : ∀ c ∈ own, ∃ C, mg c = some (.ref C) ∧ Cls K C ∧ PySem.W.findIn K (.ref C) "__class__" = some (some (.builtin "object.__class__")) ∧ PySem.W.specialIn K (.builtin "object.__class__") "__get__" = some (some (.builtin "getset_descriptor.__get__")) ∧ PySem.W.takesIn K (.builtin "object.__class__") = some true ∧ PySem.W.mroIn K C (.type "object") = some true
def okZ (own : List Str) : TZ → Bool
  | .inl t => decide (t ∈ isC)
  | .inr c => decide (c ∈ own)
section
variable {X : Cx} {A : List Addr} {F H : Hp} {ce : List (Option Cell)} {own : List Str} {pins : List (Addr × Obj)} {σ : L2.St} {s : Shared}
/-- a value's type as the library's tests want it -/
theorem kitZ (T : IsTab X.K X.mg own) (I : Inv X pins σ H s) (rc : RelC X.K X.mg A F ce H) {v : V} {u : Value} {w : W} {z : TZ} (rv : RelV v u) (h : RW X.K X.mg A F v w) (e : tyZ ce w = some z) (hz : ∀ c, z = .inr c → c ∈ own) :
    ∃ (t : Value) (P : Heap → Prop), PySem.W.KitX X.K u t P ∧ P s.heap ∧ u ≠ .builtin "__main__.__loader__#opaque" ∧ ∀ y cv cu, okZ own y = true → CV X.mg y cv → RelV cv cu → PySem.W.kitOne X.K t cu = some (isZ z y) := by
  unfold tyZ at e
  split at e
  · cases e
    cases h with
    | glob hm hf =>
      cases rv
      obtain ⟨o, ho, hc⟩ := Option.map_eq_some_iff.mp (show (X.K.lookup _).map (·.cls) = some (.type "function") from eq_of_beq hf)
      refine ⟨_, _, Fu.kitx_fun, ⟨o, I.kIn _ _ ho, hc⟩, (fun z => nomatch z), fun y cv cu hy hv hr => ?_⟩
      cases y with
      | inl t => cases hv; cases hr; exact kit_ty (kit_isF _ (by decide) t (of_decide_eq_true hy))
      | inr c =>
        obtain ⟨C, h1, rfl⟩ := hv
        cases hr
        obtain ⟨C', h2, h3⟩ := T.bo "function" (by decide) c (of_decide_eq_true hy)
        rw [h1] at h2; cases h2
        exact h3
  · split at e
    · rename_i c ns ws hi
      cases e
      obtain ⟨a, C, dx, vs, rfl, hm, hH, hl, _⟩ := insW_ok rc h hi
      obtain ⟨C', h2, cl, h3, h4, h5, h6⟩ := T.at_ c (hz c rfl)
      rw [hm] at h2; cases h2
      obtain ⟨P, Z, p, hx⟩ := kit_of I rv (.base (.ins hH cl h3 h4 h5 h6))
      refine ⟨_, P, Z, p, hx, fun y cv cu hy hv hr => ?_⟩
      cases y with
      | inl t =>
        cases hv; cases hr
        obtain ⟨C', h2, h3⟩ := T.ob c (hz c rfl) t (of_decide_eq_true hy)
        rw [hm] at h2; cases h2
        exact h3
      | inr c' =>
        obtain ⟨D, h1, rfl⟩ := hv
        cases hr
        obtain ⟨C1, C2, h2, h3, h4⟩ := T.oo c (hz c rfl) c' (of_decide_eq_true hy)
        rw [hm] at h2; cases h2
        rw [h1] at h3; cases h3
        exact h4
    · obtain ⟨t, ht, rfl⟩ := Option.map_eq_some_iff.mp e
      have hm := tyW_mem ht
      have hm2 : t ∈ bT := List.mem_append_left ["function"] hm
      obtain ⟨P, Z, p, hx⟩ := kit_of I rv (tyx_ofW rc h ht)
      refine ⟨_, P, Z, p, hx, fun y cv cu hy hv hr => ?_⟩
      cases y with
      | inl c => cases hv; cases hr; exact kit_ty (kit_isF _ hm2 c (of_decide_eq_true hy))
      | inr c =>
        obtain ⟨C, h1, rfl⟩ := hv
        cases hr
        obtain ⟨C', h2, h3⟩ := T.bo t hm2 c (of_decide_eq_true hy)
        rw [h1] at h2; cases h2
        exact h3
end
def ownZ (own : List Str) : TZ → Bool
  | .inr c => decide (c ∈ own)
  | .inl _ => true
/-- isinstance(x, C), isinstance(x, (C, D, ..)) -/
def eIsiZ (own : List Str) (ys : List TZ) (fa : S → Out W) (s : S) : Out W := (fa s).bind fun w s1 => match tyZ s1.ce w with
  | some z => if ownZ own z = true then .ok (.d (.bl (ys.any (isZ z)))) s1 else .bad
  | none => .bad
inductive CVs (mg : Str → Option Value) : List TZ → List V → Prop
  | nil : CVs mg [] []
  | cons {y : TZ} {ys : List TZ} {v : V} {vs : List V} : CV mg y v → CVs mg ys vs → CVs mg (y :: ys) (v :: vs)
theorem kitAnyZ {K : PySem.W.Frag} {mg : Str → Option Value} {own : List Str} {t : Value} {z : TZ} (hk : ∀ y cv cu, okZ own y = true → CV mg y cv → RelV cv cu → PySem.W.kitOne K t cu = some (isZ z y)) :
    ∀ {ys : List TZ} {vs : List V} {us : List Value}, ys.all (okZ own) = true → CVs mg ys vs → Vals vs us → PySem.W.kitAny K t us = some (ys.any (isZ z))
  | _, _, _, _, .nil, .nil => rfl
  | y :: ys, v :: vs, u :: us, h, .cons a b, .cons r rs => by
    rw [List.all_cons, Bool.and_eq_true] at h
    refine kitAny_cons (hk y v u h.1 a r) (r := (y :: ys).any (isZ z)) (fun hf => ?_) (fun hb => by simp [hb])
    rw [List.any_cons, hf, Bool.false_or]
    exact kitAnyZ hk h.2 b rs
def rIsiZ (K : PySem.W.Frag) (mg : Str → Option Value) (own : List Str) : List V → Hp → VK → Prop := fun xs H Q => ∃ ce A F w z y x cv, xs = [x, cv] ∧ RelC K mg A F ce H ∧ RW K mg A F x w ∧ tyZ ce w = some z ∧ ownZ own z = true ∧ okZ own y = true ∧ CV mg y cv ∧ Q (.bl (isZ z y)) H
def rIsiZT (K : PySem.W.Frag) (mg : Str → Option Value) (own : List Str) : List V → Hp → VK → Prop := fun xs H Q => ∃ ce A F w z ys x tp cvs, xs = [x, .ref tp] ∧ RelC K mg A F ce H ∧ RW K mg A F x w ∧ tyZ ce w = some z ∧ ownZ own z = true ∧ ys.all (okZ own) = true ∧ CVs mg ys cvs ∧ H tp = some (.tup cvs) ∧ Q (.bl (ys.any (isZ z))) H
theorem ownZ_at {own : List Str} {z : TZ} (h : ownZ own z = true) : ∀ c, z = .inr c → c ∈ own := by
  rintro c rfl
  exact of_decide_eq_true h
section
variable {X : Cx} {W' : WX} {own : List Str} {a C : Expr} {ts : List Expr} {fa : S → Out W} {p pos tpos : Pos} {tk : Nat}
theorem call_isiZ (T : IsTab X.K X.mg own) : CallR X (.builtin "isinstance") (rIsiZ X.K X.mg own) := by
  rintro pins s σ H _ us Q I r ⟨ce, A, F, w, z, y, x, cv, rfl, rc, rw1, hz, ho, hy, hc, q⟩
  obtain ⟨u, v, rfl, r1, r2⟩ := vals2 r
  obtain ⟨t, P, Z, hp, hx, hk⟩ := kitZ T I rc r1 rw1 hz (ownZ_at ho)
  exact PySem.W.kia_one Z I.kIn hp (hk y cv v hy hc r2) hx fun tk => ⟨.bl _, H, I.tok tk, rfl, q⟩
theorem call_isiZT (T : IsTab X.K X.mg own) : CallR X (.builtin "isinstance") (rIsiZT X.K X.mg own) := by
  rintro pins s σ H _ us Q I r ⟨ce, A, F, w, z, ys, x, tp, cvs, rfl, rc, rw1, hz, ho, hy, hc, hT, q⟩
  obtain ⟨u, v, rfl, r1, r2⟩ := vals2 r
  cases r2
  obtain ⟨t, P, Z, hp, hx, hk⟩ := kitZ T I rc r1 rw1 hz (ownZ_at ho)
  obtain ⟨_, its, rv, ⟨oc, od, dt, sl⟩, e1, e2, n, e3⟩ := (show ObjOk X.prog X.w H s.heap tp (.tup cvs) from I.hok tp _ hT)
  simp only at e2 e3
  subst e2 e3
  exact PySem.W.kia_tup Z I.kIn hp e1 (kitAnyZ hk hy hc rv) hx fun tk => ⟨.bl _, H, I.tok tk, rfl, q⟩
def tVs : List V → TA
  | [] => tNil
  | v :: vs => tCons (tC v) (tVs vs)
theorem tVs_run {σ : L2.St} : ∀ {vs : List V} {H : Hp} {Q : List V → Hp → Prop}, Q vs H → tVs vs σ H Q
  | [], _, _, q => q
  | _ :: vs, _, _, q => tVs_run (vs := vs) q
theorem ve_isi1 (T : IsTab X.K X.mg own) {y : TZ} {cv : V} (hy : okZ own y = true) (hm : X.mg "isinstance" = none) (ha : VE X W' a fa) (hC : PE X C (tC cv)) (hcv : CV X.mg y cv) (hg : Gl X "isinstance" := by rfl)
    (he1 : starEach [C] X.env = (false, eval C X.env) :: starEach [] X.env := by rfl) (he : starEach [a, C] X.env = (false, eval a X.env) :: starEach [C] X.env := by rfl) (hpl : (backTo pos (starEach [C] X.env)).any (·.1) = false := by rfl) :
    VE X W' (.Call (.Name "isinstance" p) [a, C] [] pos) (eIsiZ own [y] fa) :=
  PE.imp (pe_callB (call_isiZ T) hg hm bt_isinstance (pa_cons ha (pa_cons hC pa_nil he1) he) (by decide) (by decide) he hpl) fun σ H Q h => by
  obtain ⟨s, A, F, r, q⟩ := h
  refine ⟨s, A, F, r, PostE.imp (PostE.bind q) fun vx H1 ⟨x, s1, A1, F1, a1, e1, r1, rx, q1⟩ => ?_⟩
  split at q1
  · rename_i z hz
    split at q1
    · rename_i ho
      have q2 := q1 A1 F1 H1 (.bl (isZ z y)) (List.prefix_refl _) (Ex.refl _) r1 (by simp only [List.any_cons, List.any_nil, Bool.or_false]; exact .bl _)
      exact ⟨s1.ce, A1, F1, x, z, y, vx, cv, rfl, r1.cs, rx, hz, ho, hy, hcv, q2⟩
    · exact q1.elim
  · exact q1.elim
theorem ve_isiN (T : IsTab X.K X.mg own) {ys : List TZ} {cvs : List V} (hy : ys.all (okZ own) = true) (hl : cvs.length ≤ 100) (hm : X.mg "isinstance" = none) (ha : VE X W' a fa) (ht : PA X ts (tVs cvs)) (hcv : CVs X.mg ys cvs) (hg : Gl X "isinstance" := by rfl)
    (he1 : starEach [.Tuple ts tk tpos] X.env = (false, eval (.Tuple ts tk tpos) X.env) :: starEach [] X.env := by rfl)
    (he : starEach (a :: [.Tuple ts tk tpos]) X.env = (false, eval a X.env) :: starEach [.Tuple ts tk tpos] X.env := by rfl) (hpl : (backTo pos (starEach [.Tuple ts tk tpos] X.env)).any (·.1) = false := by rfl) :
    VE X W' (.Call (.Name "isinstance" p) (a :: [.Tuple ts tk tpos]) [] pos) (eIsiZ own ys fa) :=
  PE.imp (pe_callB (call_isiZT T) hg hm bt_isinstance (pa_cons ha (pa_cons (pe_tup ht) pa_nil he1) he) (by decide) (by decide) he hpl) fun σ H Q h => by
  obtain ⟨s, A, F, r, q⟩ := h
  refine ⟨s, A, F, r, PostE.imp (PostE.bind q) fun vx H1 ⟨x, s1, A1, F1, a1, e1, r1, rx, q1⟩ => ?_⟩
  split at q1
  · rename_i z hz
    split at q1
    · rename_i ho
      refine tVs_run ⟨Nat.le_trans hl (by decide), fun p hp => ?_⟩
      have ef : Ex F1 (upd F1 p (.tup cvs)) := ex_upd (r1.cs.none_of hp)
      have r2 := r1.slots ef (r1.cs.new hp (.tup cvs))
      exact ⟨s1.ce, A1, _, x, z, ys, vx, p, cvs, rfl, r2.cs, rx.mono (List.prefix_refl _) ef, hz, ho, hy, hcv, upd_same, q1 A1 _ _ _ (List.prefix_refl _) ef r2 (.bl _)⟩
    · exact q1.elim
  · exact q1.elim
end
def isB (own : List Str) : Fact := fun K => (own.all fun c => (He.Fa.glo c).ok K) && ((own.all fun c => own.all fun c' => decide (PySem.W.kitOne K (.ref (He.ga K c)) (.ref (He.ga K c')) = some (c == c'))) && ((bT.all fun t => own.all fun c => decide (PySem.W.kitOne K (.type t) (.ref (He.ga K c)) = some false)) &&
  ((own.all fun c => isC.all fun t => decide (PySem.W.kitOne K (.ref (He.ga K c)) (.type t) = some false)) && (own.all fun c => (He.Fa.cls c).ok K && (decide (PySem.W.findIn K (.ref (He.ga K c)) "__class__" = some (some (.builtin "object.__class__"))) && (decide (PySem.W.specialIn K (.builtin "object.__class__") "__get__" = some (some (.builtin "getset_descriptor.__get__"))) &&
  (decide (PySem.W.takesIn K (.builtin "object.__class__") = some true) && decide (PySem.W.mroIn K (He.ga K c) (.type "object") = some true))))))))
theorem isTab_of {fs : List Fact} {fn : List He.DefD} {K : PySem.W.Frag} {h : Heap} {mg : Str → Option Value} {own : List Str} (X : K.In h) (G : h.Ns mainGlobals mg) (c : SaysE fs fn K) (hf : isB own ∈ fs) : IsTab K mg own := by
  have z := c.fact hf
  simp only [isB, List.all_eq_true, Bool.and_eq_true] at z
  obtain ⟨z1, z2, z3, z4, z5⟩ := z
  exact ⟨fun a ha b hb => ⟨_, _, He.glo_ok X G (z1 a ha), He.glo_ok X G (z1 b hb), of_decide_eq_true (z2 a ha b hb)⟩, fun t ht a ha => ⟨_, He.glo_ok X G (z1 a ha), of_decide_eq_true (z3 t ht a ha)⟩, fun a ha t ht => ⟨_, He.glo_ok X G (z1 a ha), of_decide_eq_true (z4 a ha t ht)⟩,
    fun a ha => ⟨_, He.glo_ok X G (z1 a ha), He.cls_ok (z5 a ha).1, of_decide_eq_true (z5 a ha).2.1, of_decide_eq_true (z5 a ha).2.2.1, of_decide_eq_true (z5 a ha).2.2.2.1, of_decide_eq_true (z5 a ha).2.2.2.2⟩⟩
end VL

set_option maxHeartbeats 1000000
namespace VL
open PySem PySem.Spec PyProof.Rows L2

/-! ### xs.extend(ys) -/
/-- a list's items, of data or of a cell -/
def lstW (ce : List (Option Cell)) : W → Option (List W)
  | .d (.lst ds) => some (ds.map .d)
  | .c k => match ce[k]? with
    | some (some (.lst ws)) => some ws
    | _ => none
  | _ => none
theorem lstW_ok {K : PySem.W.Frag} {mg : Str → Option Value} {A : List Addr} {F H : Hp} {ce : List (Option Cell)} (r : RelC K mg A F ce H) {v : V} {w : W} {ws : List W} (h : RW K mg A F v w) (e : lstW ce w = some ws) : ∃ a vs, v = .ref a ∧ H a = some (.lst vs) ∧ RWs K mg A F vs ws := by
  cases w with
  | d x =>
    cases x <;> simp [lstW] at e
    subst e
    cases h with
    | @lst a vs ds hF hr => exact ⟨a, vs, rfl, r.ex _ _ hF, RWs.ofR hr⟩
  | c k =>
    obtain ⟨a, ha, rfl⟩ := h
    simp only [lstW] at e
    split at e
    · rename_i hk
      cases e
      obtain ⟨b, h1, h2, vs, h3, h4⟩ := r.cell k _ hk
      rw [ha] at h1; cases h1
      exact ⟨a, vs, rfl, h3, h4⟩
    · cases e
def eExtend (fo fe : S → Out W) (s : S) : Out W := (fo s).bind fun w s1 => match lstC s1.ce w with
  | none => .bad
  | some _ => (fe s1).bind fun y s2 => match lstC s2.ce w, lstW s2.ce y with
    | some (k, ws), some zs => if ws.length + zs.length ≤ sizeLine then .ok (.d .non) (putC s2 k (ws ++ zs)) else .bad
    | _, _ => .bad
section
variable {X : Cx} {W' : WX} {e o a b : Expr} {fo fe fa fb : S → Out W} {pos apos cpos : Pos}
theorem ve_extend (ho : VE X W' o fo) (he : VE X W' e fe) (hbase : attributeBase o "extend" X.env (eval o X.env) = eval o X.env := by rfl)
    (hfew : ((backTo cpos (starEach [e] X.env)).all (fun x => !x.1) && (backToKw cpos (keywordEach [] X.env)).all (fun x => x.1.isSome) && decide ([e].length + ([] : List Keyword).length + (if ([] : List Keyword).isEmpty then 0 else 1) < 30)) = true := by rfl)
    (hline : (apos.endLine == cpos.line) = true := by rfl) (hs : starEach [e] X.env = (false, eval e X.env) :: starEach [] X.env := by rfl) (hplain : (backTo cpos (starEach [] X.env)).any (·.1) = false := by rfl) :
    VE X W' (.Call (.Attribute o "extend" apos) [e] [] cpos) (eExtend fo fe) :=
  PE.imp (pe_bm PySem.F.plainAttrs_list PySem.F.slot_list_extend PySem.F.type_list_extend mt_extend ho (pa_cons he pa_nil hs) hbase hfew hline hs hplain) fun σ H Q h => by
  obtain ⟨s, A, F, r, q⟩ := h
  refine ⟨s, A, F, r, PostE.imp (PostE.bind q) fun vx H1 ⟨x, s1, A1, F1, a1, e1, r1, rx, q1⟩ => ?_⟩
  cases hl : lstC s1.ce x with
  | none => rw [hl] at q1; exact q1.elim
  | some p =>
    rw [hl] at q1
    obtain ⟨a, vs, rfl, h1, _, _⟩ := Rel.lst r1.cs rx hl
    refine ⟨Or.inl ⟨rfl, vs, SqL.of h1⟩, s1, A1, F1, r1, PostE.imp (PostE.bind q1) fun vy H2 ⟨y, s2, A2, F2, a2, e2, r2, ry, q2⟩ => ?_⟩
    cases hl2 : lstC s2.ce x with
    | none => simp only [hl2] at q2; exact q2.elim
    | some p2 =>
      obtain ⟨k, ws⟩ := p2
      cases hy : lstW s2.ce y with
      | none => simp only [hl2, hy] at q2; exact q2.elim
      | some zs =>
        simp only [hl2, hy] at q2
        by_cases hz : ws.length + zs.length ≤ sizeLine
        · rw [if_pos hz] at q2
          obtain ⟨b, us, hb, h3, h4, h5⟩ := Rel.lst r2.cs (rx.mono a2 e2) hl2
          cases hb
          obtain ⟨c, ts, rfl, h6, h7⟩ := lstW_ok r2.cs ry hy
          refine ⟨a, c, us, ts, rfl, rfl, h3, h6, by rw [h4.length, h7.length]; exact hz, q2 A2 F2 _ _ (List.prefix_refl _) (Ex.refl _) (r2.put' (h5 _ _ (h4.append h7))) .non⟩
        · rw [if_neg hz] at q2; exact q2.elim
/-! ### is None -/
def isN : P2 := fun _ x y => match y with
  | .d .non => match x with
    | .d .non => some (.bl true)
    | _ => some (.bl false)
  | _ => none
def notN : P2 := fun _ x y => match y with
  | .d .non => match x with
    | .d .non => some (.bl false)
    | _ => some (.bl true)
  | _ => none
theorem non_iff {K : PySem.W.Frag} {mg : Str → Option Value} {A : List Addr} {F : Hp} {v : V} {w : W} (h : RW K mg A F v w) : decide (v = V.non) = (match w with | .d .non => true | _ => false) := by
  cases w with
  | d x => cases h <;> simp
  | c k => obtain ⟨a, _, rfl⟩ := h; simp
theorem o_isN : OpR X (compareOp .Is) (rP2 X.K X.mg isN) := by
  intro pins s σ H x y v u Q I rx ry ⟨ce, A, F, wx, wy, d, rc, hx, hy, ho, fin⟩
  unfold isN at ho
  split at ho
  · cases hy
    refine op_isN pins s σ H _ _ v u Q I rx ry ⟨rfl, ?_⟩
    rw [non_iff hx]
    split at ho <;> cases ho
    · exact fin.now rc (.bl _)
    · split
      · rename_i h; exact absurd rfl (by assumption)
      · exact fin.now rc (.bl _)
  · cases ho
theorem o_notN : OpR X (compareOp .IsNot) (rP2 X.K X.mg notN) := by
  intro pins s σ H x y v u Q I rx ry ⟨ce, A, F, wx, wy, d, rc, hx, hy, ho, fin⟩
  unfold notN at ho
  split at ho
  · cases hy
    refine op_notN pins s σ H _ _ v u Q I rx ry ⟨rfl, ?_⟩
    rw [non_iff hx]
    split at ho <;> cases ho
    · exact fin.now rc (.bl _)
    · split
      · rename_i h; exact absurd rfl (by assumption)
      · exact fin.now rc (.bl _)
  · cases ho
end
end VL

set_option maxHeartbeats 1000000
namespace VL
open PySem PySem.Spec PyProof.Rows L2

/-! ### dicts that change, keys ints and texts: {}, d[k], d[k] = v, k in d -/
def keyD : D → Option Key
  | .int i => some (.inl i)
  | .str x => some (.inr x)
  | _ => none
def getKW {α : Type} : List Key → List α → Key → Option α
  | k :: ks, w :: ws, q => if k = q then some w else getKW ks ws q
  | _, _, _ => none
def hasK (q : Key) (ks : List Key) : Bool := ks.any fun k => decide (k = q)
def putKs (q : Key) (ks : List Key) : List Key := if hasK q ks = true then ks else ks ++ [q]
def putKW {α : Type} (q : Key) (w : α) (ks : List Key) (ws : List α) : List α := if hasK q ks = true then List.zipWith (fun k x => if k = q then w else x) ks ws else ws ++ [w]
theorem valV_zip (q : Key) : ∀ (ks : List Key) (vs : List V), valV (ks.zip vs) q = getKW ks vs q
  | [], _ => rfl
  | k :: ks, [] => rfl
  | k :: ks, v :: vs => by
    show valV ((k, v) :: ks.zip vs) q = if k = q then some v else getKW ks vs q
    by_cases e : k = q
    · rw [valV_pos e, if_pos e]
    · rw [valV_neg e, if_neg e, valV_zip q ks vs]
theorem getKW_rel {K : PySem.W.Frag} {mg : Str → Option Value} {A : List Addr} {F : Hp} {q : Key} {w : W} : ∀ {ks : List Key} {vs : List V} {ws : List W}, RWs K mg A F vs ws → getKW ks ws q = some w → ∃ v, getKW ks vs q = some v ∧ RW K mg A F v w
  | [], _, _, _, e => by cases e
  | k :: ks, _, _, .nil, e => by cases e
  | k :: ks, _, _, .cons (v := x) (vs := vs) (w := z) (ws := ws) a b, e => by
    have e' : (if k = q then some z else getKW ks ws q) = some w := e
    show ∃ v, (if k = q then some x else getKW ks vs q) = some v ∧ _
    by_cases h : k = q
    · rw [if_pos h] at e'; cases e'
      exact ⟨x, if_pos h, a⟩
    · rw [if_neg h] at e'
      obtain ⟨v, h1, h2⟩ := getKW_rel b e'
      exact ⟨v, by rw [if_neg h]; exact h1, h2⟩
theorem getKW_some {K : PySem.W.Frag} {mg : Str → Option Value} {A : List Addr} {F : Hp} {q : Key} : ∀ {ks : List Key} {vs : List V} {ws : List W}, RWs K mg A F vs ws → (getKW ks vs q).isSome = (getKW ks ws q).isSome
  | [], _, _, _ => rfl
  | k :: ks, _, _, .nil => rfl
  | k :: ks, _, _, .cons (v := x) (vs := vs) (w := z) (ws := ws) a b => by
    show (if k = q then some x else getKW ks vs q).isSome = (if k = q then some z else getKW ks ws q).isSome
    by_cases h : k = q
    · rw [if_pos h, if_pos h]; rfl
    · rw [if_neg h, if_neg h, getKW_some b]
theorem any_zip (q : Key) : ∀ (ks : List Key) (vs : List V), ks.length = vs.length → ((ks.zip vs).any fun kv => decide (kv.1 = q)) = hasK q ks
  | [], _, _ => by simp [hasK]
  | k :: ks, [], h => by simp at h
  | k :: ks, v :: vs, h => by
    have := any_zip q ks vs (by simpa using h)
    simp only [hasK] at this ⊢
    rw [List.zip_cons_cons, List.any_cons, List.any_cons, this]
theorem map_zip (q : Key) (y : V) : ∀ (ks : List Key) (vs : List V), (ks.zip vs).map (fun kv => if kv.1 = q then (kv.1, y) else kv) = ks.zip (List.zipWith (fun k x => if k = q then y else x) ks vs)
  | [], _ => rfl
  | k :: ks, [] => rfl
  | k :: ks, v :: vs => by
    rw [List.zip_cons_cons, List.map_cons, List.zipWith_cons_cons, List.zip_cons_cons, map_zip q y ks vs]
    by_cases e : k = q
    · rw [if_pos e, if_pos e]
    · rw [if_neg e, if_neg e]
theorem putK_zip (q : Key) (y : V) (ks : List Key) (vs : List V) (h : ks.length = vs.length) : putK (ks.zip vs) q y = (putKs q ks).zip (putKW q y ks vs) := by
  unfold putK putKs putKW
  rw [any_zip q ks vs h]
  by_cases e : hasK q ks = true
  · rw [if_pos e, if_pos e, if_pos e, map_zip]
  · rw [if_neg e, if_neg e, if_neg e, List.zip_append h]; rfl
theorem putKs_len {α : Type} (q : Key) (w : α) (ks : List Key) (ws : List α) (h : ks.length = ws.length) : (putKs q ks).length = (putKW q w ks ws).length := by
  unfold putKs putKW
  by_cases e : hasK q ks = true
  · rw [if_pos e, if_pos e, List.length_zipWith]; omega
  · rw [if_neg e, if_neg e, List.length_append, List.length_append]; simpa using h
theorem RWs.zipPut {K : PySem.W.Frag} {mg : Str → Option Value} {A : List Addr} {F : Hp} {q : Key} {v : V} {w : W} (h1 : RW K mg A F v w) : ∀ {ks : List Key} {vs : List V} {ws : List W}, RWs K mg A F vs ws → RWs K mg A F (List.zipWith (fun k x => if k = q then v else x) ks vs) (List.zipWith (fun k x => if k = q then w else x) ks ws)
  | [], _, _, _ => by simp; exact .nil
  | k :: ks, _, _, .nil => .nil
  | k :: ks, _, _, .cons (v := x) (vs := vs) (w := z) (ws := ws) a b => by
    rw [List.zipWith_cons_cons, List.zipWith_cons_cons]
    by_cases e : k = q
    · rw [if_pos e, if_pos e]; exact .cons h1 (RWs.zipPut h1 b)
    · rw [if_neg e, if_neg e]; exact .cons a (RWs.zipPut h1 b)
theorem RWs.putKW {K : PySem.W.Frag} {mg : Str → Option Value} {A : List Addr} {F : Hp} {q : Key} {v : V} {w : W} (h1 : RW K mg A F v w) {ks : List Key} {vs : List V} {ws : List W} (h : RWs K mg A F vs ws) : RWs K mg A F (putKW q v ks vs) (putKW q w ks ws) := by
  unfold VL.putKW
  by_cases e : hasK q ks = true
  · rw [if_pos e, if_pos e]; exact RWs.zipPut h1 h
  · rw [if_neg e, if_neg e]; exact h.append (.cons h1 .nil)
def dKc (ce : List (Option Cell)) : W → Option (Nat × List Key × List W)
  | .c k => match ce[k]? with
    | some (some (.dK ks ws)) => some (k, ks, ws)
    | _ => none
  | _ => none
theorem dKc_ok {K : PySem.W.Frag} {mg : Str → Option Value} {A : List Addr} {F H : Hp} {ce : List (Option Cell)} (r : RelC K mg A F ce H) {v : V} {w : W} {k : Nat} {ks : List Key} {ws : List W} (h : RW K mg A F v w) (e : dKc ce w = some (k, ks, ws)) :
    ∃ a vs, v = .ref a ∧ H a = some (.dK (ks.zip vs)) ∧ ks.length = vs.length ∧ RWs K mg A F vs ws ∧ ∀ ks' ws' vs', ks'.length = ws'.length → RWs K mg A F vs' ws' → RelC K mg A F (ce.set k (some (.dK ks' ws'))) (upd H a (.dK (ks'.zip vs'))) := by
  cases w with
  | d x => cases e
  | c j =>
    obtain ⟨a, ha, rfl⟩ := h
    simp only [dKc] at e
    split at e
    · rename_i hk
      cases e
      obtain ⟨b, h1, h2, vs, hl, h3, h4⟩ := r.cell k _ hk
      rw [ha] at h1; cases h1
      exact ⟨a, vs, rfl, h4, by rw [hl, h3.length], h3, fun ks' ws' vs' hl' h' => r.put hk ha ⟨vs', hl', h', upd_same⟩⟩
    · cases e
theorem key_at {K : PySem.W.Frag} {mg : Str → Option Value} {F : Hp} {v : V} {d : D} {q : Key} (h : R K mg F v d) (e : keyD d = some q) : v = kV q := by
  cases d <;> simp [keyD] at e <;> subst e <;> cases h <;> rfl
/-- {}, keys ints and texts -/
def eDic0 (s : S) : Out W := .ok (.c s.ce.length) ⟨s.sl, s.ce ++ [some (.dK [] [])]⟩
/-- x[y], of lists, tuples, texts, dicts -/
def ixZ (ce : List (Option Cell)) (x y : W) : Option W := match dKc ce x with
  | some (_, ks, ws) => match y with
    | .d d => (keyD d).bind (getKW ks ws)
    | _ => none
  | none => ixW ce x y
def eIxZ (fa fb : S → Out W) (s : S) : Out W := (fa s).bind fun x s1 => (fb s1).bind fun y s2 => match ixZ s2.ce x y with
  | some w => .ok w s2
  | none => .bad
def rIxZ (K : PySem.W.Frag) (mg : Str → Option Value) : R2 := fun vx vy H Q => ∃ ce A F x y w, RelC K mg A F ce H ∧ RW K mg A F vx x ∧ RW K mg A F vy y ∧ ixZ ce x y = some w ∧ ∀ v, RW K mg A F v w → Q v H
/-- x in y, of lists of data and of dicts -/
def inZ (neg : Bool) : P2 := fun ce x y => match dKc ce y with
  | some (_, ks, ws) => match x with
    | .d d => (keyD d).map fun q => .bl (if neg then !(getKW ks ws q).isSome else (getKW ks ws q).isSome)
    | _ => none
  | none => two (fIn neg) ce x y
def sSetZ (fo fi fe : S → Out W) (s : S) : Fl := (fe s).then fun v s1 => (fo s1).then fun w s2 => (fi s2).then fun ix s3 => match dKc s3.ce w with
  | some (k, ks, ws) => match ix with
    | .d d => match keyD d with
      | some q => if ks.length < sizeLine then .nx ⟨s3.sl, s3.ce.set k (some (.dK (putKs q ks) (putKW q v ks ws)))⟩ else .bad
      | none => .bad
    | _ => .bad
  | none => match ix, lstC s3.ce w with
    | .d (.int i), some (k, ws) => match ixN ws.length i with
      | some j => .nx (putC s3 k (ws.set j v))
      | none => .bad
    | _, _ => .bad
section
variable {X : Cx} {W' : WX} {a b e o i : Expr} {fa fb fo fi fe : S → Out W} {pos apos : Pos}
theorem ve_dic0 : VE X W' (.Dict [] [] pos) eDic0 := PE.imp pe_dnewK fun σ H Q h => by
  obtain ⟨s, A, F, r, q⟩ := h
  intro p hp
  have c := r.cs.cellNew (o := .dK []) (c := .dK [] []) hp ⟨[], rfl, .nil, by rw [upd_same]; rfl⟩
  have px : A <+: A ++ [p] := List.prefix_append _ _
  exact q (A ++ [p]) F _ (.ref p) px (Ex.refl F) (r.cells px (Ex.refl F) c) ⟨p, by rw [← r.cs.len]; simp, rfl⟩
theorem x_ixZ (hu : X.A.units + 198 < cLine) : IxR X (rIxZ X.K X.mg) := by
  intro value slice pins s σ H x y v u Q I rx ry h hs
  obtain ⟨ce, A, F, wx, wy, w, rc, hx, hy, ho, fin⟩ := h
  unfold ixZ at ho
  split at ho
  · rename_i k ks ws hk
    split at ho
    · rename_i d
      cases hq : keyD d with
      | none => rw [hq] at ho; cases ho
      | some q =>
        rw [hq] at ho
        obtain ⟨a, vs, rfl, hH, hl, rws, _⟩ := dKc_ok rc hx hk
        obtain ⟨z, h1, h2⟩ := getKW_rel rws ho
        cases rx
        have g : DGet H a y (some z) := by rw [key_at hy hq, ← h1, ← valV_zip]; exact DGet.k hH
        exact tail_any (ops := [.ref a, u]) (dict_typeIs I g) PySem.F.slot_dict_getitem.lookup (d_getItem (by omega) I g ry fun w' s3 I3 rw' => ⟨z, H, I3, rw', fin z h2⟩) hs
    · cases ho
  · exact x_ix value slice pins s σ H x y v u Q I rx ry ⟨ce, A, F, wx, wy, w, rc, hx, hy, ho, fin⟩ hs
theorem ve_ixZ (hu : X.A.units + 198 < cLine) (ha : VE X W' a fa) (hb : VE X W' b fb) (hs : PlainIx b := by intro _ _; rfl) : VE X W' (.Subscript a b pos) (eIxZ fa fb) := PE.imp (pe_ix (x_ixZ hu) ha hb hs) fun σ H Q h => by
  obtain ⟨s, A, F, r, q⟩ := h
  refine ⟨s, A, F, r, PostE.imp (PostE.bind q) fun vx H1 ⟨x, s1, A1, F1, a1, e1, r1, rx, q1⟩ => ?_⟩
  refine ⟨s1, A1, F1, r1, PostE.imp (PostE.bind q1) fun vy H2 ⟨y, s2, A2, F2, a2, e2, r2, ry, q2⟩ => ?_⟩
  cases hk : ixZ s2.ce x y with
  | none => rw [hk] at q2; exact q2.elim
  | some w =>
    rw [hk] at q2
    exact ⟨s2.ce, A2, F2, x, y, w, r2.cs, rx.mono a2 e2, ry, hk, fun v hv => q2 A2 F2 H2 v (List.prefix_refl _) (Ex.refl _) r2 hv⟩
theorem o_inZ (hu : X.A.units + 198 < cLine) : OpR X (compareOp .In) (rP2 X.K X.mg (inZ false)) := by
  intro pins s σ H x y v u Q I rx ry ⟨ce, A, F, wx, wy, d, rc, hx, hy, ho, fin⟩
  unfold inZ at ho
  split at ho
  · rename_i k ks ws hk
    split at ho
    · rename_i dd
      obtain ⟨q, hq, rfl⟩ := Option.map_eq_some_iff.mp ho
      obtain ⟨a, vs, rfl, hH, hl, rws, _⟩ := dKc_ok rc hy hk
      cases ry
      have g : DGet H a x (getKW ks vs q) := by rw [key_at hx hq, ← valV_zip]; exact DGet.k hH
      refine d_in (by omega) I g rx fun s3 I3 => ⟨.bl _, H, I3, rfl, ?_⟩
      rw [getKW_some rws]
      exact fin.now rc (.bl _)
    · cases ho
  · exact o_in (by omega) pins s σ H x y v u Q I rx ry ⟨ce, A, F, wx, wy, d, rc, hx, hy, ho, fin⟩
theorem o_notInZ (hu : X.A.units + 198 < cLine) : OpR X (compareOp .NotIn) (rP2 X.K X.mg (inZ true)) := by
  intro pins s σ H x y v u Q I rx ry ⟨ce, A, F, wx, wy, d, rc, hx, hy, ho, fin⟩
  unfold inZ at ho
  split at ho
  · rename_i k ks ws hk
    split at ho
    · rename_i dd
      obtain ⟨q, hq, rfl⟩ := Option.map_eq_some_iff.mp ho
      obtain ⟨a, vs, rfl, hH, hl, rws, _⟩ := dKc_ok rc hy hk
      cases ry
      have g : DGet H a x (getKW ks vs q) := by rw [key_at hx hq, ← valV_zip]; exact DGet.k hH
      refine d_notIn (by omega) I g rx fun s3 I3 => ⟨.bl _, H, I3, rfl, ?_⟩
      rw [getKW_some rws]
      exact fin.now rc (.bl _)
    · cases ho
  · exact o_notIn (by omega) pins s σ H x y v u Q I rx ry ⟨ce, A, F, wx, wy, d, rc, hx, hy, ho, fin⟩
/-- a store of a list or a dict, by values -/
def rSetZ : TSet := fun o i v H Q => rSetL o i v H Q ∨ rSetD o i v H Q
theorem set_any (hu : X.A.units + 198 < cLine) : PSet X rSetZ := by
  intro pins s σ H o i v ov iv u Q I ro ri rv h
  rcases h with h | h
  · exact set_list pins s σ H o i v ov iv u Q I ro ri rv h
  · exact set_dict (by omega) pins s σ H o i v ov iv u Q I ro ri rv h
theorem vs_setZ (hu : X.A.units + 198 < cLine) (ho : VE X W' o fo) (hi : VE X W' i fi) (he : VE X W' e fe)
    (hs : swapsWithSole [.Subscript o i apos] e pos.line X.env = pure false := by rfl) (hw : swappedStores [.Subscript o i apos] e X.env = pure none := by rfl) (h1 : (assignEach [.Subscript o i apos] X.env).map (·.2) = [assign (.Subscript o i apos) X.env] := by rfl)
    (ha : ∀ v, assign (.Subscript o i apos) X.env v = (do let ov ← holding [v] (eval o X.env); let iv ← holding [v, ov] (eval i X.env); standAt apos; holding [v, ov, iv] (setItem ov iv v); release [v, ov, iv] []) := by intro _; rfl) :
    VS X W' (.Assign [.Subscript o i apos] e pos) (sSetZ fo fi fe) := PS.imp (ps_asg he (pg_sub ho hi (set_any hu) ha) hs hw h1) fun De σ H h => by
  obtain ⟨s, A, F, r, q⟩ := h
  refine ⟨s, A, F, r, PostE.imp (PostE.thenS q) fun v H1 ⟨w, s1, A1, F1, a1, e1, r1, rw1, q1⟩ => ?_⟩
  refine ⟨s1, A1, F1, r1, PostE.imp (PostE.thenS q1) fun vo H2 ⟨wo, s2, A2, F2, a2, e2, r2, rw2, q2⟩ => ?_⟩
  refine ⟨s2, A2, F2, r2, PostE.imp (PostE.thenS q2) fun vi H3 ⟨wi, s3, A3, F3, a3, e3, r3, rw3, q3⟩ => ?_⟩
  have hv := (rw1.mono a2 e2).mono a3 e3
  have hwo := rw2.mono a3 e3
  cases hk : dKc s3.ce wo with
  | some p =>
    obtain ⟨k, ks, ws⟩ := p
    rw [hk] at q3
    simp only at q3
    split at q3
    · rename_i d
      split at q3
      · rename_i qk hq
        split at q3
        · rename_i hz
          obtain ⟨a, vs, rfl, hH, hl, rws, put⟩ := dKc_ok r3.cs hwo hk
          refine .inr ⟨a, _, rfl, by rw [key_at rw3 hq]; exact DPut.k hH (by rw [List.length_zip]; omega), ?_⟩
          rw [putK_zip qk v ks vs hl]
          have hlw : ks.length = ws.length := by rw [hl, rws.length]
          exact q3 A3 F3 _ σ (List.prefix_refl _) (Ex.refl _) ⟨put _ _ _ (putKs_len qk w ks ws hlw) (RWs.putKW hv rws), r3.sz, r3.slot⟩
        · exact q3.elim
      · exact q3.elim
    · exact q3.elim
  | none =>
    rw [hk] at q3
    simp only at q3
    split at q3
    · rename_i ii k ws hl
      cases rw3
      obtain ⟨b, us, rfl, h3, h4, h5⟩ := Rel.lst r3.cs hwo hl
      split at q3
      · rename_i j hj
        exact .inl ⟨b, us, ii, j, rfl, rfl, h3, by rw [h4.length]; exact hj, q3 A3 F3 _ σ (List.prefix_refl _) (Ex.refl _) (r3.put' (h5 _ _ (h4.set hv j)))⟩
      · exact q3.elim
    · exact q3.elim
end
end VL

set_option maxHeartbeats 1000000
namespace VL
open PySem PySem.Spec PyProof.Rows L2

/-! ### dicts as data: {}, {k: v}; list(d.items()) -/
theorem upd_twice {H : Hp} {p : Addr} {a b : HO} : upd (upd H p a) p b = upd H p b := by
  funext x
  by_cases h : x = p
  · subst h; rw [upd_same, upd_same]
  · rw [upd_ne h, upd_ne h, upd_ne h]
section
variable {X : Cx} {W' : WX} {ek ev e : Expr} {fe : S → Out W} {pos p apos cpos : Pos} {k : Key} {v : V} {d : D}
theorem ve_dicF : VE X W' (.Dict [] [] pos) (eC (.dic [] [])) := PE.imp pe_dnewK fun σ H Q h => by
  obtain ⟨s, A, F, r, q⟩ := h
  intro p hp
  have ef : Ex F (upd F p (.dK [])) := ex_upd (r.cs.none_of hp)
  exact q A _ _ (.ref p) (List.prefix_refl _) ef (r.slots ef (r.cs.new hp _)) (R.dicK (ks := []) (vs := []) upd_same rfl .nil)
theorem ve_dic1 (hk : PE X ek (tC (kV k))) (hv : PE X ev (tC v)) (hR : ∀ F, R X.K X.mg F v d) : VE X W' (.Dict [some ek] [ev] pos) (eC (.dic [kD k] [d])) :=
  PE.imp (pe_disp (pps_cons hk hv pps_nil) (by rfl) (by rfl) (fun z => by cases z) (by simp)) fun σ H Q h => by
  obtain ⟨s, A, F, r, q⟩ := h
  intro p hp
  refine ⟨upd_same, [(k, v)], rfl, by simp, ?_⟩
  rw [upd_twice]
  have ef : Ex F (upd F p (.dK [(k, v)])) := ex_upd (r.cs.none_of hp)
  exact q A _ _ (.ref p) (List.prefix_refl _) ef (r.slots ef (r.cs.new hp _)) (R.dicK (ks := [k]) (vs := [v]) upd_same rfl (.cons (hR _) .nil))
/-- {k: (c,)} -/
theorem ve_dic1t {vs : List V} {ds : List D} {t : TE} (hk : PE X ek (tC (kV k))) (hv : PE X ev t) (ht : ∀ σ H Q, (∀ p, H p = none → Q (.ref p) (upd H p (.tup vs))) → t σ H Q) (hR : ∀ F, RAll X.K X.mg F vs ds) : VE X W' (.Dict [some ek] [ev] pos) (eC (.dic [kD k] [.tup ds])) :=
  PE.imp (pe_disp (pps_cons hk hv pps_nil) (by rfl) (by rfl) (fun z => by cases z) (by simp)) fun σ H Q h => by
  obtain ⟨s, A, F, r, q⟩ := h
  intro p hp
  refine ht _ _ _ fun p2 hp2 => ?_
  have hne : p ≠ p2 := by
    rintro rfl
    rw [upd_same] at hp2; cases hp2
  have hp3 : H p2 = none := by rw [upd_ne (Ne.symm hne)] at hp2; exact hp2
  refine ⟨by rw [upd_ne hne]; exact upd_same, [(k, .ref p2)], rfl, by simp, ?_⟩
  have e1 : upd (upd (upd H p (.dK [])) p2 (.tup vs)) p (.dK (mergeK [] [(k, .ref p2)])) = upd (upd H p2 (.tup vs)) p (.dK [(k, .ref p2)]) := by
    funext x
    by_cases h1 : x = p
    · subst h1; rw [upd_same, upd_same]; rfl
    · rw [upd_ne h1, upd_ne h1]
      by_cases h2 : x = p2
      · subst h2; rw [upd_same, upd_same]
      · rw [upd_ne h2, upd_ne h1, upd_ne h2]
  rw [e1]
  have r1 := r.slots (ex_upd (r.cs.none_of hp3)) (r.cs.new hp3 (.tup vs))
  have hq : upd H p2 (.tup vs) p = none := by rw [upd_ne hne]; exact hp
  have ef := (ex_upd (o := HO.tup vs) (r.cs.none_of hp3)).trans (ex_upd (o := HO.dK [(k, .ref p2)]) (r1.cs.none_of hq))
  exact q A _ _ (.ref p) (List.prefix_refl _) ef (r1.slots (ex_upd (r1.cs.none_of hq)) (r1.cs.new hq _)) (R.dicK (ks := [k]) (vs := [.ref p2]) upd_same rfl (.cons (.tup (SqT.of (by rw [upd_ne (Ne.symm hne)]; exact upd_same)) (hR _)) .nil))
/-- list(d.items()), d data with ints and texts as keys -/
def keysK : List D → Option (List Key)
  | [] => some []
  | d :: ds => match keyD d, keysK ds with
    | some k, some ks => some (k :: ks)
    | _, _ => none
def pairsD : List D → List D → List D
  | k :: ks, d :: ds => .tup [k, d] :: pairsD ks ds
  | _, _ => []
def eItems (fo : S → Out W) (s : S) : Out W := (fo s).bind fun w s1 => match dat s1.ce w with
  | some (.dic ks ds) => match keysK ks with
    | some _ => if ks.length = ds.length then .ok (.d (.lst (pairsD ks ds))) s1 else .bad
    | none => .bad
  | _ => .bad
theorem keysK_eq : ∀ {ds : List D} {ks : List Key}, keysK ds = some ks → ds = ks.map kD
  | [], _, e => by cases e; rfl
  | d :: ds, _, e => by
    simp only [keysK] at e
    split at e
    · rename_i k ks h1 h2
      cases e
      rw [List.map_cons, ← keysK_eq h2]
      congr 1
      cases d <;> simp [keyD] at h1 <;> subst h1 <;> rfl
    · cases e
theorem kD_inj {a b : Key} (h : kD a = kD b) : a = b := by
  cases a <;> cases b <;> simp [kD] at h <;> rw [h]
theorem kDs_inj : ∀ {a b : List Key}, a.map kD = b.map kD → a = b
  | [], [], _ => rfl
  | [], _ :: _, h => by simp at h
  | _ :: _, [], h => by simp at h
  | x :: a, y :: b, h => by
    rw [List.map_cons, List.map_cons] at h
    injection h with h1 h2
    rw [kD_inj h1, kDs_inj h2]
theorem ve_listItems (hc : X.calm = true) (he : VE X W' e fe) (hm : X.mg "list" = none) (hg : Gl X "list" := by rfl) (hbase : attributeBase e "items" X.env (eval e X.env) = eval e X.env := by rfl) (hline : (apos.endLine == cpos.line) = true := by rfl)
    (hs : starEach [.Call (.Attribute e "items" apos) [] [] cpos] X.env = (false, eval (.Call (.Attribute e "items" apos) [] [] cpos) X.env) :: starEach [] X.env := by rfl) :
    VE X W' (.Call (.Name "list" p) [.Call (.Attribute e "items" apos) [] [] cpos] [] pos) (eItems fe) := PE.imp (LiI.pe_listItems hc he hg hm bt_list hbase hline hs) fun σ H Q h => by
  obtain ⟨s, A, F, r, q⟩ := h
  refine ⟨s, A, F, r, PostE.imp (PostE.bind q) fun vx H1 ⟨w, s1, A1, F1, a1, e1, r1, rw1, q1⟩ => ?_⟩
  split at q1
  · rename_i ks ds hd
    split at q1
    · rename_i qs hks
      split at q1
      · rename_i hl
        have hr := dat_rt r1.cs rw1 hd
        obtain ⟨a, vs, hv, hH, hlen, rall⟩ : ∃ a vs, vx = .ref a ∧ H1 a = some (.dK (qs.zip vs)) ∧ qs.length = vs.length ∧ RAll X.K X.mg F1 vs ds := by
          have hk := keysK_eq hks
          cases hr with
          | dicK h1 h2 h3 => exact ⟨_, _, rfl, by rw [← kDs_inj hk]; exact h1, by rw [← kDs_inj hk]; exact h2, h3⟩
          | @dicT _ ks' _ _ h0 h1 h2 h3 =>
            cases ks' with
            | nil => exact absurd rfl h0
            | cons x xs => cases qs with
              | nil => simp at hk
              | cons y ys =>
                rw [List.map_cons, List.map_cons] at hk
                injection hk with hk1 hk2
                cases y <;> simp [kD] at hk1
          | flat h1 h2 h3 h4 => exact absurd rfl (h4 _ _)
        subst hv
        refine ⟨a, qs.zip vs, rfl, hH, fun H' p ts hkeep hp hts hpt hlst hpair => ?_⟩
        -- the new objects are frozen
        have ef : Ex F1 (fun b => if H1 b = none then H' b else F1 b) := fun b o e => by
          show (if H1 b = none then H' b else F1 b) = some o
          rw [if_neg (by rw [r1.cs.ex b o e]; simp)]; exact e
        have rc : RelC X.K X.mg A1 (fun b => if H1 b = none then H' b else F1 b) s1.ce H' := r1.cs.grow hkeep (fun b hb => if_pos hb) (fun b o hb => if_neg (by rw [hb]; simp))
        have at_ : ∀ (ts : List Addr) (qs : List Key) (vs : List V) (ds : List D), (∀ t ∈ ts, H1 t = none) → qs.length = vs.length → RAll X.K X.mg F1 vs ds → Paired (fun (t : Addr) (q : Key × V) => H' t = some (.tup [kV q.1, q.2])) ts (qs.zip vs) →
            RAll X.K X.mg (fun b => if H1 b = none then H' b else F1 b) (ts.map V.ref) (pairsD (qs.map kD) ds) := by
          intro ts qs
          induction qs generalizing ts with
          | nil => intro vs ds _ _ _ hp; cases hp; exact .nil
          | cons k qs ih =>
            intro vs ds hn hl hr hp
            cases hr with
            | nil => simp at hl
            | @cons v vs d ds r1' r2' =>
              cases hp with
              | @cons t _ ts' _ h1 h2 =>
                refine .cons (.tup (SqT.of (by show (if H1 t = none then H' t else F1 t) = _; rw [if_pos (hn t List.mem_cons_self)]; exact h1)) (.cons ?_ (.cons (r1'.mono ef) .nil))) (ih ts' vs ds (fun t ht => hn t (List.mem_cons_of_mem _ ht)) (by simpa using hl) r2' h2)
                cases k
                · exact .int _
                · exact .str _
        have e2 : ks = qs.map kD := keysK_eq hks
        rw [e2] at q1
        exact q1 A1 _ H' (.ref p) (List.prefix_refl _) ef (r1.slots ef rc) (.lst (by show (if H1 p = none then H' p else F1 p) = _; rw [if_pos hp]; exact hlst) (at_ ts qs vs ds hts hlen rall hpair))
      · exact q1.elim
    · exact q1.elim
  · exact q1.elim
end
/-! ### a cell is frozen, a list's or a dict's -/
def eFrzZ (fa : S → Out W) (s : S) : Out W := (fa s).bind fun w s1 => match w with
  | .d x => .ok (.d x) s1
  | .c k => match s1.ce[k]? with
    | some (some (.lst ws)) => match datAll ws with
      | some ds => .ok (.d (.lst ds)) ⟨s1.sl, s1.ce.set k none⟩
      | none => .bad
    | some (some (.dK ks ws)) => match datAll ws with
      | some ds => .ok (.d (.dic (ks.map kD) ds)) ⟨s1.sl, s1.ce.set k none⟩
      | none => .bad
    | _ => .bad
theorem ve_frzZ {X : Cx} {W' : WX} {e : Expr} {fa : S → Out W} (h : VE X W' e fa) : VE X W' e (eFrzZ fa) := PE.imp h fun σ H Q h => by
  obtain ⟨s, A, F, r, q⟩ := h
  refine ⟨s, A, F, r, PostE.imp (PostE.bind q) fun v H1 ⟨w, s1, A1, F1, a1, e1, r1, rw1, q1⟩ => ?_⟩
  split at q1
  · exact q1 A1 F1 H1 v (List.prefix_refl _) (Ex.refl _) r1 rw1
  · split at q1
    · rename_i ws hk
      split at q1
      · rename_i ds hd
        obtain ⟨a, ha, rfl⟩ := rw1
        obtain ⟨b, h1, h2, vs, h3, h4⟩ := r1.cs.cell _ _ hk
        rw [ha] at h1; cases h1
        rw [datAll_eq hd] at h4
        obtain ⟨ef, rc⟩ := r1.cs.frzAt hk ha h3
        exact q1 A1 _ H1 _ (List.prefix_refl _) ef ⟨rc, r1.sz, fun i w e => by obtain ⟨u, g1, g2⟩ := r1.slot i w e; exact ⟨u, g1, g2.mono (List.prefix_refl _) ef⟩⟩ (R.lst upd_same ((RAll.ofW h4).mono ef))
      · exact q1.elim
    · rename_i ks ws hk
      split at q1
      · rename_i ds hd
        obtain ⟨a, ha, rfl⟩ := rw1
        obtain ⟨b, h1, h2, vs, hl, h4, h3⟩ := r1.cs.cell _ _ hk
        rw [ha] at h1; cases h1
        rw [datAll_eq hd] at h4 hl
        obtain ⟨ef, rc⟩ := r1.cs.frzAt hk ha h3
        exact q1 A1 _ H1 _ (List.prefix_refl _) ef ⟨rc, r1.sz, fun i w e => by obtain ⟨u, g1, g2⟩ := r1.slot i w e; exact ⟨u, g1, g2.mono (List.prefix_refl _) ef⟩⟩ (R.dicK upd_same (by have := h4.length; simp at hl this; omega) ((RAll.ofW h4).mono ef))
      · exact q1.elim
    · exact q1.elim
end VL

set_option maxHeartbeats 1000000
namespace VL
open PySem PySem.Spec PyProof.Rows L2

/-! ### x == y: data, one function, two instances of a class with an own __eq__ -/
def boolC : Out W → Option (Bool × List (Option Cell))
  | .ok (.d (.bl b)) s2 => some (b, s2.ce)
  | _ => none
def eqC (c : Str) (G : Fn) (ce : List (Option Cell)) (x y : W) : Option (Bool × List (Option Cell)) := match insW ce x, insW ce y with
  | some (cx, _, _), some (cy, _, _) => if cx = c ∧ cy = c then boolC (G [x, y] ce) else none
  | _, _ => match x, y with
    | .d (.glob f), .d (.glob g) => if f = g then some (true, ce) else none
    | _, _ => match two fEq ce x y with
      | some (.bl b) => some (b, ce)
      | _ => none
def eEqZ (c : Str) (G : Fn) (fa fb : S → Out W) (s : S) : Out W := (fa s).bind fun x s1 => (fb s1).bind fun y s2 => match eqC c G s2.ce x y with
  | some (b, ce) => .ok (.d (.bl b)) ⟨s2.sl, ce⟩
  | none => .bad
namespace Fu
open PySem
theorem slot_eq : Slot "function" (cmpInfo .Eq).2.1 "object.__eq__" := .of (owner := "object") (n := "__eq__") (by rw [typeLookup_type, builtinLookup_eq_fast]; kernel_rfl) (by decide +kernel) (by decide +kernel) (by decide +kernel) (by first | exact .inl (by decide +kernel) | exact .inr (by decide +kernel)) (by rw [isSubtype_type]; kernel_rfl)
theorem eq_same {prog : Program} {w : World} {A : Around} {E : Value → Shared → Prop} {s : Shared} {Q : Value → Shared → Prop} {a : Addr} {o : Obj} (ho : s.heap.get? a = some o) (hc : o.cls = .type "function") (hu : A.units < cLine) (h : Q (.bool true) s) : wpAny (model prog w) A (richCompare .Eq (.ref a) (.ref a)) Q E s :=
  wpAny_richCompare_same_room (op := .Eq) ⟨_, ho, hc⟩ ⟨_, ho, hc⟩ slot_eq (wpAny_call_entry slot_eq ⟨_, ho, hc⟩ F.cmpEntry_eq (objEq_entry_same ⟨_, rfl, (fun z => nomatch z), h⟩) (F.cmpArgs_eq _ _)) hu
end Fu
section
variable (K : PySem.W.Frag) (mg : Str → Option Value)
def PostQ (A : List Addr) (F : Hp) (Q : VK) : Option (Bool × List (Option Cell)) → Prop
  | some (b, ce) => ∀ A' F' H', A <+: A' → Ex F F' → RelC K mg A' F' ce H' → Q (.bl b) H'
  | none => False
def rEqS (c : Str) (G : Fn) : R2 := fun vx vy H Q => ∃ ce A F x y, RelC K mg A F ce H ∧ RW K mg A F vx x ∧ RW K mg A F vy y ∧ PostQ K mg A F Q (eqC c G ce x y)
end
section
variable {X : Cx} {W' : WX} {a b : Expr} {fa fb : S → Out W} {pos : Pos} {c : Str} {G : Fn} {k k' : Nat}
/-- the own == : nothing where no class has one -/
def EqOk (P : Program) (w : World) (K : PySem.W.Frag) (mg : Str → Option Value) (base : Heap) (c : Str) (k : Nat) (G : Fn) : Prop := MethOk P w K mg base c "__eq__" k 2 G
theorem o_eqS (D : EqOk X.prog X.w X.K X.mg X.base c k G) (hr : RmG k' X.A) (hk : k ≤ k') : OpR X (compareOp .Eq) (rEqS X.K X.mg c G) := by
  intro pins s σ H x y v u Q I rx ry ⟨ce, A, F, wx, wy, rc, hx, hy, q⟩
  unfold eqC at q
  split at q
  · rename_i cx nx wsx cy ny wsy hix hiy
    split at q
    · rename_i hc
      obtain ⟨rfl, rfl⟩ := hc
      obtain ⟨ax, C, dx, vsx, rfl, hm, hH, hl, _⟩ := insW_ok rc hx hix
      obtain ⟨ay, C2, dy, vsy, rfl, hm2, hH2, hl2, _⟩ := insW_ok rc hy hiy
      rw [hm] at hm2; cases hm2
      obtain ⟨C', f, fd, ps, hm3, hcl, hmt, hb, Fn⟩ := D.ex
      rw [hm] at hm3; cases hm3
      cases rx
      cases ry
      obtain ⟨mA, J, _⟩ := ins_get I.hok hH
      obtain ⟨mB, J', _⟩ := ins_get I.hok hH2
      obtain ⟨od, J, _⟩ := J.look
      obtain ⟨od', J', _⟩ := J'.look
      obtain ⟨m, hF⟩ := I.fr
      show wpAny (model X.prog X.w) X.A (richCompare .Eq (.ref ax) (.ref ay)) (EP X pins σ Q) X.xe s
      refine PySem.W.cmp_K (op := .Eq) (tb := .ref C) hr.rm.units0 hF I.ok.mod.kin J J'.type (by simp [PySem.W.notFirst]) hmt.at_ hmt.fn ?_
      have r2 : Vals [V.ref ax, V.ref ay] [Value.ref ax, Value.ref ay] := .cons rfl (.cons rfl .nil)
      have sp : spOf X.K X.mg 2 G [V.ref ax, V.ref ay] H (fun z H' => (∃ bb, z = .bl bb) ∧ Q z H') (fun _ _ _ => False) := by
        refine ⟨rfl, [wx, wy], ce, A, F, rc, .cons hx (.cons hy .nil), ?_⟩
        revert q
        cases G [wx, wy] ce with
        | ok w s2 =>
          intro q
          unfold boolC at q
          split at q
          · rename_i h
            cases h
            intro A' F' H' z e1 e2 e3 e4
            cases e4
            exact ⟨⟨_, rfl⟩, q A' F' H' e1 e2 e3⟩
          · exact q.elim
        | exc c ns ws s2 => exact fun q => q.elim
        | bad => exact fun q => q.elim
      have hlen : ([Value.ref ax, Value.ref ay] : List Value).length = ps.length := by rw [← r2.length]; exact Fn.len _ _ _ _ sp
      have bb := hb s [.ref ax, .ref ay] I.kIn (by rw [List.append_nil]; exact hlen)
      rw [List.append_nil] at bb
      refine wpAny_mono (runG (E := fun _ _ _ _ => False) (Fn.mono hk) hr bb (fun pins H s e s' _ z => by obtain ⟨_, _, _, _, _, _, _, _, _, _, _, _, h⟩ := z; exact h.elim) I r2 sp) (fun r s' z => ?_) fun _ _ z => z
      obtain ⟨z, H', I', rz, ⟨bz, rfl⟩, hq⟩ := z
      cases rz
      exact ⟨.bl bz, H', I', rfl, hq⟩
    · exact q.elim
  · split at q
    · rename_i f g _
      split at q
      · rename_i hfg
        subst hfg
        cases hx with
        | glob h1 h2 => cases hy with
          | glob h3 h4 =>
          rw [h1] at h3; cases h3
          cases rx
          cases ry
          obtain ⟨o, ho, hc⟩ := Option.map_eq_some_iff.mp (show (X.K.lookup _).map (·.cls) = some (.type "function") from eq_of_beq h2)
          exact Fu.eq_same (I.kIn _ _ ho) hc hr.rm.units0 ⟨.bl true, H, I, rfl, q A F H (List.prefix_refl _) (Ex.refl _) rc⟩
      · exact q.elim
    · split at q
      · rename_i b ho
        exact o_eq (hu64 hr) pins s σ H x y v u Q I rx ry ⟨ce, A, F, wx, wy, .bl b, rc, hx, hy, ho, fun F' H' z e1 e2 e3 => by cases e3; exact q A F' H' (List.prefix_refl _) e1 e2⟩
      · exact q.elim
theorem eqZ_imp {σ : L2.St} {H : Hp} {Q : VK} (h : tE X.K X.mg W' (eEqZ c G fa fb) σ H Q) : tOp (rEqS X.K X.mg c G) (tE X.K X.mg W' fa) (tE X.K X.mg W' fb) σ H Q := by
  obtain ⟨s, A, F, r, q⟩ := h
  refine ⟨s, A, F, r, PostE.imp (PostE.bind q) fun vx H1 ⟨x, s1, A1, F1, a1, e1, r1, rx, q1⟩ => ?_⟩
  refine ⟨s1, A1, F1, r1, PostE.imp (PostE.bind q1) fun vy H2 ⟨y, s2, A2, F2, a2, e2, r2, ry, q2⟩ => ?_⟩
  refine ⟨s2.ce, A2, F2, x, y, r2.cs, rx.mono a2 e2, ry, ?_⟩
  revert q2
  cases eqC c G s2.ce x y with
  | none => exact fun q2 => q2
  | some p => exact fun q2 A' F' H' e1 e2 e3 => q2 A' F' H' (.bl p.1) e1 e2 (r2.cells e1 e2 e3) (.bl _)
theorem ve_eqZ (D : EqOk X.prog X.w X.K X.mg X.base c k G) (hr : RmG k' X.A) (ha : VE X W' a fa) (hb : VE X W' b fb) (hk : k ≤ k' := by decide) (hm : behindInMarks .Eq b = false := by first | exact nomark _ | rfl) : VE X W' (.Compare a [.Eq] [b] pos) (eEqZ c G fa fb) :=
  PE.imp (pe_cmpR (o_eqS D hr hk) ha hb hm) fun _ _ _ h => eqZ_imp h
theorem vt_eqZ (D : EqOk X.prog X.w X.K X.mg X.base c k G) (hr : RmG k' X.A) (ha : VE X W' a fa) (hb : VE X W' b fb) (hk : k ≤ k' := by decide) (hm : behindInMarks .Eq b = false := by first | exact nomark _ | rfl) : VT X W' (.Compare a [.Eq] [b] pos) (bOf (eEqZ c G fa fb)) :=
  PT.imp (pt_cmpR (o_eqS D hr hk) ha hb hm) fun _ _ _ h => bOf_imp (fun _ _ _ q => eqZ_imp q) h
end
end VL
namespace VL
open PySem PySem.Spec PyProof.Rows L2
/-! ### recursion: a step, any depth -/
theorem def_bad {P : Program} {w : World} {K : PySem.W.Frag} {mg : Str → Option Value} {base : Heap} {x : Str} {st : Stmt} {ps : List Str} {k : Nat} (FA : FunAt K mg x st ps) : DefOk P w K mg base x k ps.length (fun _ _ => .bad) := by
  obtain ⟨f, fd, hm, Fu, hb⟩ := FA.ex
  obtain ⟨oc, od, kV, doc, pm, an, cdv, ct, osl, e, lk, _⟩ := Fu.ex
  exact ⟨f, fd, ps, hm, Fu.kp, hb, ⟨fun vs H Q E h => h.1, fun A out s H args us vs Q E hr e0 hbd hv h => by obtain ⟨_, ws, ce, A0, F0, _, _, z⟩ := h; exact (z : False).elim⟩, oc, od, osl, lk, by rw [FA.nm, e]⟩
theorem DefOk.mono {P : Program} {w : World} {K : PySem.W.Frag} {mg : Str → Option Value} {base : Heap} {x : Str} {j k np : Nat} {G : Fn} (h : DefOk P w K mg base x j np G) (hk : j ≤ k) : DefOk P w K mg base x k np G := by
  obtain ⟨f, fd, ps, hm, h1, h2, F, l⟩ := h.ex
  exact ⟨f, fd, ps, hm, h1, h2, F.mono hk, l⟩
/-- keywords, of a def that stands at the top -/
theorem DefOk.kw {P : Program} {w : World} {K : PySem.W.Frag} {mg : Str → Option Value} {base : Heap} {x : Str} {st : Stmt} {ps : List Str} {k np m : Nat} {ks : List Str} {ix : List Nat} {G : Fn} (D : DefOk P w K mg base x k np G) (FA : FunAt K mg x st ps)
    (hb : ∀ (kV doc pm : Value) (an : Option Addr) (cdv ct : Value) (us ws : List Value), us.length = m → ws.length = ks.length → bindArgs (PySem.W.fnOf x x (defArgs st) (defBody st) (defScope st) .none kV doc pm an cdv ct) ⟨us, ks.zip ws⟩ = pure (ps.zip (picks ix (us ++ ws ++ [])))) :
    DefOkX P w K mg base x k np m ks ix [] G := by
  obtain ⟨f, fd, ps', hm, h1, h2, F, oc0, od0, osl0, l0, e0⟩ := D.ex
  obtain ⟨f2, fd2, hm2, Fu, hb0⟩ := FA.ex
  rw [hm] at hm2; cases hm2
  obtain ⟨oc, od, kV, doc, pm, an, cdv, ct, osl, e, lk, hcd⟩ := Fu.ex
  rw [l0] at lk
  cases lk
  have e2 : ps' = ps := by rw [e0, FA.nm, e]
  subst e2
  exact ⟨f, _, ps', [], [], hm, Fu.kp, ⟨fun s us ws _ h1 h2 => .of_eq (by rw [e]; exact hb kV doc pm an cdv ct us ws h1 h2)⟩, .nil, .nil, F⟩
end VL

set_option maxHeartbeats 1000000
namespace VL
open PySem PySem.Spec PyProof.Rows L2

/-! ### from the defs to the law -/
def fnB (x : Str) : Fact := fun K => (He.Fa.glo x).ok K && PySem.W.isFn K (.ref (He.ga K x))
section
variable {fs : List Fact} {fn : List He.DefD} {P : Program} {w : World} {K : PySem.W.Frag} {h : Heap} {mg : Str → Option Value}
theorem glo_of {x : Str} (X : K.In h) (G : h.Ns mainGlobals mg) (c : SaysE fs fn K) (hf : glB x ∈ fs) : mg x = some (.ref (He.ga K x)) := He.glo_ok X G (c.fact hf)
theorem fre_of {x : Str} (X : K.In h) (G : h.Ns mainGlobals mg) (c : SaysE fs fn K) (hf : frB x ∈ fs) : mg x = none := He.free_ok X G (c.fact hf)
theorem int_of {x : Str} {i : Int} (X : K.In h) (G : h.Ns mainGlobals mg) (c : SaysE fs fn K) (hf : inB x i ∈ fs) : ∃ t, mg x = some (.int i t) := He.int_ok X G (c.fact hf)
theorem str_of {x z : Str} (X : K.In h) (G : h.Ns mainGlobals mg) (c : SaysE fs fn K) (hf : stB x z ∈ fs) : ∃ t, mg x = some (.str z t) := He.str_ok X G (c.fact hf)
theorem fun_of {x : Str} (X : K.In h) (G : h.Ns mainGlobals mg) (c : SaysE fs fn K) (hf : fnB x ∈ fs) : ∃ a, mg x = some (.ref a) ∧ PySem.W.isFn K (.ref a) = true := by
  have z := c.fact hf
  simp only [fnB, Bool.and_eq_true] at z
  exact ⟨_, He.glo_ok X G z.1, z.2⟩
theorem relC_none {H : Hp} : RelC K mg [] H [] H := ⟨fun _ _ e => e, rfl, List.nodup_nil, fun a m => (by cases m), fun k c e => (by simp at e)⟩
theorem fin_of {x : Str} {st : Stmt} {fa : Addr} {k n : Nat} {G : Fn} (KX : K.In h) (FA : FunAt K mg x st ["script"]) (hmg : mg x = some (.ref fa)) (D : ∀ base : Heap, K.In base → base.Ns mainGlobals mg → DefOk P w K mg base x k 1 G)
    (hb : ∀ (kV doc pm : Value) (an : Option Addr) (cdv ct : Value) (u : Value), bindArgs (PySem.W.fnOf x x (defArgs st) (defBody st) (defScope st) .none kV doc pm an cdv ct) ⟨[u], []⟩ = pure [(("script" : Str), u)])
    (hdat : ∀ ns : List Int, ns.length ≤ n → ∃ s', G [.d (.scr ns)] [] = .ok (.d (.bl true)) s') :
    ∃ (K : PySem.W.Frag) (fd : FuncData) (sp : Sp), K.In h ∧ (∀ (s : Shared) (u : Value), BindsTo s fd ⟨[u], []⟩ [("script", u)]) ∧
      (∀ (H : Hp) (a : Addr) (ns : List Int), ns.length ≤ n → Only H → SqL K H a (ns.map V.int) → sp [.ref a] H (fun v _ => v = .bl true) fun _ _ _ => False) ∧ ∀ base : Heap, K.In base → base.Ns mainGlobals mg → FnG P w K mg base k fa fd ["script"] sp := by
  obtain ⟨f, fd, hm, Fu, hb0⟩ := FA.ex
  rw [hm] at hmg; cases hmg
  obtain ⟨oc, od, kV, doc, pm, an, cdv, ct, osl, e, lk, hcd⟩ := Fu.ex
  refine ⟨K, fd, spOf K mg 1 G, KX, fun s u => .of_eq (by rw [e]; exact hb kV doc pm an cdv ct u), fun H a ns hl hO hS => ?_, fun base h1 h2 => ?_⟩
  · refine ⟨rfl, [.d (.scr ns)], [], [], H, relC_none, .cons (R.scr hS) .nil, ?_⟩
    obtain ⟨s', hs⟩ := hdat ns hl
    rw [hs]
    intro A' F' H' v _ _ _ hv
    cases hv
    rfl
  · obtain ⟨f2, fd2, ps, hm2, _, _, F, oc2, od2, osl2, l2, e2⟩ := (D base h1 h2).ex
    rw [hm] at hm2; cases hm2
    rw [lk] at l2
    cases l2
    have e3 : ps = ([("script" : Str)] : List Str) := by rw [e2, FA.nm, e]
    subst e3
    exact F
end
end VL

set_option maxHeartbeats 1000000
namespace VL
open PySem PySem.Spec PyProof.Rows L2

/-! ### a list by a comprehension that goes on to change -/
noncomputable def eLcC (vs : List Nat) (p : Pat) (fi : S → Out Src) (ft : S → Out Bool) (fe : S → Out W) (s : S) : Out W := (fi s).bind fun src s1 =>
  match lcLoop s1.ce.length s1.sl vs p src.kp ft fe src.ws (s1.ce ++ [some (.lst [])]) with
  | some ce => match ce[s1.ce.length]? with
    | some (some (.lst _)) => .ok (.c s1.ce.length) ⟨s1.sl, ce⟩
    | _ => .bad
  | none => .bad
section
variable {X : Cx} {W' : WX} {tg it elt : Expr} {fi : S → Out Src} {ft : S → Out Bool} {fe : S → Out W} {p : Pat} {pos : Pos}
theorem lcC_imp {K : PySem.W.Frag} {mg : Str → Option Value} {vs : List Nat} {σ : L2.St} {H : Hp} {Q : VK} (h : tE K mg W' (eLcC vs p fi ft fe) σ H Q) : tLc (tI K mg W' fi) (tG K mg p) (tT K mg W0 ft) (tE K mg W0 fe) vs σ H Q := by
  obtain ⟨s, A, F, r, q⟩ := h
  refine ⟨s, A, F, r, ?_⟩
  unfold eLcC at q
  revert q
  cases fi s with
  | bad => exact fun q => q
  | exc c ns ws s' => exact fun q => q
  | ok src s1 =>
    intro q A1 F1 H1 J a1 e1 r1 wk Dl hD
    simp only [Out.bind_ok] at q
    have hlen := r1.cs.len
    cases hlc : lcLoop s1.ce.length s1.sl vs p src.kp ft fe src.ws (s1.ce ++ [some (.lst [])]) with
    | none => rw [hlc] at q; exact q.elim
    | some ceE =>
    rw [hlc] at q
    simp only at q
    have px : A1 <+: A1 ++ [Dl] := List.prefix_append _ _
    have rD : Rel K mg (A1 ++ [Dl]) F1 ⟨s1.sl, s1.ce ++ [some (.lst [])]⟩ σ (upd H1 Dl (.lst [])) := r1.cells px (Ex.refl _) (r1.cs.cellNew hD ⟨[], upd_same, .nil⟩)
    have hkD : (A1 ++ [Dl])[s1.ce.length]? = some Dl := by rw [← hlen, List.getElem?_append_right (by omega)]; simp
    refine ⟨fun i m H => i ≤ src.ws.length ∧ m = src.ws.length - i ∧ ∃ ce A2 F2, A1 ++ [Dl] <+: A2 ∧ Ex F1 F2 ∧ Rel K mg A2 F2 ⟨s1.sl, ce⟩ σ H ∧ lcLoop s1.ce.length s1.sl vs p src.kp ft fe (src.ws.drop i) ce = some ceE,
      ⟨src.ws.length, Nat.zero_le _, by simp, _, A1 ++ [Dl], F1, List.prefix_refl _, Ex.refl _, rD, hlc⟩, ?_⟩
    rintro i m H2 ⟨hi', rfl, ce, A2, F2, a2, e2, r2, q2⟩
    have stay : Stay src.kp ce := by
      cases hd : src.ws.drop i with
      | nil =>
        rw [hd] at q2; unfold lcLoop at q2
        by_cases hs' : Stay src.kp ce
        · exact hs'
        · rw [if_neg hs'] at q2; cases q2
      | cons w rr =>
        rw [hd] at q2; unfold lcLoop at q2
        by_cases hs' : Stay src.kp ce
        · exact hs'
        · rw [if_neg hs'] at q2; cases q2
    obtain ⟨wg, wsn⟩ := wk A2 F2 ce H2 (px.trans a2) e2 r2.cs stay i
    by_cases hl : i < src.ws.length
    · right
      have hget : src.ws[i]? = some src.ws[i] := List.getElem?_eq_getElem hl
      obtain ⟨hgo, hy⟩ := wg _ hget
      refine ⟨hgo, fun H' => ∃ ce A3 F3, A1 ++ [Dl] <+: A3 ∧ Ex F1 F3 ∧ Rel K mg A3 F3 ⟨s1.sl, ce⟩ σ H' ∧ lcLoop s1.ce.length s1.sl vs p src.kp ft fe (src.ws.drop (i + 1)) ce = some ceE, fun H' h3 => ⟨_, by omega, by omega, rfl, h3⟩, fun x H' yl => ?_⟩
      obtain ⟨F3, e3, c3, w3⟩ := hy x H' yl
      rw [List.drop_eq_getElem_cons hl] at q2
      unfold lcLoop at q2
      rw [if_pos stay] at q2
      cases hb' : bindsI p src.ws[i] ce with
      | none => rw [hb'] at q2; cases q2
      | some bs =>
        rw [hb'] at q2
        simp only at q2
        by_cases hin : (bs.map (·.1)).all (fun i => decide (i ∈ vs)) = true
        · rw [if_pos hin] at q2
          refine ⟨ce, A2, F3, src.ws[i], bs, c3, w3, hb', fun us hu => ⟨?_, ?_⟩⟩
          · rw [wipe_setAll hin, wipe_wipe]
          have r3 : Rel K mg A2 F3 ⟨setSls (wipeS s1.sl vs) bs, ce⟩ (setAll (L2.wipe σ vs) (bs.map (·.1)) us) H' := by
            have r4 : Rel K mg A2 F3 ⟨wipeS s1.sl vs, ce⟩ (L2.wipe σ vs) H' := (Rel.slots r2 e3 c3).wipe vs
            exact r4.sets hu
          refine ⟨_, A2, F3, r3, ?_⟩
          revert q2
          cases ft ⟨setSls (wipeS s1.sl vs) bs, ce⟩ with
          | bad => intro q2; cases q2
          | exc => intro q2; cases q2
          | ok b s2 =>
          cases b with
          | false =>
            intro q2 A4 F4 H4 a4 e4 r4
            rw [if_neg Bool.false_ne_true]
            exact ⟨s2.ce, A4, F4, a2.trans a4, (e2.trans e3).trans e4, ⟨r4.cs, r1.sz, fun j w h => by
              obtain ⟨v, h1, h2⟩ := r1.slot j w h
              exact ⟨v, h1, h2.mono ((px.trans a2).trans a4) ((e2.trans e3).trans e4)⟩⟩, q2⟩
          | true =>
            intro q2 A4 F4 H4 a4 e4 r4
            rw [if_pos rfl]
            refine ⟨s2, A4, F4, r4, ?_⟩
            revert q2
            show (match fe s2 with | .ok (.d d) s3 => _ | _ => _) = some ceE → _
            cases fe s2 with
            | bad => intro q2; cases q2
            | exc => intro q2; cases q2
            | ok w s3 =>
            cases w with
            | c k => intro q2; cases q2
            | d d =>
              intro q2 A5 F5 H5 v a5 e5 r5 hv
              simp only at q2
              split at q2
              · rename_i acc hacc
                by_cases hz : acc.length < sizeLine
                · rw [if_pos hz] at q2
                  obtain ⟨b, h1, h2, as, h3, h4⟩ := r5.cs.cell _ _ hacc
                  have hDb : b = Dl := by
                    have pp := (a2.trans a4).trans a5
                    obtain ⟨t, rfl⟩ := pp
                    rw [List.getElem?_append_left (List.getElem?_eq_some_iff.mp hkD).1, hkD] at h1
                    cases h1; rfl
                  subst hDb
                  refine ⟨as, h3, by rw [h4.length]; exact hz, s3.ce.set s1.ce.length (some (.lst (acc ++ [.d d]))), A5, F5, (a2.trans a4).trans a5, ((e2.trans e3).trans e4).trans e5, ?_, q2⟩
                  have rc := r5.cs.put (o := .lst (as ++ [v])) (c' := .lst (acc ++ [.d d])) hacc h1 ⟨_, upd_same, h4.append (.cons hv .nil)⟩
                  exact ⟨rc, r1.sz, fun j w h => by
                    obtain ⟨v, h1, h2⟩ := r1.slot j w h
                    exact ⟨v, h1, h2.mono (((px.trans a2).trans a4).trans a5) (((e2.trans e3).trans e4).trans e5)⟩⟩
                · rw [if_neg hz] at q2; cases q2
              · cases q2
        · rw [if_neg hin] at q2; cases q2
    · left
      refine ⟨wsn (by omega), ?_⟩
      rw [List.drop_eq_nil_of_le (by omega)] at q2
      unfold lcLoop at q2
      rw [if_pos stay] at q2
      injection q2 with q2
      rw [← q2] at q
      split at q
      · rename_i acc hacc
        have hb : A2[s1.ce.length]? = some Dl := by
          obtain ⟨t, rfl⟩ := a2
          rw [List.getElem?_append_left (List.getElem?_eq_some_iff.mp hkD).1, hkD]
        exact q A2 F2 H2 _ (a1.trans (px.trans a2)) (e1.trans e2) ⟨r2.cs, r1.sz, fun j w h => by
          obtain ⟨v, h1, h2⟩ := r1.slot j w h
          exact ⟨v, h1, h2.mono (px.trans a2) e2⟩⟩ ⟨Dl, hb, rfl⟩
      · exact q.elim
theorem ve_lcC {ifs : List Expr} {scope : Scope} {own : List (Str × Nat)} (hc : X.calm = true) (hN : X.N.Nodup) (hi : VI X W' tg it fi) (ok : BlkOk X.N X.env.scope scope own)
    (hg : ∀ (s : Shared) (H : Hp) (C : Addr) (cl : List (Str × Addr)) (fp : List Addr), VG (X.blk s H scope (compEnvC scope cl C X.env) fp) tg p)
    (ht : ∀ (s : Shared) (H : Hp) (C : Addr) (cl : List (Str × Addr)) (fp : List Addr), VTs (X.blk s H scope (compEnvC scope cl C X.env) fp) W0 ifs ft)
    (he : ∀ (s : Shared) (H : Hp) (C : Addr) (cl : List (Str × Addr)) (fp : List Addr), VE (X.blk s H scope (compEnvC scope cl C X.env) fp) W0 elt fe)
    (hs : ∀ x, foldedSetIterable it X.env x = pure x := by intro _; rfl) :
    VE X W' (.ListComp elt [⟨tg, it, ifs, 0⟩] scope pos) (eLcC (own.map (·.2)) p fi ft fe) := by
  exact PE.imp (pe_lc (g := tG X.K X.mg p) (tt := tT X.K X.mg W0 ft) (te := tE X.K X.mg W0 fe) hc hN hi ok hg ht he hs) fun σ H Q h => lcC_imp h
theorem vs_setLcC (i : Nat) {y : Str} {py spos : Pos} {ifs : List Expr} {scope : Scope} {own : List (Str × Nat)} (hc : X.calm = true) (hN : X.N.Nodup) (hi : VI X W' tg it fi) (ok : BlkOk X.N X.env.scope scope own)
    (hg : ∀ (s : Shared) (H : Hp) (C : Addr) (cl : List (Str × Addr)) (fp : List Addr), VG (X.blk s H scope (compEnvC scope cl C X.env) fp) tg p)
    (ht : ∀ (s : Shared) (H : Hp) (C : Addr) (cl : List (Str × Addr)) (fp : List Addr), VTs (X.blk s H scope (compEnvC scope cl C X.env) fp) W0 ifs ft)
    (he : ∀ (s : Shared) (H : Hp) (C : Addr) (cl : List (Str × Addr)) (fp : List Addr), VE (X.blk s H scope (compEnvC scope cl C X.env) fp) W0 elt fe)
    (hy : X.N[i]? = some y := by rfl) (hyl : X.env.scope.names.lookup y = some .local := by rfl) (hsw : swapsWith (.ListComp elt [⟨tg, it, ifs, 0⟩] scope pos) (some (.Name y py)) spos.line X.env = pure true := by exact sw_true rfl rfl rfl (by decide +kernel))
    (hs : ∀ x, foldedSetIterable it X.env x = pure x := by intro _; rfl) :
    VS X W' (.Assign [.Name y py] (.ListComp elt [⟨tg, it, ifs, 0⟩] scope pos) spos) (fun s => (eLcC (own.map (·.2)) p fi ft fe s).then fun w s1 => .nx (setSl i w s1)) := by
  refine PS.imp (ps_setLc (g := tG X.K X.mg p) (tt := tT X.K X.mg W0 ft) (te := tE X.K X.mg W0 fe) hc hN hy hyl hsw hi ok hg ht he hs) fun De σ H h => ?_
  obtain ⟨s, A, F, r, q⟩ := h
  exact lcC_imp ⟨s, A, F, r, PostE.imp (PostE.thenS q) fun v H1 ⟨w, s1, A1, F1, a1, e1, r1, rw1, q1⟩ => q1 A1 F1 H1 _ (List.prefix_refl _) (Ex.refl _) (r1.set rw1 i)⟩
end
end VL

set_option maxHeartbeats 1000000
namespace VL
open PySem PySem.Spec PyProof.Rows L2

/-! ### reckoning on data -/
section
variable {s s' : S} {ce ce' : List (Option Cell)} {sl sl' : List (Option W)}
@[simp] theorem x_C {d : D} : eC d s = .ok (.d d) s := rfl
@[simp] theorem x_nil : aNil s = .ok [] s := rfl
theorem x_var {i : Nat} {w : W} (h : s.sl[i]? = some (some w)) : eVar i s = .ok w s := by unfold eVar; rw [h]
theorem seq_nx {f g : S → Fl} (h : f s = .nx s') : sSeq f g s = g s' := by unfold sSeq; rw [h]; rfl
theorem seq_rt {f g : S → Fl} {w : W} (h : f s = .rt w s') : sSeq f g s = .rt w s' := by unfold sSeq; rw [h]; rfl
theorem seq_exc {f g : S → Fl} {c : Str} {ns : List Str} {ws : List W} (h : f s = .exc c ns ws s') : sSeq f g s = .exc c ns ws s' := by unfold sSeq; rw [h]; rfl
theorem ret_ok {fa : S → Out W} {w : W} (h : fa s = .ok w s') : sRet fa s = .rt w s' := by unfold sRet; rw [h]; rfl
theorem set_ok {i : Nat} {fa : S → Out W} {w : W} (h : fa s = .ok w s') : sSet i fa s = .nx (setSl i w s') := by unfold sSet; rw [h]; rfl
theorem drop_ok {fa : S → Out W} {w : W} (h : fa s = .ok w s') : sDrop fa s = .nx s' := by unfold sDrop; rw [h]; rfl
theorem if_ok {c : S → Out Bool} {f g : S → Fl} {b : Bool} (h : c s = .ok b s') : sIf c f g s = if b = true then f s' else g s' := by unfold sIf; rw [h]; rfl
theorem call_ok {G : Fn} {fr : S → Out (List W)} {ws : List W} {w : W} {s1 : S} {xs : List (Option W)} {c2 : List (Option Cell)} (h : fr s = .ok ws s1) (h2 : G ws s1.ce = .ok w ⟨xs, c2⟩) : eCall G fr s = .ok w ⟨s1.sl, c2⟩ := by
  unfold eCall; rw [h]; simp only [Out.bind_ok]; rw [h2]
theorem call_exc {G : Fn} {fr : S → Out (List W)} {ws zs : List W} {c : Str} {ns : List Str} {s1 : S} {xs : List (Option W)} {c2 : List (Option Cell)} (h : fr s = .ok ws s1) (h2 : G ws s1.ce = .exc c ns zs ⟨xs, c2⟩) : eCall G fr s = .exc c ns zs ⟨s1.sl, c2⟩ := by
  unfold eCall; rw [h]; simp only [Out.bind_ok]; rw [h2]
theorem cons_ok {fa : S → Out W} {fr : S → Out (List W)} {w : W} {ws : List W} {s1 s2 : S} (h : fa s = .ok w s1) (h2 : fr s1 = .ok ws s2) : aCons fa fr s = .ok (w :: ws) s2 := by
  unfold aCons; rw [h]; simp only [Out.bind_ok]; rw [h2]; rfl
theorem arg1 {fa : S → Out W} {w : W} {s1 : S} (h : fa s = .ok w s1) : aCons fa aNil s = .ok [w] s1 := cons_ok h rfl
theorem arg2 {fa fb : S → Out W} {w v : W} {s1 s2 : S} (h : fa s = .ok w s1) (h2 : fb s1 = .ok v s2) : aCons fa (aCons fb aNil) s = .ok [w, v] s2 := cons_ok h (arg1 h2)
theorem op2_ok {o : P2} {fa fb : S → Out W} {x y : W} {s1 s2 : S} {d : D} (h : fa s = .ok x s1) (h2 : fb s1 = .ok y s2) (h3 : o s2.ce x y = some d) : eOp2 o fa fb s = .ok (.d d) s2 := by
  unfold eOp2; rw [h]; simp only [Out.bind_ok]; rw [h2]; simp only [Out.bind_ok]; rw [h3]; rfl
theorem opN_ok {o : PN} {fr : S → Out (List W)} {ws : List W} {s1 : S} {d : D} (h : fr s = .ok ws s1) (h3 : o s1.ce ws = some d) : eOpN o fr s = .ok (.d d) s1 := by
  unfold eOpN; rw [h]; simp only [Out.bind_ok]; rw [h3]; rfl
theorem ixZ_ok {fa fb : S → Out W} {x y w : W} {s1 s2 : S} (h : fa s = .ok x s1) (h2 : fb s1 = .ok y s2) (h3 : ixZ s2.ce x y = some w) : eIxZ fa fb s = .ok w s2 := by
  unfold eIxZ; rw [h]; simp only [Out.bind_ok]; rw [h2]; simp only [Out.bind_ok]; rw [h3]
theorem bOf_ok {fa : S → Out W} {b : Bool} (h : fa s = .ok (.d (.bl b)) s') : bOf fa s = .ok b s' := by unfold bOf; rw [h]; rfl
theorem bTru_ok {fa : S → Out W} {w : W} {b : Bool} (h : fa s = .ok w s') (h2 : (dat s'.ce w).bind truD = some b) : bTru fa s = .ok b s' := by unfold bTru; rw [h]; simp only [Out.bind_ok]; rw [h2]
theorem bTru_bl {fa : S → Out W} {b : Bool} (h : fa s = .ok (.d (.bl b)) s') : bTru fa s = .ok b s' := bTru_ok h rfl
theorem bNot_ok {fa : S → Out Bool} {b : Bool} (h : fa s = .ok b s') : bNot fa s = .ok (!b) s' := by unfold bNot; rw [h]; rfl
theorem bAnd_ok {fa fb : S → Out Bool} {b : Bool} (h : fa s = .ok b s') : bAnd fa fb s = if b = true then fb s' else .ok false s' := by unfold bAnd; rw [h]; rfl
theorem bOr_ok {fa fb : S → Out Bool} {b : Bool} (h : fa s = .ok b s') : bOr fa fb s = if b = true then .ok true s' else fb s' := by unfold bOr; rw [h]; rfl
theorem eIf_ok {c : S → Out Bool} {fa fb : S → Out W} {b : Bool} (h : c s = .ok b s') : eIf c fa fb s = if b = true then fa s' else fb s' := by unfold eIf; rw [h]; rfl
theorem eNot_ok {fa : S → Out W} {b : Bool} (h : fa s = .ok (.d (.bl b)) s') : eNot fa s = .ok (.d (.bl (!b))) s' := by unfold eNot; rw [h]; rfl
theorem eAnd_ok {fa fb : S → Out W} {b : Bool} (h : fa s = .ok (.d (.bl b)) s') : eAnd fa fb s = if b = true then fb s' else .ok (.d (.bl false)) s' := by unfold eAnd; rw [h]; rfl
theorem eOr_ok {fa fb : S → Out W} {b : Bool} (h : fa s = .ok (.d (.bl b)) s') : eOr fa fb s = if b = true then .ok (.d (.bl true)) s' else fb s' := by unfold eOr; rw [h]; rfl
theorem tup_ok {fr : S → Out (List W)} {ws : List W} {ds : List D} (h : fr s = .ok ws s') (h2 : datAll ws = some ds) (h3 : ds.length ≤ sizeLine) : eTup fr s = .ok (.d (.tup ds)) s' := by
  unfold eTup; rw [h]; simp only [Out.bind_ok]; rw [h2]; simp only; rw [if_pos h3]
theorem lst_ok {fr : S → Out (List W)} {ws : List W} {ds : List D} (h : fr s = .ok ws s') (h2 : datAll ws = some ds) (h3 : ds.length ≤ sizeLine) : eLst fr s = .ok (.d (.lst ds)) s' := by
  unfold eLst; rw [h]; simp only [Out.bind_ok]; rw [h2]; simp only; rw [if_pos h3]
theorem cell_ok {fr : S → Out (List W)} {ws : List W} (h : fr s = .ok ws s') (h3 : ws.length ≤ sizeLine) : eCell fr s = .ok (.c s'.ce.length) ⟨s'.sl, s'.ce ++ [some (.lst ws)]⟩ := by
  unfold eCell; rw [h]; simp only [Out.bind_ok]; rw [if_pos h3]
theorem isi_ok {own : List Str} {ys : List TZ} {fa : S → Out W} {w : W} {z : TZ} (h : fa s = .ok w s') (h2 : tyZ s'.ce w = some z) (h3 : ownZ own z = true) : eIsiZ own ys fa s = .ok (.d (.bl (ys.any (isZ z)))) s' := by
  unfold eIsiZ; rw [h]; simp only [Out.bind_ok]; rw [h2]; simp only; rw [if_pos h3]
theorem sl_ok {fa : S → Out W} {fl fh : S → Out (Option Int)} {w : W} {lo hi : Option Int} {d : D} {s1 s2 s3 : S} (h : fa s = .ok w s1) (h1 : fl s1 = .ok lo s2) (h2 : fh s2 = .ok hi s3) (h3 : (dat s3.ce w).bind (fSl lo hi) = some d) : eSl fa fl fh s = .ok (.d d) s3 := by
  unfold eSl; rw [h]; simp only [Out.bind_ok]; rw [h1]; simp only [Out.bind_ok]; rw [h2]; simp only [Out.bind_ok]; rw [h3]; rfl
theorem oSome_ok {fa : S → Out W} {i : Int} (h : fa s = .ok (.d (.int i)) s') : oSome fa s = .ok (some i) s' := by unfold oSome; rw [h]; rfl
@[simp] theorem x_oNone : oNone s = .ok none s := rfl
theorem op1_ok {o : List (Option Cell) → W → Option D} {fa : S → Out W} {x : W} {d : D} (h : fa s = .ok x s') (h3 : o s'.ce x = some d) : eOp1 o fa s = .ok (.d d) s' := by
  unfold eOp1; rw [h]; simp only [Out.bind_ok]; rw [h3]; rfl
theorem iSeq_ok {fa : S → Out W} {w : W} {src : Src} (h : fa s = .ok w s') (h2 : src1 w s'.ce = some src) : iSeq fa s = .ok src s' := by unfold iSeq; rw [h]; simp only [Out.bind_ok]; rw [h2]
theorem iRange_ok {fr : S → Out (List W)} {n : Nat} (h : fr s = .ok [.d (.int n)] s') (h2 : (n : Int) < 2 ^ 62) : iRange1 fr s = .ok ⟨(List.range n).map fun i : Nat => .w (.d (.int (i : Int))), []⟩ s' := by
  unfold iRange1
  rw [h, Out.bind_ok]
  split
  · rename_i m e
    have : m = (n : Int) := by
      injection e with e _
      injection e with e
      injection e with e
      exact e.symm
    subst this
    split
    · rw [Int.toNat_natCast]
    · rename_i q
      exact absurd ⟨by omega, h2⟩ q
  · rename_i q
    exact absurd rfl (q _)
theorem iZip_ok {fr : S → Out (List W)} {x y : W} {a b : List W} {p q : List (Nat × Cell)} (h : fr s = .ok [x, y] s') (h2 : seqW x s'.ce = some (a, p)) (h3 : seqW y s'.ce = some (b, q)) : iZip fr s = .ok ⟨(a.zip b).map fun p => .pr [p.1, p.2], p ++ q⟩ s' := by
  unfold iZip; rw [h]; simp only [Out.bind_ok]; rw [h2, h3]
theorem iEnum_ok {fr : S → Out (List W)} {x : W} {a : List W} {p : List (Nat × Cell)} (h : fr s = .ok [x] s') (h2 : seqW x s'.ce = some (a, p)) : iEnum fr s = .ok ⟨numFrom 0 a, p⟩ s' := by
  unfold iEnum; rw [h]; simp only [Out.bind_ok]; rw [h2]
theorem for_ok {p : Pat} {fi : S → Out Src} {body : S → Fl} {src : Src} (h : fi s = .ok src s') : sFor p fi body s = loopF p src.kp body src.ws s' := by unfold sFor; rw [h]; rfl
end

/-! ### cells that hold -/
def Ok (ce : List (Option Cell)) : Prop := Fits ce.length ce = true
theorem fitW_mono {n m : Nat} (h : n ≤ m) : ∀ {w : W}, fitW n w = true → fitW m w = true
  | .d _, _ => rfl
  | .c k, e => by
    have : k < n := of_decide_eq_true e
    exact decide_eq_true (by omega)
theorem all_mono {n m : Nat} (h : n ≤ m) {ws : List W} (e : ws.all (fitW n) = true) : ws.all (fitW m) = true := List.all_eq_true.mpr fun w hw => fitW_mono h (List.all_eq_true.mp e w hw)
theorem fitC_mono {n m : Nat} (h : n ≤ m) : ∀ {c : Option Cell}, fitC n c = true → fitC m c = true
  | none, _ => rfl
  | some (.lst _), e => all_mono h e
  | some (.dK _ _), e => all_mono h e
  | some (.dT _ _), e => all_mono h e
  | some (.ins _ _ _), e => all_mono h e
theorem Fits_app {n : Nat} {a b : List (Option Cell)} : Fits n (a ++ b) = (Fits n a && Fits n b) := by unfold Fits; rw [List.all_append]
theorem Fits_mono {n m : Nat} (h : n ≤ m) {a : List (Option Cell)} (e : Fits n a = true) : Fits m a = true := List.all_eq_true.mpr fun c hc => fitC_mono h (List.all_eq_true.mp e c hc)
theorem Fits_set {n : Nat} {a : List (Option Cell)} {k : Nat} {c : Option Cell} (e : Fits n a = true) (hc : fitC n c = true) : Fits n (a.set k c) = true := List.all_eq_true.mpr fun x hx => by
  rcases List.mem_or_eq_of_mem_set hx with h | h
  · exact List.all_eq_true.mp e x h
  · rw [h]; exact hc
theorem fit_ds {n : Nat} (ds : List D) : (ds.map W.d).all (fitW n) = true := by
  rw [List.all_map]; exact List.all_eq_true.mpr fun _ _ => rfl
theorem Ok.nil : Ok [] := rfl
theorem Ok.snoc {ce : List (Option Cell)} (h : Ok ce) {c : Option Cell} (hc : fitC (ce.length + 1) c = true) : Ok (ce ++ [c]) := by
  unfold Ok; rw [Fits_app, List.length_append]
  simp only [Bool.and_eq_true]
  refine ⟨Fits_mono (Nat.le_add_right _ _) h, ?_⟩
  unfold Fits; simp only [List.all_cons, List.all_nil, Bool.and_true]; exact hc
theorem Ok.snocD {ce : List (Option Cell)} (h : Ok ce) (ds : List D) : Ok (ce ++ [some (.lst (ds.map W.d))]) := h.snoc (fit_ds ds)
theorem Ok.set {ce : List (Option Cell)} (h : Ok ce) {k : Nat} {c : Option Cell} (hc : fitC ce.length c = true) : Ok (ce.set k c) := by
  unfold Ok; rw [List.length_set]; exact Fits_set h hc
theorem Ok.setD {ce : List (Option Cell)} (h : Ok ce) {k : Nat} (ds : List D) : Ok (ce.set k (some (.lst (ds.map W.d)))) := h.set (fit_ds ds)
theorem Ok.app {a b : List (Option Cell)} (h : Ok a) (hb : Fits (a.length + b.length) b = true) : Ok (a ++ b) := by
  unfold Ok; rw [Fits_app, List.length_append]
  simp only [Bool.and_eq_true]
  exact ⟨Fits_mono (Nat.le_add_right _ _) h, hb⟩
/-- the end of a def that keeps no cells of its own -/
theorem shut_rt {n : Nat} {s : S} {ce : List (Option Cell)} {d : D} (h1 : s.ce.take n = ce) (h2 : Fits n ce = true) : shut n (.rt (.d d) s) = .ok (.d d) ⟨[], ce⟩ := by
  unfold shut; simp only; rw [h1, if_pos ⟨h2, rfl⟩]
theorem shut_exc {n : Nat} {s : S} {ce : List (Option Cell)} {c : Str} {ns : List Str} {ds : List D} (h1 : s.ce.take n = ce) (h2 : Fits n ce = true) : shut n (.exc c ns (ds.map .d) s) = .exc c ns (ds.map .d) ⟨[], ce⟩ := by
  unfold shut; simp only; rw [h1, if_pos ⟨h2, fit_ds ds⟩]
theorem take_set_app {ce x : List (Option Cell)} {k : Nat} {c : Option Cell} : (ce.set k c ++ x).take ce.length = ce.set k c := by
  rw [List.take_append_of_le_length (by rw [List.length_set]; exact Nat.le_refl _), List.take_of_length_le (by rw [List.length_set]; exact Nat.le_refl _)]

/-! ### loops -/
theorem loopF_run {p : Pat} {kp : List (Nat × Cell)} {body : S → Fl} (J : List Itm → S → Prop) (hend : ∀ ws s, J ws s → Stay kp s.ce)
    (hstep : ∀ w r s, J (w :: r) s → ∃ bs s2, bindsI p w s.ce = some bs ∧ (body ⟨setSls s.sl bs, s.ce⟩ = .nx s2 ∨ body ⟨setSls s.sl bs, s.ce⟩ = .ct s2) ∧ J r s2) :
    ∀ (xs ys : List Itm) (s : S), J xs s → ∃ s', loopF p kp body (xs ++ ys) s = loopF p kp body ys s' ∧ J [] s'
  | [], ys, s, h => ⟨s, rfl, h⟩
  | w :: r, ys, s, h => by
    obtain ⟨bs, s2, hb, hbd, hj⟩ := hstep w r s h
    obtain ⟨s', h1, h2⟩ := loopF_run J hend hstep r ys s2 hj
    refine ⟨s', ?_, h2⟩
    rw [← h1, List.cons_append]
    show loopF p kp body (w :: (r ++ ys)) s = _
    conv => lhs; unfold loopF
    rw [if_pos (hend _ s h)]
    simp only [hb]
    rcases hbd with hbd | hbd <;> rw [hbd]
theorem loopF_all {p : Pat} {kp : List (Nat × Cell)} {body : S → Fl} (J : List Itm → S → Prop) (hend : ∀ ws s, J ws s → Stay kp s.ce)
    (hstep : ∀ w r s, J (w :: r) s → ∃ bs s2, bindsI p w s.ce = some bs ∧ (body ⟨setSls s.sl bs, s.ce⟩ = .nx s2 ∨ body ⟨setSls s.sl bs, s.ce⟩ = .ct s2) ∧ J r s2)
    (xs : List Itm) (s : S) (h : J xs s) : ∃ s', loopF p kp body xs s = .nx s' ∧ J [] s' := by
  obtain ⟨s', h1, h2⟩ := loopF_run J hend hstep xs [] s h
  rw [List.append_nil] at h1
  refine ⟨s', ?_, h2⟩
  rw [h1]; unfold loopF; rw [if_pos (hend _ s' h2)]
theorem loopW_run {c : S → Out Bool} {body : S → Fl} (J : Nat → S → Prop) (hstep : ∀ m s, J m s → (∃ s1, c s = .ok false s1 ∧ J 0 s1) ∨ ∃ m' s1 s2, m = m' + 1 ∧ c s = .ok true s1 ∧ (body s1 = .nx s2 ∨ body s1 = .ct s2) ∧ J m' s2) :
    ∀ (n m : Nat) (s : S), m < n → J m s → ∃ s0 s', c s0 = .ok false s' ∧ loopW c body n s = .nx s' ∧ J 0 s' ∧ (∃ m', J m' s0)
  | 0, m, s, h, _ => absurd h (Nat.not_lt_zero _)
  | n + 1, m, s, h, hj => by
    rcases hstep m s hj with ⟨s1, h1, h2⟩ | ⟨m', s1, s2, rfl, h1, h2, h3⟩
    · refine ⟨s, s1, h1, ?_, h2, m, hj⟩
      unfold loopW; rw [h1]; rfl
    · obtain ⟨s0, s', e0, e1, e2, e3⟩ := loopW_run J hstep n m' s2 (by omega) h3
      refine ⟨s0, s', e0, ?_, e2, e3⟩
      unfold loopW; rw [h1]
      simp only [Out.then, if_true]
      rcases h2 with h2 | h2 <;> rw [h2] <;> exact e1

/-! ### comprehensions -/
/-- one item's worth: none where it is left out -/
def LStep (sl : List (Option W)) (vs : List Nat) (ft : S → Out Bool) (fe : S → Out W) (bs : List (Nat × W)) (c c' : List (Option Cell)) : Option D → Prop
  | none => ∃ s2, ft ⟨setSls (wipeS sl vs) bs, c⟩ = .ok false s2 ∧ s2.ce = c'
  | some d => ∃ s2 s3, ft ⟨setSls (wipeS sl vs) bs, c⟩ = .ok true s2 ∧ fe s2 = .ok (.d d) s3 ∧ s3.ce = c'
inductive Each {α β : Type} (Q : α → β → Prop) : List α → List β → Prop
  | nil : Each Q [] []
  | cons {a as b bs} : Q a b → Each Q as bs → Each Q (a :: as) (b :: bs)
def somes {α : Type} : List (Option α) → List α
  | [] => []
  | none :: r => somes r
  | some x :: r => x :: somes r
theorem lcLoop_run {T : Type} {L : Nat} {sl : List (Option W)} {vs : List Nat} {p : Pat} {kp : List (Nat × Cell)} {ft : S → Out Bool} {fe : S → Out W} (C : T → List (Option Cell)) (hL : ∀ t, (C t).length = L)
    (hst : ∀ t (acc : List D), Stay kp (C t ++ [some (.lst (acc.map .d))])) (I : Nat → T → Prop) (Q : Itm → Option D → Prop) (M : Nat) :
    ∀ (ws : List Itm) (i : Nat) (t : T) (acc : List D), i + ws.length ≤ M → (∀ w ∈ ws, ∀ i t (acc : List D), i < M → I i t → ∃ bs o t', bindsI p w (C t ++ [some (.lst (acc.map .d))]) = some bs ∧ (bs.map (·.1)).all (fun i => decide (i ∈ vs)) = true ∧ I (i + 1) t' ∧ Q w o ∧
        LStep sl vs ft fe bs (C t ++ [some (.lst (acc.map .d))]) (C t' ++ [some (.lst (acc.map .d))]) o) → I i t → acc.length + ws.length ≤ sizeLine →
      ∃ os t', lcLoop L sl vs p kp ft fe ws (C t ++ [some (.lst (acc.map .d))]) = some (C t' ++ [some (.lst ((acc ++ somes os).map .d))]) ∧ I (i + ws.length) t' ∧ Each Q ws os
  | [], i, t, acc, _, _, hi, _ => ⟨[], t, by unfold lcLoop; rw [if_pos (hst t acc)]; simp [somes], hi, .nil⟩
  | w :: r, i, t, acc, hM, hs, hi, hz => by
    simp only [List.length_cons] at hM
    obtain ⟨bs, o, t', hb, hv, hi', hq, hst'⟩ := hs w List.mem_cons_self i t acc (by omega) hi
    have hrest := fun w' hw' => hs w' (List.mem_cons_of_mem w hw')
    simp only [List.length_cons] at hz
    cases o with
    | none =>
      obtain ⟨s2, h1, h2⟩ := hst'
      obtain ⟨os, t2, e1, e2, e3⟩ := lcLoop_run C hL hst I Q M r (i + 1) t' acc (by omega) hrest hi' (by omega)
      refine ⟨none :: os, t2, ?_, by rw [List.length_cons, show i + (r.length + 1) = i + 1 + r.length by omega]; exact e2, .cons hq e3⟩
      unfold lcLoop
      rw [if_pos (hst t acc)]
      simp only [hb]
      rw [if_pos hv, h1]
      simp only [h2]
      exact e1
    | some d =>
      obtain ⟨s2, s3, h1, h2, h3⟩ := hst'
      obtain ⟨os, t2, e1, e2, e3⟩ := lcLoop_run C hL hst I Q M r (i + 1) t' (acc ++ [d]) (by omega) hrest hi' (by rw [List.length_append]; simp only [List.length_cons, List.length_nil]; omega)
      refine ⟨some d :: os, t2, ?_, by rw [List.length_cons, show i + (r.length + 1) = i + 1 + r.length by omega]; exact e2, .cons hq e3⟩
      unfold lcLoop
      rw [if_pos (hst t acc)]
      simp only [hb]
      rw [if_pos hv, h1]
      simp only [h2, h3]
      have hk : (C t' ++ [some (Cell.lst (acc.map .d))])[L]? = some (some (.lst (acc.map .d))) := by
        rw [← hL t', List.getElem?_append_right (Nat.le_refl _)]; simp
      rw [hk]
      simp only
      rw [if_pos (by rw [List.length_map]; omega)]
      have hset : (C t' ++ [some (Cell.lst (acc.map .d))]).set L (some (.lst (acc.map .d ++ [.d d]))) = C t' ++ [some (.lst ((acc ++ [d]).map .d))] := by
        rw [← hL t', List.set_append_right _ _ (Nat.le_refl _)]; simp
      rw [hset, e1]
      simp [somes]
theorem eLc_run {T : Type} {s : S} {src : Src} {vs : List Nat} {p : Pat} {fi : S → Out Src} {ft : S → Out Bool} {fe : S → Out W} {sl : List (Option W)} (C : T → List (Option Cell)) (t : T) (hi : fi s = .ok src ⟨sl, C t⟩) (hL : ∀ t', (C t').length = (C t).length)
    (hst : ∀ t (acc : List D), Stay src.kp (C t ++ [some (.lst (acc.map .d))])) (I : Nat → T → Prop) (Q : Itm → Option D → Prop)
    (hs : ∀ w ∈ src.ws, ∀ i t (acc : List D), i < src.ws.length → I i t → ∃ bs o t', bindsI p w (C t ++ [some (.lst (acc.map .d))]) = some bs ∧ (bs.map (·.1)).all (fun i => decide (i ∈ vs)) = true ∧ I (i + 1) t' ∧ Q w o ∧
        LStep sl vs ft fe bs (C t ++ [some (.lst (acc.map .d))]) (C t' ++ [some (.lst (acc.map .d))]) o) (h0 : I 0 t) (hz : src.ws.length ≤ sizeLine) (hok : ∀ t', I src.ws.length t' → Ok (C t')) :
    ∃ os t', eLc vs p fi ft fe s = .ok (.d (.lst (somes os))) ⟨sl, C t'⟩ ∧ I src.ws.length t' ∧ Each Q src.ws os := by
  obtain ⟨os, t', e1, e2, e3⟩ := lcLoop_run (L := (C t).length) C (fun t' => hL t') hst I Q src.ws.length src.ws 0 t [] (by omega) hs h0 (by simpa using hz)
  rw [Nat.zero_add] at e2
  refine ⟨os, t', ?_, e2, e3⟩
  unfold eLc
  rw [hi]
  simp only [Out.bind_ok]
  rw [show ([some (Cell.lst [])] : List (Option Cell)) = [some (.lst (([] : List D).map .d))] from rfl, e1]
  simp only [List.nil_append]
  have hk : (C t' ++ [some (Cell.lst ((somes os).map .d))])[(C t).length]? = some (some (.lst ((somes os).map .d))) := by
    rw [← hL t', List.getElem?_append_right (Nat.le_refl _)]; simp
  rw [hk]
  simp only [datAll_map]
  unfold dropDead
  have ht : (C t' ++ [some (Cell.lst ((somes os).map .d))]).take (C t).length = C t' := by rw [← hL t', List.take_left' rfl]
  rw [ht, if_pos ⟨by rw [List.length_append, hL t']; rfl, by have := hok t' e2; unfold Ok at this; rw [hL t'] at this; exact this⟩]
theorem eLcC_run {T : Type} {s : S} {src : Src} {vs : List Nat} {p : Pat} {fi : S → Out Src} {ft : S → Out Bool} {fe : S → Out W} {sl : List (Option W)} (C : T → List (Option Cell)) (t : T) (hi : fi s = .ok src ⟨sl, C t⟩) (hL : ∀ t', (C t').length = (C t).length)
    (hst : ∀ t (acc : List D), Stay src.kp (C t ++ [some (.lst (acc.map .d))])) (I : Nat → T → Prop) (Q : Itm → Option D → Prop)
    (hs : ∀ w ∈ src.ws, ∀ i t (acc : List D), i < src.ws.length → I i t → ∃ bs o t', bindsI p w (C t ++ [some (.lst (acc.map .d))]) = some bs ∧ (bs.map (·.1)).all (fun i => decide (i ∈ vs)) = true ∧ I (i + 1) t' ∧ Q w o ∧
        LStep sl vs ft fe bs (C t ++ [some (.lst (acc.map .d))]) (C t' ++ [some (.lst (acc.map .d))]) o) (h0 : I 0 t) (hz : src.ws.length ≤ sizeLine) :
    ∃ os t', eLcC vs p fi ft fe s = .ok (.c (C t).length) ⟨sl, C t' ++ [some (.lst ((somes os).map .d))]⟩ ∧ I src.ws.length t' ∧ Each Q src.ws os := by
  obtain ⟨os, t', e1, e2, e3⟩ := lcLoop_run (L := (C t).length) C (fun t' => hL t') hst I Q src.ws.length src.ws 0 t [] (by omega) hs h0 (by simpa using hz)
  rw [Nat.zero_add] at e2
  refine ⟨os, t', ?_, e2, e3⟩
  unfold eLcC
  rw [hi]
  simp only [Out.bind_ok]
  rw [show ([some (Cell.lst [])] : List (Option Cell)) = [some (.lst (([] : List D).map .d))] from rfl, e1]
  simp only [List.nil_append]
  have hk : (C t' ++ [some (Cell.lst ((somes os).map .d))])[(C t).length]? = some (some (.lst ((somes os).map .d))) := by
    rw [← hL t', List.getElem?_append_right (Nat.le_refl _)]; simp
  rw [hk]
/-- a comprehension that changes no cell -/
theorem eLc_pure {s : S} {src : Src} {vs : List Nat} {p : Pat} {fi : S → Out Src} {ft : S → Out Bool} {fe : S → Out W} {sl : List (Option W)} {ce : List (Option Cell)} (hi : fi s = .ok src ⟨sl, ce⟩) (g : Itm → Option D)
    (hst : ∀ (acc : List D), Stay src.kp (ce ++ [some (.lst (acc.map .d))]))
    (hs : ∀ w ∈ src.ws, ∀ c : List (Option Cell), (∃ acc : List D, c = ce ++ [some (.lst (acc.map .d))]) → ∃ bs, bindsI p w c = some bs ∧ (bs.map (·.1)).all (fun i => decide (i ∈ vs)) = true ∧ LStep sl vs ft fe bs c c (g w)) (hz : src.ws.length ≤ sizeLine) (hok : Ok ce) :
    eLc vs p fi ft fe s = .ok (.d (.lst (somes (src.ws.map g)))) ⟨sl, ce⟩ := by
  obtain ⟨os, t', e1, e2, e3⟩ := eLc_run (T := Unit) (fun _ => ce) () hi (fun _ => rfl) (fun _ => hst) (fun _ _ => True) (fun w o => o = g w) (fun w hw i t acc _ _ => by
    obtain ⟨bs, h1, h2, h3⟩ := hs w hw _ ⟨acc, rfl⟩
    exact ⟨bs, g w, (), h1, h2, trivial, rfl, h3⟩) trivial hz (fun _ _ => hok)
  have : os = src.ws.map g := by
    clear e1 e2 hs hz hi hst
    generalize src.ws = xs at e3
    induction e3 with
    | nil => rfl
    | cons h _ ih => rw [h, ih]; rfl
  rw [e1, this]
theorem somes_map {α β : Type} (f : α → β) : ∀ xs : List α, somes (xs.map fun x => some (f x)) = xs.map f
  | [] => rfl
  | x :: r => by simp only [List.map_cons, somes, somes_map f r]
end VL

set_option maxHeartbeats 2000000
namespace G
open PySem PySem.Spec PyProof.Rows L2 VL
/-- the top's statements by place -/
def top (i : Nat) : Stmt := PySem.Challenge.pw_anyprice_k01_rows_and_costs.main.body.getD i (.Pass ⟨0, 0, 0, 0⟩)
def sub (i j : Nat) : Stmt := match top i with
  | .ClassDef (body := b) .. => b.getD j (.Pass ⟨0, 0, 0, 0⟩)
  | s => s

abbrev EC : List Str := ["BadSorts", "BadRule", "BadAmount", "BadAmounts", "BadPrices"]
abbrev RF : Nat := 12
abbrev OWN : List Str := ["Program"]
/-! _wall -/
abbrev N__wall : List Str := ["k"]
abbrev s__wall : Stmt := top 0
theorem sc__wall : FnScope N__wall ["k"] (defScope s__wall) := ⟨rfl, rfl, rfl, by decide +kernel, rfl, by decide +kernel, by decide +kernel⟩
noncomputable def b__wall (n : Nat) : S → Fl := (loopW (bTru (eC (.bl true))) sNext n)
noncomputable def F__wall (n : Nat) : Fn := fun ws ce => shut ce.length (b__wall n (entry 1 ws ce))
theorem ok__wall {P : Program} {w : World} {K : PySem.W.Frag} {mg : Str → Option Value} {base : Heap} (n : Nat) (FA : FunAt K mg "_wall" s__wall ["k"])  :
    DefOk P w K mg base "_wall" (0 + 1) 1 (F__wall n) := by
  refine def_ok (k := 0) (body := b__wall n) FA sc__wall shut (.inl rfl) fun f cdv A outer s H E hr => ?_
  have tk : Takes (cxOf (L2.CX P w) P w K mg base N__wall "_wall" (defScope s__wall) f cdv A outer s H E) (fun c d _ H => E c d H) := takes_of rfl rfl rfl rfl
  have hp : PassesOwn (model P w) (A.deeper (envOfC "_wall" (defScope s__wall) s.heap.objs.size f cdv)) (envOfC "_wall" (defScope s__wall) s.heap.objs.size f cdv) (cxOf (L2.CX P w) P w K mg base N__wall "_wall" (defScope s__wall) f cdv A outer s H E).xe := passes_of (X := cxOf (L2.CX P w) P w K mg base N__wall "_wall" (defScope s__wall) f cdv A outer s H E) rfl
  have nd : (N__wall).Nodup := sc__wall.nd
  exact (vss_one (vs_while n hp (vt_tru ve_bl) (vss_one vs_pass)))
/-! is_int -/
abbrev N_is_int : List Str := ["thing"]
abbrev s_is_int : Stmt := top 12
theorem sc_is_int : FnScope N_is_int ["thing"] (defScope s_is_int) := ⟨rfl, rfl, rfl, by decide +kernel, rfl, by decide +kernel, by decide +kernel⟩
noncomputable def b_is_int (n : Nat) : S → Fl := (sRet (eAnd (eIsiZ OWN [.inl "int"] (eVar 0)) (eNot (eIsiZ OWN [.inl "bool"] (eVar 0)))))
noncomputable def F_is_int (n : Nat) : Fn := fun ws ce => shut ce.length (b_is_int n (entry 1 ws ce))
theorem ok_is_int {P : Program} {w : World} {K : PySem.W.Frag} {mg : Str → Option Value} {base : Heap} (n : Nat) (FA : FunAt K mg "is_int" s_is_int ["thing"]) (n_bool : mg "bool" = none) (n_int : mg "int" = none) (n_isinstance : mg "isinstance" = none) (IT : IsTab K mg OWN) :
    DefOk P w K mg base "is_int" (0 + 1) 1 (F_is_int n) := by
  refine def_ok (k := 0) (body := b_is_int n) FA sc_is_int shut (.inl rfl) fun f cdv A outer s H E hr => ?_
  have tk : Takes (cxOf (L2.CX P w) P w K mg base N_is_int "is_int" (defScope s_is_int) f cdv A outer s H E) (fun c d _ H => E c d H) := takes_of rfl rfl rfl rfl
  have hp : PassesOwn (model P w) (A.deeper (envOfC "is_int" (defScope s_is_int) s.heap.objs.size f cdv)) (envOfC "is_int" (defScope s_is_int) s.heap.objs.size f cdv) (cxOf (L2.CX P w) P w K mg base N_is_int "is_int" (defScope s_is_int) f cdv A outer s H E).xe := passes_of (X := cxOf (L2.CX P w) P w K mg base N_is_int "is_int" (defScope s_is_int) f cdv A outer s H E) rfl
  have nd : (N_is_int).Nodup := sc_is_int.nd
  exact (vss_one (vs_ret (ve_and (ve_isi1 (y := .inl "int") (cv := .ty "int") IT (by decide) n_isinstance (ve_var 0) (pe_bltn (v := .ty "int") rfl n_int bt_int rfl) rfl) (ve_one (ve_not (ve_isi1 (y := .inl "bool") (cv := .ty "bool") IT (by decide) n_isinstance (ve_var 0) (pe_bltn (v := .ty "bool") rfl n_bool bt_bool rfl) rfl))))))
/-! is_int_from -/
abbrev N_is_int_from : List Str := ["thing", "least"]
abbrev s_is_int_from : Stmt := top 13
theorem sc_is_int_from : FnScope N_is_int_from ["thing", "least"] (defScope s_is_int_from) := ⟨rfl, rfl, rfl, by decide +kernel, rfl, by decide +kernel, by decide +kernel⟩
noncomputable def b_is_int_from (n : Nat) : S → Fl := (sRet (eAnd (eCall (F_is_int n) (aCons (eVar 0) aNil)) (eOp2 (two fGe) (eVar 0) (eVar 1))))
noncomputable def F_is_int_from (n : Nat) : Fn := fun ws ce => shut ce.length (b_is_int_from n (entry 2 ws ce))
theorem ok_is_int_from {P : Program} {w : World} {K : PySem.W.Frag} {mg : Str → Option Value} {base : Heap} (n : Nat) (FA : FunAt K mg "is_int_from" s_is_int_from ["thing", "least"]) (D_is_int : DefOk P w K mg base "is_int" 1 1 (F_is_int n)) :
    DefOk P w K mg base "is_int_from" (1 + 1) 2 (F_is_int_from n) := by
  refine def_ok (k := 1) (body := b_is_int_from n) FA sc_is_int_from shut (.inl rfl) fun f cdv A outer s H E hr => ?_
  have tk : Takes (cxOf (L2.CX P w) P w K mg base N_is_int_from "is_int_from" (defScope s_is_int_from) f cdv A outer s H E) (fun c d _ H => E c d H) := takes_of rfl rfl rfl rfl
  have hp : PassesOwn (model P w) (A.deeper (envOfC "is_int_from" (defScope s_is_int_from) s.heap.objs.size f cdv)) (envOfC "is_int_from" (defScope s_is_int_from) s.heap.objs.size f cdv) (cxOf (L2.CX P w) P w K mg base N_is_int_from "is_int_from" (defScope s_is_int_from) f cdv A outer s H E).xe := passes_of (X := cxOf (L2.CX P w) P w K mg base N_is_int_from "is_int_from" (defScope s_is_int_from) f cdv A outer s H E) rfl
  have nd : (N_is_int_from).Nodup := sc_is_int_from.nd
  exact (vss_one (vs_ret (ve_and (ve_callD D_is_int hr tk (va_cons (ve_var 0) va_nil) (.cons .nil)) (ve_one (ve_cmp o_ge (ve_var 0) (ve_var 1))))))
/-! is_list -/
abbrev N_is_list : List Str := ["thing"]
abbrev s_is_list : Stmt := top 14
theorem sc_is_list : FnScope N_is_list ["thing"] (defScope s_is_list) := ⟨rfl, rfl, rfl, by decide +kernel, rfl, by decide +kernel, by decide +kernel⟩
noncomputable def b_is_list (n : Nat) : S → Fl := (sRet (eIsiZ OWN [.inl "list", .inl "tuple"] (eVar 0)))
noncomputable def F_is_list (n : Nat) : Fn := fun ws ce => shut ce.length (b_is_list n (entry 1 ws ce))
theorem ok_is_list {P : Program} {w : World} {K : PySem.W.Frag} {mg : Str → Option Value} {base : Heap} (n : Nat) (FA : FunAt K mg "is_list" s_is_list ["thing"]) (n_isinstance : mg "isinstance" = none) (n_list : mg "list" = none) (n_tuple : mg "tuple" = none) (IT : IsTab K mg OWN) :
    DefOk P w K mg base "is_list" (0 + 1) 1 (F_is_list n) := by
  refine def_ok (k := 0) (body := b_is_list n) FA sc_is_list shut (.inl rfl) fun f cdv A outer s H E hr => ?_
  have tk : Takes (cxOf (L2.CX P w) P w K mg base N_is_list "is_list" (defScope s_is_list) f cdv A outer s H E) (fun c d _ H => E c d H) := takes_of rfl rfl rfl rfl
  have hp : PassesOwn (model P w) (A.deeper (envOfC "is_list" (defScope s_is_list) s.heap.objs.size f cdv)) (envOfC "is_list" (defScope s_is_list) s.heap.objs.size f cdv) (cxOf (L2.CX P w) P w K mg base N_is_list "is_list" (defScope s_is_list) f cdv A outer s H E).xe := passes_of (X := cxOf (L2.CX P w) P w K mg base N_is_list "is_list" (defScope s_is_list) f cdv A outer s H E) rfl
  have nd : (N_is_list).Nodup := sc_is_list.nd
  exact (vss_one (vs_ret (ve_isiN (ys := [.inl "list", .inl "tuple"]) (cvs := [.ty "list", .ty "tuple"]) IT (by decide) (by decide) n_isinstance (ve_var 0) (pa_cons (pe_bltn (v := .ty "list") rfl n_list bt_list rfl) (pa_cons (pe_bltn (v := .ty "tuple") rfl n_tuple bt_tuple rfl) pa_nil)) (.cons rfl (.cons rfl .nil)))))
/-! is_list_of -/
abbrev N_is_list_of : List Str := ["thing", "many"]
abbrev s_is_list_of : Stmt := top 15
theorem sc_is_list_of : FnScope N_is_list_of ["thing", "many"] (defScope s_is_list_of) := ⟨rfl, rfl, rfl, by decide +kernel, rfl, by decide +kernel, by decide +kernel⟩
noncomputable def b_is_list_of (n : Nat) : S → Fl := (sRet (eAnd (eCall (F_is_list n) (aCons (eVar 0) aNil)) (eOp2 (two fEq) (eOpN lenN (aCons (eVar 0) aNil)) (eVar 1))))
noncomputable def F_is_list_of (n : Nat) : Fn := fun ws ce => shut ce.length (b_is_list_of n (entry 2 ws ce))
theorem ok_is_list_of {P : Program} {w : World} {K : PySem.W.Frag} {mg : Str → Option Value} {base : Heap} (n : Nat) (FA : FunAt K mg "is_list_of" s_is_list_of ["thing", "many"]) (n_len : mg "len" = none) (D_is_list : DefOk P w K mg base "is_list" 1 1 (F_is_list n)) :
    DefOk P w K mg base "is_list_of" (1 + 1) 2 (F_is_list_of n) := by
  refine def_ok (k := 1) (body := b_is_list_of n) FA sc_is_list_of shut (.inl rfl) fun f cdv A outer s H E hr => ?_
  have tk : Takes (cxOf (L2.CX P w) P w K mg base N_is_list_of "is_list_of" (defScope s_is_list_of) f cdv A outer s H E) (fun c d _ H => E c d H) := takes_of rfl rfl rfl rfl
  have hp : PassesOwn (model P w) (A.deeper (envOfC "is_list_of" (defScope s_is_list_of) s.heap.objs.size f cdv)) (envOfC "is_list_of" (defScope s_is_list_of) s.heap.objs.size f cdv) (cxOf (L2.CX P w) P w K mg base N_is_list_of "is_list_of" (defScope s_is_list_of) f cdv A outer s H E).xe := passes_of (X := cxOf (L2.CX P w) P w K mg base N_is_list_of "is_list_of" (defScope s_is_list_of) f cdv A outer s H E) rfl
  have nd : (N_is_list_of).Nodup := sc_is_list_of.nd
  exact (vss_one (vs_ret (ve_and (ve_callD D_is_list hr tk (va_cons (ve_var 0) va_nil) (.cons .nil)) (ve_one (ve_cmp (o_eq (hu64 hr)) (ve_callB (b_lenN) rfl n_len bt_len (va_cons (ve_var 0) va_nil)) (ve_var 1))))))
/-! is_amount_of -/
abbrev N_is_amount_of : List Str := ["thing", "many", "number"]
abbrev s_is_amount_of : Stmt := top 16
theorem sc_is_amount_of : FnScope N_is_amount_of ["thing", "many"] (defScope s_is_amount_of) := ⟨rfl, rfl, rfl, by decide +kernel, rfl, by decide +kernel, by decide +kernel⟩
noncomputable def b_is_amount_of (n : Nat) : S → Fl := (sRet (eAnd (eCall (F_is_list_of n) (aCons (eVar 0) (aCons (eVar 1) aNil))) (eOpN (one fAll) (aCons (eLc [2] (.nm 2) (iSeq (eVar 0)) bYes (eCall (F_is_int_from n) (aCons (eVar 2) (aCons (eC (.int 0)) aNil)))) aNil))))
noncomputable def F_is_amount_of (n : Nat) : Fn := fun ws ce => shut ce.length (b_is_amount_of n (entry 3 ws ce))
theorem ok_is_amount_of {P : Program} {w : World} {K : PySem.W.Frag} {mg : Str → Option Value} {base : Heap} (n : Nat) (FA : FunAt K mg "is_amount_of" s_is_amount_of ["thing", "many"]) (n_all : mg "all" = none) (D_is_list_of : DefOk P w K mg base "is_list_of" 2 2 (F_is_list_of n)) (D_is_int_from : DefOk P w K mg base "is_int_from" 2 2 (F_is_int_from n)) :
    DefOk P w K mg base "is_amount_of" (2 + 1) 2 (F_is_amount_of n) := by
  refine def_ok (k := 2) (body := b_is_amount_of n) FA sc_is_amount_of shut (.inl rfl) fun f cdv A outer s H E hr => ?_
  have tk : Takes (cxOf (L2.CX P w) P w K mg base N_is_amount_of "is_amount_of" (defScope s_is_amount_of) f cdv A outer s H E) (fun c d _ H => E c d H) := takes_of rfl rfl rfl rfl
  have hp : PassesOwn (model P w) (A.deeper (envOfC "is_amount_of" (defScope s_is_amount_of) s.heap.objs.size f cdv)) (envOfC "is_amount_of" (defScope s_is_amount_of) s.heap.objs.size f cdv) (cxOf (L2.CX P w) P w K mg base N_is_amount_of "is_amount_of" (defScope s_is_amount_of) f cdv A outer s H E).xe := passes_of (X := cxOf (L2.CX P w) P w K mg base N_is_amount_of "is_amount_of" (defScope s_is_amount_of) f cdv A outer s H E) rfl
  have nd : (N_is_amount_of).Nodup := sc_is_amount_of.nd
  exact (vss_one (vs_ret (ve_and (ve_callD D_is_list_of hr tk (va_cons (ve_var 0) (va_cons (ve_var 1) va_nil)) (.cons (.cons .nil))) (ve_one (ve_callB (b_all rfl) rfl n_all bt_all (va_cons (ve_lc (own := [("number", 2)]) rfl nd (vi_seq (ve_var 0)) (blkOk_by (N := N_is_amount_of) (sc := (defScope s_is_amount_of)) (by decide +kernel)) (fun _ _ _ _ _ => (vg_nm nd)) (fun _ _ _ _ _ => vts_nil) (fun _ _ _ _ _ => (ve_callD D_is_int_from hr VL.takes0 (va_cons (ve_var 2) (va_cons ve_int va_nil)) (.cons (.cons .nil))))) va_nil))))))
/-! is_amount -/
abbrev N_is_amount : List Str := ["thing"]
abbrev s_is_amount : Stmt := top 17
theorem sc_is_amount : FnScope N_is_amount ["thing"] (defScope s_is_amount) := ⟨rfl, rfl, rfl, by decide +kernel, rfl, by decide +kernel, by decide +kernel⟩
noncomputable def b_is_amount (n : Nat) : S → Fl := (sRet (eAnd (eCall (F_is_list n) (aCons (eVar 0) aNil)) (eAnd (eChain (two fLe) (two fLe) (eC (.int 1)) (eOpN lenN (aCons (eVar 0) aNil)) (eC (.int 3))) (eCall (F_is_amount_of n) (aCons (eVar 0) (aCons (eOpN lenN (aCons (eVar 0) aNil)) aNil))))))
noncomputable def F_is_amount (n : Nat) : Fn := fun ws ce => shut ce.length (b_is_amount n (entry 1 ws ce))
theorem ok_is_amount {P : Program} {w : World} {K : PySem.W.Frag} {mg : Str → Option Value} {base : Heap} (n : Nat) (FA : FunAt K mg "is_amount" s_is_amount ["thing"]) (n_len : mg "len" = none) (k_MOST_RESOURCES : ∃ t, mg "MOST_RESOURCES" = some (.int 3 t)) (D_is_list : DefOk P w K mg base "is_list" 1 1 (F_is_list n)) (D_is_amount_of : DefOk P w K mg base "is_amount_of" 3 2 (F_is_amount_of n)) :
    DefOk P w K mg base "is_amount" (3 + 1) 1 (F_is_amount n) := by
  refine def_ok (k := 3) (body := b_is_amount n) FA sc_is_amount shut (.inl rfl) fun f cdv A outer s H E hr => ?_
  have tk : Takes (cxOf (L2.CX P w) P w K mg base N_is_amount "is_amount" (defScope s_is_amount) f cdv A outer s H E) (fun c d _ H => E c d H) := takes_of rfl rfl rfl rfl
  have hp : PassesOwn (model P w) (A.deeper (envOfC "is_amount" (defScope s_is_amount) s.heap.objs.size f cdv)) (envOfC "is_amount" (defScope s_is_amount) s.heap.objs.size f cdv) (cxOf (L2.CX P w) P w K mg base N_is_amount "is_amount" (defScope s_is_amount) f cdv A outer s H E).xe := passes_of (X := cxOf (L2.CX P w) P w K mg base N_is_amount "is_amount" (defScope s_is_amount) f cdv A outer s H E) rfl
  have nd : (N_is_amount).Nodup := sc_is_amount.nd
  exact (vss_one (vs_ret (ve_and (ve_callD D_is_list hr tk (va_cons (ve_var 0) va_nil) (.cons .nil)) (ve_and (ve_chain o_le o_le ve_int (ve_callB (b_lenN) rfl n_len bt_len (va_cons (ve_var 0) va_nil)) (ve_kintE k_MOST_RESOURCES)) (ve_one (ve_callD D_is_amount_of hr tk (va_cons (ve_var 0) (va_cons (ve_callB (b_lenN) rfl n_len bt_len (va_cons (ve_var 0) va_nil)) va_nil)) (.cons (.cons .nil))))))))
/-! is_prices -/
abbrev N_is_prices : List Str := ["thing"]
abbrev s_is_prices : Stmt := top 18
theorem sc_is_prices : FnScope N_is_prices ["thing"] (defScope s_is_prices) := ⟨rfl, rfl, rfl, by decide +kernel, rfl, by decide +kernel, by decide +kernel⟩
noncomputable def b_is_prices (n : Nat) : S → Fl := (sRet (eAnd (eCall (F_is_amount n) (aCons (eVar 0) aNil)) (eOp2 (two fGt) (eOpN fMaxN (aCons (eVar 0) aNil)) (eC (.int 0)))))
noncomputable def F_is_prices (n : Nat) : Fn := fun ws ce => shut ce.length (b_is_prices n (entry 1 ws ce))
theorem ok_is_prices {P : Program} {w : World} {K : PySem.W.Frag} {mg : Str → Option Value} {base : Heap} (n : Nat) (FA : FunAt K mg "is_prices" s_is_prices ["thing"]) (n_max : mg "max" = none) (D_is_amount : DefOk P w K mg base "is_amount" 4 1 (F_is_amount n)) :
    DefOk P w K mg base "is_prices" (4 + 1) 1 (F_is_prices n) := by
  refine def_ok (k := 4) (body := b_is_prices n) FA sc_is_prices shut (.inl rfl) fun f cdv A outer s H E hr => ?_
  have tk : Takes (cxOf (L2.CX P w) P w K mg base N_is_prices "is_prices" (defScope s_is_prices) f cdv A outer s H E) (fun c d _ H => E c d H) := takes_of rfl rfl rfl rfl
  have hp : PassesOwn (model P w) (A.deeper (envOfC "is_prices" (defScope s_is_prices) s.heap.objs.size f cdv)) (envOfC "is_prices" (defScope s_is_prices) s.heap.objs.size f cdv) (cxOf (L2.CX P w) P w K mg base N_is_prices "is_prices" (defScope s_is_prices) f cdv A outer s H E).xe := passes_of (X := cxOf (L2.CX P w) P w K mg base N_is_prices "is_prices" (defScope s_is_prices) f cdv A outer s H E) rfl
  have nd : (N_is_prices).Nodup := sc_is_prices.nd
  exact (vss_one (vs_ret (ve_and (ve_callD D_is_amount hr tk (va_cons (ve_var 0) va_nil) (.cons .nil)) (ve_one (ve_cmp o_gt (ve_callB (b_max rfl (hu198 hr)) rfl n_max bt_max (va_cons (ve_var 0) va_nil)) ve_int)))))
/-! is_thing -/
abbrev N_is_thing : List Str := ["thing", "sign"]
abbrev s_is_thing : Stmt := top 19
theorem sc_is_thing : FnScope N_is_thing ["thing"] (defScope s_is_thing) := ⟨rfl, rfl, rfl, by decide +kernel, rfl, by decide +kernel, by decide +kernel⟩
noncomputable def b_is_thing (n : Nat) : S → Fl := (sRet (eAnd (eIsiZ OWN [.inl "str"] (eVar 0)) (eAnd (eChain (two fLe) (two fLe) (eC (.int 1)) (eOpN lenN (aCons (eVar 0) aNil)) (eC (.int 24))) (eOpN (one fAll) (aCons (eLc [1] (.nm 1) (iSeq (eVar 0)) bYes (eOp2 (inZ false) (eVar 1) (eC (.str "abcdefghijklmnopqrstuvwxyz0123456789.-")))) aNil)))))
noncomputable def F_is_thing (n : Nat) : Fn := fun ws ce => shut ce.length (b_is_thing n (entry 2 ws ce))
theorem ok_is_thing {P : Program} {w : World} {K : PySem.W.Frag} {mg : Str → Option Value} {base : Heap} (n : Nat) (FA : FunAt K mg "is_thing" s_is_thing ["thing"]) (n_all : mg "all" = none) (n_isinstance : mg "isinstance" = none) (n_len : mg "len" = none) (n_str : mg "str" = none) (k_MOST_SIGNS : ∃ t, mg "MOST_SIGNS" = some (.int 24 t)) (k_SIGNS : ∃ t, mg "SIGNS" = some (.str "abcdefghijklmnopqrstuvwxyz0123456789.-" t)) (IT : IsTab K mg OWN) :
    DefOk P w K mg base "is_thing" (0 + 1) 1 (F_is_thing n) := by
  refine def_ok (k := 0) (body := b_is_thing n) FA sc_is_thing shut (.inl rfl) fun f cdv A outer s H E hr => ?_
  have tk : Takes (cxOf (L2.CX P w) P w K mg base N_is_thing "is_thing" (defScope s_is_thing) f cdv A outer s H E) (fun c d _ H => E c d H) := takes_of rfl rfl rfl rfl
  have hp : PassesOwn (model P w) (A.deeper (envOfC "is_thing" (defScope s_is_thing) s.heap.objs.size f cdv)) (envOfC "is_thing" (defScope s_is_thing) s.heap.objs.size f cdv) (cxOf (L2.CX P w) P w K mg base N_is_thing "is_thing" (defScope s_is_thing) f cdv A outer s H E).xe := passes_of (X := cxOf (L2.CX P w) P w K mg base N_is_thing "is_thing" (defScope s_is_thing) f cdv A outer s H E) rfl
  have nd : (N_is_thing).Nodup := sc_is_thing.nd
  exact (vss_one (vs_ret (ve_and (ve_isi1 (y := .inl "str") (cv := .ty "str") IT (by decide) n_isinstance (ve_var 0) (pe_bltn (v := .ty "str") rfl n_str bt_str rfl) rfl) (ve_and (ve_chain o_le o_le ve_int (ve_callB (b_lenN) rfl n_len bt_len (va_cons (ve_var 0) va_nil)) (ve_kintE k_MOST_SIGNS)) (ve_one (ve_callB (b_all rfl) rfl n_all bt_all (va_cons (ve_lc (own := [("sign", 1)]) rfl nd (vi_seq (ve_var 0)) (blkOk_by (N := N_is_thing) (sc := (defScope s_is_thing)) (by decide +kernel)) (fun _ _ _ _ _ => (vg_nm nd)) (fun _ _ _ _ _ => vts_nil) (fun _ _ _ _ _ => (ve_cmp (o_inZ (hu198 hr)) (ve_var 1) (ve_kstrE k_SIGNS)))) va_nil)))))))
/-! are_sorts -/
abbrev N_are_sorts : List Str := ["thing", "sort"]
abbrev s_are_sorts : Stmt := top 20
theorem sc_are_sorts : FnScope N_are_sorts ["thing"] (defScope s_are_sorts) := ⟨rfl, rfl, rfl, by decide +kernel, rfl, by decide +kernel, by decide +kernel⟩
noncomputable def b_are_sorts (n : Nat) : S → Fl := (sRet (eAnd (eCall (F_is_list n) (aCons (eVar 0) aNil)) (eAnd (eChain (two fLe) (two fLe) (eC (.int 1)) (eOpN lenN (aCons (eVar 0) aNil)) (eC (.int 3))) (eOpN (one fAll) (aCons (eLc [1] (.nm 1) (iSeq (eVar 0)) bYes (eOp2 (inZ false) (eVar 1) (eTup (aCons (eC (.str "flat")) (aCons (eC (.str "high")) aNil))))) aNil)))))
noncomputable def F_are_sorts (n : Nat) : Fn := fun ws ce => shut ce.length (b_are_sorts n (entry 2 ws ce))
theorem ok_are_sorts {P : Program} {w : World} {K : PySem.W.Frag} {mg : Str → Option Value} {base : Heap} (n : Nat) (FA : FunAt K mg "are_sorts" s_are_sorts ["thing"]) (n_all : mg "all" = none) (n_len : mg "len" = none) (k_MOST_RESOURCES : ∃ t, mg "MOST_RESOURCES" = some (.int 3 t)) (D_is_list : DefOk P w K mg base "is_list" 1 1 (F_is_list n)) :
    DefOk P w K mg base "are_sorts" (1 + 1) 1 (F_are_sorts n) := by
  refine def_ok (k := 1) (body := b_are_sorts n) FA sc_are_sorts shut (.inl rfl) fun f cdv A outer s H E hr => ?_
  have tk : Takes (cxOf (L2.CX P w) P w K mg base N_are_sorts "are_sorts" (defScope s_are_sorts) f cdv A outer s H E) (fun c d _ H => E c d H) := takes_of rfl rfl rfl rfl
  have hp : PassesOwn (model P w) (A.deeper (envOfC "are_sorts" (defScope s_are_sorts) s.heap.objs.size f cdv)) (envOfC "are_sorts" (defScope s_are_sorts) s.heap.objs.size f cdv) (cxOf (L2.CX P w) P w K mg base N_are_sorts "are_sorts" (defScope s_are_sorts) f cdv A outer s H E).xe := passes_of (X := cxOf (L2.CX P w) P w K mg base N_are_sorts "are_sorts" (defScope s_are_sorts) f cdv A outer s H E) rfl
  have nd : (N_are_sorts).Nodup := sc_are_sorts.nd
  exact (vss_one (vs_ret (ve_and (ve_callD D_is_list hr tk (va_cons (ve_var 0) va_nil) (.cons .nil)) (ve_and (ve_chain o_le o_le ve_int (ve_callB (b_lenN) rfl n_len bt_len (va_cons (ve_var 0) va_nil)) (ve_kintE k_MOST_RESOURCES)) (ve_one (ve_callB (b_all rfl) rfl n_all bt_all (va_cons (ve_lc (own := [("sort", 1)]) rfl nd (vi_seq (ve_var 0)) (blkOk_by (N := N_are_sorts) (sc := (defScope s_are_sorts)) (by decide +kernel)) (fun _ _ _ _ _ => (vg_nm nd)) (fun _ _ _ _ _ => vts_nil) (fun _ _ _ _ _ => (ve_cmp (o_inZ (hu198 hr)) (ve_var 1) (ve_tup (va_cons ve_str (va_cons ve_str va_nil)))))) va_nil)))))))
/-! product_of -/
abbrev N_product_of : List Str := ["one", "other", "number", "factor"]
abbrev s_product_of : Stmt := top 22
theorem sc_product_of : FnScope N_product_of ["one", "other"] (defScope s_product_of) := ⟨rfl, rfl, rfl, by decide +kernel, rfl, by decide +kernel, by decide +kernel⟩
noncomputable def b_product_of (n : Nat) : S → Fl := (sRet (eOpN (one fSum) (aCons (eLc [2, 3] (.tp [(.nm 2), (.nm 3)]) (iZip (aCons (eVar 0) (aCons (eVar 1) aNil))) bYes (eOp2 (two fMul) (eVar 2) (eVar 3))) aNil)))
noncomputable def F_product_of (n : Nat) : Fn := fun ws ce => shut ce.length (b_product_of n (entry 4 ws ce))
theorem ok_product_of {P : Program} {w : World} {K : PySem.W.Frag} {mg : Str → Option Value} {base : Heap} (n : Nat) (FA : FunAt K mg "product_of" s_product_of ["one", "other"]) (n_sum : mg "sum" = none) (n_zip : mg "zip" = none) :
    DefOk P w K mg base "product_of" (0 + 1) 2 (F_product_of n) := by
  refine def_ok (k := 0) (body := b_product_of n) FA sc_product_of shut (.inl rfl) fun f cdv A outer s H E hr => ?_
  have tk : Takes (cxOf (L2.CX P w) P w K mg base N_product_of "product_of" (defScope s_product_of) f cdv A outer s H E) (fun c d _ H => E c d H) := takes_of rfl rfl rfl rfl
  have hp : PassesOwn (model P w) (A.deeper (envOfC "product_of" (defScope s_product_of) s.heap.objs.size f cdv)) (envOfC "product_of" (defScope s_product_of) s.heap.objs.size f cdv) (cxOf (L2.CX P w) P w K mg base N_product_of "product_of" (defScope s_product_of) f cdv A outer s H E).xe := passes_of (X := cxOf (L2.CX P w) P w K mg base N_product_of "product_of" (defScope s_product_of) f cdv A outer s H E) rfl
  have nd : (N_product_of).Nodup := sc_product_of.nd
  exact (vss_one (vs_ret (ve_callB (b_sum rfl) rfl n_sum bt_sum (va_cons (ve_lc (own := [("number", 2), ("factor", 3)]) rfl nd (vi_zip n_zip (va_cons (ve_var 0) (va_cons (ve_var 1) va_nil))) (blkOk_by (N := N_product_of) (sc := (defScope s_product_of)) (by decide +kernel)) (fun _ _ _ _ _ => (vg_tp rfl (vgs_cons (vg_nm nd) (vgs_cons (vg_nm nd) vgs_nil)) 2)) (fun _ _ _ _ _ => vts_nil) (fun _ _ _ _ _ => (ve_bin o_mul (ve_var 2) (ve_var 3)))) va_nil))))
/-! checked_amounts -/
abbrev N_checked_amounts : List Str := ["amounts", "index", "amount"]
abbrev s_checked_amounts : Stmt := top 24
theorem sc_checked_amounts : FnScope N_checked_amounts ["amounts"] (defScope s_checked_amounts) := ⟨rfl, rfl, rfl, by decide +kernel, rfl, by decide +kernel, by decide +kernel⟩
noncomputable def b_checked_amounts (n : Nat) : S → Fl := (sSeq (sIf (bNot (bTru (eCall (F_is_list n) (aCons (eVar 0) aNil)))) (sRaise1 "BadAmounts" "index" (eC (.int 0))) sNext) (sSeq (sFor (.tp [(.nm 1), (.nm 2)]) (iEnum (aCons (eVar 0) aNil)) (sIf (bOr (bNot (bTru (eCall (F_is_amount n) (aCons (eVar 2) aNil)))) (bOf (eOp2 (two fNe) (eOpN lenN (aCons (eVar 2) aNil)) (eOpN lenN (aCons (eIxZ (eVar 0) (eC (.int 0))) aNil))))) (sRaise1 "BadAmounts" "index" (eVar 1)) sNext)) (sRet (eLc [2] (.nm 2) (iSeq (eVar 0)) bYes (eOpN (one fTuple) (aCons (eVar 2) aNil))))))
noncomputable def F_checked_amounts (n : Nat) : Fn := fun ws ce => shut ce.length (b_checked_amounts n (entry 3 ws ce))
theorem ok_checked_amounts {P : Program} {w : World} {K : PySem.W.Frag} {mg : Str → Option Value} {base : Heap} (n : Nat) (FA : FunAt K mg "checked_amounts" s_checked_amounts ["amounts"]) (n_enumerate : mg "enumerate" = none) (n_len : mg "len" = none) (n_tuple : mg "tuple" = none) {C_BadAmounts : Addr} (E_BadAmounts : Err1 P w K mg base "BadAmounts" "index" C_BadAmounts) (D_is_list : DefOk P w K mg base "is_list" 1 1 (F_is_list n)) (D_is_amount : DefOk P w K mg base "is_amount" 4 1 (F_is_amount n)) :
    DefOk P w K mg base "checked_amounts" (4 + 1) 1 (F_checked_amounts n) := by
  refine def_ok (k := 4) (body := b_checked_amounts n) FA sc_checked_amounts shut (.inl rfl) fun f cdv A outer s H E hr => ?_
  have tk : Takes (cxOf (L2.CX P w) P w K mg base N_checked_amounts "checked_amounts" (defScope s_checked_amounts) f cdv A outer s H E) (fun c d _ H => E c d H) := takes_of rfl rfl rfl rfl
  have hp : PassesOwn (model P w) (A.deeper (envOfC "checked_amounts" (defScope s_checked_amounts) s.heap.objs.size f cdv)) (envOfC "checked_amounts" (defScope s_checked_amounts) s.heap.objs.size f cdv) (cxOf (L2.CX P w) P w K mg base N_checked_amounts "checked_amounts" (defScope s_checked_amounts) f cdv A outer s H E).xe := passes_of (X := cxOf (L2.CX P w) P w K mg base N_checked_amounts "checked_amounts" (defScope s_checked_amounts) f cdv A outer s H E) rfl
  have nd : (N_checked_amounts).Nodup := sc_checked_amounts.nd
  exact (vss_cons (vs_if (vt_not (vt_tru (ve_callD D_is_list hr tk (va_cons (ve_var 0) va_nil) (.cons .nil)))) (vss_one (vs_raise1 rfl E_BadAmounts (RmG.mono (j := 2) hr (by decide)).rm tk ve_int)) vss_nil) (vss_cons (vs_for hp rfl (vi_enum n_enumerate (va_cons (ve_var 0) va_nil)) (vg_tp rfl (vgs_cons (vg_nm nd) (vgs_cons (vg_nm nd) vgs_nil)) 2) (vss_one (vs_if (vt_w (vw_or (vt_not (vt_tru (ve_callD D_is_amount hr tk (va_cons (ve_var 2) va_nil) (.cons .nil)))) (vw_or1 (vt_cmp (o_ne (hu64 hr)) (ve_callB (b_lenN) rfl n_len bt_len (va_cons (ve_var 2) va_nil)) (ve_callB (b_lenN) rfl n_len bt_len (va_cons (ve_ixZ (hu198 hr) (ve_var 0) ve_int) va_nil)))))) (vss_one (vs_raise1 rfl E_BadAmounts (RmG.mono (j := 2) hr (by decide)).rm tk (ve_var 1))) vss_nil))) (vss_one (vs_ret (ve_lc (own := [("amount", 2)]) rfl nd (vi_seq (ve_var 0)) (blkOk_by (N := N_checked_amounts) (sc := (defScope s_checked_amounts)) (by decide +kernel)) (fun _ _ _ _ _ => (vg_nm nd)) (fun _ _ _ _ _ => vts_nil) (fun _ _ _ _ _ => (ve_callTy b_tuple rfl n_tuple bt_tuple (va_cons (ve_var 2) va_nil))))))))
/-! how_many_up_to -/
abbrev N_how_many_up_to : List Str := ["numbers", "limit", "low", "high", "middle"]
abbrev s_how_many_up_to : Stmt := top 25
theorem sc_how_many_up_to : FnScope N_how_many_up_to ["numbers", "limit"] (defScope s_how_many_up_to) := ⟨rfl, rfl, rfl, by decide +kernel, rfl, by decide +kernel, by decide +kernel⟩
noncomputable def b_how_many_up_to (n : Nat) : S → Fl := (sSeq (sPar [2, 3] (aCons (eC (.int 0)) (aCons (eOpN lenN (aCons (eVar 0) aNil)) aNil))) (sSeq (loopW (bOf (eOp2 (two fLt) (eVar 2) (eVar 3))) (sSeq (sSet 4 (eOp2 (two fDiv) (eOp2 (two fAdd) (eVar 2) (eVar 3)) (eC (.int 2)))) (sIf (bOf (eOp2 (two fLe) (eIxZ (eVar 0) (eVar 4)) (eVar 1))) (sSet 2 (eOp2 (two fAdd) (eVar 4) (eC (.int 1)))) (sSet 3 (eVar 4)))) n) (sRet (eVar 2))))
noncomputable def F_how_many_up_to (n : Nat) : Fn := fun ws ce => shut ce.length (b_how_many_up_to n (entry 5 ws ce))
theorem ok_how_many_up_to {P : Program} {w : World} {K : PySem.W.Frag} {mg : Str → Option Value} {base : Heap} (n : Nat) (FA : FunAt K mg "how_many_up_to" s_how_many_up_to ["numbers", "limit"]) (n_len : mg "len" = none) :
    DefOk P w K mg base "how_many_up_to" (0 + 1) 2 (F_how_many_up_to n) := by
  refine def_ok (k := 0) (body := b_how_many_up_to n) FA sc_how_many_up_to shut (.inl rfl) fun f cdv A outer s H E hr => ?_
  have tk : Takes (cxOf (L2.CX P w) P w K mg base N_how_many_up_to "how_many_up_to" (defScope s_how_many_up_to) f cdv A outer s H E) (fun c d _ H => E c d H) := takes_of rfl rfl rfl rfl
  have hp : PassesOwn (model P w) (A.deeper (envOfC "how_many_up_to" (defScope s_how_many_up_to) s.heap.objs.size f cdv)) (envOfC "how_many_up_to" (defScope s_how_many_up_to) s.heap.objs.size f cdv) (cxOf (L2.CX P w) P w K mg base N_how_many_up_to "how_many_up_to" (defScope s_how_many_up_to) f cdv A outer s H E).xe := passes_of (X := cxOf (L2.CX P w) P w K mg base N_how_many_up_to "how_many_up_to" (defScope s_how_many_up_to) f cdv A outer s H E) rfl
  have nd : (N_how_many_up_to).Nodup := sc_how_many_up_to.nd
  exact (vss_cons (vs_par rfl nd (by decide) (va_cons ve_int (va_cons (ve_callB (b_lenN) rfl n_len bt_len (va_cons (ve_var 0) va_nil)) va_nil))) (vss_cons (vs_while n hp (vt_cmp o_lt (ve_var 2) (ve_var 3)) (vss_cons (vs_set 4 nd (ve_bin o_div (ve_bin o_add (ve_var 2) (ve_var 3)) ve_int)) (vss_one (vs_if (vt_cmp o_le (ve_ixZ (hu198 hr) (ve_var 0) (ve_var 4)) (ve_var 1)) (vss_one (vs_set 2 nd (ve_bin o_add (ve_var 4) ve_int))) (vss_one (vs_set 3 nd (ve_var 4))))))) (vss_one (vs_ret (ve_var 2)))))
/-! least_of -/
abbrev N_least_of : List Str := ["rows", "row", "seconds", "thirds", "least", "place", "second", "third", "end"]
abbrev s_least_of : Stmt := top 26
theorem sc_least_of : FnScope N_least_of ["rows"] (defScope s_least_of) := ⟨rfl, rfl, rfl, by decide +kernel, rfl, by decide +kernel, by decide +kernel⟩
noncomputable def b_least_of (n : Nat) : S → Fl := (sSeq (sPar [2, 3, 4] (aCons (eCell aNil) (aCons (eCell aNil) (aCons (eCell aNil) aNil)))) (sSeq (sFor (.nm 1) (iSeq (eOpN (one fSorted) (aCons (eVar 0) aNil))) (sSeq (sSets (.tp [(.nm 6), (.nm 7)]) (eSl (eOp2 (two fAdd) (eTup (aCons (eC (.int 0)) aNil)) (eVar 1)) (oSome (eOp1 (un fNeg) (eC (.int 2)))) oNone)) (sSeq (sSet 5 (eCall (F_how_many_up_to n) (aCons (eVar 2) (aCons (eVar 6) aNil)))) (sIf (bOr (bOf (eOp2 (two fEq) (eVar 5) (eC (.int 0)))) (bOf (eOp2 (two fGt) (eIxZ (eVar 3) (eOp2 (two fSub) (eVar 5) (eC (.int 1)))) (eVar 7)))) (sSeq (sDrop (eAppend (eVar 4) (eVar 1))) (sSeq (sSet 8 (eVar 5)) (sSeq (loopW (bAnd (bOf (eOp2 (two fLt) (eVar 8) (eOpN lenN (aCons (eVar 3) aNil)))) (bOf (eOp2 (two fGe) (eIxZ (eVar 3) (eVar 8)) (eVar 7)))) (sAug 8 (fun i j => i + j) (eC (.int 1))) n) (sSeq (sSetSl (eVar 2) (eVar 5) (eVar 8) (eLst (aCons (eVar 6) aNil))) (sSetSl (eVar 3) (eVar 5) (eVar 8) (eLst (aCons (eVar 7) aNil))))))) sNext)))) (sRet (eVar 4))))
noncomputable def F_least_of (n : Nat) : Fn := fun ws ce => (fun _ => keep) ce.length (b_least_of n (entry 9 ws ce))
theorem ok_least_of {P : Program} {w : World} {K : PySem.W.Frag} {mg : Str → Option Value} {base : Heap} (n : Nat) (FA : FunAt K mg "least_of" s_least_of ["rows"]) (n_len : mg "len" = none) (n_sorted : mg "sorted" = none) (D_how_many_up_to : DefOk P w K mg base "how_many_up_to" 1 2 (F_how_many_up_to n)) :
    DefOk P w K mg base "least_of" (1 + 1) 1 (F_least_of n) := by
  refine def_ok (k := 1) (body := b_least_of n) FA sc_least_of (fun _ => keep) (.inr rfl) fun f cdv A outer s H E hr => ?_
  have tk : Takes (cxOf (L2.CX P w) P w K mg base N_least_of "least_of" (defScope s_least_of) f cdv A outer s H E) (fun c d _ H => E c d H) := takes_of rfl rfl rfl rfl
  have hp : PassesOwn (model P w) (A.deeper (envOfC "least_of" (defScope s_least_of) s.heap.objs.size f cdv)) (envOfC "least_of" (defScope s_least_of) s.heap.objs.size f cdv) (cxOf (L2.CX P w) P w K mg base N_least_of "least_of" (defScope s_least_of) f cdv A outer s H E).xe := passes_of (X := cxOf (L2.CX P w) P w K mg base N_least_of "least_of" (defScope s_least_of) f cdv A outer s H E) rfl
  have nd : (N_least_of).Nodup := sc_least_of.nd
  exact (vss_cons (vs_par3 rfl nd (by decide) (by decide) (by decide) (va_cons (ve_cell va_nil) (va_cons (ve_cell va_nil) (va_cons (ve_cell va_nil) va_nil)))) (vss_cons (vs_for hp rfl (vi_seq (ve_callB (b_sorted (hu198 hr)) rfl n_sorted bt_sorted (va_cons (ve_var 0) va_nil))) (vg_nm nd) (vss_cons (vs_sets (ve_sl (ve_bin o_add (ve_tup (va_cons ve_int va_nil)) (ve_var 1)) (vo_some (ve_neg ve_int (fun _ h => pe_un un_neg h))) vo_none) (vg_tp rfl (vgs_cons (vg_nm nd) (vgs_cons (vg_nm nd) vgs_nil)) 2)) (vss_cons (vs_set 5 nd (ve_callD D_how_many_up_to hr tk (va_cons (ve_var 2) (va_cons (ve_var 6) va_nil)) (.cons (.cons .nil)))) (vss_one (vs_if (vt_w (vw_or (vt_cmp (o_eq (hu64 hr)) (ve_var 5) ve_int) (vw_or1 (vt_cmp o_gt (ve_ixZ (hu198 hr) (ve_var 3) (ve_bin o_sub (ve_var 5) ve_int)) (ve_var 7))))) (vss_cons (vs_expr (ve_append (ve_var 4) (ve_var 1))) (vss_cons (vs_set 8 nd (ve_var 5)) (vss_cons (vs_while n hp (vt_w (vw_and (vt_cmp o_lt (ve_var 8) (ve_callB (b_lenN) rfl n_len bt_len (va_cons (ve_var 3) va_nil))) (vw_and1 (vt_cmp o_ge (ve_ixZ (hu198 hr) (ve_var 3) (ve_var 8)) (ve_var 7))))) (vss_one (vs_aug 8 (g := fun i j => i + j) iop_add nd ve_int))) (vss_cons (vs_setSl (ve_var 2) (ve_var 5) (ve_var 8) (ve_lst (va_cons (ve_var 6) va_nil))) (vss_one (vs_setSl (ve_var 3) (ve_var 5) (ve_var 8) (ve_lst (va_cons (ve_var 7) va_nil)))))))) vss_nil))))) (vss_one (vs_ret (ve_var 4)))))
/-! least_rows -/
abbrev N_least_rows : List Str := ["amounts"]
abbrev s_least_rows : Stmt := top 28
theorem sc_least_rows : FnScope N_least_rows ["amounts"] (defScope s_least_rows) := ⟨rfl, rfl, rfl, by decide +kernel, rfl, by decide +kernel, by decide +kernel⟩
noncomputable def b_least_rows (n : Nat) : S → Fl := (sRet (eCall (F_least_of n) (aCons (eCall (F_checked_amounts n) (aCons (eVar 0) aNil)) aNil)))
noncomputable def F_least_rows (n : Nat) : Fn := fun ws ce => (fun _ => keep) ce.length (b_least_rows n (entry 1 ws ce))
theorem ok_least_rows {P : Program} {w : World} {K : PySem.W.Frag} {mg : Str → Option Value} {base : Heap} (n : Nat) (FA : FunAt K mg "least_rows" s_least_rows ["amounts"]) (D_least_of : DefOk P w K mg base "least_of" 2 1 (F_least_of n)) (D_checked_amounts : DefOk P w K mg base "checked_amounts" 5 1 (F_checked_amounts n)) :
    DefOk P w K mg base "least_rows" (5 + 1) 1 (F_least_rows n) := by
  refine def_ok (k := 5) (body := b_least_rows n) FA sc_least_rows (fun _ => keep) (.inr rfl) fun f cdv A outer s H E hr => ?_
  have tk : Takes (cxOf (L2.CX P w) P w K mg base N_least_rows "least_rows" (defScope s_least_rows) f cdv A outer s H E) (fun c d _ H => E c d H) := takes_of rfl rfl rfl rfl
  have hp : PassesOwn (model P w) (A.deeper (envOfC "least_rows" (defScope s_least_rows) s.heap.objs.size f cdv)) (envOfC "least_rows" (defScope s_least_rows) s.heap.objs.size f cdv) (cxOf (L2.CX P w) P w K mg base N_least_rows "least_rows" (defScope s_least_rows) f cdv A outer s H E).xe := passes_of (X := cxOf (L2.CX P w) P w K mg base N_least_rows "least_rows" (defScope s_least_rows) f cdv A outer s H E) rfl
  have nd : (N_least_rows).Nodup := sc_least_rows.nd
  exact (vss_one (vs_ret (ve_callD D_least_of hr tk (va_cons (ve_callD D_checked_amounts hr tk (va_cons (ve_var 0) va_nil) (.cons .nil)) va_nil) (.cons .nil))))
/-! cost -/
abbrev N_cost : List Str := ["amount", "prices"]
abbrev s_cost : Stmt := top 29
theorem sc_cost : FnScope N_cost ["amount", "prices"] (defScope s_cost) := ⟨rfl, rfl, rfl, by decide +kernel, rfl, by decide +kernel, by decide +kernel⟩
noncomputable def b_cost (n : Nat) : S → Fl := (sSeq (sIf (bNot (bTru (eCall (F_is_amount n) (aCons (eVar 0) aNil)))) (sRaise1 "BadAmount" "amount" (eVar 0)) sNext) (sSeq (sIf (bOr (bNot (bTru (eCall (F_is_prices n) (aCons (eVar 1) aNil)))) (bOf (eOp2 (two fNe) (eOpN lenN (aCons (eVar 1) aNil)) (eOpN lenN (aCons (eVar 0) aNil))))) (sRaise1 "BadPrices" "prices" (eVar 1)) sNext) (sRet (eCall (F_product_of n) (aCons (eVar 0) (aCons (eVar 1) aNil))))))
noncomputable def F_cost (n : Nat) : Fn := fun ws ce => shut ce.length (b_cost n (entry 2 ws ce))
theorem ok_cost {P : Program} {w : World} {K : PySem.W.Frag} {mg : Str → Option Value} {base : Heap} (n : Nat) (FA : FunAt K mg "cost" s_cost ["amount", "prices"]) (n_len : mg "len" = none) {C_BadAmount : Addr} (E_BadAmount : Err1 P w K mg base "BadAmount" "amount" C_BadAmount) {C_BadPrices : Addr} (E_BadPrices : Err1 P w K mg base "BadPrices" "prices" C_BadPrices) (D_is_amount : DefOk P w K mg base "is_amount" 4 1 (F_is_amount n)) (D_is_prices : DefOk P w K mg base "is_prices" 5 1 (F_is_prices n)) (D_product_of : DefOk P w K mg base "product_of" 1 2 (F_product_of n)) :
    DefOk P w K mg base "cost" (5 + 1) 2 (F_cost n) := by
  refine def_ok (k := 5) (body := b_cost n) FA sc_cost shut (.inl rfl) fun f cdv A outer s H E hr => ?_
  have tk : Takes (cxOf (L2.CX P w) P w K mg base N_cost "cost" (defScope s_cost) f cdv A outer s H E) (fun c d _ H => E c d H) := takes_of rfl rfl rfl rfl
  have hp : PassesOwn (model P w) (A.deeper (envOfC "cost" (defScope s_cost) s.heap.objs.size f cdv)) (envOfC "cost" (defScope s_cost) s.heap.objs.size f cdv) (cxOf (L2.CX P w) P w K mg base N_cost "cost" (defScope s_cost) f cdv A outer s H E).xe := passes_of (X := cxOf (L2.CX P w) P w K mg base N_cost "cost" (defScope s_cost) f cdv A outer s H E) rfl
  have nd : (N_cost).Nodup := sc_cost.nd
  exact (vss_cons (vs_if (vt_not (vt_tru (ve_callD D_is_amount hr tk (va_cons (ve_var 0) va_nil) (.cons .nil)))) (vss_one (vs_raise1 rfl E_BadAmount (RmG.mono (j := 2) hr (by decide)).rm tk (ve_var 0))) vss_nil) (vss_cons (vs_if (vt_w (vw_or (vt_not (vt_tru (ve_callD D_is_prices hr tk (va_cons (ve_var 1) va_nil) (.cons .nil)))) (vw_or1 (vt_cmp (o_ne (hu64 hr)) (ve_callB (b_lenN) rfl n_len bt_len (va_cons (ve_var 1) va_nil)) (ve_callB (b_lenN) rfl n_len bt_len (va_cons (ve_var 0) va_nil)))))) (vss_one (vs_raise1 rfl E_BadPrices (RmG.mono (j := 2) hr (by decide)).rm tk (ve_var 1))) vss_nil) (vss_one (vs_ret (ve_callD D_product_of hr tk (va_cons (ve_var 0) (va_cons (ve_var 1) va_nil)) (.cons (.cons .nil)))))))
/-! is_way -/
abbrev N_is_way : List Str := ["sort", "word"]
abbrev s_is_way : Stmt := top 31
theorem sc_is_way : FnScope N_is_way ["sort", "word"] (defScope s_is_way) := ⟨rfl, rfl, rfl, by decide +kernel, rfl, by decide +kernel, by decide +kernel⟩
noncomputable def b_is_way (n : Nat) : S → Fl := (sRet (eOr (eOp2 (inZ false) (eVar 1) (eTup (aCons (eC (.str "times")) (aCons (eC (.str "sum")) aNil)))) (eAnd (eOp2 (two fEq) (eVar 1) (eC (.str "most"))) (eOp2 (two fEq) (eVar 0) (eC (.str "high"))))))
noncomputable def F_is_way (n : Nat) : Fn := fun ws ce => shut ce.length (b_is_way n (entry 2 ws ce))
theorem ok_is_way {P : Program} {w : World} {K : PySem.W.Frag} {mg : Str → Option Value} {base : Heap} (n : Nat) (FA : FunAt K mg "is_way" s_is_way ["sort", "word"])  :
    DefOk P w K mg base "is_way" (0 + 1) 2 (F_is_way n) := by
  refine def_ok (k := 0) (body := b_is_way n) FA sc_is_way shut (.inl rfl) fun f cdv A outer s H E hr => ?_
  have tk : Takes (cxOf (L2.CX P w) P w K mg base N_is_way "is_way" (defScope s_is_way) f cdv A outer s H E) (fun c d _ H => E c d H) := takes_of rfl rfl rfl rfl
  have hp : PassesOwn (model P w) (A.deeper (envOfC "is_way" (defScope s_is_way) s.heap.objs.size f cdv)) (envOfC "is_way" (defScope s_is_way) s.heap.objs.size f cdv) (cxOf (L2.CX P w) P w K mg base N_is_way "is_way" (defScope s_is_way) f cdv A outer s H E).xe := passes_of (X := cxOf (L2.CX P w) P w K mg base N_is_way "is_way" (defScope s_is_way) f cdv A outer s H E) rfl
  have nd : (N_is_way).Nodup := sc_is_way.nd
  exact (vss_one (vs_ret (ve_or (ve_cmp (o_inZ (hu198 hr)) (ve_var 1) (ve_tup (va_cons ve_str (va_cons ve_str va_nil)))) (ve_one (ve_and (ve_cmp (o_eq (hu64 hr)) (ve_var 1) ve_str) (ve_one (ve_cmp (o_eq (hu64 hr)) (ve_var 0) ve_str)))))))
/-! is_part -/
abbrev N_is_part : List Str := ["how", "thing", "name", "times", "extra", "word", "more"]
abbrev s_is_part : Stmt := top 32
theorem sc_is_part : FnScope N_is_part ["how", "thing"] (defScope s_is_part) := ⟨rfl, rfl, rfl, by decide +kernel, rfl, by decide +kernel, by decide +kernel⟩
noncomputable def b_is_part (n : Nat) : S → Fl := (sSeq (sIf (bNot (bTru (eCall (F_is_list_of n) (aCons (eVar 1) (aCons (eC (.int 3)) aNil))))) (sRet (eC (.bl false))) sNext) (sSeq (sSets (.tp [(.nm 2), (.nm 3), (.nm 4)]) (eVar 1)) (sSeq (sIf (bOr (bNot (bTru (eCall (F_is_thing n) (aCons (eVar 2) aNil)))) (bOr (bNot (bTru (eCall (F_is_int_from n) (aCons (eVar 3) (aCons (eC (.int 1)) aNil))))) (bNot (bTru (eCall (F_is_amount_of n) (aCons (eVar 4) (aCons (eOpN lenN (aCons (eVar 0) aNil)) aNil))))))) (sRet (eC (.bl false))) sNext) (sRet (eOpN (one fAll) (aCons (eLc [5, 6] (.tp [(.nm 5), (.nm 6)]) (iZip (aCons (eVar 0) (aCons (eVar 4) aNil))) bYes (eOr (eOp2 (two fEq) (eVar 5) (eC (.str "most"))) (eOp2 (two fEq) (eVar 6) (eC (.int 0))))) aNil))))))
noncomputable def F_is_part (n : Nat) : Fn := fun ws ce => shut ce.length (b_is_part n (entry 7 ws ce))
theorem ok_is_part {P : Program} {w : World} {K : PySem.W.Frag} {mg : Str → Option Value} {base : Heap} (n : Nat) (FA : FunAt K mg "is_part" s_is_part ["how", "thing"]) (n_all : mg "all" = none) (n_len : mg "len" = none) (n_zip : mg "zip" = none) (D_is_list_of : DefOk P w K mg base "is_list_of" 2 2 (F_is_list_of n)) (D_is_thing : DefOk P w K mg base "is_thing" 1 1 (F_is_thing n)) (D_is_int_from : DefOk P w K mg base "is_int_from" 2 2 (F_is_int_from n)) (D_is_amount_of : DefOk P w K mg base "is_amount_of" 3 2 (F_is_amount_of n)) :
    DefOk P w K mg base "is_part" (3 + 1) 2 (F_is_part n) := by
  refine def_ok (k := 3) (body := b_is_part n) FA sc_is_part shut (.inl rfl) fun f cdv A outer s H E hr => ?_
  have tk : Takes (cxOf (L2.CX P w) P w K mg base N_is_part "is_part" (defScope s_is_part) f cdv A outer s H E) (fun c d _ H => E c d H) := takes_of rfl rfl rfl rfl
  have hp : PassesOwn (model P w) (A.deeper (envOfC "is_part" (defScope s_is_part) s.heap.objs.size f cdv)) (envOfC "is_part" (defScope s_is_part) s.heap.objs.size f cdv) (cxOf (L2.CX P w) P w K mg base N_is_part "is_part" (defScope s_is_part) f cdv A outer s H E).xe := passes_of (X := cxOf (L2.CX P w) P w K mg base N_is_part "is_part" (defScope s_is_part) f cdv A outer s H E) rfl
  have nd : (N_is_part).Nodup := sc_is_part.nd
  exact (vss_cons (vs_if (vt_not (vt_tru (ve_callD D_is_list_of hr tk (va_cons (ve_var 1) (va_cons ve_int va_nil)) (.cons (.cons .nil))))) (vss_one (vs_ret ve_bl)) vss_nil) (vss_cons (vs_sets (ve_var 1) (vg_tp rfl (vgs_cons (vg_nm nd) (vgs_cons (vg_nm nd) (vgs_cons (vg_nm nd) vgs_nil))) 3)) (vss_cons (vs_if (vt_w (vw_or (vt_not (vt_tru (ve_callD D_is_thing hr tk (va_cons (ve_var 2) va_nil) (.cons .nil)))) (vw_or (vt_not (vt_tru (ve_callD D_is_int_from hr tk (va_cons (ve_var 3) (va_cons ve_int va_nil)) (.cons (.cons .nil))))) (vw_or1 (vt_not (vt_tru (ve_callD D_is_amount_of hr tk (va_cons (ve_var 4) (va_cons (ve_callB (b_lenN) rfl n_len bt_len (va_cons (ve_var 0) va_nil)) va_nil)) (.cons (.cons .nil))))))))) (vss_one (vs_ret ve_bl)) vss_nil) (vss_one (vs_ret (ve_callB (b_all rfl) rfl n_all bt_all (va_cons (ve_lc (own := [("word", 5), ("more", 6)]) rfl nd (vi_zip n_zip (va_cons (ve_var 0) (va_cons (ve_var 4) va_nil))) (blkOk_by (N := N_is_part) (sc := (defScope s_is_part)) (by decide +kernel)) (fun _ _ _ _ _ => (vg_tp rfl (vgs_cons (vg_nm nd) (vgs_cons (vg_nm nd) vgs_nil)) 2)) (fun _ _ _ _ _ => vts_nil) (fun _ _ _ _ _ => (ve_or (ve_cmp (o_eq (hu64 hr)) (ve_var 5) ve_str) (ve_one (ve_cmp (o_eq (hu64 hr)) (ve_var 6) ve_int))))) va_nil)))))))
/-! is_rule_of -/
abbrev N_is_rule_of : List Str := ["sorts", "thing", "head", "parts", "own", "how", "part", "sort", "word"]
abbrev s_is_rule_of : Stmt := top 33
theorem sc_is_rule_of : FnScope N_is_rule_of ["sorts", "thing"] (defScope s_is_rule_of) := ⟨rfl, rfl, rfl, by decide +kernel, rfl, by decide +kernel, by decide +kernel⟩
noncomputable def b_is_rule_of (n : Nat) : S → Fl := (sSeq (sIf (bNot (bTru (eCall (F_is_list_of n) (aCons (eVar 1) (aCons (eC (.int 4)) aNil))))) (sRet (eC (.bl false))) sNext) (sSeq (sSets (.tp [(.nm 2), (.nm 3), (.nm 4), (.nm 5)]) (eVar 1)) (sSeq (sIf (bOr (bNot (bTru (eCall (F_is_thing n) (aCons (eVar 2) aNil)))) (bOr (bNot (bTru (eCall (F_is_list n) (aCons (eVar 3) aNil)))) (bOr (bNot (bTru (eCall (F_is_amount_of n) (aCons (eVar 4) (aCons (eOpN lenN (aCons (eVar 0) aNil)) aNil))))) (bNot (bTru (eCall (F_is_list_of n) (aCons (eVar 5) (aCons (eOpN lenN (aCons (eVar 0) aNil)) aNil)))))))) (sRet (eC (.bl false))) sNext) (sRet (eAnd (eOpN (one fAll) (aCons (eLc [7, 8] (.tp [(.nm 7), (.nm 8)]) (iZip (aCons (eVar 0) (aCons (eVar 5) aNil))) bYes (eCall (F_is_way n) (aCons (eVar 7) (aCons (eVar 8) aNil)))) aNil)) (eOpN (one fAll) (aCons (eLc [6] (.nm 6) (iSeq (eVar 3)) bYes (eCall (F_is_part n) (aCons (eVar 5) (aCons (eVar 6) aNil)))) aNil)))))))
noncomputable def F_is_rule_of (n : Nat) : Fn := fun ws ce => shut ce.length (b_is_rule_of n (entry 9 ws ce))
theorem ok_is_rule_of {P : Program} {w : World} {K : PySem.W.Frag} {mg : Str → Option Value} {base : Heap} (n : Nat) (FA : FunAt K mg "is_rule_of" s_is_rule_of ["sorts", "thing"]) (n_all : mg "all" = none) (n_len : mg "len" = none) (n_zip : mg "zip" = none) (D_is_list_of : DefOk P w K mg base "is_list_of" 2 2 (F_is_list_of n)) (D_is_thing : DefOk P w K mg base "is_thing" 1 1 (F_is_thing n)) (D_is_list : DefOk P w K mg base "is_list" 1 1 (F_is_list n)) (D_is_amount_of : DefOk P w K mg base "is_amount_of" 3 2 (F_is_amount_of n)) (D_is_way : DefOk P w K mg base "is_way" 1 2 (F_is_way n)) (D_is_part : DefOk P w K mg base "is_part" 4 2 (F_is_part n)) :
    DefOk P w K mg base "is_rule_of" (4 + 1) 2 (F_is_rule_of n) := by
  refine def_ok (k := 4) (body := b_is_rule_of n) FA sc_is_rule_of shut (.inl rfl) fun f cdv A outer s H E hr => ?_
  have tk : Takes (cxOf (L2.CX P w) P w K mg base N_is_rule_of "is_rule_of" (defScope s_is_rule_of) f cdv A outer s H E) (fun c d _ H => E c d H) := takes_of rfl rfl rfl rfl
  have hp : PassesOwn (model P w) (A.deeper (envOfC "is_rule_of" (defScope s_is_rule_of) s.heap.objs.size f cdv)) (envOfC "is_rule_of" (defScope s_is_rule_of) s.heap.objs.size f cdv) (cxOf (L2.CX P w) P w K mg base N_is_rule_of "is_rule_of" (defScope s_is_rule_of) f cdv A outer s H E).xe := passes_of (X := cxOf (L2.CX P w) P w K mg base N_is_rule_of "is_rule_of" (defScope s_is_rule_of) f cdv A outer s H E) rfl
  have nd : (N_is_rule_of).Nodup := sc_is_rule_of.nd
  exact (vss_cons (vs_if (vt_not (vt_tru (ve_callD D_is_list_of hr tk (va_cons (ve_var 1) (va_cons ve_int va_nil)) (.cons (.cons .nil))))) (vss_one (vs_ret ve_bl)) vss_nil) (vss_cons (vs_sets (ve_var 1) (vg_tp rfl (vgs_cons (vg_nm nd) (vgs_cons (vg_nm nd) (vgs_cons (vg_nm nd) (vgs_cons (vg_nm nd) vgs_nil)))) 4)) (vss_cons (vs_if (vt_w (vw_or (vt_not (vt_tru (ve_callD D_is_thing hr tk (va_cons (ve_var 2) va_nil) (.cons .nil)))) (vw_or (vt_not (vt_tru (ve_callD D_is_list hr tk (va_cons (ve_var 3) va_nil) (.cons .nil)))) (vw_or (vt_not (vt_tru (ve_callD D_is_amount_of hr tk (va_cons (ve_var 4) (va_cons (ve_callB (b_lenN) rfl n_len bt_len (va_cons (ve_var 0) va_nil)) va_nil)) (.cons (.cons .nil))))) (vw_or1 (vt_not (vt_tru (ve_callD D_is_list_of hr tk (va_cons (ve_var 5) (va_cons (ve_callB (b_lenN) rfl n_len bt_len (va_cons (ve_var 0) va_nil)) va_nil)) (.cons (.cons .nil)))))))))) (vss_one (vs_ret ve_bl)) vss_nil) (vss_one (vs_ret (ve_and (ve_callB (b_all rfl) rfl n_all bt_all (va_cons (ve_lc (own := [("sort", 7), ("word", 8)]) rfl nd (vi_zip n_zip (va_cons (ve_var 0) (va_cons (ve_var 5) va_nil))) (blkOk_by (N := N_is_rule_of) (sc := (defScope s_is_rule_of)) (by decide +kernel)) (fun _ _ _ _ _ => (vg_tp rfl (vgs_cons (vg_nm nd) (vgs_cons (vg_nm nd) vgs_nil)) 2)) (fun _ _ _ _ _ => vts_nil) (fun _ _ _ _ _ => (ve_callD D_is_way hr VL.takes0 (va_cons (ve_var 7) (va_cons (ve_var 8) va_nil)) (.cons (.cons .nil))))) va_nil)) (ve_one (ve_callB (b_all rfl) rfl n_all bt_all (va_cons (ve_lc (own := [("part", 6)]) rfl nd (vi_seq (ve_var 3)) (blkOk_by (N := N_is_rule_of) (sc := (defScope s_is_rule_of)) (by decide +kernel)) (fun _ _ _ _ _ => (vg_nm nd)) (fun _ _ _ _ _ => vts_nil) (fun _ _ _ _ _ => (ve_callD D_is_part hr VL.takes0 (va_cons (ve_var 5) (va_cons (ve_var 6) va_nil)) (.cons (.cons .nil))))) va_nil)))))))))
/-! as_tuples -/
abbrev N_as_tuples : List Str := ["rule", "head", "parts", "own", "how", "name", "times", "extra"]
abbrev s_as_tuples : Stmt := top 34
theorem sc_as_tuples : FnScope N_as_tuples ["rule"] (defScope s_as_tuples) := ⟨rfl, rfl, rfl, by decide +kernel, rfl, by decide +kernel, by decide +kernel⟩
noncomputable def b_as_tuples (n : Nat) : S → Fl := (sSeq (sSets (.tp [(.nm 1), (.nm 2), (.nm 3), (.nm 4)]) (eVar 0)) (sRet (eTup (aCons (eVar 1) (aCons (eOpN (one fTuple) (aCons (eLc [5, 6, 7] (.tp [(.nm 5), (.nm 6), (.nm 7)]) (iSeq (eVar 2)) bYes (eTup (aCons (eVar 5) (aCons (eVar 6) (aCons (eOpN (one fTuple) (aCons (eVar 7) aNil)) aNil))))) aNil)) (aCons (eOpN (one fTuple) (aCons (eVar 3) aNil)) (aCons (eOpN (one fTuple) (aCons (eVar 4) aNil)) aNil)))))))
noncomputable def F_as_tuples (n : Nat) : Fn := fun ws ce => shut ce.length (b_as_tuples n (entry 8 ws ce))
theorem ok_as_tuples {P : Program} {w : World} {K : PySem.W.Frag} {mg : Str → Option Value} {base : Heap} (n : Nat) (FA : FunAt K mg "as_tuples" s_as_tuples ["rule"]) (n_tuple : mg "tuple" = none) :
    DefOk P w K mg base "as_tuples" (0 + 1) 1 (F_as_tuples n) := by
  refine def_ok (k := 0) (body := b_as_tuples n) FA sc_as_tuples shut (.inl rfl) fun f cdv A outer s H E hr => ?_
  have tk : Takes (cxOf (L2.CX P w) P w K mg base N_as_tuples "as_tuples" (defScope s_as_tuples) f cdv A outer s H E) (fun c d _ H => E c d H) := takes_of rfl rfl rfl rfl
  have hp : PassesOwn (model P w) (A.deeper (envOfC "as_tuples" (defScope s_as_tuples) s.heap.objs.size f cdv)) (envOfC "as_tuples" (defScope s_as_tuples) s.heap.objs.size f cdv) (cxOf (L2.CX P w) P w K mg base N_as_tuples "as_tuples" (defScope s_as_tuples) f cdv A outer s H E).xe := passes_of (X := cxOf (L2.CX P w) P w K mg base N_as_tuples "as_tuples" (defScope s_as_tuples) f cdv A outer s H E) rfl
  have nd : (N_as_tuples).Nodup := sc_as_tuples.nd
  exact (vss_cons (vs_sets (ve_var 0) (vg_tp rfl (vgs_cons (vg_nm nd) (vgs_cons (vg_nm nd) (vgs_cons (vg_nm nd) (vgs_cons (vg_nm nd) vgs_nil)))) 4)) (vss_one (vs_ret (ve_tup (va_cons (ve_var 1) (va_cons (ve_callTy b_tuple rfl n_tuple bt_tuple (va_cons (ve_lc (own := [("name", 5), ("times", 6), ("extra", 7)]) rfl nd (vi_seq (ve_var 2)) (blkOk_by (N := N_as_tuples) (sc := (defScope s_as_tuples)) (by decide +kernel)) (fun _ _ _ _ _ => (vg_tp rfl (vgs_cons (vg_nm nd) (vgs_cons (vg_nm nd) (vgs_cons (vg_nm nd) vgs_nil))) 3)) (fun _ _ _ _ _ => vts_nil) (fun _ _ _ _ _ => (ve_tup (va_cons (ve_var 5) (va_cons (ve_var 6) (va_cons (ve_callTy b_tuple rfl n_tuple bt_tuple (va_cons (ve_var 7) va_nil)) va_nil)))))) va_nil)) (va_cons (ve_callTy b_tuple rfl n_tuple bt_tuple (va_cons (ve_var 3) va_nil)) (va_cons (ve_callTy b_tuple rfl n_tuple bt_tuple (va_cons (ve_var 4) va_nil)) va_nil))))))))
/-! _law_source -/
abbrev N__law_source : List Str := ["script", "place", "cell", "seed", "other"]
abbrev s__law_source : Stmt := top 37
theorem sc__law_source : FnScope N__law_source ["script", "place"] (defScope s__law_source) := ⟨rfl, rfl, rfl, by decide +kernel, rfl, by decide +kernel, by decide +kernel⟩
noncomputable def b__law_source (n : Nat) : S → Fl := (sSeq (sSet 2 (eIf (bOf (eOp2 (two fLt) (eVar 1) (eOpN lenN (aCons (eVar 0) aNil)))) (eIxZ (eVar 0) (eVar 1)) (eOp2 (two fAdd) (eOp2 (two fAdd) (eOp2 (two fMod) (eOpN (one fInt) (aCons (eOpN (one fSum) (aCons (eSl (eVar 0) oNone (oSome (eC (.int 1)))) aNil)) aNil)) (eC (.int 1000003))) (eOp2 (two fMul) (eC (.int 13)) (eVar 1))) (eC (.int 3))))) (sSeq (sSet 3 (eOp2 (two fAdd) (eOp2 (two fMul) (eC (.int 7919)) (eVar 1)) (eC (.int 17)))) (sSeq (sFor (.nm 4) (iSeq (eVar 0)) (sSet 3 (eOp2 (two fMod) (eOpN (one fInt) (aCons (eOp2 (two fAdd) (eOp2 (two fMul) (eVar 3) (eC (.int 37))) (eVar 4)) aNil)) (eC (.int 2147483629))))) (sRet (eCell (aCons (eIf (bOf (eOp2 (two fGe) (eVar 2) (eOp2 (two fPow) (eC (.int 10)) (eC (.int 18))))) (eVar 2) (eC (.int 0))) (aCons (eOp2 (two fMod) (eOpN (one fInt) (aCons (eOp2 (two fAdd) (eVar 3) (eOp2 (two fMul) (eC (.int 48271)) (eVar 2))) aNil)) (eC (.int 2147483629))) (aCons (eC (.int 0)) aNil))))))))
noncomputable def F__law_source (n : Nat) : Fn := fun ws ce => (fun _ => keep) ce.length (b__law_source n (entry 5 ws ce))
theorem ok__law_source {P : Program} {w : World} {K : PySem.W.Frag} {mg : Str → Option Value} {base : Heap} (n : Nat) (FA : FunAt K mg "_law_source" s__law_source ["script", "place"]) (n_int : mg "int" = none) (n_len : mg "len" = none) (n_sum : mg "sum" = none) :
    DefOk P w K mg base "_law_source" (0 + 1) 2 (F__law_source n) := by
  refine def_ok (k := 0) (body := b__law_source n) FA sc__law_source (fun _ => keep) (.inr rfl) fun f cdv A outer s H E hr => ?_
  have tk : Takes (cxOf (L2.CX P w) P w K mg base N__law_source "_law_source" (defScope s__law_source) f cdv A outer s H E) (fun c d _ H => E c d H) := takes_of rfl rfl rfl rfl
  have hp : PassesOwn (model P w) (A.deeper (envOfC "_law_source" (defScope s__law_source) s.heap.objs.size f cdv)) (envOfC "_law_source" (defScope s__law_source) s.heap.objs.size f cdv) (cxOf (L2.CX P w) P w K mg base N__law_source "_law_source" (defScope s__law_source) f cdv A outer s H E).xe := passes_of (X := cxOf (L2.CX P w) P w K mg base N__law_source "_law_source" (defScope s__law_source) f cdv A outer s H E) rfl
  have nd : (N__law_source).Nodup := sc__law_source.nd
  exact (vss_cons (vs_set 2 nd (ve_if (vt_cmp o_lt (ve_var 1) (ve_callB (b_lenN) rfl n_len bt_len (va_cons (ve_var 0) va_nil))) (ve_ixZ (hu198 hr) (ve_var 0) (ve_var 1)) (ve_bin o_add (ve_bin o_add (ve_bin o_mod (ve_callTy b_int rfl n_int bt_int (va_cons (ve_callB (b_sum rfl) rfl n_sum bt_sum (va_cons (ve_sl (ve_var 0) vo_none (vo_some ve_int)) va_nil)) va_nil)) ve_int) (ve_bin o_mul ve_int (ve_var 1))) ve_int))) (vss_cons (vs_set 3 nd (ve_bin o_add (ve_bin o_mul ve_int (ve_var 1)) ve_int)) (vss_cons (vs_for hp rfl (vi_seq (ve_var 0)) (vg_nm nd) (vss_one (vs_set 3 nd (ve_bin o_mod (ve_callTy b_int rfl n_int bt_int (va_cons (ve_bin o_add (ve_bin o_mul (ve_var 3) ve_int) (ve_var 4)) va_nil)) ve_int)))) (vss_one (vs_ret (ve_cell (va_cons (ve_if (vt_cmp o_ge (ve_var 2) (ve_bin o_pow ve_int ve_int)) (ve_var 2) ve_int) (va_cons (ve_bin o_mod (ve_callTy b_int rfl n_int bt_int (va_cons (ve_bin o_add (ve_var 3) (ve_bin o_mul ve_int (ve_var 2))) va_nil)) ve_int) (va_cons ve_int va_nil)))))))))
/-! _law_draw -/
abbrev N__law_draw : List Str := ["draws", "many", "seed", "found"]
abbrev s__law_draw : Stmt := top 38
theorem sc__law_draw : FnScope N__law_draw ["draws", "many"] (defScope s__law_draw) := ⟨rfl, rfl, rfl, by decide +kernel, rfl, by decide +kernel, by decide +kernel⟩
noncomputable def b__law_draw (n : Nat) : S → Fl := (sSeq (sIf (bOf (eOp2 (two fGt) (eIxZ (eVar 0) (eC (.int 0))) (eC (.int 0)))) (sSeq (sSet 3 (eOp2 (two fMod) (eOpN (one fInt) (aCons (eIxZ (eVar 0) (eC (.int 0))) aNil)) (eVar 1))) (sSeq (sSetZ (eVar 0) (eC (.int 0)) (eOp2 (two fDiv) (eIxZ (eVar 0) (eC (.int 0))) (eVar 1))) (sRet (eVar 3)))) sNext) (sSeq (sSetZ (eVar 0) (eC (.int 2)) (eOp2 (two fAdd) (eIxZ (eVar 0) (eC (.int 2))) (eC (.int 1)))) (sSeq (sSet 2 (eOp2 (two fMod) (eOp2 (two fPow) (eOpN (one fInt) (aCons (eOp2 (two fAdd) (eIxZ (eVar 0) (eC (.int 1))) (eOp2 (two fMul) (eC (.int 7919)) (eIxZ (eVar 0) (eC (.int 2))))) aNil)) (eC (.int 5))) (eC (.int 2147483647)))) (sRet (eOp2 (two fMod) (eOp2 (two fDiv) (eOp2 (two fMod) (eOpN (one fInt) (aCons (eOp2 (two fMul) (eOp2 (two fAdd) (eVar 2) (eIxZ (eVar 0) (eC (.int 2)))) (eC (.int 40692))) aNil)) (eC (.int 2147483629))) (eC (.int 16))) (eVar 1))))))
noncomputable def F__law_draw (n : Nat) : Fn := fun ws ce => shut ce.length (b__law_draw n (entry 4 ws ce))
theorem ok__law_draw {P : Program} {w : World} {K : PySem.W.Frag} {mg : Str → Option Value} {base : Heap} (n : Nat) (FA : FunAt K mg "_law_draw" s__law_draw ["draws", "many"]) (n_int : mg "int" = none) :
    DefOk P w K mg base "_law_draw" (0 + 1) 2 (F__law_draw n) := by
  refine def_ok (k := 0) (body := b__law_draw n) FA sc__law_draw shut (.inl rfl) fun f cdv A outer s H E hr => ?_
  have tk : Takes (cxOf (L2.CX P w) P w K mg base N__law_draw "_law_draw" (defScope s__law_draw) f cdv A outer s H E) (fun c d _ H => E c d H) := takes_of rfl rfl rfl rfl
  have hp : PassesOwn (model P w) (A.deeper (envOfC "_law_draw" (defScope s__law_draw) s.heap.objs.size f cdv)) (envOfC "_law_draw" (defScope s__law_draw) s.heap.objs.size f cdv) (cxOf (L2.CX P w) P w K mg base N__law_draw "_law_draw" (defScope s__law_draw) f cdv A outer s H E).xe := passes_of (X := cxOf (L2.CX P w) P w K mg base N__law_draw "_law_draw" (defScope s__law_draw) f cdv A outer s H E) rfl
  have nd : (N__law_draw).Nodup := sc__law_draw.nd
  exact (vss_cons (vs_if (vt_cmp o_gt (ve_ixZ (hu198 hr) (ve_var 0) ve_int) ve_int) (vss_cons (vs_set 3 nd (ve_bin o_mod (ve_callTy b_int rfl n_int bt_int (va_cons (ve_ixZ (hu198 hr) (ve_var 0) ve_int) va_nil)) (ve_var 1))) (vss_cons (vs_setZ (hu198 hr) (ve_var 0) ve_int (ve_bin o_div (ve_ixZ (hu198 hr) (ve_var 0) ve_int) (ve_var 1))) (vss_one (vs_ret (ve_var 3))))) vss_nil) (vss_cons (vs_setZ (hu198 hr) (ve_var 0) ve_int (ve_bin o_add (ve_ixZ (hu198 hr) (ve_var 0) ve_int) ve_int)) (vss_cons (vs_set 2 nd (ve_bin o_mod (ve_bin o_pow (ve_callTy b_int rfl n_int bt_int (va_cons (ve_bin o_add (ve_ixZ (hu198 hr) (ve_var 0) ve_int) (ve_bin o_mul ve_int (ve_ixZ (hu198 hr) (ve_var 0) ve_int))) va_nil)) ve_int) ve_int)) (vss_one (vs_ret (ve_bin o_mod (ve_bin o_div (ve_bin o_mod (ve_callTy b_int rfl n_int bt_int (va_cons (ve_bin o_mul (ve_bin o_add (ve_var 2) (ve_ixZ (hu198 hr) (ve_var 0) ve_int)) ve_int) va_nil)) ve_int) ve_int) (ve_var 1)))))))
/-! _law_pick -/
abbrev N__law_pick : List Str := ["draws", "some"]
abbrev s__law_pick : Stmt := top 39
theorem sc__law_pick : FnScope N__law_pick ["draws", "some"] (defScope s__law_pick) := ⟨rfl, rfl, rfl, by decide +kernel, rfl, by decide +kernel, by decide +kernel⟩
noncomputable def b__law_pick (n : Nat) : S → Fl := (sRet (eIxZ (eVar 1) (eCall (F__law_draw n) (aCons (eVar 0) (aCons (eOpN lenN (aCons (eVar 1) aNil)) aNil)))))
noncomputable def F__law_pick (n : Nat) : Fn := fun ws ce => shut ce.length (b__law_pick n (entry 2 ws ce))
theorem ok__law_pick {P : Program} {w : World} {K : PySem.W.Frag} {mg : Str → Option Value} {base : Heap} (n : Nat) (FA : FunAt K mg "_law_pick" s__law_pick ["draws", "some"]) (n_len : mg "len" = none) (D__law_draw : DefOk P w K mg base "_law_draw" 1 2 (F__law_draw n)) :
    DefOk P w K mg base "_law_pick" (1 + 1) 2 (F__law_pick n) := by
  refine def_ok (k := 1) (body := b__law_pick n) FA sc__law_pick shut (.inl rfl) fun f cdv A outer s H E hr => ?_
  have tk : Takes (cxOf (L2.CX P w) P w K mg base N__law_pick "_law_pick" (defScope s__law_pick) f cdv A outer s H E) (fun c d _ H => E c d H) := takes_of rfl rfl rfl rfl
  have hp : PassesOwn (model P w) (A.deeper (envOfC "_law_pick" (defScope s__law_pick) s.heap.objs.size f cdv)) (envOfC "_law_pick" (defScope s__law_pick) s.heap.objs.size f cdv) (cxOf (L2.CX P w) P w K mg base N__law_pick "_law_pick" (defScope s__law_pick) f cdv A outer s H E).xe := passes_of (X := cxOf (L2.CX P w) P w K mg base N__law_pick "_law_pick" (defScope s__law_pick) f cdv A outer s H E) rfl
  have nd : (N__law_pick).Nodup := sc__law_pick.nd
  exact (vss_one (vs_ret (ve_ixZ (hu198 hr) (ve_var 1) (ve_callD D__law_draw hr tk (va_cons (ve_var 0) (va_cons (ve_callB (b_lenN) rfl n_len bt_len (va_cons (ve_var 1) va_nil)) va_nil)) (.cons (.cons .nil))))))
/-! Program___eq__ -/
abbrev N_Program___eq__ : List Str := ["self", "other"]
abbrev s_Program___eq__ : Stmt := sub 35 7
theorem sc_Program___eq__ : FnScope N_Program___eq__ ["self", "other"] (defScope s_Program___eq__) := ⟨rfl, rfl, rfl, by decide +kernel, rfl, by decide +kernel, by decide +kernel⟩
noncomputable def b_Program___eq__ (n : Nat) : S → Fl := (sRet (eAnd (eIsiZ OWN [.inr "Program"] (eVar 1)) (eAnd (eOp2 (two fEq) (eAttr ["Program"] "_sorts" (eVar 0)) (eAttr ["Program"] "_sorts" (eVar 1))) (eOp2 (two fEq) (eAttr ["Program"] "_rules" (eVar 0)) (eAttr ["Program"] "_rules" (eVar 1))))))
noncomputable def F_Program___eq__ (n : Nat) : Fn := fun ws ce => shut ce.length (b_Program___eq__ n (entry 2 ws ce))
theorem ok_Program___eq__ {P : Program} {w : World} {K : PySem.W.Frag} {mg : Str → Option Value} {base : Heap} (n : Nat) (n_isinstance : mg "isinstance" = none) (IT : IsTab K mg OWN) {A_Program : Addr} (G_Program : mg "Program" = some (.ref A_Program)) (Fd__sorts : FldC K mg ["Program"] "_sorts") (Fd__rules : FldC K mg ["Program"] "_rules") (f : Addr) (fd : FuncData) (Fu : Fun K "__eq__" "Program.__eq__" s_Program___eq__ f fd) :
    FnG P w K mg base (0 + 1) f fd ["self", "other"] (spOf K mg 2 (F_Program___eq__ n)) := by
  refine fn_okG (k := 0) (body := b_Program___eq__ n) Fu sc_Program___eq__ rfl shut (.inl rfl) fun cdv A outer s H E hr => ?_
  have tk : Takes (cxOf (L2.CX P w) P w K mg base N_Program___eq__ "Program.__eq__" (defScope s_Program___eq__) f cdv A outer s H E) (fun c d _ H => E c d H) := takes_of rfl rfl rfl rfl
  have hp : PassesOwn (model P w) (A.deeper (envOfC "Program.__eq__" (defScope s_Program___eq__) s.heap.objs.size f cdv)) (envOfC "Program.__eq__" (defScope s_Program___eq__) s.heap.objs.size f cdv) (cxOf (L2.CX P w) P w K mg base N_Program___eq__ "Program.__eq__" (defScope s_Program___eq__) f cdv A outer s H E).xe := passes_of (X := (cxOf (L2.CX P w) P w K mg base N_Program___eq__ "Program.__eq__" (defScope s_Program___eq__) f cdv A outer s H E)) rfl
  have nd : (N_Program___eq__).Nodup := sc_Program___eq__.nd
  exact (vss_one (vs_ret (ve_and (ve_isi1 (y := .inr "Program") (cv := .ref A_Program) IT (by decide) n_isinstance (ve_var 1) (pe_glob rfl G_Program rfl (by decide)) ⟨_, G_Program, rfl⟩) (ve_and (ve_cmp (o_eq (hu64 hr)) (ve_attr Fd__sorts (ve_var 0)) (ve_attr Fd__sorts (ve_var 1))) (ve_one (ve_cmp (o_eq (hu64 hr)) (ve_attr Fd__rules (ve_var 0)) (ve_attr Fd__rules (ve_var 1))))))))
/-! _law_same -/
abbrev N__law_same : List Str := ["found", "due", "x", "y"]
abbrev s__law_same : Stmt := top 40
theorem sc__law_same : FnScope N__law_same ["found", "due"] (defScope s__law_same) := ⟨rfl, rfl, rfl, by decide +kernel, rfl, by decide +kernel, by decide +kernel⟩
noncomputable def b__law_same (F__law_same' : Fn) (n : Nat) : S → Fl := (sSeq (sIf (bTru (eIsiZ OWN [.inl "list", .inl "tuple"] (eVar 1))) (sSeq (sIf (bOr (bOf (eOp2 (two fNe) (eIsiZ OWN [.inl "list"] (eVar 0)) (eIsiZ OWN [.inl "list"] (eVar 1)))) (bOf (eOp2 (two fNe) (eIsiZ OWN [.inl "tuple"] (eVar 0)) (eIsiZ OWN [.inl "tuple"] (eVar 1))))) (sRet (eC (.bl false))) sNext) (sRet (eAnd (eEqZ "Program" (F_Program___eq__ n) (eOpN lenN (aCons (eVar 0) aNil)) (eOpN lenN (aCons (eVar 1) aNil))) (eOpN (one fAll) (aCons (eLc [2, 3] (.tp [(.nm 2), (.nm 3)]) (iZip (aCons (eVar 0) (aCons (eVar 1) aNil))) bYes (eCall F__law_same' (aCons (eVar 2) (aCons (eVar 3) aNil)))) aNil))))) sNext) (sSeq (sIf (bTru (eIsiZ OWN [.inl "dict"] (eVar 1))) (sRet (eAnd (eIsiZ OWN [.inl "dict"] (eVar 0)) (eCall F__law_same' (aCons (eItems (eVar 0)) (aCons (eItems (eVar 1)) aNil))))) sNext) (sSeq (sIf (bTru (eIsiZ OWN [.inl "int"] (eVar 1))) (sRet (eAnd (eIsiZ OWN [.inl "int"] (eVar 0)) (eAnd (eEqZ "Program" (F_Program___eq__ n) (eIsiZ OWN [.inl "bool"] (eVar 0)) (eIsiZ OWN [.inl "bool"] (eVar 1))) (eEqZ "Program" (F_Program___eq__ n) (eVar 0) (eVar 1))))) sNext) (sRet (eAnd (eNot (eIsiZ OWN [.inl "int", .inl "list", .inl "tuple", .inl "dict"] (eVar 0))) (eEqZ "Program" (F_Program___eq__ n) (eVar 0) (eVar 1)))))))
noncomputable def F__law_same (n : Nat) : Nat → Fn
  | 0 => fun _ _ => .bad
  | m + 1 => fun ws ce => shut ce.length (b__law_same (F__law_same n m) n (entry 4 ws ce))
theorem ok1__law_same {P : Program} {w : World} {K : PySem.W.Frag} {mg : Str → Option Value} {base : Heap} (n : Nat) (FA : FunAt K mg "_law_same" s__law_same ["found", "due"]) {F__law_same' : Fn} {kk : Nat} (D__law_same : DefOk P w K mg base "_law_same" kk 2 F__law_same') (n_all : mg "all" = none) (n_bool : mg "bool" = none) (n_dict : mg "dict" = none) (n_int : mg "int" = none) (n_isinstance : mg "isinstance" = none) (n_len : mg "len" = none) (n_list : mg "list" = none) (n_tuple : mg "tuple" = none) (n_zip : mg "zip" = none) (IT : IsTab K mg OWN) (EQ_Program : EqOk P w K mg base "Program" 1 (F_Program___eq__ n)) :
    DefOk P w K mg base "_law_same" ((max kk 1) + 1) 2 (fun ws ce => shut ce.length (b__law_same F__law_same' n (entry 4 ws ce))) := by
  refine def_ok (k := (max kk 1)) (body := b__law_same F__law_same' n) FA sc__law_same shut (.inl rfl) fun f cdv A outer s H E hr => ?_
  have tk : Takes (cxOf (L2.CX P w) P w K mg base N__law_same "_law_same" (defScope s__law_same) f cdv A outer s H E) (fun c d _ H => E c d H) := takes_of rfl rfl rfl rfl
  have hp : PassesOwn (model P w) (A.deeper (envOfC "_law_same" (defScope s__law_same) s.heap.objs.size f cdv)) (envOfC "_law_same" (defScope s__law_same) s.heap.objs.size f cdv) (cxOf (L2.CX P w) P w K mg base N__law_same "_law_same" (defScope s__law_same) f cdv A outer s H E).xe := passes_of (X := cxOf (L2.CX P w) P w K mg base N__law_same "_law_same" (defScope s__law_same) f cdv A outer s H E) rfl
  have nd : (N__law_same).Nodup := sc__law_same.nd
  exact (vss_cons (vs_if (vt_tru (ve_isiN (ys := [.inl "list", .inl "tuple"]) (cvs := [.ty "list", .ty "tuple"]) IT (by decide) (by decide) n_isinstance (ve_var 1) (pa_cons (pe_bltn (v := .ty "list") rfl n_list bt_list rfl) (pa_cons (pe_bltn (v := .ty "tuple") rfl n_tuple bt_tuple rfl) pa_nil)) (.cons rfl (.cons rfl .nil)))) (vss_cons (vs_if (vt_w (vw_or (vt_cmp (o_ne (hu64 hr)) (ve_isi1 (y := .inl "list") (cv := .ty "list") IT (by decide) n_isinstance (ve_var 0) (pe_bltn (v := .ty "list") rfl n_list bt_list rfl) rfl) (ve_isi1 (y := .inl "list") (cv := .ty "list") IT (by decide) n_isinstance (ve_var 1) (pe_bltn (v := .ty "list") rfl n_list bt_list rfl) rfl)) (vw_or1 (vt_cmp (o_ne (hu64 hr)) (ve_isi1 (y := .inl "tuple") (cv := .ty "tuple") IT (by decide) n_isinstance (ve_var 0) (pe_bltn (v := .ty "tuple") rfl n_tuple bt_tuple rfl) rfl) (ve_isi1 (y := .inl "tuple") (cv := .ty "tuple") IT (by decide) n_isinstance (ve_var 1) (pe_bltn (v := .ty "tuple") rfl n_tuple bt_tuple rfl) rfl))))) (vss_one (vs_ret ve_bl)) vss_nil) (vss_one (vs_ret (ve_and (ve_eqZ (hk := Nat.le_trans (by decide : _ ≤ 1) (Nat.le_max_right _ _)) EQ_Program hr (ve_callB (b_lenN) rfl n_len bt_len (va_cons (ve_var 0) va_nil)) (ve_callB (b_lenN) rfl n_len bt_len (va_cons (ve_var 1) va_nil))) (ve_one (ve_callB (b_all rfl) rfl n_all bt_all (va_cons (ve_lc (own := [("x", 2), ("y", 3)]) rfl nd (vi_zip n_zip (va_cons (ve_var 0) (va_cons (ve_var 1) va_nil))) (blkOk_by (N := N__law_same) (sc := (defScope s__law_same)) (by decide +kernel)) (fun _ _ _ _ _ => (vg_tp rfl (vgs_cons (vg_nm nd) (vgs_cons (vg_nm nd) vgs_nil)) 2)) (fun _ _ _ _ _ => vts_nil) (fun _ _ _ _ _ => (ve_callD (hk := Nat.le_max_left _ _) D__law_same hr VL.takes0 (va_cons (ve_var 2) (va_cons (ve_var 3) va_nil)) (.cons (.cons .nil))))) va_nil))))))) vss_nil) (vss_cons (vs_if (vt_tru (ve_isi1 (y := .inl "dict") (cv := .ty "dict") IT (by decide) n_isinstance (ve_var 1) (pe_bltn (v := .ty "dict") rfl n_dict bt_dict rfl) rfl)) (vss_one (vs_ret (ve_and (ve_isi1 (y := .inl "dict") (cv := .ty "dict") IT (by decide) n_isinstance (ve_var 0) (pe_bltn (v := .ty "dict") rfl n_dict bt_dict rfl) rfl) (ve_one (ve_callD (hk := Nat.le_max_left _ _) D__law_same hr tk (va_cons (ve_listItems rfl (ve_var 0) n_list) (va_cons (ve_listItems rfl (ve_var 1) n_list) va_nil)) (.cons (.cons .nil))))))) vss_nil) (vss_cons (vs_if (vt_tru (ve_isi1 (y := .inl "int") (cv := .ty "int") IT (by decide) n_isinstance (ve_var 1) (pe_bltn (v := .ty "int") rfl n_int bt_int rfl) rfl)) (vss_one (vs_ret (ve_and (ve_isi1 (y := .inl "int") (cv := .ty "int") IT (by decide) n_isinstance (ve_var 0) (pe_bltn (v := .ty "int") rfl n_int bt_int rfl) rfl) (ve_and (ve_eqZ (hk := Nat.le_trans (by decide : _ ≤ 1) (Nat.le_max_right _ _)) EQ_Program hr (ve_isi1 (y := .inl "bool") (cv := .ty "bool") IT (by decide) n_isinstance (ve_var 0) (pe_bltn (v := .ty "bool") rfl n_bool bt_bool rfl) rfl) (ve_isi1 (y := .inl "bool") (cv := .ty "bool") IT (by decide) n_isinstance (ve_var 1) (pe_bltn (v := .ty "bool") rfl n_bool bt_bool rfl) rfl)) (ve_one (ve_eqZ (hk := Nat.le_trans (by decide : _ ≤ 1) (Nat.le_max_right _ _)) EQ_Program hr (ve_var 0) (ve_var 1))))))) vss_nil) (vss_one (vs_ret (ve_and (ve_not (ve_isiN (ys := [.inl "int", .inl "list", .inl "tuple", .inl "dict"]) (cvs := [.ty "int", .ty "list", .ty "tuple", .ty "dict"]) IT (by decide) (by decide) n_isinstance (ve_var 0) (pa_cons (pe_bltn (v := .ty "int") rfl n_int bt_int rfl) (pa_cons (pe_bltn (v := .ty "list") rfl n_list bt_list rfl) (pa_cons (pe_bltn (v := .ty "tuple") rfl n_tuple bt_tuple rfl) (pa_cons (pe_bltn (v := .ty "dict") rfl n_dict bt_dict rfl) pa_nil)))) (.cons rfl (.cons rfl (.cons rfl (.cons rfl .nil)))))) (ve_one (ve_eqZ (hk := Nat.le_trans (by decide : _ ≤ 1) (Nat.le_max_right _ _)) EQ_Program hr (ve_var 0) (ve_var 1)))))))))
theorem ok__law_same {P : Program} {w : World} {K : PySem.W.Frag} {mg : Str → Option Value} {base : Heap} (n : Nat) (FA : FunAt K mg "_law_same" s__law_same ["found", "due"]) (n_all : mg "all" = none) (n_bool : mg "bool" = none) (n_dict : mg "dict" = none) (n_int : mg "int" = none) (n_isinstance : mg "isinstance" = none) (n_len : mg "len" = none) (n_list : mg "list" = none) (n_tuple : mg "tuple" = none) (n_zip : mg "zip" = none) (IT : IsTab K mg OWN) (EQ_Program : EqOk P w K mg base "Program" 1 (F_Program___eq__ n)) : ∀ m, DefOk P w K mg base "_law_same" (2 + m) 2 (F__law_same n m)
  | 0 => def_bad FA
  | m + 1 => (ok1__law_same n FA (ok__law_same n FA n_all n_bool n_dict n_int n_isinstance n_len n_list n_tuple n_zip IT EQ_Program m) n_all n_bool n_dict n_int n_isinstance n_len n_list n_tuple n_zip IT EQ_Program).mono (by have := Nat.max_le.mpr (And.intro (Nat.le_refl (2 + m)) (by omega : 1 ≤ 2 + m)); omega)
/-! _law_number -/
abbrev N__law_number : List Str := ["draws", "way"]
abbrev s__law_number : Stmt := top 41
theorem sc__law_number : FnScope N__law_number ["draws"] (defScope s__law_number) := ⟨rfl, rfl, rfl, by decide +kernel, rfl, by decide +kernel, by decide +kernel⟩
noncomputable def b__law_number (n : Nat) : S → Fl := (sSeq (sSet 1 (eCall (F__law_draw n) (aCons (eVar 0) (aCons (eC (.int 8)) aNil)))) (sSeq (sIf (bOf (eOp2 (two fLt) (eVar 1) (eC (.int 6)))) (sRet (eCall (F__law_draw n) (aCons (eVar 0) (aCons (eIxZ (eLst (aCons (eC (.int 1)) (aCons (eC (.int 4)) (aCons (eC (.int 4)) (aCons (eC (.int 7)) (aCons (eC (.int 7)) (aCons (eC (.int 12)) aNil))))))) (eVar 1)) aNil)))) sNext) (sRet (eIf (bOf (eOp2 (two fEq) (eVar 1) (eC (.int 6)))) (eCall (F__law_draw n) (aCons (eVar 0) (aCons (eC (.int 100)) aNil))) (eCall (F__law_draw n) (aCons (eVar 0) (aCons (eOp2 (two fPow) (eC (.int 10)) (eC (.int 9))) aNil)))))))
noncomputable def F__law_number (n : Nat) : Fn := fun ws ce => shut ce.length (b__law_number n (entry 2 ws ce))
theorem ok__law_number {P : Program} {w : World} {K : PySem.W.Frag} {mg : Str → Option Value} {base : Heap} (n : Nat) (FA : FunAt K mg "_law_number" s__law_number ["draws"]) (D__law_draw : DefOk P w K mg base "_law_draw" 1 2 (F__law_draw n)) :
    DefOk P w K mg base "_law_number" (1 + 1) 1 (F__law_number n) := by
  refine def_ok (k := 1) (body := b__law_number n) FA sc__law_number shut (.inl rfl) fun f cdv A outer s H E hr => ?_
  have tk : Takes (cxOf (L2.CX P w) P w K mg base N__law_number "_law_number" (defScope s__law_number) f cdv A outer s H E) (fun c d _ H => E c d H) := takes_of rfl rfl rfl rfl
  have hp : PassesOwn (model P w) (A.deeper (envOfC "_law_number" (defScope s__law_number) s.heap.objs.size f cdv)) (envOfC "_law_number" (defScope s__law_number) s.heap.objs.size f cdv) (cxOf (L2.CX P w) P w K mg base N__law_number "_law_number" (defScope s__law_number) f cdv A outer s H E).xe := passes_of (X := cxOf (L2.CX P w) P w K mg base N__law_number "_law_number" (defScope s__law_number) f cdv A outer s H E) rfl
  have nd : (N__law_number).Nodup := sc__law_number.nd
  exact (vss_cons (vs_set 1 nd (ve_callD D__law_draw hr tk (va_cons (ve_var 0) (va_cons ve_int va_nil)) (.cons (.cons .nil)))) (vss_cons (vs_if (vt_cmp o_lt (ve_var 1) ve_int) (vss_one (vs_ret (ve_callD D__law_draw hr tk (va_cons (ve_var 0) (va_cons (ve_ixZ (hu198 hr) (ve_lst (va_cons ve_int (va_cons ve_int (va_cons ve_int (va_cons ve_int (va_cons ve_int (va_cons ve_int va_nil))))))) (ve_var 1)) va_nil)) (.cons (.cons .nil))))) vss_nil) (vss_one (vs_ret (ve_if (vt_cmp (o_eq (hu64 hr)) (ve_var 1) ve_int) (ve_callD D__law_draw hr tk (va_cons (ve_var 0) (va_cons ve_int va_nil)) (.cons (.cons .nil))) (ve_callD D__law_draw hr tk (va_cons (ve_var 0) (va_cons (ve_bin o_pow ve_int ve_int) va_nil)) (.cons (.cons .nil))))))))
/-! _law_amount -/
abbrev N__law_amount : List Str := ["draws", "many", "k"]
abbrev s__law_amount : Stmt := top 42
theorem sc__law_amount : FnScope N__law_amount ["draws", "many"] (defScope s__law_amount) := ⟨rfl, rfl, rfl, by decide +kernel, rfl, by decide +kernel, by decide +kernel⟩
noncomputable def b__law_amount (n : Nat) : S → Fl := (sRet (eOpN (one fTuple) (aCons (eLc [2] (.nm 2) (iRange1 (aCons (eVar 1) aNil)) bYes (eCall (F__law_number n) (aCons (eVar 0) aNil))) aNil)))
noncomputable def F__law_amount (n : Nat) : Fn := fun ws ce => shut ce.length (b__law_amount n (entry 3 ws ce))
theorem ok__law_amount {P : Program} {w : World} {K : PySem.W.Frag} {mg : Str → Option Value} {base : Heap} (n : Nat) (FA : FunAt K mg "_law_amount" s__law_amount ["draws", "many"]) (n_range : mg "range" = none) (n_tuple : mg "tuple" = none) (D__law_number : DefOk P w K mg base "_law_number" 2 1 (F__law_number n)) :
    DefOk P w K mg base "_law_amount" (2 + 1) 2 (F__law_amount n) := by
  refine def_ok (k := 2) (body := b__law_amount n) FA sc__law_amount shut (.inl rfl) fun f cdv A outer s H E hr => ?_
  have tk : Takes (cxOf (L2.CX P w) P w K mg base N__law_amount "_law_amount" (defScope s__law_amount) f cdv A outer s H E) (fun c d _ H => E c d H) := takes_of rfl rfl rfl rfl
  have hp : PassesOwn (model P w) (A.deeper (envOfC "_law_amount" (defScope s__law_amount) s.heap.objs.size f cdv)) (envOfC "_law_amount" (defScope s__law_amount) s.heap.objs.size f cdv) (cxOf (L2.CX P w) P w K mg base N__law_amount "_law_amount" (defScope s__law_amount) f cdv A outer s H E).xe := passes_of (X := cxOf (L2.CX P w) P w K mg base N__law_amount "_law_amount" (defScope s__law_amount) f cdv A outer s H E) rfl
  have nd : (N__law_amount).Nodup := sc__law_amount.nd
  exact (vss_one (vs_ret (ve_callTy b_tuple rfl n_tuple bt_tuple (va_cons (ve_lc (own := [("k", 2)]) rfl nd (vi_range1 n_range (va_cons (ve_var 1) va_nil)) (blkOk_by (N := N__law_amount) (sc := (defScope s__law_amount)) (by decide +kernel)) (fun _ _ _ _ _ => (vg_nm nd)) (fun _ _ _ _ _ => vts_nil) (fun _ _ _ _ _ => (ve_callD D__law_number hr VL.takes0 (va_cons (ve_var 0) va_nil) (.cons .nil)))) va_nil))))
/-! _law_amounts -/
abbrev N__law_amounts : List Str := ["draws", "many", "size", "found", "k", "way", "elder", "more", "number", "step"]
abbrev s__law_amounts : Stmt := top 43
theorem sc__law_amounts : FnScope N__law_amounts ["draws", "many", "size"] (defScope s__law_amounts) := ⟨rfl, rfl, rfl, by decide +kernel, rfl, by decide +kernel, by decide +kernel⟩
noncomputable def b__law_amounts (n : Nat) : S → Fl := (sSeq (sSet 3 (eCell aNil)) (sSeq (sFor (.nm 4) (iRange1 (aCons (eVar 2) aNil)) (sSeq (sSet 5 (eIf (bOf (eOp2 (two fNe) (eVar 3) (eLst aNil))) (eCall (F__law_draw n) (aCons (eVar 0) (aCons (eC (.int 6)) aNil))) (eC (.int 5)))) (sSeq (sSet 6 (eIf (bOf (eOp2 (two fLt) (eVar 5) (eC (.int 3)))) (eCall (F__law_pick n) (aCons (eVar 0) (aCons (eVar 3) aNil))) (eTup aNil))) (sIf (bOf (eOp2 (two fEq) (eVar 5) (eC (.int 0)))) (sDrop (eAppend (eVar 3) (eVar 6))) (sIf (bOf (eOp2 (two fLt) (eVar 5) (eC (.int 3)))) (sSeq (sSet 7 (eLc [8] (.nm 8) (iSeq (eVar 6)) bYes (eOp2 (two fSub) (eCall (F__law_draw n) (aCons (eVar 0) (aCons (eC (.int 3)) aNil))) (eOpN (one fInt) (aCons (eOp2 (two fEq) (eVar 5) (eC (.int 2))) aNil))))) (sDrop (eAppend (eVar 3) (eOpN (one fTuple) (aCons (eLc [8, 9] (.tp [(.nm 8), (.nm 9)]) (iZip (aCons (eVar 6) (aCons (eVar 7) aNil))) bYes (eOpN fMaxN (aCons (eC (.int 0)) (aCons (eOp2 (two fAdd) (eVar 8) (eVar 9)) aNil)))) aNil))))) (sDrop (eAppend (eVar 3) (eCall (F__law_amount n) (aCons (eVar 0) (aCons (eVar 1) aNil)))))))))) (sRet (eFrzZ (eVar 3)))))
noncomputable def F__law_amounts (n : Nat) : Fn := fun ws ce => shut ce.length (b__law_amounts n (entry 10 ws ce))
theorem ok__law_amounts {P : Program} {w : World} {K : PySem.W.Frag} {mg : Str → Option Value} {base : Heap} (n : Nat) (FA : FunAt K mg "_law_amounts" s__law_amounts ["draws", "many", "size"]) (n_int : mg "int" = none) (n_max : mg "max" = none) (n_range : mg "range" = none) (n_tuple : mg "tuple" = none) (n_zip : mg "zip" = none) (D__law_draw : DefOk P w K mg base "_law_draw" 1 2 (F__law_draw n)) (D__law_pick : DefOk P w K mg base "_law_pick" 2 2 (F__law_pick n)) (D__law_amount : DefOk P w K mg base "_law_amount" 3 2 (F__law_amount n)) :
    DefOk P w K mg base "_law_amounts" (3 + 1) 3 (F__law_amounts n) := by
  refine def_ok (k := 3) (body := b__law_amounts n) FA sc__law_amounts shut (.inl rfl) fun f cdv A outer s H E hr => ?_
  have tk : Takes (cxOf (L2.CX P w) P w K mg base N__law_amounts "_law_amounts" (defScope s__law_amounts) f cdv A outer s H E) (fun c d _ H => E c d H) := takes_of rfl rfl rfl rfl
  have hp : PassesOwn (model P w) (A.deeper (envOfC "_law_amounts" (defScope s__law_amounts) s.heap.objs.size f cdv)) (envOfC "_law_amounts" (defScope s__law_amounts) s.heap.objs.size f cdv) (cxOf (L2.CX P w) P w K mg base N__law_amounts "_law_amounts" (defScope s__law_amounts) f cdv A outer s H E).xe := passes_of (X := cxOf (L2.CX P w) P w K mg base N__law_amounts "_law_amounts" (defScope s__law_amounts) f cdv A outer s H E) rfl
  have nd : (N__law_amounts).Nodup := sc__law_amounts.nd
  exact (vss_cons (vs_set 3 nd (ve_cell va_nil)) (vss_cons (vs_for hp rfl (vi_range1 n_range (va_cons (ve_var 2) va_nil)) (vg_nm nd) (vss_cons (vs_set 5 nd (ve_if (vt_cmp (o_ne (hu64 hr)) (ve_var 3) (ve_lst va_nil)) (ve_callD D__law_draw hr tk (va_cons (ve_var 0) (va_cons ve_int va_nil)) (.cons (.cons .nil))) ve_int)) (vss_cons (vs_set 6 nd (ve_if (vt_cmp o_lt (ve_var 5) ve_int) (ve_callD D__law_pick hr tk (va_cons (ve_var 0) (va_cons (ve_var 3) va_nil)) (.cons (.cons .nil))) (ve_tup va_nil))) (vss_one (vs_if (vt_cmp (o_eq (hu64 hr)) (ve_var 5) ve_int) (vss_one (vs_expr (ve_append (ve_var 3) (ve_var 6)))) (vss_one (vs_if (vt_cmp o_lt (ve_var 5) ve_int) (vss_cons (vs_setLc 7 (own := [("number", 8)]) rfl nd (vi_seq (ve_var 6)) (blkOk_by (N := N__law_amounts) (sc := (defScope s__law_amounts)) (by decide +kernel)) (fun _ _ _ _ _ => (vg_nm nd)) (fun _ _ _ _ _ => vts_nil) (fun _ _ _ _ _ => (ve_bin o_sub (ve_callD D__law_draw hr VL.takes0 (va_cons (ve_var 0) (va_cons ve_int va_nil)) (.cons (.cons .nil))) (ve_callTy b_int rfl n_int bt_int (va_cons (ve_cmp (o_eq (hu64 hr)) (ve_var 5) ve_int) va_nil))))) (vss_one (vs_expr (ve_append (ve_var 3) (ve_callTy b_tuple rfl n_tuple bt_tuple (va_cons (ve_lc (own := [("number", 8), ("step", 9)]) rfl nd (vi_zip n_zip (va_cons (ve_var 6) (va_cons (ve_var 7) va_nil))) (blkOk_by (N := N__law_amounts) (sc := (defScope s__law_amounts)) (by decide +kernel)) (fun _ _ _ _ _ => (vg_tp rfl (vgs_cons (vg_nm nd) (vgs_cons (vg_nm nd) vgs_nil)) 2)) (fun _ _ _ _ _ => vts_nil) (fun _ _ _ _ _ => (ve_callB (b_max rfl (hu198 hr)) rfl n_max bt_max (va_cons ve_int (va_cons (ve_bin o_add (ve_var 8) (ve_var 9)) va_nil))))) va_nil)))))) (vss_one (vs_expr (ve_append (ve_var 3) (ve_callD D__law_amount hr tk (va_cons (ve_var 0) (va_cons (ve_var 1) va_nil)) (.cons (.cons .nil))))))))))))) (vss_one (vs_ret (ve_frzZ (ve_var 3))))))
/-! _law_handed -/
abbrev N__law_handed : List Str := ["draws", "rows", "some", "row"]
abbrev s__law_handed : Stmt := top 44
theorem sc__law_handed : FnScope N__law_handed ["draws", "rows"] (defScope s__law_handed) := ⟨rfl, rfl, rfl, by decide +kernel, rfl, by decide +kernel, by decide +kernel⟩
noncomputable def b__law_handed (n : Nat) : S → Fl := (sSeq (sSet 2 (eLc [3] (.nm 3) (iSeq (eVar 1)) bYes (eIf (bOf (eOp2 (two fEq) (eCall (F__law_draw n) (aCons (eVar 0) (aCons (eC (.int 2)) aNil))) (eC (.int 0)))) (eOpN (one fList) (aCons (eVar 3) aNil)) (eOpN (one fTuple) (aCons (eVar 3) aNil))))) (sRet (eIf (bOf (eOp2 (two fEq) (eCall (F__law_draw n) (aCons (eVar 0) (aCons (eC (.int 2)) aNil))) (eC (.int 0)))) (eVar 2) (eOpN (one fTuple) (aCons (eVar 2) aNil)))))
noncomputable def F__law_handed (n : Nat) : Fn := fun ws ce => shut ce.length (b__law_handed n (entry 4 ws ce))
theorem ok__law_handed {P : Program} {w : World} {K : PySem.W.Frag} {mg : Str → Option Value} {base : Heap} (n : Nat) (FA : FunAt K mg "_law_handed" s__law_handed ["draws", "rows"]) (n_list : mg "list" = none) (n_tuple : mg "tuple" = none) (D__law_draw : DefOk P w K mg base "_law_draw" 1 2 (F__law_draw n)) :
    DefOk P w K mg base "_law_handed" (1 + 1) 2 (F__law_handed n) := by
  refine def_ok (k := 1) (body := b__law_handed n) FA sc__law_handed shut (.inl rfl) fun f cdv A outer s H E hr => ?_
  have tk : Takes (cxOf (L2.CX P w) P w K mg base N__law_handed "_law_handed" (defScope s__law_handed) f cdv A outer s H E) (fun c d _ H => E c d H) := takes_of rfl rfl rfl rfl
  have hp : PassesOwn (model P w) (A.deeper (envOfC "_law_handed" (defScope s__law_handed) s.heap.objs.size f cdv)) (envOfC "_law_handed" (defScope s__law_handed) s.heap.objs.size f cdv) (cxOf (L2.CX P w) P w K mg base N__law_handed "_law_handed" (defScope s__law_handed) f cdv A outer s H E).xe := passes_of (X := cxOf (L2.CX P w) P w K mg base N__law_handed "_law_handed" (defScope s__law_handed) f cdv A outer s H E) rfl
  have nd : (N__law_handed).Nodup := sc__law_handed.nd
  exact (vss_cons (vs_setLc 2 (own := [("row", 3)]) rfl nd (vi_seq (ve_var 1)) (blkOk_by (N := N__law_handed) (sc := (defScope s__law_handed)) (by decide +kernel)) (fun _ _ _ _ _ => (vg_nm nd)) (fun _ _ _ _ _ => vts_nil) (fun _ _ _ _ _ => (ve_if (vt_cmp (o_eq (hu64 hr)) (ve_callD D__law_draw hr VL.takes0 (va_cons (ve_var 0) (va_cons ve_int va_nil)) (.cons (.cons .nil))) ve_int) (ve_callTy b_list rfl n_list bt_list (va_cons (ve_var 3) va_nil)) (ve_callTy b_tuple rfl n_tuple bt_tuple (va_cons (ve_var 3) va_nil))))) (vss_one (vs_ret (ve_if (vt_cmp (o_eq (hu64 hr)) (ve_callD D__law_draw hr tk (va_cons (ve_var 0) (va_cons ve_int va_nil)) (.cons (.cons .nil))) ve_int) (ve_var 2) (ve_callTy b_tuple rfl n_tuple bt_tuple (va_cons (ve_var 2) va_nil))))))
/-! _law_dot -/
abbrev N__law_dot : List Str := ["one", "other", "x", "y"]
abbrev s__law_dot : Stmt := top 45
theorem sc__law_dot : FnScope N__law_dot ["one", "other"] (defScope s__law_dot) := ⟨rfl, rfl, rfl, by decide +kernel, rfl, by decide +kernel, by decide +kernel⟩
noncomputable def b__law_dot (n : Nat) : S → Fl := (sRet (eOpN (one fSum) (aCons (eLc [2, 3] (.tp [(.nm 2), (.nm 3)]) (iZip (aCons (eVar 0) (aCons (eVar 1) aNil))) bYes (eOp2 (two fMul) (eVar 2) (eVar 3))) aNil)))
noncomputable def F__law_dot (n : Nat) : Fn := fun ws ce => shut ce.length (b__law_dot n (entry 4 ws ce))
theorem ok__law_dot {P : Program} {w : World} {K : PySem.W.Frag} {mg : Str → Option Value} {base : Heap} (n : Nat) (FA : FunAt K mg "_law_dot" s__law_dot ["one", "other"]) (n_sum : mg "sum" = none) (n_zip : mg "zip" = none) :
    DefOk P w K mg base "_law_dot" (0 + 1) 2 (F__law_dot n) := by
  refine def_ok (k := 0) (body := b__law_dot n) FA sc__law_dot shut (.inl rfl) fun f cdv A outer s H E hr => ?_
  have tk : Takes (cxOf (L2.CX P w) P w K mg base N__law_dot "_law_dot" (defScope s__law_dot) f cdv A outer s H E) (fun c d _ H => E c d H) := takes_of rfl rfl rfl rfl
  have hp : PassesOwn (model P w) (A.deeper (envOfC "_law_dot" (defScope s__law_dot) s.heap.objs.size f cdv)) (envOfC "_law_dot" (defScope s__law_dot) s.heap.objs.size f cdv) (cxOf (L2.CX P w) P w K mg base N__law_dot "_law_dot" (defScope s__law_dot) f cdv A outer s H E).xe := passes_of (X := cxOf (L2.CX P w) P w K mg base N__law_dot "_law_dot" (defScope s__law_dot) f cdv A outer s H E) rfl
  have nd : (N__law_dot).Nodup := sc__law_dot.nd
  exact (vss_one (vs_ret (ve_callB (b_sum rfl) rfl n_sum bt_sum (va_cons (ve_lc (own := [("x", 2), ("y", 3)]) rfl nd (vi_zip n_zip (va_cons (ve_var 0) (va_cons (ve_var 1) va_nil))) (blkOk_by (N := N__law_dot) (sc := (defScope s__law_dot)) (by decide +kernel)) (fun _ _ _ _ _ => (vg_tp rfl (vgs_cons (vg_nm nd) (vgs_cons (vg_nm nd) vgs_nil)) 2)) (fun _ _ _ _ _ => vts_nil) (fun _ _ _ _ _ => (ve_bin o_mul (ve_var 2) (ve_var 3)))) va_nil))))
/-! _law_most -/
abbrev N__law_most : List Str := ["one", "other", "x", "y"]
abbrev s__law_most : Stmt := top 46
theorem sc__law_most : FnScope N__law_most ["one", "other"] (defScope s__law_most) := ⟨rfl, rfl, rfl, by decide +kernel, rfl, by decide +kernel, by decide +kernel⟩
noncomputable def b__law_most (n : Nat) : S → Fl := (sRet (eOpN (one fAll) (aCons (eLc [2, 3] (.tp [(.nm 2), (.nm 3)]) (iZip (aCons (eVar 0) (aCons (eVar 1) aNil))) bYes (eOp2 (two fLe) (eVar 2) (eVar 3))) aNil)))
noncomputable def F__law_most (n : Nat) : Fn := fun ws ce => shut ce.length (b__law_most n (entry 4 ws ce))
theorem ok__law_most {P : Program} {w : World} {K : PySem.W.Frag} {mg : Str → Option Value} {base : Heap} (n : Nat) (FA : FunAt K mg "_law_most" s__law_most ["one", "other"]) (n_all : mg "all" = none) (n_zip : mg "zip" = none) :
    DefOk P w K mg base "_law_most" (0 + 1) 2 (F__law_most n) := by
  refine def_ok (k := 0) (body := b__law_most n) FA sc__law_most shut (.inl rfl) fun f cdv A outer s H E hr => ?_
  have tk : Takes (cxOf (L2.CX P w) P w K mg base N__law_most "_law_most" (defScope s__law_most) f cdv A outer s H E) (fun c d _ H => E c d H) := takes_of rfl rfl rfl rfl
  have hp : PassesOwn (model P w) (A.deeper (envOfC "_law_most" (defScope s__law_most) s.heap.objs.size f cdv)) (envOfC "_law_most" (defScope s__law_most) s.heap.objs.size f cdv) (cxOf (L2.CX P w) P w K mg base N__law_most "_law_most" (defScope s__law_most) f cdv A outer s H E).xe := passes_of (X := cxOf (L2.CX P w) P w K mg base N__law_most "_law_most" (defScope s__law_most) f cdv A outer s H E) rfl
  have nd : (N__law_most).Nodup := sc__law_most.nd
  exact (vss_one (vs_ret (ve_callB (b_all rfl) rfl n_all bt_all (va_cons (ve_lc (own := [("x", 2), ("y", 3)]) rfl nd (vi_zip n_zip (va_cons (ve_var 0) (va_cons (ve_var 1) va_nil))) (blkOk_by (N := N__law_most) (sc := (defScope s__law_most)) (by decide +kernel)) (fun _ _ _ _ _ => (vg_tp rfl (vgs_cons (vg_nm nd) (vgs_cons (vg_nm nd) vgs_nil)) 2)) (fun _ _ _ _ _ => vts_nil) (fun _ _ _ _ _ => (ve_cmp o_le (ve_var 2) (ve_var 3)))) va_nil))))
/-! _law_least -/
abbrev N__law_least : List Str := ["rows", "some", "k", "row", "one"]
abbrev s__law_least : Stmt := top 47
theorem sc__law_least : FnScope N__law_least ["rows"] (defScope s__law_least) := ⟨rfl, rfl, rfl, by decide +kernel, rfl, by decide +kernel, by decide +kernel⟩
noncomputable def b__law_least (n : Nat) : S → Fl := (sSeq (sSet 1 (eLc [2, 3] (.tp [(.nm 2), (.nm 3)]) (iEnum (aCons (eVar 0) aNil)) (bOf (eOp2 (inZ true) (eVar 3) (eSl (eVar 0) oNone (oSome (eVar 2))))) (eVar 3))) (sRet (eOpN (one fSorted) (aCons (eLc [3] (.nm 3) (iSeq (eVar 1)) (bNot (bTru (eOpN (one fAny) (aCons (eLc [4] (.nm 4) (iSeq (eVar 1)) bYes (eAnd (eOp2 (two fNe) (eVar 4) (eVar 3)) (eCall (F__law_most n) (aCons (eVar 4) (aCons (eVar 3) aNil))))) aNil)))) (eVar 3)) aNil))))
noncomputable def F__law_least (n : Nat) : Fn := fun ws ce => shut ce.length (b__law_least n (entry 5 ws ce))
theorem ok__law_least {P : Program} {w : World} {K : PySem.W.Frag} {mg : Str → Option Value} {base : Heap} (n : Nat) (FA : FunAt K mg "_law_least" s__law_least ["rows"]) (n_any : mg "any" = none) (n_enumerate : mg "enumerate" = none) (n_sorted : mg "sorted" = none) (D__law_most : DefOk P w K mg base "_law_most" 1 2 (F__law_most n)) :
    DefOk P w K mg base "_law_least" (1 + 1) 1 (F__law_least n) := by
  refine def_ok (k := 1) (body := b__law_least n) FA sc__law_least shut (.inl rfl) fun f cdv A outer s H E hr => ?_
  have tk : Takes (cxOf (L2.CX P w) P w K mg base N__law_least "_law_least" (defScope s__law_least) f cdv A outer s H E) (fun c d _ H => E c d H) := takes_of rfl rfl rfl rfl
  have hp : PassesOwn (model P w) (A.deeper (envOfC "_law_least" (defScope s__law_least) s.heap.objs.size f cdv)) (envOfC "_law_least" (defScope s__law_least) s.heap.objs.size f cdv) (cxOf (L2.CX P w) P w K mg base N__law_least "_law_least" (defScope s__law_least) f cdv A outer s H E).xe := passes_of (X := cxOf (L2.CX P w) P w K mg base N__law_least "_law_least" (defScope s__law_least) f cdv A outer s H E) rfl
  have nd : (N__law_least).Nodup := sc__law_least.nd
  exact (vss_cons (vs_set 1 nd (ve_lc (own := [("k", 2), ("row", 3)]) rfl nd (vi_enum n_enumerate (va_cons (ve_var 0) va_nil)) (blkOk_by (N := N__law_least) (sc := (defScope s__law_least)) (by decide +kernel)) (fun _ _ _ _ _ => (vg_tp rfl (vgs_cons (vg_nm nd) (vgs_cons (vg_nm nd) vgs_nil)) 2)) (fun _ _ _ _ _ => (vts_one (vt_cmp (o_notInZ (hu198 hr)) (ve_var 3) (ve_sl (ve_var 0) vo_none (vo_some (ve_var 2)))))) (fun _ _ _ _ _ => (ve_var 3)))) (vss_one (vs_ret (ve_callB (b_sorted (hu198 hr)) rfl n_sorted bt_sorted (va_cons (ve_lc (own := [("row", 3)]) rfl nd (vi_seq (ve_var 1)) (blkOk_by (N := N__law_least) (sc := (defScope s__law_least)) (by decide +kernel)) (fun _ _ _ _ _ => (vg_nm nd)) (fun _ _ _ _ _ => (vts_one (vt_not (vt_tru (ve_callB (b_any rfl) rfl n_any bt_any (va_cons (ve_lc (own := [("one", 4)]) rfl nd (vi_seq (ve_var 1)) (blkOk_by (N := N__law_least) (sc := (relS _ (defScope s__law_least))) (by decide +kernel)) (fun _ _ _ _ _ => (vg_nm nd)) (fun _ _ _ _ _ => vts_nil) (fun _ _ _ _ _ => (ve_and (ve_cmp (o_ne (hu64 hr)) (ve_var 4) (ve_var 3)) (ve_one (ve_callD D__law_most hr VL.takes0 (va_cons (ve_var 4) (va_cons (ve_var 3) va_nil)) (.cons (.cons .nil))))))) va_nil)))))) (fun _ _ _ _ _ => (ve_var 3))) va_nil)))))
/-! Program___init__ -/
abbrev N_Program___init__ : List Str := ["self", "sorts", "rules", "index", "rule"]
abbrev s_Program___init__ : Stmt := sub 35 0
theorem sc_Program___init__ : FnScope N_Program___init__ ["self", "sorts", "rules"] (defScope s_Program___init__) := ⟨rfl, rfl, rfl, by decide +kernel, rfl, by decide +kernel, by decide +kernel⟩
noncomputable def b_Program___init__ (n : Nat) : S → Fl := (sSeq (sIf (bNot (bTru (eCall (F_are_sorts n) (aCons (eVar 1) aNil)))) (sRaise1 "BadSorts" "sorts" (eVar 1)) sNext) (sSeq (sIf (bNot (bTru (eCall (F_is_list n) (aCons (eVar 2) aNil)))) (sRaise1 "BadRule" "index" (eC (.int 0))) sNext) (sSeq (sFor (.tp [(.nm 3), (.nm 4)]) (iEnum (aCons (eVar 2) aNil)) (sIf (bNot (bTru (eCall (F_is_rule_of n) (aCons (eVar 1) (aCons (eVar 4) aNil))))) (sRaise1 "BadRule" "index" (eVar 3)) sNext)) (sSeq (sSetAttr ["Program"] "_sorts" (eVar 0) (eOpN (one fTuple) (aCons (eVar 1) aNil))) (sSetAttr ["Program"] "_rules" (eVar 0) (eOpN (one fTuple) (aCons (eLc [4] (.nm 4) (iSeq (eVar 2)) bYes (eCall (F_as_tuples n) (aCons (eVar 4) aNil))) aNil)))))))
noncomputable def F_Program___init__ (n : Nat) : Fn := fun ws ce => shut ce.length (b_Program___init__ n (entry 5 ws ce))
theorem ok_Program___init__ {P : Program} {w : World} {K : PySem.W.Frag} {mg : Str → Option Value} {base : Heap} (n : Nat) (n_enumerate : mg "enumerate" = none) (n_tuple : mg "tuple" = none) {C_BadSorts : Addr} (E_BadSorts : Err1 P w K mg base "BadSorts" "sorts" C_BadSorts) {C_BadRule : Addr} (E_BadRule : Err1 P w K mg base "BadRule" "index" C_BadRule) (Fd__sorts : FldC K mg ["Program"] "_sorts") (Fd__rules : FldC K mg ["Program"] "_rules") (D_are_sorts : DefOk P w K mg base "are_sorts" 2 1 (F_are_sorts n)) (D_is_list : DefOk P w K mg base "is_list" 1 1 (F_is_list n)) (D_is_rule_of : DefOk P w K mg base "is_rule_of" 5 2 (F_is_rule_of n)) (D_as_tuples : DefOk P w K mg base "as_tuples" 1 1 (F_as_tuples n)) (f : Addr) (fd : FuncData) (Fu : Fun K "__init__" "Program.__init__" s_Program___init__ f fd) :
    FnG P w K mg base (5 + 1) f fd ["self", "sorts", "rules"] (spOf K mg 3 (F_Program___init__ n)) := by
  refine fn_okG (k := 5) (body := b_Program___init__ n) Fu sc_Program___init__ rfl shut (.inl rfl) fun cdv A outer s H E hr => ?_
  have tk : Takes (cxOf (L2.CX P w) P w K mg base N_Program___init__ "Program.__init__" (defScope s_Program___init__) f cdv A outer s H E) (fun c d _ H => E c d H) := takes_of rfl rfl rfl rfl
  have hp : PassesOwn (model P w) (A.deeper (envOfC "Program.__init__" (defScope s_Program___init__) s.heap.objs.size f cdv)) (envOfC "Program.__init__" (defScope s_Program___init__) s.heap.objs.size f cdv) (cxOf (L2.CX P w) P w K mg base N_Program___init__ "Program.__init__" (defScope s_Program___init__) f cdv A outer s H E).xe := passes_of (X := (cxOf (L2.CX P w) P w K mg base N_Program___init__ "Program.__init__" (defScope s_Program___init__) f cdv A outer s H E)) rfl
  have nd : (N_Program___init__).Nodup := sc_Program___init__.nd
  exact (vss_cons (vs_if (vt_not (vt_tru (ve_callD D_are_sorts hr tk (va_cons (ve_var 1) va_nil) (.cons .nil)))) (vss_one (vs_raise1 rfl E_BadSorts (RmG.mono (j := 2) hr (by decide)).rm tk (ve_var 1))) vss_nil) (vss_cons (vs_if (vt_not (vt_tru (ve_callD D_is_list hr tk (va_cons (ve_var 2) va_nil) (.cons .nil)))) (vss_one (vs_raise1 rfl E_BadRule (RmG.mono (j := 2) hr (by decide)).rm tk ve_int)) vss_nil) (vss_cons (vs_for hp rfl (vi_enum n_enumerate (va_cons (ve_var 2) va_nil)) (vg_tp rfl (vgs_cons (vg_nm nd) (vgs_cons (vg_nm nd) vgs_nil)) 2) (vss_one (vs_if (vt_not (vt_tru (ve_callD D_is_rule_of hr tk (va_cons (ve_var 1) (va_cons (ve_var 4) va_nil)) (.cons (.cons .nil))))) (vss_one (vs_raise1 rfl E_BadRule (RmG.mono (j := 2) hr (by decide)).rm tk (ve_var 3))) vss_nil))) (vss_cons (vs_setAttr Fd__sorts (ve_var 0) (ve_callTy b_tuple rfl n_tuple bt_tuple (va_cons (ve_var 1) va_nil))) (vss_one (vs_setAttr Fd__rules (ve_var 0) (ve_callTy b_tuple rfl n_tuple bt_tuple (va_cons (ve_lc (own := [("rule", 4)]) rfl nd (vi_seq (ve_var 2)) (blkOk_by (N := N_Program___init__) (sc := (defScope s_Program___init__)) (by decide +kernel)) (fun _ _ _ _ _ => (vg_nm nd)) (fun _ _ _ _ _ => vts_nil) (fun _ _ _ _ _ => (ve_callD D_as_tuples hr VL.takes0 (va_cons (ve_var 4) va_nil) (.cons .nil)))) va_nil))))))))
/-! _law_odd -/
abbrev N__law_odd : List Str := ["draws", "some"]
abbrev s__law_odd : Stmt := top 48
theorem sc__law_odd : FnScope N__law_odd ["draws"] (defScope s__law_odd) := ⟨rfl, rfl, rfl, by decide +kernel, rfl, by decide +kernel, by decide +kernel⟩
noncomputable def b__law_odd (n : Nat) : S → Fl := (sSeq (sSet 1 (eLst (aCons (eC .non) (aCons (eC (.bl true)) (aCons (eC (.int 5)) (aCons (eOp1 (un fNeg) (eC (.int 1))) (aCons (eC (.str "ab")) (aCons (eC (.str "")) (aCons (eLst aNil) (aCons (eTup aNil) (aCons (eTup (aCons (eC (.int 1)) (aCons (eC (.int 2)) (aCons (eC (.int 3)) (aCons (eC (.int 4)) aNil))))) (aCons (eLst (aCons (eC (.int 0)) (aCons (eOp1 (un fNeg) (eC (.int 1))) aNil))) (aCons (eTup (aCons (eC (.int 1)) (aCons (eC (.bl true)) aNil))) (aCons (eTup (aCons (eC (.bl false)) aNil)) (aCons (eLst (aCons (eLst (aCons (eC (.int 1)) aNil)) (aCons (eLst (aCons (eC (.int 2)) aNil)) aNil))) (aCons (eC (.dic [] [])) (aCons (eC (.dic [(.int 1)] [(.int 2)])) aNil))))))))))))))))) (sSeq (sSet 1 (eOp2 (two fAdd) (eVar 1) (eLst (aCons (eTup (aCons (eC (.int 1)) (aCons (eC .non) aNil))) (aCons (eTup (aCons (eC (.str "1")) (aCons (eC (.str "2")) aNil))) (aCons (eLst (aCons (eC (.int 1)) (aCons (eC (.str "1")) (aCons (eC (.int 1)) aNil)))) (aCons (eTup (aCons (eC (.int 0)) (aCons (eTup (aCons (eC (.int 1)) aNil)) aNil))) (aCons (eLst (aCons (eOp1 (un fNeg) (eC (.int 1))) aNil)) (aCons (eTup (aCons (eC (.int 2)) (aCons (eC (.int 3)) (aCons (eOp1 (un fNeg) (eC (.int 4))) aNil)))) aNil))))))))) (sRet (eCall (F__law_pick n) (aCons (eVar 0) (aCons (eOp2 (two fAdd) (eVar 1) (eLst (aCons (eC (.glob "_law_dot")) (aCons (eMake "Program" (F_Program___init__ n) (aCons (eLst (aCons (eC (.str "flat")) aNil)) (aCons (eLst aNil) aNil))) aNil)))) aNil))))))
noncomputable def F__law_odd (n : Nat) : Fn := fun ws ce => shut ce.length (b__law_odd n (entry 2 ws ce))
theorem ok__law_odd {P : Program} {w : World} {K : PySem.W.Frag} {mg : Str → Option Value} {base : Heap} (n : Nat) (FA : FunAt K mg "_law_odd" s__law_odd ["draws"]) (g__law_dot : ∃ a, mg "_law_dot" = some (.ref a) ∧ PySem.W.isFn K (.ref a) = true) (K_Program : MakeOk P w K mg base "Program" 6 3 (F_Program___init__ n)) (D__law_pick : DefOk P w K mg base "_law_pick" 2 2 (F__law_pick n)) :
    DefOk P w K mg base "_law_odd" (7 + 1) 1 (F__law_odd n) := by
  refine def_ok (k := 7) (body := b__law_odd n) FA sc__law_odd shut (.inl rfl) fun f cdv A outer s H E hr => ?_
  have tk : Takes (cxOf (L2.CX P w) P w K mg base N__law_odd "_law_odd" (defScope s__law_odd) f cdv A outer s H E) (fun c d _ H => E c d H) := takes_of rfl rfl rfl rfl
  have hp : PassesOwn (model P w) (A.deeper (envOfC "_law_odd" (defScope s__law_odd) s.heap.objs.size f cdv)) (envOfC "_law_odd" (defScope s__law_odd) s.heap.objs.size f cdv) (cxOf (L2.CX P w) P w K mg base N__law_odd "_law_odd" (defScope s__law_odd) f cdv A outer s H E).xe := passes_of (X := cxOf (L2.CX P w) P w K mg base N__law_odd "_law_odd" (defScope s__law_odd) f cdv A outer s H E) rfl
  have nd : (N__law_odd).Nodup := sc__law_odd.nd
  exact (vss_cons (vs_set 1 nd (ve_lst (va_cons ve_non (va_cons ve_bl (va_cons ve_int (va_cons (ve_neg ve_int (fun _ h => pe_un un_neg h)) (va_cons ve_str (va_cons ve_str (va_cons (ve_lst va_nil) (va_cons (ve_tup va_nil) (va_cons (ve_tup (va_cons ve_int (va_cons ve_int (va_cons ve_int (va_cons ve_int va_nil))))) (va_cons (ve_lst (va_cons ve_int (va_cons (ve_neg ve_int (fun _ h => pe_un un_neg h)) va_nil))) (va_cons (ve_tup (va_cons ve_int (va_cons ve_bl va_nil))) (va_cons (ve_tup (va_cons ve_bl va_nil)) (va_cons (ve_lst (va_cons (ve_lst (va_cons ve_int va_nil)) (va_cons (ve_lst (va_cons ve_int va_nil)) va_nil))) (va_cons ve_dicF (va_cons (ve_dic1 (k := (.inl 1)) (v := (.int 2)) (d := (.int 2)) pe_int pe_int fun _ => .int _) va_nil))))))))))))))))) (vss_cons (vs_set 1 nd (ve_bin o_add (ve_var 1) (ve_lst (va_cons (ve_tup (va_cons ve_int (va_cons ve_non va_nil))) (va_cons (ve_tup (va_cons ve_str (va_cons ve_str va_nil))) (va_cons (ve_lst (va_cons ve_int (va_cons ve_str (va_cons ve_int va_nil)))) (va_cons (ve_tup (va_cons ve_int (va_cons (ve_tup (va_cons ve_int va_nil)) va_nil))) (va_cons (ve_lst (va_cons (ve_neg ve_int (fun _ h => pe_un un_neg h)) va_nil)) (va_cons (ve_tup (va_cons ve_int (va_cons ve_int (va_cons (ve_neg ve_int (fun _ h => pe_un un_neg h)) va_nil)))) va_nil))))))))) (vss_one (vs_ret (ve_callD D__law_pick hr tk (va_cons (ve_var 0) (va_cons (ve_bin o_add (ve_var 1) (ve_lst (va_cons (ve_globE g__law_dot) (va_cons (ve_make K_Program hr tk (va_cons (ve_lst (va_cons ve_str va_nil)) (va_cons (ve_lst va_nil) va_nil)) (.cons (.cons .nil))) va_nil)))) va_nil)) (.cons (.cons .nil)))))))
/-! _law_told_rows -/
abbrev N__law_told_rows : List Str := ["amounts", "error", "found"]
abbrev s__law_told_rows : Stmt := top 49
theorem sc__law_told_rows : FnScope N__law_told_rows ["amounts"] (defScope s__law_told_rows) := ⟨rfl, rfl, rfl, by decide +kernel, rfl, by decide +kernel, by decide +kernel⟩
noncomputable def b__law_told_rows (n : Nat) : S → Fl := (sSeq (sTry (mtE EC) (sSet 2 (eCell (aCons (eC (.str "told")) (aCons (eCall (F_least_rows n) (aCons (eVar 0) aNil)) aNil)))) (("BadAmounts", hAsgL 1 2 "BadAmounts" "index" "refused") :: [])) (sRet (eVar 2)))
noncomputable def F__law_told_rows (n : Nat) : Fn := fun ws ce => (fun _ => keep) ce.length (b__law_told_rows n (entry 3 ws ce))
theorem ok__law_told_rows {P : Program} {w : World} {K : PySem.W.Frag} {mg : Str → Option Value} {base : Heap} (n : Nat) (FA : FunAt K mg "_law_told_rows" s__law_told_rows ["amounts"]) (ET : ExTab K mg EC) {Cf_BadAmounts : Addr} (Ef_BadAmounts : ErrF K mg "BadAmounts" "index" Cf_BadAmounts) (D_least_rows : DefOk P w K mg base "least_rows" 6 1 (F_least_rows n)) :
    DefOk P w K mg base "_law_told_rows" (6 + 1) 1 (F__law_told_rows n) := by
  refine def_ok (k := 6) (body := b__law_told_rows n) FA sc__law_told_rows (fun _ => keep) (.inr rfl) fun f cdv A outer s H E hr => ?_
  have tk : Takes (cxOf (L2.CX P w) P w K mg base N__law_told_rows "_law_told_rows" (defScope s__law_told_rows) f cdv A outer s H E) (fun c d _ H => E c d H) := takes_of rfl rfl rfl rfl
  have hp : PassesOwn (model P w) (A.deeper (envOfC "_law_told_rows" (defScope s__law_told_rows) s.heap.objs.size f cdv)) (envOfC "_law_told_rows" (defScope s__law_told_rows) s.heap.objs.size f cdv) (cxOf (L2.CX P w) P w K mg base N__law_told_rows "_law_told_rows" (defScope s__law_told_rows) f cdv A outer s H E).xe := passes_of (X := cxOf (L2.CX P w) P w K mg base N__law_told_rows "_law_told_rows" (defScope s__law_told_rows) f cdv A outer s H E) rfl
  have nd : (N__law_told_rows).Nodup := sc__law_told_rows.nd
  exact (vss_cons (vs_tryC (cl_asgL 2 ET Ef_BadAmounts nd 1 cl_nil) nd tk fun _ _ _ tkB hpB => (vss_one (vs_set 2 nd (ve_cell (va_cons ve_str (va_cons (ve_callD D_least_rows hr tkB (va_cons (ve_var 0) va_nil) (.cons .nil)) va_nil)))))) (vss_one (vs_ret (ve_var 2))))
/-! _law_told_cost -/
abbrev N__law_told_cost : List Str := ["amount", "prices", "error", "found"]
abbrev s__law_told_cost : Stmt := top 50
theorem sc__law_told_cost : FnScope N__law_told_cost ["amount", "prices"] (defScope s__law_told_cost) := ⟨rfl, rfl, rfl, by decide +kernel, rfl, by decide +kernel, by decide +kernel⟩
noncomputable def b__law_told_cost (n : Nat) : S → Fl := (sSeq (sTry (mtE EC) (sSet 3 (eLst (aCons (eC (.str "told")) (aCons (eCall (F_cost n) (aCons (eVar 0) (aCons (eVar 1) aNil))) aNil)))) (("BadAmount", hAsgL 2 3 "BadAmount" "amount" "amount") :: (("BadPrices", hAsgL 2 3 "BadPrices" "prices" "prices") :: []))) (sRet (eVar 3)))
noncomputable def F__law_told_cost (n : Nat) : Fn := fun ws ce => shut ce.length (b__law_told_cost n (entry 4 ws ce))
theorem ok__law_told_cost {P : Program} {w : World} {K : PySem.W.Frag} {mg : Str → Option Value} {base : Heap} (n : Nat) (FA : FunAt K mg "_law_told_cost" s__law_told_cost ["amount", "prices"]) (ET : ExTab K mg EC) {Cf_BadPrices : Addr} (Ef_BadPrices : ErrF K mg "BadPrices" "prices" Cf_BadPrices) {Cf_BadAmount : Addr} (Ef_BadAmount : ErrF K mg "BadAmount" "amount" Cf_BadAmount) (D_cost : DefOk P w K mg base "cost" 6 2 (F_cost n)) :
    DefOk P w K mg base "_law_told_cost" (6 + 1) 2 (F__law_told_cost n) := by
  refine def_ok (k := 6) (body := b__law_told_cost n) FA sc__law_told_cost shut (.inl rfl) fun f cdv A outer s H E hr => ?_
  have tk : Takes (cxOf (L2.CX P w) P w K mg base N__law_told_cost "_law_told_cost" (defScope s__law_told_cost) f cdv A outer s H E) (fun c d _ H => E c d H) := takes_of rfl rfl rfl rfl
  have hp : PassesOwn (model P w) (A.deeper (envOfC "_law_told_cost" (defScope s__law_told_cost) s.heap.objs.size f cdv)) (envOfC "_law_told_cost" (defScope s__law_told_cost) s.heap.objs.size f cdv) (cxOf (L2.CX P w) P w K mg base N__law_told_cost "_law_told_cost" (defScope s__law_told_cost) f cdv A outer s H E).xe := passes_of (X := cxOf (L2.CX P w) P w K mg base N__law_told_cost "_law_told_cost" (defScope s__law_told_cost) f cdv A outer s H E) rfl
  have nd : (N__law_told_cost).Nodup := sc__law_told_cost.nd
  exact (vss_cons (vs_tryC (cl_asgL 3 ET Ef_BadAmount nd 2 (cl_asgL 3 ET Ef_BadPrices nd 2 cl_nil)) nd tk fun _ _ _ tkB hpB => (vss_one (vs_set 3 nd (ve_lst (va_cons ve_str (va_cons (ve_callD D_cost hr tkB (va_cons (ve_var 0) (va_cons (ve_var 1) va_nil)) (.cons (.cons .nil))) va_nil)))))) (vss_one (vs_ret (ve_var 3))))
/-! _law_prices -/
abbrev N__law_prices : List Str := ["draws", "many", "row", "k"]
abbrev s__law_prices : Stmt := top 51
theorem sc__law_prices : FnScope N__law_prices ["draws", "many"] (defScope s__law_prices) := ⟨rfl, rfl, rfl, by decide +kernel, rfl, by decide +kernel, by decide +kernel⟩
noncomputable def b__law_prices (n : Nat) : S → Fl := (sSeq (sSet 2 (eLcC [3] (.nm 3) (iRange1 (aCons (eVar 1) aNil)) bYes (eCall (F__law_pick n) (aCons (eVar 0) (aCons (eLst (aCons (eC (.int 0)) (aCons (eC (.int 1)) (aCons (eC (.int 2)) (aCons (eC (.int 3)) (aCons (eC (.int 7)) (aCons (eC (.int 100)) (aCons (eOp2 (two fPow) (eC (.int 10)) (eC (.int 9))) aNil)))))))) aNil))))) (sSeq (sSetZ (eVar 2) (eCall (F__law_draw n) (aCons (eVar 0) (aCons (eVar 1) aNil))) (eOp2 (two fAdd) (eC (.int 1)) (eCall (F__law_draw n) (aCons (eVar 0) (aCons (eC (.int 12)) aNil))))) (sRet (eFrzZ (eVar 2)))))
noncomputable def F__law_prices (n : Nat) : Fn := fun ws ce => shut ce.length (b__law_prices n (entry 4 ws ce))
theorem ok__law_prices {P : Program} {w : World} {K : PySem.W.Frag} {mg : Str → Option Value} {base : Heap} (n : Nat) (FA : FunAt K mg "_law_prices" s__law_prices ["draws", "many"]) (n_range : mg "range" = none) (D__law_pick : DefOk P w K mg base "_law_pick" 2 2 (F__law_pick n)) (D__law_draw : DefOk P w K mg base "_law_draw" 1 2 (F__law_draw n)) :
    DefOk P w K mg base "_law_prices" (2 + 1) 2 (F__law_prices n) := by
  refine def_ok (k := 2) (body := b__law_prices n) FA sc__law_prices shut (.inl rfl) fun f cdv A outer s H E hr => ?_
  have tk : Takes (cxOf (L2.CX P w) P w K mg base N__law_prices "_law_prices" (defScope s__law_prices) f cdv A outer s H E) (fun c d _ H => E c d H) := takes_of rfl rfl rfl rfl
  have hp : PassesOwn (model P w) (A.deeper (envOfC "_law_prices" (defScope s__law_prices) s.heap.objs.size f cdv)) (envOfC "_law_prices" (defScope s__law_prices) s.heap.objs.size f cdv) (cxOf (L2.CX P w) P w K mg base N__law_prices "_law_prices" (defScope s__law_prices) f cdv A outer s H E).xe := passes_of (X := cxOf (L2.CX P w) P w K mg base N__law_prices "_law_prices" (defScope s__law_prices) f cdv A outer s H E) rfl
  have nd : (N__law_prices).Nodup := sc__law_prices.nd
  exact (vss_cons (vs_setLcC 2 (own := [("k", 3)]) rfl nd (vi_range1 n_range (va_cons (ve_var 1) va_nil)) (blkOk_by (N := N__law_prices) (sc := (defScope s__law_prices)) (by decide +kernel)) (fun _ _ _ _ _ => (vg_nm nd)) (fun _ _ _ _ _ => vts_nil) (fun _ _ _ _ _ => (ve_callD D__law_pick hr VL.takes0 (va_cons (ve_var 0) (va_cons (ve_lst (va_cons ve_int (va_cons ve_int (va_cons ve_int (va_cons ve_int (va_cons ve_int (va_cons ve_int (va_cons (ve_bin o_pow ve_int ve_int) va_nil)))))))) va_nil)) (.cons (.cons .nil))))) (vss_cons (vs_setZ (hu198 hr) (ve_var 2) (ve_callD D__law_draw hr tk (va_cons (ve_var 0) (va_cons (ve_var 1) va_nil)) (.cons (.cons .nil))) (ve_bin o_add ve_int (ve_callD D__law_draw hr tk (va_cons (ve_var 0) (va_cons ve_int va_nil)) (.cons (.cons .nil))))) (vss_one (vs_ret (ve_frzZ (ve_var 2))))))
/-! _law_rows_right -/
abbrev N__law_rows_right : List Str := ["draws", "many", "rows", "given", "first", "at", "other", "bad", "behind", "none", "was", "due"]
abbrev s__law_rows_right : Stmt := top 52
theorem sc__law_rows_right : FnScope N__law_rows_right ["draws", "many"] (defScope s__law_rows_right) := ⟨rfl, rfl, rfl, by decide +kernel, rfl, by decide +kernel, by decide +kernel⟩
noncomputable def b__law_rows_right (n : Nat) : S → Fl := (sSeq (sSet 2 (eCall (F__law_amounts n) (aCons (eVar 0) (aCons (eVar 1) (aCons (eCall (F__law_draw n) (aCons (eVar 0) (aCons (eC (.int 9)) aNil))) aNil))))) (sSeq (sSet 3 (eCall (F__law_handed n) (aCons (eVar 0) (aCons (eVar 2) aNil)))) (sSeq (sPar [10, 11] (aCons (eOpN (one fRepr) (aCons (eVar 3) aNil)) (aCons (eCall (F__law_least n) (aCons (eVar 2) aNil)) aNil))) (sSeq (sSet 4 (eCall (F__law_told_rows n) (aCons (eVar 3) aNil))) (sSeq (sIf (bOr (bNot (bTru (eCall (F__law_same n RF) (aCons (eVar 4) (aCons (eLst (aCons (eC (.str "told")) (aCons (eVar 11) aNil))) aNil))))) (bOf (eOp2 (two fNe) (eOpN (one fRepr) (aCons (eVar 3) aNil)) (eVar 10)))) (sRet (eC (.bl false))) sNext) (sSeq (sDrop (eAppend (eIxZ (eVar 4) (eC (.int 1))) (eTup (aCons (eC (.int 7)) (aCons (eC (.int 7)) aNil))))) (sSeq (sIf (bNot (bTru (eCall (F__law_same n RF) (aCons (eCallX (F__law_told_rows n) [0] [] aNil (aCons (eVar 3) aNil)) (aCons (eLst (aCons (eC (.str "told")) (aCons (eVar 11) aNil))) aNil))))) (sRet (eC (.bl false))) sNext) (sSeq (sSet 5 (eCall (F__law_draw n) (aCons (eVar 0) (aCons (eOp2 (two fAdd) (eOpN lenN (aCons (eVar 2) aNil)) (eC (.int 1))) aNil)))) (sSeq (sSet 6 (eCall (F__law_amount n) (aCons (eVar 0) (aCons (eOp2 (two fAdd) (eOp2 (two fMod) (eVar 1) (eC (.int 3))) (eC (.int 1))) aNil)))) (sSeq (sSet 7 (eIf (bAnd (bOf (eOp2 (two fGt) (eVar 5) (eC (.int 0)))) (bOf (eOp2 (two fEq) (eCall (F__law_draw n) (aCons (eVar 0) (aCons (eC (.int 3)) aNil))) (eC (.int 0))))) (eVar 6) (eCall (F__law_odd n) (aCons (eVar 0) aNil)))) (sSeq (sSet 8 (eOp2 (two fAdd) (eSl (eVar 2) (oSome (eVar 5)) oNone) (eOp2 (two fMul) (eLst (aCons (eC .non) aNil)) (eCall (F__law_draw n) (aCons (eVar 0) (aCons (eC (.int 2)) aNil)))))) (sSeq (sIf (bNot (bTru (eCall (F__law_same n RF) (aCons (eCall (F__law_told_rows n) (aCons (eOp2 (two fAdd) (eOp2 (two fAdd) (eSl (eVar 2) oNone (oSome (eVar 5))) (eLst (aCons (eVar 7) aNil))) (eVar 8)) aNil)) (aCons (eLst (aCons (eC (.str "refused")) (aCons (eVar 5) aNil))) aNil))))) (sRet (eC (.bl false))) sNext) (sSeq (sSet 9 (eCall (F__law_pick n) (aCons (eVar 0) (aCons (eLst (aCons (eC .non) (aCons (eC (.int 5)) (aCons (eC (.bl true)) (aCons (eC (.str "ab")) (aCons (eC (.dic [] [])) (aCons (eC (.dic [(.int 0)] [.tup [.int 1]])) (aCons (eOp1 (un fNeg) (eC (.int 1))) aNil)))))))) aNil)))) (sRet (eCall (F__law_same n RF) (aCons (eCall (F__law_told_rows n) (aCons (eVar 9) aNil)) (aCons (eLst (aCons (eC (.str "refused")) (aCons (eC (.int 0)) aNil))) aNil)))))))))))))))))
noncomputable def F__law_rows_right (n : Nat) : Fn := fun ws ce => shut ce.length (b__law_rows_right n (entry 12 ws ce))
theorem ok__law_rows_right {P : Program} {w : World} {K : PySem.W.Frag} {mg : Str → Option Value} {base : Heap} (n : Nat) (FA : FunAt K mg "_law_rows_right" s__law_rows_right ["draws", "many"]) (n_len : mg "len" = none) (n_repr : mg "repr" = none) (X__law_told_rows_0 : DefOkX P w K mg base "_law_told_rows" 7 1 0 ["amounts"] [0] [] (F__law_told_rows n)) (D__law_amounts : DefOk P w K mg base "_law_amounts" 4 3 (F__law_amounts n)) (D__law_draw : DefOk P w K mg base "_law_draw" 1 2 (F__law_draw n)) (D__law_handed : DefOk P w K mg base "_law_handed" 2 2 (F__law_handed n)) (D__law_least : DefOk P w K mg base "_law_least" 2 1 (F__law_least n)) (D__law_told_rows : DefOk P w K mg base "_law_told_rows" 7 1 (F__law_told_rows n)) (D__law_same : DefOk P w K mg base "_law_same" 14 2 (F__law_same n RF)) (D__law_amount : DefOk P w K mg base "_law_amount" 3 2 (F__law_amount n)) (D__law_odd : DefOk P w K mg base "_law_odd" 8 1 (F__law_odd n)) (D__law_pick : DefOk P w K mg base "_law_pick" 2 2 (F__law_pick n)) :
    DefOk P w K mg base "_law_rows_right" (14 + 1) 2 (F__law_rows_right n) := by
  refine def_ok (k := 14) (body := b__law_rows_right n) FA sc__law_rows_right shut (.inl rfl) fun f cdv A outer s H E hr => ?_
  have tk : Takes (cxOf (L2.CX P w) P w K mg base N__law_rows_right "_law_rows_right" (defScope s__law_rows_right) f cdv A outer s H E) (fun c d _ H => E c d H) := takes_of rfl rfl rfl rfl
  have hp : PassesOwn (model P w) (A.deeper (envOfC "_law_rows_right" (defScope s__law_rows_right) s.heap.objs.size f cdv)) (envOfC "_law_rows_right" (defScope s__law_rows_right) s.heap.objs.size f cdv) (cxOf (L2.CX P w) P w K mg base N__law_rows_right "_law_rows_right" (defScope s__law_rows_right) f cdv A outer s H E).xe := passes_of (X := cxOf (L2.CX P w) P w K mg base N__law_rows_right "_law_rows_right" (defScope s__law_rows_right) f cdv A outer s H E) rfl
  have nd : (N__law_rows_right).Nodup := sc__law_rows_right.nd
  exact (vss_cons (vs_set 2 nd (ve_callD D__law_amounts hr tk (va_cons (ve_var 0) (va_cons (ve_var 1) (va_cons (ve_callD D__law_draw hr tk (va_cons (ve_var 0) (va_cons ve_int va_nil)) (.cons (.cons .nil))) va_nil))) (.cons (.cons (.cons .nil))))) (vss_cons (vs_set 3 nd (ve_callD D__law_handed hr tk (va_cons (ve_var 0) (va_cons (ve_var 2) va_nil)) (.cons (.cons .nil)))) (vss_cons (vs_par rfl nd (by decide) (va_cons (ve_callB (b_repr (hu198 hr) hr.gd) rfl n_repr bt_repr (va_cons (ve_var 3) va_nil)) (va_cons (ve_callD D__law_least hr tk (va_cons (ve_var 2) va_nil) (.cons .nil)) va_nil))) (vss_cons (vs_set 4 nd (ve_callD D__law_told_rows hr tk (va_cons (ve_var 3) va_nil) (.cons .nil))) (vss_cons (vs_if (vt_w (vw_or (vt_not (vt_tru (ve_callD D__law_same hr tk (va_cons (ve_var 4) (va_cons (ve_lst (va_cons ve_str (va_cons (ve_var 11) va_nil))) va_nil)) (.cons (.cons .nil))))) (vw_or1 (vt_cmp (o_ne (hu64 hr)) (ve_callB (b_repr (hu198 hr) hr.gd) rfl n_repr bt_repr (va_cons (ve_var 3) va_nil)) (ve_var 10))))) (vss_one (vs_ret ve_bl)) vss_nil) (vss_cons (vs_expr (ve_append (ve_ixZ (hu198 hr) (ve_var 4) ve_int) (ve_tup (va_cons ve_int (va_cons ve_int va_nil))))) (vss_cons (vs_if (vt_not (vt_tru (ve_callD D__law_same hr tk (va_cons (ve_callX0 X__law_told_rows_0 hr tk (vk_cons (ve_var 3) vk_nil) (.cons .nil) (picks_len (by decide) (by decide))) (va_cons (ve_lst (va_cons ve_str (va_cons (ve_var 11) va_nil))) va_nil)) (.cons (.cons .nil))))) (vss_one (vs_ret ve_bl)) vss_nil) (vss_cons (vs_set 5 nd (ve_callD D__law_draw hr tk (va_cons (ve_var 0) (va_cons (ve_bin o_add (ve_callB (b_lenN) rfl n_len bt_len (va_cons (ve_var 2) va_nil)) ve_int) va_nil)) (.cons (.cons .nil)))) (vss_cons (vs_set 6 nd (ve_callD D__law_amount hr tk (va_cons (ve_var 0) (va_cons (ve_bin o_add (ve_bin o_mod (ve_var 1) ve_int) ve_int) va_nil)) (.cons (.cons .nil)))) (vss_cons (vs_set 7 nd (ve_if (vt_w (vw_and (vt_cmp o_gt (ve_var 5) ve_int) (vw_and1 (vt_cmp (o_eq (hu64 hr)) (ve_callD D__law_draw hr tk (va_cons (ve_var 0) (va_cons ve_int va_nil)) (.cons (.cons .nil))) ve_int)))) (ve_var 6) (ve_callD D__law_odd hr tk (va_cons (ve_var 0) va_nil) (.cons .nil)))) (vss_cons (vs_set 8 nd (ve_bin o_add (ve_sl (ve_var 2) (vo_some (ve_var 5)) vo_none) (ve_bin o_mul (ve_lst (va_cons ve_non va_nil)) (ve_callD D__law_draw hr tk (va_cons (ve_var 0) (va_cons ve_int va_nil)) (.cons (.cons .nil)))))) (vss_cons (vs_if (vt_not (vt_tru (ve_callD D__law_same hr tk (va_cons (ve_callD D__law_told_rows hr tk (va_cons (ve_bin o_add (ve_bin o_add (ve_sl (ve_var 2) vo_none (vo_some (ve_var 5))) (ve_lst (va_cons (ve_var 7) va_nil))) (ve_var 8)) va_nil) (.cons .nil)) (va_cons (ve_lst (va_cons ve_str (va_cons (ve_var 5) va_nil))) va_nil)) (.cons (.cons .nil))))) (vss_one (vs_ret ve_bl)) vss_nil) (vss_cons (vs_set 9 nd (ve_callD D__law_pick hr tk (va_cons (ve_var 0) (va_cons (ve_lst (va_cons ve_non (va_cons ve_int (va_cons ve_bl (va_cons ve_str (va_cons ve_dicF (va_cons (ve_dic1t (k := (.inl 0)) (vs := [.int 1]) (ds := [.int 1]) pe_int (pe_tup (pa_cons pe_int pa_nil)) (fun _ _ _ h => ⟨by decide, h⟩) fun _ => (.cons (.int _) .nil)) (va_cons (ve_neg ve_int (fun _ h => pe_un un_neg h)) va_nil)))))))) va_nil)) (.cons (.cons .nil)))) (vss_one (vs_ret (ve_callD D__law_same hr tk (va_cons (ve_callD D__law_told_rows hr tk (va_cons (ve_var 9) va_nil) (.cons .nil)) (va_cons (ve_lst (va_cons ve_str (va_cons ve_int va_nil))) va_nil)) (.cons (.cons .nil))))))))))))))))))
/-! _law_costs_right -/
abbrev N__law_costs_right : List Str := ["draws", "many", "given", "odd", "some", "bad", "amount", "prices"]
abbrev s__law_costs_right : Stmt := top 53
theorem sc__law_costs_right : FnScope N__law_costs_right ["draws", "many"] (defScope s__law_costs_right) := ⟨rfl, rfl, rfl, by decide +kernel, rfl, by decide +kernel, by decide +kernel⟩
noncomputable def b__law_costs_right (n : Nat) : S → Fl := (sSeq (sPar [6, 7] (aCons (eCall (F__law_amount n) (aCons (eVar 0) (aCons (eVar 1) aNil))) (aCons (eCall (F__law_prices n) (aCons (eVar 0) (aCons (eVar 1) aNil))) aNil))) (sSeq (sSet 2 (eCall (F__law_handed n) (aCons (eVar 0) (aCons (eLst (aCons (eVar 6) (aCons (eVar 7) aNil))) aNil)))) (sSeq (sIf (bNot (bTru (eCall (F__law_same n RF) (aCons (eCall (F__law_told_cost n) (aCons (eIxZ (eVar 2) (eC (.int 0))) (aCons (eIxZ (eVar 2) (eC (.int 1))) aNil))) (aCons (eLst (aCons (eC (.str "told")) (aCons (eCall (F__law_dot n) (aCons (eVar 6) (aCons (eVar 7) aNil))) aNil))) aNil))))) (sRet (eC (.bl false))) sNext) (sSeq (sSet 3 (eCall (F__law_odd n) (aCons (eVar 0) aNil))) (sSeq (sIf (bNot (bTru (eCall (F__law_same n RF) (aCons (eCall (F__law_told_cost n) (aCons (eVar 3) (aCons (eCall (F__law_pick n) (aCons (eVar 0) (aCons (eLst (aCons (eVar 7) (aCons (eC .non) (aCons (eVar 3) aNil)))) aNil))) aNil))) (aCons (eLst (aCons (eC (.str "amount")) (aCons (eVar 3) aNil))) aNil))))) (sRet (eC (.bl false))) sNext) (sSeq (sSet 4 (eLst (aCons (eCall (F__law_odd n) (aCons (eVar 0) aNil)) (aCons (eOp2 (two fMul) (eLst (aCons (eC (.int 0)) aNil)) (eVar 1)) (aCons (eOp2 (two fMul) (eTup (aCons (eC (.int 0)) aNil)) (eVar 1)) (aCons (eOp2 (two fAdd) (eVar 7) (eLst (aCons (eC (.int 1)) aNil))) (aCons (eSl (eVar 7) (oSome (eC (.int 1))) oNone) (aCons (eOp2 (two fAdd) (eSl (eVar 7) oNone (oSome (eOp1 (un fNeg) (eC (.int 1))))) (eLst (aCons (eOp1 (un fNeg) (eC (.int 1))) aNil))) aNil)))))))) (sSeq (sSet 5 (eCall (F__law_pick n) (aCons (eVar 0) (aCons (eVar 4) aNil)))) (sRet (eCall (F__law_same n RF) (aCons (eCallX (F__law_told_cost n) [1, 0] [] aNil (aCons (eVar 5) (aCons (eIxZ (eVar 2) (eC (.int 0))) aNil))) (aCons (eLst (aCons (eC (.str "prices")) (aCons (eVar 5) aNil))) aNil)))))))))))
noncomputable def F__law_costs_right (n : Nat) : Fn := fun ws ce => shut ce.length (b__law_costs_right n (entry 8 ws ce))
theorem ok__law_costs_right {P : Program} {w : World} {K : PySem.W.Frag} {mg : Str → Option Value} {base : Heap} (n : Nat) (FA : FunAt K mg "_law_costs_right" s__law_costs_right ["draws", "many"]) (X__law_told_cost_0 : DefOkX P w K mg base "_law_told_cost" 7 2 0 ["prices", "amount"] [1, 0] [] (F__law_told_cost n)) (D__law_prices : DefOk P w K mg base "_law_prices" 3 2 (F__law_prices n)) (D__law_amount : DefOk P w K mg base "_law_amount" 3 2 (F__law_amount n)) (D__law_handed : DefOk P w K mg base "_law_handed" 2 2 (F__law_handed n)) (D__law_same : DefOk P w K mg base "_law_same" 14 2 (F__law_same n RF)) (D__law_dot : DefOk P w K mg base "_law_dot" 1 2 (F__law_dot n)) (D__law_told_cost : DefOk P w K mg base "_law_told_cost" 7 2 (F__law_told_cost n)) (D__law_odd : DefOk P w K mg base "_law_odd" 8 1 (F__law_odd n)) (D__law_pick : DefOk P w K mg base "_law_pick" 2 2 (F__law_pick n)) :
    DefOk P w K mg base "_law_costs_right" (14 + 1) 2 (F__law_costs_right n) := by
  refine def_ok (k := 14) (body := b__law_costs_right n) FA sc__law_costs_right shut (.inl rfl) fun f cdv A outer s H E hr => ?_
  have tk : Takes (cxOf (L2.CX P w) P w K mg base N__law_costs_right "_law_costs_right" (defScope s__law_costs_right) f cdv A outer s H E) (fun c d _ H => E c d H) := takes_of rfl rfl rfl rfl
  have hp : PassesOwn (model P w) (A.deeper (envOfC "_law_costs_right" (defScope s__law_costs_right) s.heap.objs.size f cdv)) (envOfC "_law_costs_right" (defScope s__law_costs_right) s.heap.objs.size f cdv) (cxOf (L2.CX P w) P w K mg base N__law_costs_right "_law_costs_right" (defScope s__law_costs_right) f cdv A outer s H E).xe := passes_of (X := cxOf (L2.CX P w) P w K mg base N__law_costs_right "_law_costs_right" (defScope s__law_costs_right) f cdv A outer s H E) rfl
  have nd : (N__law_costs_right).Nodup := sc__law_costs_right.nd
  exact (vss_cons (vs_par rfl nd (by decide) (va_cons (ve_callD D__law_amount hr tk (va_cons (ve_var 0) (va_cons (ve_var 1) va_nil)) (.cons (.cons .nil))) (va_cons (ve_callD D__law_prices hr tk (va_cons (ve_var 0) (va_cons (ve_var 1) va_nil)) (.cons (.cons .nil))) va_nil))) (vss_cons (vs_set 2 nd (ve_callD D__law_handed hr tk (va_cons (ve_var 0) (va_cons (ve_lst (va_cons (ve_var 6) (va_cons (ve_var 7) va_nil))) va_nil)) (.cons (.cons .nil)))) (vss_cons (vs_if (vt_not (vt_tru (ve_callD D__law_same hr tk (va_cons (ve_callD D__law_told_cost hr tk (va_cons (ve_ixZ (hu198 hr) (ve_var 2) ve_int) (va_cons (ve_ixZ (hu198 hr) (ve_var 2) ve_int) va_nil)) (.cons (.cons .nil))) (va_cons (ve_lst (va_cons ve_str (va_cons (ve_callD D__law_dot hr tk (va_cons (ve_var 6) (va_cons (ve_var 7) va_nil)) (.cons (.cons .nil))) va_nil))) va_nil)) (.cons (.cons .nil))))) (vss_one (vs_ret ve_bl)) vss_nil) (vss_cons (vs_set 3 nd (ve_callD D__law_odd hr tk (va_cons (ve_var 0) va_nil) (.cons .nil))) (vss_cons (vs_if (vt_not (vt_tru (ve_callD D__law_same hr tk (va_cons (ve_callD D__law_told_cost hr tk (va_cons (ve_var 3) (va_cons (ve_callD D__law_pick hr tk (va_cons (ve_var 0) (va_cons (ve_lst (va_cons (ve_var 7) (va_cons ve_non (va_cons (ve_var 3) va_nil)))) va_nil)) (.cons (.cons .nil))) va_nil)) (.cons (.cons .nil))) (va_cons (ve_lst (va_cons ve_str (va_cons (ve_var 3) va_nil))) va_nil)) (.cons (.cons .nil))))) (vss_one (vs_ret ve_bl)) vss_nil) (vss_cons (vs_set 4 nd (ve_lst (va_cons (ve_callD D__law_odd hr tk (va_cons (ve_var 0) va_nil) (.cons .nil)) (va_cons (ve_bin o_mul (ve_lst (va_cons ve_int va_nil)) (ve_var 1)) (va_cons (ve_bin o_mul (ve_tup (va_cons ve_int va_nil)) (ve_var 1)) (va_cons (ve_bin o_add (ve_var 7) (ve_lst (va_cons ve_int va_nil))) (va_cons (ve_sl (ve_var 7) (vo_some ve_int) vo_none) (va_cons (ve_bin o_add (ve_sl (ve_var 7) vo_none (vo_some (ve_neg ve_int (fun _ h => pe_un un_neg h)))) (ve_lst (va_cons (ve_neg ve_int (fun _ h => pe_un un_neg h)) va_nil))) va_nil)))))))) (vss_cons (vs_set 5 nd (ve_callD D__law_pick hr tk (va_cons (ve_var 0) (va_cons (ve_var 4) va_nil)) (.cons (.cons .nil)))) (vss_one (vs_ret (ve_callD D__law_same hr tk (va_cons (ve_callX0 X__law_told_cost_0 hr tk (vk_cons (ve_var 5) (vk_cons (ve_ixZ (hu198 hr) (ve_var 2) ve_int) vk_nil)) (.cons (.cons .nil)) (picks_len (by decide) (by decide))) (va_cons (ve_lst (va_cons ve_str (va_cons (ve_var 5) va_nil))) va_nil)) (.cons (.cons .nil))))))))))))
/-! law -/
abbrev N_law : List Str := ["script", "turn", "draws", "many", "k"]
abbrev s_law : Stmt := top 54
theorem sc_law : FnScope N_law ["script"] (defScope s_law) := ⟨rfl, rfl, rfl, by decide +kernel, rfl, by decide +kernel, by decide +kernel⟩
noncomputable def b_law (n : Nat) : S → Fl := (sSeq (sFor (.nm 1) (iRange1 (aCons (eOp2 (two fAdd) (eC (.int 5)) (eOpN fMinN (aCons (eOpN lenN (aCons (eVar 0) aNil)) (aCons (eC (.int 3)) aNil)))) aNil)) (sSeq (sSet 2 (eCall (F__law_source n) (aCons (eVar 0) (aCons (eVar 1) aNil)))) (sSeq (sSet 3 (eOp2 (two fAdd) (eC (.int 1)) (eCall (F__law_draw n) (aCons (eVar 2) (aCons (eC (.int 3)) aNil))))) (sFor (.nm 4) (iRange1 (aCons (eC (.int 2)) aNil)) (sIf (bOr (bNot (bTru (eCall (F__law_rows_right n) (aCons (eVar 2) (aCons (eVar 3) aNil))))) (bNot (bTru (eCall (F__law_costs_right n) (aCons (eVar 2) (aCons (eVar 3) aNil)))))) (sRet (eC (.bl false))) sNext))))) (sRet (eC (.bl true))))
noncomputable def F_law (n : Nat) : Fn := fun ws ce => shut ce.length (b_law n (entry 5 ws ce))
theorem ok_law {P : Program} {w : World} {K : PySem.W.Frag} {mg : Str → Option Value} {base : Heap} (n : Nat) (FA : FunAt K mg "law" s_law ["script"]) (n_len : mg "len" = none) (n_min : mg "min" = none) (n_range : mg "range" = none) (D__law_source : DefOk P w K mg base "_law_source" 1 2 (F__law_source n)) (D__law_draw : DefOk P w K mg base "_law_draw" 1 2 (F__law_draw n)) (D__law_rows_right : DefOk P w K mg base "_law_rows_right" 15 2 (F__law_rows_right n)) (D__law_costs_right : DefOk P w K mg base "_law_costs_right" 15 2 (F__law_costs_right n)) :
    DefOk P w K mg base "law" (15 + 1) 1 (F_law n) := by
  refine def_ok (k := 15) (body := b_law n) FA sc_law shut (.inl rfl) fun f cdv A outer s H E hr => ?_
  have tk : Takes (cxOf (L2.CX P w) P w K mg base N_law "law" (defScope s_law) f cdv A outer s H E) (fun c d _ H => E c d H) := takes_of rfl rfl rfl rfl
  have hp : PassesOwn (model P w) (A.deeper (envOfC "law" (defScope s_law) s.heap.objs.size f cdv)) (envOfC "law" (defScope s_law) s.heap.objs.size f cdv) (cxOf (L2.CX P w) P w K mg base N_law "law" (defScope s_law) f cdv A outer s H E).xe := passes_of (X := cxOf (L2.CX P w) P w K mg base N_law "law" (defScope s_law) f cdv A outer s H E) rfl
  have nd : (N_law).Nodup := sc_law.nd
  exact (vss_cons (vs_for hp rfl (vi_range1 n_range (va_cons (ve_bin o_add ve_int (ve_callB (b_min rfl (hu198 hr)) rfl n_min bt_min (va_cons (ve_callB (b_lenN) rfl n_len bt_len (va_cons (ve_var 0) va_nil)) (va_cons ve_int va_nil)))) va_nil)) (vg_nm nd) (vss_cons (vs_set 2 nd (ve_callD D__law_source hr tk (va_cons (ve_var 0) (va_cons (ve_var 1) va_nil)) (.cons (.cons .nil)))) (vss_cons (vs_set 3 nd (ve_bin o_add ve_int (ve_callD D__law_draw hr tk (va_cons (ve_var 2) (va_cons ve_int va_nil)) (.cons (.cons .nil))))) (vss_one (vs_for hp rfl (vi_range1 n_range (va_cons ve_int va_nil)) (vg_nm nd) (vss_one (vs_if (vt_w (vw_or (vt_not (vt_tru (ve_callD D__law_rows_right hr tk (va_cons (ve_var 2) (va_cons (ve_var 3) va_nil)) (.cons (.cons .nil))))) (vw_or1 (vt_not (vt_tru (ve_callD D__law_costs_right hr tk (va_cons (ve_var 2) (va_cons (ve_var 3) va_nil)) (.cons (.cons .nil)))))))) (vss_one (vs_ret ve_bl)) vss_nil))))))) (vss_one (vs_ret ve_bl)))
/-! Program_own_sorts -/
abbrev N_Program_own_sorts : List Str := ["self"]
abbrev s_Program_own_sorts : Stmt := sub 35 1
theorem sc_Program_own_sorts : FnScope N_Program_own_sorts ["self"] (defScope s_Program_own_sorts) := ⟨rfl, rfl, rfl, by decide +kernel, rfl, by decide +kernel, by decide +kernel⟩
noncomputable def b_Program_own_sorts (n : Nat) : S → Fl := (sDrop (eCall (F__wall n) (aCons (eC (.int 0)) aNil)))
noncomputable def F_Program_own_sorts (n : Nat) : Fn := fun ws ce => shut ce.length (b_Program_own_sorts n (entry 1 ws ce))
theorem ok_Program_own_sorts {P : Program} {w : World} {K : PySem.W.Frag} {mg : Str → Option Value} {base : Heap} (n : Nat) (D__wall : DefOk P w K mg base "_wall" 1 1 (F__wall n)) (f : Addr) (fd : FuncData) (Fu : Fun K "own_sorts" "Program.own_sorts" s_Program_own_sorts f fd) :
    FnG P w K mg base (1 + 1) f fd ["self"] (spOf K mg 1 (F_Program_own_sorts n)) := by
  refine fn_okG (k := 1) (body := b_Program_own_sorts n) Fu sc_Program_own_sorts rfl shut (.inl rfl) fun cdv A outer s H E hr => ?_
  have tk : Takes (cxOf (L2.CX P w) P w K mg base N_Program_own_sorts "Program.own_sorts" (defScope s_Program_own_sorts) f cdv A outer s H E) (fun c d _ H => E c d H) := takes_of rfl rfl rfl rfl
  have hp : PassesOwn (model P w) (A.deeper (envOfC "Program.own_sorts" (defScope s_Program_own_sorts) s.heap.objs.size f cdv)) (envOfC "Program.own_sorts" (defScope s_Program_own_sorts) s.heap.objs.size f cdv) (cxOf (L2.CX P w) P w K mg base N_Program_own_sorts "Program.own_sorts" (defScope s_Program_own_sorts) f cdv A outer s H E).xe := passes_of (X := (cxOf (L2.CX P w) P w K mg base N_Program_own_sorts "Program.own_sorts" (defScope s_Program_own_sorts) f cdv A outer s H E)) rfl
  have nd : (N_Program_own_sorts).Nodup := sc_Program_own_sorts.nd
  exact (vss_one (vs_expr (ve_callD D__wall hr tk (va_cons ve_int va_nil) (.cons .nil))))
/-! Program_all_rules -/
abbrev N_Program_all_rules : List Str := ["self"]
abbrev s_Program_all_rules : Stmt := sub 35 2
theorem sc_Program_all_rules : FnScope N_Program_all_rules ["self"] (defScope s_Program_all_rules) := ⟨rfl, rfl, rfl, by decide +kernel, rfl, by decide +kernel, by decide +kernel⟩
noncomputable def b_Program_all_rules (n : Nat) : S → Fl := (sDrop (eCall (F__wall n) (aCons (eC (.int 1)) aNil)))
noncomputable def F_Program_all_rules (n : Nat) : Fn := fun ws ce => shut ce.length (b_Program_all_rules n (entry 1 ws ce))
theorem ok_Program_all_rules {P : Program} {w : World} {K : PySem.W.Frag} {mg : Str → Option Value} {base : Heap} (n : Nat) (D__wall : DefOk P w K mg base "_wall" 1 1 (F__wall n)) (f : Addr) (fd : FuncData) (Fu : Fun K "all_rules" "Program.all_rules" s_Program_all_rules f fd) :
    FnG P w K mg base (1 + 1) f fd ["self"] (spOf K mg 1 (F_Program_all_rules n)) := by
  refine fn_okG (k := 1) (body := b_Program_all_rules n) Fu sc_Program_all_rules rfl shut (.inl rfl) fun cdv A outer s H E hr => ?_
  have tk : Takes (cxOf (L2.CX P w) P w K mg base N_Program_all_rules "Program.all_rules" (defScope s_Program_all_rules) f cdv A outer s H E) (fun c d _ H => E c d H) := takes_of rfl rfl rfl rfl
  have hp : PassesOwn (model P w) (A.deeper (envOfC "Program.all_rules" (defScope s_Program_all_rules) s.heap.objs.size f cdv)) (envOfC "Program.all_rules" (defScope s_Program_all_rules) s.heap.objs.size f cdv) (cxOf (L2.CX P w) P w K mg base N_Program_all_rules "Program.all_rules" (defScope s_Program_all_rules) f cdv A outer s H E).xe := passes_of (X := (cxOf (L2.CX P w) P w K mg base N_Program_all_rules "Program.all_rules" (defScope s_Program_all_rules) f cdv A outer s H E)) rfl
  have nd : (N_Program_all_rules).Nodup := sc_Program_all_rules.nd
  exact (vss_one (vs_expr (ve_callD D__wall hr tk (va_cons ve_int va_nil) (.cons .nil))))
/-! Program_with_rule -/
abbrev N_Program_with_rule : List Str := ["self", "number", "rule"]
abbrev s_Program_with_rule : Stmt := sub 35 4
theorem sc_Program_with_rule : FnScope N_Program_with_rule ["self", "number", "rule"] (defScope s_Program_with_rule) := ⟨rfl, rfl, rfl, by decide +kernel, rfl, by decide +kernel, by decide +kernel⟩
noncomputable def b_Program_with_rule (n : Nat) : S → Fl := (sDrop (eCall (F__wall n) (aCons (eC (.int 2)) aNil)))
noncomputable def F_Program_with_rule (n : Nat) : Fn := fun ws ce => shut ce.length (b_Program_with_rule n (entry 3 ws ce))
theorem ok_Program_with_rule {P : Program} {w : World} {K : PySem.W.Frag} {mg : Str → Option Value} {base : Heap} (n : Nat) (D__wall : DefOk P w K mg base "_wall" 1 1 (F__wall n)) (f : Addr) (fd : FuncData) (Fu : Fun K "with_rule" "Program.with_rule" s_Program_with_rule f fd) :
    FnG P w K mg base (1 + 1) f fd ["self", "number", "rule"] (spOf K mg 3 (F_Program_with_rule n)) := by
  refine fn_okG (k := 1) (body := b_Program_with_rule n) Fu sc_Program_with_rule rfl shut (.inl rfl) fun cdv A outer s H E hr => ?_
  have tk : Takes (cxOf (L2.CX P w) P w K mg base N_Program_with_rule "Program.with_rule" (defScope s_Program_with_rule) f cdv A outer s H E) (fun c d _ H => E c d H) := takes_of rfl rfl rfl rfl
  have hp : PassesOwn (model P w) (A.deeper (envOfC "Program.with_rule" (defScope s_Program_with_rule) s.heap.objs.size f cdv)) (envOfC "Program.with_rule" (defScope s_Program_with_rule) s.heap.objs.size f cdv) (cxOf (L2.CX P w) P w K mg base N_Program_with_rule "Program.with_rule" (defScope s_Program_with_rule) f cdv A outer s H E).xe := passes_of (X := (cxOf (L2.CX P w) P w K mg base N_Program_with_rule "Program.with_rule" (defScope s_Program_with_rule) f cdv A outer s H E)) rfl
  have nd : (N_Program_with_rule).Nodup := sc_Program_with_rule.nd
  exact (vss_one (vs_expr (ve_callD D__wall hr tk (va_cons ve_int va_nil) (.cons .nil))))
/-! Program_without_rule -/
abbrev N_Program_without_rule : List Str := ["self", "number"]
abbrev s_Program_without_rule : Stmt := sub 35 5
theorem sc_Program_without_rule : FnScope N_Program_without_rule ["self", "number"] (defScope s_Program_without_rule) := ⟨rfl, rfl, rfl, by decide +kernel, rfl, by decide +kernel, by decide +kernel⟩
noncomputable def b_Program_without_rule (n : Nat) : S → Fl := (sDrop (eCall (F__wall n) (aCons (eC (.int 3)) aNil)))
noncomputable def F_Program_without_rule (n : Nat) : Fn := fun ws ce => shut ce.length (b_Program_without_rule n (entry 2 ws ce))
theorem ok_Program_without_rule {P : Program} {w : World} {K : PySem.W.Frag} {mg : Str → Option Value} {base : Heap} (n : Nat) (D__wall : DefOk P w K mg base "_wall" 1 1 (F__wall n)) (f : Addr) (fd : FuncData) (Fu : Fun K "without_rule" "Program.without_rule" s_Program_without_rule f fd) :
    FnG P w K mg base (1 + 1) f fd ["self", "number"] (spOf K mg 2 (F_Program_without_rule n)) := by
  refine fn_okG (k := 1) (body := b_Program_without_rule n) Fu sc_Program_without_rule rfl shut (.inl rfl) fun cdv A outer s H E hr => ?_
  have tk : Takes (cxOf (L2.CX P w) P w K mg base N_Program_without_rule "Program.without_rule" (defScope s_Program_without_rule) f cdv A outer s H E) (fun c d _ H => E c d H) := takes_of rfl rfl rfl rfl
  have hp : PassesOwn (model P w) (A.deeper (envOfC "Program.without_rule" (defScope s_Program_without_rule) s.heap.objs.size f cdv)) (envOfC "Program.without_rule" (defScope s_Program_without_rule) s.heap.objs.size f cdv) (cxOf (L2.CX P w) P w K mg base N_Program_without_rule "Program.without_rule" (defScope s_Program_without_rule) f cdv A outer s H E).xe := passes_of (X := (cxOf (L2.CX P w) P w K mg base N_Program_without_rule "Program.without_rule" (defScope s_Program_without_rule) f cdv A outer s H E)) rfl
  have nd : (N_Program_without_rule).Nodup := sc_Program_without_rule.nd
  exact (vss_one (vs_expr (ve_callD D__wall hr tk (va_cons ve_int va_nil) (.cons .nil))))
/-! Program_with_own -/
abbrev N_Program_with_own : List Str := ["self", "number", "own"]
abbrev s_Program_with_own : Stmt := sub 35 6
theorem sc_Program_with_own : FnScope N_Program_with_own ["self", "number", "own"] (defScope s_Program_with_own) := ⟨rfl, rfl, rfl, by decide +kernel, rfl, by decide +kernel, by decide +kernel⟩
noncomputable def b_Program_with_own (n : Nat) : S → Fl := (sDrop (eCall (F__wall n) (aCons (eC (.int 4)) aNil)))
noncomputable def F_Program_with_own (n : Nat) : Fn := fun ws ce => shut ce.length (b_Program_with_own n (entry 3 ws ce))
theorem ok_Program_with_own {P : Program} {w : World} {K : PySem.W.Frag} {mg : Str → Option Value} {base : Heap} (n : Nat) (D__wall : DefOk P w K mg base "_wall" 1 1 (F__wall n)) (f : Addr) (fd : FuncData) (Fu : Fun K "with_own" "Program.with_own" s_Program_with_own f fd) :
    FnG P w K mg base (1 + 1) f fd ["self", "number", "own"] (spOf K mg 3 (F_Program_with_own n)) := by
  refine fn_okG (k := 1) (body := b_Program_with_own n) Fu sc_Program_with_own rfl shut (.inl rfl) fun cdv A outer s H E hr => ?_
  have tk : Takes (cxOf (L2.CX P w) P w K mg base N_Program_with_own "Program.with_own" (defScope s_Program_with_own) f cdv A outer s H E) (fun c d _ H => E c d H) := takes_of rfl rfl rfl rfl
  have hp : PassesOwn (model P w) (A.deeper (envOfC "Program.with_own" (defScope s_Program_with_own) s.heap.objs.size f cdv)) (envOfC "Program.with_own" (defScope s_Program_with_own) s.heap.objs.size f cdv) (cxOf (L2.CX P w) P w K mg base N_Program_with_own "Program.with_own" (defScope s_Program_with_own) f cdv A outer s H E).xe := passes_of (X := (cxOf (L2.CX P w) P w K mg base N_Program_with_own "Program.with_own" (defScope s_Program_with_own) f cdv A outer s H E)) rfl
  have nd : (N_Program_with_own).Nodup := sc_Program_with_own.nd
  exact (vss_one (vs_expr (ve_callD D__wall hr tk (va_cons ve_int va_nil) (.cons .nil))))
/-! Program___len__ -/
abbrev N_Program___len__ : List Str := ["self"]
abbrev s_Program___len__ : Stmt := sub 35 8
theorem sc_Program___len__ : FnScope N_Program___len__ ["self"] (defScope s_Program___len__) := ⟨rfl, rfl, rfl, by decide +kernel, rfl, by decide +kernel, by decide +kernel⟩
noncomputable def b_Program___len__ (n : Nat) : S → Fl := (sRet (eOpN lenN (aCons (eAttr ["Program"] "_rules" (eVar 0)) aNil)))
noncomputable def F_Program___len__ (n : Nat) : Fn := fun ws ce => shut ce.length (b_Program___len__ n (entry 1 ws ce))
theorem ok_Program___len__ {P : Program} {w : World} {K : PySem.W.Frag} {mg : Str → Option Value} {base : Heap} (n : Nat) (n_len : mg "len" = none) (Fd__rules : FldC K mg ["Program"] "_rules") (f : Addr) (fd : FuncData) (Fu : Fun K "__len__" "Program.__len__" s_Program___len__ f fd) :
    FnG P w K mg base (0 + 1) f fd ["self"] (spOf K mg 1 (F_Program___len__ n)) := by
  refine fn_okG (k := 0) (body := b_Program___len__ n) Fu sc_Program___len__ rfl shut (.inl rfl) fun cdv A outer s H E hr => ?_
  have tk : Takes (cxOf (L2.CX P w) P w K mg base N_Program___len__ "Program.__len__" (defScope s_Program___len__) f cdv A outer s H E) (fun c d _ H => E c d H) := takes_of rfl rfl rfl rfl
  have hp : PassesOwn (model P w) (A.deeper (envOfC "Program.__len__" (defScope s_Program___len__) s.heap.objs.size f cdv)) (envOfC "Program.__len__" (defScope s_Program___len__) s.heap.objs.size f cdv) (cxOf (L2.CX P w) P w K mg base N_Program___len__ "Program.__len__" (defScope s_Program___len__) f cdv A outer s H E).xe := passes_of (X := (cxOf (L2.CX P w) P w K mg base N_Program___len__ "Program.__len__" (defScope s_Program___len__) f cdv A outer s H E)) rfl
  have nd : (N_Program___len__).Nodup := sc_Program___len__.nd
  exact (vss_one (vs_ret (ve_callB (b_lenN) rfl n_len bt_len (va_cons (ve_attr Fd__rules (ve_var 0)) va_nil))))
/-! the end -/
def fn0 : List He.DefD := [defAt "is_int" (top 12), defAt "is_int_from" (top 13), defAt "is_list" (top 14), defAt "is_list_of" (top 15), defAt "is_amount_of" (top 16), defAt "is_amount" (top 17), defAt "is_prices" (top 18), defAt "is_thing" (top 19), defAt "are_sorts" (top 20), defAt "product_of" (top 22), methAt "BadAmounts" "__init__" "BadAmounts.__init__" (sub 6 0), defAt "checked_amounts" (top 24), defAt "how_many_up_to" (top 25), defAt "least_of" (top 26), defAt "least_rows" (top 28), methAt "BadAmount" "__init__" "BadAmount.__init__" (sub 5 0), methAt "BadPrices" "__init__" "BadPrices.__init__" (sub 7 0), defAt "cost" (top 29), defAt "is_way" (top 31), defAt "is_part" (top 32), defAt "is_rule_of" (top 33), defAt "as_tuples" (top 34), defAt "_law_source" (top 37), defAt "_law_draw" (top 38), defAt "_law_pick" (top 39), methAt "Program" "__eq__" "Program.__eq__" (sub 35 7), defAt "_law_same" (top 40), defAt "_law_number" (top 41), defAt "_law_amount" (top 42), defAt "_law_amounts" (top 43)]
def fn1 : List He.DefD := [defAt "_law_handed" (top 44), defAt "_law_dot" (top 45), defAt "_law_most" (top 46), defAt "_law_least" (top 47), methAt "BadSorts" "__init__" "BadSorts.__init__" (sub 3 0), methAt "BadRule" "__init__" "BadRule.__init__" (sub 4 0), methAt "Program" "__init__" "Program.__init__" (sub 35 0), defAt "_law_odd" (top 48), defAt "_law_told_rows" (top 49), defAt "_law_told_cost" (top 50), defAt "_law_prices" (top 51), defAt "_law_rows_right" (top 52), defAt "_law_costs_right" (top 53), defAt "law" (top 54)]
abbrev fn : List He.DefD := fn0 ++ fn1
def fa0 : List Fact := [frB "bool", frB "int", frB "isinstance", isB OWN, glB "is_int", glB "is_int_from", frB "list", frB "tuple", glB "is_list", frB "len", glB "is_list_of", frB "all", glB "is_amount_of", inB "MOST_RESOURCES" 3, glB "is_amount", frB "max", glB "is_prices", frB "str", inB "MOST_SIGNS" 24, stB "SIGNS" "abcdefghijklmnopqrstuvwxyz0123456789.-", glB "is_thing", glB "are_sorts", frB "sum", frB "zip", glB "product_of", frB "enumerate", errB "BadAmounts" "index", glB "checked_amounts", glB "how_many_up_to", frB "sorted"]
def fa1 : List Fact := [glB "least_of", glB "least_rows", errB "BadAmount" "amount", errB "BadPrices" "prices", glB "cost", glB "is_way", glB "is_part", glB "is_rule_of", glB "as_tuples", glB "_law_source", glB "_law_draw", glB "_law_pick", glB "Program", fldB ["Program"] "_sorts", fldB ["Program"] "_rules", metB "Program" "__eq__", frB "dict", glB "_law_same", glB "_law_number", frB "range", glB "_law_amount", glB "_law_amounts", glB "_law_handed", glB "_law_dot", glB "_law_most", frB "any", glB "_law_least", errB "BadSorts" "sorts", errB "BadRule" "index", mkB "Program"]
def fa2 : List Fact := [fnB "_law_dot", glB "_law_odd", exB EC, glB "_law_told_rows", glB "_law_told_cost", glB "_law_prices", frB "repr", glB "_law_rows_right", glB "_law_costs_right", frB "min", glB "law"]
abbrev fa : List Fact := fa0 ++ fa1 ++ fa2
def names0 : List Str := ["_wall", "PlanError", "BadSorts", "BadRule", "BadAmount", "BadAmounts", "BadPrices", "SIGNS", "MOST_SIGNS", "MOST_RESOURCES", "is_int", "is_int_from", "is_list", "is_list_of", "is_amount_of", "is_amount", "is_prices", "is_thing", "are_sorts", "product_of", "checked_amounts", "how_many_up_to", "least_of", "least_rows", "cost", "is_way", "is_part", "is_rule_of", "as_tuples", "Program"]
def names1 : List Str := ["_law_source", "_law_draw", "_law_pick", "_law_same", "_law_number", "_law_amount", "_law_amounts", "_law_handed", "_law_dot", "_law_most", "_law_least", "_law_odd", "_law_told_rows", "_law_told_cost", "_law_prices", "_law_rows_right", "_law_costs_right"]
abbrev names : List Str := names0 ++ names1
abbrev Pg : Program := PySem.Challenge.pw_anyprice_k01_rows_and_costs
abbrev Rw : PySem.W.OpenRow := PySem.W.OpenLaw.row PySem.Challenge.rw_anyprice_k01_rows_and_costs
abbrev hk : PySem.W.Hook := hookE 4 fa fn
def ob (s : PySem.W.SharedT) : He.AlD := obsEG 4 fa fn (HandSHeadRun.getT s)
theorem ob_eq (s : PySem.W.SharedT) : ob s = hk.obs s.abs := obsEG_eq (HandSHeadRun.getT_eq s)
theorem run (w : World) : HandSHeadRun.RunEq Rw (PySem.W.view Rw.prog [54]) hk ob 4000 names w := by
  intro os
  kernel_rfl
theorem at_ (i : Nat) {f : Fact} (h : fa[i]? = some f) : f ∈ fa := List.mem_of_getElem? h
theorem dt_ (i : Nat) {f : He.DefD} (h : fn[i]? = some f) : f ∈ fn := List.mem_of_getElem? h
theorem law_at {K : PySem.W.Frag} {h : Heap} {mg : Str → Option Value} (X : K.In h) (G : h.Ns mainGlobals mg) (c : SaysE fa fn K) : FunAt K mg "law" s_law ["script"] := funAt X G c (dt_ 43 rfl) (at_ 70 rfl) (fun kV doc pm an cdv ct us hl => match us, hl with | [_], _ => rfl) rfl
theorem all_ok (n : Nat) {w : World} {K : PySem.W.Frag} {h base : Heap} {mg : Str → Option Value} (X : K.In h) (G : h.Ns mainGlobals mg) (c : SaysE fa fn K) : DefOk Pg w K mg base "law" 16 1 (F_law n) := by
  have A_is_int : FunAt K mg "is_int" s_is_int ["thing"] := funAt X G c (dt_ 0 rfl) (at_ 4 rfl) (fun kV doc pm an cdv ct us hl => match us, hl with | [_], _ => rfl) rfl
  have D_is_int : DefOk Pg w K mg base "is_int" 1 1 (F_is_int n) := ok_is_int n A_is_int (fre_of X G c (at_ 0 rfl)) (fre_of X G c (at_ 1 rfl)) (fre_of X G c (at_ 2 rfl)) (isTab_of X G c (at_ 3 rfl))
  have A_is_int_from : FunAt K mg "is_int_from" s_is_int_from ["thing", "least"] := funAt X G c (dt_ 1 rfl) (at_ 5 rfl) (fun kV doc pm an cdv ct us hl => match us, hl with | [_, _], _ => rfl) rfl
  have D_is_int_from : DefOk Pg w K mg base "is_int_from" 2 2 (F_is_int_from n) := ok_is_int_from n A_is_int_from D_is_int
  have A_is_list : FunAt K mg "is_list" s_is_list ["thing"] := funAt X G c (dt_ 2 rfl) (at_ 8 rfl) (fun kV doc pm an cdv ct us hl => match us, hl with | [_], _ => rfl) rfl
  have D_is_list : DefOk Pg w K mg base "is_list" 1 1 (F_is_list n) := ok_is_list n A_is_list (fre_of X G c (at_ 2 rfl)) (fre_of X G c (at_ 6 rfl)) (fre_of X G c (at_ 7 rfl)) (isTab_of X G c (at_ 3 rfl))
  have A_is_list_of : FunAt K mg "is_list_of" s_is_list_of ["thing", "many"] := funAt X G c (dt_ 3 rfl) (at_ 10 rfl) (fun kV doc pm an cdv ct us hl => match us, hl with | [_, _], _ => rfl) rfl
  have D_is_list_of : DefOk Pg w K mg base "is_list_of" 2 2 (F_is_list_of n) := ok_is_list_of n A_is_list_of (fre_of X G c (at_ 9 rfl)) D_is_list
  have A_is_amount_of : FunAt K mg "is_amount_of" s_is_amount_of ["thing", "many"] := funAt X G c (dt_ 4 rfl) (at_ 12 rfl) (fun kV doc pm an cdv ct us hl => match us, hl with | [_, _], _ => rfl) rfl
  have D_is_amount_of : DefOk Pg w K mg base "is_amount_of" 3 2 (F_is_amount_of n) := ok_is_amount_of n A_is_amount_of (fre_of X G c (at_ 11 rfl)) D_is_list_of D_is_int_from
  have A_is_amount : FunAt K mg "is_amount" s_is_amount ["thing"] := funAt X G c (dt_ 5 rfl) (at_ 14 rfl) (fun kV doc pm an cdv ct us hl => match us, hl with | [_], _ => rfl) rfl
  have D_is_amount : DefOk Pg w K mg base "is_amount" 4 1 (F_is_amount n) := ok_is_amount n A_is_amount (fre_of X G c (at_ 9 rfl)) (int_of X G c (at_ 13 rfl)) D_is_list D_is_amount_of
  have A_is_prices : FunAt K mg "is_prices" s_is_prices ["thing"] := funAt X G c (dt_ 6 rfl) (at_ 16 rfl) (fun kV doc pm an cdv ct us hl => match us, hl with | [_], _ => rfl) rfl
  have D_is_prices : DefOk Pg w K mg base "is_prices" 5 1 (F_is_prices n) := ok_is_prices n A_is_prices (fre_of X G c (at_ 15 rfl)) D_is_amount
  have A_is_thing : FunAt K mg "is_thing" s_is_thing ["thing"] := funAt X G c (dt_ 7 rfl) (at_ 20 rfl) (fun kV doc pm an cdv ct us hl => match us, hl with | [_], _ => rfl) rfl
  have D_is_thing : DefOk Pg w K mg base "is_thing" 1 1 (F_is_thing n) := ok_is_thing n A_is_thing (fre_of X G c (at_ 11 rfl)) (fre_of X G c (at_ 2 rfl)) (fre_of X G c (at_ 9 rfl)) (fre_of X G c (at_ 17 rfl)) (int_of X G c (at_ 18 rfl)) (str_of X G c (at_ 19 rfl)) (isTab_of X G c (at_ 3 rfl))
  have A_are_sorts : FunAt K mg "are_sorts" s_are_sorts ["thing"] := funAt X G c (dt_ 8 rfl) (at_ 21 rfl) (fun kV doc pm an cdv ct us hl => match us, hl with | [_], _ => rfl) rfl
  have D_are_sorts : DefOk Pg w K mg base "are_sorts" 2 1 (F_are_sorts n) := ok_are_sorts n A_are_sorts (fre_of X G c (at_ 11 rfl)) (fre_of X G c (at_ 9 rfl)) (int_of X G c (at_ 13 rfl)) D_is_list
  have A_product_of : FunAt K mg "product_of" s_product_of ["one", "other"] := funAt X G c (dt_ 9 rfl) (at_ 24 rfl) (fun kV doc pm an cdv ct us hl => match us, hl with | [_, _], _ => rfl) rfl
  have D_product_of : DefOk Pg w K mg base "product_of" 1 2 (F_product_of n) := ok_product_of n A_product_of (fre_of X G c (at_ 22 rfl)) (fre_of X G c (at_ 23 rfl))
  obtain ⟨C_BadAmounts, E_BadAmounts⟩ := err1_of (P := Pg) (w := w) (base := base) (sf := "self") X G c (at_ 26 rfl) (dt_ 10 rfl) ⟨rfl, rfl, rfl, by decide +kernel, rfl, by decide +kernel, by decide +kernel⟩ rfl (Or.inl rfl) (Or.inl rfl) (by decide) (by decide) (by decide) (by decide) (fun kV doc pm an cdv ct us hl => match us, hl with | [_, _], _ => rfl)
  have A_checked_amounts : FunAt K mg "checked_amounts" s_checked_amounts ["amounts"] := funAt X G c (dt_ 11 rfl) (at_ 27 rfl) (fun kV doc pm an cdv ct us hl => match us, hl with | [_], _ => rfl) rfl
  have D_checked_amounts : DefOk Pg w K mg base "checked_amounts" 5 1 (F_checked_amounts n) := ok_checked_amounts n A_checked_amounts (fre_of X G c (at_ 25 rfl)) (fre_of X G c (at_ 9 rfl)) (fre_of X G c (at_ 7 rfl)) E_BadAmounts D_is_list D_is_amount
  have A_how_many_up_to : FunAt K mg "how_many_up_to" s_how_many_up_to ["numbers", "limit"] := funAt X G c (dt_ 12 rfl) (at_ 28 rfl) (fun kV doc pm an cdv ct us hl => match us, hl with | [_, _], _ => rfl) rfl
  have D_how_many_up_to : DefOk Pg w K mg base "how_many_up_to" 1 2 (F_how_many_up_to n) := ok_how_many_up_to n A_how_many_up_to (fre_of X G c (at_ 9 rfl))
  have A_least_of : FunAt K mg "least_of" s_least_of ["rows"] := funAt X G c (dt_ 13 rfl) (at_ 30 rfl) (fun kV doc pm an cdv ct us hl => match us, hl with | [_], _ => rfl) rfl
  have D_least_of : DefOk Pg w K mg base "least_of" 2 1 (F_least_of n) := ok_least_of n A_least_of (fre_of X G c (at_ 9 rfl)) (fre_of X G c (at_ 29 rfl)) D_how_many_up_to
  have A_least_rows : FunAt K mg "least_rows" s_least_rows ["amounts"] := funAt X G c (dt_ 14 rfl) (at_ 31 rfl) (fun kV doc pm an cdv ct us hl => match us, hl with | [_], _ => rfl) rfl
  have D_least_rows : DefOk Pg w K mg base "least_rows" 6 1 (F_least_rows n) := ok_least_rows n A_least_rows D_least_of D_checked_amounts
  obtain ⟨C_BadAmount, E_BadAmount⟩ := err1_of (P := Pg) (w := w) (base := base) (sf := "self") X G c (at_ 32 rfl) (dt_ 15 rfl) ⟨rfl, rfl, rfl, by decide +kernel, rfl, by decide +kernel, by decide +kernel⟩ rfl (Or.inl rfl) (Or.inl rfl) (by decide) (by decide) (by decide) (by decide) (fun kV doc pm an cdv ct us hl => match us, hl with | [_, _], _ => rfl)
  obtain ⟨C_BadPrices, E_BadPrices⟩ := err1_of (P := Pg) (w := w) (base := base) (sf := "self") X G c (at_ 33 rfl) (dt_ 16 rfl) ⟨rfl, rfl, rfl, by decide +kernel, rfl, by decide +kernel, by decide +kernel⟩ rfl (Or.inl rfl) (Or.inl rfl) (by decide) (by decide) (by decide) (by decide) (fun kV doc pm an cdv ct us hl => match us, hl with | [_, _], _ => rfl)
  have A_cost : FunAt K mg "cost" s_cost ["amount", "prices"] := funAt X G c (dt_ 17 rfl) (at_ 34 rfl) (fun kV doc pm an cdv ct us hl => match us, hl with | [_, _], _ => rfl) rfl
  have D_cost : DefOk Pg w K mg base "cost" 6 2 (F_cost n) := ok_cost n A_cost (fre_of X G c (at_ 9 rfl)) E_BadAmount E_BadPrices D_is_amount D_is_prices D_product_of
  have A_is_way : FunAt K mg "is_way" s_is_way ["sort", "word"] := funAt X G c (dt_ 18 rfl) (at_ 35 rfl) (fun kV doc pm an cdv ct us hl => match us, hl with | [_, _], _ => rfl) rfl
  have D_is_way : DefOk Pg w K mg base "is_way" 1 2 (F_is_way n) := ok_is_way n A_is_way 
  have A_is_part : FunAt K mg "is_part" s_is_part ["how", "thing"] := funAt X G c (dt_ 19 rfl) (at_ 36 rfl) (fun kV doc pm an cdv ct us hl => match us, hl with | [_, _], _ => rfl) rfl
  have D_is_part : DefOk Pg w K mg base "is_part" 4 2 (F_is_part n) := ok_is_part n A_is_part (fre_of X G c (at_ 11 rfl)) (fre_of X G c (at_ 9 rfl)) (fre_of X G c (at_ 23 rfl)) D_is_list_of D_is_thing D_is_int_from D_is_amount_of
  have A_is_rule_of : FunAt K mg "is_rule_of" s_is_rule_of ["sorts", "thing"] := funAt X G c (dt_ 20 rfl) (at_ 37 rfl) (fun kV doc pm an cdv ct us hl => match us, hl with | [_, _], _ => rfl) rfl
  have D_is_rule_of : DefOk Pg w K mg base "is_rule_of" 5 2 (F_is_rule_of n) := ok_is_rule_of n A_is_rule_of (fre_of X G c (at_ 11 rfl)) (fre_of X G c (at_ 9 rfl)) (fre_of X G c (at_ 23 rfl)) D_is_list_of D_is_thing D_is_list D_is_amount_of D_is_way D_is_part
  have A_as_tuples : FunAt K mg "as_tuples" s_as_tuples ["rule"] := funAt X G c (dt_ 21 rfl) (at_ 38 rfl) (fun kV doc pm an cdv ct us hl => match us, hl with | [_], _ => rfl) rfl
  have D_as_tuples : DefOk Pg w K mg base "as_tuples" 1 1 (F_as_tuples n) := ok_as_tuples n A_as_tuples (fre_of X G c (at_ 7 rfl))
  have A__law_source : FunAt K mg "_law_source" s__law_source ["script", "place"] := funAt X G c (dt_ 22 rfl) (at_ 39 rfl) (fun kV doc pm an cdv ct us hl => match us, hl with | [_, _], _ => rfl) rfl
  have D__law_source : DefOk Pg w K mg base "_law_source" 1 2 (F__law_source n) := ok__law_source n A__law_source (fre_of X G c (at_ 1 rfl)) (fre_of X G c (at_ 9 rfl)) (fre_of X G c (at_ 22 rfl))
  have A__law_draw : FunAt K mg "_law_draw" s__law_draw ["draws", "many"] := funAt X G c (dt_ 23 rfl) (at_ 40 rfl) (fun kV doc pm an cdv ct us hl => match us, hl with | [_, _], _ => rfl) rfl
  have D__law_draw : DefOk Pg w K mg base "_law_draw" 1 2 (F__law_draw n) := ok__law_draw n A__law_draw (fre_of X G c (at_ 1 rfl))
  have A__law_pick : FunAt K mg "_law_pick" s__law_pick ["draws", "some"] := funAt X G c (dt_ 24 rfl) (at_ 41 rfl) (fun kV doc pm an cdv ct us hl => match us, hl with | [_, _], _ => rfl) rfl
  have D__law_pick : DefOk Pg w K mg base "_law_pick" 2 2 (F__law_pick n) := ok__law_pick n A__law_pick (fre_of X G c (at_ 9 rfl)) D__law_draw
  have M_Program___eq__ : MethOk Pg w K mg base "Program" "__eq__" 1 2 (F_Program___eq__ n) := methOk_of X G c (at_ 45 rfl) (dt_ 25 rfl) (fun kV doc pm an cdv ct us hl => match us, hl with | [_, _], _ => rfl) fun f fd Fu => ok_Program___eq__ n (fre_of X G c (at_ 2 rfl)) (isTab_of X G c (at_ 3 rfl)) (glo_of X G c (at_ 42 rfl)) (fldC_of X G c (at_ 43 rfl)) (fldC_of X G c (at_ 44 rfl)) f fd Fu
  have A__law_same : FunAt K mg "_law_same" s__law_same ["found", "due"] := funAt X G c (dt_ 26 rfl) (at_ 47 rfl) (fun kV doc pm an cdv ct us hl => match us, hl with | [_, _], _ => rfl) rfl
  have D__law_same : DefOk Pg w K mg base "_law_same" 14 2 (F__law_same n RF) := ok__law_same n A__law_same (fre_of X G c (at_ 11 rfl)) (fre_of X G c (at_ 0 rfl)) (fre_of X G c (at_ 46 rfl)) (fre_of X G c (at_ 1 rfl)) (fre_of X G c (at_ 2 rfl)) (fre_of X G c (at_ 9 rfl)) (fre_of X G c (at_ 6 rfl)) (fre_of X G c (at_ 7 rfl)) (fre_of X G c (at_ 23 rfl)) (isTab_of X G c (at_ 3 rfl)) M_Program___eq__ RF
  have A__law_number : FunAt K mg "_law_number" s__law_number ["draws"] := funAt X G c (dt_ 27 rfl) (at_ 48 rfl) (fun kV doc pm an cdv ct us hl => match us, hl with | [_], _ => rfl) rfl
  have D__law_number : DefOk Pg w K mg base "_law_number" 2 1 (F__law_number n) := ok__law_number n A__law_number D__law_draw
  have A__law_amount : FunAt K mg "_law_amount" s__law_amount ["draws", "many"] := funAt X G c (dt_ 28 rfl) (at_ 50 rfl) (fun kV doc pm an cdv ct us hl => match us, hl with | [_, _], _ => rfl) rfl
  have D__law_amount : DefOk Pg w K mg base "_law_amount" 3 2 (F__law_amount n) := ok__law_amount n A__law_amount (fre_of X G c (at_ 49 rfl)) (fre_of X G c (at_ 7 rfl)) D__law_number
  have A__law_amounts : FunAt K mg "_law_amounts" s__law_amounts ["draws", "many", "size"] := funAt X G c (dt_ 29 rfl) (at_ 51 rfl) (fun kV doc pm an cdv ct us hl => match us, hl with | [_, _, _], _ => rfl) rfl
  have D__law_amounts : DefOk Pg w K mg base "_law_amounts" 4 3 (F__law_amounts n) := ok__law_amounts n A__law_amounts (fre_of X G c (at_ 1 rfl)) (fre_of X G c (at_ 15 rfl)) (fre_of X G c (at_ 49 rfl)) (fre_of X G c (at_ 7 rfl)) (fre_of X G c (at_ 23 rfl)) D__law_draw D__law_pick D__law_amount
  have A__law_handed : FunAt K mg "_law_handed" s__law_handed ["draws", "rows"] := funAt X G c (dt_ 30 rfl) (at_ 52 rfl) (fun kV doc pm an cdv ct us hl => match us, hl with | [_, _], _ => rfl) rfl
  have D__law_handed : DefOk Pg w K mg base "_law_handed" 2 2 (F__law_handed n) := ok__law_handed n A__law_handed (fre_of X G c (at_ 6 rfl)) (fre_of X G c (at_ 7 rfl)) D__law_draw
  have A__law_dot : FunAt K mg "_law_dot" s__law_dot ["one", "other"] := funAt X G c (dt_ 31 rfl) (at_ 53 rfl) (fun kV doc pm an cdv ct us hl => match us, hl with | [_, _], _ => rfl) rfl
  have D__law_dot : DefOk Pg w K mg base "_law_dot" 1 2 (F__law_dot n) := ok__law_dot n A__law_dot (fre_of X G c (at_ 22 rfl)) (fre_of X G c (at_ 23 rfl))
  have A__law_most : FunAt K mg "_law_most" s__law_most ["one", "other"] := funAt X G c (dt_ 32 rfl) (at_ 54 rfl) (fun kV doc pm an cdv ct us hl => match us, hl with | [_, _], _ => rfl) rfl
  have D__law_most : DefOk Pg w K mg base "_law_most" 1 2 (F__law_most n) := ok__law_most n A__law_most (fre_of X G c (at_ 11 rfl)) (fre_of X G c (at_ 23 rfl))
  have A__law_least : FunAt K mg "_law_least" s__law_least ["rows"] := funAt X G c (dt_ 33 rfl) (at_ 56 rfl) (fun kV doc pm an cdv ct us hl => match us, hl with | [_], _ => rfl) rfl
  have D__law_least : DefOk Pg w K mg base "_law_least" 2 1 (F__law_least n) := ok__law_least n A__law_least (fre_of X G c (at_ 55 rfl)) (fre_of X G c (at_ 25 rfl)) (fre_of X G c (at_ 29 rfl)) D__law_most
  obtain ⟨C_BadSorts, E_BadSorts⟩ := err1_of (P := Pg) (w := w) (base := base) (sf := "self") X G c (at_ 57 rfl) (dt_ 34 rfl) ⟨rfl, rfl, rfl, by decide +kernel, rfl, by decide +kernel, by decide +kernel⟩ rfl (Or.inl rfl) (Or.inl rfl) (by decide) (by decide) (by decide) (by decide) (fun kV doc pm an cdv ct us hl => match us, hl with | [_, _], _ => rfl)
  obtain ⟨C_BadRule, E_BadRule⟩ := err1_of (P := Pg) (w := w) (base := base) (sf := "self") X G c (at_ 58 rfl) (dt_ 35 rfl) ⟨rfl, rfl, rfl, by decide +kernel, rfl, by decide +kernel, by decide +kernel⟩ rfl (Or.inl rfl) (Or.inl rfl) (by decide) (by decide) (by decide) (by decide) (fun kV doc pm an cdv ct us hl => match us, hl with | [_, _], _ => rfl)
  have K_Program : MakeOk Pg w K mg base "Program" 6 3 (F_Program___init__ n) := makeOk_of X G c (at_ 59 rfl) (dt_ 36 rfl) (fun kV doc pm an cdv ct us hl => match us, hl with | [_, _, _], _ => rfl) fun f fd Fu => ok_Program___init__ n (fre_of X G c (at_ 25 rfl)) (fre_of X G c (at_ 7 rfl)) E_BadSorts E_BadRule (fldC_of X G c (at_ 43 rfl)) (fldC_of X G c (at_ 44 rfl)) D_are_sorts D_is_list D_is_rule_of D_as_tuples f fd Fu
  have A__law_odd : FunAt K mg "_law_odd" s__law_odd ["draws"] := funAt X G c (dt_ 37 rfl) (at_ 61 rfl) (fun kV doc pm an cdv ct us hl => match us, hl with | [_], _ => rfl) rfl
  have D__law_odd : DefOk Pg w K mg base "_law_odd" 8 1 (F__law_odd n) := ok__law_odd n A__law_odd (fun_of X G c (at_ 60 rfl)) K_Program D__law_pick
  have A__law_told_rows : FunAt K mg "_law_told_rows" s__law_told_rows ["amounts"] := funAt X G c (dt_ 38 rfl) (at_ 63 rfl) (fun kV doc pm an cdv ct us hl => match us, hl with | [_], _ => rfl) rfl
  have D__law_told_rows : DefOk Pg w K mg base "_law_told_rows" 7 1 (F__law_told_rows n) := ok__law_told_rows n A__law_told_rows (exTab_of X G c (at_ 62 rfl)) E_BadAmounts.f D_least_rows
  have X__law_told_rows_0 : DefOkX Pg w K mg base "_law_told_rows" 7 1 0 ["amounts"] [0] [] (F__law_told_rows n) := DefOk.kw D__law_told_rows A__law_told_rows (fun kV doc pm an cdv ct us ws h1 h2 => match us, ws, h1, h2 with | [], [_], _, _ => rfl)
  have A__law_told_cost : FunAt K mg "_law_told_cost" s__law_told_cost ["amount", "prices"] := funAt X G c (dt_ 39 rfl) (at_ 64 rfl) (fun kV doc pm an cdv ct us hl => match us, hl with | [_, _], _ => rfl) rfl
  have D__law_told_cost : DefOk Pg w K mg base "_law_told_cost" 7 2 (F__law_told_cost n) := ok__law_told_cost n A__law_told_cost (exTab_of X G c (at_ 62 rfl)) E_BadPrices.f E_BadAmount.f D_cost
  have X__law_told_cost_0 : DefOkX Pg w K mg base "_law_told_cost" 7 2 0 ["prices", "amount"] [1, 0] [] (F__law_told_cost n) := DefOk.kw D__law_told_cost A__law_told_cost (fun kV doc pm an cdv ct us ws h1 h2 => match us, ws, h1, h2 with | [], [_, _], _, _ => rfl)
  have A__law_prices : FunAt K mg "_law_prices" s__law_prices ["draws", "many"] := funAt X G c (dt_ 40 rfl) (at_ 65 rfl) (fun kV doc pm an cdv ct us hl => match us, hl with | [_, _], _ => rfl) rfl
  have D__law_prices : DefOk Pg w K mg base "_law_prices" 3 2 (F__law_prices n) := ok__law_prices n A__law_prices (fre_of X G c (at_ 49 rfl)) D__law_pick D__law_draw
  have A__law_rows_right : FunAt K mg "_law_rows_right" s__law_rows_right ["draws", "many"] := funAt X G c (dt_ 41 rfl) (at_ 67 rfl) (fun kV doc pm an cdv ct us hl => match us, hl with | [_, _], _ => rfl) rfl
  have D__law_rows_right : DefOk Pg w K mg base "_law_rows_right" 15 2 (F__law_rows_right n) := ok__law_rows_right n A__law_rows_right (fre_of X G c (at_ 9 rfl)) (fre_of X G c (at_ 66 rfl)) X__law_told_rows_0 D__law_amounts D__law_draw D__law_handed D__law_least D__law_told_rows D__law_same D__law_amount D__law_odd D__law_pick
  have A__law_costs_right : FunAt K mg "_law_costs_right" s__law_costs_right ["draws", "many"] := funAt X G c (dt_ 42 rfl) (at_ 68 rfl) (fun kV doc pm an cdv ct us hl => match us, hl with | [_, _], _ => rfl) rfl
  have D__law_costs_right : DefOk Pg w K mg base "_law_costs_right" 15 2 (F__law_costs_right n) := ok__law_costs_right n A__law_costs_right X__law_told_cost_0 D__law_prices D__law_amount D__law_handed D__law_same D__law_dot D__law_told_cost D__law_odd D__law_pick
  have A_law : FunAt K mg "law" s_law ["script"] := funAt X G c (dt_ 43 rfl) (at_ 70 rfl) (fun kV doc pm an cdv ct us hl => match us, hl with | [_], _ => rfl) rfl
  have D_law : DefOk Pg w K mg base "law" 16 1 (F_law n) := ok_law n A_law (fre_of X G c (at_ 9 rfl)) (fre_of X G c (at_ 69 rfl)) (fre_of X G c (at_ 49 rfl)) D__law_source D__law_draw D__law_rows_right D__law_costs_right
  exact D_law
end G
open PySem PySem.W PySem.Calls PyProof.Rows VL
/-- the law, from what it is on data -/
theorem G.holds_of (n : Nat) (hdat : ∀ ns : List Int, ns.length ≤ 63 → ∃ s', G.F_law n [.d (.scr ns)] [] = .ok (.d (.bl true)) s') : PySem.Challenge.rw_anyprice_k01_rows_and_costs.Holds := by
  w_on; o_law
  refine HandSHeadRun.head_any (r := OpenLaw.row PySem.Challenge.rw_anyprice_k01_rows_and_costs) (q := view (OpenLaw.row PySem.Challenge.rw_anyprice_k01_rows_and_costs).prog [54]) (H := G.hk) (ob := G.ob) (M := 4000) (loose := G.names) (d := HandSHeadRun.topDef (OpenLaw.row PySem.Challenge.rw_anyprice_k01_rows_and_costs).prog 54) (kwd := []) G.ob_eq
    (by kernel_rfl) (fun s => by kernel_rfl) G.run (by kernel_rfl) (by kernel_rfl) (by kernel_rfl) (by rfl) (by first | assumption | decide +kernel) (by decide +kernel) ⟨rfl, rfl, rfl, rfl, rfl, by decide +kernel⟩ ?hw ?hc
  case hw => w_witness2
  case hc =>
    refine walkG (l := PySem.Challenge.rw_anyprice_k01_rows_and_costs) (n := 63) (k := 16) (x := "script") rfl (by decide) (by kernel_rfl) (rmG_caller (by decide) (by decide)) ?F
    intro w mg fa h Y ns0 hmg0
    obtain ⟨K, KX, c⟩ := Y
    have hmg : mg ("law" : PySem.Str) = some (.ref fa) := by
      have e : (HandSHeadRun.topDef (OpenLaw.row PySem.Challenge.rw_anyprice_k01_rows_and_costs).prog 54).name = ("law" : PySem.Str) := by kernel_rfl
      rw [← e]
      exact hmg0
    exact fin_of (G := G.F_law n) KX (G.law_at KX ns0 c) hmg (fun base _ _ => G.all_ok n KX ns0 c) (fun kV doc pm an cdv ct u => rfl) hdat

set_option maxHeartbeats 1000000
namespace G
open PySem PySem.Spec PyProof.Rows L2 VL

/-- of the kinds that the program meets -/
def kd : D → Bool
  | .ty _ => false
  | .scr _ => false
  | .ins c _ _ => decide (c = "Program")
  | _ => true
def kd2 : D → Bool
  | .lst ds => ds.all kd
  | .tup ds => ds.all kd
  | d => kd d
def intB : D → Bool
  | .int _ => true
  | _ => false
def listB : D → Bool
  | .lst _ => true
  | .tup _ => true
  | _ => false
def fromB (m : Int) : D → Bool
  | .int i => decide (m ≤ i)
  | _ => false
def itemsD : D → List D
  | .lst ds => ds
  | .tup ds => ds
  | _ => []
theorem kd_z {ce : List (Option Cell)} {d : D} (h : kd d = true) : ∃ z, tyZ ce (.d d) = some z ∧ ownZ OWN z = true := by
  cases d <;> first
    | exact ⟨_, rfl, rfl⟩
    | exact absurd h Bool.false_ne_true
    | exact ⟨_, rfl, by simp only [kd, decide_eq_true_eq] at h; subst h; rfl⟩
def intOr : D → Bool
  | .int _ => true
  | .bl _ => true
  | _ => false
def blB : D → Bool
  | .bl _ => true
  | _ => false
def strB : D → Bool
  | .str _ => true
  | _ => false
theorem isi_d {s : S} {d : D} {i : Nat} {ys : List TZ} {b : Bool} (h : kd d = true) (hs : s.sl[i]? = some (some (.d d))) (hb : ∀ z, tyZ s.ce (.d d) = some z → ys.any (isZ z) = b) : eIsiZ OWN ys (eVar i) s = .ok (.d (.bl b)) s := by
  obtain ⟨z, h1, h2⟩ := kd_z (ce := s.ce) h
  rw [isi_ok (x_var hs) h1 h2, hb z h1]
theorem isi_list {s : S} {d : D} {i : Nat} (h : kd d = true) (hs : s.sl[i]? = some (some (.d d))) : eIsiZ OWN [.inl "list", .inl "tuple"] (eVar i) s = .ok (.d (.bl (listB d))) s := by
  refine isi_d h hs fun z e => ?_
  cases d <;> first | (exact absurd h Bool.false_ne_true) | (simp only [tyZ, insW, tyW, tyD, Option.map_some, Option.some.injEq] at e; subst e; first | rfl | decide)
theorem isi_int {s : S} {d : D} {i : Nat} (h : kd d = true) (hs : s.sl[i]? = some (some (.d d))) : eIsiZ OWN [.inl "int"] (eVar i) s = .ok (.d (.bl (intOr d))) s := by
  refine isi_d h hs fun z e => ?_
  cases d <;> first | (exact absurd h Bool.false_ne_true) | (simp only [tyZ, insW, tyW, tyD, Option.map_some, Option.some.injEq] at e; subst e; first | rfl | decide)
theorem isi_bool {s : S} {d : D} {i : Nat} (h : kd d = true) (hs : s.sl[i]? = some (some (.d d))) : eIsiZ OWN [.inl "bool"] (eVar i) s = .ok (.d (.bl (blB d))) s := by
  refine isi_d h hs fun z e => ?_
  cases d <;> first | (exact absurd h Bool.false_ne_true) | (simp only [tyZ, insW, tyW, tyD, Option.map_some, Option.some.injEq] at e; subst e; first | rfl | decide)
theorem isi_str {s : S} {d : D} {i : Nat} (h : kd d = true) (hs : s.sl[i]? = some (some (.d d))) : eIsiZ OWN [.inl "str"] (eVar i) s = .ok (.d (.bl (strB d))) s := by
  refine isi_d h hs fun z e => ?_
  cases d <;> first | (exact absurd h Bool.false_ne_true) | (simp only [tyZ, insW, tyW, tyD, Option.map_some, Option.some.injEq] at e; subst e; first | rfl | decide)
variable {n : Nat} {ce : List (Option Cell)}
/-- a def whose body only tells -/
theorem tells {f : S → Out W} {ws : List W} {nl : Nat} {d : D} {s' : S} (ok : Ok ce) (h : f (entry nl ws ce) = .ok (.d d) s') (hc : s'.ce = ce := by rfl) : shut ce.length (sRet f (entry nl ws ce)) = .ok (.d d) ⟨[], ce⟩ := by
  rw [ret_ok h]
  exact shut_rt (by rw [hc]; exact List.take_length) ok
theorem q_is_int {d : D} (ok : Ok ce) (h : kd d = true) : F_is_int n [.d d] ce = .ok (.d (.bl (intB d))) ⟨[], ce⟩ := by
  refine tells ok (s' := entry 1 [.d d] ce) ?_
  refine (eAnd_ok (isi_int h rfl)).trans ?_
  rw [eNot_ok (isi_bool h rfl)]
  cases d <;> rfl
theorem q_is_int_from {d : D} {m : Int} (ok : Ok ce) (h : kd d = true) : F_is_int_from n [.d d, .d (.int m)] ce = .ok (.d (.bl (fromB m d))) ⟨[], ce⟩ := by
  refine tells ok (s' := entry 2 [.d d, .d (.int m)] ce) ?_
  refine (eAnd_ok (call_ok (cons_ok (x_var rfl) rfl) (q_is_int ok h))).trans ?_
  cases d <;> first | rfl | (simp only [intB, if_true]; exact op2_ok (x_var rfl) (x_var rfl) rfl)
theorem q_is_list {d : D} (ok : Ok ce) (h : kd d = true) : F_is_list n [.d d] ce = .ok (.d (.bl (listB d))) ⟨[], ce⟩ :=
  tells ok (s' := entry 1 [.d d] ce) (isi_list h rfl)
theorem q_is_list_of {d : D} {m : Int} (ok : Ok ce) (h : kd d = true) : F_is_list_of n [.d d, .d (.int m)] ce = .ok (.d (.bl (listB d && ((itemsD d).length : Int) == m))) ⟨[], ce⟩ := by
  refine tells ok (s' := entry 2 [.d d, .d (.int m)] ce) ?_
  refine (eAnd_ok (call_ok (cons_ok (x_var rfl) rfl) (q_is_list ok h))).trans ?_
  cases d <;> first | rfl | (simp only [listB, if_true, Bool.true_and]; exact op2_ok (opN_ok (cons_ok (x_var rfl) rfl) rfl) (x_var rfl) rfl)
def seqD : D → Option (List D)
  | .lst ds => some ds
  | .tup ds => some ds
  | _ => none
theorem seq_src {ce : List (Option Cell)} {d : D} {ds : List D} (h : seqD d = some ds) : src1 (.d d) ce = some ⟨ds.map fun d => .w (.d d), []⟩ := by
  cases d <;> simp only [seqD, Option.some.injEq, reduceCtorEq] at h <;> subst h <;> rfl
theorem seq_len {ce : List (Option Cell)} {d : D} {ds : List D} (h : seqD d = some ds) : lenN ce [.d d] = some (.int (ds.length : Nat)) := by
  cases d <;> simp only [seqD, Option.some.injEq, reduceCtorEq] at h <;> subst h <;> rfl
theorem bls_map (bs : List Bool) : bls (bs.map D.bl) = some bs := by
  induction bs with
  | nil => rfl
  | cons b r ih => simp only [List.map_cons, bls, ih, Option.map_some]
def bigL : Nat := 1000000
theorem big_le : bigL ≤ sizeLine := by rw [sizeLine_eq]; decide
theorem q_is_amount_of {d : D} {ds : List D} {m : Int} (ok : Ok ce) (h : kd d = true) (hd : seqD d = some ds) (hk : ds.all kd = true) (hm : (ds.length : Int) = m) (hz : ds.length ≤ bigL) : F_is_amount_of n [.d d, .d (.int m)] ce = .ok (.d (.bl (ds.all (fromB 0)))) ⟨[], ce⟩ := by
  refine tells ok (s' := entry 3 [.d d, .d (.int m)] ce) ?_
  refine (eAnd_ok (call_ok (cons_ok (x_var rfl) (cons_ok (x_var rfl) rfl)) (q_is_list_of ok h))).trans ?_
  have h1 : (listB d && ((itemsD d).length : Int) == m) = true := by
    cases d <;> simp only [seqD, Option.some.injEq, reduceCtorEq] at hd <;> subst hd <;> simpa [listB, itemsD] using hm
  rw [h1, if_pos rfl]
  have e := eLc_pure (vs := [2]) (p := .nm 2) (fi := iSeq (eVar 0)) (ft := bYes) (fe := eCall (F_is_int_from n) (aCons (eVar 2) (aCons (eC (.int 0)) aNil))) (iSeq_ok (x_var rfl) (seq_src hd) : iSeq (eVar 0) (entry 3 [.d d, .d (.int m)] ce) = .ok _ _) (fun w => match w with | .w (.d d) => some (.bl (fromB 0 d)) | _ => none) (fun _ => stay_nil) (fun w hw c hc => by
    obtain ⟨x, hx, rfl⟩ := List.mem_map.mp hw
    obtain ⟨acc, rfl⟩ := hc
    exact ⟨[(2, .d x)], rfl, rfl, _, _, rfl, call_ok (cons_ok (x_var rfl) (cons_ok rfl rfl)) (q_is_int_from (ok.snocD acc) (List.all_eq_true.mp hk x hx)), rfl⟩) (by simp only [List.length_map]; exact Nat.le_trans hz big_le) ok
  refine opN_ok (cons_ok e rfl) ?_
  simp only [List.map_map]
  rw [show ((fun w : VL.Itm => match w with | .w (.d d) => some (D.bl (fromB 0 d)) | _ => none) ∘ fun d => VL.Itm.w (.d d)) = fun d => some (D.bl (fromB 0 d)) from rfl, somes_map]
  show (fAll (.lst (ds.map fun d => D.bl (fromB 0 d)))) = _
  rw [show (ds.map fun d => D.bl (fromB 0 d)) = (ds.map (fromB 0)).map D.bl by rw [List.map_map]; rfl]
  simp only [fAll, bls_map, Option.map_some, List.all_map]
  rfl
/-- whether d is an amount -/
def amtB (d : D) : Bool := match seqD d with
  | some ds => decide (1 ≤ ds.length) && (decide (ds.length ≤ 3) && ds.all (fromB 0))
  | none => false
theorem q_is_amount {d : D} (ok : Ok ce) (h : kd d = true) (hk : ∀ ds, seqD d = some ds → ds.all kd = true) : F_is_amount n [.d d] ce = .ok (.d (.bl (amtB d))) ⟨[], ce⟩ := by
  refine tells ok (s' := entry 1 [.d d] ce) ?_
  refine (eAnd_ok (call_ok (cons_ok (x_var rfl) rfl) (q_is_list ok h))).trans ?_
  cases hd : seqD d with
  | none =>
    have : listB d = false := by cases d <;> first | rfl | cases hd
    unfold amtB
    rw [this, hd]; rfl
  | some ds =>
    have h1 : listB d = true := by cases d <;> first | rfl | cases hd
    have hA : amtB d = (decide (1 ≤ ds.length) && (decide (ds.length ≤ 3) && ds.all (fromB 0))) := by unfold amtB; rw [hd]
    rw [h1, if_pos rfl, hA]
    have hl : eOpN lenN (aCons (eVar 0) aNil) (entry 1 [.d d] ce) = .ok (.d (.int (ds.length : Nat))) (entry 1 [.d d] ce) := opN_ok (cons_ok (x_var rfl) rfl) (seq_len hd)
    have e2 : eChain (two fLe) (two fLe) (eC (.int 1)) (eOpN lenN (aCons (eVar 0) aNil)) (eC (.int 3)) (entry 1 [.d d] ce) = .ok (.d (.bl (decide (1 ≤ ds.length) && decide (ds.length ≤ 3)))) (entry 1 [.d d] ce) := by
      unfold eChain
      rw [x_C]; simp only [Out.bind_ok]; rw [hl]; simp only [Out.bind_ok, two, dat, fLe]
      by_cases q : 1 ≤ ds.length
      · rw [decide_eq_true (show (1 : Int) ≤ (ds.length : Nat) by omega), decide_eq_true q]
        simp only [x_C, Out.bind_ok, opt, Bool.true_and]
        congr 3
        exact decide_eq_decide.mpr (by omega)
      · rw [decide_eq_false (show ¬ (1 : Int) ≤ (ds.length : Nat) by omega), decide_eq_false q]
        rfl
    refine (eAnd_ok e2).trans ?_
    by_cases q : 1 ≤ ds.length ∧ ds.length ≤ 3
    · rw [decide_eq_true q.1, decide_eq_true q.2]
      simp only [Bool.and_self, if_true, Bool.true_and]
      exact call_ok (cons_ok (x_var (s := entry 1 [.d d] ce) (i := 0) rfl) (cons_ok hl rfl)) (q_is_amount_of ok h hd (hk ds hd) rfl (by unfold bigL; omega))
    · have : (decide (1 ≤ ds.length) && decide (ds.length ≤ 3)) = false := by
        rw [Bool.and_eq_false_iff]
        rcases Nat.lt_or_ge ds.length 1 with h | h
        · exact .inl (decide_eq_false (by omega))
        · exact .inr (decide_eq_false (by omega))
      rw [this]
      simp only [← Bool.and_assoc, this]
      rfl
end G

set_option maxHeartbeats 1000000
namespace G
open PySem PySem.Spec PyProof.Rows L2 VL
/-! ### draws -/
structure Dr where
  a : Int
  b : Int
  c : Int
abbrev cellOf (t : Dr) : Option Cell := some (.lst [.d (.int t.a), .d (.int t.b), .d (.int t.c)])
def st (ce : List (Option Cell)) (k : Nat) (t : Dr) : List (Option Cell) := ce.set k (cellOf t)
structure Good (N : Nat) (t : Dr) : Prop where
  a0 : 0 ≤ t.a
  b0 : 0 ≤ t.b
  b1 : t.b < 2147483629
  c0 : 0 ≤ t.c
  c1 : t.c ≤ N
theorem Good.mono {N M : Nat} {t : Dr} (g : Good N t) (h : N ≤ M) : Good M t := ⟨g.a0, g.b0, g.b1, g.c0, by have := g.c1; omega⟩
variable {n : Nat} {ce : List (Option Cell)} {k N : Nat} {t : Dr}
theorem st_len : (st ce k t).length = ce.length := List.length_set
theorem st_get (hk : k < ce.length) : (st ce k t)[k]? = some (cellOf t) := List.getElem?_set_self hk
theorem st_ne {j : Nat} (h : k ≠ j) : (st ce k t)[j]? = ce[j]? := List.getElem?_set_ne h
theorem st_ok (ok : Ok ce) : Ok (st ce k t) := ok.set rfl
theorem st_app (hk : k < ce.length) (x : List (Option Cell)) : st (ce ++ x) k t = st ce k t ++ x := List.set_append_left _ _ hk
theorem st_st {t' : Dr} : st (st ce k t) k t' = st ce k t' := List.set_set _
theorem st_self (h : ce[k]? = some (cellOf t)) : st ce k t = ce := by
  obtain ⟨hk, e⟩ := List.getElem?_eq_some_iff.mp h
  unfold st
  rw [← e, List.set_getElem_self]
theorem ixZ_lst {ws : List W} {i : Int} (h : ce[k]? = some (some (.lst ws))) : ixZ ce (.c k) (.d (.int i)) = atI ws i := by
  simp only [ixZ, dKc, h, ixW]
theorem setZ_ok {fo fi fe : S → Out W} {s s1 s2 s3 : S} {v : W} {i : Int} {j : Nat} {ws : List W} (h1 : fe s = .ok v s1) (h2 : fo s1 = .ok (.c k) s2) (h3 : fi s2 = .ok (.d (.int i)) s3) (h4 : s3.ce[k]? = some (some (.lst ws))) (h5 : ixN ws.length i = some j) :
    sSetZ fo fi fe s = .nx ⟨s3.sl, s3.ce.set k (some (.lst (ws.set j v)))⟩ := by
  have h6 : dKc s3.ce (.c k) = none := by simp only [dKc, h4]
  have h7 : lstC s3.ce (.c k) = some (k, ws) := by simp only [lstC, h4]
  unfold sSetZ
  rw [h1]; simp only [Out.then]; rw [h2]; simp only; rw [h3]; simp only [h6, h7, h5]
  rfl
theorem fPow_10 {j : Nat} (h : j ≤ 1000) : fPow (.int 10) (.int j) = some (.int (10 ^ j)) := by
  simp only [fPow]
  rw [if_pos ⟨by omega, by omega, by decide⟩]
  simp
theorem fMod_ok {c : List (Option Cell)} {i : Int} (j : Int) (h : 0 < j) : two fMod c (.d (.int i)) (.d (.int j)) = some (.int (i % j)) := by simp only [two, dat, fMod]; rw [if_pos h]
theorem fDiv_ok {c : List (Option Cell)} {i : Int} (j : Int) (h : 0 < j) (h2 : j < 1073741824) : two fDiv c (.d (.int i)) (.d (.int j)) = some (.int (i / j)) := by simp only [two, dat, fDiv]; rw [if_pos ⟨h, h2⟩]
theorem fMul_l {c : List (Option Cell)} (i : Int) {j : Int} (h : -(2 ^ 64) < i ∧ i < 2 ^ 64) : two fMul c (.d (.int i)) (.d (.int j)) = some (.int (i * j)) := by simp only [two, dat, fMul]; rw [if_pos (.inl h)]
theorem fMul_r {c : List (Option Cell)} {i : Int} (j : Int) (h : -(2 ^ 64) < j ∧ j < 2 ^ 64) : two fMul c (.d (.int i)) (.d (.int j)) = some (.int (i * j)) := by simp only [two, dat, fMul]; rw [if_pos (.inr h)]
theorem atI_0 {α : Type} (x : α) (r : List α) : atI (x :: r) 0 = some x := by
  unfold atI ixN
  rw [if_pos (by omega), if_pos (by simp only [List.length_cons]; omega)]; rfl
theorem q_draw {m : Int} (ok : Ok ce) (hk : k < ce.length) (g : Good N t) (hN : N < 1000000) (hm : 1 ≤ m) (hm2 : m < 1073741824) :
    ∃ r t', F__law_draw n [.c k, .d (.int m)] (st ce k t) = .ok (.d (.int r)) ⟨[], st ce k t'⟩ ∧ 0 ≤ r ∧ r < m ∧ Good (N + 1) t' := by
  have h0 : ∀ {t : Dr} {sl : List (Option W)}, sl[0]? = some (some (.c k)) → eIxZ (eVar 0) (eC (.int 0)) ⟨sl, st ce k t⟩ = .ok (.d (.int t.a)) ⟨sl, st ce k t⟩ := fun h => ixZ_ok (x_var h) rfl (ixZ_lst (st_get hk))
  have h1 : ∀ {t : Dr} {sl : List (Option W)}, sl[0]? = some (some (.c k)) → eIxZ (eVar 0) (eC (.int 1)) ⟨sl, st ce k t⟩ = .ok (.d (.int t.b)) ⟨sl, st ce k t⟩ := fun h => ixZ_ok (x_var h) rfl (ixZ_lst (st_get hk))
  have h2 : ∀ {t : Dr} {sl : List (Option W)}, sl[0]? = some (some (.c k)) → eIxZ (eVar 0) (eC (.int 2)) ⟨sl, st ce k t⟩ = .ok (.d (.int t.c)) ⟨sl, st ce k t⟩ := fun h => ixZ_ok (x_var h) rfl (ixZ_lst (st_get hk))
  unfold F__law_draw b__law_draw
  rw [show (st ce k t).length = ce.length from st_len]
  have hc : bOf (eOp2 (two fGt) (eIxZ (eVar 0) (eC (.int 0))) (eC (.int 0))) (entry 4 [.c k, .d (.int m)] (st ce k t)) = .ok (decide (0 < t.a)) (entry 4 [.c k, .d (.int m)] (st ce k t)) := bOf_ok (op2_ok (h0 rfl) rfl rfl)
  have a0 := g.a0; have b0 := g.b0; have b1 := g.b1; have c0 := g.c0; have c1 := g.c1
  by_cases ha : 0 < t.a
  · refine ⟨t.a % m, ⟨t.a / m, t.b, t.c⟩, ?_, Int.emod_nonneg _ (by omega), Int.emod_lt_of_pos _ (by omega), ⟨Int.ediv_nonneg a0 (by omega), b0, b1, c0, by show t.c ≤ _; omega⟩⟩
    rw [seq_rt (w := .d (.int (t.a % m))) (s' := ⟨[some (.c k), some (.d (.int m)), none, some (.d (.int (t.a % m)))], st ce k ⟨t.a / m, t.b, t.c⟩⟩)]
    · exact shut_rt (by rw [← st_len (ce := ce) (k := k) (t := ⟨t.a / m, t.b, t.c⟩)]; exact List.take_length) (by have := st_ok (k := k) (t := ⟨t.a / m, t.b, t.c⟩) ok; unfold Ok at this; rwa [st_len] at this)
    · refine (if_ok hc).trans ?_
      rw [decide_eq_true ha, if_pos rfl]
      refine (seq_nx (set_ok (op2_ok (opN_ok (cons_ok (h0 rfl) rfl) rfl) (x_var (i := 1) rfl) (fMod_ok m (by omega))))).trans ?_
      have e1 : sSetZ (eVar 0) (eC (.int 0)) (eOp2 (two fDiv) (eIxZ (eVar 0) (eC (.int 0))) (eVar 1)) ⟨[some (.c k), some (.d (.int m)), none, some (.d (.int (t.a % m)))], st ce k t⟩ = .nx ⟨[some (.c k), some (.d (.int m)), none, some (.d (.int (t.a % m)))], (st ce k t).set k (some (.lst [.d (.int (t.a / m)), .d (.int t.b), .d (.int t.c)]))⟩ :=
        setZ_ok (v := .d (.int (t.a / m))) (j := 0) (i := 0) (ws := [.d (.int t.a), .d (.int t.b), .d (.int t.c)]) (op2_ok (h0 rfl) (x_var (i := 1) rfl) (fDiv_ok m (by omega) hm2)) (x_var rfl) rfl (st_get hk) rfl
      refine (seq_nx e1).trans ?_
      refine (ret_ok (x_var (i := 3) rfl)).trans ?_
      unfold st
      rw [List.set_set]
  · let c' := t.c + 1
    let sd : Int := (t.b + 7919 * c') ^ 5 % 2147483647
    let r : Int := (sd + c') * 40692 % 2147483629 / 16 % m
    refine ⟨r, ⟨t.a, t.b, c'⟩, ?_, Int.emod_nonneg _ (by omega), Int.emod_lt_of_pos _ (by omega), ⟨a0, b0, b1, by show 0 ≤ t.c + 1; omega, by show t.c + 1 ≤ _; omega⟩⟩
    have hs : sIf (bOf (eOp2 (two fGt) (eIxZ (eVar 0) (eC (.int 0))) (eC (.int 0)))) (sSeq (sSet 3 (eOp2 (two fMod) (eOpN (one fInt) (aCons (eIxZ (eVar 0) (eC (.int 0))) aNil)) (eVar 1))) (sSeq (sSetZ (eVar 0) (eC (.int 0)) (eOp2 (two fDiv) (eIxZ (eVar 0) (eC (.int 0))) (eVar 1))) (sRet (eVar 3)))) sNext (entry 4 [.c k, .d (.int m)] (st ce k t)) = .nx (entry 4 [.c k, .d (.int m)] (st ce k t)) := by
      refine (if_ok hc).trans ?_
      rw [decide_eq_false ha]; rfl
    rw [seq_nx hs]
    have e1 : sSetZ (eVar 0) (eC (.int 2)) (eOp2 (two fAdd) (eIxZ (eVar 0) (eC (.int 2))) (eC (.int 1))) (entry 4 [.c k, .d (.int m)] (st ce k t)) = .nx ⟨[some (.c k), some (.d (.int m)), none, none], (st ce k t).set k (some (.lst [.d (.int t.a), .d (.int t.b), .d (.int (t.c + 1))]))⟩ :=
        setZ_ok (v := .d (.int (t.c + 1))) (j := 2) (i := 2) (ws := [.d (.int t.a), .d (.int t.b), .d (.int t.c)]) (op2_ok (h2 rfl) rfl rfl) (x_var rfl) rfl (st_get hk) rfl
    have e2 : (st ce k t).set k (some (.lst [.d (.int t.a), .d (.int t.b), .d (.int (t.c + 1))])) = st ce k ⟨t.a, t.b, c'⟩ := List.set_set _
    rw [e2] at e1
    rw [seq_nx e1]
    have e3 : sSet 2 (eOp2 (two fMod) (eOp2 (two fPow) (eOpN (one fInt) (aCons (eOp2 (two fAdd) (eIxZ (eVar 0) (eC (.int 1))) (eOp2 (two fMul) (eC (.int 7919)) (eIxZ (eVar 0) (eC (.int 2))))) aNil)) (eC (.int 5))) (eC (.int 2147483647))) ⟨[some (.c k), some (.d (.int m)), none, none], st ce k ⟨t.a, t.b, c'⟩⟩ = .nx ⟨[some (.c k), some (.d (.int m)), some (.d (.int sd)), none], st ce k ⟨t.a, t.b, c'⟩⟩ := by
      refine set_ok (op2_ok (x := .d (.int ((t.b + 7919 * c') ^ 5))) (op2_ok (x := .d (.int (t.b + 7919 * c'))) (opN_ok (cons_ok (op2_ok (h1 rfl) (op2_ok rfl (h2 rfl) (fMul_l 7919 (by decide))) rfl) rfl) rfl) rfl ?_) rfl (fMod_ok 2147483647 (by decide)))
      show fPow (.int (t.b + 7919 * c')) (.int 5) = _
      simp only [fPow]
      rw [if_pos ⟨by decide, by decide, by show (t.b + 7919 * (t.c + 1)).natAbs < _; omega⟩]
      rfl
    rw [seq_nx e3]
    have e4 : sRet (eOp2 (two fMod) (eOp2 (two fDiv) (eOp2 (two fMod) (eOpN (one fInt) (aCons (eOp2 (two fMul) (eOp2 (two fAdd) (eVar 2) (eIxZ (eVar 0) (eC (.int 2)))) (eC (.int 40692))) aNil)) (eC (.int 2147483629))) (eC (.int 16))) (eVar 1)) ⟨[some (.c k), some (.d (.int m)), some (.d (.int sd)), none], st ce k ⟨t.a, t.b, c'⟩⟩ = .rt (.d (.int r)) ⟨[some (.c k), some (.d (.int m)), some (.d (.int sd)), none], st ce k ⟨t.a, t.b, c'⟩⟩ := by
      refine ret_ok (op2_ok (op2_ok (op2_ok (opN_ok (cons_ok (op2_ok (op2_ok (x_var (i := 2) rfl) (h2 rfl) rfl) rfl (fMul_r 40692 (by decide))) rfl) rfl) rfl (fMod_ok 2147483629 (by decide))) rfl (fDiv_ok 16 (by decide) (by decide))) (x_var (i := 1) rfl) (fMod_ok m (by omega)))
    rw [e4]
    exact shut_rt (by rw [← st_len (ce := ce) (k := k) (t := ⟨t.a, t.b, c'⟩)]; exact List.take_length) (by have := st_ok (k := k) (t := ⟨t.a, t.b, c'⟩) ok; unfold Ok at this; rwa [st_len] at this)
end G

set_option maxHeartbeats 1000000
namespace G
open PySem PySem.Spec PyProof.Rows L2 VL
variable {n : Nat} {ce : List (Option Cell)} {k N : Nat} {t : Dr}
theorem shutS {s : S} {x : List (Option Cell)} {d : D} {t0 : Dr} (ok : Ok ce) (h : s.ce = st ce k t ++ x) : shut (st ce k t0).length (.rt (.d d) s) = .ok (.d d) ⟨[], st ce k t⟩ := by
  refine shut_rt ?_ ?_
  · rw [h, st_len, ← st_len (ce := ce) (k := k) (t := t), List.take_left' rfl]
  · have := st_ok (k := k) (t := t) ok
    unfold Ok at this
    rw [st_len] at this ⊢
    exact this
theorem atI_in {α : Type} {xs : List α} {i : Int} (h0 : 0 ≤ i) (h1 : i < xs.length) : ∃ x, atI xs i = some x ∧ x ∈ xs := by
  have : i.toNat < xs.length := by omega
  refine ⟨xs[i.toNat], ?_, List.getElem_mem _⟩
  unfold atI ixN
  rw [if_pos h0, if_pos h1]
  exact List.getElem?_eq_getElem this
theorem intsD_map (r : List Int) : intsD (r.map D.int) = some r := by
  induction r with
  | nil => rfl
  | cons b r ih => simp only [List.map_cons, intsD, ih, Option.map_some]
theorem pow18 {c : List (Option Cell)} : two fPow c (.d (.int 10)) (.d (.int 18)) = some (.int 1000000000000000000) := (fPow_10 (j := 18) (by decide)).trans rfl
theorem pow9 {c : List (Option Cell)} : two fPow c (.d (.int 10)) (.d (.int 9)) = some (.int 1000000000) := (fPow_10 (j := 9) (by decide)).trans rfl
theorem q_source {ns : List Int} {pl : Nat} (hpl : pl < 1000) : ∃ t, F__law_source n [.d (.scr ns), .d (.int pl)] ce = .ok (.c ce.length) ⟨[], ce ++ [cellOf t]⟩ ∧ Good 0 t := by
  let s0 : S := entry 5 [.d (.scr ns), .d (.int pl)] ce
  have hv0 : eVar 0 s0 = .ok (.d (.scr ns)) s0 := x_var rfl
  have hv1 : eVar 1 s0 = .ok (.d (.int pl)) s0 := x_var rfl
  have e1 : ∃ x : Int, eIf (bOf (eOp2 (two fLt) (eVar 1) (eOpN lenN (aCons (eVar 0) aNil)))) (eIxZ (eVar 0) (eVar 1)) (eOp2 (two fAdd) (eOp2 (two fAdd) (eOp2 (two fMod) (eOpN (one fInt) (aCons (eOpN (one fSum) (aCons (eSl (eVar 0) oNone (oSome (eC (.int 1)))) aNil)) aNil)) (eC (.int 1000003))) (eOp2 (two fMul) (eC (.int 13)) (eVar 1))) (eC (.int 3))) s0 = .ok (.d (.int x)) s0 := by
    have hc : bOf (eOp2 (two fLt) (eVar 1) (eOpN lenN (aCons (eVar 0) aNil))) s0 = .ok (decide ((pl : Int) < (ns.length : Nat))) s0 := bOf_ok (op2_ok hv1 (opN_ok (arg1 hv0) rfl) rfl)
    rw [eIf_ok hc]
    by_cases h : (pl : Int) < (ns.length : Nat)
    · rw [decide_eq_true h, if_pos rfl]
      obtain ⟨x, hx, _⟩ := atI_in (xs := ns) (i := (pl : Int)) (by omega) h
      refine ⟨x, ixZ_ok hv0 hv1 ?_⟩
      show (ixD (pl : Int) (.scr ns)).map W.d = _
      simp only [ixD, hx, Option.map_some]
    · rw [decide_eq_false h, if_neg Bool.false_ne_true]
      refine ⟨_, op2_ok (op2_ok (op2_ok (opN_ok (arg1 (opN_ok (d := .int (cutD ns none (some 1)).sum) (arg1 (sl_ok (lo := none) (hi := some 1) hv0 x_oNone (oSome_ok x_C) rfl)) ?_)) rfl) x_C (fMod_ok 1000003 (by decide))) (op2_ok x_C hv1 (fMul_l 13 (by decide))) rfl) x_C rfl⟩
      · show fSum (.lst ((cutD ns none (some 1)).map D.int)) = _
        simp only [fSum, intsD_map, Option.map_some]
  obtain ⟨x, e1⟩ := e1
  unfold F__law_source b__law_source
  simp only
  show ∃ t, keep (sSeq _ _ s0) = _ ∧ _
  rw [seq_nx (set_ok e1)]
  let s1 : S := ⟨[some (.d (.scr ns)), some (.d (.int pl)), some (.d (.int x)), none, none], ce⟩
  show ∃ t, keep (sSeq _ _ s1) = _ ∧ _
  rw [seq_nx (set_ok (op2_ok (op2_ok x_C (x_var (s := s1) (i := 1) rfl) (fMul_l 7919 (by decide))) x_C rfl))]
  have hloop := loopF_all (p := .nm 4) (kp := []) (body := sSet 3 (eOp2 (two fMod) (eOpN (one fInt) (aCons (eOp2 (two fAdd) (eOp2 (two fMul) (eVar 3) (eC (.int 37))) (eVar 4)) aNil)) (eC (.int 2147483629))))
    (fun ws s => (∃ y o, s = (⟨[some (.d (.scr ns)), some (.d (.int pl)), some (.d (.int x)), some (.d (.int y)), o], ce⟩ : S)) ∧ ∀ w ∈ ws, ∃ i : Int, w = .w (.d (.int i)))
    (fun _ _ _ => stay_nil) (fun w r s h => by
      obtain ⟨⟨y, o, rfl⟩, hw⟩ := h
      obtain ⟨i, rfl⟩ := hw w List.mem_cons_self
      refine ⟨[(4, .d (.int i))], ⟨[some (.d (.scr ns)), some (.d (.int pl)), some (.d (.int x)), some (.d (.int ((y * 37 + i) % 2147483629))), some (.d (.int i))], ce⟩, rfl, .inl ?_, ⟨_, _, rfl⟩, fun w hw' => hw w (List.mem_cons_of_mem _ hw')⟩
      exact set_ok (op2_ok (opN_ok (arg1 (op2_ok (op2_ok (x_var (i := 3) rfl) x_C (fMul_r 37 (by decide))) (x_var (i := 4) rfl) rfl)) rfl) x_C (fMod_ok 2147483629 (by decide))))
    (ns.map fun i => .w (.d (.int i))) ⟨[some (.d (.scr ns)), some (.d (.int pl)), some (.d (.int x)), some (.d (.int (7919 * pl + 17))), none], ce⟩ ⟨⟨_, _, rfl⟩, fun w hw => by
      obtain ⟨i, _, rfl⟩ := List.mem_map.mp hw
      exact ⟨i, rfl⟩⟩
  obtain ⟨s', hl, ⟨y, o, rfl⟩, _⟩ := hloop
  have hfor : sFor (.nm 4) (iSeq (eVar 0)) (sSet 3 (eOp2 (two fMod) (eOpN (one fInt) (aCons (eOp2 (two fAdd) (eOp2 (two fMul) (eVar 3) (eC (.int 37))) (eVar 4)) aNil)) (eC (.int 2147483629)))) ⟨[some (.d (.scr ns)), some (.d (.int pl)), some (.d (.int x)), some (.d (.int (7919 * pl + 17))), none], ce⟩ = .nx ⟨[some (.d (.scr ns)), some (.d (.int pl)), some (.d (.int x)), some (.d (.int y)), o], ce⟩ :=
    (for_ok (iSeq_ok (x_var (i := 0) rfl) rfl)).trans hl
  let s2 : S := ⟨[some (.d (.scr ns)), some (.d (.int pl)), some (.d (.int x)), some (.d (.int (7919 * pl + 17))), none], ce⟩
  let s3 : S := ⟨[some (.d (.scr ns)), some (.d (.int pl)), some (.d (.int x)), some (.d (.int y)), o], ce⟩
  show ∃ t, keep (sSeq _ _ s2) = _ ∧ _
  rw [seq_nx (show _ = Fl.nx s3 from hfor)]
  have hif : eIf (bOf (eOp2 (two fGe) (eVar 2) (eOp2 (two fPow) (eC (.int 10)) (eC (.int 18))))) (eVar 2) (eC (.int 0)) s3 = .ok (.d (.int (if 1000000000000000000 ≤ x then x else 0))) s3 := by
    refine (eIf_ok (bOf_ok (op2_ok (x_var (i := 2) rfl) (op2_ok x_C x_C pow18) rfl))).trans ?_
    by_cases h : (1000000000000000000 : Int) ≤ x
    · rw [decide_eq_true h, if_pos rfl, if_pos h]; rfl
    · rw [decide_eq_false h, if_neg Bool.false_ne_true, if_neg h]; rfl
  have hm : eOp2 (two fMod) (eOpN (one fInt) (aCons (eOp2 (two fAdd) (eVar 3) (eOp2 (two fMul) (eC (.int 48271)) (eVar 2))) aNil)) (eC (.int 2147483629)) s3 = .ok (.d (.int ((y + 48271 * x) % 2147483629))) s3 :=
    op2_ok (opN_ok (arg1 (op2_ok (x_var (i := 3) rfl) (op2_ok x_C (x_var (i := 2) rfl) (fMul_l 48271 (by decide))) rfl)) rfl) x_C (fMod_ok 2147483629 (by decide))
  have hret := cell_ok (cons_ok hif (arg2 hm (x_C (d := .int 0) (s := s3)))) (by rw [sizeLine_eq]; simp)
  refine ⟨⟨if 1000000000000000000 ≤ x then x else 0, (y + 48271 * x) % 2147483629, 0⟩, ?_, ⟨by show (0 : Int) ≤ (if 1000000000000000000 ≤ x then x else 0); split <;> omega, Int.emod_nonneg _ (by decide), Int.emod_lt_of_pos _ (by decide), Int.le_refl _, Int.le_refl _⟩⟩
  refine (congrArg keep (ret_ok hret)).trans rfl
/-- a list that can be picked of -/
structure SeqW (ce : List (Option Cell)) (k : Nat) (w : W) (ds : List D) : Prop where
  len : ∀ t, lenN (st ce k t) [w] = some (.int (ds.length : Nat))
  ix : ∀ t i, ixZ (st ce k t) w (.d (.int i)) = (atI ds i).map W.d
theorem atI_map {α β : Type} (f : α → β) (xs : List α) (i : Int) : atI (xs.map f) i = (atI xs i).map f := by
  unfold atI
  rw [List.length_map]
  cases ixN xs.length i with
  | none => rfl
  | some j => simp only [Option.bind_some, List.getElem?_map]
theorem SeqW.lst (ds : List D) : SeqW ce k (.d (.lst ds)) ds := ⟨fun _ => rfl, fun _ _ => rfl⟩
theorem SeqW.cell {j : Nat} {ds : List D} (hj : k ≠ j) (h : ce[j]? = some (some (.lst (ds.map W.d)))) : SeqW ce k (.c j) ds :=
  ⟨fun t => by simp only [lenN, st_ne hj, h, List.length_map], fun t i => by rw [ixZ_lst ((st_ne hj).trans h), atI_map]⟩
theorem q_pick {w : W} {ds : List D} (ok : Ok ce) (hk : k < ce.length) (g : Good N t) (hN : N < 1000000) (hw : SeqW ce k w ds) (hm : 1 ≤ ds.length) (hm2 : ds.length < 1000000) :
    ∃ x t', F__law_pick n [.c k, w] (st ce k t) = .ok (.d x) ⟨[], st ce k t'⟩ ∧ x ∈ ds ∧ Good (N + 1) t' := by
  obtain ⟨r, t', h1, h2, h3, h4⟩ := q_draw (n := n) (m := ds.length) ok hk g hN (by omega) (by omega)
  obtain ⟨x, hx, hm⟩ := atI_in (xs := ds) h2 h3
  refine ⟨x, t', ?_, hm, h4⟩
  unfold F__law_pick b__law_pick
  have e : eIxZ (eVar 1) (eCall (F__law_draw n) (aCons (eVar 0) (aCons (eOpN lenN (aCons (eVar 1) aNil)) aNil))) (entry 2 [.c k, w] (st ce k t)) = .ok (.d x) (entry 2 [.c k, w] (st ce k t')) :=
    ixZ_ok (x_var (i := 1) rfl) (call_ok (arg2 (x_var (i := 0) rfl) (opN_ok (arg1 (x_var (i := 1) rfl)) (hw.len t))) h1) ((hw.ix t' r).trans (by rw [hx]; rfl))
  rw [ret_ok e]
  exact shutS (x := []) ok (List.append_nil _).symm
theorem q_number (ok : Ok ce) (hk : k < ce.length) (g : Good N t) (hN : N < 900000) :
    ∃ r t', F__law_number n [.c k] (st ce k t) = .ok (.d (.int r)) ⟨[], st ce k t'⟩ ∧ 0 ≤ r ∧ r < 1000000000 ∧ Good (N + 2) t' := by
  obtain ⟨way, t1, h1, w0, w1, g1⟩ := q_draw (n := n) (m := 8) ok hk g (by omega) (by decide) (by decide)
  unfold F__law_number b__law_number
  have e1 : sSet 1 (eCall (F__law_draw n) (aCons (eVar 0) (aCons (eC (.int 8)) aNil))) (entry 2 [.c k] (st ce k t)) = .nx ⟨[some (.c k), some (.d (.int way))], st ce k t1⟩ := set_ok (call_ok (arg2 (x_var (i := 0) rfl) x_C) h1)
  let s1 : S := ⟨[some (.c k), some (.d (.int way))], st ce k t1⟩
  rw [seq_nx e1]
  have hc : bOf (eOp2 (two fLt) (eVar 1) (eC (.int 6))) s1 = .ok (decide (way < 6)) s1 := bOf_ok (op2_ok (x_var (i := 1) rfl) x_C rfl)
  by_cases hw : way < 6
  · rw [decide_eq_true hw] at hc
    have hx : ∃ m : Int, eIxZ (eLst (aCons (eC (.int 1)) (aCons (eC (.int 4)) (aCons (eC (.int 4)) (aCons (eC (.int 7)) (aCons (eC (.int 7)) (aCons (eC (.int 12)) aNil))))))) (eVar 1) s1 = .ok (.d (.int m)) s1 ∧ 1 ≤ m ∧ m ≤ 12 := by
      obtain ⟨x, hx, hm⟩ := atI_in (xs := [D.int 1, .int 4, .int 4, .int 7, .int 7, .int 12]) w0 hw
      have : ∃ m : Int, x = .int m ∧ 1 ≤ m ∧ m ≤ 12 := by
        simp only [List.mem_cons, List.not_mem_nil, or_false] at hm
        rcases hm with rfl | rfl | rfl | rfl | rfl | rfl <;> exact ⟨_, rfl, by decide, by decide⟩
      obtain ⟨m, rfl, m1, m2⟩ := this
      refine ⟨m, ixZ_ok (lst_ok (ds := [.int 1, .int 4, .int 4, .int 7, .int 7, .int 12]) (cons_ok x_C (cons_ok x_C (cons_ok x_C (cons_ok x_C (arg2 x_C x_C))))) rfl (by rw [sizeLine_eq]; decide)) (x_var (i := 1) rfl) ?_, m1, m2⟩
      show (ixD way (.lst _)).map W.d = _
      simp only [ixD, hx, Option.map_some]
    obtain ⟨m, hx, m1, m2⟩ := hx
    obtain ⟨r, t2, h2, r0, r1, g2⟩ := q_draw (n := n) (m := m) ok hk g1 (by omega) m1 (by omega)
    refine ⟨r, t2, ?_, r0, by omega, g2⟩
    have e2 := if_ok (f := sRet (eCall (F__law_draw n) (aCons (eVar 0) (aCons (eIxZ (eLst (aCons (eC (.int 1)) (aCons (eC (.int 4)) (aCons (eC (.int 4)) (aCons (eC (.int 7)) (aCons (eC (.int 7)) (aCons (eC (.int 12)) aNil))))))) (eVar 1)) aNil)))) (g := sNext) hc
    rw [if_pos rfl, ret_ok (call_ok (arg2 (x_var (i := 0) rfl) hx) h2)] at e2
    rw [seq_rt e2]
    exact shutS (x := []) ok (List.append_nil _).symm
  · rw [decide_eq_false hw] at hc
    have e2 := if_ok (f := sRet (eCall (F__law_draw n) (aCons (eVar 0) (aCons (eIxZ (eLst (aCons (eC (.int 1)) (aCons (eC (.int 4)) (aCons (eC (.int 4)) (aCons (eC (.int 7)) (aCons (eC (.int 7)) (aCons (eC (.int 12)) aNil))))))) (eVar 1)) aNil)))) (g := sNext) hc
    rw [if_neg Bool.false_ne_true] at e2
    rw [seq_nx (show _ = Fl.nx s1 from e2)]
    have hc2 : bOf (eOp2 (two fEq) (eVar 1) (eC (.int 6))) s1 = .ok (way == 6) s1 := bOf_ok (op2_ok (x_var (i := 1) rfl) x_C rfl)
    obtain ⟨r, t2, h2, r0, r1, g2⟩ := q_draw (n := n) (m := 100) ok hk g1 (by omega) (by decide) (by decide)
    obtain ⟨r', t2', h2', r0', r1', g2'⟩ := q_draw (n := n) (m := 1000000000) ok hk g1 (by omega) (by decide) (by decide)
    by_cases h6 : way = 6
    · refine ⟨r, t2, ?_, r0, by omega, g2⟩
      rw [ret_ok ((eIf_ok hc2).trans ((if_pos (by rw [h6]; rfl)).trans (call_ok (arg2 (x_var (i := 0) rfl) x_C) h2)))]
      exact shutS (x := []) ok (List.append_nil _).symm
    · refine ⟨r', t2', ?_, r0', r1', g2'⟩
      rw [ret_ok ((eIf_ok hc2).trans ((if_neg (by rw [beq_eq_false_iff_ne.mpr h6]; exact Bool.false_ne_true)).trans (call_ok (arg2 (x_var (i := 0) rfl) (op2_ok x_C x_C pow9)) h2')))]
      exact shutS (x := []) ok (List.append_nil _).symm
abbrev rowD (r : List Int) : D := .tup (r.map .int)
theorem each_ints {P : Int → Prop} {ws : List VL.Itm} {os : List (Option D)} (h : Each (fun _ o => ∃ x, o = some (.int x) ∧ P x) ws os) : ∃ r : List Int, somes os = r.map .int ∧ r.length = ws.length ∧ ∀ x ∈ r, P x := by
  induction h with
  | nil => exact ⟨[], rfl, rfl, fun _ h => nomatch h⟩
  | cons h _ ih =>
    obtain ⟨r, h1, h2, h3⟩ := ih
    obtain ⟨x, rfl, hx⟩ := h
    refine ⟨x :: r, by simp only [somes, h1, List.map_cons], by simp only [List.length_cons, h2], fun y hy => ?_⟩
    rcases List.mem_cons.mp hy with rfl | hy
    · exact hx
    · exact h3 y hy
theorem q_amount {m : Nat} (ok : Ok ce) (hk : k < ce.length) (g : Good N t) (hN : N < 800000) (hm : m ≤ 3) :
    ∃ r t', F__law_amount n [.c k, .d (.int m)] (st ce k t) = .ok (.d (rowD r)) ⟨[], st ce k t'⟩ ∧ r.length = m ∧ (∀ x ∈ r, 0 ≤ x ∧ x < 1000000000) ∧ Good (N + 6) t' := by
  obtain ⟨os, t', h1, h2, h3⟩ := eLc_run (s := entry 3 [.c k, .d (.int m)] (st ce k t)) (vs := [2]) (p := .nm 2) (fi := iRange1 (aCons (eVar 1) aNil)) (ft := bYes) (fe := eCall (F__law_number n) (aCons (eVar 0) aNil)) (sl := [some (.c k), some (.d (.int m)), none]) (fun t => st ce k t) t
    (iRange_ok (arg1 (x_var (i := 1) rfl)) (by omega)) (fun _ => by rw [st_len, st_len]) (fun _ _ => stay_nil) (fun i t => Good (N + 2 * i) t) (fun _ o => ∃ x, o = some (.int x) ∧ (0 ≤ x ∧ x < 1000000000)) (fun w hw i t acc hM hi => by
      obtain ⟨j, _, rfl⟩ := List.mem_map.mp hw
      simp only [List.length_map, List.length_range] at hM
      obtain ⟨r, t', h1, h2, h3, h4⟩ := q_number (n := n) (ce := ce ++ [some (.lst (acc.map .d))]) (k := k) (ok.snocD acc) (by rw [List.length_append]; omega) hi (by omega)
      rw [st_app hk, st_app hk] at h1
      exact ⟨[(2, .d (.int j))], some (.int r), t', rfl, rfl, h4, ⟨r, rfl, h2, h3⟩, _, _, rfl, call_ok (arg1 (x_var (i := 0) rfl)) h1, rfl⟩) g (by simp only [List.length_map, List.length_range]; have := big_le; unfold bigL at this; omega) (fun t' _ => st_ok ok)
  obtain ⟨r, e1, e2, e3⟩ := each_ints h3
  simp only [List.length_map, List.length_range] at e2 h2
  refine ⟨r, t', ?_, e2, e3, h2.mono (by omega)⟩
  unfold F__law_amount b__law_amount
  rw [e1] at h1
  rw [ret_ok (opN_ok (d := rowD r) (arg1 h1) rfl)]
  exact shutS (x := []) ok (List.append_nil _).symm
end G

set_option maxHeartbeats 1000000
namespace G
open PySem PySem.Spec PyProof.Rows L2 VL
variable {n : Nat} {ce : List (Option Cell)} {k N : Nat} {t : Dr}
/-! ### rows -/
theorem pyDs_ints (r : List Int) : pyDs (r.map D.int) = some (r.map PyData.int) := by
  induction r with
  | nil => rfl
  | cons x r ih => simp only [List.map_cons, pyDs, pyD, ih]
theorem pyD_row (r : List Int) : pyD (rowD r) = some (.tuple (r.map .int)) := by
  show (pyDs (r.map D.int)).map PyData.tuple = _
  rw [pyDs_ints]; rfl
abbrev rowP (r : List Int) : PyData := .tuple (r.map .int)
theorem pyDs_rows (rs : List (List Int)) : pyDs (rs.map rowD) = some (rs.map rowP) := by
  induction rs with
  | nil => rfl
  | cons x r ih => simp only [List.map_cons, pyDs, pyD_row, ih]
theorem lay_ints (r : List Int) : PyData.canLayAll0 (r.map PyData.int) = true := by
  induction r with
  | nil => rfl
  | cons x r ih => simp only [List.map_cons, PyData.canLayAll0, PyData.canLay0, ih, Bool.and_self]
theorem lay_rows (rs : List (List Int)) : PyData.canLayAll0 (rs.map rowP) = true := by
  induction rs with
  | nil => rfl
  | cons x r ih => simp only [List.map_cons, PyData.canLayAll0, PyData.canLay0, lay_ints, ih, Bool.and_self]
theorem dep_ints (r : List Int) : PyData.depthAll (r.map PyData.int) ≤ 2 := depth_ints r
theorem dep_row (r : List Int) : (rowP r).depth ≤ 4 := by
  have := dep_ints r
  simp only [PyData.depth]; omega
theorem dep_rows (rs : List (List Int)) : PyData.depthAll (rs.map rowP) ≤ 6 := by
  induction rs with
  | nil => simp [PyData.depthAll]
  | cons x r ih =>
    have := dep_row x
    simp only [List.map_cons, PyData.depthAll]
    omega
theorem shaped_rows (rs : List (List Int)) : SeqAt.shaped (.list (rs.map rowP)) = true := by
  have := dep_rows rs
  have h2 : (PyData.list (rs.map rowP)).depth ≤ 64 := by simp only [PyData.depth]; omega
  unfold SeqAt.shaped
  rw [decide_eq_true h2]
  simp only [PyData.canLay0, lay_rows, Bool.and_self]
theorem shaped_row (r : List Int) : SeqAt.shaped (rowP r) = true := by
  have := dep_row r
  have h2 : (rowP r).depth ≤ 64 := by omega
  unfold SeqAt.shaped
  rw [decide_eq_true h2]
  simp only [PyData.canLay0, lay_ints, Bool.and_self]
theorem ne_nil {c : List (Option Cell)} {w : W} {rs : List (List Int)} (h : dat c w = some (.lst (rs.map rowD))) : two fNe c w (.d (.lst [])) = some (.bl (!rs.isEmpty)) := by
  show (match dat c w, dat c (.d (.lst [])) with | some a, some b => fNe a b | _, _ => none) = _
  rw [h]
  show fNeD (.lst (rs.map rowD)) (.lst []) = _
  unfold fNeD
  have e1 : pyD (.lst (rs.map rowD)) = some (.list (rs.map rowP)) := by
    show (pyDs (rs.map rowD)).map PyData.list = _
    rw [pyDs_rows]; rfl
  have e2 : pyD (.lst []) = some (.list []) := rfl
  rw [e1, e2]
  simp only
  rw [if_pos ⟨shaped_rows rs, by decide⟩]
  cases rs <;> rfl
theorem dat_cell {c : List (Option Cell)} {j : Nat} {ds : List D} (h : c[j]? = some (some (.lst (ds.map W.d)))) : dat c (.c j) = some (.lst ds) := by
  simp only [dat, h, datAll_map, Option.map_some]
theorem append_ok {fo fe : S → Out W} {s s1 s2 : S} {j : Nat} {w0 ws : List W} {y : W} (h1 : fo s = .ok (.c j) s1) (h2 : s1.ce[j]? = some (some (.lst w0))) (h3 : fe s1 = .ok y s2) (h4 : s2.ce[j]? = some (some (.lst ws))) (h5 : ws.length < sizeLine) :
    eAppend fo fe s = .ok (.d .non) ⟨s2.sl, s2.ce.set j (some (.lst (ws ++ [y])))⟩ := by
  unfold eAppend
  rw [h1]; simp only [Out.bind_ok, lstC, h2]
  rw [h3]; simp only [Out.bind_ok, h4]
  rw [if_pos h5]; rfl
theorem last_get {a : List (Option Cell)} {x : Option Cell} {L : Nat} (h : a.length = L) : (a ++ [x])[L]? = some x := by
  subst h; simp
theorem last_set {a : List (Option Cell)} {x y : Option Cell} {L : Nat} (h : a.length = L) : (a ++ [x]).set L y = a ++ [y] := by
  subst h; simp
theorem small_le {m : Nat} (h : m ≤ 1000) : m ≤ sizeLine := Nat.le_trans h (by rw [sizeLine_eq]; decide)
theorem small_lt {m : Nat} (h : m ≤ 1000) : m < sizeLine := Nat.lt_of_le_of_lt h (by rw [sizeLine_eq]; decide)
abbrev fnd (rs : List (List Int)) : Option Cell := some (.lst ((rs.map rowD).map W.d))
def stepped (r mo : List Int) : List Int := List.zipWith (fun a b => if a + b > 0 then a + b else 0) r mo
def stepI : VL.Itm → Option D
  | .pr [.d (.int a), .d (.int b)] => some (.int (if a + b > 0 then a + b else 0))
  | _ => none
theorem somes_step : ∀ (r mo : List Int), somes (((((r.map D.int).map W.d).zip ((mo.map D.int).map W.d)).map fun p => VL.Itm.pr [p.1, p.2]).map stepI) = (stepped r mo).map D.int
  | [], _ => rfl
  | _ :: _, [] => rfl
  | a :: r, b :: mo => by
    have := somes_step r mo
    simp only [List.map_cons, List.zip_cons_cons, stepI, somes, this, stepped, List.zipWith_cons_cons]
theorem stepped_len : ∀ (r mo : List Int), r.length = mo.length → (stepped r mo).length = r.length := fun r mo h => by
  unfold stepped; rw [List.length_zipWith, h, Nat.min_self]
theorem stepped_mem {B : Int} (hB : 0 ≤ B) : ∀ (r mo : List Int), (∀ x ∈ r, 0 ≤ x ∧ x ≤ B) → (∀ x ∈ mo, -1 ≤ x ∧ x ≤ 2) → ∀ x ∈ stepped r mo, 0 ≤ x ∧ x ≤ B + 2
  | [], _, _, _ => fun x h => by simp [stepped] at h
  | _ :: _, [], _, _ => fun x h => by simp [stepped] at h
  | a :: r, b :: mo, h1, h2 => fun x h => by
    simp only [stepped, List.zipWith_cons_cons, List.mem_cons] at h
    rcases h with rfl | h
    · have := h1 a List.mem_cons_self
      have := h2 b List.mem_cons_self
      split <;> omega
    · exact stepped_mem hB r mo (fun x hx => h1 x (List.mem_cons_of_mem _ hx)) (fun x hx => h2 x (List.mem_cons_of_mem _ hx)) x h
structure Rws (m : Nat) (B : Int) (rs : List (List Int)) : Prop where
  len : ∀ r ∈ rs, r.length = m
  bd : ∀ r ∈ rs, ∀ x ∈ r, 0 ≤ x ∧ x ≤ B
theorem Rws.snoc {m : Nat} {B B' : Int} {rs : List (List Int)} {r : List Int} (h : Rws m B rs) (hB : B ≤ B') (hl : r.length = m) (hb : ∀ x ∈ r, 0 ≤ x ∧ x ≤ B') : Rws m B' (rs ++ [r]) := by
  refine ⟨fun q hq => ?_, fun q hq x hx => ?_⟩
  · rcases List.mem_append.mp hq with hq | hq
    · exact h.len q hq
    · rw [List.mem_singleton.mp hq]; exact hl
  · rcases List.mem_append.mp hq with hq | hq
    · have := h.bd q hq x hx
      exact ⟨this.1, by omega⟩
    · rw [List.mem_singleton.mp hq] at hx; exact hb x hx
theorem fnd_app {rs : List (List Int)} {r : List Int} : (some (Cell.lst ((rs.map rowD).map W.d ++ [.d (rowD r)])) : Option Cell) = fnd (rs ++ [r]) := by
  simp only [fnd, List.map_append, List.map_cons, List.map_nil]
abbrev amS (ce : List (Option Cell)) (k m size : Nat) (rs : List (List Int)) (t : Dr) (o4 o5 o6 o7 o8 o9 : Option W) : S :=
  ⟨[some (.c k), some (.d (.int m)), some (.d (.int size)), some (.c ce.length), o4, o5, o6, o7, o8, o9], st ce k t ++ [fnd rs]⟩
noncomputable abbrev amBody (n : Nat) : S → Fl := (sSeq (sSet 5 (eIf (bOf (eOp2 (two fNe) (eVar 3) (eLst aNil))) (eCall (F__law_draw n) (aCons (eVar 0) (aCons (eC (.int 6)) aNil))) (eC (.int 5)))) (sSeq (sSet 6 (eIf (bOf (eOp2 (two fLt) (eVar 5) (eC (.int 3)))) (eCall (F__law_pick n) (aCons (eVar 0) (aCons (eVar 3) aNil))) (eTup aNil))) (sIf (bOf (eOp2 (two fEq) (eVar 5) (eC (.int 0)))) (sDrop (eAppend (eVar 3) (eVar 6))) (sIf (bOf (eOp2 (two fLt) (eVar 5) (eC (.int 3)))) (sSeq (sSet 7 (eLc [8] (.nm 8) (iSeq (eVar 6)) bYes (eOp2 (two fSub) (eCall (F__law_draw n) (aCons (eVar 0) (aCons (eC (.int 3)) aNil))) (eOpN (one fInt) (aCons (eOp2 (two fEq) (eVar 5) (eC (.int 2))) aNil))))) (sDrop (eAppend (eVar 3) (eOpN (one fTuple) (aCons (eLc [8, 9] (.tp [(.nm 8), (.nm 9)]) (iZip (aCons (eVar 6) (aCons (eVar 7) aNil))) bYes (eOpN fMaxN (aCons (eC (.int 0)) (aCons (eOp2 (two fAdd) (eVar 8) (eVar 9)) aNil)))) aNil))))) (sDrop (eAppend (eVar 3) (eCall (F__law_amount n) (aCons (eVar 0) (aCons (eVar 1) aNil)))))))))
theorem am_step {m size : Nat} {rs : List (List Int)} {o4 o5 o6 o7 o8 o9 : Option W} {B : Int} (ok : Ok ce) (hk : k < ce.length) (g : Good N t) (hN : N < 700000) (hm : m ≤ 3) (hr : Rws m B rs) (hB : 1000000000 ≤ B) (hz : rs.length ≤ 100) :
    ∃ r t' o5' o6' o7', amBody n (amS ce k m size rs t o4 o5 o6 o7 o8 o9) = .nx (amS ce k m size (rs ++ [r]) t' o4 o5' o6' o7' o8 o9) ∧ Rws m (B + 2) (rs ++ [r]) ∧ Good (N + 20) t' := by
  let cb := ce ++ [fnd rs]
  have okb : Ok cb := ok.snocD (rs.map rowD)
  have hkb : k < cb.length := by show k < (ce ++ [fnd rs]).length; rw [List.length_append]; omega
  have hst : ∀ t, st cb k t = st ce k t ++ [fnd rs] := fun t => st_app hk _
  have hgL : ∀ t, (st ce k t ++ [fnd rs])[ce.length]? = some (fnd rs) := fun t => last_get st_len
  have hlen : ((rs.map rowD).map W.d).length ≤ 1000 := by rw [List.length_map, List.length_map]; omega
  -- the third way: a drawn amount
  have third : ∀ (t1 : Dr) (w : Int) (o6 : Option W), Good (N + 5) t1 → 3 ≤ w → ∃ r t', sIf (bOf (eOp2 (two fEq) (eVar 5) (eC (.int 0)))) (sDrop (eAppend (eVar 3) (eVar 6))) (sIf (bOf (eOp2 (two fLt) (eVar 5) (eC (.int 3)))) (sSeq (sSet 7 (eLc [8] (.nm 8) (iSeq (eVar 6)) bYes (eOp2 (two fSub) (eCall (F__law_draw n) (aCons (eVar 0) (aCons (eC (.int 3)) aNil))) (eOpN (one fInt) (aCons (eOp2 (two fEq) (eVar 5) (eC (.int 2))) aNil))))) (sDrop (eAppend (eVar 3) (eOpN (one fTuple) (aCons (eLc [8, 9] (.tp [(.nm 8), (.nm 9)]) (iZip (aCons (eVar 6) (aCons (eVar 7) aNil))) bYes (eOpN fMaxN (aCons (eC (.int 0)) (aCons (eOp2 (two fAdd) (eVar 8) (eVar 9)) aNil)))) aNil))))) (sDrop (eAppend (eVar 3) (eCall (F__law_amount n) (aCons (eVar 0) (aCons (eVar 1) aNil)))))) (amS ce k m size rs t1 o4 (some (.d (.int w))) o6 o7 o8 o9) = .nx (amS ce k m size (rs ++ [r]) t' o4 (some (.d (.int w))) o6 o7 o8 o9) ∧ Rws m (B + 2) (rs ++ [r]) ∧ Good (N + 20) t' := by
    intro t1 w o6 g1 hw
    obtain ⟨r, t', h1, h2, h3, h4⟩ := q_amount (n := n) (m := m) okb hkb g1 (by omega) hm
    rw [hst, hst] at h1
    refine ⟨r, t', ?_, hr.snoc (by omega) h2 (fun x hx => by have := h3 x hx; omega), h4.mono (by omega)⟩
    refine (if_ok (bOf_ok (op2_ok (x_var (i := 5) rfl) x_C rfl))).trans ?_
    rw [if_neg (by rw [beq_eq_false_iff_ne.mpr (by omega)]; exact Bool.false_ne_true)]
    refine (if_ok (bOf_ok (op2_ok (x_var (i := 5) rfl) x_C rfl))).trans ?_
    rw [if_neg (by rw [decide_eq_false (by omega)]; exact Bool.false_ne_true)]
    have a1 : eCall (F__law_amount n) (aCons (eVar 0) (aCons (eVar 1) aNil)) (amS ce k m size rs t1 o4 (some (.d (.int w))) o6 o7 o8 o9) = .ok (.d (rowD r)) (amS ce k m size rs t' o4 (some (.d (.int w))) o6 o7 o8 o9) := call_ok (arg2 (x_var (i := 0) rfl) (x_var (i := 1) rfl)) h1
    have a3 : eVar 3 (amS ce k m size rs t1 o4 (some (.d (.int w))) o6 o7 o8 o9) = .ok (.c ce.length) (amS ce k m size rs t1 o4 (some (.d (.int w))) o6 o7 o8 o9) := x_var rfl
    refine (drop_ok (append_ok a3 (hgL t1) a1 (hgL t') (small_lt hlen))).trans ?_
    show Fl.nx ⟨_, (st ce k t' ++ [fnd rs]).set ce.length _⟩ = _
    rw [last_set st_len, fnd_app]
  have hne : bOf (eOp2 (two fNe) (eVar 3) (eLst aNil)) (amS ce k m size rs t o4 o5 o6 o7 o8 o9) = .ok (!rs.isEmpty) (amS ce k m size rs t o4 o5 o6 o7 o8 o9) := by
    refine bOf_ok (op2_ok (x_var (i := 3) rfl) (lst_ok x_nil rfl (by simp)) (ne_nil ?_))
    exact dat_cell (hgL t)
  by_cases he : rs = []
  · have e5 : sSet 5 (eIf (bOf (eOp2 (two fNe) (eVar 3) (eLst aNil))) (eCall (F__law_draw n) (aCons (eVar 0) (aCons (eC (.int 6)) aNil))) (eC (.int 5))) (amS ce k m size rs t o4 o5 o6 o7 o8 o9) = .nx (amS ce k m size rs t o4 (some (.d (.int 5))) o6 o7 o8 o9) := by
      refine set_ok (w := (.d (.int 5))) (s' := amS ce k m size rs t o4 o5 o6 o7 o8 o9) ((eIf_ok hne).trans ?_)
      rw [if_neg (by rw [he]; exact Bool.false_ne_true)]; rfl
    have e6 : sSet 6 (eIf (bOf (eOp2 (two fLt) (eVar 5) (eC (.int 3)))) (eCall (F__law_pick n) (aCons (eVar 0) (aCons (eVar 3) aNil))) (eTup aNil)) (amS ce k m size rs t o4 (some (.d (.int 5))) o6 o7 o8 o9) = .nx (amS ce k m size rs t o4 (some (.d (.int 5))) (some (.d (.tup []))) o7 o8 o9) := by
      refine set_ok (w := (.d (.tup []))) (s' := amS ce k m size rs t o4 (some (.d (.int 5))) o6 o7 o8 o9) ((eIf_ok (bOf_ok (op2_ok (x_var (i := 5) rfl) x_C rfl))).trans ?_)
      rw [if_neg (by decide)]
      exact tup_ok x_nil rfl (by simp)
    obtain ⟨r, t', h1, h2, h3⟩ := third t 5 (some (.d (.tup []))) (g.mono (by omega)) (by omega)
    exact ⟨r, t', _, _, _, (seq_nx e5).trans ((seq_nx e6).trans h1), h2, h3⟩
  · obtain ⟨way, t1, h1, w0, w1, g1⟩ := q_draw (n := n) (m := 6) okb hkb g (by omega) (by decide) (by decide)
    rw [hst, hst] at h1
    have e5 : sSet 5 (eIf (bOf (eOp2 (two fNe) (eVar 3) (eLst aNil))) (eCall (F__law_draw n) (aCons (eVar 0) (aCons (eC (.int 6)) aNil))) (eC (.int 5))) (amS ce k m size rs t o4 o5 o6 o7 o8 o9) = .nx (amS ce k m size rs t1 o4 (some (.d (.int way))) o6 o7 o8 o9) := by
      refine set_ok (w := (.d (.int way))) (s' := amS ce k m size rs t1 o4 o5 o6 o7 o8 o9) ((eIf_ok hne).trans ?_)
      rw [if_pos (by cases rs with | nil => exact absurd rfl he | cons a b => rfl)]
      exact call_ok (arg2 (x_var (i := 0) rfl) x_C) h1
    by_cases h3 : 3 ≤ way
    · have e6 : sSet 6 (eIf (bOf (eOp2 (two fLt) (eVar 5) (eC (.int 3)))) (eCall (F__law_pick n) (aCons (eVar 0) (aCons (eVar 3) aNil))) (eTup aNil)) (amS ce k m size rs t1 o4 (some (.d (.int way))) o6 o7 o8 o9) = .nx (amS ce k m size rs t1 o4 (some (.d (.int way))) (some (.d (.tup []))) o7 o8 o9) := by
        refine set_ok (w := (.d (.tup []))) (s' := amS ce k m size rs t1 o4 (some (.d (.int way))) o6 o7 o8 o9) ((eIf_ok (bOf_ok (op2_ok (x_var (i := 5) rfl) x_C rfl))).trans ?_)
        rw [if_neg (by rw [decide_eq_false (by omega)]; exact Bool.false_ne_true)]
        exact tup_ok x_nil rfl (by simp)
      obtain ⟨r, t', h1, h2, h3⟩ := third t1 way (some (.d (.tup []))) (g1.mono (by omega)) h3
      exact ⟨r, t', _, _, _, (seq_nx e5).trans ((seq_nx e6).trans h1), h2, h3⟩
    · obtain ⟨x, t2, h2, hx, g2⟩ := q_pick (n := n) (w := .c ce.length) (ds := rs.map rowD) okb hkb g1 (by omega) (SeqW.cell (by omega) (by show (ce ++ [fnd rs])[ce.length]? = _; exact last_get rfl)) (by rw [List.length_map]; cases rs with | nil => exact absurd rfl he | cons a b => simp) (by rw [List.length_map]; omega)
      rw [hst, hst] at h2
      obtain ⟨r, hr0, rfl⟩ := List.mem_map.mp hx
      have e6 : sSet 6 (eIf (bOf (eOp2 (two fLt) (eVar 5) (eC (.int 3)))) (eCall (F__law_pick n) (aCons (eVar 0) (aCons (eVar 3) aNil))) (eTup aNil)) (amS ce k m size rs t1 o4 (some (.d (.int way))) o6 o7 o8 o9) = .nx (amS ce k m size rs t2 o4 (some (.d (.int way))) (some (.d (rowD r))) o7 o8 o9) := by
        refine set_ok (w := (.d (rowD r))) (s' := amS ce k m size rs t2 o4 (some (.d (.int way))) o6 o7 o8 o9) ((eIf_ok (bOf_ok (op2_ok (x_var (i := 5) rfl) x_C rfl))).trans ?_)
        rw [if_pos (decide_eq_true (by omega))]
        exact call_ok (arg2 (x_var (i := 0) rfl) (x_var (i := 3) rfl)) h2
      by_cases hw0 : way = 0
      · refine ⟨r, t2, some (.d (.int way)), some (.d (rowD r)), o7, (seq_nx e5).trans ((seq_nx e6).trans ?_), hr.snoc (by omega) (hr.len r hr0) (fun x hx => by have := hr.bd r hr0 x hx; omega), g2.mono (by omega)⟩
        refine (if_ok (bOf_ok (op2_ok (x_var (i := 5) rfl) x_C rfl))).trans ?_
        rw [if_pos (by rw [hw0]; rfl)]
        refine (drop_ok (append_ok (x_var (i := 3) rfl) (hgL t2) (x_var (i := 6) rfl) (hgL t2) (small_lt hlen))).trans ?_
        show Fl.nx ⟨_, (st ce k t2 ++ [fnd rs]).set ce.length _⟩ = _
        rw [last_set st_len, fnd_app]
      · -- a little otherwise
        let sl2 : List (Option W) := [some (.c k), some (.d (.int m)), some (.d (.int size)), some (.c ce.length), o4, some (.d (.int way)), some (.d (rowD r)), o7, o8, o9]
        obtain ⟨os, t3, l1, l2, l3⟩ := eLc_run (s := amS ce k m size rs t2 o4 (some (.d (.int way))) (some (.d (rowD r))) o7 o8 o9) (vs := [8]) (p := .nm 8) (fi := iSeq (eVar 6)) (ft := bYes) (fe := eOp2 (two fSub) (eCall (F__law_draw n) (aCons (eVar 0) (aCons (eC (.int 3)) aNil))) (eOpN (one fInt) (aCons (eOp2 (two fEq) (eVar 5) (eC (.int 2))) aNil))) (sl := sl2) (fun t => st ce k t ++ [fnd rs]) t2
          (iSeq_ok (x_var (i := 6) rfl) rfl) (fun _ => by rw [List.length_append, List.length_append, st_len, st_len]) (fun _ _ => stay_nil) (fun i t => Good (N + 2 + i) t) (fun _ o => ∃ x, o = some (.int x) ∧ (-1 ≤ x ∧ x ≤ 2)) (fun w hw i t acc hM hi => by
            obtain ⟨x, hx, rfl⟩ := List.mem_map.mp hw
            simp only [List.length_map, hr.len r hr0] at hM
            obtain ⟨d, t', d1, d2, d3, d4⟩ := q_draw (n := n) (m := 3) (ce := cb ++ [some (.lst (acc.map .d))]) (k := k) (okb.snocD acc) (by rw [List.length_append]; omega) hi (by omega) (by decide) (by decide)
            rw [st_app hkb, st_app hkb, hst, hst] at d1
            refine ⟨[(8, .d x)], some (.int (d - (if (way == 2) = true then 1 else 0))), t', rfl, rfl, d4, ⟨_, rfl, by split <;> omega, by split <;> omega⟩, _, _, rfl, op2_ok (call_ok (arg2 (x_var (i := 0) rfl) x_C) d1) (opN_ok (arg1 (op2_ok (x_var (i := 5) rfl) x_C rfl)) rfl) rfl, rfl⟩) (g2.mono (by omega)) (by simp only [List.length_map, hr.len r hr0]; exact small_le (by omega)) (fun t' _ => by rw [← hst]; exact st_ok okb)
        obtain ⟨mo, m1, m2, m3⟩ := each_ints l3
        simp only [List.length_map, hr.len r hr0] at l2 m2
        rw [m1] at l1
        have e7 := set_ok (i := 7) l1
        let s7 : S := amS ce k m size rs t3 o4 (some (.d (.int way))) (some (.d (rowD r))) (some (.d (.lst (mo.map .int)))) o8 o9
        have e8 := eLc_pure (s := s7) (vs := [8, 9]) (p := .tp [(.nm 8), (.nm 9)]) (fi := iZip (aCons (eVar 6) (aCons (eVar 7) aNil))) (ft := bYes) (fe := eOpN fMaxN (aCons (eC (.int 0)) (aCons (eOp2 (two fAdd) (eVar 8) (eVar 9)) aNil))) (sl := s7.sl) (ce := s7.ce)
          (iZip_ok (arg2 (x_var (i := 6) rfl) (x_var (i := 7) rfl)) rfl rfl) stepI (fun _ => stay_nil) (fun w hw c hc => by
            obtain ⟨⟨a, b⟩, hab, rfl⟩ := List.mem_map.mp hw
            have ha := (List.of_mem_zip hab).1
            have hb := (List.of_mem_zip hab).2
            obtain ⟨a1, ha1, rfl⟩ := List.mem_map.mp ha
            obtain ⟨b1, hb1, rfl⟩ := List.mem_map.mp hb
            obtain ⟨a2, _, rfl⟩ := List.mem_map.mp ha1
            obtain ⟨b2, _, rfl⟩ := List.mem_map.mp hb1
            exact ⟨[(8, .d (.int a2)), (9, .d (.int b2))], rfl, rfl, _, _, rfl, opN_ok (arg2 x_C (op2_ok (x_var (i := 8) rfl) (x_var (i := 9) rfl) rfl)) rfl, rfl⟩) (by
              simp only [List.length_map, List.length_zip]
              exact small_le (by have := hr.len r hr0; omega)) (by show Ok (st ce k t3 ++ [fnd rs]); rw [← hst]; exact st_ok okb)
        simp only [List.append_nil] at e8
        rw [somes_step] at e8
        refine ⟨stepped r mo, t3, some (.d (.int way)), some (.d (rowD r)), some (.d (.lst (mo.map .int))), (seq_nx e5).trans ((seq_nx e6).trans ?_), hr.snoc (by omega) ((stepped_len r mo (by rw [hr.len r hr0, m2])).trans (hr.len r hr0)) (stepped_mem (by omega) r mo (fun x hx => hr.bd r hr0 x hx) m3), l2.mono (by omega)⟩
        refine (if_ok (bOf_ok (op2_ok (x_var (i := 5) rfl) x_C rfl))).trans ?_
        rw [if_neg (by rw [beq_eq_false_iff_ne.mpr hw0]; exact Bool.false_ne_true)]
        refine (if_ok (bOf_ok (op2_ok (x_var (i := 5) rfl) x_C rfl))).trans ?_
        rw [if_pos (decide_eq_true (by omega))]
        refine (seq_nx (show _ = Fl.nx s7 from e7)).trans ?_
        refine (drop_ok (append_ok (x_var (i := 3) rfl) (hgL t3) (opN_ok (d := rowD (stepped r mo)) (arg1 e8) rfl) (hgL t3) (small_lt hlen))).trans ?_
        show Fl.nx ⟨_, (st ce k t3 ++ [fnd rs]).set ce.length _⟩ = _
        rw [last_set st_len, fnd_app]
end G

set_option maxHeartbeats 1000000
namespace G
open PySem PySem.Spec PyProof.Rows L2 VL
variable {n : Nat} {ce : List (Option Cell)} {k N : Nat} {t : Dr}
theorem frz_ok {fa : S → Out W} {s s' : S} {j : Nat} {ds : List D} (h : fa s = .ok (.c j) s') (h2 : s'.ce[j]? = some (some (.lst (ds.map W.d)))) : eFrzZ fa s = .ok (.d (.lst ds)) ⟨s'.sl, s'.ce.set j none⟩ := by
  unfold eFrzZ
  rw [h]; simp only [Out.bind_ok, h2, datAll_map]
theorem q_amounts {m size : Nat} (ok : Ok ce) (hk : k < ce.length) (g : Good N t) (hN : N < 600000) (hm : m ≤ 3) (hz : size ≤ 8) :
    ∃ rs t', F__law_amounts n [.c k, .d (.int m), .d (.int size)] (st ce k t) = .ok (.d (.lst (rs.map rowD))) ⟨[], st ce k t'⟩ ∧ rs.length = size ∧ Rws m 2000000000 rs ∧ Good (N + 200) t' := by
  have hc : sSet 3 (eCell aNil) (entry 10 [.c k, .d (.int m), .d (.int size)] (st ce k t)) = .nx (amS ce k m size [] t none none none none none none) := by
    rw [set_ok (cell_ok x_nil (by simp))]
    show Fl.nx ⟨[some (.c k), some (.d (.int m)), some (.d (.int size)), some (.c (st ce k t).length), none, none, none, none, none, none], _⟩ = _
    rw [st_len]; rfl
  obtain ⟨s', hl, ⟨rs, t', o4, o5, o6, o7, o8, o9, rfl, r1, r2, r3⟩, _⟩ := loopF_all (p := .nm 4) (kp := []) (body := amBody n)
    (fun ws s => (∃ rs t o4 o5 o6 o7 o8 o9, s = amS ce k m size rs t o4 o5 o6 o7 o8 o9 ∧ Rws m (1000000000 + 2 * rs.length) rs ∧ rs.length + ws.length = size ∧ Good (N + 20 * rs.length) t) ∧ ∀ w ∈ ws, ∃ i : Int, w = .w (.d (.int i)))
    (fun _ _ _ => stay_nil) (fun w r s h => by
      obtain ⟨⟨rs, t, o4, o5, o6, o7, o8, o9, rfl, h1, h2, h3⟩, hw⟩ := h
      obtain ⟨i, rfl⟩ := hw w List.mem_cons_self
      simp only [List.length_cons] at h2
      obtain ⟨q, t', o5', o6', o7', e1, e2, e3⟩ := am_step (n := n) (size := size) (o4 := some (.d (.int i))) (o5 := o5) (o6 := o6) (o7 := o7) (o8 := o8) (o9 := o9) ok hk h3 (by omega) hm h1 (by omega) (by omega)
      refine ⟨[(4, .d (.int i))], _, rfl, .inl e1, ⟨rs ++ [q], t', _, o5', o6', o7', o8, o9, rfl, ?_, by rw [List.length_append]; simp only [List.length_cons, List.length_nil]; omega, ?_⟩, fun w hw' => hw w (List.mem_cons_of_mem _ hw')⟩
      · rw [List.length_append]; simp only [List.length_cons, List.length_nil]
        exact ⟨e2.len, fun q hq x hx => by have := e2.bd q hq x hx; omega⟩
      · rw [List.length_append]; simp only [List.length_cons, List.length_nil]
        exact e3.mono (by omega))
    ((List.range size).map fun i : Nat => .w (.d (.int (i : Int)))) (amS ce k m size [] t none none none none none none)
    ⟨⟨[], t, _, _, _, _, _, _, rfl, ⟨(fun _ h => nomatch h), (fun _ h => nomatch h)⟩, by simp only [List.length_map, List.length_range, List.length_nil]; omega, g⟩, fun w hw => by
      obtain ⟨i, _, rfl⟩ := List.mem_map.mp hw
      exact ⟨i, rfl⟩⟩
  simp only [List.length_nil, Nat.add_zero] at r2
  refine ⟨rs, t', ?_, r2, ⟨r1.len, fun q hq x hx => by have := r1.bd q hq x hx; omega⟩, r3.mono (by omega)⟩
  have hf : sFor (.nm 4) (iRange1 (aCons (eVar 2) aNil)) (amBody n) (amS ce k m size [] t none none none none none none) = .nx (amS ce k m size rs t' o4 o5 o6 o7 o8 o9) :=
    (for_ok (iRange_ok (n := size) (arg1 (x_var (i := 2) rfl)) (by omega))).trans hl
  have hr := ret_ok (frz_ok (fa := eVar 3) (s := amS ce k m size rs t' o4 o5 o6 o7 o8 o9) (ds := rs.map rowD) (x_var rfl) (last_get st_len))
  unfold F__law_amounts b__law_amounts
  rw [seq_nx hc, seq_nx hf, hr]
  exact shutS (x := [none]) ok (last_set st_len)
/-- x is a list or a tuple of the row's numbers -/
def SeqR (r : List Int) (x : D) : Prop := seqD x = some (r.map .int)
theorem SeqR.fl {r : List Int} {x : D} (h : SeqR r x) : fList x = some (.lst (r.map .int)) := by
  unfold SeqR at h
  cases x <;> simp only [seqD, Option.some.injEq, reduceCtorEq] at h <;> subst h <;> rfl
theorem SeqR.ft {r : List Int} {x : D} (h : SeqR r x) : fTuple x = some (.tup (r.map .int)) := by
  unfold SeqR at h
  cases x <;> simp only [seqD, Option.some.injEq, reduceCtorEq] at h <;> subst h <;> rfl
theorem each_len {α β : Type} {Q : α → β → Prop} {a : List α} {b : List β} (h : Each Q a b) : a.length = b.length := by
  induction h with
  | nil => rfl
  | cons _ _ ih => simp only [List.length_cons, ih]
theorem each_of_mem {α β : Type} {Q : α → β → Prop} {a : List α} {b : List β} (h : Each Q a b) {y : β} (hy : y ∈ b) : ∃ x, Q x y := by
  induction h with
  | nil => cases hy
  | cons h1 _ ih =>
    rcases List.mem_cons.mp hy with rfl | hy
    · exact ⟨_, h1⟩
    · exact ih hy
theorem each_hand {rs : List (List Int)} {ds : List D} {os : List (Option D)} (h : Each SeqR rs ds) : Each (fun w o => ∀ r x0, w = VL.Itm.w (.d x0) → SeqR r x0 → ∃ x, o = some x ∧ SeqR r x) (ds.map fun d => .w (.d d)) os → Each SeqR rs (somes os) := by
  induction h generalizing os with
  | nil => intro e; cases e; exact .nil
  | cons h1 _ ih =>
    intro e
    cases e with
    | cons e1 e2 =>
      obtain ⟨x, rfl, hx⟩ := e1 _ _ rfl h1
      exact .cons hx (ih e2)
theorem q_handed {rs : List (List Int)} {ds : List D} (ok : Ok ce) (hk : k < ce.length) (g : Good N t) (hN : N < 500000) (h : Each SeqR rs ds) (hz : rs.length ≤ 100) :
    ∃ x gs t', F__law_handed n [.c k, .d (.lst ds)] (st ce k t) = .ok (.d x) ⟨[], st ce k t'⟩ ∧ seqD x = some gs ∧ Each SeqR rs gs ∧ Good (N + 200) t' := by
  have hl := each_len h
  obtain ⟨os, t1, l1, l2, l3⟩ := eLc_run (s := entry 4 [.c k, .d (.lst ds)] (st ce k t)) (vs := [3]) (p := .nm 3) (fi := iSeq (eVar 1)) (ft := bYes) (fe := eIf (bOf (eOp2 (two fEq) (eCall (F__law_draw n) (aCons (eVar 0) (aCons (eC (.int 2)) aNil))) (eC (.int 0)))) (eOpN (one fList) (aCons (eVar 3) aNil)) (eOpN (one fTuple) (aCons (eVar 3) aNil))) (sl := [some (.c k), some (.d (.lst ds)), none, none]) (fun t => st ce k t) t
    (iSeq_ok (x_var (i := 1) rfl) rfl) (fun _ => by rw [st_len, st_len]) (fun _ _ => stay_nil) (fun i t => Good (N + i) t) (fun w o => ∀ r x0, w = VL.Itm.w (.d x0) → SeqR r x0 → ∃ x, o = some x ∧ SeqR r x) (fun w hw i t acc hM hi => by
      obtain ⟨x, hx, rfl⟩ := List.mem_map.mp hw
      simp only [List.length_map] at hM
      obtain ⟨d, t', d1, d2, d3, d4⟩ := q_draw (n := n) (m := 2) (ce := ce ++ [some (.lst (acc.map .d))]) (k := k) (ok.snocD acc) (by rw [List.length_append]; omega) hi (by omega) (by decide) (by decide)
      rw [st_app hk, st_app hk] at d1
      have hsr : ∃ r, SeqR r x := each_of_mem h hx
      obtain ⟨r, hr⟩ := hsr
      let s1 : S := ⟨[some (.c k), some (.d (.lst ds)), none, some (.d x)], st ce k t' ++ [some (.lst (acc.map .d))]⟩
      have hb : bOf (eOp2 (two fEq) (eCall (F__law_draw n) (aCons (eVar 0) (aCons (eC (.int 2)) aNil))) (eC (.int 0))) ⟨[some (.c k), some (.d (.lst ds)), none, some (.d x)], st ce k t ++ [some (.lst (acc.map .d))]⟩ = .ok (d == 0) s1 := bOf_ok (op2_ok (call_ok (arg2 (x_var (i := 0) rfl) x_C) d1) x_C rfl)
      by_cases h0 : (d == 0) = true
      · refine ⟨[(3, .d x)], some (.lst (r.map .int)), t', rfl, rfl, d4, fun r' x0 e hr' => ?_, _, s1, rfl, (eIf_ok hb).trans ((if_pos h0).trans (opN_ok (arg1 (x_var (i := 3) rfl)) hr.fl)), rfl⟩
        injection e with e; injection e with e; subst e
        unfold SeqR at hr hr'
        rw [hr] at hr'
        exact ⟨_, rfl, hr'⟩
      · refine ⟨[(3, .d x)], some (.tup (r.map .int)), t', rfl, rfl, d4, fun r' x0 e hr' => ?_, _, s1, rfl, (eIf_ok hb).trans ((if_neg h0).trans (opN_ok (arg1 (x_var (i := 3) rfl)) hr.ft)), rfl⟩
        injection e with e; injection e with e; subst e
        unfold SeqR at hr hr'
        rw [hr] at hr'
        exact ⟨_, rfl, hr'⟩) g (by simp only [List.length_map]; exact small_le (by omega)) (fun _ _ => st_ok ok)
  simp only [List.length_map] at l2
  have hg := each_hand h l3
  obtain ⟨d, t2, d1, d2, d3, d4⟩ := q_draw (n := n) (m := 2) (ce := ce) (k := k) ok hk l2 (by omega) (by decide) (by decide)
  let s2 : S := ⟨[some (.c k), some (.d (.lst ds)), some (.d (.lst (somes os))), none], st ce k t1⟩
  let s3 : S := ⟨[some (.c k), some (.d (.lst ds)), some (.d (.lst (somes os))), none], st ce k t2⟩
  have hb : bOf (eOp2 (two fEq) (eCall (F__law_draw n) (aCons (eVar 0) (aCons (eC (.int 2)) aNil))) (eC (.int 0))) s2 = .ok (d == 0) s3 := bOf_ok (op2_ok (call_ok (arg2 (x_var (i := 0) rfl) x_C) d1) x_C rfl)
  unfold F__law_handed b__law_handed
  have e2 : _ = Fl.nx s2 := set_ok (i := 2) l1
  by_cases h0 : (d == 0) = true
  · refine ⟨.lst (somes os), somes os, t2, ?_, rfl, hg, d4.mono (by omega)⟩
    rw [seq_nx e2, ret_ok (show eIf _ _ _ s2 = .ok _ s3 from (eIf_ok hb).trans ((if_pos h0).trans (x_var (i := 2) rfl)))]
    exact shutS (x := []) ok (List.append_nil _).symm
  · refine ⟨.tup (somes os), somes os, t2, ?_, rfl, hg, d4.mono (by omega)⟩
    rw [seq_nx e2, ret_ok (show eIf _ _ _ s2 = .ok _ s3 from (eIf_ok hb).trans ((if_neg h0).trans (opN_ok (arg1 (x_var (i := 2) rfl)) rfl)))]
    exact shutS (x := []) ok (List.append_nil _).symm
theorem q_prices {m : Nat} (ok : Ok ce) (hk : k < ce.length) (g : Good N t) (hN : N < 500000) (hm0 : 1 ≤ m) (hm : m ≤ 3) :
    ∃ (p : List Int) (t' : Dr), F__law_prices n [.c k, .d (.int m)] (st ce k t) = .ok (.d (.lst (p.map .int))) ⟨[], st ce k t'⟩ ∧ p.length = m ∧ (∀ x ∈ p, 0 ≤ x ∧ x ≤ 1000000000) ∧ (∃ x ∈ p, 0 < x) ∧ Good (N + 20) t' := by
  let pl : List D := [.int 0, .int 1, .int 2, .int 3, .int 7, .int 100, .int 1000000000]
  obtain ⟨os, t1, l1, l2, l3⟩ := eLcC_run (s := entry 4 [.c k, .d (.int m)] (st ce k t)) (vs := [3]) (p := .nm 3) (fi := iRange1 (aCons (eVar 1) aNil)) (ft := bYes) (fe := eCall (F__law_pick n) (aCons (eVar 0) (aCons (eLst (aCons (eC (.int 0)) (aCons (eC (.int 1)) (aCons (eC (.int 2)) (aCons (eC (.int 3)) (aCons (eC (.int 7)) (aCons (eC (.int 100)) (aCons (eOp2 (two fPow) (eC (.int 10)) (eC (.int 9))) aNil)))))))) aNil))) (sl := [some (.c k), some (.d (.int m)), none, none]) (fun t => st ce k t) t
    (iRange_ok (arg1 (x_var (i := 1) rfl)) (by omega)) (fun _ => by rw [st_len, st_len]) (fun _ _ => stay_nil) (fun i t => Good (N + i) t) (fun _ o => ∃ x, o = some (.int x) ∧ (0 ≤ x ∧ x ≤ 1000000000)) (fun w hw i t acc hM hi => by
      obtain ⟨j, _, rfl⟩ := List.mem_map.mp hw
      simp only [List.length_map, List.length_range] at hM
      obtain ⟨x, t', h1, h2, h3⟩ := q_pick (n := n) (w := .d (.lst pl)) (ds := pl) (ce := ce ++ [some (.lst (acc.map .d))]) (k := k) (ok.snocD acc) (by rw [List.length_append]; omega) hi (by omega) (SeqW.lst pl) (by decide) (by decide)
      rw [st_app hk, st_app hk] at h1
      have : ∃ y, x = .int y ∧ 0 ≤ y ∧ y ≤ 1000000000 := by
        simp only [pl, List.mem_cons, List.not_mem_nil, or_false] at h2
        rcases h2 with rfl | rfl | rfl | rfl | rfl | rfl | rfl <;> exact ⟨_, rfl, by decide, by decide⟩
      obtain ⟨y, rfl, y0, y1⟩ := this
      refine ⟨[(3, .d (.int j))], some (.int y), t', rfl, rfl, h3, ⟨y, rfl, y0, y1⟩, _, _, rfl, call_ok (arg2 (x_var (i := 0) rfl) (lst_ok (ds := pl) (cons_ok x_C (cons_ok x_C (cons_ok x_C (cons_ok x_C (cons_ok x_C (arg2 x_C (op2_ok x_C x_C pow9))))))) rfl (small_le (by decide)))) h1, rfl⟩) g (by simp only [List.length_map, List.length_range]; exact small_le (by omega))
  obtain ⟨p, e1, e2, e3⟩ := each_ints l3
  simp only [List.length_map, List.length_range] at e2 l2
  rw [e1] at l1
  obtain ⟨d, t2, d1, d2, d3, d4⟩ := q_draw (n := n) (m := 12) (ce := ce ++ [some (.lst ((p.map D.int).map .d))]) (k := k) (ok.snocD _) (by rw [List.length_append]; omega) l2 (by omega) (by decide) (by decide)
  obtain ⟨i, t3, i1, i2, i3, i4⟩ := q_draw (n := n) (m := m) (ce := ce ++ [some (.lst ((p.map D.int).map .d))]) (k := k) (ok.snocD _) (by rw [List.length_append]; omega) d4 (by omega) (by omega) (by omega)
  rw [st_app hk, st_app hk] at d1 i1
  have hj : ixN (((p.map D.int).map W.d).length) i = some i.toNat := by
    unfold ixN
    rw [if_pos i2, if_pos (by rw [List.length_map, List.length_map, e2]; exact i3)]
  let s2 : S := ⟨[some (.c k), some (.d (.int m)), some (.c ce.length), none], st ce k t1 ++ [some (.lst ((p.map D.int).map .d))]⟩
  have hset : sSet 2 (eLcC [3] (.nm 3) (iRange1 (aCons (eVar 1) aNil)) bYes (eCall (F__law_pick n) (aCons (eVar 0) (aCons (eLst (aCons (eC (.int 0)) (aCons (eC (.int 1)) (aCons (eC (.int 2)) (aCons (eC (.int 3)) (aCons (eC (.int 7)) (aCons (eC (.int 100)) (aCons (eOp2 (two fPow) (eC (.int 10)) (eC (.int 9))) aNil)))))))) aNil)))) (entry 4 [.c k, .d (.int m)] (st ce k t)) = .nx s2 := by
    rw [set_ok l1]
    show Fl.nx ⟨[some (.c k), some (.d (.int m)), some (.c (st ce k t).length), none], _⟩ = _
    rw [st_len]
  have hput : sSetZ (eVar 2) (eCall (F__law_draw n) (aCons (eVar 0) (aCons (eVar 1) aNil))) (eOp2 (two fAdd) (eC (.int 1)) (eCall (F__law_draw n) (aCons (eVar 0) (aCons (eC (.int 12)) aNil)))) s2 = .nx ⟨s2.sl, (st ce k t3 ++ [some (Cell.lst ((p.map D.int).map W.d))]).set ce.length (some (Cell.lst (((p.map D.int).map W.d).set i.toNat (W.d (.int (1 + d))))))⟩ :=
    setZ_ok (v := .d (.int (1 + d))) (i := i) (op2_ok x_C (call_ok (arg2 (x_var (s := s2) (i := 0) rfl) x_C) d1) rfl) (x_var (i := 2) rfl) (call_ok (arg2 (x_var (i := 0) rfl) (x_var (i := 1) rfl)) i1) (last_get st_len) hj
  rw [last_set st_len, show ((p.map D.int).map W.d).set i.toNat (.d (.int (1 + d))) = ((p.set i.toNat (1 + d)).map D.int).map W.d by rw [List.map_set, List.map_set]] at hput
  have hr := ret_ok (frz_ok (fa := eVar 2) (s := ⟨s2.sl, st ce k t3 ++ [some (.lst (((p.set i.toNat (1 + d)).map D.int).map .d))]⟩) (ds := (p.set i.toNat (1 + d)).map D.int) (x_var rfl) (last_get st_len))
  refine ⟨p.set i.toNat (1 + d), t3, ?_, by rw [List.length_set]; exact e2, fun x hx => ?_, ⟨1 + d, List.mem_set (by omega) _, by omega⟩, i4.mono (by omega)⟩
  · unfold F__law_prices b__law_prices
    rw [seq_nx hset, seq_nx hput, hr]
    exact shutS (x := [none]) ok (last_set st_len)
  · rcases List.mem_or_eq_of_mem_set hx with h | h
    · exact e3 x h
    · omega
end G

set_option maxHeartbeats 1000000
namespace G
open PySem PySem.Spec PyProof.Rows L2 VL
variable {n : Nat} {ce : List (Option Cell)} {k N : Nat} {t : Dr}
/-! ### the program of no rules -/
abbrev progD : D := .ins "Program" ["_sorts", "_rules"] [.tup [.str "flat"], .tup []]
theorem q_are_sorts (ok : Ok ce) : F_are_sorts n [.d (.lst [.str "flat"])] ce = .ok (.d (.bl true)) ⟨[], ce⟩ := by
  let s : S := entry 2 [.d (.lst [.str "flat"])] ce
  have hl : eOpN lenN (aCons (eVar 0) aNil) s = .ok (.d (.int 1)) s := opN_ok (arg1 (x_var (i := 0) rfl)) rfl
  have h2 : eChain (two fLe) (two fLe) (eC (.int 1)) (eOpN lenN (aCons (eVar 0) aNil)) (eC (.int 3)) s = .ok (.d (.bl true)) s := by
    unfold eChain
    rw [x_C]; simp only [Out.bind_ok]; rw [hl]; rfl
  have e := eLc_pure (s := s) (vs := [1]) (p := .nm 1) (fi := iSeq (eVar 0)) (ft := bYes) (fe := eOp2 (inZ false) (eVar 1) (eTup (aCons (eC (.str "flat")) (aCons (eC (.str "high")) aNil)))) (iSeq_ok (x_var (i := 0) rfl) rfl) (fun _ => some (.bl true)) (fun _ => stay_nil) (fun w hw c hc => by
    obtain ⟨x, hx, rfl⟩ := List.mem_map.mp hw
    rw [List.mem_singleton.mp hx]
    refine ⟨[(1, .d (.str "flat"))], rfl, rfl, _, _, rfl, op2_ok (x_var (i := 1) rfl) (tup_ok (ds := [.str "flat", .str "high"]) (arg2 x_C x_C) rfl (small_le (by decide))) ?_, rfl⟩
    show fInY false (.str "flat") (.tuple [.str "flat", .str "high"]) = _
    unfold fInY
    simp only
    rw [if_pos ⟨by decide +kernel, by decide +kernel⟩]
    exact congrArg some (congrArg D.bl (by decide +kernel))) (small_le (by decide)) ok
  refine tells ok (s' := s) ?_
  have h1 : eCall (F_is_list n) (aCons (eVar 0) aNil) s = .ok (.d (.bl true)) s := call_ok (arg1 (x_var (i := 0) rfl)) (q_is_list (d := .lst [.str "flat"]) ok rfl)
  refine (eAnd_ok h1).trans ((if_pos rfl).trans ((eAnd_ok h2).trans ((if_pos rfl).trans (opN_ok (o := one fAll) (d := .bl true) (arg1 e) rfl))))
theorem setAttr_ok {cs : List Str} {f c : Str} {fo fe : S → Out W} {s s1 s2 : S} {v : W} {j : Nat} {ns : List Str} {ws : List W} (h1 : fe s = .ok v s1) (h2 : fo s1 = .ok (.c j) s2) (h3 : s2.ce[j]? = some (some (.ins c ns ws))) (h4 : c ∈ cs) (h5 : ns.length < 1000) :
    sSetAttr cs f fo fe s = .nx ⟨s2.sl, s2.ce.set j (some (.ins c (putNs f ns) (putWs f v ns ws)))⟩ := by
  unfold sSetAttr
  rw [h1]; simp only [Out.then]; rw [h2]; simp only [h3]
  rw [if_pos ⟨h4, h5⟩]
theorem q_init (ok : Ok ce) : F_Program___init__ n [.c ce.length, .d (.lst [.str "flat"]), .d (.lst [])] (ce ++ [some (.ins "Program" [] [])]) = .ok (.d .non) ⟨[], ce ++ [some (.ins "Program" ["_sorts", "_rules"] [.d (.tup [.str "flat"]), .d (.tup [])])]⟩ := by
  let c0 := ce ++ [some (Cell.ins "Program" [] [])]
  have ok0 : Ok c0 := ok.snoc rfl
  let s : S := entry 5 [.c ce.length, .d (.lst [.str "flat"]), .d (.lst [])] c0
  have e1 : sIf (bNot (bTru (eCall (F_are_sorts n) (aCons (eVar 1) aNil)))) (sRaise1 "BadSorts" "sorts" (eVar 1)) sNext s = .nx s :=
    (if_ok (bNot_ok (bTru_bl (call_ok (arg1 (x_var (i := 1) rfl)) (q_are_sorts ok0))))).trans rfl
  have e2 : sIf (bNot (bTru (eCall (F_is_list n) (aCons (eVar 2) aNil)))) (sRaise1 "BadRule" "index" (eC (.int 0))) sNext s = .nx s :=
    (if_ok (bNot_ok (bTru_bl (call_ok (arg1 (x_var (i := 2) rfl)) (q_is_list ok0 rfl))))).trans rfl
  have e3 : sFor (.tp [(.nm 3), (.nm 4)]) (iEnum (aCons (eVar 2) aNil)) (sIf (bNot (bTru (eCall (F_is_rule_of n) (aCons (eVar 1) (aCons (eVar 4) aNil))))) (sRaise1 "BadRule" "index" (eVar 3)) sNext) s = .nx s := by
    rw [for_ok (iEnum_ok (arg1 (x_var (i := 2) rfl)) rfl)]
    show loopF _ [] _ [] s = _
    unfold loopF
    rw [if_pos stay_nil]
  have e4 := setAttr_ok (cs := ["Program"]) (f := "_sorts") (fo := eVar 0) (fe := eOpN (one fTuple) (aCons (eVar 1) aNil)) (s := s) (opN_ok (arg1 (x_var (i := 1) rfl)) rfl) (x_var (i := 0) rfl) (last_get rfl) (by decide) (by decide)
  rw [show s.ce = ce ++ [some (Cell.ins "Program" [] [])] from rfl, last_set rfl] at e4
  let s1 : S := ⟨s.sl, ce ++ [some (.ins "Program" ["_sorts"] [.d (.tup [.str "flat"])])]⟩
  have ok1 : Ok s1.ce := ok.snoc rfl
  have el := eLc_pure (s := s1) (vs := [4]) (p := .nm 4) (fi := iSeq (eVar 2)) (ft := bYes) (fe := eCall (F_as_tuples n) (aCons (eVar 4) aNil)) (iSeq_ok (x_var (i := 2) rfl) rfl) (fun _ => none) (fun _ => stay_nil) (fun w hw c hc => by cases hw) (small_le (by decide)) ok1
  have e5 := setAttr_ok (cs := ["Program"]) (f := "_rules") (fo := eVar 0) (fe := eOpN (one fTuple) (aCons (eLc [4] (.nm 4) (iSeq (eVar 2)) bYes (eCall (F_as_tuples n) (aCons (eVar 4) aNil))) aNil)) (s := s1) (opN_ok (arg1 el) rfl) (x_var (i := 0) rfl) (last_get rfl) (by decide) (by decide)
  rw [show s1.ce = ce ++ [some (Cell.ins "Program" ["_sorts"] [.d (.tup [.str "flat"])])] from rfl, last_set rfl] at e5
  let s2 : S := ⟨s.sl, ce ++ [some (.ins "Program" ["_sorts", "_rules"] [.d (.tup [.str "flat"]), .d (.tup [])])]⟩
  have e5' : _ = Fl.nx s2 := e5
  unfold F_Program___init__ b_Program___init__
  rw [seq_nx (show _ = Fl.nx s from e1), seq_nx (show _ = Fl.nx s from e2), seq_nx (show _ = Fl.nx s from e3), seq_nx (show _ = Fl.nx s1 from e4), show _ = Fl.nx s2 from e5']
  have hk : s2.ce.take (ce ++ [some (Cell.ins "Program" [] [])]).length = s2.ce := List.take_of_length_le (by rw [List.length_append, List.length_append]; exact Nat.le_refl _)
  have hf : Fits (ce ++ [some (Cell.ins "Program" [] [])]).length s2.ce = true := by
    have : Ok s2.ce := ok.snoc rfl
    unfold Ok at this
    rw [show s2.ce.length = (ce ++ [some (Cell.ins "Program" [] [])]).length by rw [List.length_append, List.length_append]; rfl] at this
    exact this
  unfold shut
  simp only
  rw [hk, if_pos hf]
theorem q_make {s : S} (ok : Ok s.ce) : eMake "Program" (F_Program___init__ n) (aCons (eLst (aCons (eC (.str "flat")) aNil)) (aCons (eLst aNil) aNil)) s = .ok (.d progD) s := by
  have ha : aCons (eLst (aCons (eC (.str "flat")) aNil)) (aCons (eLst aNil) aNil) s = .ok [.d (.lst [.str "flat"]), .d (.lst [])] s := arg2 (lst_ok (ds := [.str "flat"]) (arg1 x_C) rfl (small_le (by decide))) (lst_ok (ds := []) x_nil rfl (small_le (by decide)))
  unfold eMake
  rw [ha]
  simp only [Out.bind_ok]
  rw [q_init ok]
  unfold frzI
  simp only
  rw [last_get rfl]
  simp only
  rw [List.take_left' rfl]
  rw [if_pos ⟨by decide, ok⟩]
  rfl
abbrev oddL : List D := [.non, .bl true, .int 5, .int (-1), .str "ab", .str "", .lst [], .tup [], .tup [.int 1, .int 2, .int 3, .int 4], .lst [.int 0, .int (-1)], .tup [.int 1, .bl true], .tup [.bl false], .lst [.lst [.int 1], .lst [.int 2]], .dic [] [], .dic [.int 1] [.int 2],
  .tup [.int 1, .non], .tup [.str "1", .str "2"], .lst [.int 1, .str "1", .int 1], .tup [.int 0, .tup [.int 1]], .lst [.int (-1)], .tup [.int 2, .int 3, .int (-4)], .glob "_law_dot", progD]
theorem q_odd (ok : Ok ce) (hk : k < ce.length) (g : Good N t) (hN : N < 500000) :
    ∃ x t', F__law_odd n [.c k] (st ce k t) = .ok (.d x) ⟨[], st ce k t'⟩ ∧ x ∈ oddL ∧ Good (N + 1) t' := by
  obtain ⟨x, t', h1, h2, h3⟩ := q_pick (n := n) (w := .d (.lst oddL)) (ds := oddL) ok hk g (by omega) (SeqW.lst oddL) (by decide) (by decide)
  refine ⟨x, t', ?_, h2, h3⟩
  let s : S := entry 2 [.c k] (st ce k t)
  have ng : ∀ (i : Int) (s : S), eOp1 (un fNeg) (eC (.int i)) s = .ok (.d (.int (-i))) s := fun i s => op1_ok x_C rfl
  have z : ∀ {m : Nat}, m ≤ 1000 → m ≤ sizeLine := small_le
  unfold F__law_odd b__law_odd
  have e1 : sSet 1 (eLst (aCons (eC .non) (aCons (eC (.bl true)) (aCons (eC (.int 5)) (aCons (eOp1 (un fNeg) (eC (.int 1))) (aCons (eC (.str "ab")) (aCons (eC (.str "")) (aCons (eLst aNil) (aCons (eTup aNil) (aCons (eTup (aCons (eC (.int 1)) (aCons (eC (.int 2)) (aCons (eC (.int 3)) (aCons (eC (.int 4)) aNil))))) (aCons (eLst (aCons (eC (.int 0)) (aCons (eOp1 (un fNeg) (eC (.int 1))) aNil))) (aCons (eTup (aCons (eC (.int 1)) (aCons (eC (.bl true)) aNil))) (aCons (eTup (aCons (eC (.bl false)) aNil)) (aCons (eLst (aCons (eLst (aCons (eC (.int 1)) aNil)) (aCons (eLst (aCons (eC (.int 2)) aNil)) aNil))) (aCons (eC (.dic [] [])) (aCons (eC (.dic [(.int 1)] [(.int 2)])) aNil)))))))))))))))) s = .nx ⟨[some (.c k), some (.d (.lst (oddL.take 15)))], st ce k t⟩ :=
    set_ok (s' := s) (lst_ok (ds := oddL.take 15) (cons_ok x_C (cons_ok x_C (cons_ok x_C (cons_ok (ng 1 s) (cons_ok x_C (cons_ok x_C (cons_ok (lst_ok (ds := []) x_nil rfl (z (by decide))) (cons_ok (tup_ok (ds := []) x_nil rfl (z (by decide))) (cons_ok (tup_ok (ds := [.int 1, .int 2, .int 3, .int 4]) (cons_ok x_C (cons_ok x_C (arg2 x_C x_C))) rfl (z (by decide))) (cons_ok (lst_ok (ds := [.int 0, .int (-1)]) (arg2 x_C (ng 1 s)) rfl (z (by decide))) (cons_ok (tup_ok (ds := [.int 1, .bl true]) (arg2 x_C x_C) rfl (z (by decide))) (cons_ok (tup_ok (ds := [.bl false]) (arg1 x_C) rfl (z (by decide))) (cons_ok (lst_ok (ds := [.lst [.int 1], .lst [.int 2]]) (arg2 (lst_ok (ds := [.int 1]) (arg1 x_C) rfl (z (by decide))) (lst_ok (ds := [.int 2]) (arg1 x_C) rfl (z (by decide)))) rfl (z (by decide))) (arg2 x_C x_C)))))))))))))) rfl (z (by decide)))
  let s1 : S := ⟨[some (.c k), some (.d (.lst (oddL.take 15)))], st ce k t⟩
  have e2 : sSet 1 (eOp2 (two fAdd) (eVar 1) (eLst (aCons (eTup (aCons (eC (.int 1)) (aCons (eC .non) aNil))) (aCons (eTup (aCons (eC (.str "1")) (aCons (eC (.str "2")) aNil))) (aCons (eLst (aCons (eC (.int 1)) (aCons (eC (.str "1")) (aCons (eC (.int 1)) aNil)))) (aCons (eTup (aCons (eC (.int 0)) (aCons (eTup (aCons (eC (.int 1)) aNil)) aNil))) (aCons (eLst (aCons (eOp1 (un fNeg) (eC (.int 1))) aNil)) (aCons (eTup (aCons (eC (.int 2)) (aCons (eC (.int 3)) (aCons (eOp1 (un fNeg) (eC (.int 4))) aNil)))) aNil)))))))) s1 = .nx ⟨[some (.c k), some (.d (.lst (oddL.take 21)))], st ce k t⟩ := by
    refine set_ok (s' := s1) (op2_ok (x_var (i := 1) rfl) (lst_ok (ds := (oddL.drop 15).take 6) (cons_ok (tup_ok (ds := [.int 1, .non]) (arg2 x_C x_C) rfl (z (by decide))) (cons_ok (tup_ok (ds := [.str "1", .str "2"]) (arg2 x_C x_C) rfl (z (by decide))) (cons_ok (lst_ok (ds := [.int 1, .str "1", .int 1]) (cons_ok x_C (arg2 x_C x_C)) rfl (z (by decide))) (cons_ok (tup_ok (ds := [.int 0, .tup [.int 1]]) (arg2 x_C (tup_ok (ds := [.int 1]) (arg1 x_C) rfl (z (by decide)))) rfl (z (by decide))) (arg2 (lst_ok (ds := [.int (-1)]) (arg1 (ng 1 s1)) rfl (z (by decide))) (tup_ok (ds := [.int 2, .int 3, .int (-4)]) (cons_ok x_C (arg2 x_C (ng 4 s1))) rfl (z (by decide)))))))) rfl (z (by decide))) ?_)
    show fAdd (.lst (oddL.take 15)) (.lst ((oddL.drop 15).take 6)) = _
    simp only [fAdd]
    rw [if_pos (z (by decide))]
    rfl
  let s2 : S := ⟨[some (.c k), some (.d (.lst (oddL.take 21)))], st ce k t⟩
  let s3 : S := ⟨[some (.c k), some (.d (.lst (oddL.take 21)))], st ce k t'⟩
  have e3 : eCall (F__law_pick n) (aCons (eVar 0) (aCons (eOp2 (two fAdd) (eVar 1) (eLst (aCons (eC (.glob "_law_dot")) (aCons (eMake "Program" (F_Program___init__ n) (aCons (eLst (aCons (eC (.str "flat")) aNil)) (aCons (eLst aNil) aNil))) aNil)))) aNil)) s2 = .ok (.d x) s3 := by
    refine call_ok (arg2 (x_var (i := 0) rfl) (op2_ok (d := .lst oddL) (x_var (i := 1) rfl) (lst_ok (ds := [.glob "_law_dot", progD]) (arg2 x_C (q_make (st_ok ok))) rfl (z (by decide))) ?_)) h1
    show fAdd (.lst (oddL.take 21)) (.lst [.glob "_law_dot", progD]) = _
    simp only [fAdd]
    rw [if_pos (z (by decide))]
    rfl
  rw [seq_nx (show _ = Fl.nx s1 from e1), seq_nx (show _ = Fl.nx s2 from e2), ret_ok e3]
  exact shutS (x := []) ok (List.append_nil _).symm
end G

set_option maxHeartbeats 1000000
namespace G
open PySem PySem.Spec PyProof.Rows L2 VL
variable {n : Nat} {ce : List (Option Cell)} {k N : Nat} {t : Dr}
/-! ### what stands for data -/
mutual
inductive Std (ce : List (Option Cell)) : W → D → Prop
  | d (x : D) : Std ce (.d x) x
  | c {j : Nat} {ws : List W} {ds : List D} : ce[j]? = some (some (.lst ws)) → StdL ce ws ds → Std ce (.c j) (.lst ds)
inductive StdL (ce : List (Option Cell)) : List W → List D → Prop
  | nil : StdL ce [] []
  | cons {w : W} {ws : List W} {d : D} {ds : List D} : Std ce w d → StdL ce ws ds → StdL ce (w :: ws) (d :: ds)
end
theorem stdL_map (ce : List (Option Cell)) : ∀ ds : List D, StdL ce (ds.map W.d) ds
  | [] => .nil
  | d :: ds => .cons (.d d) (stdL_map ce ds)
theorem stdL_len : ∀ {ws : List W} {ds : List D}, StdL ce ws ds → ws.length = ds.length
  | _, _, .nil => rfl
  | _, _, .cons _ h => by simp only [List.length_cons, stdL_len h]
mutual
theorem Std.app (x : List (Option Cell)) : ∀ {w : W} {d : D}, Std ce w d → Std (ce ++ x) w d
  | _, _, .d y => .d y
  | _, _, .c h1 h2 => .c (by rw [List.getElem?_append_left (List.getElem?_eq_some_iff.mp h1).1]; exact h1) (h2.app x)
theorem StdL.app (x : List (Option Cell)) : ∀ {ws : List W} {ds : List D}, StdL ce ws ds → StdL (ce ++ x) ws ds
  | _, _, .nil => .nil
  | _, _, .cons h1 h2 => .cons (h1.app x) (h2.app x)
end
theorem stdL_mem : ∀ {ws : List W} {ds : List D}, StdL ce ws ds → ∀ p ∈ ws.zip ds, Std ce p.1 p.2 ∧ p.2 ∈ ds
  | _, _, .nil => fun p h => by cases h
  | _, _, .cons h1 h2 => fun p h => by
    simp only [List.zip_cons_cons, List.mem_cons] at h
    rcases h with rfl | h
    · exact ⟨h1, List.mem_cons_self⟩
    · exact ⟨(stdL_mem h2 p h).1, List.mem_cons_of_mem _ (stdL_mem h2 p h).2⟩
theorem Std.tz {w : W} {d : D} (h : Std ce w d) : tyZ ce w = tyZ ce (.d d) := by
  cases h with
  | d => rfl
  | c h1 _ => simp only [tyZ, insW, h1, tyW, tyD]
theorem Std.seq {w : W} {d : D} (h : Std ce w d) {ds : List D} (e : seqD d = some ds) : ∃ ws p, seqW w ce = some (ws, p) ∧ StdL ce ws ds ∧ (∀ x, Stay p (ce ++ x)) ∧ lenN ce [w] = some (.int (ds.length : Nat)) := by
  cases h with
  | d =>
    refine ⟨ds.map .d, [], ?_, stdL_map ce ds, fun _ => stay_nil, seq_len e⟩
    cases d <;> simp only [seqD, Option.some.injEq, reduceCtorEq] at e <;> subst e <;> rfl
  | c h1 h2 =>
    simp only [seqD, Option.some.injEq] at e
    subst e
    refine ⟨_, _, by simp only [seqW, h1]; rfl, h2, fun x => ?_, ?_⟩
    · intro p hp
      rw [List.mem_singleton.mp hp]
      show (ce ++ x)[_]? = _
      rw [List.getElem?_append_left (List.getElem?_eq_some_iff.mp h1).1]; exact h1
    · simp only [lenN, h1, stdL_len h2]
/-- things that are the same as themselves, told in m calls -/
inductive Sm : Nat → D → Prop
  | non {m} : Sm (m + 1) .non
  | bl {m} (b : Bool) : Sm (m + 1) (.bl b)
  | int {m} (i : Int) : Sm (m + 1) (.int i)
  | str {m} (x : Str) : Sm (m + 1) (.str x)
  | glob {m} (x : Str) : Sm (m + 1) (.glob x)
  | ins {m} : Sm (m + 1) progD
  | lst {m} {ds : List D} : ds.length ≤ 1000 → (∀ x ∈ ds, Sm m x) → Sm (m + 1) (.lst ds)
  | tup {m} {ds : List D} : ds.length ≤ 1000 → (∀ x ∈ ds, Sm m x) → Sm (m + 1) (.tup ds)
  | dic {m} {ks ds : List D} {kk : List Key} : keysK ks = some kk → ks.length = ds.length → Sm m (.lst (pairsD ks ds)) → Sm (m + 1) (.dic ks ds)
theorem isi_w {s : S} {w : W} {d : D} {z : TZ} {i : Nat} {ys : List TZ} (hs : s.sl[i]? = some (some w)) (h : Std s.ce w d) (hz : tyZ s.ce (.d d) = some z) (ho : ownZ OWN z = true) : eIsiZ OWN ys (eVar i) s = .ok (.d (.bl (ys.any (isZ z)))) s :=
  isi_ok (x_var hs) (h.tz.trans hz) ho
theorem eqZ_ok {c : Str} {G : Fn} {fa fb : S → Out W} {s s1 s2 : S} {x y : W} {b : Bool} {c2 : List (Option Cell)} (h1 : fa s = .ok x s1) (h2 : fb s1 = .ok y s2) (h3 : eqC c G s2.ce x y = some (b, c2)) : eEqZ c G fa fb s = .ok (.d (.bl b)) ⟨s2.sl, c2⟩ := by
  unfold eEqZ
  rw [h1]; simp only [Out.bind_ok]; rw [h2]; simp only [Out.bind_ok]; rw [h3]
theorem ne_bl {c : List (Option Cell)} (a : Bool) : two fNe c (.d (.bl a)) (.d (.bl a)) = some (.bl false) := by cases a <;> rfl
theorem eqC_bl {c : Str} {G : Fn} {e : List (Option Cell)} (a : Bool) : eqC c G e (.d (.bl a)) (.d (.bl a)) = some (true, e) := by cases a <;> rfl
theorem eqC_int {c : Str} {G : Fn} {e : List (Option Cell)} (a : Int) : eqC c G e (.d (.int a)) (.d (.int a)) = some (true, e) := by
  show (match some (D.bl (a == a)) with | some (.bl b) => some (b, e) | _ => none) = _
  rw [beq_self_eq_true]
theorem eqC_str {c : Str} {G : Fn} {e : List (Option Cell)} (a : Str) : eqC c G e (.d (.str a)) (.d (.str a)) = some (true, e) := by
  show (match some (D.bl (a == a)) with | some (.bl b) => some (b, e) | _ => none) = _
  rw [beq_self_eq_true]
theorem eqC_glob {c : Str} {G : Fn} {e : List (Option Cell)} (a : Str) : eqC c G e (.d (.glob a)) (.d (.glob a)) = some (true, e) := by
  show (if a = a then some (true, e) else none) = _
  rw [if_pos rfl]
theorem q_peq (ok : Ok ce) : F_Program___eq__ n [.d progD, .d progD] ce = .ok (.d (.bl true)) ⟨[], ce⟩ := by
  let s : S := entry 2 [.d progD, .d progD] ce
  have a0 : ∀ i : Nat, i < 2 → eAttr ["Program"] "_sorts" (eVar i) s = .ok (.d (.tup [.str "flat"])) s := fun i hi => by
    have : i = 0 ∨ i = 1 := by omega
    rcases this with rfl | rfl <;> rfl
  have a1 : ∀ i : Nat, i < 2 → eAttr ["Program"] "_rules" (eVar i) s = .ok (.d (.tup [])) s := fun i hi => by
    have : i = 0 ∨ i = 1 := by omega
    rcases this with rfl | rfl <;> rfl
  have h0 : eIsiZ OWN [.inr "Program"] (eVar 1) s = .ok (.d (.bl true)) s := by
    rw [isi_ok (z := .inr "Program") (x_var (s := s) (i := 1) rfl) rfl (by decide +kernel)]
    exact congrArg (fun b => Out.ok (W.d (.bl b)) s) (by decide +kernel)
  have h1 : eOp2 (two fEq) (eAttr ["Program"] "_sorts" (eVar 0)) (eAttr ["Program"] "_sorts" (eVar 1)) s = .ok (.d (.bl true)) s := op2_ok (a0 0 (by omega)) (a0 1 (by omega)) (by
    show fEqD (.tup [.str "flat"]) (.tup [.str "flat"]) = _
    unfold fEqD
    show (if SeqAt.shaped (.tuple [.str "flat"]) = true ∧ SeqAt.shaped (.tuple [.str "flat"]) = true then _ else _) = _
    rw [if_pos ⟨by decide +kernel, by decide +kernel⟩]
    exact congrArg some (congrArg D.bl (by decide +kernel)))
  have h2 : eOp2 (two fEq) (eAttr ["Program"] "_rules" (eVar 0)) (eAttr ["Program"] "_rules" (eVar 1)) s = .ok (.d (.bl true)) s := op2_ok (a1 0 (by omega)) (a1 1 (by omega)) rfl
  exact tells ok (s' := s) ((eAnd_ok h0).trans ((if_pos rfl).trans ((eAnd_ok h1).trans ((if_pos rfl).trans h2))))
theorem eqC_prog {e : List (Option Cell)} (ok : Ok e) : eqC "Program" (F_Program___eq__ n) e (.d progD) (.d progD) = some (true, e) := by
  show (if (("Program" : Str) = "Program" ∧ ("Program" : Str) = "Program") then boolC (F_Program___eq__ n [.d progD, .d progD] e) else none) = _
  rw [if_pos ⟨rfl, rfl⟩, q_peq ok]
  rfl
theorem somes_true {α : Type} (xs : List α) : somes (xs.map fun _ => some (D.bl true)) = (xs.map fun _ => true).map D.bl := by
  induction xs with
  | nil => rfl
  | cons x r ih => simp only [List.map_cons, somes, ih]
theorem all_true {α : Type} (xs : List α) : (xs.map fun _ => true).all id = true := by
  induction xs with
  | nil => rfl
  | cons x r ih => simp only [List.map_cons, List.all_cons, id, ih, Bool.and_self]
theorem q_same : ∀ (m : Nat) (d : D) (w : W) (ce : List (Option Cell)), Ok ce → Std ce w d → Sm m d → F__law_same n m [w, .d d] ce = .ok (.d (.bl true)) ⟨[], ce⟩
  | 0, _, _, _, _, _, h => by cases h
  | m + 1, d, w, ce, ok, hw, h => by
    let s : S := entry 4 [w, .d d] ce
    have v0 : s.sl[0]? = some (some w) := rfl
    have v1 : s.sl[1]? = some (some (.d d)) := rfl
    have fin : ∀ {f : S → Fl}, f s = .rt (.d (.bl true)) s → shut ce.length (f s) = .ok (.d (.bl true)) ⟨[], ce⟩ := fun e => by
      rw [e]; exact shut_rt List.take_length ok
    have goal : b__law_same (F__law_same n m) n s = .rt (.d (.bl true)) s → F__law_same n (m + 1) [w, .d d] ce = .ok (.d (.bl true)) ⟨[], ce⟩ := fun e => by
      show shut ce.length (b__law_same (F__law_same n m) n s) = _
      rw [e]; exact shut_rt List.take_length ok
    refine goal ?_
    -- a list or a tuple
    have seq : ∀ (ds : List D) (z : TZ), seqD d = some ds → ds.length ≤ 1000 → (∀ x ∈ ds, Sm m x) → tyZ ce (.d d) = some z → ownZ OWN z = true → ([.inl "list", .inl "tuple"] : List TZ).any (isZ z) = true → b__law_same (F__law_same n m) n s = .rt (.d (.bl true)) s := by
      intro ds z hd hz hs tz oz hl
      have i0 : ∀ ys, eIsiZ OWN ys (eVar 0) s = .ok (.d (.bl (ys.any (isZ z)))) s := fun ys => isi_w v0 hw tz oz
      have i1 : ∀ ys, eIsiZ OWN ys (eVar 1) s = .ok (.d (.bl (ys.any (isZ z)))) s := fun ys => isi_w v1 (.d d) tz oz
      obtain ⟨ws, p, h1, h2, h3, h4⟩ := hw.seq hd
      have hcond : bOr (bOf (eOp2 (two fNe) (eIsiZ OWN [.inl "list"] (eVar 0)) (eIsiZ OWN [.inl "list"] (eVar 1)))) (bOf (eOp2 (two fNe) (eIsiZ OWN [.inl "tuple"] (eVar 0)) (eIsiZ OWN [.inl "tuple"] (eVar 1)))) s = .ok false s :=
        (bOr_ok (bOf_ok (op2_ok (i0 _) (i1 _) (ne_bl _)))).trans ((if_neg Bool.false_ne_true).trans (bOf_ok (op2_ok (i0 _) (i1 _) (ne_bl _))))
      have hl0 : eOpN lenN (aCons (eVar 0) aNil) s = .ok (.d (.int (ds.length : Nat))) s := opN_ok (arg1 (x_var v0)) h4
      have hl1 : eOpN lenN (aCons (eVar 1) aNil) s = .ok (.d (.int (ds.length : Nat))) s := opN_ok (arg1 (x_var v1)) (seq_len hd)
      have heq : eEqZ "Program" (F_Program___eq__ n) (eOpN lenN (aCons (eVar 0) aNil)) (eOpN lenN (aCons (eVar 1) aNil)) s = .ok (.d (.bl true)) s := eqZ_ok hl0 hl1 (eqC_int _)
      have hseq1 : seqW (.d d) ce = some (ds.map .d, []) := by
        cases d <;> simp only [seqD, Option.some.injEq, reduceCtorEq] at hd <;> subst hd <;> rfl
      have el := eLc_pure (s := s) (sl := s.sl) (ce := ce) (vs := [2, 3]) (p := .tp [(.nm 2), (.nm 3)]) (fi := iZip (aCons (eVar 0) (aCons (eVar 1) aNil))) (ft := bYes) (fe := eCall (F__law_same n m) (aCons (eVar 2) (aCons (eVar 3) aNil))) (iZip_ok (arg2 (x_var v0) (x_var v1)) h1 hseq1) (fun _ => some (.bl true)) (fun acc => by rw [List.append_nil]; exact h3 _) (fun w' hw' c hc => by
        obtain ⟨⟨a, b⟩, hab, rfl⟩ := List.mem_map.mp hw'
        obtain ⟨acc, rfl⟩ := hc
        rw [List.zip_map_right] at hab
        obtain ⟨⟨a', x⟩, hx, e⟩ := List.mem_map.mp hab
        cases e
        obtain ⟨q1, q2⟩ := stdL_mem h2 _ hx
        exact ⟨[(2, a'), (3, .d x)], rfl, rfl, _, _, rfl, call_ok (arg2 (x_var (i := 2) rfl) (x_var (i := 3) rfl)) (q_same m x a' _ (ok.snocD acc) (q1.app _) (hs x q2)), rfl⟩) (by
        simp only [List.length_map, List.length_zip]
        exact small_le (by omega)) ok
      have hall : eOpN (one fAll) (aCons (eLc [2, 3] (.tp [(.nm 2), (.nm 3)]) (iZip (aCons (eVar 0) (aCons (eVar 1) aNil))) bYes (eCall (F__law_same n m) (aCons (eVar 2) (aCons (eVar 3) aNil)))) aNil) s = .ok (.d (.bl true)) s := by
        refine opN_ok (d := .bl true) (arg1 el) ?_
        show fAll (.lst _) = _
        rw [somes_true]
        simp only [fAll, bls_map, Option.map_some, all_true]
      have hA : sIf (bTru (eIsiZ OWN [.inl "list", .inl "tuple"] (eVar 1))) (sSeq (sIf (bOr (bOf (eOp2 (two fNe) (eIsiZ OWN [.inl "list"] (eVar 0)) (eIsiZ OWN [.inl "list"] (eVar 1)))) (bOf (eOp2 (two fNe) (eIsiZ OWN [.inl "tuple"] (eVar 0)) (eIsiZ OWN [.inl "tuple"] (eVar 1))))) (sRet (eC (.bl false))) sNext) (sRet (eAnd (eEqZ "Program" (F_Program___eq__ n) (eOpN lenN (aCons (eVar 0) aNil)) (eOpN lenN (aCons (eVar 1) aNil))) (eOpN (one fAll) (aCons (eLc [2, 3] (.tp [(.nm 2), (.nm 3)]) (iZip (aCons (eVar 0) (aCons (eVar 1) aNil))) bYes (eCall (F__law_same n m) (aCons (eVar 2) (aCons (eVar 3) aNil)))) aNil))))) sNext s = .rt (.d (.bl true)) s := by
        refine (if_ok (bTru_bl (i1 _))).trans ?_
        rw [hl, if_pos rfl]
        have h0 : sIf (bOr (bOf (eOp2 (two fNe) (eIsiZ OWN [.inl "list"] (eVar 0)) (eIsiZ OWN [.inl "list"] (eVar 1)))) (bOf (eOp2 (two fNe) (eIsiZ OWN [.inl "tuple"] (eVar 0)) (eIsiZ OWN [.inl "tuple"] (eVar 1))))) (sRet (eC (.bl false))) sNext s = .nx s := (if_ok hcond).trans rfl
        rw [seq_nx h0]
        exact ret_ok ((eAnd_ok heq).trans ((if_pos rfl).trans hall))
      unfold b__law_same
      exact seq_rt hA
    -- what is no list and no tuple
    have skip1 : ∀ (z : TZ) (f g : S → Fl), tyZ ce (.d d) = some z → ownZ OWN z = true → ([.inl "list", .inl "tuple"] : List TZ).any (isZ z) = false → sIf (bTru (eIsiZ OWN [.inl "list", .inl "tuple"] (eVar 1))) f sNext s = .nx s := by
      intro z f g tz oz hl
      refine (if_ok (bTru_bl (isi_w v1 (.d d) tz oz))).trans ?_
      rw [hl]; rfl
    have skip2 : ∀ (z : TZ) (f : S → Fl), tyZ ce (.d d) = some z → ownZ OWN z = true → ([.inl "dict"] : List TZ).any (isZ z) = false → sIf (bTru (eIsiZ OWN [.inl "dict"] (eVar 1))) f sNext s = .nx s := by
      intro z f tz oz hl
      refine (if_ok (bTru_bl (isi_w v1 (.d d) tz oz))).trans ?_
      rw [hl]; rfl
    have skip3 : ∀ (z : TZ) (f : S → Fl), tyZ ce (.d d) = some z → ownZ OWN z = true → ([.inl "int"] : List TZ).any (isZ z) = false → sIf (bTru (eIsiZ OWN [.inl "int"] (eVar 1))) f sNext s = .nx s := by
      intro z f tz oz hl
      refine (if_ok (bTru_bl (isi_w v1 (.d d) tz oz))).trans ?_
      rw [hl]; rfl
    have leaf : ∀ (z : TZ), w = .d d → tyZ ce (.d d) = some z → ownZ OWN z = true → ([.inl "list", .inl "tuple"] : List TZ).any (isZ z) = false → ([.inl "dict"] : List TZ).any (isZ z) = false → ([.inl "int"] : List TZ).any (isZ z) = false → ([.inl "int", .inl "list", .inl "tuple", .inl "dict"] : List TZ).any (isZ z) = false →
        eqC "Program" (F_Program___eq__ n) ce (.d d) (.d d) = some (true, ce) → b__law_same (F__law_same n m) n s = .rt (.d (.bl true)) s := by
      intro z hwd tz oz l1 l2 l3 l4 e
      unfold b__law_same
      rw [seq_nx (skip1 z _ sNext tz oz l1), seq_nx (skip2 z _ tz oz l2), seq_nx (skip3 z _ tz oz l3)]
      have i0 : eIsiZ OWN [.inl "int", .inl "list", .inl "tuple", .inl "dict"] (eVar 0) s = .ok (.d (.bl false)) s := by rw [isi_w v0 hw tz oz, l4]
      refine ret_ok ((eAnd_ok (eNot_ok i0)).trans ((if_pos rfl).trans (eqZ_ok (x_var v0) (x_var v1) ?_)))
      rw [hwd]; exact e
    have num : ∀ (z : TZ), w = .d d → tyZ ce (.d d) = some z → ownZ OWN z = true → ([.inl "list", .inl "tuple"] : List TZ).any (isZ z) = false → ([.inl "dict"] : List TZ).any (isZ z) = false → ([.inl "int"] : List TZ).any (isZ z) = true →
        eqC "Program" (F_Program___eq__ n) ce (.d d) (.d d) = some (true, ce) → b__law_same (F__law_same n m) n s = .rt (.d (.bl true)) s := by
      intro z hwd tz oz l1 l2 l3 e
      unfold b__law_same
      rw [seq_nx (skip1 z _ sNext tz oz l1), seq_nx (skip2 z _ tz oz l2)]
      refine seq_rt ?_
      refine (if_ok (bTru_bl (isi_w v1 (.d d) tz oz))).trans ?_
      rw [l3, if_pos rfl]
      have i0 : eIsiZ OWN [.inl "int"] (eVar 0) s = .ok (.d (.bl true)) s := by rw [isi_w v0 hw tz oz, l3]
      have ib : eEqZ "Program" (F_Program___eq__ n) (eIsiZ OWN [.inl "bool"] (eVar 0)) (eIsiZ OWN [.inl "bool"] (eVar 1)) s = .ok (.d (.bl true)) s := eqZ_ok (isi_w v0 hw tz oz) (isi_w v1 (.d d) tz oz) (eqC_bl _)
      refine ret_ok ((eAnd_ok i0).trans ((if_pos rfl).trans ((eAnd_ok ib).trans ((if_pos rfl).trans (eqZ_ok (x_var v0) (x_var v1) ?_)))))
      rw [hwd]; exact e
    cases h with
    | non => cases hw with | d => exact leaf _ rfl rfl rfl rfl rfl rfl rfl rfl
    | bl b => cases hw with | d => exact num _ rfl rfl rfl rfl rfl rfl (eqC_bl b)
    | int i => cases hw with | d => exact num _ rfl rfl rfl rfl rfl rfl (eqC_int i)
    | str x => cases hw with | d => exact leaf _ rfl rfl rfl rfl rfl rfl rfl (eqC_str x)
    | glob x => cases hw with | d => exact leaf _ rfl rfl rfl rfl rfl rfl rfl (eqC_glob x)
    | ins => cases hw with | d => exact leaf _ rfl rfl rfl rfl rfl rfl rfl (eqC_prog ok)
    | lst hz hs => exact seq _ _ rfl hz hs rfl rfl rfl
    | tup hz hs => exact seq _ _ rfl hz hs rfl rfl rfl
    | @dic _ ks ds kk h1 h2 h3 =>
      cases hw with
      | d =>
        unfold b__law_same
        rw [seq_nx (skip1 (.inl "dict") _ sNext rfl rfl rfl)]
        refine seq_rt ?_
        have it : ∀ i, s.sl[i]? = some (some (.d (.dic ks ds))) → eItems (eVar i) s = .ok (.d (.lst (pairsD ks ds))) s := fun i hi => by
          unfold eItems
          rw [x_var hi]
          simp only [Out.bind_ok, dat, h1, h2, if_true]
        refine (if_ok (bTru_bl (isi_w v1 (.d _) rfl rfl))).trans ?_
        refine (if_pos rfl).trans (ret_ok ((eAnd_ok (isi_w v0 (.d _) rfl rfl)).trans ((if_pos rfl).trans (call_ok (arg2 (it 0 v0) (it 1 v1)) (q_same m _ _ _ ok (.d _) h3)))))
def smB : Nat → D → Bool
  | 0, _ => false
  | m + 1, d => match d with
    | .non => true
    | .bl _ => true
    | .int _ => true
    | .str _ => true
    | .glob _ => true
    | .lst ds => decide (ds.length ≤ 1000) && ds.all (smB m)
    | .tup ds => decide (ds.length ≤ 1000) && ds.all (smB m)
    | .dic ks ds => (keysK ks).isSome && (decide (ks.length = ds.length) && smB m (.lst (pairsD ks ds)))
    | _ => false
theorem sm_of : ∀ {m : Nat} {d : D}, smB m d = true → Sm m d
  | 0, _, h => by cases h
  | m + 1, d, h => by
    cases d with
    | non => exact .non
    | bl b => exact .bl b
    | int i => exact .int i
    | str x => exact .str x
    | glob x => exact .glob x
    | lst ds =>
      simp only [smB, Bool.and_eq_true, decide_eq_true_eq] at h
      exact .lst h.1 fun x hx => sm_of (List.all_eq_true.mp h.2 x hx)
    | tup ds =>
      simp only [smB, Bool.and_eq_true, decide_eq_true_eq] at h
      exact .tup h.1 fun x hx => sm_of (List.all_eq_true.mp h.2 x hx)
    | dic ks ds =>
      simp only [smB, Bool.and_eq_true, decide_eq_true_eq] at h
      obtain ⟨kk, hk⟩ := Option.isSome_iff_exists.mp h.1
      exact .dic hk h.2.1 (sm_of h.2.2)
    | ty _ => cases h
    | scr _ => cases h
    | ins _ _ _ => cases h
theorem sm_odd {x : D} (hx : x ∈ oddL) : Sm 11 x := by
  have h : (oddL.take 22).all (smB 11) = true := by decide +kernel
  rcases List.mem_append.mp (show x ∈ oddL.take 22 ++ [progD] from hx) with h1 | h1
  · exact sm_of (List.all_eq_true.mp h x h1)
  · rw [List.mem_singleton.mp h1]; exact .ins
end G

set_option maxHeartbeats 1000000
namespace G
open PySem PySem.Spec PyProof.Rows L2 VL
/-! ### rows in order -/
def lexL : List Int → List Int → Bool
  | [], [] => false
  | [], _ :: _ => true
  | _ :: _, [] => false
  | a :: r, b :: q => decide (a < b) || (!decide (b < a) && lexL r q)
theorem toks_lex : ∀ a b : List Int, a.length = b.length → PyProof.Rows.lexLt itemOrd (PySem.W.keyToksAll (a.map .int)) (PySem.W.keyToksAll (b.map .int)) = lexL a b
  | [], [], _ => rfl
  | [], _ :: _, h => by simp at h
  | _ :: _, [], h => by simp at h
  | a :: r, b :: q, h => by
    have ih := toks_lex r q (by simpa using h)
    simp only [List.map_cons, PySem.W.toks_all_cons, PySem.W.keyToks, List.cons_append, List.nil_append]
    rw [lex_cons, lex_cons, ih]
    show (decide ((1 : Int) < 1) || (!decide ((1 : Int) < 1) && (decide (a < b) || (!decide (b < a) && lexL r q)))) = _
    simp only [lexL, Int.lt_irrefl, decide_false, Bool.false_or, Bool.not_false, Bool.true_and]
def leR (a b : List Int) : Bool := !PyProof.Rows.lexLt itemOrd (PySem.W.keyToks (rowP b)) (PySem.W.keyToks (rowP a))
theorem leR_eq {a b : List Int} (h : a.length = b.length) : leR a b = !lexL b a := by
  unfold leR
  rw [show PySem.W.keyToks (rowP b) = PySem.W.keyToksAll (b.map .int) by simp only [PySem.W.keyToks], show PySem.W.keyToks (rowP a) = PySem.W.keyToksAll (a.map .int) by simp only [PySem.W.keyToks], toks_lex b a h.symm]
theorem leR_trans (a b c : List Int) (h1 : leR a b = true) (h2 : leR b c = true) : leR a c = true := by
  unfold leR at *
  rw [Bool.not_eq_true'] at *
  cases q : PyProof.Rows.lexLt itemOrd (PySem.W.keyToks (rowP c)) (PySem.W.keyToks (rowP a)) with
  | false => rfl
  | true =>
    rcases (listOrd itemOrd).negTrans _ (PySem.W.keyToks (rowP b)) _ q with h | h
    · exact absurd (h.symm.trans h2) (by decide)
    · exact absurd (h.symm.trans h1) (by decide)
theorem leR_total (a b : List Int) : (leR a b || leR b a) = true := by
  unfold leR
  cases q : PyProof.Rows.lexLt itemOrd (PySem.W.keyToks (rowP b)) (PySem.W.keyToks (rowP a)) with
  | false => rfl
  | true =>
    cases q2 : PyProof.Rows.lexLt itemOrd (PySem.W.keyToks (rowP a)) (PySem.W.keyToks (rowP b)) with
    | false => rfl
    | true =>
      have h1 := (listOrd itemOrd).trans _ _ _ q q2
      have h2 := (listOrd itemOrd).irrefl (PySem.W.keyToks (rowP b))
      exact absurd (h2.symm.trans h1) (by decide)
theorem lexL_tot : ∀ a b : List Int, a.length = b.length → lexL a b = false → lexL b a = false → a = b
  | [], [], _, _, _ => rfl
  | [], _ :: _, h, _, _ => by simp at h
  | _ :: _, [], h, _, _ => by simp at h
  | a :: r, b :: q, h, h1, h2 => by
    simp only [lexL, Bool.or_eq_false_iff, decide_eq_false_iff_not, Bool.and_eq_false_iff, Bool.not_eq_false', decide_eq_true_eq] at h1 h2
    have e : a = b := by omega
    subst e
    have := lexL_tot r q (by simpa using h) (by rcases h1.2 with h | h; exact absurd h (by omega); exact h) (by rcases h2.2 with h | h; exact absurd h (by omega); exact h)
    rw [this]
theorem leR_anti {a b : List Int} (h : a.length = b.length) (h1 : leR a b = true) (h2 : leR b a = true) : a = b := by
  rw [leR_eq h, Bool.not_eq_true'] at h1
  rw [leR_eq h.symm, Bool.not_eq_true'] at h2
  exact lexL_tot a b h h2 h1
theorem leR_head {a b : Int} {r q : List Int} (h : r.length = q.length) (e : leR (a :: r) (b :: q) = true) : a ≤ b := by
  rw [leR_eq (by simp [h]), Bool.not_eq_true'] at e
  simp only [lexL, Bool.or_eq_false_iff, decide_eq_false_iff_not] at e
  omega
def most (a b : List Int) : Bool := (List.zipWith (fun x y => decide (x ≤ y)) a b).all id
theorem most_le : ∀ {a b : List Int}, a.length = b.length → most a b = true → leR a b = true := by
  intro a b h e
  rw [leR_eq h, Bool.not_eq_true']
  induction a generalizing b with
  | nil => cases b with
    | nil => rfl
    | cons _ _ => simp at h
  | cons x r ih => cases b with
    | nil => simp at h
    | cons y q =>
      simp only [most, List.zipWith_cons_cons, List.all_cons, id, Bool.and_eq_true, decide_eq_true_eq] at e
      have := ih (by simpa using h) e.2
      simp only [lexL, this, Bool.and_false, Bool.or_false, decide_eq_false_iff_not]
      omega
/-- the last two of 0 and the row's numbers -/
def st2 : List Int → Int × Int
  | [x] => (0, x)
  | [x, y] => (x, y)
  | [_, y, z] => (y, z)
  | _ => (0, 0)
def dom (p r : List Int) : Bool := decide ((st2 p).1 ≤ (st2 r).1) && decide ((st2 p).2 ≤ (st2 r).2)
theorem dom_most {m : Nat} (h1 : 1 ≤ m) (h3 : m ≤ 3) {p r : List Int} (hp : p.length = m) (hr : r.length = m) (hle : leR p r = true) : dom p r = most p r := by
  have : m = 1 ∨ m = 2 ∨ m = 3 := by omega
  rcases this with rfl | rfl | rfl
  · match p, r, hp, hr with
    | [a], [b], _, _ => simp [dom, most, st2]; rfl
  · match p, r, hp, hr with
    | [a, a'], [b, b'], _, _ => simp [dom, most, st2]; rfl
  · match p, r, hp, hr with
    | [a, a', a''], [b, b', b''], _, _ =>
      have := leR_head (by rfl) hle
      simp only [dom, most, st2, List.zipWith_cons_cons, List.zipWith_nil_left, List.all_cons, List.all_nil, id, Bool.and_true, decide_eq_true this, Bool.true_and]
      rfl
def sift : List (List Int) → List (List Int) → List (List Int)
  | _, [] => []
  | P, r :: rs => if P.any (fun p => dom p r) = true then sift (P ++ [r]) rs else r :: sift (P ++ [r]) rs
theorem most_refl : ∀ r : List Int, most r r = true
  | [] => rfl
  | x :: r => by
    have := most_refl r
    simp only [most, List.zipWith_cons_cons, List.all_cons, id, Int.le_refl, decide_true, Bool.true_and] at this ⊢
    exact this
theorem sift_sub : ∀ (P rs : List (List Int)), (sift P rs).Sublist rs
  | _, [] => .slnil
  | P, r :: rs => by
    unfold sift
    split
    · exact (sift_sub _ rs).cons _
    · exact (sift_sub _ rs).cons₂ _
theorem sift_mem {m : Nat} (h1 : 1 ≤ m) (h3 : m ≤ 3) : ∀ (P rs : List (List Int)), (∀ r ∈ P ++ rs, r.length = m) → (P ++ rs).Pairwise (fun a b => leR a b = true) → ∀ r, r ∈ sift P rs ↔ (r ∈ rs ∧ r ∉ P ∧ ∀ p ∈ P ++ rs, p ≠ r → most p r = false)
  | P, [], hl, hp, r => by simp [sift]
  | P, q :: rs, hl, hp, r => by
    have e : P ++ q :: rs = (P ++ [q]) ++ rs := by simp
    have ih := sift_mem h1 h3 (P ++ [q]) rs (by rw [← e]; exact hl) (by rw [← e]; exact hp) r
    rw [← e] at ih
    have hql : q.length = m := hl q (by simp)
    have hPq : ∀ p ∈ P, leR p q = true := fun p hpP => (List.pairwise_append.mp hp).2.2 p hpP q List.mem_cons_self
    have hdp : ∀ p ∈ P, dom p q = most p q := fun p hpP => dom_most h1 h3 (hl p (by simp [hpP])) hql (hPq p hpP)
    have hqr : ∀ p ∈ rs, leR q p = true := fun p hpr => (List.pairwise_cons.mp (List.pairwise_append.mp hp).2.1).1 p hpr
    unfold sift
    by_cases hd : P.any (fun p => dom p q) = true
    · rw [if_pos hd, ih]
      obtain ⟨p0, hp0, hd0⟩ := List.any_eq_true.mp hd
      rw [hdp p0 hp0] at hd0
      constructor
      · rintro ⟨a1, a2, a3⟩
        exact ⟨List.mem_cons_of_mem _ a1, fun h => a2 (List.mem_append.mpr (.inl h)), a3⟩
      · rintro ⟨a1, a2, a3⟩
        have hne : r ≠ q := fun h => by
          subst h
          have := a3 p0 (List.mem_append.mpr (.inl hp0)) (fun h => a2 (h ▸ hp0))
          rw [hd0] at this; cases this
        refine ⟨(List.mem_cons.mp a1).resolve_left hne, fun h => ?_, a3⟩
        rcases List.mem_append.mp h with h | h
        · exact a2 h
        · exact hne (List.mem_singleton.mp h)
    · rw [if_neg hd, List.mem_cons, ih]
      have hnd : ∀ p ∈ P, most p q = false := fun p hpP => by
        rw [← hdp p hpP]
        cases h : dom p q with
        | false => rfl
        | true => exact absurd (List.any_eq_true.mpr ⟨p, hpP, h⟩) hd
      constructor
      · rintro (rfl | ⟨a1, a2, a3⟩)
        · refine ⟨List.mem_cons_self, fun h => ?_, fun p hpm hpne => ?_⟩
          · have := hnd r h
            rw [most_refl] at this; cases this
          · rcases List.mem_append.mp hpm with h | h
            · exact hnd p h
            · rcases List.mem_cons.mp h with h | h
              · exact absurd h hpne
              · cases q' : most p r with
                | false => rfl
                | true => exact absurd (leR_anti ((hl p hpm).trans hql.symm) (most_le ((hl p hpm).trans hql.symm) q') (hqr p h)) hpne
        · exact ⟨List.mem_cons_of_mem _ a1, fun h => a2 (List.mem_append.mpr (.inl h)), a3⟩
      · rintro ⟨a1, a2, a3⟩
        by_cases hne : r = q
        · exact .inl hne
        · refine .inr ⟨(List.mem_cons.mp a1).resolve_left hne, fun h => ?_, a3⟩
          rcases List.mem_append.mp h with h | h
          · exact a2 h
          · exact hne (List.mem_singleton.mp h)
theorem sift_nodup {m : Nat} (h1 : 1 ≤ m) (h3 : m ≤ 3) : ∀ (P rs : List (List Int)), (∀ r ∈ P ++ rs, r.length = m) → (P ++ rs).Pairwise (fun a b => leR a b = true) → (sift P rs).Nodup
  | P, [], _, _ => List.nodup_nil
  | P, q :: rs, hl, hp => by
    have e : P ++ q :: rs = (P ++ [q]) ++ rs := by simp
    have ih := sift_nodup h1 h3 (P ++ [q]) rs (by rw [← e]; exact hl) (by rw [← e]; exact hp)
    unfold sift
    split
    · exact ih
    · refine List.nodup_cons.mpr ⟨fun h => ?_, ih⟩
      exact ((sift_mem h1 h3 (P ++ [q]) rs (by rw [← e]; exact hl) (by rw [← e]; exact hp) q).mp h).2.1 (by simp)
/-- what the law says of least rows -/
theorem sift_law {m : Nat} (h1 : 1 ≤ m) (h3 : m ≤ 3) {rs some : List (List Int)} (hl : ∀ r ∈ rs, r.length = m) (hs : some.Nodup) (hm : ∀ r, r ∈ some ↔ r ∈ rs) :
    sift [] (rs.mergeSort leR) = (some.filter fun r => !some.any fun q => !decide (q = r) && most q r).mergeSort leR := by
  have hsl : ∀ r ∈ [] ++ rs.mergeSort leR, r.length = m := fun r hr => hl r (List.mem_mergeSort.mp hr)
  have hsp : ([] ++ rs.mergeSort leR).Pairwise (fun a b => leR a b = true) := List.pairwise_mergeSort leR_trans leR_total rs
  have hlen : ∀ r ∈ sift [] (rs.mergeSort leR), r.length = m := fun r hr => hsl r ((sift_sub _ _).subset hr)
  refine List.Perm.eq_of_pairwise (le := fun a b => leR a b = true) (fun a b ha hb h1 h2 => ?_) (hsp.sublist (sift_sub _ _)) (List.pairwise_mergeSort leR_trans leR_total _) ?_
  · refine leR_anti ((hlen a ha).trans (hl b ?_).symm) h1 h2
    exact (hm b).mp (List.mem_filter.mp (List.mem_mergeSort.mp hb)).1
  · refine ((List.perm_ext_iff_of_nodup (sift_nodup h1 h3 [] _ hsl hsp) (hs.sublist List.filter_sublist)).mpr fun r => ?_).trans (List.mergeSort_perm _ _).symm
    rw [sift_mem h1 h3 [] _ hsl hsp r, List.mem_filter, hm]
    simp only [List.nil_append, List.mem_mergeSort, List.not_mem_nil, not_false_eq_true, true_and, Bool.not_eq_true', List.any_eq_false, Bool.and_eq_true, decide_eq_true_eq, not_and, Bool.not_eq_true, decide_eq_false_iff_not, hm]
end G

set_option maxHeartbeats 1000000
namespace G
open PySem PySem.Spec PyProof.Rows L2 VL
/-! ### the stairs -/
structure Stairs (P : List (List Int)) (zs : List (Int × Int)) : Prop where
  up : zs.Pairwise fun a b => a.1 ≤ b.1 ∧ b.2 < a.2
  cov : ∀ s t, (∃ z ∈ zs, z.1 ≤ s ∧ z.2 ≤ t) ↔ ∃ p ∈ P, (st2 p).1 ≤ s ∧ (st2 p).2 ≤ t
theorem Stairs.nil : Stairs [] [] := ⟨.nil, fun _ _ => by simp⟩
theorem stairs_dom {P : List (List Int)} {A B : List (Int × Int)} {r : List Int} (h : Stairs P (A ++ B)) (hA : ∀ z ∈ A, z.1 ≤ (st2 r).1) (hB : ∀ z ∈ B, (st2 r).1 < z.1) : (P.any fun p => dom p r) = true ↔ ∃ z ∈ A, z.2 ≤ (st2 r).2 := by
  rw [List.any_eq_true]
  simp only [dom, Bool.and_eq_true, decide_eq_true_eq]
  rw [← h.cov]
  constructor
  · rintro ⟨z, hz, h1, h2⟩
    rcases List.mem_append.mp hz with hz | hz
    · exact ⟨z, hz, h2⟩
    · have := hB z hz; omega
  · rintro ⟨z, hz, h2⟩
    exact ⟨z, List.mem_append.mpr (.inl hz), hA z hz, h2⟩
theorem stairs_same {P : List (List Int)} {zs : List (Int × Int)} {r : List Int} (h : Stairs P zs) (hd : (P.any fun p => dom p r) = true) : Stairs (P ++ [r]) zs := by
  refine ⟨h.up, fun s t => ?_⟩
  rw [h.cov]
  obtain ⟨p, hp, hpr⟩ := List.any_eq_true.mp hd
  simp only [dom, Bool.and_eq_true, decide_eq_true_eq] at hpr
  constructor
  · rintro ⟨p, hp, h⟩; exact ⟨p, List.mem_append.mpr (.inl hp), h⟩
  · rintro ⟨q, hq, h1, h2⟩
    rcases List.mem_append.mp hq with hq | hq
    · exact ⟨q, hq, h1, h2⟩
    · rw [List.mem_singleton.mp hq] at h1 h2
      exact ⟨p, hp, by omega, by omega⟩
theorem stairs_put {P : List (List Int)} {A B1 B2 : List (Int × Int)} {r : List Int} (h : Stairs P (A ++ (B1 ++ B2))) (hA : ∀ z ∈ A, z.1 ≤ (st2 r).1) (hB : ∀ z ∈ B1 ++ B2, (st2 r).1 < z.1) (hA2 : ∀ z ∈ A, (st2 r).2 < z.2) (hB1 : ∀ z ∈ B1, (st2 r).2 ≤ z.2) (hB2 : ∀ z ∈ B2, z.2 < (st2 r).2) :
    Stairs (P ++ [r]) (A ++ (st2 r :: B2)) := by
  have hu := List.pairwise_append.mp h.up
  have hu2 := List.pairwise_append.mp hu.2.1
  refine ⟨List.pairwise_append.mpr ⟨hu.1, List.pairwise_cons.mpr ⟨fun b hb => ⟨by have := hB b (List.mem_append.mpr (.inr hb)); omega, hB2 b hb⟩, hu2.2.1⟩, fun a ha b hb => ?_⟩, fun s t => ?_⟩
  · rcases List.mem_cons.mp hb with rfl | hb
    · exact ⟨hA a ha, hA2 a ha⟩
    · exact hu.2.2 a ha b (List.mem_append.mpr (.inr hb))
  · constructor
    · rintro ⟨z, hz, h1, h2⟩
      rcases List.mem_append.mp hz with hz | hz
      · obtain ⟨p, hp, q⟩ := (h.cov s t).mp ⟨z, List.mem_append.mpr (.inl hz), h1, h2⟩
        exact ⟨p, List.mem_append.mpr (.inl hp), q⟩
      · rcases List.mem_cons.mp hz with rfl | hz
        · exact ⟨r, by simp, h1, h2⟩
        · obtain ⟨p, hp, q⟩ := (h.cov s t).mp ⟨z, List.mem_append.mpr (.inr (List.mem_append.mpr (.inr hz))), h1, h2⟩
          exact ⟨p, List.mem_append.mpr (.inl hp), q⟩
    · rintro ⟨p, hp, h1, h2⟩
      rcases List.mem_append.mp hp with hp | hp
      · obtain ⟨z, hz, q1, q2⟩ := (h.cov s t).mpr ⟨p, hp, h1, h2⟩
        rcases List.mem_append.mp hz with hz | hz
        · exact ⟨z, List.mem_append.mpr (.inl hz), q1, q2⟩
        · rcases List.mem_append.mp hz with hz | hz
          · exact ⟨st2 r, by simp, by have := hB z (List.mem_append.mpr (.inl hz)); omega, by have := hB1 z hz; omega⟩
          · exact ⟨z, by simp [hz], q1, q2⟩
      · rw [List.mem_singleton.mp hp] at h1 h2
        exact ⟨st2 r, by simp, h1, h2⟩
/-- a list cut where its steps pass a bound -/
theorem cut_at {α : Type} (xs : List α) (j : Nat) (h : j ≤ xs.length) {p q : α → Prop} (h1 : ∀ i (hi : i < xs.length), i < j → p xs[i]) (h2 : ∀ i (hi : i < xs.length), j ≤ i → q xs[i]) : ∃ A B, xs = A ++ B ∧ A.length = j ∧ (∀ z ∈ A, p z) ∧ ∀ z ∈ B, q z := by
  refine ⟨xs.take j, xs.drop j, (List.take_append_drop j xs).symm, by rw [List.length_take]; omega, fun z hz => ?_, fun z hz => ?_⟩
  · obtain ⟨i, hi, rfl⟩ := List.getElem_of_mem hz
    rw [List.length_take] at hi
    rw [List.getElem_take]
    exact h1 i (by omega) (by omega)
  · obtain ⟨i, hi, rfl⟩ := List.getElem_of_mem hz
    rw [List.length_drop] at hi
    rw [List.getElem_drop]
    exact h2 (j + i) (by omega) (by omega)
theorem loopW_end {c : S → Out Bool} {body : S → Fl} (J : Nat → S → Prop) (E : S → Prop) (hstep : ∀ m s, J m s → (∃ s1, c s = .ok false s1 ∧ E s1) ∨ ∃ m' s1 s2, m = m' + 1 ∧ c s = .ok true s1 ∧ (body s1 = .nx s2 ∨ body s1 = .ct s2) ∧ J m' s2) :
    ∀ (n m : Nat) (s : S), m < n → J m s → ∃ s', loopW c body n s = .nx s' ∧ E s'
  | 0, m, s, h, _ => absurd h (Nat.not_lt_zero _)
  | n + 1, m, s, h, hj => by
    rcases hstep m s hj with ⟨s1, h1, h2⟩ | ⟨m', s1, s2, rfl, h1, h2, h3⟩
    · refine ⟨s1, ?_, h2⟩
      unfold loopW; rw [h1]; rfl
    · obtain ⟨s', e1, e2⟩ := loopW_end J E hstep n m' s2 (by omega) h3
      refine ⟨s', ?_, e2⟩
      unfold loopW; rw [h1]
      simp only [Out.then, if_true]
      rcases h2 with h2 | h2 <;> rw [h2] <;> exact e1
variable {n : Nat} {ce : List (Option Cell)}
theorem atI_nat {α : Type} {xs : List α} {i : Nat} (h : i < xs.length) : atI xs (i : Int) = some xs[i] := by
  unfold atI ixN
  rw [if_pos (by omega), if_pos (by omega)]
  simp only [Option.bind_some, Int.toNat_natCast]
  exact List.getElem?_eq_getElem h
abbrev intsC (xs : List Int) : Option Cell := some (.lst ((xs.map D.int).map W.d))
theorem ix_ints {c : List (Option Cell)} {j i : Nat} {xs : List Int} (hj : c[j]? = some (intsC xs)) (hi : i < xs.length) : ixZ c (.c j) (.d (.int (i : Nat))) = some (.d (.int xs[i])) := by
  rw [ixZ_lst hj, atI_nat (by simpa using hi)]
  simp
theorem q_upto {j : Nat} {xs : List Int} {lim : Int} (ok : Ok ce) (hj : ce[j]? = some (intsC xs)) (hs : xs.Pairwise (· ≤ ·)) (hn : xs.length < n) (hb : xs.length < 1000) :
    ∃ r : Nat, F_how_many_up_to n [.c j, .d (.int lim)] ce = .ok (.d (.int r)) ⟨[], ce⟩ ∧ r ≤ xs.length ∧ (∀ i (hi : i < xs.length), i < r → xs[i] ≤ lim) ∧ ∀ i (hi : i < xs.length), r ≤ i → lim < xs[i] := by
  have hs' : ∀ i k (hk : k < xs.length) (hik : i ≤ k), xs[i] ≤ xs[k] := fun i k hk hik => by
    rcases Nat.lt_or_eq_of_le hik with h | h
    · exact (List.pairwise_iff_getElem.mp hs) i k (by omega) hk h
    · subst h; exact Int.le_refl _
  let sS (lo hi : Nat) (o : Option W) : S := ⟨[some (.c j), some (.d (.int lim)), some (.d (.int lo)), some (.d (.int hi)), o], ce⟩
  obtain ⟨s', hl, lo, o, rfl, e1, e2, e3⟩ := loopW_end (c := bOf (eOp2 (two fLt) (eVar 2) (eVar 3))) (body := sSeq (sSet 4 (eOp2 (two fDiv) (eOp2 (two fAdd) (eVar 2) (eVar 3)) (eC (.int 2)))) (sIf (bOf (eOp2 (two fLe) (eIxZ (eVar 0) (eVar 4)) (eVar 1))) (sSet 2 (eOp2 (two fAdd) (eVar 4) (eC (.int 1)))) (sSet 3 (eVar 4))))
    (fun m s => ∃ lo hi o, s = sS lo hi o ∧ lo ≤ hi ∧ hi ≤ xs.length ∧ hi - lo ≤ m ∧ (∀ i (h : i < xs.length), i < lo → xs[i] ≤ lim) ∧ ∀ i (h : i < xs.length), hi ≤ i → lim < xs[i])
    (fun s => ∃ lo o, s = sS lo lo o ∧ lo ≤ xs.length ∧ (∀ i (h : i < xs.length), i < lo → xs[i] ≤ lim) ∧ ∀ i (h : i < xs.length), lo ≤ i → lim < xs[i])
    (fun m s hJ => by
      obtain ⟨lo, hi, o, rfl, h1, h2, h3, h4, h5⟩ := hJ
      have hc : bOf (eOp2 (two fLt) (eVar 2) (eVar 3)) (sS lo hi o) = .ok (decide ((lo : Int) < hi)) (sS lo hi o) := bOf_ok (op2_ok (x_var (i := 2) rfl) (x_var (i := 3) rfl) rfl)
      by_cases h : lo < hi
      · refine .inr ⟨m - 1, sS lo hi o, ?_⟩
        rw [decide_eq_true (by omega)] at hc
        let md := (lo + hi) / 2
        have hmd : md < xs.length := by show (lo + hi) / 2 < _; omega
        have e1 : sSet 4 (eOp2 (two fDiv) (eOp2 (two fAdd) (eVar 2) (eVar 3)) (eC (.int 2))) (sS lo hi o) = .nx (sS lo hi (some (.d (.int md)))) := by
          have := set_ok (i := 4) (op2_ok (op2_ok (o := two fAdd) (x_var (s := sS lo hi o) (i := 2) rfl) (x_var (i := 3) rfl) rfl) x_C (fDiv_ok 2 (by decide) (by decide)))
          rw [this]
          show Fl.nx (sS lo hi (some (.d (.int (((lo : Int) + hi) / 2))))) = Fl.nx (sS lo hi (some (.d (.int (((lo + hi) / 2 : Nat) : Int)))))
          congr 5
        have hc2 : bOf (eOp2 (two fLe) (eIxZ (eVar 0) (eVar 4)) (eVar 1)) (sS lo hi (some (.d (.int md)))) = .ok (decide (xs[md] ≤ lim)) (sS lo hi (some (.d (.int md)))) := bOf_ok (op2_ok (ixZ_ok (x_var (i := 0) rfl) (x_var (i := 4) rfl) (ix_ints hj hmd)) (x_var (i := 1) rfl) rfl)
        by_cases hx : xs[md] ≤ lim
        · rw [decide_eq_true hx] at hc2
          refine ⟨sS (md + 1) hi (some (.d (.int md))), by omega, hc, .inl ?_, md + 1, hi, _, rfl, by show (lo + hi) / 2 + 1 ≤ hi; omega, h2, by show hi - ((lo + hi) / 2 + 1) ≤ m - 1; omega, fun i hi' h => ?_, h5⟩
          · rw [seq_nx e1]
            refine (if_ok hc2).trans ((if_pos rfl).trans ?_)
            exact set_ok (s' := sS lo hi (some (.d (.int md)))) (w := .d (.int ((md : Int) + 1))) (op2_ok (o := two fAdd) (x_var (i := 4) rfl) (x_C (d := .int 1)) rfl)
          · have := hs' i md hmd (by omega)
            omega
        · rw [decide_eq_false hx] at hc2
          refine ⟨sS lo md (some (.d (.int md))), by omega, hc, .inl ?_, lo, md, _, rfl, by show lo ≤ (lo + hi) / 2; omega, by omega, by show (lo + hi) / 2 - lo ≤ m - 1; omega, h4, fun i hi' h => ?_⟩
          · rw [seq_nx e1]
            refine (if_ok hc2).trans ((if_neg Bool.false_ne_true).trans ?_)
            exact set_ok (s' := sS lo hi (some (.d (.int md)))) (x_var (i := 4) rfl)
          · have := hs' md i hi' h
            omega
      · refine .inl ⟨sS lo hi o, by rw [decide_eq_false (by omega)] at hc; exact hc, lo, o, ?_, by omega, h4, fun i h' h => h5 i h' (by omega)⟩
        have : lo = hi := by omega
        rw [this]) n xs.length (sS 0 xs.length none) hn ⟨0, xs.length, none, rfl, Nat.zero_le _, Nat.le_refl _, by omega, fun i h h' => absurd h' (Nat.not_lt_zero _), fun i h h' => absurd h (by omega)⟩
  refine ⟨lo, ?_, e1, e2, e3⟩
  unfold F_how_many_up_to b_how_many_up_to
  have hp : sPar [2, 3] (aCons (eC (.int 0)) (aCons (eOpN lenN (aCons (eVar 0) aNil)) aNil)) (entry 5 [.c j, .d (.int lim)] ce) = .nx (sS 0 xs.length none) := by
    unfold sPar
    rw [arg2 x_C (opN_ok (d := .int (xs.length : Nat)) (arg1 (x_var (i := 0) rfl)) (by
      show lenN ce [.c j] = _
      simp only [lenN, hj, List.length_map]))]
    rfl
  rw [seq_nx hp, seq_nx hl, ret_ok (x_var (i := 2) rfl)]
  exact shut_rt List.take_length ok
end G

set_option maxHeartbeats 1000000
namespace G
open PySem PySem.Spec PyProof.Rows L2 VL
variable {n : Nat} {ce : List (Option Cell)}
theorem alike_ints2 : ∀ a b : List Int, a.length = b.length → PySem.W.alikeAll (a.map .int) (b.map .int) = true
  | [], _, _ => rfl
  | _ :: _, [], h => by simp at h
  | a :: r, b :: q, h => by
    have := alike_ints2 r q (by simpa using h)
    simp only [List.map_cons, PySem.W.alikeAll, PySem.W.alike, this, Bool.and_self]
theorem srt_rows {m : Nat} (h1 : 1 ≤ m) {rs : List (List Int)} (hl : ∀ r ∈ rs, r.length = m) : fSorted (.lst (rs.map rowD)) = some (.lst ((rs.mergeSort leR).map rowD)) := by
  have hal : PySem.W.AllAlike (rs.map rowP) := fun x hx y hy => by
    obtain ⟨a, ha, rfl⟩ := List.mem_map.mp hx
    obtain ⟨b, hb, rfl⟩ := List.mem_map.mp hy
    have := alike_ints2 a b ((hl a ha).trans (hl b hb).symm)
    simp only [PySem.W.alike, this]
  have hso : PySem.W.Sortable (rs.map rowP) := .inl fun x hx => by
    obtain ⟨a, ha, rfl⟩ := List.mem_map.mp hx
    cases a with
    | nil => have := hl _ ha; simp at this; omega
    | cons b q => exact ⟨.int b, q.map .int, rfl⟩
  have hd : ∀ p ∈ rs.map rowP, p.depth ≤ 60 := fun p hp => by
    obtain ⟨a, _, rfl⟩ := List.mem_map.mp hp
    have := dep_row a; omega
  have hz : (rs.map rowD).zip (rs.map rowP) = rs.map fun r => (rowD r, rowP r) := by
    clear hl hal hso hd
    induction rs with
    | nil => rfl
    | cons r q ih => simp only [List.map_cons, List.zip_cons_cons, ih]
  unfold fSorted srtD
  simp only [pyDs_rows]
  rw [if_pos ⟨hal, hso, hd⟩, hz]
  simp only [Option.map_some]
  have hm := List.map_mergeSort (r := leR) (s := fun (a b : D × PyData) => PySem.W.dataLe false Prod.snd a b) (f := fun r => (rowD r, rowP r)) (l := rs) (fun a _ b _ => rfl)
  rw [← hm, List.map_map]
  rfl
theorem setSl_ok {fo fl fh fe : S → Out W} {s s1 s2 s3 s4 : S} {j a b : Nat} {ws : List W} {ds : List D} (h1 : fe s = .ok (.d (.lst ds)) s1) (h2 : fo s1 = .ok (.c j) s2) (h3 : fl s2 = .ok (.d (.int (a : Nat))) s3) (h4 : fh s3 = .ok (.d (.int (b : Nat))) s4) (h5 : s4.ce[j]? = some (some (.lst ws)))
    (h6 : a ≤ b) (h7 : b ≤ ws.length) (h8 : ws.length + ds.length ≤ sizeLine) : sSetSl fo fl fh fe s = .nx ⟨s4.sl, s4.ce.set j (some (.lst (ws.take a ++ ds.map .d ++ ws.drop b)))⟩ := by
  unfold sSetSl
  rw [h1]; simp only [Out.then]; rw [h2]; simp only; rw [h3]; simp only; rw [h4]; simp only [lstC, h5]
  rw [if_pos ⟨by omega, by omega, by omega, h8⟩]
  simp only [Int.toNat_natCast, putC]
abbrev tri (ce : List (Option Cell)) (zs : List (Int × Int)) (ls : List (List Int)) : List (Option Cell) := ce ++ [intsC (zs.map (·.1)), intsC (zs.map (·.2)), fnd ls]
theorem tri_0 {zs ls} : (tri ce zs ls)[ce.length]? = some (intsC (zs.map (·.1))) := by rw [List.getElem?_append_right (Nat.le_refl _)]; simp
theorem tri_1 {zs ls} : (tri ce zs ls)[ce.length + 1]? = some (intsC (zs.map (·.2))) := by rw [List.getElem?_append_right (by omega)]; simp
theorem tri_2 {zs ls} : (tri ce zs ls)[ce.length + 2]? = some (fnd ls) := by rw [List.getElem?_append_right (by omega)]; simp
theorem tri_ok (ok : Ok ce) {zs ls} : Ok (tri ce zs ls) := ok.app (by
  unfold Fits
  simp only [List.all_cons, List.all_nil, Bool.and_true, Bool.and_eq_true]
  exact ⟨fit_ds _, fit_ds _, fit_ds _⟩)
abbrev loS (ce : List (Option Cell)) (rs : List (List Int)) (zs : List (Int × Int)) (ls : List (List Int)) (o1 o5 o6 o7 o8 : Option W) : S :=
  ⟨[some (.d (.lst (rs.map rowD))), o1, some (.c ce.length), some (.c (ce.length + 1)), some (.c (ce.length + 2)), o5, o6, o7, o8], tri ce zs ls⟩
noncomputable abbrev loBody (n : Nat) : S → Fl := (sSeq (sSets (.tp [(.nm 6), (.nm 7)]) (eSl (eOp2 (two fAdd) (eTup (aCons (eC (.int 0)) aNil)) (eVar 1)) (oSome (eOp1 (un fNeg) (eC (.int 2)))) oNone)) (sSeq (sSet 5 (eCall (F_how_many_up_to n) (aCons (eVar 2) (aCons (eVar 6) aNil)))) (sIf (bOr (bOf (eOp2 (two fEq) (eVar 5) (eC (.int 0)))) (bOf (eOp2 (two fGt) (eIxZ (eVar 3) (eOp2 (two fSub) (eVar 5) (eC (.int 1)))) (eVar 7)))) (sSeq (sDrop (eAppend (eVar 4) (eVar 1))) (sSeq (sSet 8 (eVar 5)) (sSeq (loopW (bAnd (bOf (eOp2 (two fLt) (eVar 8) (eOpN lenN (aCons (eVar 3) aNil)))) (bOf (eOp2 (two fGe) (eIxZ (eVar 3) (eVar 8)) (eVar 7)))) (sAug 8 (fun i j => i + j) (eC (.int 1))) n) (sSeq (sSetSl (eVar 2) (eVar 5) (eVar 8) (eLst (aCons (eVar 6) aNil))) (sSetSl (eVar 3) (eVar 5) (eVar 8) (eLst (aCons (eVar 7) aNil))))))) sNext)))
theorem tail_two {c : List (Option Cell)} {m : Nat} (h1 : 1 ≤ m) (h3 : m ≤ 3) {r : List Int} (hr : r.length = m) {sl : List (Option W)} (hs : sl[1]? = some (some (.d (rowD r)))) :
    eSl (eOp2 (two fAdd) (eTup (aCons (eC (.int 0)) aNil)) (eVar 1)) (oSome (eOp1 (un fNeg) (eC (.int 2)))) oNone ⟨sl, c⟩ = .ok (.d (.tup [.int (st2 r).1, .int (st2 r).2])) ⟨sl, c⟩ := by
  have e1 : eOp2 (two fAdd) (eTup (aCons (eC (.int 0)) aNil)) (eVar 1) ⟨sl, c⟩ = .ok (.d (.tup (.int 0 :: r.map .int))) ⟨sl, c⟩ := by
    refine op2_ok (tup_ok (ds := [.int 0]) (arg1 x_C) rfl (small_le (by decide))) (x_var hs) ?_
    show fAdd (.tup [.int 0]) (.tup (r.map .int)) = _
    simp only [fAdd]
    rw [if_pos (small_le (by simp only [List.length_map, List.length_cons, List.length_nil]; omega))]
    rfl
  refine sl_ok (lo := some (-2)) (hi := none) e1 (oSome_ok (op1_ok x_C rfl)) x_oNone ?_
  show fSl (some (-2)) none (.tup (.int 0 :: r.map .int)) = _
  have : m = 1 ∨ m = 2 ∨ m = 3 := by omega
  rcases this with rfl | rfl | rfl
  · match r, hr with
    | [a], _ => rfl
  · match r, hr with
    | [a, b], _ => rfl
  · match r, hr with
    | [a, b, c], _ => rfl
theorem lo_step {m : Nat} {rs P : List (List Int)} {zs : List (Int × Int)} {ls : List (List Int)} {r : List Int} {o5 o6 o7 o8 : Option W} (ok : Ok ce) (h1 : 1 ≤ m) (h3 : m ≤ 3) (hr : r.length = m) (hS : Stairs P zs) (hn : zs.length < n) (hz : zs.length ≤ 100) (hls : ls.length ≤ 100) :
    ∃ zs' o5' o6' o7' o8', loBody n (loS ce rs zs ls (some (.d (rowD r))) o5 o6 o7 o8) = .nx (loS ce rs zs' (if (P.any fun p => dom p r) = true then ls else ls ++ [r]) (some (.d (rowD r))) o5' o6' o7' o8') ∧ Stairs (P ++ [r]) zs' ∧ zs'.length ≤ zs.length + 1 := by
  let s6 : Option W := some (.d (.int (st2 r).1))
  let s7 : Option W := some (.d (.int (st2 r).2))
  have e1 : sSets (.tp [(.nm 6), (.nm 7)]) (eSl (eOp2 (two fAdd) (eTup (aCons (eC (.int 0)) aNil)) (eVar 1)) (oSome (eOp1 (un fNeg) (eC (.int 2)))) oNone) (loS ce rs zs ls (some (.d (rowD r))) o5 o6 o7 o8) = .nx (loS ce rs zs ls (some (.d (rowD r))) o5 s6 s7 o8) := by
    unfold sSets
    rw [tail_two h1 h3 hr rfl]
    rfl
  have hup : (zs.map (·.1)).Pairwise (· ≤ ·) := List.pairwise_map.mpr (hS.up.imp fun h => h.1)
  obtain ⟨pl, p1, p2, p3, p4⟩ := q_upto (n := n) (lim := (st2 r).1) (tri_ok ok) (tri_0 (ce := ce) (zs := zs) (ls := ls)) hup (by rw [List.length_map]; exact hn) (by rw [List.length_map]; omega)
  simp only [List.length_map, List.getElem_map] at p2 p3 p4
  have e2 : sSet 5 (eCall (F_how_many_up_to n) (aCons (eVar 2) (aCons (eVar 6) aNil))) (loS ce rs zs ls (some (.d (rowD r))) o5 s6 s7 o8) = .nx (loS ce rs zs ls (some (.d (rowD r))) (some (.d (.int pl))) s6 s7 o8) :=
    set_ok (s' := loS ce rs zs ls (some (.d (rowD r))) o5 s6 s7 o8) (call_ok (arg2 (x_var (i := 2) rfl) (x_var (i := 6) rfl)) p1)
  obtain ⟨A, B, hAB, hAl, hA, hB⟩ := cut_at zs pl p2 (p := fun z => z.1 ≤ (st2 r).1) (q := fun z => (st2 r).1 < z.1) p3 p4
  let sC : S := loS ce rs zs ls (some (.d (rowD r))) (some (.d (.int pl))) s6 s7 o8
  have hdA : (P.any fun p => dom p r) = true ↔ ∃ z ∈ A, z.2 ≤ (st2 r).2 := stairs_dom (hAB ▸ hS) hA hB
  have hcond : bOr (bOf (eOp2 (two fEq) (eVar 5) (eC (.int 0)))) (bOf (eOp2 (two fGt) (eIxZ (eVar 3) (eOp2 (two fSub) (eVar 5) (eC (.int 1)))) (eVar 7))) sC = .ok (!(P.any fun p => dom p r)) sC := by
    refine (bOr_ok (bOf_ok (op2_ok (o := two fEq) (x_var (s := sC) (i := 5) rfl) (x_C (d := .int 0)) rfl))).trans ?_
    by_cases h0 : pl = 0
    · rw [if_pos (by rw [h0]; rfl)]
      have : A = [] := List.eq_nil_of_length_eq_zero (by omega)
      have : (P.any fun p => dom p r) = false := by
        rw [← Bool.not_eq_true, hdA, this]; simp
      rw [this]; rfl
    · rw [if_neg (by rw [beq_eq_false_iff_ne.mpr (by omega)]; exact Bool.false_ne_true)]
      have hlt : pl - 1 < zs.length := by omega
      have hix : ixZ sC.ce (.c (ce.length + 1)) (.d (.int ((pl : Int) - 1))) = some (.d (.int (zs[pl - 1]).2)) := by
        rw [show ((pl : Int) - 1) = ((pl - 1 : Nat) : Int) by omega, ix_ints (tri_1 (ce := ce) (zs := zs) (ls := ls)) (by simpa using hlt)]
        simp
      rw [bOf_ok (op2_ok (o := two fGt) (ixZ_ok (x_var (s := sC) (i := 3) rfl) (op2_ok (o := two fSub) (d := .int ((pl : Int) - 1)) (x_var (i := 5) rfl) (x_C (d := .int 1)) rfl) hix) (x_var (i := 7) rfl) rfl)]
      have hin : zs[pl - 1] ∈ A := by
        have hl : pl - 1 < A.length := by omega
        have : zs[pl - 1] = A[pl - 1] := by simp only [hAB]; rw [List.getElem_append_left hl]
        rw [this]; exact List.getElem_mem _
      have hlast : ∀ z ∈ A, (zs[pl - 1]).2 ≤ z.2 := fun z hz => by
        obtain ⟨i, hi, rfl⟩ := List.getElem_of_mem hz
        have hzi : A[i] = zs[i] := by simp only [hAB]; rw [List.getElem_append_left hi]
        rw [hzi]
        rcases Nat.lt_or_ge i (pl - 1) with h | h
        · have := (List.pairwise_iff_getElem.mp hS.up) i (pl - 1) (by omega) hlt h
          omega
        · have : i = pl - 1 := by omega
          subst this; exact Int.le_refl _
      have : (P.any fun p => dom p r) = decide ((zs[pl - 1]).2 ≤ (st2 r).2) := by
        rw [Bool.eq_iff_iff, hdA, decide_eq_true_eq]
        exact ⟨fun ⟨z, hz, h⟩ => by have := hlast z hz; omega, fun h => ⟨_, hin, h⟩⟩
      rw [this]
      congr 1
      by_cases h : (zs[pl - 1]).2 ≤ (st2 r).2
      · rw [decide_eq_true h, decide_eq_false (by omega)]; rfl
      · rw [decide_eq_false h, decide_eq_true (by omega)]; rfl
  by_cases hd : (P.any fun p => dom p r) = true
  · refine ⟨zs, some (.d (.int pl)), s6, s7, o8, ?_, stairs_same hS hd, by omega⟩
    · refine (seq_nx e1).trans ((seq_nx e2).trans ((if_ok hcond).trans ?_))
      rw [hd, if_neg (by decide), if_pos rfl]
      rfl
  · rw [Bool.not_eq_true] at hd
    have hA2 : ∀ z ∈ A, (st2 r).2 < z.2 := fun z hz => by
      rcases Int.lt_or_le (st2 r).2 z.2 with h | h
      · exact h
      · rw [hdA.mpr ⟨z, hz, h⟩] at hd; cases hd
    -- append
    have e3 : sDrop (eAppend (eVar 4) (eVar 1)) sC = .nx (loS ce rs zs (ls ++ [r]) (some (.d (rowD r))) (some (.d (.int pl))) s6 s7 o8) := by
      refine (drop_ok (append_ok (x_var (s := sC) (i := 4) rfl) (tri_2 (ce := ce)) (x_var (i := 1) rfl) (tri_2 (ce := ce)) (small_lt (by rw [List.length_map, List.length_map]; omega)))).trans ?_
      rw [fnd_app]
      show Fl.nx ⟨_, (ce ++ [intsC (zs.map (·.1)), intsC (zs.map (·.2)), fnd ls]).set (ce.length + 2) (fnd (ls ++ [r]))⟩ = _
      rw [List.set_append_right _ _ (by omega), show ce.length + 2 - ce.length = 2 by omega]
      rfl
    let sD (e : Nat) : S := loS ce rs zs (ls ++ [r]) (some (.d (rowD r))) (some (.d (.int pl))) s6 s7 (some (.d (.int e)))
    have e4 : sSet 8 (eVar 5) (loS ce rs zs (ls ++ [r]) (some (.d (rowD r))) (some (.d (.int pl))) s6 s7 o8) = .nx (sD pl) := set_ok (s' := loS ce rs zs (ls ++ [r]) (some (.d (rowD r))) (some (.d (.int pl))) s6 s7 o8) (x_var (i := 5) rfl)
    obtain ⟨s', e5, en, rfl, g1, g2, g3, g4⟩ := loopW_end (c := bAnd (bOf (eOp2 (two fLt) (eVar 8) (eOpN lenN (aCons (eVar 3) aNil)))) (bOf (eOp2 (two fGe) (eIxZ (eVar 3) (eVar 8)) (eVar 7)))) (body := sAug 8 (fun i j => i + j) (eC (.int 1)))
      (fun q s => ∃ e, s = sD e ∧ pl ≤ e ∧ e ≤ zs.length ∧ zs.length - e ≤ q ∧ ∀ i (h : i < zs.length), pl ≤ i → i < e → (st2 r).2 ≤ (zs[i]).2)
      (fun s => ∃ e, s = sD e ∧ pl ≤ e ∧ e ≤ zs.length ∧ (∀ i (h : i < zs.length), pl ≤ i → i < e → (st2 r).2 ≤ (zs[i]).2) ∧ ∀ h : e < zs.length, (zs[e]).2 < (st2 r).2)
      (fun q s hJ => by
        obtain ⟨e, rfl, j1, j2, j3, j4⟩ := hJ
        have c1 : bOf (eOp2 (two fLt) (eVar 8) (eOpN lenN (aCons (eVar 3) aNil))) (sD e) = .ok (decide ((e : Int) < (zs.length : Nat))) (sD e) := bOf_ok (op2_ok (o := two fLt) (x_var (s := sD e) (i := 8) rfl) (opN_ok (d := .int (zs.length : Nat)) (arg1 (x_var (i := 3) rfl)) (by
          show lenN (tri ce zs (ls ++ [r])) [.c (ce.length + 1)] = _
          simp only [lenN, tri_1, List.length_map])) rfl)
        by_cases hlt : e < zs.length
        · rw [decide_eq_true (by omega)] at c1
          have c2 : bOf (eOp2 (two fGe) (eIxZ (eVar 3) (eVar 8)) (eVar 7)) (sD e) = .ok (decide ((st2 r).2 ≤ (zs[e]).2)) (sD e) := bOf_ok (op2_ok (o := two fGe) (ixZ_ok (x_var (s := sD e) (i := 3) rfl) (x_var (i := 8) rfl) (by
            rw [show (sD e).ce = tri ce zs (ls ++ [r]) from rfl, ix_ints (tri_1 (ce := ce)) (by simpa using hlt)])) (x_var (i := 7) rfl) (by simp [two, dat, fGe]))
          by_cases hge : (st2 r).2 ≤ (zs[e]).2
          · rw [decide_eq_true hge] at c2
            refine .inr ⟨q - 1, sD e, sD (e + 1), by omega, (bAnd_ok c1).trans ((if_pos rfl).trans c2), .inl ?_, e + 1, rfl, by omega, by omega, by omega, fun i h a b => ?_⟩
            · rfl
            · rcases Nat.lt_or_ge i e with h' | h'
              · exact j4 i h a h'
              · have : i = e := by omega
                subst this; exact hge
          · rw [decide_eq_false hge] at c2
            exact .inl ⟨sD e, (bAnd_ok c1).trans ((if_pos rfl).trans c2), e, rfl, j1, j2, j4, fun _ => by omega⟩
        · rw [decide_eq_false (by omega)] at c1
          exact .inl ⟨sD e, (bAnd_ok c1).trans (if_neg Bool.false_ne_true), e, rfl, j1, j2, j4, fun h => absurd h hlt⟩) n zs.length (sD pl) hn ⟨pl, rfl, Nat.le_refl _, p2, by omega, fun i h a b => by omega⟩
    -- the cut of B
    have hBz : B = zs.drop pl := by rw [hAB, ← hAl, List.drop_left]
    obtain ⟨B1, B2, hB12, hB1l, hB1, hB2⟩ := cut_at B (en - pl) (by rw [hBz, List.length_drop]; omega) (p := fun z => (st2 r).2 ≤ z.2) (q := fun z => z.2 < (st2 r).2) (fun i hi h => by
      simp only [hBz, List.getElem_drop]
      rw [hBz, List.length_drop] at hi
      exact g3 (pl + i) (by omega) (by omega) (by omega)) (fun i hi h => by
      simp only [hBz, List.getElem_drop]
      rw [hBz, List.length_drop] at hi
      have hen : en < zs.length := by omega
      have a := g4 hen
      rcases Nat.lt_or_eq_of_le (show en ≤ pl + i by omega) with h' | h'
      · have := (List.pairwise_iff_getElem.mp hS.up) en (pl + i) hen (by omega) h'
        omega
      · subst h'; exact a)
    let zs' := A ++ (st2 r :: B2)
    have hzs : zs = A ++ (B1 ++ B2) := by rw [← hB12]; exact hAB
    have hlen : A.length + B1.length = en := by omega
    have htake : ∀ f : Int × Int → Int, (zs.map f).take pl = A.map f := fun f => by rw [hzs, List.map_append, List.take_left' (by rw [List.length_map, hAl])]
    have hdrop : ∀ f : Int × Int → Int, (zs.map f).drop en = B2.map f := fun f => by rw [hzs, ← List.append_assoc, List.map_append, List.drop_left' (by rw [List.length_map, List.length_append, hlen])]
    have hnew : ∀ f : Int × Int → Int, (((zs.map f).map D.int).map W.d).take pl ++ [.d (.int (f (st2 r)))] ++ (((zs.map f).map D.int).map W.d).drop en = ((zs'.map f).map D.int).map W.d := fun f => by
      rw [← List.map_take, ← List.map_take, ← List.map_drop, ← List.map_drop, htake, hdrop]
      simp [zs']
    have e6 : sSetSl (eVar 2) (eVar 5) (eVar 8) (eLst (aCons (eVar 6) aNil)) (sD en) = .nx ⟨(sD en).sl, ce ++ [intsC (zs'.map (·.1)), intsC (zs.map (·.2)), fnd (ls ++ [r])]⟩ := by
      rw [setSl_ok (a := pl) (b := en) (j := ce.length) (s1 := sD en) (s2 := sD en) (s3 := sD en) (s4 := sD en) (lst_ok (ds := [.int (st2 r).1]) (arg1 (x_var (i := 6) rfl)) rfl (small_le (by simp))) (x_var rfl) (x_var rfl) (x_var rfl) (tri_0 (ce := ce)) g1 (by simpa using g2) (small_le (by simp only [List.length_map, List.length_cons, List.length_nil]; omega))]
      show Fl.nx ⟨_, (ce ++ [intsC (zs.map (·.1)), intsC (zs.map (·.2)), fnd (ls ++ [r])]).set ce.length (some (.lst ((((zs.map (·.1)).map D.int).map W.d).take pl ++ [.d (.int (st2 r).1)] ++ (((zs.map (·.1)).map D.int).map W.d).drop en)))⟩ = _
      rw [hnew (·.1), List.set_append_right _ _ (Nat.le_refl _), Nat.sub_self]
      rfl
    let sE : S := ⟨(sD en).sl, ce ++ [intsC (zs'.map (·.1)), intsC (zs.map (·.2)), fnd (ls ++ [r])]⟩
    have e7 : sSetSl (eVar 3) (eVar 5) (eVar 8) (eLst (aCons (eVar 7) aNil)) sE = .nx (loS ce rs zs' (ls ++ [r]) (some (.d (rowD r))) (some (.d (.int pl))) s6 s7 (some (.d (.int en)))) := by
      have h1' : sE.ce[ce.length + 1]? = some (intsC (zs.map (·.2))) := by
        show (ce ++ _)[ce.length + 1]? = _
        rw [List.getElem?_append_right (by omega)]; simp
      rw [setSl_ok (a := pl) (b := en) (j := ce.length + 1) (s1 := sE) (s2 := sE) (s3 := sE) (s4 := sE) (lst_ok (ds := [.int (st2 r).2]) (arg1 (x_var (i := 7) rfl)) rfl (small_le (by simp))) (x_var rfl) (x_var rfl) (x_var rfl) h1' g1 (by simpa using g2) (small_le (by simp only [List.length_map, List.length_cons, List.length_nil]; omega))]
      show Fl.nx ⟨_, (ce ++ [intsC (zs'.map (·.1)), intsC (zs.map (·.2)), fnd (ls ++ [r])]).set (ce.length + 1) (some (.lst ((((zs.map (·.2)).map D.int).map W.d).take pl ++ [.d (.int (st2 r).2)] ++ (((zs.map (·.2)).map D.int).map W.d).drop en)))⟩ = _
      rw [hnew (·.2), List.set_append_right _ _ (by omega), show ce.length + 1 - ce.length = 1 by omega]
      rfl
    refine ⟨zs', some (.d (.int pl)), s6, s7, some (.d (.int en)), ?_, stairs_put (hzs ▸ hS) hA (fun z hz => hB z (hB12 ▸ hz)) hA2 hB1 hB2, ?_⟩
    · refine (seq_nx e1).trans ((seq_nx e2).trans ((if_ok hcond).trans ?_))
      rw [hd, if_pos (by decide), if_neg Bool.false_ne_true]
      exact (seq_nx e3).trans ((seq_nx e4).trans ((seq_nx e5).trans ((seq_nx e6).trans e7)))
    · simp only [zs', hzs, List.length_append, List.length_cons]; omega
end G

set_option maxHeartbeats 1000000
namespace G
open PySem PySem.Spec PyProof.Rows L2 VL
variable {n : Nat} {ce : List (Option Cell)}
theorem q_least_of {m : Nat} {rs : List (List Int)} (ok : Ok ce) (h1 : 1 ≤ m) (h3 : m ≤ 3) (hl : ∀ r ∈ rs, r.length = m) (hn : rs.length < n) (hz : rs.length ≤ 100) :
    ∃ zs, F_least_of n [.d (.lst (rs.map rowD))] ce = .ok (.c (ce.length + 2)) ⟨[], tri ce zs (sift [] (rs.mergeSort leR))⟩ := by
  let T := rs.mergeSort leR
  have hT : T.length = rs.length := (List.mergeSort_perm rs leR).length_eq
  have hTl : ∀ r ∈ T, r.length = m := fun r hr => hl r (List.mem_mergeSort.mp hr)
  obtain ⟨s', e1, ⟨P, rest, zs, ls, o1, o5, o6, o7, o8, hw, rfl, j1, j2, j3, j4, j5⟩⟩ := loopF_all (p := .nm 1) (kp := []) (body := loBody n)
    (fun ws s => ∃ P rest zs ls o1 o5 o6 o7 o8, ws = (rest : List (List Int)).map (fun r => .w (.d (rowD r))) ∧ s = loS ce rs zs ls o1 o5 o6 o7 o8 ∧ P ++ rest = T ∧ Stairs P zs ∧ ls ++ sift P rest = sift [] T ∧ zs.length ≤ P.length ∧ ls.length ≤ P.length)
    (fun _ _ _ => stay_nil) (fun w r s h => by
      obtain ⟨P, rest, zs, ls, o1, o5, o6, o7, o8, hw, rfl, j1, j2, j3, j4, j5⟩ := h
      cases rest with
      | nil => simp at hw
      | cons q rest =>
        simp only [List.map_cons, List.cons.injEq] at hw
        obtain ⟨rfl, rfl⟩ := hw
        have hPl : P.length + (rest.length + 1) = rs.length := by rw [← hT, ← j1]; simp
        obtain ⟨zs', o5', o6', o7', o8', e1, e2, e3⟩ := lo_step (n := n) (rs := rs) (o5 := o5) (o6 := o6) (o7 := o7) (o8 := o8) ok h1 h3 (hTl q (by rw [← j1]; simp)) j2 (by omega) (by omega) (show ls.length ≤ 100 by omega)
        refine ⟨[(1, .d (rowD q))], _, rfl, .inl e1, P ++ [q], rest, zs', _, some (.d (rowD q)), o5', o6', o7', o8', rfl, rfl, by rw [← j1]; simp, e2, ?_, by rw [List.length_append]; simp only [List.length_cons, List.length_nil]; omega, ?_⟩
        · rw [← j3]
          conv => rhs; unfold sift
          split
          · rfl
          · rw [List.append_assoc]; rfl
        · rw [List.length_append]
          split
          · omega
          · rw [List.length_append]; simp only [List.length_cons, List.length_nil]; omega)
    (T.map fun r => .w (.d (rowD r))) (loS ce rs [] [] none none none none none) ⟨[], T, [], [], none, none, none, none, none, rfl, rfl, rfl, .nil, rfl, Nat.le_refl _, Nat.le_refl _⟩
  have hrest : rest = [] := by cases rest with
    | nil => rfl
    | cons a b => simp at hw
  subst hrest
  rw [show sift P [] = [] from by unfold sift; rfl, List.append_nil] at j3
  subst j3
  refine ⟨zs, ?_⟩
  unfold F_least_of b_least_of
  let s0 : S := entry 9 [.d (.lst (rs.map rowD))] ce
  have c1 : eCell aNil s0 = .ok (.c ce.length) ⟨s0.sl, ce ++ [some (.lst [])]⟩ := cell_ok x_nil (by simp)
  have c2 : eCell aNil ⟨s0.sl, ce ++ [some (.lst [])]⟩ = .ok (.c (ce.length + 1)) ⟨s0.sl, ce ++ [some (.lst []), some (.lst [])]⟩ := by
    rw [cell_ok x_nil (by simp)]
    simp
  have c3 : eCell aNil ⟨s0.sl, ce ++ [some (.lst []), some (.lst [])]⟩ = .ok (.c (ce.length + 2)) ⟨s0.sl, ce ++ [some (.lst []), some (.lst []), some (.lst [])]⟩ := by
    rw [cell_ok x_nil (by simp)]
    simp
  have hp : sPar [2, 3, 4] (aCons (eCell aNil) (aCons (eCell aNil) (aCons (eCell aNil) aNil))) s0 = .nx (loS ce rs [] [] none none none none none) := by
    unfold sPar
    rw [cons_ok c1 (arg2 c2 c3)]
    rfl
  have hf : sFor (.nm 1) (iSeq (eOpN (one fSorted) (aCons (eVar 0) aNil))) (loBody n) (loS ce rs [] [] none none none none none) = .nx (loS ce rs zs (sift [] T) o1 o5 o6 o7 o8) := by
    refine (for_ok (iSeq_ok (opN_ok (arg1 (x_var (i := 0) rfl)) (show one fSorted _ [W.d (.lst (rs.map rowD))] = some (.lst (T.map rowD)) from srt_rows h1 hl)) rfl)).trans ?_
    rw [show (T.map fun r => VL.Itm.w (.d (rowD r))) = (T.map rowD).map fun d => VL.Itm.w (.d d) by rw [List.map_map]; rfl] at e1
    exact e1
  simp only
  rw [seq_nx (show _ = Fl.nx _ from hp), seq_nx hf, ret_ok (x_var (i := 4) rfl)]
  rfl
theorem seqD_kd {x : D} {ds : List D} (h : seqD x = some ds) : kd x = true := by
  cases x <;> first | rfl | cases h
/-- checked amounts, where all are -/
theorem loop_numFrom {p : Pat} {kp : List (Nat × Cell)} {body : S → Fl} (Q : Nat → D → Prop) (J : S → Prop) (hst : ∀ s, J s → Stay kp s.ce)
    (hstep : ∀ i d s, Q i d → J s → ∃ bs s2, bindsI p (.pr [.d (.int (i : Nat)), .d d]) s.ce = some bs ∧ body ⟨setSls s.sl bs, s.ce⟩ = .nx s2 ∧ J s2) :
    ∀ (ds : List D) (i : Nat) (ys : List VL.Itm) (s : S), (∀ j (h : j < ds.length), Q (i + j) ds[j]) → J s → ∃ s', loopF p kp body (numFrom i (ds.map W.d) ++ ys) s = loopF p kp body ys s' ∧ J s'
  | [], i, ys, s, _, hj => ⟨s, rfl, hj⟩
  | d :: r, i, ys, s, hq, hj => by
    obtain ⟨bs, s2, h1, h2, h3⟩ := hstep i d s (hq 0 (by simp)) hj
    obtain ⟨s', e1, e2⟩ := loop_numFrom Q J hst hstep r (i + 1) ys s2 (fun j h => by have := hq (j + 1) (by simpa using h); simpa [Nat.add_assoc, Nat.add_comm 1 j] using this) h3
    refine ⟨s', ?_, e2⟩
    rw [← e1]
    show loopF p kp body (.pr [.d (.int (i : Nat)), .d d] :: (numFrom (i + 1) (r.map W.d) ++ ys)) s = _
    conv => lhs; unfold loopF
    rw [if_pos (hst s hj)]
    simp only [h1, h2]
theorem numFrom_app : ∀ (i : Nat) (a b : List W), numFrom i (a ++ b) = numFrom i a ++ numFrom (i + a.length) b
  | i, [], b => rfl
  | i, x :: a, b => by
    simp only [List.cons_append, numFrom, numFrom_app (i + 1) a b, List.length_cons]
    rw [show i + 1 + a.length = i + (a.length + 1) by omega]
noncomputable abbrev caBody (n : Nat) : S → Fl := (sIf (bOr (bNot (bTru (eCall (F_is_amount n) (aCons (eVar 2) aNil)))) (bOf (eOp2 (two fNe) (eOpN lenN (aCons (eVar 2) aNil)) (eOpN lenN (aCons (eIxZ (eVar 0) (eC (.int 0))) aNil))))) (sRaise1 "BadAmounts" "index" (eVar 1)) sNext)
abbrev caS (ce : List (Option Cell)) (x : D) (o1 o2 : Option W) : S := ⟨[some (.d x), o1, o2], ce⟩
structure Amt (m : Nat) (r : List Int) : Prop where
  len : r.length = m
  nn : ∀ x ∈ r, 0 ≤ x
theorem amt_kd {r : List Int} : ∀ ds, some (r.map D.int) = some ds → ds.all kd = true := fun ds e => by
  cases e
  rw [List.all_map]
  exact List.all_eq_true.mpr fun _ _ => rfl
theorem amt_B {m : Nat} (h1 : 1 ≤ m) (h3 : m ≤ 3) {r : List Int} {d : D} (hr : Amt m r) (hd : SeqR r d) : amtB d = true := by
  unfold amtB
  rw [show seqD d = some (r.map .int) from hd]
  simp only [List.length_map, hr.len, decide_eq_true h1, decide_eq_true h3, Bool.true_and, List.all_map]
  exact List.all_eq_true.mpr fun x hx => decide_eq_true (hr.nn x hx)
theorem q_amt {m : Nat} (ok : Ok ce) (h1 : 1 ≤ m) (h3 : m ≤ 3) {r : List Int} {d : D} (hr : Amt m r) (hd : SeqR r d) : F_is_amount n [.d d] ce = .ok (.d (.bl true)) ⟨[], ce⟩ := by
  rw [q_is_amount ok (seqD_kd hd) (fun ds e => amt_kd ds ((show seqD d = some (r.map .int) from hd).symm.trans e)), amt_B h1 h3 hr hd]
theorem ca_good {m : Nat} {x d f : D} {i : Nat} {r q : List Int} (ok : Ok ce) (h1 : 1 ≤ m) (h3 : m ≤ 3) (hr : Amt m r) (hd : SeqR r d) (hf : ixZ ce (.d x) (.d (.int 0)) = some (.d f)) (hq : SeqR q f) (hql : q.length = m) :
    caBody n (caS ce x (some (.d (.int (i : Nat)))) (some (.d d))) = .nx (caS ce x (some (.d (.int (i : Nat)))) (some (.d d))) := by
  let s : S := caS ce x (some (.d (.int (i : Nat)))) (some (.d d))
  have l1 : eOpN lenN (aCons (eVar 2) aNil) s = .ok (.d (.int (m : Nat))) s := opN_ok (arg1 (x_var (i := 2) rfl)) (by rw [seq_len (show seqD d = some (r.map .int) from hd), List.length_map, hr.len])
  have l2 : eOpN lenN (aCons (eIxZ (eVar 0) (eC (.int 0))) aNil) s = .ok (.d (.int (m : Nat))) s := opN_ok (arg1 (ixZ_ok (x_var (i := 0) rfl) x_C hf)) (by rw [seq_len (show seqD f = some (q.map .int) from hq), List.length_map, hql])
  have hne : two fNe s.ce (.d (.int (m : Nat))) (.d (.int (m : Nat))) = some (.bl false) := by
    show some (D.bl (!((m : Int) == m))) = _
    rw [beq_self_eq_true]; rfl
  refine (if_ok ((bOr_ok (bNot_ok (bTru_bl (call_ok (arg1 (x_var (s := s) (i := 2) rfl)) (q_amt ok h1 h3 hr hd))))).trans ((if_neg (by decide)).trans (bOf_ok (op2_ok l1 l2 hne))))).trans ?_
  rw [if_neg Bool.false_ne_true]; rfl
theorem raise_ok {c nm : Str} {fa : S → Out W} {s s' : S} {w : W} (h : fa s = .ok w s') : sRaise1 c nm fa s = .exc c [nm] [w] s' := by unfold sRaise1; rw [h]; rfl
theorem ca_bad {x d : D} {i : Nat} (ok : Ok ce) (hk : kd d = true) (hk2 : ∀ ds, seqD d = some ds → ds.all kd = true) (hb : amtB d = false) :
    caBody n (caS ce x (some (.d (.int (i : Nat)))) (some (.d d))) = .exc "BadAmounts" ["index"] [.d (.int (i : Nat))] (caS ce x (some (.d (.int (i : Nat)))) (some (.d d))) := by
  let s : S := caS ce x (some (.d (.int (i : Nat)))) (some (.d d))
  have h := q_is_amount (n := n) ok hk hk2
  rw [hb] at h
  refine (if_ok ((bOr_ok (bNot_ok (bTru_bl (call_ok (arg1 (x_var (s := s) (i := 2) rfl)) h)))).trans (if_pos (by decide)))).trans ?_
  rw [if_pos rfl]
  exact raise_ok (x_var (i := 1) rfl)
theorem ca_long {m l : Nat} {x d f : D} {i : Nat} {r q : List Int} (ok : Ok ce) (h1 : 1 ≤ l) (h3 : l ≤ 3) (hr : Amt l r) (hd : SeqR r d) (hf : ixZ ce (.d x) (.d (.int 0)) = some (.d f)) (hq : SeqR q f) (hql : q.length = m) (hml : l ≠ m) :
    caBody n (caS ce x (some (.d (.int (i : Nat)))) (some (.d d))) = .exc "BadAmounts" ["index"] [.d (.int (i : Nat))] (caS ce x (some (.d (.int (i : Nat)))) (some (.d d))) := by
  let s : S := caS ce x (some (.d (.int (i : Nat)))) (some (.d d))
  have l1 : eOpN lenN (aCons (eVar 2) aNil) s = .ok (.d (.int (l : Nat))) s := opN_ok (arg1 (x_var (i := 2) rfl)) (by rw [seq_len (show seqD d = some (r.map .int) from hd), List.length_map, hr.len])
  have l2 : eOpN lenN (aCons (eIxZ (eVar 0) (eC (.int 0))) aNil) s = .ok (.d (.int (m : Nat))) s := opN_ok (arg1 (ixZ_ok (x_var (i := 0) rfl) x_C hf)) (by rw [seq_len (show seqD f = some (q.map .int) from hq), List.length_map, hql])
  have hne : two fNe s.ce (.d (.int (l : Nat))) (.d (.int (m : Nat))) = some (.bl true) := by
    show some (D.bl (!((l : Int) == m))) = _
    rw [beq_eq_false_iff_ne.mpr (by omega)]; rfl
  refine (if_ok ((bOr_ok (bNot_ok (bTru_bl (call_ok (arg1 (x_var (s := s) (i := 2) rfl)) (q_amt ok h1 h3 hr hd))))).trans ((if_neg (by decide)).trans (bOf_ok (op2_ok l1 l2 hne))))).trans ?_
  rw [if_pos rfl]
  exact raise_ok (x_var (i := 1) rfl)
theorem each_get {α β : Type} {Q : α → β → Prop} {a : List α} {b : List β} (h : Each Q a b) : ∀ j (hj : j < b.length), ∃ x ∈ a, Q x b[j] := by
  induction h with
  | nil => intro j hj; simp at hj
  | @cons x as y bs h1 _ ih =>
    intro j hj
    cases j with
    | zero => exact ⟨x, List.mem_cons_self, h1⟩
    | succ j =>
      obtain ⟨z, hz, q⟩ := ih j (by simpa using hj)
      exact ⟨z, List.mem_cons_of_mem _ hz, q⟩
theorem ix_seq {x f : D} {gs : List D} (h : seqD x = some (f :: gs)) : ixZ ce (.d x) (.d (.int 0)) = some (.d f) := by
  cases x <;> simp only [seqD, Option.some.injEq, reduceCtorEq] at h <;> subst h
  · show (atI (f :: gs) 0).map W.d = _
    rw [atI_0]; rfl
  · show (atI (f :: gs) 0).map W.d = _
    rw [atI_0]; rfl
theorem seqW_seq {x : D} {gs : List D} (h : seqD x = some gs) : seqW (.d x) ce = some (gs.map .d, []) := by
  cases x <;> simp only [seqD, Option.some.injEq, reduceCtorEq] at h <;> subst h <;> rfl
theorem islist_if {x : D} {s : S} (h : kd x = true) (hs : s.sl[0]? = some (some (.d x))) (ok : Ok s.ce) : bNot (bTru (eCall (F_is_list n) (aCons (eVar 0) aNil))) s = .ok (!listB x) s :=
  bNot_ok (bTru_bl (call_ok (arg1 (x_var hs)) (q_is_list ok h)))
theorem seqD_list {x : D} {gs : List D} (h : seqD x = some gs) : listB x = true := by cases x <;> first | rfl | cases h
/-- a run over good amounts -/
theorem ca_run {m : Nat} {x f : D} {rs : List (List Int)} {gs : List D} {q : List Int} (ok : Ok ce) (h1 : 1 ≤ m) (h3 : m ≤ 3) (hrs : ∀ r ∈ rs, Amt m r) (he : Each SeqR rs gs) (hf : ixZ ce (.d x) (.d (.int 0)) = some (.d f)) (hq : SeqR q f) (hql : q.length = m) (ys : List VL.Itm) (o1 o2 : Option W) :
    ∃ o1' o2', loopF (.tp [(.nm 1), (.nm 2)]) [] (caBody n) (numFrom 0 (gs.map W.d) ++ ys) (caS ce x o1 o2) = loopF (.tp [(.nm 1), (.nm 2)]) [] (caBody n) ys (caS ce x o1' o2') := by
  obtain ⟨s', e1, o1', o2', rfl⟩ := loop_numFrom (p := .tp [(.nm 1), (.nm 2)]) (kp := []) (body := caBody n) (fun _ d => ∃ r, Amt m r ∧ SeqR r d) (fun s => ∃ o1 o2, s = caS ce x o1 o2) (fun _ _ => stay_nil) (fun i d s hd hs => by
      obtain ⟨r, hr, hd⟩ := hd
      obtain ⟨o1, o2, rfl⟩ := hs
      exact ⟨[(1, .d (.int (i : Nat))), (2, .d d)], _, rfl, ca_good ok h1 h3 hr hd hf hq hql, _, _, rfl⟩) gs 0 ys (caS ce x o1 o2) (fun j hj => by
      obtain ⟨r, hr, hd⟩ := each_get he j hj
      exact ⟨r, hrs r hr, hd⟩) ⟨o1, o2, rfl⟩
  exact ⟨o1', o2', e1⟩
theorem somes_tuples {rs : List (List Int)} {gs : List D} (h : Each SeqR rs gs) : somes ((gs.map fun d => VL.Itm.w (.d d)).map fun w => match w with | .w (.d d) => fTuple d | _ => none) = rs.map rowD := by
  induction h with
  | nil => rfl
  | cons h1 _ ih =>
    simp only [List.map_cons, h1.ft, somes]
    rw [← ih]
theorem q_checked {m : Nat} {x : D} {rs : List (List Int)} {gs : List D} (ok : Ok ce) (h1 : 1 ≤ m) (h3 : m ≤ 3) (hx : seqD x = some gs) (he : Each SeqR rs gs) (hrs : ∀ r ∈ rs, Amt m r) (hz : rs.length ≤ 100) :
    F_checked_amounts n [.d x] ce = .ok (.d (.lst (rs.map rowD))) ⟨[], ce⟩ := by
  have hlen := each_len he
  let s : S := entry 3 [.d x] ce
  have e1 : sIf (bNot (bTru (eCall (F_is_list n) (aCons (eVar 0) aNil)))) (sRaise1 "BadAmounts" "index" (eC (.int 0))) sNext s = .nx s := by
    refine (if_ok (islist_if (seqD_kd hx) rfl ok)).trans ?_
    rw [seqD_list hx]; rfl
  have e2 : ∃ o1 o2, sFor (.tp [(.nm 1), (.nm 2)]) (iEnum (aCons (eVar 0) aNil)) (caBody n) s = .nx (caS ce x o1 o2) := by
    have hf := for_ok (p := .tp [(.nm 1), (.nm 2)]) (body := caBody n) (iEnum_ok (arg1 (x_var (s := s) (i := 0) rfl)) (seqW_seq hx))
    simp only at hf
    cases he with
    | nil =>
      refine ⟨none, none, hf.trans ?_⟩
      show loopF _ [] _ [] _ = _
      unfold loopF
      rw [if_pos stay_nil]; rfl
    | @cons r rs' g gs' hr0 he' =>
      obtain ⟨o1, o2, h⟩ := ca_run (n := n) (x := x) (ys := []) (o1 := none) (o2 := none) ok h1 h3 hrs (.cons hr0 he') (ix_seq hx) hr0 (hrs r List.mem_cons_self).len
      rw [List.append_nil] at h
      refine ⟨o1, o2, hf.trans (h.trans ?_)⟩
      unfold loopF
      rw [if_pos stay_nil]
  obtain ⟨o1, o2, e2⟩ := e2
  have el := eLc_pure (s := caS ce x o1 o2) (vs := [2]) (p := .nm 2) (fi := iSeq (eVar 0)) (ft := bYes) (fe := eOpN (one fTuple) (aCons (eVar 2) aNil)) (iSeq_ok (x_var (i := 0) rfl) (seq_src hx)) (fun w => match w with | .w (.d d) => fTuple d | _ => none) (fun _ => stay_nil) (fun w hw c hc => by
    obtain ⟨d, hd, rfl⟩ := List.mem_map.mp hw
    obtain ⟨r, hr⟩ := each_of_mem he hd
    refine ⟨[(2, .d d)], rfl, rfl, ?_⟩
    simp only [hr.ft]
    exact ⟨_, _, rfl, opN_ok (arg1 (x_var (i := 2) rfl)) hr.ft, rfl⟩) (by simp only [List.length_map]; exact small_le (by omega)) ok
  rw [somes_tuples he] at el
  unfold F_checked_amounts b_checked_amounts
  rw [seq_nx (show _ = Fl.nx s from e1), seq_nx (show _ = Fl.nx _ from e2), ret_ok el]
  exact shut_rt List.take_length ok
/-- no list -/
theorem q_checked_no {x : D} (ok : Ok ce) (hk : kd x = true) (hx : listB x = false) : F_checked_amounts n [.d x] ce = .exc "BadAmounts" ["index"] [.d (.int 0)] ⟨[], ce⟩ := by
  let s : S := entry 3 [.d x] ce
  have e1 : sIf (bNot (bTru (eCall (F_is_list n) (aCons (eVar 0) aNil)))) (sRaise1 "BadAmounts" "index" (eC (.int 0))) sNext s = .exc "BadAmounts" ["index"] [.d (.int 0)] s := by
    refine (if_ok (islist_if hk rfl ok)).trans ?_
    rw [hx, if_pos (by decide)]
    exact raise_ok x_C
  unfold F_checked_amounts b_checked_amounts
  rw [seq_exc e1]
  exact shut_exc (ds := [.int 0]) List.take_length ok
/-- one that is none behind good ones -/
theorem q_checked_bad {m : Nat} {rs : List (List Int)} {bad : D} {rest : List D} (ok : Ok ce) (h1 : 1 ≤ m) (h3 : m ≤ 3) (hrs : ∀ r ∈ rs, Amt m r)
    (hb : (kd bad = true ∧ (∀ ds, seqD bad = some ds → ds.all kd = true) ∧ amtB bad = false) ∨ (rs ≠ [] ∧ ∃ l r, 1 ≤ l ∧ l ≤ 3 ∧ l ≠ m ∧ Amt l r ∧ SeqR r bad)) :
    F_checked_amounts n [.d (.lst (rs.map rowD ++ bad :: rest))] ce = .exc "BadAmounts" ["index"] [.d (.int (rs.length : Nat))] ⟨[], ce⟩ := by
  let x : D := .lst (rs.map rowD ++ bad :: rest)
  let s : S := entry 3 [.d x] ce
  have he : Each SeqR rs (rs.map rowD) := by
    clear hrs hb
    induction rs with
    | nil => exact .nil
    | cons r q ih => exact .cons rfl ih
  have e1 : sIf (bNot (bTru (eCall (F_is_list n) (aCons (eVar 0) aNil)))) (sRaise1 "BadAmounts" "index" (eC (.int 0))) sNext s = .nx s := (if_ok (islist_if (x := x) rfl rfl ok)).trans rfl
  have hf := for_ok (p := .tp [(.nm 1), (.nm 2)]) (body := caBody n) (iEnum_ok (arg1 (x_var (s := s) (i := 0) rfl)) (seqW_seq (x := x) rfl))
  simp only at hf
  have hsplit : numFrom 0 ((rs.map rowD ++ bad :: rest).map W.d) = numFrom 0 ((rs.map rowD).map W.d) ++ (.pr [.d (.int (rs.length : Nat)), .d bad] :: numFrom (rs.length + 1) (rest.map W.d)) := by
    rw [List.map_append, numFrom_app]
    simp [numFrom]
  have e2 : ∃ o1 o2, sFor (.tp [(.nm 1), (.nm 2)]) (iEnum (aCons (eVar 0) aNil)) (caBody n) s = .exc "BadAmounts" ["index"] [.d (.int (rs.length : Nat))] (caS ce x o1 o2) := by
    have one : ∀ (o1 o2 : Option W), (caBody n (caS ce x (some (.d (.int (rs.length : Nat)))) (some (.d bad))) = .exc "BadAmounts" ["index"] [.d (.int (rs.length : Nat))] (caS ce x (some (.d (.int (rs.length : Nat)))) (some (.d bad)))) →
        loopF (.tp [(.nm 1), (.nm 2)]) [] (caBody n) (.pr [.d (.int (rs.length : Nat)), .d bad] :: numFrom (rs.length + 1) (rest.map W.d)) (caS ce x o1 o2) = .exc "BadAmounts" ["index"] [.d (.int (rs.length : Nat))] (caS ce x (some (.d (.int (rs.length : Nat)))) (some (.d bad))) := by
      intro o1 o2 h
      unfold loopF
      rw [if_pos stay_nil]
      simp only [bindsI, bindsL, binds, List.append_nil, List.cons_append, List.nil_append]
      rw [show (⟨setSls [some (.d x), o1, o2] [(1, .d (.int (rs.length : Nat))), (2, .d bad)], ce⟩ : S) = caS ce x (some (.d (.int (rs.length : Nat)))) (some (.d bad)) from rfl, h]
    have hbody : ∀ (f : D) (q : List Int), (rs ≠ [] → ixZ ce (.d x) (.d (.int 0)) = some (.d f) ∧ SeqR q f ∧ q.length = m) → caBody n (caS ce x (some (.d (.int (rs.length : Nat)))) (some (.d bad))) = .exc "BadAmounts" ["index"] [.d (.int (rs.length : Nat))] (caS ce x (some (.d (.int (rs.length : Nat)))) (some (.d bad))) := by
      intro f q hfq
      rcases hb with ⟨b1, b2, b3⟩ | ⟨hne, l, r, l1, l3, lm, hr, hd⟩
      · exact ca_bad ok b1 b2 b3
      · obtain ⟨a, b, c⟩ := hfq hne
        exact ca_long ok l1 l3 hr hd a b c lm
    cases rs with
    | nil =>
      refine ⟨some (.d (.int (0 : Nat))), some (.d bad), hf.trans ?_⟩
      · rw [hsplit]
        exact one none none (hbody bad [] (fun h => absurd rfl h))
    | cons r0 rs' =>
      have hx0 : ixZ ce (.d x) (.d (.int 0)) = some (.d (rowD r0)) := ix_seq (x := x) (gs := rs'.map rowD ++ bad :: rest) rfl
      have hl0 := (hrs r0 List.mem_cons_self).len
      obtain ⟨o1, o2, h⟩ := ca_run (n := n) (x := x) (ys := .pr [.d (.int ((r0 :: rs').length : Nat)), .d bad] :: numFrom ((r0 :: rs').length + 1) (rest.map W.d)) (o1 := none) (o2 := none) ok h1 h3 hrs he hx0 rfl hl0
      refine ⟨some (.d (.int ((r0 :: rs').length : Nat))), some (.d bad), hf.trans ?_⟩
      · rw [hsplit]
        exact h.trans (one o1 o2 (hbody (rowD r0) r0 fun _ => ⟨hx0, rfl, hl0⟩))
  obtain ⟨o1, o2, e2⟩ := e2
  unfold F_checked_amounts b_checked_amounts
  rw [seq_nx (show _ = Fl.nx s from e1), seq_exc (show _ = Fl.exc _ _ _ _ from e2)]
  exact shut_exc (ds := [.int (rs.length : Nat)]) List.take_length ok
end G

set_option maxHeartbeats 1000000
namespace G
open PySem PySem.Spec PyProof.Rows L2 VL
variable {n : Nat} {ce : List (Option Cell)}
theorem q_least_rows {m : Nat} {x : D} {rs : List (List Int)} {gs : List D} (ok : Ok ce) (h1 : 1 ≤ m) (h3 : m ≤ 3) (hx : seqD x = some gs) (he : Each SeqR rs gs) (hrs : ∀ r ∈ rs, Amt m r) (hn : rs.length < n) (hz : rs.length ≤ 100) :
    ∃ zs, F_least_rows n [.d x] ce = .ok (.c (ce.length + 2)) ⟨[], tri ce zs (sift [] (rs.mergeSort leR))⟩ := by
  obtain ⟨zs, e⟩ := q_least_of (n := n) ok h1 h3 (fun r hr => (hrs r hr).len) hn hz
  refine ⟨zs, ?_⟩
  unfold F_least_rows b_least_rows
  simp only
  rw [ret_ok (call_ok (arg1 (call_ok (arg1 (x_var (s := entry 1 [.d x] ce) (i := 0) rfl)) (q_checked ok h1 h3 hx he hrs hz))) e)]
  rfl
theorem q_told_rows {m : Nat} {x : D} {rs : List (List Int)} {gs : List D} (ok : Ok ce) (h1 : 1 ≤ m) (h3 : m ≤ 3) (hx : seqD x = some gs) (he : Each SeqR rs gs) (hrs : ∀ r ∈ rs, Amt m r) (hn : rs.length < n) (hz : rs.length ≤ 100) :
    ∃ zs, F__law_told_rows n [.d x] ce = .ok (.c (ce.length + 3)) ⟨[], tri ce zs (sift [] (rs.mergeSort leR)) ++ [some (.lst [.d (.str "told"), .c (ce.length + 2)])]⟩ := by
  obtain ⟨zs, e⟩ := q_least_rows (n := n) ok h1 h3 hx he hrs hn hz
  refine ⟨zs, ?_⟩
  let s : S := entry 3 [.d x] ce
  have e1 := set_ok (i := 2) (cell_ok (arg2 (x_C (d := .str "told") (s := s)) (call_ok (arg1 (x_var (i := 0) rfl)) e)) (small_le (by simp)))
  have e2 : sTry (mtE EC) (sSet 2 (eCell (aCons (eC (.str "told")) (aCons (eCall (F_least_rows n) (aCons (eVar 0) aNil)) aNil)))) (("BadAmounts", hAsgL 1 2 "BadAmounts" "index" "refused") :: []) s = .nx ⟨[some (.d x), none, some (.c (ce.length + 3))], tri ce zs (sift [] (rs.mergeSort leR)) ++ [some (.lst [.d (.str "told"), .c (ce.length + 2)])]⟩ := by
    unfold sTry
    rw [e1]
    simp only
    show Fl.nx ⟨[some (.d x), none, some (.c (tri ce zs (sift [] (rs.mergeSort leR))).length)], _⟩ = _
    rw [List.length_append]
    rfl
  unfold F__law_told_rows b__law_told_rows
  simp only
  rw [seq_nx (show _ = Fl.nx _ from e2), ret_ok (x_var (i := 2) rfl)]
  rfl
theorem q_refused {x : D} {i : Int} (h : F_checked_amounts n [.d x] ce = .exc "BadAmounts" ["index"] [.d (.int i)] ⟨[], ce⟩) :
    F__law_told_rows n [.d x] ce = .ok (.d (.lst [.str "refused", .int i])) ⟨[], ce⟩ := by
  let s : S := entry 3 [.d x] ce
  have hl : F_least_rows n [.d x] ce = .exc "BadAmounts" ["index"] [.d (.int i)] ⟨[], ce⟩ := by
    unfold F_least_rows b_least_rows
    have h1 := call_exc (G := F_checked_amounts n) (arg1 (x_var (s := entry 1 [.d x] ce) (i := 0) rfl)) h
    simp only [sRet, eCall, aCons, aNil] at h1 ⊢
    rw [show (entry 1 [.d x] ce) = (⟨[some (.d x)], ce⟩ : S) from rfl] at h1 ⊢
    simp only [eCall, aCons] at h1
    rw [h1]
    rfl
  have h2 := call_exc (G := F_least_rows n) (arg1 (x_var (s := s) (i := 0) rfl)) hl
  have e1 : sSet 2 (eCell (aCons (eC (.str "told")) (aCons (eCall (F_least_rows n) (aCons (eVar 0) aNil)) aNil))) s = .exc "BadAmounts" ["index"] [.d (.int i)] s := by
    unfold sSet eCell
    rw [show aCons (eC (.str "told")) (aCons (eCall (F_least_rows n) (aCons (eVar 0) aNil)) aNil) s = .exc "BadAmounts" ["index"] [.d (.int i)] s by
      unfold aCons
      rw [x_C]
      simp only [Out.bind_ok]
      rw [show (fun s => (eVar 0 s).bind fun x s1 => (aNil s1).bind fun xs s2 => Out.ok (x :: xs) s2) = aCons (eVar 0) aNil from rfl, h2]
      rfl]
    rfl
  have e2 : sTry (mtE EC) (sSet 2 (eCell (aCons (eC (.str "told")) (aCons (eCall (F_least_rows n) (aCons (eVar 0) aNil)) aNil)))) (("BadAmounts", hAsgL 1 2 "BadAmounts" "index" "refused") :: []) s = .nx ⟨[some (.d x), none, some (.d (.lst [.str "refused", .int i]))], ce⟩ := by
    unfold sTry
    rw [e1]
    simp only [pick]
    rw [if_pos (by decide +kernel)]
    unfold hAsgL
    rw [if_pos ⟨rfl, rfl, by simp [s, entry]⟩]
    rfl
  unfold F__law_told_rows b__law_told_rows
  simp only
  rw [seq_nx (show _ = Fl.nx _ from e2), ret_ok (x_var (i := 2) rfl)]
  rfl
/-! ### most, dot -/
theorem somes_zip {f : Int → Int → D} (g : VL.Itm → Option D) (hg : ∀ a b, g (.pr [.d (.int a), .d (.int b)]) = some (f a b)) : ∀ (r q : List Int), somes (((((r.map D.int).map W.d).zip ((q.map D.int).map W.d)).map fun p => VL.Itm.pr [p.1, p.2]).map g) = List.zipWith f r q
  | [], _ => rfl
  | _ :: _, [] => rfl
  | a :: r, b :: q => by
    have := somes_zip g hg r q
    simp only [List.map_cons, List.zip_cons_cons, hg, somes, this, List.zipWith_cons_cons]
theorem zip_lc {x y : D} {a b : List Int} {sl : List (Option W)} {fe : S → Out W} (f : Int → Int → D) (ok : Ok ce) (hx : SeqR a x) (hy : SeqR b y) (h0 : sl[0]? = some (some (.d x))) (h1 : sl[1]? = some (some (.d y))) (hz : a.length ≤ 1000)
    (hf : ∀ i ∈ a, ∀ j ∈ b, ∀ c, fe ⟨setSls (wipeS sl [2, 3]) [(2, .d (.int i)), (3, .d (.int j))], c⟩ = .ok (.d (f i j)) ⟨setSls (wipeS sl [2, 3]) [(2, .d (.int i)), (3, .d (.int j))], c⟩) :
    eLc [2, 3] (.tp [(.nm 2), (.nm 3)]) (iZip (aCons (eVar 0) (aCons (eVar 1) aNil))) bYes fe ⟨sl, ce⟩ = .ok (.d (.lst (List.zipWith f a b))) ⟨sl, ce⟩ := by
  have el := eLc_pure (s := ⟨sl, ce⟩) (sl := sl) (ce := ce) (vs := [2, 3]) (p := .tp [(.nm 2), (.nm 3)]) (ft := bYes) (fe := fe) (iZip_ok (arg2 (x_var h0) (x_var h1)) (seqW_seq hx) (seqW_seq hy)) (fun w => match w with | .pr [.d (.int a), .d (.int b)] => some (f a b) | _ => none) (fun _ => stay_nil) (fun w hw c hc => by
    obtain ⟨⟨p, q⟩, hpq, rfl⟩ := List.mem_map.mp hw
    obtain ⟨p1, hp1, rfl⟩ := List.mem_map.mp (List.of_mem_zip hpq).1
    obtain ⟨q1, hq1, rfl⟩ := List.mem_map.mp (List.of_mem_zip hpq).2
    obtain ⟨i, hi, rfl⟩ := List.mem_map.mp hp1
    obtain ⟨j, hj, rfl⟩ := List.mem_map.mp hq1
    exact ⟨[(2, .d (.int i)), (3, .d (.int j))], rfl, rfl, _, _, rfl, hf i hi j hj c, rfl⟩) (by simp only [List.length_map, List.length_zip]; exact small_le (by omega)) ok
  rw [el]
  simp only
  rw [somes_zip (f := f) _ (fun _ _ => rfl)]
theorem q_most {a b : List Int} (ok : Ok ce) (hz : a.length ≤ 1000) : F__law_most n [.d (rowD a), .d (rowD b)] ce = .ok (.d (.bl (most a b))) ⟨[], ce⟩ := by
  refine tells ok (s' := entry 4 [.d (rowD a), .d (rowD b)] ce) ?_
  refine opN_ok (arg1 (zip_lc (sl := [some (.d (rowD a)), some (.d (rowD b)), none, none]) (fe := eOp2 (two fLe) (eVar 2) (eVar 3)) (x := rowD a) (y := rowD b) (a := a) (b := b) (fun i j => .bl (decide (i ≤ j))) ok rfl rfl rfl rfl hz (fun i _ j _ c => op2_ok (x_var (i := 2) rfl) (x_var (i := 3) rfl) rfl))) ?_
  show fAll (.lst _) = _
  rw [show List.zipWith (fun i j : Int => D.bl (decide (i ≤ j))) a b = (List.zipWith (fun i j : Int => decide (i ≤ j)) a b).map D.bl by rw [List.map_zipWith]]
  simp only [fAll, bls_map, Option.map_some]
  rfl
def dotI (a b : List Int) : Int := (List.zipWith (fun i j => i * j) a b).sum
theorem prod_lc {x y : D} {a b : List Int} {sl : List (Option W)} (ok : Ok ce) (hx : SeqR a x) (hy : SeqR b y) (h0 : sl[0]? = some (some (.d x))) (h1 : sl[1]? = some (some (.d y))) (hl : sl.length = 4) (hz : a.length ≤ 1000) (ha : ∀ i ∈ a, 0 ≤ i ∧ i ≤ 4000000000) :
    eOpN (one fSum) (aCons (eLc [2, 3] (.tp [(.nm 2), (.nm 3)]) (iZip (aCons (eVar 0) (aCons (eVar 1) aNil))) bYes (eOp2 (two fMul) (eVar 2) (eVar 3))) aNil) ⟨sl, ce⟩ = .ok (.d (.int (dotI a b))) ⟨sl, ce⟩ := by
  match sl, hl with
  | [o0, o1, o2, o3], _ =>
    refine opN_ok (arg1 (zip_lc (fun i j => .int (i * j)) ok hx hy h0 h1 hz (fun i hi j _ c => op2_ok (x_var (i := 2) rfl) (x_var (i := 3) rfl) (fMul_l i (by have := ha i hi; omega))))) ?_
    show fSum (.lst _) = _
    rw [show List.zipWith (fun i j : Int => D.int (i * j)) a b = (List.zipWith (fun i j : Int => i * j) a b).map D.int by rw [List.map_zipWith]]
    simp only [fSum, intsD_map, Option.map_some]
    rfl
theorem q_dot {x y : D} {a b : List Int} (ok : Ok ce) (hx : SeqR a x) (hy : SeqR b y) (hz : a.length ≤ 1000) (ha : ∀ i ∈ a, 0 ≤ i ∧ i ≤ 4000000000) : F__law_dot n [.d x, .d y] ce = .ok (.d (.int (dotI a b))) ⟨[], ce⟩ :=
  tells ok (s' := entry 4 [.d x, .d y] ce) (prod_lc ok hx hy rfl rfl rfl hz ha)
theorem q_product {x y : D} {a b : List Int} (ok : Ok ce) (hx : SeqR a x) (hy : SeqR b y) (hz : a.length ≤ 1000) (ha : ∀ i ∈ a, 0 ≤ i ∧ i ≤ 4000000000) : F_product_of n [.d x, .d y] ce = .ok (.d (.int (dotI a b))) ⟨[], ce⟩ :=
  tells ok (s' := entry 4 [.d x, .d y] ce) (prod_lc ok hx hy rfl rfl rfl hz ha)
end G

set_option maxHeartbeats 1000000
namespace G
open PySem PySem.Spec PyProof.Rows L2 VL
variable {n : Nat} {ce : List (Option Cell)}
/-! ### prices and costs -/
theorem fold_pos : ∀ (ns : List Int) (n : Int), 0 < ns.foldl max n ↔ 0 < n ∨ ∃ x ∈ ns, 0 < x
  | [], n => by simp
  | x :: r, n => by
    simp only [List.foldl_cons, fold_pos r, List.mem_cons]
    constructor
    · rintro (h | ⟨y, hy, h⟩)
      · rcases Int.lt_or_le 0 n with h' | h'
        · exact .inl h'
        · exact .inr ⟨x, .inl rfl, by omega⟩
      · exact .inr ⟨y, .inr hy, h⟩
    · rintro (h | ⟨y, rfl | hy, h⟩)
      · exact .inl (by omega)
      · exact .inl (by omega)
      · exact .inr ⟨y, hy, h⟩
theorem max_seq {p : List Int} {x : D} {a : Int} {r : List Int} (h : SeqR p x) (hp : p = a :: r) : fMaxN ce [.d x] = some (.int (r.foldl max a)) := by
  subst hp
  unfold SeqR at h
  cases x <;> simp only [seqD, Option.some.injEq, reduceCtorEq] at h <;> subst h
  · show (match intsD ((a :: r).map D.int) with | some (n :: ns) => some (D.int (ns.foldl max n)) | _ => none) = _
    rw [intsD_map]
  · show (match intsD ((a :: r).map D.int) with | some (n :: ns) => some (D.int (ns.foldl max n)) | _ => none) = _
    rw [intsD_map]
theorem q_is_prices {m : Nat} {p : List Int} {x : D} {b : Bool} (ok : Ok ce) (h1 : 1 ≤ m) (h3 : m ≤ 3) (hp : Amt m p) (hx : SeqR p x) (hb : b = true ↔ ∃ y ∈ p, 0 < y) : F_is_prices n [.d x] ce = .ok (.d (.bl b)) ⟨[], ce⟩ := by
  refine tells ok (s' := entry 1 [.d x] ce) ?_
  refine (eAnd_ok (call_ok (arg1 (x_var (i := 0) rfl)) (q_amt ok h1 h3 hp hx))).trans ((if_pos rfl).trans ?_)
  match p, hp, hx, hb with
  | [], hp, _, _ => have := hp.len; simp at this; omega
  | a :: r, hp, hx, hb =>
    refine op2_ok (opN_ok (arg1 (x_var (i := 0) rfl)) (max_seq hx rfl)) (x_C (d := .int 0)) ?_
    show some (D.bl (decide (0 < r.foldl max a))) = _
    congr 2
    rw [Bool.eq_iff_iff, decide_eq_true_eq, fold_pos, hb]
    simp
theorem q_not_prices {x : D} (ok : Ok ce) (hk : kd x = true) (hk2 : ∀ ds, seqD x = some ds → ds.all kd = true) (hb : amtB x = false) : F_is_prices n [.d x] ce = .ok (.d (.bl false)) ⟨[], ce⟩ := by
  refine tells ok (s' := entry 1 [.d x] ce) ?_
  have h := q_is_amount (n := n) ok hk hk2
  rw [hb] at h
  exact (eAnd_ok (call_ok (arg1 (x_var (i := 0) rfl)) h)).trans (if_neg Bool.false_ne_true)
theorem q_cost {m : Nat} {r p : List Int} {a y : D} (ok : Ok ce) (h1 : 1 ≤ m) (h3 : m ≤ 3) (hr : Amt m r) (ha : SeqR r a) (hp : Amt m p) (hy : SeqR p y) (hpos : ∃ x ∈ p, 0 < x) (hbd : ∀ i ∈ r, 0 ≤ i ∧ i ≤ 4000000000) :
    F_cost n [.d a, .d y] ce = .ok (.d (.int (dotI r p))) ⟨[], ce⟩ := by
  let s : S := entry 2 [.d a, .d y] ce
  have e1 : sIf (bNot (bTru (eCall (F_is_amount n) (aCons (eVar 0) aNil)))) (sRaise1 "BadAmount" "amount" (eVar 0)) sNext s = .nx s :=
    (if_ok (bNot_ok (bTru_bl (call_ok (arg1 (x_var (s := s) (i := 0) rfl)) (q_amt ok h1 h3 hr ha))))).trans rfl
  have l1 : eOpN lenN (aCons (eVar 1) aNil) s = .ok (.d (.int (m : Nat))) s := opN_ok (arg1 (x_var (i := 1) rfl)) (by rw [seq_len (show seqD y = some (p.map .int) from hy), List.length_map, hp.len])
  have l0 : eOpN lenN (aCons (eVar 0) aNil) s = .ok (.d (.int (m : Nat))) s := opN_ok (arg1 (x_var (i := 0) rfl)) (by rw [seq_len (show seqD a = some (r.map .int) from ha), List.length_map, hr.len])
  have hne : two fNe s.ce (.d (.int (m : Nat))) (.d (.int (m : Nat))) = some (.bl false) := by
    show some (D.bl (!((m : Int) == m))) = _
    rw [beq_self_eq_true]; rfl
  have e2 : sIf (bOr (bNot (bTru (eCall (F_is_prices n) (aCons (eVar 1) aNil)))) (bOf (eOp2 (two fNe) (eOpN lenN (aCons (eVar 1) aNil)) (eOpN lenN (aCons (eVar 0) aNil))))) (sRaise1 "BadPrices" "prices" (eVar 1)) sNext s = .nx s := by
    refine (if_ok ((bOr_ok (bNot_ok (bTru_bl (call_ok (arg1 (x_var (s := s) (i := 1) rfl)) (q_is_prices (b := true) ok h1 h3 hp hy (by simpa using hpos)))))).trans ((if_neg (by decide)).trans (bOf_ok (op2_ok l1 l0 hne))))).trans ?_
    rw [if_neg Bool.false_ne_true]; rfl
  unfold F_cost b_cost
  rw [seq_nx (show _ = Fl.nx s from e1), seq_nx (show _ = Fl.nx s from e2), ret_ok (call_ok (arg2 (x_var (i := 0) rfl) (x_var (i := 1) rfl)) (q_product ok ha hy (by rw [hr.len]; omega) hbd))]
  exact shut_rt List.take_length ok
theorem q_cost_amount {a y : D} (ok : Ok ce) (hk : kd a = true) (hk2 : ∀ ds, seqD a = some ds → ds.all kd = true) (hb : amtB a = false) : F_cost n [.d a, .d y] ce = .exc "BadAmount" ["amount"] [.d a] ⟨[], ce⟩ := by
  let s : S := entry 2 [.d a, .d y] ce
  have h := q_is_amount (n := n) ok hk hk2
  rw [hb] at h
  have e1 : sIf (bNot (bTru (eCall (F_is_amount n) (aCons (eVar 0) aNil)))) (sRaise1 "BadAmount" "amount" (eVar 0)) sNext s = .exc "BadAmount" ["amount"] [.d a] s :=
    (if_ok (bNot_ok (bTru_bl (call_ok (arg1 (x_var (s := s) (i := 0) rfl)) h)))).trans ((if_pos (by decide)).trans (raise_ok (x_var (i := 0) rfl)))
  unfold F_cost b_cost
  rw [seq_exc (show _ = Fl.exc _ _ _ s from e1)]
  exact shut_exc (ds := [a]) List.take_length ok
theorem q_cost_prices {m : Nat} {r : List Int} {a y : D} (ok : Ok ce) (h1 : 1 ≤ m) (h3 : m ≤ 3) (hr : Amt m r) (ha : SeqR r a)
    (hy : (kd y = true ∧ (∀ ds, seqD y = some ds → ds.all kd = true) ∧ amtB y = false) ∨ ∃ l p, 1 ≤ l ∧ l ≤ 3 ∧ Amt l p ∧ SeqR p y ∧ (l ≠ m ∨ ∀ x ∈ p, x ≤ 0)) :
    F_cost n [.d a, .d y] ce = .exc "BadPrices" ["prices"] [.d y] ⟨[], ce⟩ := by
  let s : S := entry 2 [.d a, .d y] ce
  have e1 : sIf (bNot (bTru (eCall (F_is_amount n) (aCons (eVar 0) aNil)))) (sRaise1 "BadAmount" "amount" (eVar 0)) sNext s = .nx s :=
    (if_ok (bNot_ok (bTru_bl (call_ok (arg1 (x_var (s := s) (i := 0) rfl)) (q_amt ok h1 h3 hr ha))))).trans rfl
  have hc : bOr (bNot (bTru (eCall (F_is_prices n) (aCons (eVar 1) aNil)))) (bOf (eOp2 (two fNe) (eOpN lenN (aCons (eVar 1) aNil)) (eOpN lenN (aCons (eVar 0) aNil)))) s = .ok true s := by
    rcases hy with ⟨k1, k2, k3⟩ | ⟨l, p, l1, l3, hp, hy, hor⟩
    · exact (bOr_ok (bNot_ok (bTru_bl (call_ok (arg1 (x_var (s := s) (i := 1) rfl)) (q_not_prices ok k1 k2 k3))))).trans (if_pos (by decide))
    · by_cases hpos : ∃ x ∈ p, 0 < x
      · have hlm : l ≠ m := by
          rcases hor with h | h
          · exact h
          · obtain ⟨x, hx, h'⟩ := hpos
            have := h x hx; omega
        have e1 : eOpN lenN (aCons (eVar 1) aNil) s = .ok (.d (.int (l : Nat))) s := opN_ok (arg1 (x_var (i := 1) rfl)) (by rw [seq_len (show seqD y = some (p.map .int) from hy), List.length_map, hp.len])
        have e0 : eOpN lenN (aCons (eVar 0) aNil) s = .ok (.d (.int (m : Nat))) s := opN_ok (arg1 (x_var (i := 0) rfl)) (by rw [seq_len (show seqD a = some (r.map .int) from ha), List.length_map, hr.len])
        have hne : two fNe s.ce (.d (.int (l : Nat))) (.d (.int (m : Nat))) = some (.bl true) := by
          show some (D.bl (!((l : Int) == m))) = _
          rw [beq_eq_false_iff_ne.mpr (by omega)]; rfl
        exact (bOr_ok (bNot_ok (bTru_bl (call_ok (arg1 (x_var (s := s) (i := 1) rfl)) (q_is_prices (b := true) ok l1 l3 hp hy (by simpa using hpos)))))).trans ((if_neg (by decide)).trans (bOf_ok (op2_ok e1 e0 hne)))
      · exact (bOr_ok (bNot_ok (bTru_bl (call_ok (arg1 (x_var (s := s) (i := 1) rfl)) (q_is_prices (b := false) ok l1 l3 hp hy (by simpa using hpos)))))).trans (if_pos (by decide))
  have e2 : sIf (bOr (bNot (bTru (eCall (F_is_prices n) (aCons (eVar 1) aNil)))) (bOf (eOp2 (two fNe) (eOpN lenN (aCons (eVar 1) aNil)) (eOpN lenN (aCons (eVar 0) aNil))))) (sRaise1 "BadPrices" "prices" (eVar 1)) sNext s = .exc "BadPrices" ["prices"] [.d y] s :=
    (if_ok hc).trans ((if_pos rfl).trans (raise_ok (x_var (i := 1) rfl)))
  unfold F_cost b_cost
  rw [seq_nx (show _ = Fl.nx s from e1), seq_exc (show _ = Fl.exc _ _ _ s from e2)]
  exact shut_exc (ds := [y]) List.take_length ok
abbrev costCl : List (Str × Hnd) := [("BadAmount", hAsgL 2 3 "BadAmount" "amount" "amount"), ("BadPrices", hAsgL 2 3 "BadPrices" "prices" "prices")]
theorem q_told_cost {a y : D} {v : Int} (ok : Ok ce) (h : F_cost n [.d a, .d y] ce = .ok (.d (.int v)) ⟨[], ce⟩) : F__law_told_cost n [.d a, .d y] ce = .ok (.d (.lst [.str "told", .int v])) ⟨[], ce⟩ := by
  let s : S := entry 4 [.d a, .d y] ce
  have e1 := set_ok (i := 3) (lst_ok (ds := [.str "told", .int v]) (arg2 (x_C (d := .str "told") (s := s)) (call_ok (arg2 (x_var (i := 0) rfl) (x_var (i := 1) rfl)) h)) rfl (small_le (by simp)))
  have e2 : sTry (mtE EC) (sSet 3 (eLst (aCons (eC (.str "told")) (aCons (eCall (F_cost n) (aCons (eVar 0) (aCons (eVar 1) aNil))) aNil)))) costCl s = .nx ⟨[some (.d a), some (.d y), none, some (.d (.lst [.str "told", .int v]))], ce⟩ := by
    unfold sTry
    rw [e1]; rfl
  unfold F__law_told_cost b__law_told_cost
  rw [seq_nx (show _ = Fl.nx _ from e2), ret_ok (x_var (i := 3) rfl)]
  exact shut_rt List.take_length ok
theorem told_exc {a y x : D} {c nm : Str} (h : F_cost n [.d a, .d y] ce = .exc c [nm] [.d x] ⟨[], ce⟩) :
    sSet 3 (eLst (aCons (eC (.str "told")) (aCons (eCall (F_cost n) (aCons (eVar 0) (aCons (eVar 1) aNil))) aNil))) (entry 4 [.d a, .d y] ce) = .exc c [nm] [.d x] (entry 4 [.d a, .d y] ce) := by
  let s : S := entry 4 [.d a, .d y] ce
  have h2 := call_exc (G := F_cost n) (arg2 (x_var (s := s) (i := 0) rfl) (x_var (i := 1) rfl)) h
  have h3 : aCons (eCall (F_cost n) (aCons (eVar 0) (aCons (eVar 1) aNil))) aNil s = .exc c [nm] [.d x] s := by
    unfold aCons
    rw [show (eCall (F_cost n) fun s => (eVar 0 s).bind fun x s1 => ((fun s => (eVar 1 s).bind fun x s1 => (aNil s1).bind fun xs s2 => Out.ok (x :: xs) s2) s1).bind fun xs s2 => Out.ok (x :: xs) s2) s = eCall (F_cost n) (aCons (eVar 0) (aCons (eVar 1) aNil)) s from rfl, h2]
    rfl
  unfold sSet eLst
  rw [show aCons (eC (.str "told")) (aCons (eCall (F_cost n) (aCons (eVar 0) (aCons (eVar 1) aNil))) aNil) s = .exc c [nm] [.d x] s by
    show (eC (.str "told") s).bind (fun x s1 => (aCons (eCall (F_cost n) (aCons (eVar 0) (aCons (eVar 1) aNil))) aNil s1).bind fun xs s2 => Out.ok (x :: xs) s2) = _
    rw [x_C]
    simp only [Out.bind_ok]
    rw [h3]; rfl]
  rfl
theorem q_told_amount {a y : D} (ok : Ok ce) (h : F_cost n [.d a, .d y] ce = .exc "BadAmount" ["amount"] [.d a] ⟨[], ce⟩) : F__law_told_cost n [.d a, .d y] ce = .ok (.d (.lst [.str "amount", a])) ⟨[], ce⟩ := by
  let s : S := entry 4 [.d a, .d y] ce
  have e2 : sTry (mtE EC) (sSet 3 (eLst (aCons (eC (.str "told")) (aCons (eCall (F_cost n) (aCons (eVar 0) (aCons (eVar 1) aNil))) aNil)))) costCl s = .nx ⟨[some (.d a), some (.d y), none, some (.d (.lst [.str "amount", a]))], ce⟩ := by
    unfold sTry
    rw [told_exc h]
    simp only [pick]
    rw [if_pos (by decide +kernel)]
    unfold hAsgL
    rw [if_pos ⟨rfl, rfl, by simp [entry]⟩]
    rfl
  unfold F__law_told_cost b__law_told_cost
  rw [seq_nx (show _ = Fl.nx _ from e2), ret_ok (x_var (i := 3) rfl)]
  exact shut_rt List.take_length ok
theorem q_told_prices {a y : D} (ok : Ok ce) (h : F_cost n [.d a, .d y] ce = .exc "BadPrices" ["prices"] [.d y] ⟨[], ce⟩) : F__law_told_cost n [.d a, .d y] ce = .ok (.d (.lst [.str "prices", y])) ⟨[], ce⟩ := by
  let s : S := entry 4 [.d a, .d y] ce
  have e2 : sTry (mtE EC) (sSet 3 (eLst (aCons (eC (.str "told")) (aCons (eCall (F_cost n) (aCons (eVar 0) (aCons (eVar 1) aNil))) aNil)))) costCl s = .nx ⟨[some (.d a), some (.d y), none, some (.d (.lst [.str "prices", y]))], ce⟩ := by
    unfold sTry
    rw [told_exc h]
    simp only [pick]
    rw [if_neg (by decide +kernel), if_pos (by decide +kernel)]
    unfold hAsgL
    rw [if_pos ⟨rfl, rfl, by simp [entry]⟩]
    rfl
  unfold F__law_told_cost b__law_told_cost
  rw [seq_nx (show _ = Fl.nx _ from e2), ret_ok (x_var (i := 3) rfl)]
  exact shut_rt List.take_length ok
/-! ### the law's own least rows -/
def unrow : D → List Int
  | .tup ds => ds.map fun d => match d with | .int i => i | _ => 0
  | _ => []
theorem unrow_row (r : List Int) : unrow (rowD r) = r := by
  simp only [unrow, rowD, List.map_map]
  induction r with
  | nil => rfl
  | cons x r ih => simp only [List.map_cons, ih]; rfl
theorem eqv_ints : ∀ a b : List Int, PyData.eqvAll (a.map .int) (b.map .int) = decide (a = b)
  | [], [] => rfl
  | [], _ :: _ => rfl
  | _ :: _, [] => rfl
  | a :: r, b :: q => by
    have := eqv_ints r q
    simp only [List.map_cons, PyData.eqvAll, PyData.eqv, this, List.cons.injEq]
    by_cases h : a = b
    · subst h; simp
    · simp [h]
theorem eqv_row (a b : List Int) : PyData.eqv (rowP a) (rowP b) = decide (a = b) := by
  simp only [rowP, PyData.eqv, eqv_ints]
theorem ne_row (a b : List Int) {c : List (Option Cell)} : two fNe c (.d (rowD a)) (.d (rowD b)) = some (.bl (!decide (a = b))) := by
  show fNeD (rowD a) (rowD b) = _
  unfold fNeD
  simp only [pyD_row]
  rw [if_pos ⟨shaped_row a, shaped_row b⟩, eqv_row]
def ddL : List (List Int) → List (List Int) → List (List Int)
  | _, [] => []
  | P, r :: rs => if (P.any fun q => decide (q = r)) = true then ddL (P ++ [r]) rs else r :: ddL (P ++ [r]) rs
theorem ddL_mem : ∀ (P rs : List (List Int)) (r : List Int), r ∈ ddL P rs ↔ r ∈ rs ∧ r ∉ P
  | P, [], r => by simp [ddL]
  | P, q :: rs, r => by
    have ih := ddL_mem (P ++ [q]) rs r
    unfold ddL
    split
    · rename_i h
      obtain ⟨p, hp, e⟩ := List.any_eq_true.mp h
      rw [decide_eq_true_eq] at e
      subst e
      rw [ih]
      simp only [List.mem_append, List.mem_singleton, not_or, List.mem_cons]
      constructor
      · rintro ⟨a, b, c⟩; exact ⟨.inr a, b⟩
      · rintro ⟨a, b⟩
        have hne : r ≠ p := fun e => b (e ▸ hp)
        exact ⟨a.resolve_left hne, b, hne, List.not_mem_nil⟩
    · rename_i h
      have hq : q ∉ P := fun hm => h (List.any_eq_true.mpr ⟨q, hm, by simp⟩)
      rw [List.mem_cons, ih]
      simp only [List.mem_append, List.mem_singleton, not_or, List.mem_cons]
      constructor
      · rintro (rfl | ⟨a, b, c⟩)
        · exact ⟨.inl rfl, hq⟩
        · exact ⟨.inr a, b⟩
      · rintro ⟨a, b⟩
        by_cases hne : r = q
        · exact .inl hne
        · exact .inr ⟨a.resolve_left hne, b, hne, List.not_mem_nil⟩
theorem ddL_nodup : ∀ (P rs : List (List Int)), (ddL P rs).Nodup
  | _, [] => List.nodup_nil
  | P, q :: rs => by
    unfold ddL
    split
    · exact ddL_nodup _ rs
    · refine List.nodup_cons.mpr ⟨fun h => ?_, ddL_nodup _ rs⟩
      exact ((ddL_mem _ _ _).mp h).2 (by simp)
def ddG (rs : List (List Int)) : VL.Itm → Option D
  | .pr [.d (.int k), .d d] => if ((rs.take k.toNat).any fun q => decide (q = unrow d)) = true then none else some d
  | _ => none
theorem somes_dd (rs : List (List Int)) : ∀ (P q : List (List Int)), P ++ q = rs → somes ((numFrom P.length ((q.map rowD).map W.d)).map (ddG rs)) = (ddL P q).map rowD
  | P, [], _ => rfl
  | P, r :: q, h => by
    have ih := somes_dd rs (P ++ [r]) q (by rw [← h]; simp)
    rw [List.length_append] at ih
    simp only [List.length_cons, List.length_nil, Nat.zero_add] at ih
    have ht : rs.take ((P.length : Int).toNat) = P := by rw [Int.toNat_natCast, ← h, List.take_left' rfl]
    simp only [List.map_cons, numFrom, ddG, unrow_row, ht]
    unfold ddL
    split
    · simp only [somes, ih]
    · simp only [somes, ih, List.map_cons]
theorem any_map_row (xs : List (List Int)) (r : List Int) : ((xs.map rowP).any fun z => PyData.eqv z (rowP r)) = xs.any fun q => decide (q = r) := by
  induction xs with
  | nil => rfl
  | cons x q ih => simp only [List.map_cons, List.any_cons, eqv_row, ih]
theorem notin_rows (xs : List (List Int)) (r : List Int) {c : List (Option Cell)} : inZ true c (.d (rowD r)) (.d (.lst (xs.map rowD))) = some (.bl (!xs.any fun q => decide (q = r))) := by
  show fIn true (rowD r) (.lst (xs.map rowD)) = _
  unfold fIn
  rw [pyD_row, show pyD (.lst (xs.map rowD)) = some (.list (xs.map rowP)) from by
    show (pyDs (xs.map rowD)).map PyData.list = _
    rw [pyDs_rows]; rfl]
  simp only [fInY]
  rw [if_pos ⟨shaped_row r, shaped_rows xs⟩]
  unfold inY
  rw [if_pos rfl, any_map_row]
theorem bls_any (xs : List (List Int)) (f : List Int → Bool) : fAny (.lst (xs.map fun q => D.bl (f q))) = some (.bl (xs.any f)) := by
  rw [show (xs.map fun q => D.bl (f q)) = (xs.map f).map D.bl by rw [List.map_map]; rfl]
  simp only [fAny, bls_map, Option.map_some, List.any_map]
  rfl
theorem somes_filter (xs : List (List Int)) (f : List Int → Bool) (g : VL.Itm → Option D) (hg : ∀ r, g (.w (.d (rowD r))) = if f r = true then none else some (rowD r)) : somes (((xs.map rowD).map fun d => VL.Itm.w (.d d)).map g) = (xs.filter fun r => !f r).map rowD := by
  induction xs with
  | nil => rfl
  | cons x q ih =>
    simp only [List.map_cons, hg]
    by_cases h : f x = true
    · rw [if_pos h]
      simp only [somes, ih, List.filter_cons, h, Bool.not_true, Bool.false_eq_true, if_false]
    · rw [if_neg h]
      rw [Bool.not_eq_true] at h
      simp only [somes, ih, List.filter_cons, h, Bool.not_false, if_true, List.map_cons]
abbrev beaten (some : List (List Int)) (r : List Int) : Bool := some.any fun q => !decide (q = r) && most q r
theorem q_law_least {m : Nat} {rs : List (List Int)} (ok : Ok ce) (h1 : 1 ≤ m) (h3 : m ≤ 3) (hl : ∀ r ∈ rs, r.length = m) (hz : rs.length ≤ 100) :
    F__law_least n [.d (.lst (rs.map rowD))] ce = .ok (.d (.lst ((sift [] (rs.mergeSort leR)).map rowD))) ⟨[], ce⟩ := by
  let X := ddL [] rs
  have hX : ∀ r, r ∈ X ↔ r ∈ rs := fun r => by simp [X, ddL_mem]
  have hXl : X.length ≤ 100 := by
    have : ∀ (P q : List (List Int)), (ddL P q).length ≤ q.length := by
      intro P q
      induction q generalizing P with
      | nil => exact Nat.le_refl _
      | cons r q ih =>
        unfold ddL
        have := ih (P ++ [r])
        split <;> simp only [List.length_cons] <;> omega
    exact Nat.le_trans (this [] rs) hz
  let s : S := entry 5 [.d (.lst (rs.map rowD))] ce
  have el := eLc_pure (s := s) (vs := [2, 3]) (p := .tp [(.nm 2), (.nm 3)]) (fi := iEnum (aCons (eVar 0) aNil)) (ft := bOf (eOp2 (inZ true) (eVar 3) (eSl (eVar 0) oNone (oSome (eVar 2))))) (fe := eVar 3) (sl := s.sl) (ce := ce) (iEnum_ok (arg1 (x_var (i := 0) rfl)) rfl) (ddG rs) (fun _ => stay_nil) (fun w hw c hc => by
    have : ∃ (k : Nat) (r : List Int), w = .pr [.d (.int (k : Nat)), .d (rowD r)] ∧ k ≤ rs.length := by
      clear hc
      have gen : ∀ (i : Nat) (xs : List (List Int)), i + xs.length ≤ rs.length → w ∈ numFrom i ((xs.map rowD).map W.d) → ∃ (k : Nat) (r : List Int), w = .pr [.d (.int (k : Nat)), .d (rowD r)] ∧ k ≤ rs.length := by
        intro i xs
        induction xs generalizing i with
        | nil => intro _ h; cases h
        | cons x q ih =>
          intro hle h
          simp only [List.map_cons, numFrom, List.mem_cons] at h
          simp only [List.length_cons] at hle
          rcases h with rfl | h
          · exact ⟨i, x, rfl, by omega⟩
          · exact ih (i + 1) (by omega) h
      exact gen 0 rs (by omega) hw
    obtain ⟨k, r, rfl, hk⟩ := this
    refine ⟨[(2, .d (.int (k : Nat))), (3, .d (rowD r))], rfl, rfl, ?_⟩
    let s1 : S := ⟨[some (.d (.lst (rs.map rowD))), none, some (.d (.int (k : Nat))), some (.d (rowD r)), none], c⟩
    have hsl : eSl (eVar 0) oNone (oSome (eVar 2)) s1 = .ok (.d (.lst ((rs.take k).map rowD))) s1 := by
      refine sl_ok (lo := none) (hi := some (k : Nat)) (x_var (i := 0) rfl) x_oNone (oSome_ok (x_var (i := 2) rfl)) ?_
      show some (D.lst (VL.cutD (rs.map rowD) none (some (k : Nat)))) = _
      unfold VL.cutD
      rw [HT.sIx_none, HT.sIx_nat, List.drop_zero, Nat.sub_zero, List.length_map, Nat.min_eq_left hk, ← List.map_take]
    have ht : bOf (eOp2 (inZ true) (eVar 3) (eSl (eVar 0) oNone (oSome (eVar 2)))) s1 = .ok (!(rs.take k).any fun q => decide (q = r)) s1 := bOf_ok (op2_ok (x_var (i := 3) rfl) hsl (notin_rows _ _))
    simp only [ddG, Int.toNat_natCast, unrow_row]
    by_cases hb : ((rs.take k).any fun q => decide (q = r)) = true
    · rw [if_pos hb]
      rw [hb] at ht
      exact ⟨s1, ht, rfl⟩
    · rw [if_neg hb]
      rw [Bool.not_eq_true] at hb
      rw [hb] at ht
      exact ⟨s1, s1, ht, x_var (i := 3) rfl, rfl⟩) (by
      have : ∀ (i : Nat) (xs : List W), (numFrom i xs).length = xs.length := by
        intro i xs
        induction xs generalizing i with
        | nil => rfl
        | cons x q ih => simp only [numFrom, List.length_cons, ih]
      simp only [this, List.length_map]
      exact small_le (by omega)) ok
  have hdd := somes_dd rs [] rs rfl
  simp only [List.length_nil] at hdd
  rw [hdd] at el
  have e1 := set_ok (i := 1) el
  let s2 : S := ⟨[some (.d (.lst (rs.map rowD))), some (.d (.lst (X.map rowD))), none, none, none], ce⟩
  have el2 := eLc_pure (s := s2) (vs := [3]) (p := .nm 3) (fi := iSeq (eVar 1)) (ft := bNot (bTru (eOpN (one fAny) (aCons (eLc [4] (.nm 4) (iSeq (eVar 1)) bYes (eAnd (eOp2 (two fNe) (eVar 4) (eVar 3)) (eCall (F__law_most n) (aCons (eVar 4) (aCons (eVar 3) aNil))))) aNil)))) (fe := eVar 3) (sl := s2.sl) (ce := ce) (iSeq_ok (x_var (i := 1) rfl) rfl) (fun w => match w with | .w (.d d) => if beaten X (unrow d) = true then none else some d | _ => none) (fun _ => stay_nil) (fun w hw c hc => by
    obtain ⟨d, hd, rfl⟩ := List.mem_map.mp hw
    obtain ⟨r, hr, rfl⟩ := List.mem_map.mp hd
    obtain ⟨acc, rfl⟩ := hc
    refine ⟨[(3, .d (rowD r))], rfl, rfl, ?_⟩
    let c := ce ++ [some (Cell.lst (acc.map .d))]
    have okc : Ok c := ok.snocD acc
    let s3 : S := ⟨[some (.d (.lst (rs.map rowD))), some (.d (.lst (X.map rowD))), none, some (.d (rowD r)), none], c⟩
    have el3 := eLc_pure (s := s3) (vs := [4]) (p := .nm 4) (fi := iSeq (eVar 1)) (ft := bYes) (fe := eAnd (eOp2 (two fNe) (eVar 4) (eVar 3)) (eCall (F__law_most n) (aCons (eVar 4) (aCons (eVar 3) aNil)))) (sl := s3.sl) (ce := c) (iSeq_ok (x_var (i := 1) rfl) rfl) (fun w => match w with | .w (.d d) => some (.bl (!decide (unrow d = r) && most (unrow d) r)) | _ => none) (fun _ => stay_nil) (fun w hw c2 hc2 => by
      obtain ⟨d, hd, rfl⟩ := List.mem_map.mp hw
      obtain ⟨q, hq, rfl⟩ := List.mem_map.mp hd
      obtain ⟨acc2, rfl⟩ := hc2
      refine ⟨[(4, .d (rowD q))], rfl, rfl, ?_⟩
      simp only [unrow_row]
      refine ⟨_, ⟨[some (.d (.lst (rs.map rowD))), some (.d (.lst (X.map rowD))), none, some (.d (rowD r)), some (.d (rowD q))], c ++ [some (.lst (acc2.map .d))]⟩, rfl, ?_, rfl⟩
      refine (eAnd_ok (op2_ok (x_var (i := 4) rfl) (x_var (i := 3) rfl) (ne_row q r))).trans ?_
      by_cases hqr : q = r
      · rw [if_neg (by rw [decide_eq_true hqr]; decide), decide_eq_true hqr]; rfl
      · rw [if_pos (by rw [decide_eq_false hqr]; rfl), decide_eq_false hqr]
        simp only [Bool.not_false, Bool.true_and]
        exact call_ok (arg2 (x_var (i := 4) rfl) (x_var (i := 3) rfl)) (q_most (okc.snocD acc2) (by rw [hl q ((hX q).mp hq)]; omega))) (by simp only [List.length_map]; exact small_le (by omega)) okc
    have hs : somes (((X.map rowD).map fun d => VL.Itm.w (.d d)).map fun w => match w with | .w (.d d) => some (.bl (!decide (unrow d = r) && most (unrow d) r)) | _ => none) = X.map fun q => D.bl (!decide (q = r) && most q r) := by
      rw [List.map_map, List.map_map]
      refine Eq.trans (congrArg somes (List.map_congr_left fun q _ => ?_)) (somes_map (fun q => D.bl (!decide (q = r) && most q r)) X)
      show some (D.bl (!decide (unrow (rowD q) = r) && most (unrow (rowD q)) r)) = _
      rw [unrow_row]
    rw [hs] at el3
    have ht : bNot (bTru (eOpN (one fAny) (aCons (eLc [4] (.nm 4) (iSeq (eVar 1)) bYes (eAnd (eOp2 (two fNe) (eVar 4) (eVar 3)) (eCall (F__law_most n) (aCons (eVar 4) (aCons (eVar 3) aNil))))) aNil))) s3 = .ok (!beaten X r) s3 :=
      bNot_ok (bTru_bl (opN_ok (arg1 el3) (bls_any X fun q => !decide (q = r) && most q r)))
    simp only [unrow_row]
    by_cases hb : beaten X r = true
    · rw [if_pos hb]
      rw [hb] at ht
      exact ⟨s3, ht, rfl⟩
    · rw [if_neg hb]
      rw [Bool.not_eq_true] at hb
      rw [hb] at ht
      exact ⟨s3, s3, ht, x_var (i := 3) rfl, rfl⟩) (by simp only [List.length_map]; exact small_le (by omega)) ok
  rw [somes_filter X (beaten X) _ (fun r => by simp only [unrow_row])] at el2
  have hlaw := sift_law h1 h3 hl (ddL_nodup [] rs) hX
  unfold F__law_least b__law_least
  rw [seq_nx (show _ = Fl.nx s2 from e1), ret_ok (opN_ok (d := .lst ((sift [] (rs.mergeSort leR)).map rowD)) (arg1 el2) (by
    rw [hlaw]
    exact srt_rows h1 fun r hr => hl r ((hX r).mp (List.mem_filter.mp hr).1)))]
  exact shut_rt List.take_length ok
end G

set_option maxHeartbeats 1000000
namespace G
open PySem PySem.Spec PyProof.Rows L2 VL
variable {n : Nat} {ce : List (Option Cell)} {k N : Nat} {t : Dr}
/-! ### repr -/
theorem piled_le {ts : List Str} {B : Nat} (h : ∀ t ∈ ts, t.length ≤ B) : piled ts ≤ (B + 2) * ts.length := by
  induction ts with
  | nil => exact Nat.le_refl _
  | cons a r ih =>
    rw [piled_cons, List.length_cons, Nat.mul_succ]
    have := h a List.mem_cons_self
    have := ih fun t ht => h t (List.mem_cons_of_mem _ ht)
    omega
theorem listText_le (ts : List Str) : (listText ts).length ≤ piled ts + 2 := by
  cases ts with
  | nil => decide
  | cons t r =>
    have h := textFrom_length_pos r 1 (("[" : Str) ++ (if (0 : Nat) > 0 then ", " else "" : String) ++ t) (Nat.succ_pos 0)
    have e : ((("[" : Str) ++ (if (0 : Nat) > 0 then ", " else "" : String) ++ t)).length = 1 + t.length := by
      rw [strLen_append, strLen_append]; rfl
    show (textFrom 1 (("[" : Str) ++ (if (0 : Nat) > 0 then ", " else "" : String) ++ t) r ++ "]").length ≤ _
    rw [strLen_append, h, e, piled_cons]
    show 1 + t.length + piled r + 1 ≤ _
    omega
theorem tupleText_le (ts : List Str) : (tupleText ts).length ≤ piled ts + 2 := by
  unfold tupleText
  rw [strLen_append, strLen_append]
  have e1 : ((("(" : String) : Str)).length = 1 := rfl
  have e3 : (((if ts.length == 1 then ",)" else ")" : String) : Str)).length ≤ 2 := by split <;> decide
  rw [e1]
  cases ts with
  | nil => decide
  | cons t r =>
    have := join_length_add (t :: r) (by simp)
    omega
theorem shown_map (f : Int → PyData) (r : List Int) : PyData.shownAll (r.map f) = r.map fun i => (f i).shown := by
  induction r with
  | nil => rfl
  | cons x r ih => simp only [List.map_cons, PyData.shownAll, ih]
theorem shown_int {i : Int} (h0 : 0 ≤ i) (h1 : i ≤ 4000000000) : (PyData.int i).shown.length ≤ 10 := PyProof.Rows.toString_length_le h0 (by decide) (by omega)
theorem able_int {i : Int} (h0 : 0 ≤ i) (h1 : i ≤ 4000000000) : (PyData.int i).showable = true := by
  simp only [PyData.showable, decide_eq_true_eq]
  by_cases h : i.natAbs = 0
  · rw [h]; decide
  · rw [Nat.log2_lt h]
    have : i.natAbs < 2 ^ 32 := by omega
    exact Nat.lt_of_lt_of_le this (Nat.pow_le_pow_right (by decide) (by decide))
structure Shy (p : PyData) (B : Nat) : Prop where
  able : p.showable = true
  dict : p.hasDict = false
  dep : p.depth ≤ 10
  len : p.shown.length ≤ B
theorem shy_ints {r : List Int} (h : ∀ x ∈ r, 0 ≤ x ∧ x ≤ 4000000000) (hz : r.length ≤ 3) : PyData.showableAll (r.map .int) = true ∧ PyData.hasDictAll (r.map .int) = false ∧ piled (PyData.shownAll (r.map .int)) ≤ 36 := by
  refine ⟨?_, ?_, ?_⟩
  · clear hz
    induction r with
    | nil => rfl
    | cons x r ih => simp only [List.map_cons, PyData.showableAll, able_int (h x List.mem_cons_self).1 (h x List.mem_cons_self).2, ih fun y hy => h y (List.mem_cons_of_mem _ hy), Bool.and_self]
  · clear hz h
    induction r with
    | nil => rfl
    | cons x r ih => simp only [List.map_cons, PyData.hasDictAll, PyData.hasDict, ih, Bool.or_self]
  · rw [shown_map]
    have := piled_le (ts := r.map fun i => (PyData.int i).shown) (B := 10) fun t ht => by
      obtain ⟨i, hi, rfl⟩ := List.mem_map.mp ht
      exact shown_int (h i hi).1 (h i hi).2
    rw [List.length_map] at this
    omega
theorem shy_row {r : List Int} {x : D} (hx : SeqR r x) (h : ∀ y ∈ r, 0 ≤ y ∧ y ≤ 4000000000) (hz : r.length ≤ 3) : ∃ p, pyD x = some p ∧ Shy p 38 := by
  obtain ⟨a1, a2, a3⟩ := shy_ints h hz
  have hd := dep_ints r
  unfold SeqR at hx
  cases x <;> simp only [seqD, Option.some.injEq, reduceCtorEq] at hx <;> subst hx
  · refine ⟨.list (r.map .int), by show (pyDs (r.map D.int)).map PyData.list = _; rw [pyDs_ints]; rfl, by simp only [PyData.showable, a1], by simp only [PyData.hasDict, a2], by simp only [PyData.depth]; omega, ?_⟩
    have := listText_le (PyData.shownAll (r.map .int))
    simp only [PyData.shown]; omega
  · refine ⟨.tuple (r.map .int), by show (pyDs (r.map D.int)).map PyData.tuple = _; rw [pyDs_ints]; rfl, by simp only [PyData.showable, a1], by simp only [PyData.hasDict, a2], by simp only [PyData.depth]; omega, ?_⟩
    have := tupleText_le (PyData.shownAll (r.map .int))
    simp only [PyData.shown]; omega
theorem shy_rows {rs : List (List Int)} {gs : List D} (he : Each SeqR rs gs) (h : ∀ r ∈ rs, r.length ≤ 3 ∧ ∀ y ∈ r, 0 ≤ y ∧ y ≤ 4000000000) : ∃ ps, pyDs gs = some ps ∧ PyData.showableAll ps = true ∧ PyData.hasDictAll ps = false ∧ PyData.depthAll ps ≤ 12 ∧ piled (PyData.shownAll ps) ≤ 40 * rs.length := by
  induction he with
  | nil => exact ⟨[], rfl, rfl, rfl, by simp [PyData.depthAll], by simp [PyData.shownAll, piled]⟩
  | @cons r rs g gs h1 _ ih =>
    obtain ⟨ps, a1, a2, a3, a4, a5⟩ := ih fun r hr => h r (List.mem_cons_of_mem _ hr)
    obtain ⟨b1, b2⟩ := h r List.mem_cons_self
    obtain ⟨p, c1, c2⟩ := shy_row h1 b2 b1
    refine ⟨p :: ps, by simp only [pyDs, c1, a1], by simp only [PyData.showableAll, c2.able, a2, Bool.and_self], by simp only [PyData.hasDictAll, c2.dict, a3, Bool.or_self], ?_, ?_⟩
    · have := c2.dep
      simp only [PyData.depthAll]; omega
    · have := c2.len
      simp only [PyData.shownAll, piled_cons, List.length_cons]; omega
theorem q_repr {rs : List (List Int)} {x : D} {gs : List D} (hx : seqD x = some gs) (he : Each SeqR rs gs) (h : ∀ r ∈ rs, r.length ≤ 3 ∧ ∀ y ∈ r, 0 ≤ y ∧ y ≤ 4000000000) (hz : rs.length ≤ 100) : ∃ z, fRepr x = some (.str z) := by
  obtain ⟨ps, a1, a2, a3, a4, a5⟩ := shy_rows he h
  have hs : ∀ {m : Nat}, m ≤ 5000 → m ≤ sizeLine := fun h => Nat.le_trans h (by rw [sizeLine_eq]; decide)
  cases x <;> simp only [seqD, Option.some.injEq, reduceCtorEq] at hx <;> subst hx
  · rename_i xs
    have hp : pyD (.lst xs) = some (.list ps) := by
      show (pyDs xs).map PyData.list = _
      rw [a1]; rfl
    refine ⟨(PyData.list ps).shown, ?_⟩
    simp only [fRepr, hp]
    have := listText_le (PyData.shownAll ps)
    rw [if_pos ⟨by simp only [PyData.showable, a2], by simp only [PyData.hasDict, a3], by simp only [PyData.depth]; omega, by simp only [PyData.shown]; exact hs (by omega)⟩]
  · rename_i xs
    have hp : pyD (.tup xs) = some (.tuple ps) := by
      show (pyDs xs).map PyData.tuple = _
      rw [a1]; rfl
    refine ⟨(PyData.tuple ps).shown, ?_⟩
    simp only [fRepr, hp]
    have := tupleText_le (PyData.shownAll ps)
    rw [if_pos ⟨by simp only [PyData.showable, a2], by simp only [PyData.hasDict, a3], by simp only [PyData.depth]; omega, by simp only [PyData.shown]; exact hs (by omega)⟩]
/-! ### what is told, and what is changed of it -/
abbrev toldX (ce : List (Option Cell)) : Option Cell := some (.lst [.d (.str "told"), .c (ce.length + 2)])
abbrev toldC (ce : List (Option Cell)) (zs : List (Int × Int)) (ls : List (List Int)) : List (Option Cell) := tri ce zs ls ++ [toldX ce]
theorem told_len {zs ls} : (toldC ce zs ls).length = ce.length + 4 := by simp
theorem told_2 {zs ls} : (toldC ce zs ls)[ce.length + 2]? = some (fnd ls) := by
  rw [List.getElem?_append_left (by simp)]; exact tri_2
theorem told_3 {zs ls} : (toldC ce zs ls)[ce.length + 3]? = some (toldX ce) := last_get (by simp)
theorem told_ok (ok : Ok ce) {zs ls} : Ok (toldC ce zs ls) := by
  refine (tri_ok ok).snoc ?_
  show ([W.d (.str "told"), W.c (ce.length + 2)].all (fitW _)) = true
  simp only [List.all_cons, List.all_nil, fitW, Bool.and_true, Bool.true_and, decide_eq_true_eq]
  simp
theorem told_std {zs ls} : Std (toldC ce zs ls) (.c (ce.length + 3)) (.lst [.str "told", .lst (ls.map rowD)]) :=
  .c told_3 (.cons (.d _) (.cons (.c told_2 (stdL_map _ _)) .nil))
theorem sm_rows (m : Nat) {ls : List (List Int)} (hz : ls.length ≤ 1000) (hr : ∀ r ∈ ls, r.length ≤ 1000) : Sm (m + 4) (.lst [.str "told", .lst (ls.map rowD)]) := by
  refine .lst (by simp) fun x hx => ?_
  simp only [List.mem_cons, List.not_mem_nil, or_false] at hx
  rcases hx with rfl | rfl
  · exact .str _
  · refine .lst (by rw [List.length_map]; exact hz) fun y hy => ?_
    obtain ⟨r, hr', rfl⟩ := List.mem_map.mp hy
    refine .tup (by rw [List.length_map]; exact hr r hr') fun z hz => ?_
    obtain ⟨i, _, rfl⟩ := List.mem_map.mp hz
    exact .int i
theorem told_put {zs ls} {r : List Int} : (toldC ce zs ls).set (ce.length + 2) (fnd (ls ++ [r])) = toldC ce zs (ls ++ [r]) := by
  rw [List.set_append_left _ _ (by simp), List.set_append_right _ _ (by omega), show ce.length + 2 - ce.length = 2 by omega]
  rfl
theorem callX_ok {G : Fn} {ix : List Nat} {fr fk : S → Out (List W)} {ws zs : List W} {w : W} {s s1 s2 : S} {xs : List (Option W)} {c2 : List (Option Cell)} (h1 : fr s = .ok ws s1) (h2 : fk s1 = .ok zs s2) (h3 : G (picks ix (ws ++ zs ++ [])) s2.ce = .ok w ⟨xs, c2⟩) :
    eCallX G ix [] fr fk s = .ok w ⟨s2.sl, c2⟩ := by
  unfold eCallX
  rw [h1]; simp only [Out.bind_ok]; rw [h2]; simp only [Out.bind_ok, List.map_nil]; rw [h3]
theorem odd_kinds {x : D} (hx : x ∈ oddL) : kd x = true ∧ (∀ ds, seqD x = some ds → ds.all kd = true) ∧ amtB x = false := by
  have h : oddL.all (fun x => kd x && ((match seqD x with | some ds => ds.all kd | none => true) && !amtB x)) = true := by decide +kernel
  have := List.all_eq_true.mp h x hx
  simp only [Bool.and_eq_true, Bool.not_eq_true'] at this
  refine ⟨this.1, fun ds e => ?_, this.2.2⟩
  have h2 := this.2.1
  rw [e] at h2
  exact h2
end G

set_option maxHeartbeats 2000000
namespace G
open PySem PySem.Spec PyProof.Rows L2 VL
variable {n : Nat} {ce : List (Option Cell)} {k N : Nat} {t : Dr}
theorem each_rows : ∀ rs : List (List Int), Each SeqR rs (rs.map rowD)
  | [] => .nil
  | _ :: rs => .cons rfl (each_rows rs)
theorem cut_to {α : Type} (xs : List α) (i : Nat) (h : i ≤ xs.length) : VL.cutD xs none (some (i : Nat)) = xs.take i := by
  unfold VL.cutD
  rw [HT.sIx_none, HT.sIx_nat, List.drop_zero, Nat.sub_zero, Nat.min_eq_left h]
theorem cut_from {α : Type} (xs : List α) (i : Nat) (h : i ≤ xs.length) : VL.cutD xs (some (i : Nat)) none = xs.drop i := by
  unfold VL.cutD
  rw [HT.sIx_none, HT.sIx_nat, Nat.min_eq_left h, List.take_of_length_le (by rw [List.length_drop]; omega)]
theorem sm_two (m : Nat) (a : Str) {d : D} (h : Sm (m + 1) d) : Sm (m + 2) (.lst [.str a, d]) := by
  refine .lst (by simp) fun x hx => ?_
  simp only [List.mem_cons, List.not_mem_nil, or_false] at hx
  rcases hx with rfl | rfl
  · exact .str _
  · exact h
abbrev noneL : List D := [.non, .int 5, .bl true, .str "ab", .dic [] [], .dic [.int 0] [.tup [.int 1]], .int (-1)]
abbrev rrS (k m : Nat) (rs : List (List Int)) (w3 w4 w10 w11 : W) (o5 o6 o7 o8 o9 : Option W) : List (Option W) := [some (.c k), some (.d (.int (m : Nat))), some (.d (.lst (rs.map rowD))), some w3, some w4, o5, o6, o7, o8, o9, some w10, some w11]
noncomputable abbrev rrTail (n : Nat) : S → Fl := (sSeq (sSet 5 (eCall (F__law_draw n) (aCons (eVar 0) (aCons (eOp2 (two fAdd) (eOpN lenN (aCons (eVar 2) aNil)) (eC (.int 1))) aNil)))) (sSeq (sSet 6 (eCall (F__law_amount n) (aCons (eVar 0) (aCons (eOp2 (two fAdd) (eOp2 (two fMod) (eVar 1) (eC (.int 3))) (eC (.int 1))) aNil)))) (sSeq (sSet 7 (eIf (bAnd (bOf (eOp2 (two fGt) (eVar 5) (eC (.int 0)))) (bOf (eOp2 (two fEq) (eCall (F__law_draw n) (aCons (eVar 0) (aCons (eC (.int 3)) aNil))) (eC (.int 0))))) (eVar 6) (eCall (F__law_odd n) (aCons (eVar 0) aNil)))) (sSeq (sSet 8 (eOp2 (two fAdd) (eSl (eVar 2) (oSome (eVar 5)) oNone) (eOp2 (two fMul) (eLst (aCons (eC .non) aNil)) (eCall (F__law_draw n) (aCons (eVar 0) (aCons (eC (.int 2)) aNil)))))) (sSeq (sIf (bNot (bTru (eCall (F__law_same n RF) (aCons (eCall (F__law_told_rows n) (aCons (eOp2 (two fAdd) (eOp2 (two fAdd) (eSl (eVar 2) oNone (oSome (eVar 5))) (eLst (aCons (eVar 7) aNil))) (eVar 8)) aNil)) (aCons (eLst (aCons (eC (.str "refused")) (aCons (eVar 5) aNil))) aNil))))) (sRet (eC (.bl false))) sNext) (sSeq (sSet 9 (eCall (F__law_pick n) (aCons (eVar 0) (aCons (eLst (aCons (eC .non) (aCons (eC (.int 5)) (aCons (eC (.bl true)) (aCons (eC (.str "ab")) (aCons (eC (.dic [] [])) (aCons (eC (.dic [(.int 0)] [.tup [.int 1]])) (aCons (eOp1 (un fNeg) (eC (.int 1))) aNil)))))))) aNil)))) (sRet (eCall (F__law_same n RF) (aCons (eCall (F__law_told_rows n) (aCons (eVar 9) aNil)) (aCons (eLst (aCons (eC (.str "refused")) (aCons (eC (.int 0)) aNil))) aNil))))))))))
theorem rr_tail {m : Nat} {rs : List (List Int)} {w3 w4 w10 w11 : W} {cb : List (Option Cell)} (okb : Ok cb) (hkb : k < cb.length) (g : Good N t) (hN : N < 200000) (h1 : 1 ≤ m) (h3 : m ≤ 3) (hAm : ∀ r ∈ rs, Amt m r) (hrsl : rs.length ≤ 8) :
    ∃ t' sl', rrTail n ⟨rrS k m rs w3 w4 w10 w11 none none none none none, st cb k t⟩ = .rt (.d (.bl true)) ⟨sl', st cb k t'⟩ ∧ Good (N + 600) t' := by
  obtain ⟨at', t4, f1, f2, f3, g4⟩ := q_draw (n := n) (ce := cb) (m := (rs.length : Int) + 1) okb hkb g (by omega) (by omega) (by omega)
  obtain ⟨at_, rfl⟩ := Int.eq_ofNat_of_zero_le f2
  have hat : at_ ≤ rs.length := by omega
  let A : W := .d (.int (at_ : Nat))
  let s7 : S := ⟨rrS k m rs w3 w4 w10 w11 none none none none none, st cb k t⟩
  let s8 : S := ⟨rrS k m rs w3 w4 w10 w11 (some A) none none none none, st cb k t4⟩
  have e8 : sSet 5 (eCall (F__law_draw n) (aCons (eVar 0) (aCons (eOp2 (two fAdd) (eOpN lenN (aCons (eVar 2) aNil)) (eC (.int 1))) aNil))) s7 = .nx s8 := by
    have hl : eOpN lenN (aCons (eVar 2) aNil) s7 = .ok (.d (.int (rs.length : Nat))) s7 := opN_ok (arg1 (x_var (s := s7) (i := 2) rfl)) (by
      show some (D.int ((rs.map rowD).length : Nat)) = _
      rw [List.length_map])
    have hp : eOp2 (two fAdd) (eOpN lenN (aCons (eVar 2) aNil)) (eC (.int 1)) s7 = .ok (.d (.int ((rs.length : Int) + 1))) s7 := op2_ok hl (x_C (d := .int 1)) rfl
    exact set_ok (s' := ⟨s7.sl, st cb k t4⟩) (call_ok (arg2 (x_var (s := s7) (i := 0) rfl) hp) f1)
  let l := m % 3 + 1
  obtain ⟨r, t5, p1, p2, p3, g5⟩ := q_amount (n := n) (ce := cb) (m := l) okb hkb g4 (by omega) (by omega)
  let s9 : S := ⟨rrS k m rs w3 w4 w10 w11 (some A) (some (.d (rowD r))) none none none, st cb k t5⟩
  have e9 : sSet 6 (eCall (F__law_amount n) (aCons (eVar 0) (aCons (eOp2 (two fAdd) (eOp2 (two fMod) (eVar 1) (eC (.int 3))) (eC (.int 1))) aNil))) s8 = .nx s9 := by
    refine set_ok (s' := ⟨s8.sl, st cb k t5⟩) (call_ok (arg2 (x_var (s := s8) (i := 0) rfl) (op2_ok (o := two fAdd) (d := .int (l : Nat)) (op2_ok (x_var (i := 1) rfl) x_C (fMod_ok 3 (by decide))) (x_C (d := .int 1)) ?_)) p1)
    show some (D.int ((m : Int) % 3 + 1)) = some (D.int ((m % 3 + 1 : Nat) : Int))
    congr 2
  have hAl : Amt l r := ⟨p2, fun y hy => (p3 y hy).1⟩
  -- what is none
  have e10 : ∃ bad t6, sSet 7 (eIf (bAnd (bOf (eOp2 (two fGt) (eVar 5) (eC (.int 0)))) (bOf (eOp2 (two fEq) (eCall (F__law_draw n) (aCons (eVar 0) (aCons (eC (.int 3)) aNil))) (eC (.int 0))))) (eVar 6) (eCall (F__law_odd n) (aCons (eVar 0) aNil))) s9 = .nx ⟨rrS k m rs w3 w4 w10 w11 (some A) (some (.d (rowD r))) (some (.d bad)) none none, st cb k t6⟩ ∧ Good (N + 500) t6 ∧
      ((kd bad = true ∧ (∀ ds, seqD bad = some ds → ds.all kd = true) ∧ amtB bad = false) ∨ (at_ ≠ 0 ∧ ∃ l r, 1 ≤ l ∧ l ≤ 3 ∧ l ≠ m ∧ Amt l r ∧ SeqR r bad)) := by
    have hc : bOf (eOp2 (two fGt) (eVar 5) (eC (.int 0))) s9 = .ok (decide (0 < (at_ : Int))) s9 := bOf_ok (op2_ok (o := two fGt) (x_var (s := s9) (i := 5) rfl) (x_C (d := .int 0)) rfl)
    by_cases h0 : at_ = 0
    · rw [decide_eq_false (by omega)] at hc
      obtain ⟨y, t6, o1, o2, g6⟩ := q_odd (n := n) (ce := cb) okb hkb g5 (by omega)
      refine ⟨y, t6, ?_, g6.mono (by omega), .inl (odd_kinds o2)⟩
      have ho : eCall (F__law_odd n) (aCons (eVar 0) aNil) s9 = .ok (.d y) ⟨s9.sl, st cb k t6⟩ := call_ok (arg1 (x_var (s := s9) (i := 0) rfl)) o1
      exact set_ok (s' := ⟨s9.sl, st cb k t6⟩) ((eIf_ok ((bAnd_ok hc).trans (if_neg Bool.false_ne_true))).trans ((if_neg Bool.false_ne_true).trans ho))
    · rw [decide_eq_true (by omega)] at hc
      obtain ⟨ww, t5', u1, u2, u3, g5'⟩ := q_draw (n := n) (ce := cb) (m := 3) okb hkb g5 (by omega) (by decide) (by decide)
      let s9' : S := ⟨rrS k m rs w3 w4 w10 w11 (some A) (some (.d (rowD r))) none none none, st cb k t5'⟩
      have hb : bOf (eOp2 (two fEq) (eCall (F__law_draw n) (aCons (eVar 0) (aCons (eC (.int 3)) aNil))) (eC (.int 0))) s9 = .ok (ww == 0) s9' := bOf_ok (op2_ok (o := two fEq) (call_ok (arg2 (x_var (s := s9) (i := 0) rfl) x_C) u1) (x_C (d := .int 0)) rfl)
      by_cases hw : (ww == 0) = true
      · refine ⟨rowD r, t5', ?_, g5'.mono (by omega), .inr ⟨h0, l, r, by omega, by omega, by omega, hAl, rfl⟩⟩
        exact set_ok (s' := s9') ((eIf_ok ((bAnd_ok hc).trans ((if_pos rfl).trans hb))).trans ((if_pos hw).trans (x_var (i := 6) rfl)))
      · obtain ⟨y, t6, o1, o2, g6⟩ := q_odd (n := n) (ce := cb) okb hkb g5' (by omega)
        refine ⟨y, t6, ?_, g6.mono (by omega), .inl (odd_kinds o2)⟩
        have ha : aCons (eVar 0) aNil s9' = .ok [.c k] s9' := arg1 (x_var rfl)
        have ho : eCall (F__law_odd n) (aCons (eVar 0) aNil) s9' = .ok (.d y) ⟨s9'.sl, st cb k t6⟩ := call_ok ha o1
        exact set_ok (s' := ⟨s9.sl, st cb k t6⟩) ((eIf_ok ((bAnd_ok hc).trans ((if_pos rfl).trans hb))).trans ((if_neg hw).trans ho))
  obtain ⟨bad, t6, e10, g6, hbad⟩ := e10
  let s10 : S := ⟨rrS k m rs w3 w4 w10 w11 (some A) (some (.d (rowD r))) (some (.d bad)) none none, st cb k t6⟩
  obtain ⟨j, t7, j1, j2, j3, g7⟩ := q_draw (n := n) (ce := cb) (m := 2) okb hkb g6 (by omega) (by decide) (by decide)
  let bh : List D := (rs.drop at_).map rowD ++ (List.replicate j.toNat [D.non]).flatten
  have hbhl : bh.length ≤ 20 := by
    show ((rs.drop at_).map rowD ++ (List.replicate j.toNat [D.non]).flatten).length ≤ 20
    rw [List.length_append, List.length_map, List.length_drop]
    have : (List.replicate j.toNat [D.non]).flatten.length ≤ 2 := by
      have : j = 0 ∨ j = 1 := by omega
      rcases this with rfl | rfl <;> decide
    omega
  let s11 : S := ⟨rrS k m rs w3 w4 w10 w11 (some A) (some (.d (rowD r))) (some (.d bad)) (some (.d (.lst bh))) none, st cb k t7⟩
  have e11 : sSet 8 (eOp2 (two fAdd) (eSl (eVar 2) (oSome (eVar 5)) oNone) (eOp2 (two fMul) (eLst (aCons (eC .non) aNil)) (eCall (F__law_draw n) (aCons (eVar 0) (aCons (eC (.int 2)) aNil))))) s10 = .nx s11 := by
    have h1 : eSl (eVar 2) (oSome (eVar 5)) oNone s10 = .ok (.d (.lst ((rs.drop at_).map rowD))) s10 := by
      refine sl_ok (lo := some (at_ : Nat)) (hi := none) (x_var (i := 2) rfl) (oSome_ok (x_var (i := 5) rfl)) x_oNone ?_
      show some (D.lst (VL.cutD (rs.map rowD) (some (at_ : Nat)) none)) = _
      rw [cut_from _ _ (by rw [List.length_map]; exact hat), ← List.map_drop]
    have h2 : eOp2 (two fMul) (eLst (aCons (eC .non) aNil)) (eCall (F__law_draw n) (aCons (eVar 0) (aCons (eC (.int 2)) aNil))) s10 = .ok (.d (.lst (List.replicate j.toNat [D.non]).flatten)) ⟨s10.sl, st cb k t7⟩ := by
      refine op2_ok (lst_ok (ds := [.non]) (arg1 (x_C (s := s10))) rfl (small_le (by simp))) (call_ok (arg2 (x_var (i := 0) rfl) x_C) j1) ?_
      show fMul (.lst [.non]) (.int j) = _
      simp only [fMul]
      rw [if_pos ⟨by omega, by omega, small_le (by simp only [List.length_cons, List.length_nil]; omega)⟩]
    refine set_ok (s' := ⟨s10.sl, st cb k t7⟩) (op2_ok h1 h2 ?_)
    show fAdd (.lst _) (.lst _) = _
    simp only [fAdd]
    rw [if_pos (small_le (by have := hbhl; simp only [bh, List.length_append] at this; omega))]
  have e12 : sIf (bNot (bTru (eCall (F__law_same n RF) (aCons (eCall (F__law_told_rows n) (aCons (eOp2 (two fAdd) (eOp2 (two fAdd) (eSl (eVar 2) oNone (oSome (eVar 5))) (eLst (aCons (eVar 7) aNil))) (eVar 8)) aNil)) (aCons (eLst (aCons (eC (.str "refused")) (aCons (eVar 5) aNil))) aNil))))) (sRet (eC (.bl false))) sNext s11 = .nx s11 := by
    have hA1 : eSl (eVar 2) oNone (oSome (eVar 5)) s11 = .ok (.d (.lst ((rs.take at_).map rowD))) s11 := by
      refine sl_ok (lo := none) (hi := some (at_ : Nat)) (x_var (i := 2) rfl) x_oNone (oSome_ok (x_var (i := 5) rfl)) ?_
      show some (D.lst (VL.cutD (rs.map rowD) none (some (at_ : Nat)))) = _
      rw [cut_to _ _ (by rw [List.length_map]; exact hat), ← List.map_take]
    have h2 : eOp2 (two fAdd) (eSl (eVar 2) oNone (oSome (eVar 5))) (eLst (aCons (eVar 7) aNil)) s11 = .ok (.d (.lst ((rs.take at_).map rowD ++ [bad]))) s11 := by
      refine op2_ok hA1 (lst_ok (ds := [bad]) (arg1 (x_var (i := 7) rfl)) rfl (small_le (by simp))) ?_
      show fAdd (.lst _) (.lst _) = _
      simp only [fAdd]
      rw [if_pos (small_le (by simp only [List.length_map, List.length_take, List.length_cons, List.length_nil]; omega))]
    have h3' : eOp2 (two fAdd) (eOp2 (two fAdd) (eSl (eVar 2) oNone (oSome (eVar 5))) (eLst (aCons (eVar 7) aNil))) (eVar 8) s11 = .ok (.d (.lst ((rs.take at_).map rowD ++ bad :: bh))) s11 := by
      refine op2_ok h2 (x_var (i := 8) rfl) ?_
      show fAdd (.lst _) (.lst bh) = _
      simp only [fAdd]
      rw [if_pos (small_le (by simp only [List.length_append, List.length_map, List.length_take, List.length_cons, List.length_nil]; omega))]
      simp only [List.append_assoc, List.cons_append, List.nil_append]
    have hlen : (rs.take at_).length = at_ := by rw [List.length_take]; omega
    have hq := q_checked_bad (n := n) (ce := st cb k t7) (rs := rs.take at_) (bad := bad) (rest := bh) (st_ok okb) h1 h3 (fun r hr => hAm r (List.mem_of_mem_take hr)) (by
      rcases hbad with h | ⟨h, h'⟩
      · exact .inl h
      · refine .inr ⟨fun e => h ?_, h'⟩
        rw [← hlen, e]; rfl)
    rw [hlen] at hq
    have hs := call_ok (arg2 (call_ok (arg1 h3') (q_refused hq)) (lst_ok (ds := [.str "refused", .int (at_ : Nat)]) (arg2 (x_C (d := .str "refused") (s := s11)) (x_var (i := 5) rfl)) rfl (small_le (by simp)))) (q_same (n := n) 12 _ _ _ (st_ok okb) (.d _) (sm_two 10 _ (.int _)))
    refine (if_ok (bNot_ok (bTru_bl hs))).trans ?_
    rw [if_neg (by decide)]; rfl
  obtain ⟨y, t8, y1, y2, g8⟩ := q_pick (n := n) (w := .d (.lst noneL)) (ds := noneL) okb hkb g7 (by omega) (SeqW.lst noneL) (by decide) (by decide)
  let s13 : S := ⟨rrS k m rs w3 w4 w10 w11 (some A) (some (.d (rowD r))) (some (.d bad)) (some (.d (.lst bh))) (some (.d y)), st cb k t8⟩
  have e13 : sSet 9 (eCall (F__law_pick n) (aCons (eVar 0) (aCons (eLst (aCons (eC .non) (aCons (eC (.int 5)) (aCons (eC (.bl true)) (aCons (eC (.str "ab")) (aCons (eC (.dic [] [])) (aCons (eC (.dic [(.int 0)] [.tup [.int 1]])) (aCons (eOp1 (un fNeg) (eC (.int 1))) aNil)))))))) aNil))) s11 = .nx s13 :=
    set_ok (s' := ⟨s11.sl, st cb k t8⟩) (call_ok (arg2 (x_var (s := s11) (i := 0) rfl) (lst_ok (ds := noneL) (cons_ok x_C (cons_ok x_C (cons_ok x_C (cons_ok x_C (cons_ok x_C (arg2 x_C (op1_ok (d := .int (-1)) x_C rfl))))))) rfl (small_le (by simp)))) y1)
  have hy : kd y = true ∧ listB y = false := by
    have h : noneL.all (fun x => kd x && !listB x) = true := by decide +kernel
    have := List.all_eq_true.mp h y y2
    simpa using this
  have hq := q_checked_no (n := n) (ce := st cb k t8) (st_ok okb) hy.1 hy.2
  have e14 : eCall (F__law_same n RF) (aCons (eCall (F__law_told_rows n) (aCons (eVar 9) aNil)) (aCons (eLst (aCons (eC (.str "refused")) (aCons (eC (.int 0)) aNil))) aNil)) s13 = .ok (.d (.bl true)) s13 :=
    call_ok (arg2 (call_ok (arg1 (x_var (s := s13) (i := 9) rfl)) (q_refused hq)) (lst_ok (ds := [.str "refused", .int 0]) (arg2 x_C x_C) rfl (small_le (by simp)))) (q_same (n := n) 12 _ _ _ (st_ok okb) (.d _) (sm_two 10 _ (.int _)))
  refine ⟨t8, s13.sl, ?_, g8.mono (by omega)⟩
  · refine (seq_nx (show _ = Fl.nx s8 from e8)).trans ?_
    rw [seq_nx (show _ = Fl.nx s9 from e9), seq_nx (show _ = Fl.nx s10 from e10), seq_nx (show _ = Fl.nx s11 from e11), seq_nx (show _ = Fl.nx s11 from e12), seq_nx (show _ = Fl.nx s13 from e13), ret_ok e14]
theorem q_rows_right {m : Nat} (ok : Ok ce) (hk : k < ce.length) (g : Good N t) (hN : N < 100000) (h1 : 1 ≤ m) (h3 : m ≤ 3) (hn : 9 ≤ n) :
    ∃ t', F__law_rows_right n [.c k, .d (.int (m : Nat))] (st ce k t) = .ok (.d (.bl true)) ⟨[], st ce k t'⟩ ∧ Good (N + 1100) t' := by
  obtain ⟨sz', t1, d1, d2, d3, g1⟩ := q_draw (n := n) (m := 9) ok hk g (by omega) (by decide) (by decide)
  obtain ⟨sz, rfl⟩ := Int.eq_ofNat_of_zero_le d2
  obtain ⟨rs, t2, a1, a2, a3, g2⟩ := q_amounts (n := n) (m := m) (size := sz) ok hk g1 (by omega) h3 (by omega)
  have hrsl : rs.length ≤ 8 := by omega
  have hAm : ∀ r ∈ rs, Amt m r := fun r hr => ⟨a3.len r hr, fun x hx => (a3.bd r hr x hx).1⟩
  have hbd : ∀ r ∈ rs, r.length ≤ 3 ∧ ∀ y ∈ r, 0 ≤ y ∧ y ≤ 4000000000 := fun r hr => ⟨by have := a3.len r hr; omega, fun y hy => by have := a3.bd r hr y hy; omega⟩
  let rows : W := .d (.lst (rs.map rowD))
  let M : W := .d (.int (m : Nat))
  let s1 : S := ⟨[some (.c k), some M, some rows, none, none, none, none, none, none, none, none, none], st ce k t2⟩
  have e1 : sSet 2 (eCall (F__law_amounts n) (aCons (eVar 0) (aCons (eVar 1) (aCons (eCall (F__law_draw n) (aCons (eVar 0) (aCons (eC (.int 9)) aNil))) aNil)))) (entry 12 [.c k, M] (st ce k t)) = .nx s1 :=
    set_ok (s' := ⟨[some (.c k), some M, none, none, none, none, none, none, none, none, none, none], st ce k t2⟩) (call_ok (cons_ok (x_var (i := 0) rfl) (arg2 (x_var (i := 1) rfl) (call_ok (arg2 (x_var (i := 0) rfl) x_C) d1))) a1)
  obtain ⟨x, gs, t3, b1, b2, b3, g3⟩ := q_handed (n := n) ok hk g2 (by omega) (each_rows rs) (by omega)
  let s2 : S := ⟨[some (.c k), some M, some rows, some (.d x), none, none, none, none, none, none, none, none], st ce k t3⟩
  have e2 : sSet 3 (eCall (F__law_handed n) (aCons (eVar 0) (aCons (eVar 2) aNil))) s1 = .nx s2 :=
    set_ok (s' := ⟨s1.sl, st ce k t3⟩) (call_ok (arg2 (x_var (i := 0) rfl) (x_var (i := 2) rfl)) b1)
  obtain ⟨z, hz⟩ := q_repr b2 b3 hbd (by omega)
  let res := sift [] (rs.mergeSort leR)
  have hresl : res.length ≤ 8 := by
    have := (sift_sub [] (rs.mergeSort leR)).length_le
    rw [(List.mergeSort_perm rs leR).length_eq] at this
    exact Nat.le_trans this hrsl
  have hresm : ∀ r ∈ res, r.length = m := fun r hr => a3.len r (List.mem_mergeSort.mp ((sift_sub [] _).subset hr))
  let c1 := st ce k t3
  have ok1 : Ok c1 := st_ok ok
  have hll := q_law_least (n := n) ok1 h1 h3 (fun r hr => a3.len r hr) (by omega)
  let due : D := .lst (res.map rowD)
  let s3 : S := ⟨[some (.c k), some M, some rows, some (.d x), none, none, none, none, none, none, some (.d (.str z)), some (.d due)], c1⟩
  have e3 : sPar [10, 11] (aCons (eOpN (one fRepr) (aCons (eVar 3) aNil)) (aCons (eCall (F__law_least n) (aCons (eVar 2) aNil)) aNil)) s2 = .nx s3 := by
    unfold sPar
    rw [arg2 (opN_ok (d := .str z) (arg1 (x_var (s := s2) (i := 3) rfl)) hz) (call_ok (arg1 (x_var (s := s2) (i := 2) rfl)) hll)]
    rfl
  obtain ⟨zs, q1⟩ := q_told_rows (n := n) ok1 h1 h3 b2 b3 hAm (by omega) (by omega)
  let s4 : S := ⟨[some (.c k), some M, some rows, some (.d x), some (.c (c1.length + 3)), none, none, none, none, none, some (.d (.str z)), some (.d due)], toldC c1 zs res⟩
  have e4 : sSet 4 (eCall (F__law_told_rows n) (aCons (eVar 3) aNil)) s3 = .nx s4 :=
    set_ok (s' := ⟨s3.sl, toldC c1 zs res⟩) (call_ok (arg1 (x_var (i := 3) rfl)) q1)
  have hsm : Sm 12 (.lst [.str "told", due]) := sm_rows 8 (by omega) fun r hr => by rw [hresm r hr]; omega
  have e5 : sIf (bOr (bNot (bTru (eCall (F__law_same n RF) (aCons (eVar 4) (aCons (eLst (aCons (eC (.str "told")) (aCons (eVar 11) aNil))) aNil))))) (bOf (eOp2 (two fNe) (eOpN (one fRepr) (aCons (eVar 3) aNil)) (eVar 10)))) (sRet (eC (.bl false))) sNext s4 = .nx s4 := by
    have hs := call_ok (arg2 (x_var (s := s4) (i := 4) rfl) (lst_ok (ds := [.str "told", due]) (arg2 (x_C (d := .str "told") (s := s4)) (x_var (i := 11) rfl)) rfl (small_le (by simp)))) (q_same (n := n) 12 _ _ _ (told_ok ok1) told_std hsm)
    have hr : bOf (eOp2 (two fNe) (eOpN (one fRepr) (aCons (eVar 3) aNil)) (eVar 10)) s4 = .ok false s4 := bOf_ok (op2_ok (opN_ok (arg1 (x_var (i := 3) rfl)) hz) (x_var (i := 10) rfl) (by
      show some (D.bl (!(z == z))) = _
      rw [beq_self_eq_true]; rfl))
    refine (if_ok ((bOr_ok (bNot_ok (bTru_bl hs))).trans ((if_neg (by decide)).trans hr))).trans ?_
    rw [if_neg Bool.false_ne_true]; rfl
  let s6 : S := ⟨s4.sl, toldC c1 zs (res ++ [[7, 7]])⟩
  have e6 : sDrop (eAppend (eIxZ (eVar 4) (eC (.int 1))) (eTup (aCons (eC (.int 7)) (aCons (eC (.int 7)) aNil)))) s4 = .nx s6 := by
    have hi : eIxZ (eVar 4) (eC (.int 1)) s4 = .ok (.c (c1.length + 2)) s4 := ixZ_ok (x_var (i := 4) rfl) x_C (ixZ_lst told_3)
    refine (drop_ok (append_ok hi told_2 (tup_ok (ds := [.int 7, .int 7]) (arg2 x_C x_C) rfl (small_le (by simp))) told_2 (small_lt (by rw [List.length_map, List.length_map]; omega)))).trans ?_
    rw [show (some (Cell.lst ((res.map rowD).map W.d ++ [.d (.tup [.int 7, .int 7])])) : Option Cell) = fnd (res ++ [[7, 7]]) from fnd_app (r := [7, 7])]
    exact congrArg (fun c => Fl.nx ⟨s4.sl, c⟩) told_put
  let T2 := toldC c1 zs (res ++ [[7, 7]])
  have ok2 : Ok T2 := told_ok ok1
  obtain ⟨zs2, q2⟩ := q_told_rows (n := n) ok2 h1 h3 b2 b3 hAm (by omega) (by omega)
  let T3 := toldC T2 zs2 res
  have ok3 : Ok T3 := told_ok ok2
  let s7 : S := ⟨s4.sl, T3⟩
  have e7 : sIf (bNot (bTru (eCall (F__law_same n RF) (aCons (eCallX (F__law_told_rows n) [0] [] aNil (aCons (eVar 3) aNil)) (aCons (eLst (aCons (eC (.str "told")) (aCons (eVar 11) aNil))) aNil))))) (sRet (eC (.bl false))) sNext s6 = .nx s7 := by
    have hx : eCallX (F__law_told_rows n) [0] [] aNil (aCons (eVar 3) aNil) s6 = .ok (.c (T2.length + 3)) s7 := by
      have hv : aCons (eVar 3) aNil s6 = .ok [.d x] s6 := arg1 (x_var rfl)
      have hp : picks [0] (([] : List W) ++ [W.d x] ++ []) = [W.d x] := rfl
      refine callX_ok (ws := []) (zs := [.d x]) (s1 := s6) (s2 := s6) (xs := []) (c2 := T3) x_nil hv ?_
      rw [hp]
      exact q2
    have hs := call_ok (arg2 hx (lst_ok (ds := [.str "told", due]) (arg2 (x_C (d := .str "told") (s := s7)) (x_var (i := 11) rfl)) rfl (small_le (by simp)))) (q_same (n := n) 12 _ _ _ ok3 told_std hsm)
    refine (if_ok (bNot_ok (bTru_bl hs))).trans ?_
    rw [if_neg (by decide)]; rfl
  -- the cells behind
  let E : List (Option Cell) := ([intsC (zs.map (·.1)), intsC (zs.map (·.2)), fnd (res ++ [[7, 7]])] ++ [toldX c1]) ++ ([intsC (zs2.map (·.1)), intsC (zs2.map (·.2)), fnd res] ++ [toldX T2])
  have hT3 : T3 = c1 ++ E := by simp only [T3, T2, toldC, tri, E, List.append_assoc]
  let cb := ce ++ E
  have okb : Ok cb := ok.app (by
    have h := ok3
    unfold Ok at h
    rw [hT3, Fits_app, Bool.and_eq_true, List.length_append, st_len] at h
    exact h.2)
  have hkb : k < cb.length := by show k < (ce ++ E).length; rw [List.length_append]; omega
  have hcb : ∀ t, st cb k t = st ce k t ++ E := fun t => st_app hk E
  have hT3' : T3 = st cb k t3 := by rw [hcb, hT3]
  obtain ⟨t8, sl', e8, g8⟩ := rr_tail (n := n) (w3 := .d x) (w4 := .c (c1.length + 3)) (w10 := .d (.str z)) (w11 := .d due) okb hkb g3 (by omega) h1 h3 hAm hrsl
  have e8' : rrTail n s7 = .rt (.d (.bl true)) ⟨sl', st cb k t8⟩ := by
    have : s7 = ⟨rrS k m rs (.d x) (.c (c1.length + 3)) (.d (.str z)) (.d due) none none none none none, st cb k t3⟩ := by show (⟨s4.sl, T3⟩ : S) = _; rw [hT3']
    rw [this]; exact e8
  refine ⟨t8, ?_, g8.mono (by omega)⟩
  unfold F__law_rows_right b__law_rows_right
  rw [seq_nx (show _ = Fl.nx s1 from e1), seq_nx (show _ = Fl.nx s2 from e2), seq_nx (show _ = Fl.nx s3 from e3), seq_nx (show _ = Fl.nx s4 from e4), seq_nx (show _ = Fl.nx s4 from e5), seq_nx (show _ = Fl.nx s6 from e6), seq_nx (show _ = Fl.nx s7 from e7)]
  show shut (st ce k t).length (rrTail n s7) = _
  rw [e8']
  exact shutS (x := E) ok (hcb t8)
end G

set_option maxHeartbeats 1000000
namespace G
open PySem PySem.Spec PyProof.Rows L2 VL
variable {n : Nat} {ce : List (Option Cell)} {k N : Nat} {t : Dr}
theorem sm_lst (m : Nat) {r : List Int} (h : r.length ≤ 1000) : Sm (m + 2) (.lst (r.map .int)) := .lst (by rw [List.length_map]; exact h) fun x hx => by
  obtain ⟨i, _, rfl⟩ := List.mem_map.mp hx
  exact .int i
theorem sm_tup (m : Nat) {r : List Int} (h : r.length ≤ 1000) : Sm (m + 2) (.tup (r.map .int)) := .tup (by rw [List.length_map]; exact h) fun x hx => by
  obtain ⟨i, _, rfl⟩ := List.mem_map.mp hx
  exact .int i
theorem ix_seq1 {x f h : D} {gs : List D} (e : seqD x = some (f :: h :: gs)) : ixZ ce (.d x) (.d (.int 1)) = some (.d h) := by
  have : atI (f :: h :: gs) (1 : Int) = some h := by
    have := atI_nat (xs := f :: h :: gs) (i := 1) (by simp)
    simpa using this
  cases x <;> simp only [seqD, Option.some.injEq, reduceCtorEq] at e <;> subst e
  · show (atI _ 1).map W.d = _
    rw [this]; rfl
  · show (atI _ 1).map W.d = _
    rw [this]; rfl
def NoPr (m : Nat) (y : D) : Prop := (kd y = true ∧ (∀ ds, seqD y = some ds → ds.all kd = true) ∧ amtB y = false) ∨ ∃ l p, 1 ≤ l ∧ l ≤ 3 ∧ Amt l p ∧ SeqR p y ∧ (l ≠ m ∨ ∀ x ∈ p, x ≤ 0)
theorem noPr_odd {m : Nat} {y : D} (h : y ∈ oddL) : NoPr m y := .inl (odd_kinds h)
theorem kd_ints {x : D} {r : List Int} (h : SeqR r x) : kd x = true ∧ ∀ ds, seqD x = some ds → ds.all kd = true := by
  refine ⟨seqD_kd h, fun ds e => amt_kd (r := r) ds ?_⟩
  rw [← e]; exact h.symm
theorem amtB_seq {x : D} {r : List Int} (h : SeqR r x) : amtB x = (decide (1 ≤ r.length) && (decide (r.length ≤ 3) && r.all fun i => decide (0 ≤ i))) := by
  unfold amtB
  rw [show seqD x = some (r.map .int) from h]
  simp only [List.length_map, List.all_map]
  rfl
theorem noPr_seq {m : Nat} {x : D} {r : List Int} (h : SeqR r x) (h2 : r.length ≠ m ∨ (∀ y ∈ r, y ≤ 0) ∨ ∃ y ∈ r, y < 0) : NoPr m x := by
  by_cases hb : amtB x = false
  · exact .inl ⟨(kd_ints h).1, (kd_ints h).2, hb⟩
  · rw [Bool.not_eq_false, amtB_seq h] at hb
    simp only [Bool.and_eq_true, decide_eq_true_eq, List.all_eq_true] at hb
    refine .inr ⟨r.length, r, hb.1, hb.2.1, ⟨rfl, fun y hy => hb.2.2 y hy⟩, h, ?_⟩
    rcases h2 with h2 | h2 | ⟨y, hy, h2⟩
    · exact .inl h2
    · exact .inr h2
    · have := hb.2.2 y hy; omega
theorem rep_one {α : Type} (x : α) : ∀ m : Nat, (List.replicate m [x]).flatten = List.replicate m x
  | 0 => rfl
  | m + 1 => by simp only [List.replicate_succ, List.flatten_cons, rep_one x m, List.cons_append, List.nil_append]
abbrev crS (k m : Nat) (a p : List Int) (o2 o3 o4 o5 : Option W) : List (Option W) := [some (.c k), some (.d (.int (m : Nat))), o2, o3, o4, o5, some (.d (rowD a)), some (.d (.lst (p.map .int)))]
noncomputable abbrev crSome (n : Nat) : S → Out W := eLst (aCons (eCall (F__law_odd n) (aCons (eVar 0) aNil)) (aCons (eOp2 (two fMul) (eLst (aCons (eC (.int 0)) aNil)) (eVar 1)) (aCons (eOp2 (two fMul) (eTup (aCons (eC (.int 0)) aNil)) (eVar 1)) (aCons (eOp2 (two fAdd) (eVar 7) (eLst (aCons (eC (.int 1)) aNil))) (aCons (eSl (eVar 7) (oSome (eC (.int 1))) oNone) (aCons (eOp2 (two fAdd) (eSl (eVar 7) oNone (oSome (eOp1 (un fNeg) (eC (.int 1))))) (eLst (aCons (eOp1 (un fNeg) (eC (.int 1))) aNil))) aNil))))))
theorem cr_some {m : Nat} {a p : List Int} {o2 o3 o4 o5 : Option W} {t' : Dr} {y : D} (h1 : 1 ≤ m) (h3 : m ≤ 3) (hp : p.length = m) (ho : F__law_odd n [.c k] (st ce k t) = .ok (.d y) ⟨[], st ce k t'⟩) :
    crSome n ⟨crS k m a p o2 o3 o4 o5, st ce k t⟩ = .ok (.d (.lst [y, .lst ((List.replicate m 0).map .int), .tup ((List.replicate m 0).map .int), .lst ((p ++ [1]).map .int), .lst ((p.drop 1).map .int), .lst ((p.take (m - 1) ++ [-1]).map .int)])) ⟨crS k m a p o2 o3 o4 o5, st ce k t'⟩ := by
  let s : S := ⟨crS k m a p o2 o3 o4 o5, st ce k t'⟩
  have z : ∀ {m : Nat}, m ≤ 1000 → m ≤ sizeLine := small_le
  have hrep : (List.replicate m [D.int 0]).flatten = (List.replicate m (0 : Int)).map D.int := by rw [rep_one, List.map_replicate]
  have v1 : eVar 1 s = .ok (.d (.int (m : Nat))) s := x_var rfl
  have v7 : eVar 7 s = .ok (.d (.lst (p.map .int))) s := x_var rfl
  have e2 : eOp2 (two fMul) (eLst (aCons (eC (.int 0)) aNil)) (eVar 1) s = .ok (.d (.lst ((List.replicate m 0).map .int))) s := by
    refine op2_ok (lst_ok (ds := [.int 0]) (arg1 (x_C (s := s))) rfl (z (by simp))) v1 ?_
    show fMul (.lst [.int 0]) (.int (m : Nat)) = _
    simp only [fMul]
    rw [if_pos ⟨by omega, by omega, z (by simp only [List.length_cons, List.length_nil, Int.toNat_natCast]; omega)⟩, Int.toNat_natCast, hrep]
  have e3 : eOp2 (two fMul) (eTup (aCons (eC (.int 0)) aNil)) (eVar 1) s = .ok (.d (.tup ((List.replicate m 0).map .int))) s := by
    refine op2_ok (tup_ok (ds := [.int 0]) (arg1 (x_C (s := s))) rfl (z (by simp))) v1 ?_
    show fMul (.tup [.int 0]) (.int (m : Nat)) = _
    simp only [fMul]
    rw [if_pos ⟨by simp, by omega, by omega, by simp⟩, Int.toNat_natCast, hrep]
  have e4 : eOp2 (two fAdd) (eVar 7) (eLst (aCons (eC (.int 1)) aNil)) s = .ok (.d (.lst ((p ++ [1]).map .int))) s := by
    refine op2_ok v7 (lst_ok (ds := [.int 1]) (arg1 (x_C (s := s))) rfl (z (by simp))) ?_
    show fAdd (.lst (p.map .int)) (.lst [.int 1]) = _
    simp only [fAdd]
    rw [if_pos (z (by simp only [List.length_map, List.length_cons, List.length_nil]; omega)), List.map_append]
    rfl
  have e5 : eSl (eVar 7) (oSome (eC (.int 1))) oNone s = .ok (.d (.lst ((p.drop 1).map .int))) s := by
    refine sl_ok (lo := some ((1 : Nat) : Int)) (hi := none) v7 (oSome_ok x_C) x_oNone ?_
    show some (D.lst (VL.cutD (p.map D.int) (some ((1 : Nat) : Int)) none)) = _
    rw [cut_from _ 1 (by rw [List.length_map]; omega), ← List.map_drop]
  have n1 : eOp1 (un fNeg) (eC (.int 1)) s = .ok (.d (.int (-1))) s := op1_ok x_C rfl
  have e6a : eSl (eVar 7) oNone (oSome (eOp1 (un fNeg) (eC (.int 1)))) s = .ok (.d (.lst ((p.take (m - 1)).map .int))) s := by
    refine sl_ok (lo := none) (hi := some (-1)) v7 x_oNone (oSome_ok n1) ?_
    show some (D.lst (VL.cutD (p.map D.int) none (some (-1)))) = _
    unfold VL.cutD
    rw [HT.sIx_none, List.drop_zero, Nat.sub_zero, ← List.map_take]
    have : HT.sIx (p.map D.int).length (p.map D.int).length (some (-1)) = m - 1 := by
      simp only [HT.sIx]
      rw [if_pos (by decide), List.length_map, hp]
      omega
    rw [this]
  have e6 : eOp2 (two fAdd) (eSl (eVar 7) oNone (oSome (eOp1 (un fNeg) (eC (.int 1))))) (eLst (aCons (eOp1 (un fNeg) (eC (.int 1))) aNil)) s = .ok (.d (.lst ((p.take (m - 1) ++ [-1]).map .int))) s := by
    refine op2_ok e6a (lst_ok (ds := [.int (-1)]) (arg1 n1) rfl (z (by simp))) ?_
    show fAdd (.lst _) (.lst [.int (-1)]) = _
    simp only [fAdd]
    rw [if_pos (z (by simp only [List.length_map, List.length_take, List.length_cons, List.length_nil]; omega)), List.map_append]
    rfl
  have h0 : aCons (eVar 0) aNil (⟨crS k m a p o2 o3 o4 o5, st ce k t⟩ : S) = .ok [.c k] ⟨crS k m a p o2 o3 o4 o5, st ce k t⟩ := arg1 (x_var rfl)
  exact lst_ok (cons_ok (call_ok h0 ho) (cons_ok e2 (cons_ok e3 (cons_ok e4 (arg2 e5 e6))))) rfl (z (by simp))
theorem q_costs_right {m : Nat} (ok : Ok ce) (hk : k < ce.length) (g : Good N t) (hN : N < 100000) (h1 : 1 ≤ m) (h3 : m ≤ 3) :
    ∃ t', F__law_costs_right n [.c k, .d (.int (m : Nat))] (st ce k t) = .ok (.d (.bl true)) ⟨[], st ce k t'⟩ ∧ Good (N + 1000) t' := by
  obtain ⟨a, t1, a1, a2, a3, g1⟩ := q_amount (n := n) (m := m) ok hk g (by omega) h3
  obtain ⟨p, t2, p1, p2, p3, p4, g2⟩ := q_prices (n := n) (m := m) ok hk g1 (by omega) h1 h3
  have hA : Amt m a := ⟨a2, fun x hx => (a3 x hx).1⟩
  have hP : Amt m p := ⟨p2, fun x hx => (p3 x hx).1⟩
  have hbd : ∀ i ∈ a, 0 ≤ i ∧ i ≤ 4000000000 := fun i hi => by have := a3 i hi; omega
  let s0 : S := entry 8 [.c k, .d (.int (m : Nat))] (st ce k t)
  let s1 : S := ⟨crS k m a p none none none none, st ce k t2⟩
  have e1 : sPar [6, 7] (aCons (eCall (F__law_amount n) (aCons (eVar 0) (aCons (eVar 1) aNil))) (aCons (eCall (F__law_prices n) (aCons (eVar 0) (aCons (eVar 1) aNil))) aNil)) s0 = .nx s1 := by
    let s0' : S := ⟨[some (.c k), some (.d (.int (m : Nat))), none, none, none, none, none, none], st ce k t1⟩
    have c1 : eCall (F__law_amount n) (aCons (eVar 0) (aCons (eVar 1) aNil)) s0 = .ok (.d (rowD a)) s0' := call_ok (arg2 (x_var (s := s0) (i := 0) rfl) (x_var (i := 1) rfl)) a1
    have v : aCons (eVar 0) (aCons (eVar 1) aNil) s0' = .ok [.c k, .d (.int (m : Nat))] s0' := arg2 (x_var rfl) (x_var rfl)
    have c2 : eCall (F__law_prices n) (aCons (eVar 0) (aCons (eVar 1) aNil)) s0' = .ok (.d (.lst (p.map .int))) ⟨s0'.sl, st ce k t2⟩ := call_ok v p1
    unfold sPar
    rw [arg2 c1 c2]
    rfl
  obtain ⟨x, gs, t3, b1, b2, b3, g3⟩ := q_handed (n := n) (rs := [a, p]) (ds := [rowD a, .lst (p.map .int)]) ok hk g2 (by omega) (.cons rfl (.cons rfl .nil)) (by simp)
  have hgs : ∃ g0 g1, gs = [g0, g1] ∧ SeqR a g0 ∧ SeqR p g1 := by
    cases b3 with
    | cons u1 r1 => cases r1 with
      | cons u2 r2 => cases r2; exact ⟨_, _, rfl, u1, u2⟩
  obtain ⟨y0, y1, rfl, hy0, hy1⟩ := hgs
  let s2 : S := ⟨crS k m a p (some (.d x)) none none none, st ce k t3⟩
  have e2 : sSet 2 (eCall (F__law_handed n) (aCons (eVar 0) (aCons (eLst (aCons (eVar 6) (aCons (eVar 7) aNil))) aNil))) s1 = .nx s2 := by
    have hl : eLst (aCons (eVar 6) (aCons (eVar 7) aNil)) s1 = .ok (.d (.lst [rowD a, .lst (p.map .int)])) s1 := lst_ok (arg2 (x_var (s := s1) (i := 6) rfl) (x_var (i := 7) rfl)) rfl (small_le (by simp))
    exact set_ok (s' := ⟨s1.sl, st ce k t3⟩) (call_ok (arg2 (x_var (s := s1) (i := 0) rfl) hl) b1)
  have ok3 : Ok (st ce k t3) := st_ok ok
  have i0 : ∀ (s : S) , s.sl[2]? = some (some (.d x)) → eIxZ (eVar 2) (eC (.int 0)) s = .ok (.d y0) s := fun s hs => ixZ_ok (x_var hs) x_C (ix_seq b2)
  have i1 : ∀ (s : S) , s.sl[2]? = some (some (.d x)) → eIxZ (eVar 2) (eC (.int 1)) s = .ok (.d y1) s := fun s hs => ixZ_ok (x_var hs) x_C (ix_seq1 b2)
  have e3 : sIf (bNot (bTru (eCall (F__law_same n RF) (aCons (eCall (F__law_told_cost n) (aCons (eIxZ (eVar 2) (eC (.int 0))) (aCons (eIxZ (eVar 2) (eC (.int 1))) aNil))) (aCons (eLst (aCons (eC (.str "told")) (aCons (eCall (F__law_dot n) (aCons (eVar 6) (aCons (eVar 7) aNil))) aNil))) aNil))))) (sRet (eC (.bl false))) sNext s2 = .nx s2 := by
    have c1 : eCall (F__law_told_cost n) (aCons (eIxZ (eVar 2) (eC (.int 0))) (aCons (eIxZ (eVar 2) (eC (.int 1))) aNil)) s2 = .ok (.d (.lst [.str "told", .int (dotI a p)])) s2 :=
      call_ok (arg2 (i0 s2 rfl) (i1 s2 rfl)) (q_told_cost ok3 (q_cost ok3 h1 h3 hA hy0 hP hy1 p4 hbd))
    have c2 : eCall (F__law_dot n) (aCons (eVar 6) (aCons (eVar 7) aNil)) s2 = .ok (.d (.int (dotI a p))) s2 := call_ok (arg2 (x_var (s := s2) (i := 6) rfl) (x_var (i := 7) rfl)) (q_dot ok3 (x := rowD a) (y := .lst (p.map .int)) rfl rfl (by omega) hbd)
    have c3 : eLst (aCons (eC (.str "told")) (aCons (eCall (F__law_dot n) (aCons (eVar 6) (aCons (eVar 7) aNil))) aNil)) s2 = .ok (.d (.lst [.str "told", .int (dotI a p)])) s2 := lst_ok (arg2 x_C c2) rfl (small_le (by simp))
    refine (if_ok (bNot_ok (bTru_bl (call_ok (arg2 c1 c3) (q_same (n := n) 12 _ _ _ ok3 (.d _) (sm_two 10 _ (.int _))))))).trans ?_
    rw [if_neg (by decide)]; rfl
  obtain ⟨o, t4, o1, o2, g4⟩ := q_odd (n := n) ok hk g3 (by omega)
  let s4 : S := ⟨crS k m a p (some (.d x)) (some (.d o)) none none, st ce k t4⟩
  have e4 : sSet 3 (eCall (F__law_odd n) (aCons (eVar 0) aNil)) s2 = .nx s4 := by
    have h0 : aCons (eVar 0) aNil s2 = .ok [.c k] s2 := arg1 (x_var rfl)
    exact set_ok (s' := ⟨s2.sl, st ce k t4⟩) (call_ok h0 o1)
  obtain ⟨y, t5, y1', y2, g5⟩ := q_pick (n := n) (w := .d (.lst [.lst (p.map .int), .non, o])) (ds := [.lst (p.map .int), .non, o]) ok hk g4 (by omega) (SeqW.lst _) (by simp) (by simp)
  let s5 : S := ⟨crS k m a p (some (.d x)) (some (.d o)) none none, st ce k t5⟩
  have ok5 : Ok (st ce k t5) := st_ok ok
  have e5 : sIf (bNot (bTru (eCall (F__law_same n RF) (aCons (eCall (F__law_told_cost n) (aCons (eVar 3) (aCons (eCall (F__law_pick n) (aCons (eVar 0) (aCons (eLst (aCons (eVar 7) (aCons (eC .non) (aCons (eVar 3) aNil)))) aNil))) aNil))) (aCons (eLst (aCons (eC (.str "amount")) (aCons (eVar 3) aNil))) aNil))))) (sRet (eC (.bl false))) sNext s4 = .nx s5 := by
    have c0 : eLst (aCons (eVar 7) (aCons (eC .non) (aCons (eVar 3) aNil))) s4 = .ok (.d (.lst [.lst (p.map .int), .non, o])) s4 := lst_ok (cons_ok (x_var (s := s4) (i := 7) rfl) (arg2 x_C (x_var (i := 3) rfl))) rfl (small_le (by simp))
    have c1 : eCall (F__law_pick n) (aCons (eVar 0) (aCons (eLst (aCons (eVar 7) (aCons (eC .non) (aCons (eVar 3) aNil)))) aNil)) s4 = .ok (.d y) s5 := call_ok (arg2 (x_var (s := s4) (i := 0) rfl) c0) y1'
    have c2 : eCall (F__law_told_cost n) (aCons (eVar 3) (aCons (eCall (F__law_pick n) (aCons (eVar 0) (aCons (eLst (aCons (eVar 7) (aCons (eC .non) (aCons (eVar 3) aNil)))) aNil))) aNil)) s4 = .ok (.d (.lst [.str "amount", o])) s5 :=
      call_ok (arg2 (x_var (s := s4) (i := 3) rfl) c1) (q_told_amount ok5 (q_cost_amount ok5 (odd_kinds o2).1 (odd_kinds o2).2.1 (odd_kinds o2).2.2))
    have c3 : eLst (aCons (eC (.str "amount")) (aCons (eVar 3) aNil)) s5 = .ok (.d (.lst [.str "amount", o])) s5 := lst_ok (arg2 x_C (x_var (s := s5) (i := 3) rfl)) rfl (small_le (by simp))
    refine (if_ok (bNot_ok (bTru_bl (call_ok (arg2 c2 c3) (q_same (n := n) 12 _ _ _ ok5 (.d _) (sm_two 10 _ (sm_odd o2))))))).trans ?_
    rw [if_neg (by decide)]; rfl
  obtain ⟨o', t6, o1', o2', g6⟩ := q_odd (n := n) ok hk g5 (by omega)
  let L : List D := [o', .lst ((List.replicate m 0).map .int), .tup ((List.replicate m 0).map .int), .lst ((p ++ [1]).map .int), .lst ((p.drop 1).map .int), .lst ((p.take (m - 1) ++ [-1]).map .int)]
  let s6 : S := ⟨crS k m a p (some (.d x)) (some (.d o)) (some (.d (.lst L))) none, st ce k t6⟩
  have e6 : sSet 4 (crSome n) s5 = .nx s6 := set_ok (s' := ⟨s5.sl, st ce k t6⟩) (cr_some h1 h3 p2 o1')
  obtain ⟨b, t7, b1', b2', g7⟩ := q_pick (n := n) (w := .d (.lst L)) (ds := L) ok hk g6 (by omega) (SeqW.lst _) (by simp [L]) (by simp [L])
  let s7 : S := ⟨crS k m a p (some (.d x)) (some (.d o)) (some (.d (.lst L))) (some (.d b)), st ce k t7⟩
  have e7 : sSet 5 (eCall (F__law_pick n) (aCons (eVar 0) (aCons (eVar 4) aNil))) s6 = .nx s7 := by
    have h0 : aCons (eVar 0) (aCons (eVar 4) aNil) s6 = .ok [.c k, .d (.lst L)] s6 := arg2 (x_var rfl) (x_var rfl)
    exact set_ok (s' := ⟨s6.sl, st ce k t7⟩) (call_ok h0 b1')
  have hb : NoPr m b ∧ Sm 11 b := by
    simp only [L, List.mem_cons, List.not_mem_nil, or_false] at b2'
    rcases b2' with rfl | rfl | rfl | rfl | rfl | rfl
    · exact ⟨noPr_odd o2', sm_odd o2'⟩
    · exact ⟨noPr_seq (r := List.replicate m 0) rfl (.inr (.inl fun y hy => by rw [(List.mem_replicate.mp hy).2]; exact Int.le_refl _)), sm_lst 9 (by rw [List.length_replicate]; omega)⟩
    · exact ⟨noPr_seq (r := List.replicate m 0) rfl (.inr (.inl fun y hy => by rw [(List.mem_replicate.mp hy).2]; exact Int.le_refl _)), sm_tup 9 (by rw [List.length_replicate]; omega)⟩
    · exact ⟨noPr_seq (r := p ++ [1]) rfl (.inl (by rw [List.length_append]; simp only [List.length_cons, List.length_nil]; omega)), sm_lst 9 (by rw [List.length_append]; simp only [List.length_cons, List.length_nil]; omega)⟩
    · exact ⟨noPr_seq (r := p.drop 1) rfl (.inl (by rw [List.length_drop]; omega)), sm_lst 9 (by rw [List.length_drop]; omega)⟩
    · exact ⟨noPr_seq (r := p.take (m - 1) ++ [-1]) rfl (.inr (.inr ⟨-1, by simp, by decide⟩)), sm_lst 9 (by rw [List.length_append, List.length_take]; simp only [List.length_cons, List.length_nil]; omega)⟩
  have ok7 : Ok (st ce k t7) := st_ok ok
  have hq := q_told_prices (n := n) ok7 (q_cost_prices ok7 h1 h3 hA hy0 hb.1)
  have e8 : eCall (F__law_same n RF) (aCons (eCallX (F__law_told_cost n) [1, 0] [] aNil (aCons (eVar 5) (aCons (eIxZ (eVar 2) (eC (.int 0))) aNil))) (aCons (eLst (aCons (eC (.str "prices")) (aCons (eVar 5) aNil))) aNil)) s7 = .ok (.d (.bl true)) s7 := by
    have hv : aCons (eVar 5) (aCons (eIxZ (eVar 2) (eC (.int 0))) aNil) s7 = .ok [.d b, .d y0] s7 := arg2 (x_var rfl) (i0 s7 rfl)
    have hp : picks [1, 0] (([] : List W) ++ [W.d b, W.d y0] ++ []) = [W.d y0, W.d b] := rfl
    have hx : eCallX (F__law_told_cost n) [1, 0] [] aNil (aCons (eVar 5) (aCons (eIxZ (eVar 2) (eC (.int 0))) aNil)) s7 = .ok (.d (.lst [.str "prices", b])) s7 := by
      refine callX_ok (ws := []) (zs := [.d b, .d y0]) (s1 := s7) (s2 := s7) (xs := []) (c2 := st ce k t7) x_nil hv ?_
      rw [hp]
      exact hq
    have hl : eLst (aCons (eC (.str "prices")) (aCons (eVar 5) aNil)) s7 = .ok (.d (.lst [.str "prices", b])) s7 := lst_ok (arg2 x_C (x_var (s := s7) (i := 5) rfl)) rfl (small_le (by simp))
    exact call_ok (arg2 hx hl) (q_same (n := n) 12 _ _ _ ok7 (.d _) (sm_two 10 _ hb.2))
  refine ⟨t7, ?_, g7.mono (by omega)⟩
  unfold F__law_costs_right b__law_costs_right
  rw [seq_nx (show _ = Fl.nx s1 from e1), seq_nx (show _ = Fl.nx s2 from e2), seq_nx (show _ = Fl.nx s2 from e3), seq_nx (show _ = Fl.nx s4 from e4), seq_nx (show _ = Fl.nx s5 from e5), seq_nx (show _ = Fl.nx s6 from e6), seq_nx (show _ = Fl.nx s7 from e7), ret_ok e8]
  exact shutS (x := []) ok (List.append_nil _).symm
end G

set_option maxHeartbeats 1000000
namespace G
open PySem PySem.Spec PyProof.Rows L2 VL
variable {n : Nat}
abbrev lwS (ns : List Int) (ce : List (Option Cell)) (o1 o2 o3 o4 : Option W) : S := ⟨[some (.d (.scr ns)), o1, o2, o3, o4], ce⟩
noncomputable abbrev lwIn (n : Nat) : S → Fl := (sIf (bOr (bNot (bTru (eCall (F__law_rows_right n) (aCons (eVar 2) (aCons (eVar 3) aNil))))) (bNot (bTru (eCall (F__law_costs_right n) (aCons (eVar 2) (aCons (eVar 3) aNil)))))) (sRet (eC (.bl false))) sNext)
noncomputable abbrev lwBody (n : Nat) : S → Fl := (sSeq (sSet 2 (eCall (F__law_source n) (aCons (eVar 0) (aCons (eVar 1) aNil)))) (sSeq (sSet 3 (eOp2 (two fAdd) (eC (.int 1)) (eCall (F__law_draw n) (aCons (eVar 2) (aCons (eC (.int 3)) aNil))))) (sFor (.nm 4) (iRange1 (aCons (eC (.int 2)) aNil)) (lwIn n))))
theorem lw_in {ns : List Int} {cb : List (Option Cell)} {k m N : Nat} {t : Dr} {o1 o4 : Option W} (ok : Ok cb) (hk : k < cb.length) (g : Good N t) (hN : N < 50000) (h1 : 1 ≤ m) (h3 : m ≤ 3) (hn : 9 ≤ n) :
    ∃ t', lwIn n (lwS ns (st cb k t) o1 (some (.c k)) (some (.d (.int (m : Nat)))) o4) = .nx (lwS ns (st cb k t') o1 (some (.c k)) (some (.d (.int (m : Nat)))) o4) ∧ Good (N + 2200) t' := by
  obtain ⟨t1, a1, g1⟩ := q_rows_right (n := n) ok hk g (by omega) h1 h3 hn
  obtain ⟨t2, a2, g2⟩ := q_costs_right (n := n) ok hk g1 (by omega) h1 h3
  let s0 : S := lwS ns (st cb k t) o1 (some (.c k)) (some (.d (.int (m : Nat)))) o4
  let s1 : S := lwS ns (st cb k t1) o1 (some (.c k)) (some (.d (.int (m : Nat)))) o4
  let s2 : S := lwS ns (st cb k t2) o1 (some (.c k)) (some (.d (.int (m : Nat)))) o4
  have v0 : aCons (eVar 2) (aCons (eVar 3) aNil) s0 = .ok [.c k, .d (.int (m : Nat))] s0 := arg2 (x_var rfl) (x_var rfl)
  have v1 : aCons (eVar 2) (aCons (eVar 3) aNil) s1 = .ok [.c k, .d (.int (m : Nat))] s1 := arg2 (x_var rfl) (x_var rfl)
  have c0 : eCall (F__law_rows_right n) (aCons (eVar 2) (aCons (eVar 3) aNil)) s0 = .ok (.d (.bl true)) s1 := call_ok v0 a1
  have c1 : eCall (F__law_costs_right n) (aCons (eVar 2) (aCons (eVar 3) aNil)) s1 = .ok (.d (.bl true)) s2 := call_ok v1 a2
  refine ⟨t2, ?_, g2.mono (by omega)⟩
  refine (if_ok ((bOr_ok (bNot_ok (bTru_bl c0))).trans ((if_neg (by decide)).trans (bNot_ok (bTru_bl c1))))).trans ?_
  rw [if_neg (by decide)]; rfl
theorem lw_step {ns : List Int} {ce : List (Option Cell)} {i : Nat} {o2 o3 o4 : Option W} (ok : Ok ce) (hi : i < 1000) (hn : 9 ≤ n) :
    ∃ ce' o2' o3' o4', lwBody n (lwS ns ce (some (.d (.int (i : Nat)))) o2 o3 o4) = .nx (lwS ns ce' (some (.d (.int (i : Nat)))) o2' o3' o4') ∧ Ok ce' := by
  obtain ⟨t, a1, g⟩ := q_source (n := n) (ce := ce) (ns := ns) (pl := i) hi
  let I : Option W := some (.d (.int (i : Nat)))
  let cb := ce ++ [cellOf t]
  have okb : Ok cb := ok.snoc rfl
  have hkb : ce.length < cb.length := by show ce.length < (ce ++ [cellOf t]).length; rw [List.length_append]; simp
  have hst : st cb ce.length t = cb := st_self (last_get rfl)
  have e1 : sSet 2 (eCall (F__law_source n) (aCons (eVar 0) (aCons (eVar 1) aNil))) (lwS ns ce I o2 o3 o4) = .nx (lwS ns (st cb ce.length t) I (some (.c ce.length)) o3 o4) := by
    have v : aCons (eVar 0) (aCons (eVar 1) aNil) (lwS ns ce I o2 o3 o4) = .ok [.d (.scr ns), .d (.int (i : Nat))] (lwS ns ce I o2 o3 o4) := arg2 (x_var rfl) (x_var rfl)
    rw [hst]
    exact set_ok (s' := lwS ns cb I o2 o3 o4) (call_ok v a1)
  obtain ⟨r, t1, d1, d2, d3, g1⟩ := q_draw (n := n) (ce := cb) (k := ce.length) (m := 3) okb hkb g (by omega) (by decide) (by decide)
  obtain ⟨r, rfl⟩ := Int.eq_ofNat_of_zero_le d2
  let m := 1 + r
  let s2 : S := lwS ns (st cb ce.length t) I (some (.c ce.length)) o3 o4
  let s3 : S := lwS ns (st cb ce.length t1) I (some (.c ce.length)) (some (.d (.int (m : Nat)))) o4
  have e2 : sSet 3 (eOp2 (two fAdd) (eC (.int 1)) (eCall (F__law_draw n) (aCons (eVar 2) (aCons (eC (.int 3)) aNil)))) s2 = .nx s3 := by
    have v : aCons (eVar 2) (aCons (eC (.int 3)) aNil) s2 = .ok [.c ce.length, .d (.int 3)] s2 := arg2 (x_var rfl) x_C
    have c : eCall (F__law_draw n) (aCons (eVar 2) (aCons (eC (.int 3)) aNil)) s2 = .ok (.d (.int (r : Nat))) (lwS ns (st cb ce.length t1) I (some (.c ce.length)) o3 o4) := call_ok v d1
    refine set_ok (s' := lwS ns (st cb ce.length t1) I (some (.c ce.length)) o3 o4) (w := .d (.int (m : Nat))) (op2_ok x_C c ?_)
    show some (D.int (1 + (r : Int))) = some (D.int ((1 + r : Nat) : Int))
    congr 2
  obtain ⟨s', hl, ⟨t2, o, rfl, _, _⟩⟩ := loopF_all (p := .nm 4) (kp := []) (body := lwIn n)
    (fun ws s => ∃ t o, s = lwS ns (st cb ce.length t) I (some (.c ce.length)) (some (.d (.int (m : Nat)))) o ∧ (ws.length ≤ 2 ∧ Good (10000 - 3000 * ws.length) t) ∧ ∀ w ∈ ws, ∃ i : Int, w = .w (.d (.int i)))
    (fun _ _ _ => stay_nil) (fun w q s h => by
      obtain ⟨t, o, rfl, ⟨hw, hg⟩, hi⟩ := h
      obtain ⟨j, rfl⟩ := hi w List.mem_cons_self
      simp only [List.length_cons] at hw hg
      obtain ⟨t', x1, x2⟩ := lw_in (n := n) (ns := ns) (o1 := I) (o4 := some (.d (.int j))) okb hkb hg (by omega) (show 1 ≤ m by omega) (show m ≤ 3 by omega) hn
      exact ⟨[(4, .d (.int j))], _, rfl, .inl x1, t', _, rfl, ⟨by omega, x2.mono (by omega)⟩, fun w hw' => hi w (List.mem_cons_of_mem _ hw')⟩)
    ((List.range 2).map fun i : Nat => .w (.d (.int (i : Int)))) s3 ⟨t1, o4, rfl, ⟨by simp, g1.mono (by simp)⟩, fun w hw => by
      obtain ⟨i, _, rfl⟩ := List.mem_map.mp hw
      exact ⟨i, rfl⟩⟩
  have e3 : sFor (.nm 4) (iRange1 (aCons (eC (.int 2)) aNil)) (lwIn n) s3 = .nx (lwS ns (st cb ce.length t2) I (some (.c ce.length)) (some (.d (.int (m : Nat)))) o) :=
    (for_ok (iRange_ok (n := 2) (arg1 x_C) (by decide))).trans hl
  exact ⟨st cb ce.length t2, some (.c ce.length), some (.d (.int (m : Nat))), o, (seq_nx e1).trans ((seq_nx e2).trans e3), st_ok okb⟩
theorem q_law (ns : List Int) (hn : 9 ≤ n) (hz : ns.length ≤ 63) : ∃ s', F_law n [.d (.scr ns)] [] = .ok (.d (.bl true)) s' := by
  let v : Nat := if 3 < ns.length then 3 else ns.length
  have hv : v ≤ 3 := by show (if 3 < ns.length then 3 else ns.length) ≤ 3; split <;> omega
  let s0 : S := lwS ns [] none none none none
  obtain ⟨s', hl, ⟨ce, o1, o2, o3, o4, rfl, ok, _⟩⟩ := loopF_all (p := .nm 1) (kp := []) (body := lwBody n)
    (fun ws s => ∃ ce o1 o2 o3 o4, s = lwS ns ce o1 o2 o3 o4 ∧ Ok ce ∧ ∀ w ∈ ws, ∃ i : Nat, w = .w (.d (.int (i : Nat))) ∧ i < 1000)
    (fun _ _ _ => stay_nil) (fun w q s h => by
      obtain ⟨ce, o1, o2, o3, o4, rfl, ok, hi⟩ := h
      obtain ⟨i, rfl, hi1⟩ := hi w List.mem_cons_self
      obtain ⟨ce', o2', o3', o4', x1, x2⟩ := lw_step (n := n) (ns := ns) (o2 := o2) (o3 := o3) (o4 := o4) ok hi1 hn
      exact ⟨[(1, .d (.int (i : Nat)))], _, rfl, .inl x1, ce', _, o2', o3', o4', rfl, x2, fun w hw' => hi w (List.mem_cons_of_mem _ hw')⟩)
    ((List.range (5 + v)).map fun i : Nat => .w (.d (.int (i : Int)))) s0 ⟨[], none, none, none, none, rfl, Ok.nil, fun w hw => by
      obtain ⟨i, hi, rfl⟩ := List.mem_map.mp hw
      exact ⟨i, rfl, by have := List.mem_range.mp hi; omega⟩⟩
  have hr : eOp2 (two fAdd) (eC (.int 5)) (eOpN fMinN (aCons (eOpN lenN (aCons (eVar 0) aNil)) (aCons (eC (.int 3)) aNil))) s0 = .ok (.d (.int ((5 + v : Nat) : Int))) s0 := by
    have hl : eOpN lenN (aCons (eVar 0) aNil) s0 = .ok (.d (.int (ns.length : Nat))) s0 := opN_ok (arg1 (x_var (s := s0) (i := 0) rfl)) rfl
    have hm : eOpN fMinN (aCons (eOpN lenN (aCons (eVar 0) aNil)) (aCons (eC (.int 3)) aNil)) s0 = .ok (.d (.int (v : Nat))) s0 := by
      refine opN_ok (arg2 hl x_C) ?_
      show some (D.int (if (3 : Int) < (ns.length : Nat) then 3 else (ns.length : Nat))) = some (D.int ((if 3 < ns.length then 3 else ns.length : Nat) : Int))
      by_cases h : 3 < ns.length
      · rw [if_pos h, if_pos (by omega)]; rfl
      · rw [if_neg h, if_neg (by omega)]
    refine op2_ok x_C hm ?_
    show some (D.int (5 + (v : Int))) = _
    congr 2
  have hf : sFor (.nm 1) (iRange1 (aCons (eOp2 (two fAdd) (eC (.int 5)) (eOpN fMinN (aCons (eOpN lenN (aCons (eVar 0) aNil)) (aCons (eC (.int 3)) aNil)))) aNil)) (lwBody n) s0 = .nx (lwS ns ce o1 o2 o3 o4) :=
    (for_ok (iRange_ok (n := 5 + v) (arg1 hr) (by omega))).trans hl
  refine ⟨⟨[], []⟩, ?_⟩
  unfold F_law b_law
  show shut 0 (sSeq (sFor (.nm 1) (iRange1 (aCons (eOp2 (two fAdd) (eC (.int 5)) (eOpN fMinN (aCons (eOpN lenN (aCons (eVar 0) aNil)) (aCons (eC (.int 3)) aNil)))) aNil)) (lwBody n)) (sRet (eC (.bl true))) s0) = _
  rw [seq_nx hf, ret_ok x_C]
  exact shut_rt (n := 0) rfl rfl
theorem k01_holds : PySem.Challenge.rw_anyprice_k01_rows_and_costs.Holds := holds_of 12 fun ns hz => q_law ns (by decide) hz
end G

theorem PySem.Challenge.cw_anyprice_k01_rows_and_costs_holds : PySem.Challenge.rw_anyprice_k01_rows_and_costs.Holds := by
  exact G.k01_holds
