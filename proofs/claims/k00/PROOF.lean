import PyProof.Rows.All
import Wide.All
import OpenK.AllK
import Wide.FinOn
import HandS.ForMost
import HandS.ForExc
import HandS.Evl
import HandS.Flow
import HandS.Wide
import HandS.WideMore
import HandS.WideBits
import HandS.IsInst
import HandS.Strs
import HandS.SetKeys
import HandS.Conv
import HandS.StrMore
import HandS.ExcOwn
import HandS.TryMany
import HandS.RaiseMore
import HandS.Deep
import HandS.Zip
import HandS.Lambda
import HandS.TupAny
import HandS.TupLe
import KE.SortData
import PyProof.ReprReads
import PyProof.P3In
import HandS.WordsExc
import HandS.EndBits
import PyProof.ReprRoads
import HandS.Text
import HandS.TupLen
import HandS.WordsDict
import HandS.Style
import HandS.Iter
import KE.GoesZip
import KE.GoesMore
import HandS.Dict
import HandS.ExcIs
import HandS.Set
import HandS.SetFor
import HandS.Property
import HandS.More
import HandS.DictComp
import HandS.Star
import HandS.ClsMeth
import HandS.CallLocal
import HandS.FStr
import HandS.HeadHook3
import PyProof.EnumMake
import PyProof.EnumFor
import PyProof.Draws
import KE.IntBitsLaws
import PySem.Challenge.RW_loneguess_k00_integers_names_letters_and
set_option Elab.async false
set_option linter.all false
set_option maxRecDepth 100000
set_option maxHeartbeats 4000000
namespace DL
open PySem PySem.Spec PyProof.Rows L2

/-! ### deep data -/
inductive D where
  | non | bl (b : Bool) | int (i : Int) | str (x : Str)
  | lst (xs : List D) | tup (xs : List D)
  /-- a list that is only read (the script) -/
  | scr (ns : List Int)
  | dic (kvs : List (D × D))
  | ins (c : Str) (fs : List (Str × D))
  /-- a class of one's own -/
  | cls (c : Str)
/-- what a local name holds that the def itself changes -/
inductive Cel where
  | l (xs : List D)
  | dk (kvs : List (Key × D))
  | dt (kvs : List (List Key × D))
  | i (me : Addr) (c : Str) (fs : List (Str × D))
/-- a slot: nothing that is known; a value; an object of one's own; the pot -/
inductive Sl where
  | un | v (d : D) | o (c : Cel) | p
/-- an exception: its class, what it keeps -/
structure Ex where
  c : Str
  kept : Option (Str × D) := none
abbrev Pot := Option (List D)
inductive Res (α : Type) where
  | ok (a : α) (p : Pot)
  | ex (e : Ex) (p : Pot)
  | no
abbrev M (α : Type) := Pot → Res α
def M.pure {α : Type} (a : α) : M α := fun p => .ok a p
def M.bind {α β : Type} (m : M α) (k : α → M β) : M β := fun p => match m p with
  | .ok a p' => k a p'
  | .ex e p' => .ex e p'
  | .no => .no
instance : Monad M where
  pure := M.pure
  bind := M.bind
def M.no {α : Type} : M α := fun _ => .no
def M.raise {α : Type} (e : Ex) : M α := fun p => .ex e p
def M.some {α : Type} : Option α → M α
  | .some a => M.pure a
  | .none => M.no
theorem bind_ok {α β : Type} {m : M α} {k : α → M β} {p p' : Pot} {a : α} (h : m p = .ok a p') : (m >>= k) p = k a p' := by
  show M.bind m k p = _
  unfold M.bind; rw [h]
theorem bind_ex {α β : Type} {m : M α} {k : α → M β} {p p' : Pot} {e : Ex} (h : m p = .ex e p') : (m >>= k) p = .ex e p' := by
  show M.bind m k p = _
  unfold M.bind; rw [h]
theorem bind_no {α β : Type} {m : M α} {k : α → M β} {p : Pot} (h : m p = .no) : (m >>= k) p = .no := by
  show M.bind m k p = _
  unfold M.bind; rw [h]

/-! ### what a value stands for -/
section
variable (mg : Str → Option Value) (K : PySem.W.Frag) (G : Hp)
def keyD : Key → D
  | .inl i => .int i
  | .inr x => .str x
inductive Rep : V → D → Prop
  | non : Rep .non .non
  | bl (b : Bool) : Rep (.bl b) (.bl b)
  | int (i : Int) : Rep (.int i) (.int i)
  | str (x : Str) : Rep (.str x) (.str x)
  | lst {a : Addr} {vs : List V} {ds : List D} (h : G a = .some (.lst vs)) (l : vs.length = ds.length) (r : ∀ (i : Nat) v d, vs[i]? = .some v → ds[i]? = .some d → Rep v d) : Rep (.ref a) (.lst ds)
  | tup {a : Addr} {vs : List V} {ds : List D} (h : SqT K G a vs) (l : vs.length = ds.length) (r : ∀ (i : Nat) v d, vs[i]? = .some v → ds[i]? = .some d → Rep v d) : Rep (.ref a) (.tup ds)
  | scr {a : Addr} {ns : List Int} (h : SqL K G a (ns.map V.int)) : Rep (.ref a) (.scr ns)
  | dicK {a : Addr} {kvs : List (Key × V)} {ds : List (D × D)} (h : G a = .some (.dK kvs)) (k : kvs.map (fun p => keyD p.1) = ds.map (·.1)) (r : ∀ (i : Nat) (p : Key × V) (q : D × D), kvs[i]? = .some p → ds[i]? = .some q → Rep p.2 q.2) : Rep (.ref a) (.dic ds)
  | dicT {a : Addr} {kvs : List (List Key × V)} {ds : List (D × D)} (h : G a = .some (.dT kvs)) (k : kvs.map (fun p => D.tup (p.1.map keyD)) = ds.map (·.1)) (r : ∀ (i : Nat) (p : List Key × V) (q : D × D), kvs[i]? = .some p → ds[i]? = .some q → Rep p.2 q.2) : Rep (.ref a) (.dic ds)
  | ins {a C dx : Addr} {c : Str} {fs : List (Str × V)} {ds : List (Str × D)} (h : G a = .some (.ins C dx fs)) (hc : mg c = .some (.ref C)) (k : fs.map (·.1) = ds.map (·.1)) (r : ∀ (i : Nat) (p : Str × V) (q : Str × D), fs[i]? = .some p → ds[i]? = .some q → Rep p.2 q.2) : Rep (.ref a) (.ins c ds)
  | cls {C : Addr} {c : Str} (hc : mg c = .some (.ref C)) : Rep (.ref C) (.cls c)
end
/-- lists of such -/
def Reps (mg : Str → Option Value) (K : PySem.W.Frag) (G : Hp) (vs : List V) (ds : List D) : Prop :=
  vs.length = ds.length ∧ ∀ (i : Nat) v d, vs[i]? = .some v → ds[i]? = .some d → Rep mg K G v d
/-- G' knows what G knows -/
abbrev Ext (G G' : Hp) : Prop := ∀ a o, G a = .some o → G' a = .some o
section
variable {mg : Str → Option Value} {K : PySem.W.Frag} {G G' : Hp}
theorem Rep.mono (e : Ext G G') {v : V} {d : D} (h : Rep mg K G v d) : Rep mg K G' v d := by
  induction h with
  | non => exact .non
  | bl b => exact .bl b
  | int i => exact .int i
  | str x => exact .str x
  | lst h l _ ih => exact .lst (e _ _ h) l ih
  | tup h l _ ih => exact .tup (Evl.ex_t e h) l ih
  | scr h => exact .scr (Evl.ex_l e h)
  | dicK h k _ ih => exact .dicK (e _ _ h) k ih
  | dicT h k _ ih => exact .dicT (e _ _ h) k ih
  | ins h hc k _ ih => exact .ins (e _ _ h) hc k ih
  | cls hc => exact .cls hc
theorem Reps.mono (e : Ext G G') {vs : List V} {ds : List D} (h : Reps mg K G vs ds) : Reps mg K G' vs ds := ⟨h.1, fun i v d a b => (h.2 i v d a b).mono e⟩
theorem Reps.nil : Reps mg K G [] [] := ⟨rfl, fun _ _ _ h _ => by simp at h⟩
theorem Reps.cons {v : V} {d : D} {vs : List V} {ds : List D} (h : Rep mg K G v d) (t : Reps mg K G vs ds) : Reps mg K G (v :: vs) (d :: ds) := by
  refine ⟨by simp [t.1], fun i w e a b => ?_⟩
  cases i with
  | zero => simp at a b; subst a; subst b; exact h
  | succ i => exact t.2 i w e (by simpa using a) (by simpa using b)
theorem Reps.head {v : V} {d : D} {vs : List V} {ds : List D} (t : Reps mg K G (v :: vs) (d :: ds)) : Rep mg K G v d := t.2 0 v d rfl rfl
theorem Reps.tail {v : V} {d : D} {vs : List V} {ds : List D} (t : Reps mg K G (v :: vs) (d :: ds)) : Reps mg K G vs ds :=
  ⟨by simpa using t.1, fun i w e a b => t.2 (i + 1) w e (by simpa using a) (by simpa using b)⟩
theorem Reps.nil_of {ds : List D} (t : Reps mg K G [] ds) : ds = [] := by
  have := t.1
  cases ds with
  | nil => rfl
  | cons _ _ => simp at this
theorem Reps.nil_of' {vs : List V} (t : Reps mg K G vs []) : vs = [] := by
  have := t.1
  cases vs with
  | nil => rfl
  | cons _ _ => simp at this
theorem Reps.append : ∀ {vs ws : List V} {ds es : List D}, Reps mg K G vs ds → Reps mg K G ws es → Reps mg K G (vs ++ ws) (ds ++ es)
  | [], _, ds, _, h, k => by rw [h.nil_of]; exact k
  | v :: vs, _, [], _, h, k => by have := h.1; simp at this
  | v :: vs, _, d :: ds, _, h, k => Reps.cons h.head (Reps.append h.tail k)
theorem Reps.get {vs : List V} {ds : List D} (h : Reps mg K G vs ds) {i : Nat} {d : D} (e : ds[i]? = .some d) : ∃ v, vs[i]? = .some v ∧ Rep mg K G v d := by
  have hi : i < vs.length := by rw [h.1]; exact (List.getElem?_eq_some_iff.mp e).1
  exact ⟨vs[i], List.getElem?_eq_getElem hi, h.2 i _ d (List.getElem?_eq_getElem hi) e⟩
theorem Reps.get' {vs : List V} {ds : List D} (h : Reps mg K G vs ds) {i : Nat} {v : V} (e : vs[i]? = .some v) : ∃ d, ds[i]? = .some d ∧ Rep mg K G v d := by
  have hi : i < ds.length := by rw [← h.1]; exact (List.getElem?_eq_some_iff.mp e).1
  exact ⟨ds[i], List.getElem?_eq_getElem hi, h.2 i v _ e (List.getElem?_eq_getElem hi)⟩
theorem Reps.take {vs : List V} {ds : List D} (h : Reps mg K G vs ds) (n : Nat) : Reps mg K G (vs.take n) (ds.take n) := by
  refine ⟨by simp [h.1], fun i v d a b => ?_⟩
  rw [List.getElem?_take] at a b
  split at a
  · rename_i hi
    rw [if_pos hi] at b
    exact h.2 i v d a b
  · cases a
theorem Reps.drop {vs : List V} {ds : List D} (h : Reps mg K G vs ds) (n : Nat) : Reps mg K G (vs.drop n) (ds.drop n) := by
  refine ⟨by simp [h.1], fun i v d a b => ?_⟩
  rw [List.getElem?_drop] at a b
  exact h.2 _ v d a b
end

/-! ### where one stands -/
/-- the module: its names, its written part, the tables of code objects -/
structure Cn where
  mg : Str → Option Value
  K : PySem.W.Frag
  T : List (Addr × Str) := []
abbrev Cn.rep (c : Cn) : Hp → V → D → Prop := Rep c.mg c.K
abbrev Cn.reps (c : Cn) : Hp → List V → List D → Prop := Reps c.mg c.K
/-- the entry of a def: what is frozen, the heap, the pot's place -/
structure Fr where
  G0 : Hp
  H0 : Hp
  ap : Option Addr
def PotOk (c : Cn) (G H : Hp) : Option Addr → Pot → Prop
  | none, none => True
  | some a, some ds => ∃ vs, H a = some (.lst vs) ∧ c.reps G vs ds ∧ G a = none
  | _, _ => False
def noTbl (o : HO) : Prop := ∀ ps, o ≠ .tbl ps
structure Post (c : Cn) (ap : Option Addr) (G0 H0 : Hp) (P : Pot) (G H : Hp) : Prop where
  ext : Ext G0 G
  le : Ext G H
  fr : ∀ b o, H0 b = some o → some b ≠ ap → noTbl o → H b = some o
  new : ∀ a, G a ≠ none → G0 a ≠ none ∨ H0 a = none ∨ ∃ vs, G a = some (.tup vs)
  pot : PotOk c G H ap P
  tab : LamX.Tabs c.T H
  nt : ∀ a o, G a = some o → noTbl o
  tb : ∀ a ps, H0 a = some (.tbl ps) → ∃ qs, H a = some (.tbl qs)
def CelOk (c : Cn) (G : Hp) (a : Addr) : HO → Cel → Prop
  | .lst vs, .l ds => c.reps G vs ds
  | .dK kvs, .dk ds => kvs.map (·.1) = ds.map (·.1) ∧ c.reps G (kvs.map (·.2)) (ds.map (·.2))
  | .dT kvs, .dt ds => kvs.map (·.1) = ds.map (·.1) ∧ c.reps G (kvs.map (·.2)) (ds.map (·.2))
  | .ins C _ fs, .i me n ds => me = a ∧ c.mg n = some (.ref C) ∧ fs.map (·.1) = ds.map (·.1) ∧ c.reps G (fs.map (·.2)) (ds.map (·.2))
  | _, _ => False
structure Own (c : Cn) (F : Fr) (G H : Hp) (a : Addr) (x : Cel) : Prop where
  ob : ∃ o, H a = some o ∧ CelOk c G a o x
  g : G a = none
  h : F.H0 a = none
  p : some a ≠ F.ap
def SlOk (c : Cn) (F : Fr) (G H : Hp) : Sl → Option V → Prop
  | .un, _ => True
  | .v d, x => ∃ v, x = some v ∧ c.rep G v d
  | .p, x => ∃ a, F.ap = some a ∧ x = some (.ref a)
  | .o k, x => ∃ a, x = some (.ref a) ∧ Own c F G H a k
structure Rel (c : Cn) (F : Fr) (ρ : List Sl) (P : Pot) (σ : L2.St) (H G : Hp) : Prop where
  post : Post c F.ap F.G0 F.H0 P G H
  len : σ.length = ρ.length
  sl : ∀ (i : Nat) s x, ρ[i]? = some s → σ[i]? = some x → SlOk c F G H s x
  ap : ∀ (i j : Nat) k k' a, ρ[i]? = some (.o k) → ρ[j]? = some (.o k') → σ[i]? = some (some (V.ref a)) → σ[j]? = some (some (V.ref a)) → i = j
/-- an exception as it lies -/
def ExOk (c : Cn) (H G : Hp) (e : Ex) (cl : Value) (dd : Option Addr) : Prop :=
  c.mg e.c = some cl ∧ match e.kept with
    | none => True
    | some (f, d) => ∃ a v, dd = some a ∧ H a = some (.xd [(f, v)]) ∧ c.rep G v d
/-- how a computation ends -/
def out {α : Type} (m : M α) (P : Pot) (ok : α → Pot → Prop) (ex : Ex → Pot → Prop) : Prop :=
  match m P with
  | .ok a p => ok a p
  | .ex e p => ex e p
  | .no => False
theorem out_bind {α β : Type} {m : M α} {k : α → M β} {P : Pot} {ok : β → Pot → Prop} {ex : Ex → Pot → Prop} : out (m >>= k) P ok ex ↔ out m P (fun a p => out (k a) p ok ex) ex := by
  show out (M.bind m k) P ok ex ↔ _
  unfold out M.bind
  cases m P <;> rfl
theorem out_pure {α : Type} {a : α} {P : Pot} {ok : α → Pot → Prop} {ex : Ex → Pot → Prop} : out (Pure.pure a : M α) P ok ex ↔ ok a P := Iff.rfl
theorem out_mono {α : Type} {m : M α} {P : Pot} {ok ok' : α → Pot → Prop} {ex ex' : Ex → Pot → Prop} (h : out m P ok ex) (h1 : ∀ a p, ok a p → ok' a p) (h2 : ∀ e p, ex e p → ex' e p) : out m P ok' ex' := by
  unfold out at h ⊢
  cases e : m P with
  | ok a p => rw [e] at h; exact h1 _ _ h
  | ex x p => rw [e] at h; exact h2 _ _ h
  | no => rw [e] at h; exact h
theorem out_some {α : Type} {o : Option α} {P : Pot} {ok : α → Pot → Prop} {ex : Ex → Pot → Prop} : out (M.some o) P ok ex ↔ ∃ a, o = some a ∧ ok a P := by
  cases o with
  | none => exact ⟨fun h => h.elim, fun ⟨_, h, _⟩ => nomatch h⟩
  | some a => exact ⟨fun h => ⟨a, rfl, h⟩, fun ⟨_, h, k⟩ => by cases h; exact k⟩

/-! ### readings -/
section
variable (c : Cn) (F : Fr) (W : WX) (ρ : List Sl)
def exW (P0 : Pot) (G : Hp) (σ : L2.St) : Ex → Pot → Prop := fun e P' => ∀ cl dd H' G' ρ', Ext G G' → Rel c F ρ' P' σ H' G' → ExOk c H' G' e cl dd → W cl dd σ H'
/-- of blocks: the slots may have changed -/
def exS (P0 : Pot) (G : Hp) (σ : L2.St) : Ex → Pot → Prop := fun e P' => ∀ cl dd H' G' ρ' σ', Ext G G' → Rel c F ρ' P' σ' H' G' → ExOk c H' G' e cl dd → W cl dd σ' H'
def rdE (m : M D) : TE := fun σ H Q => ∃ P G, Rel c F ρ P σ H G ∧ out m P (fun d P' => ∀ v H' G', Ext G G' → Rel c F ρ P' σ H' G' → c.rep G' v d → Q v H') (exW c F W P G σ)
def rdT (m : M Bool) : TT := fun σ H Q => ∃ P G, Rel c F ρ P σ H G ∧ out m P (fun b P' => ∀ H' G', Ext G G' → Rel c F ρ P' σ H' G' → Q b H') (exW c F W P G σ)
/-- an argument: a value, or the pot -/
inductive Ar where
  | v (d : D) | p
def ArOk (G : Hp) : V → Ar → Prop
  | x, .v d => c.rep G x d
  | x, .p => ∃ a, F.ap = some a ∧ x = .ref a
def ArsOk (G : Hp) : List V → List Ar → Prop
  | [], [] => True
  | v :: vs, a :: as => ArOk c F G v a ∧ ArsOk G vs as
  | _, _ => False
def rdA (m : M (List Ar)) : TA := fun σ H Q => ∃ P G, Rel c F ρ P σ H G ∧ out m P (fun as P' => ∀ vs H' G', Ext G G' → Rel c F ρ P' σ H' G' → ArsOk c F G' vs as → Q vs H') (exW c F W P G σ)
end
theorem exW_le {c : Cn} {F : Fr} {W : WX} {P P' : Pot} {G G' : Hp} {σ : L2.St} (e : Ext G G') {x : Ex} {p : Pot} (h : exW c F W P G σ x p) : exW c F W P' G' σ x p :=
  fun cl dd H' G2 ρ' e2 r k => h cl dd H' G2 ρ' (fun a o q => e2 a o (e a o q)) r k
theorem exS_le {c : Cn} {F : Fr} {W : WX} {P P' : Pot} {G G' : Hp} {σ σ' : L2.St} (e : Ext G G') {x : Ex} {p : Pot} (h : exS c F W P G σ x p) : exS c F W P' G' σ' x p :=
  fun cl dd H' G2 ρ' σ2 e2 r k => h cl dd H' G2 ρ' σ2 (fun a o q => e2 a o (e a o q)) r k
theorem exS.w {c : Cn} {F : Fr} {W : WX} {P P' : Pot} {G : Hp} {σ σ' : L2.St} {x : Ex} {p : Pot} (h : exS c F W P G σ x p) : exW c F W P' G σ' x p :=
  fun cl dd H' G2 ρ' e2 r k => h cl dd H' G2 ρ' σ' e2 r k
theorem Ext.refl (G : Hp) : Ext G G := fun _ _ h => h
theorem Ext.trans {G G1 G2 : Hp} (a : Ext G G1) (b : Ext G1 G2) : Ext G G2 := fun x o h => b x o (a x o h)
/-- another reading -/
theorem pe_by {X : Cx} {e : Expr} {t t' : TE} (h : PE X e t) (k : ∀ σ H Q, t' σ H Q → t σ H Q) : PE X e t' := ⟨fun pins s σ H Q I q => h.run pins s σ H Q I (k σ H Q q)⟩
theorem pt_by {X : Cx} {e : Expr} {t t' : TT} (h : PT X e t) (k : ∀ σ H Q, t' σ H Q → t σ H Q) : PT X e t' := ⟨fun pins s σ H Q I q => h.run pins s σ H Q I (k σ H Q q)⟩
theorem pa_by {X : Cx} {e : List Expr} {t t' : TA} (h : PA X e t) (k : ∀ σ H Q, t' σ H Q → t σ H Q) : PA X e t' := ⟨fun pos pins s σ H Q I q => h.run pos pins s σ H Q I (k σ H Q q)⟩
theorem ps_by {X : Cx} {e : Stmt} {t t' : TS} (h : PS X e t) (k : ∀ D σ H, t' D σ H → t D σ H) : PS X e t' := ⟨fun pins s σ H D I q => h.run pins s σ H D I (k D σ H q)⟩
theorem pss_by {X : Cx} {e : List Stmt} {t t' : TS} (h : PSs X e t) (k : ∀ D σ H, t' D σ H → t D σ H) : PSs X e t' := ⟨fun pins s σ H D I q => h.run pins s σ H D I (k D σ H q)⟩

section
variable {c : Cn} {F : Fr} {W : WX} {ρ : List Sl} {X : Cx}
/-- a value in a slot -/
theorem de_var {i : Nat} {x : Str} {pos : Pos} {d : D} (hi : ρ[i]? = some (.v d)) (h : PE X (.Name x pos) (tVar i)) : PE X (.Name x pos) (rdE c F W ρ (Pure.pure d)) := by
  refine pe_by h fun σ H Q ⟨P, G, R, q⟩ => ?_
  have hl : i < σ.length := by rw [R.len]; exact (List.getElem?_eq_some_iff.mp hi).1
  obtain ⟨v, e, r⟩ := R.sl i _ _ hi (List.getElem?_eq_getElem hl)
  exact ⟨v, by rw [List.getElem?_eq_getElem hl, e], q v H G (Ext.refl G) R r⟩
theorem de_int {i j pos} : PE X (.Constant (.int i) j pos) (rdE c F W ρ (Pure.pure (.int i))) := pe_by pe_int fun σ H Q ⟨P, G, R, q⟩ => q _ H G (Ext.refl G) R (.int i)
theorem de_bl {b j pos} : PE X (.Constant (.bool b) j pos) (rdE c F W ρ (Pure.pure (.bl b))) := pe_by pe_bl fun σ H Q ⟨P, G, R, q⟩ => q _ H G (Ext.refl G) R (.bl b)
theorem de_non {j pos} : PE X (.Constant .none j pos) (rdE c F W ρ (Pure.pure .non)) := pe_by pe_non fun σ H Q ⟨P, G, R, q⟩ => q _ H G (Ext.refl G) R .non
theorem de_str {x j pos} : PE X (.Constant (.str x) j pos) (rdE c F W ρ (Pure.pure (.str x))) := pe_by pe_str fun σ H Q ⟨P, G, R, q⟩ => q _ H G (Ext.refl G) R (.str x)
/-- a module's plain constant -/
theorem de_glob {x : Str} {v : V} {d : D} {u : Value} {pos : Pos} (hg : Gl X x) (hm : X.mg x = some u) (r : RelV v u) (hd : ∀ G, c.rep G v d) (hx : (x == ("__debug__" : Str)) = false := by decide) : PE X (.Name x pos) (rdE c F W ρ (Pure.pure d)) :=
  pe_by (pe_glob hg hm r hx) fun σ H Q ⟨P, G, R, q⟩ => q v H G (Ext.refl G) R (hd G)
/-- a two-place operation -/
def OpD (c : Cn) (r : R2) (f : D → D → M D) : Prop := ∀ F ρ W P σ H G x y dx dy Q, Rel c F ρ P σ H G → c.rep G x dx → c.rep G y dy →
  out (f dx dy) P (fun d P' => ∀ v H' G', Ext G G' → Rel c F ρ P' σ H' G' → c.rep G' v d → Q v H') (exW c F W P G σ) → r x y H Q
theorem de_op {a b : Expr} {op : Operator} {pos : Pos} {r : R2} {f : D → D → M D} {ma mb : M D} (ho : OpR X (binaryOp op) r) (hf : OpD c r f) (ha : PE X a (rdE c F W ρ ma)) (hb : PE X b (rdE c F W ρ mb)) :
    PE X (.BinOp a op b pos) (rdE c F W ρ (ma >>= fun x => mb >>= fun y => f x y)) := by
  refine pe_by (pe_op ho ha hb) fun σ H Q ⟨P, G, R, q⟩ => ?_
  refine ⟨P, G, R, out_mono (out_bind.mp q) (fun x P1 q1 v H1 G1 e1 R1 r1 => ?_) fun _ _ z => z⟩
  refine ⟨P1, G1, R1, out_mono (out_bind.mp q1) (fun y P2 q2 u H2 G2 e2 R2 r2 => ?_) fun _ _ z => exW_le e1 z⟩
  exact hf F ρ W P2 σ H2 G2 v u x y Q R2 (r1.mono e2) r2 (out_mono q2 (fun d P3 q3 v3 H3 G3 e3 R3 r3 => q3 v3 H3 G3 (fun a o h => e3 a o (e2 a o (e1 a o h))) R3 r3) fun _ _ z => exW_le (fun a o h => e2 a o (e1 a o h)) z)
end

section
variable {c : Cn} {F : Fr} {W : WX} {ρ : List Sl} {X : Cx}
theorem de_un {a : Expr} {op : UnaryOp} {pos : Pos} {r : V → Hp → VK → Prop} {f : D → M D} {ma : M D} (ho : UnR X (unaryOp op) r)
    (hf : ∀ F ρ W P σ H G x dx Q, Rel c F ρ P σ H G → c.rep G x dx → out (f dx) P (fun d P' => ∀ v H' G', Ext G G' → Rel c F ρ P' σ H' G' → c.rep G' v d → Q v H') (exW c F W P G σ) → r x H Q)
    (ha : PE X a (rdE c F W ρ ma)) : PE X (.UnaryOp op a pos) (rdE c F W ρ (ma >>= f)) := by
  refine pe_by (pe_un ho ha) fun σ H Q ⟨P, G, R, q⟩ => ?_
  refine ⟨P, G, R, out_mono (out_bind.mp q) (fun x P1 q1 v H1 G1 e1 R1 r1 => ?_) fun _ _ z => z⟩
  exact hf F ρ W P1 σ H1 G1 v x Q R1 r1 (out_mono q1 (fun d P3 q3 v3 H3 G3 e3 R3 r3 => q3 v3 H3 G3 (e1.trans e3) R3 r3) fun _ _ z => exW_le e1 z)
theorem de_cmp {a b : Expr} {op : CmpOp} {pos : Pos} {r : R2} {f : D → D → M D} {ma mb : M D} (ho : OpR X (compareOp op) r) (hf : OpD c r f) (ha : PE X a (rdE c F W ρ ma)) (hb : PE X b (rdE c F W ρ mb)) (hm : behindInMarks op b = false := by first | exact nomark _ | rfl) :
    PE X (.Compare a [op] [b] pos) (rdE c F W ρ (ma >>= fun x => mb >>= fun y => f x y)) := by
  refine pe_by (pe_cmpR ho ha hb hm) fun σ H Q ⟨P, G, R, q⟩ => ?_
  refine ⟨P, G, R, out_mono (out_bind.mp q) (fun x P1 q1 v H1 G1 e1 R1 r1 => ?_) fun _ _ z => z⟩
  refine ⟨P1, G1, R1, out_mono (out_bind.mp q1) (fun y P2 q2 u H2 G2 e2 R2 r2 => ?_) fun _ _ z => exW_le e1 z⟩
  exact hf F ρ W P2 σ H2 G2 v u x y Q R2 (r1.mono e2) r2 (out_mono q2 (fun d P3 q3 v3 H3 G3 e3 R3 r3 => q3 v3 H3 G3 (fun a o h => e3 a o (e2 a o (e1 a o h))) R3 r3) fun _ _ z => exW_le (fun a o h => e2 a o (e1 a o h)) z)
/-- truth of a bool | of a list, a tuple, a dict, a text, an int, None -/
def truD : D → M Bool
  | .bl b => Pure.pure b
  | .int i => Pure.pure (i != 0)
  | .non => Pure.pure false
  | .str x => Pure.pure (x.length != 0)
  | .lst xs => Pure.pure (!xs.isEmpty)
  | .tup xs => Pure.pure (!xs.isEmpty)
  | .dic xs => Pure.pure (!xs.isEmpty)
  | _ => M.no
def boolD : D → M Bool
  | .bl b => Pure.pure b
  | _ => M.no
theorem Rep.bl_of {G : Hp} {v : V} {b : Bool} (h : c.rep G v (.bl b)) : v = .bl b := by cases h; rfl
theorem Rep.int_of {G : Hp} {v : V} {b : Int} (h : c.rep G v (.int b)) : v = .int b := by cases h; rfl
theorem Rep.str_of {G : Hp} {v : V} {b : Str} (h : c.rep G v (.str b)) : v = .str b := by cases h; rfl
theorem Rep.non_of {G : Hp} {v : V} (h : c.rep G v .non) : v = .non := by cases h; rfl
/-- an expression whose value is a bool, as a test -/
theorem dt_val {e : Expr} {m : M D} (h : PE X e (rdE c F W ρ m)) (he : ∀ whole, isTrue e X.env whole = (do let v ← whole; standAt e.pos; holding [v] (truthy v)) := by intro _; rfl) : PT X e (rdT c F W ρ (m >>= boolD)) := by
  refine pt_by (pt_val h he) fun σ H Q ⟨P, G, R, q⟩ => ?_
  refine ⟨P, G, R, out_mono (out_bind.mp q) (fun x P1 q1 v H1 G1 e1 R1 r1 => ?_) fun _ _ z => z⟩
  cases x with
  | bl b => exact ⟨b, r1.bl_of, q1 H1 G1 e1 R1⟩
  | _ => exact q1.elim
/-- a comparison as a test -/
theorem dt_cmp {a b : Expr} {op : CmpOp} {pos : Pos} {r : R2} {f : D → D → M D} {ma mb : M D} (ho : OpR X (compareOp op) r) (hf : OpD c r f) (ha : PE X a (rdE c F W ρ ma)) (hb : PE X b (rdE c F W ρ mb)) (hm : behindInMarks op b = false := by first | exact nomark _ | rfl) :
    PT X (.Compare a [op] [b] pos) (rdT c F W ρ ((ma >>= fun x => mb >>= fun y => f x y) >>= boolD)) := by
  refine pt_by (pt_cmpR ho ha hb hm) fun σ H Q ⟨P, G, R, q⟩ => ?_
  refine ⟨P, G, R, out_mono (out_bind.mp (out_bind.mp q)) (fun x P1 q1 v H1 G1 e1 R1 r1 => ?_) fun _ _ z => z⟩
  refine ⟨P1, G1, R1, out_mono (out_bind.mp q1) (fun y P2 q2 u H2 G2 e2 R2 r2 => ?_) fun _ _ z => exW_le e1 z⟩
  refine hf F ρ W P2 σ H2 G2 v u x y _ R2 (r1.mono e2) r2 (out_mono q2 (fun d P3 q3 v3 H3 G3 e3 R3 r3 => ?_) fun _ _ z => exW_le (e1.trans e2) z)
  cases d with
  | bl k => exact ⟨k, r3.bl_of, q3 H3 G3 ((e1.trans e2).trans e3) R3⟩
  | _ => exact q3.elim
theorem dt_not {a : Expr} {pos : Pos} {m : M Bool} (h : PT X a (rdT c F W ρ m)) : PT X (.UnaryOp .Not a pos) (rdT c F W ρ (m >>= fun b => Pure.pure (!b))) := by
  refine pt_by (pt_not h) fun σ H Q ⟨P, G, R, q⟩ => ?_
  exact ⟨P, G, R, out_mono (out_bind.mp q) (fun x P1 q1 H1 G1 e1 R1 => q1 H1 G1 e1 R1) fun _ _ z => z⟩
theorem dw_and1 {a : Expr} {pos : Pos} {m : M Bool} (h : PT X a (rdT c F W ρ m)) : PW X (.BoolOp .And [a] pos) (rdT c F W ρ m) := pw_and1 h
theorem dw_or1 {a : Expr} {pos : Pos} {m : M Bool} (h : PT X a (rdT c F W ρ m)) : PW X (.BoolOp .Or [a] pos) (rdT c F W ρ m) := pw_or1 h
theorem pw_by {X : Cx} {e : Expr} {t t' : TT} (h : PW X e t) (k : ∀ σ H Q, t' σ H Q → t σ H Q) : PW X e t' := ⟨fun wh pins s σ H Q I q => h.run wh pins s σ H Q I (k σ H Q q)⟩
theorem dw_and {a b : Expr} {rest : List Expr} {pos : Pos} {m m' : M Bool} (h : PT X a (rdT c F W ρ m)) (k : PW X (.BoolOp .And (b :: rest) pos) (rdT c F W ρ m')) :
    PW X (.BoolOp .And (a :: b :: rest) pos) (rdT c F W ρ (m >>= fun x => if x = true then m' else Pure.pure false)) := by
  refine pw_by (pw_and h k) fun σ H Q ⟨P, G, R, q⟩ => ?_
  refine ⟨P, G, R, out_mono (out_bind.mp q) (fun x P1 q1 H1 G1 e1 R1 => ?_) fun _ _ z => z⟩
  cases x with
  | true => exact ⟨P1, G1, R1, out_mono q1 (fun y P2 q2 H2 G2 e2 R2 => q2 H2 G2 (e1.trans e2) R2) fun _ _ z => exW_le e1 z⟩
  | false => exact q1 H1 G1 e1 R1
theorem dw_or {a b : Expr} {rest : List Expr} {pos : Pos} {m m' : M Bool} (h : PT X a (rdT c F W ρ m)) (k : PW X (.BoolOp .Or (b :: rest) pos) (rdT c F W ρ m')) :
    PW X (.BoolOp .Or (a :: b :: rest) pos) (rdT c F W ρ (m >>= fun x => if x = true then Pure.pure true else m')) := by
  refine pw_by (pw_or h k) fun σ H Q ⟨P, G, R, q⟩ => ?_
  refine ⟨P, G, R, out_mono (out_bind.mp q) (fun x P1 q1 H1 G1 e1 R1 => ?_) fun _ _ z => z⟩
  cases x with
  | false => exact ⟨P1, G1, R1, out_mono q1 (fun y P2 q2 H2 G2 e2 R2 => q2 H2 G2 (e1.trans e2) R2) fun _ _ z => exW_le e1 z⟩
  | true => exact q1 H1 G1 e1 R1
/-- and, or, not as values (of bools) -/
theorem de_one {op} {a : Expr} {pos : Pos} {m : M D} (h : PE X a (rdE c F W ρ m)) : PE X (.BoolOp op [a] pos) (rdE c F W ρ m) := pe_one h
theorem de_and {a b : Expr} {rest : List Expr} {pos : Pos} {m m' : M D} (h : PE X a (rdE c F W ρ m)) (k : PE X (.BoolOp .And (b :: rest) pos) (rdE c F W ρ m')) :
    PE X (.BoolOp .And (a :: b :: rest) pos) (rdE c F W ρ (m >>= fun x => boolD x >>= fun x => if x = true then m' else Pure.pure (.bl false))) := by
  refine pe_by (pe_and h k) fun σ H Q ⟨P, G, R, q⟩ => ?_
  refine ⟨P, G, R, out_mono (out_bind.mp q) (fun x P1 q1 v H1 G1 e1 R1 r1 => ?_) fun _ _ z => z⟩
  cases x with
  | bl b =>
    refine ⟨b, r1.bl_of, ?_⟩
    cases b with
    | true => exact ⟨P1, G1, R1, out_mono q1 (fun y P2 q2 v2 H2 G2 e2 R2 r2 => q2 v2 H2 G2 (e1.trans e2) R2 r2) fun _ _ z => exW_le e1 z⟩
    | false => exact q1 _ H1 G1 e1 R1 (.bl false)
  | _ => exact q1.elim
theorem de_or {a b : Expr} {rest : List Expr} {pos : Pos} {m m' : M D} (h : PE X a (rdE c F W ρ m)) (k : PE X (.BoolOp .Or (b :: rest) pos) (rdE c F W ρ m')) :
    PE X (.BoolOp .Or (a :: b :: rest) pos) (rdE c F W ρ (m >>= fun x => boolD x >>= fun x => if x = true then Pure.pure (.bl true) else m')) := by
  refine pe_by (pe_or h k) fun σ H Q ⟨P, G, R, q⟩ => ?_
  refine ⟨P, G, R, out_mono (out_bind.mp q) (fun x P1 q1 v H1 G1 e1 R1 r1 => ?_) fun _ _ z => z⟩
  cases x with
  | bl b =>
    refine ⟨b, r1.bl_of, ?_⟩
    cases b with
    | false => exact ⟨P1, G1, R1, out_mono q1 (fun y P2 q2 v2 H2 G2 e2 R2 r2 => q2 v2 H2 G2 (e1.trans e2) R2 r2) fun _ _ z => exW_le e1 z⟩
    | true => exact q1 _ H1 G1 e1 R1 (.bl true)
  | _ => exact q1.elim
theorem de_not {a : Expr} {pos : Pos} {m : M D} (h : PE X a (rdE c F W ρ m)) : PE X (.UnaryOp .Not a pos) (rdE c F W ρ (m >>= fun x => boolD x >>= fun b => Pure.pure (.bl (!b)))) := by
  refine pe_by (pe_not h) fun σ H Q ⟨P, G, R, q⟩ => ?_
  refine ⟨P, G, R, out_mono (out_bind.mp q) (fun x P1 q1 v H1 G1 e1 R1 r1 => ?_) fun _ _ z => z⟩
  cases x with
  | bl b => exact ⟨b, r1.bl_of, q1 _ H1 G1 e1 R1 (.bl _)⟩
  | _ => exact q1.elim
theorem de_if {t a b : Expr} {pos : Pos} {m : M Bool} {ma mb : M D} (h : PT X t (rdT c F W ρ m)) (ha : PE X a (rdE c F W ρ ma)) (hb : PE X b (rdE c F W ρ mb)) :
    PE X (.IfExp t a b pos) (rdE c F W ρ (m >>= fun x => if x = true then ma else mb)) := by
  refine pe_by (pe_ifExp h ha hb) fun σ H Q ⟨P, G, R, q⟩ => ?_
  refine ⟨P, G, R, out_mono (out_bind.mp q) (fun x P1 q1 H1 G1 e1 R1 => ?_) fun _ _ z => z⟩
  cases x with
  | true => exact ⟨P1, G1, R1, out_mono q1 (fun y P2 q2 v2 H2 G2 e2 R2 r2 => q2 v2 H2 G2 (e1.trans e2) R2 r2) fun _ _ z => exW_le e1 z⟩
  | false => exact ⟨P1, G1, R1, out_mono q1 (fun y P2 q2 v2 H2 G2 e2 R2 r2 => q2 v2 H2 G2 (e1.trans e2) R2 r2) fun _ _ z => exW_le e1 z⟩

/-! ### argument lists -/
theorem ArsOk.mono {G G' : Hp} (e : Ext G G') : ∀ {vs : List V} {as : List Ar}, ArsOk c F G vs as → ArsOk c F G' vs as
  | [], [], _ => True.intro
  | _ :: _, .v _ :: _, ⟨h, t⟩ => ⟨Rep.mono e h, ArsOk.mono e t⟩
  | _ :: _, .p :: _, ⟨h, t⟩ => ⟨h, ArsOk.mono e t⟩
theorem da_nil : PA X [] (rdA c F W ρ (Pure.pure [])) := pa_by pa_nil fun σ H Q ⟨P, G, R, q⟩ => q [] H G (Ext.refl G) R True.intro
theorem da_cons {e : Expr} {es : List Expr} {m : M D} {ms : M (List Ar)} (h : PE X e (rdE c F W ρ m)) (t : PA X es (rdA c F W ρ ms)) (hs : starEach (e :: es) X.env = (false, eval e X.env) :: starEach es X.env := by rfl) :
    PA X (e :: es) (rdA c F W ρ (m >>= fun x => ms >>= fun xs => Pure.pure (.v x :: xs))) := by
  refine pa_by (pa_cons h t hs) fun σ H Q ⟨P, G, R, q⟩ => ?_
  refine ⟨P, G, R, out_mono (out_bind.mp q) (fun x P1 q1 v H1 G1 e1 R1 r1 => ?_) fun _ _ z => z⟩
  refine ⟨P1, G1, R1, out_mono (out_bind.mp q1) (fun xs P2 q2 vs H2 G2 e2 R2 r2 => ?_) fun _ _ z => exW_le e1 z⟩
  exact q2 (v :: vs) H2 G2 (e1.trans e2) R2 ⟨r1.mono e2, r2⟩
/-- the pot, handed on -/
theorem da_pot {i : Nat} {x : Str} {pos : Pos} {es : List Expr} {ms : M (List Ar)} (hi : ρ[i]? = some .p) (h : PE X (.Name x pos) (tVar i)) (t : PA X es (rdA c F W ρ ms)) (hs : starEach (.Name x pos :: es) X.env = (false, eval (.Name x pos) X.env) :: starEach es X.env := by rfl) :
    PA X (.Name x pos :: es) (rdA c F W ρ (ms >>= fun xs => Pure.pure (.p :: xs))) := by
  refine pa_by (pa_cons h t hs) fun σ H Q ⟨P, G, R, q⟩ => ?_
  have hl : i < σ.length := by rw [R.len]; exact (List.getElem?_eq_some_iff.mp hi).1
  obtain ⟨a, ea, e⟩ := R.sl i _ _ hi (List.getElem?_eq_getElem hl)
  refine ⟨.ref a, by rw [List.getElem?_eq_getElem hl, e], ?_⟩
  refine ⟨P, G, R, out_mono (out_bind.mp q) (fun xs P2 q2 vs H2 G2 e2 R2 r2 => ?_) fun _ _ z => z⟩
  exact q2 (.ref a :: vs) H2 G2 e2 R2 ⟨⟨a, ea, rfl⟩, r2⟩
/-- values alone -/
def vals : List Ar → M (List D)
  | [] => Pure.pure []
  | .v d :: as => vals as >>= fun ds => Pure.pure (d :: ds)
  | .p :: _ => M.no
end

/-! ### calls -/
/-- nothing of repr is under way -/
def GA (A : Around) : Prop := A.guards = some []
/-- what a def does, told by data: mf -/
def spD (c : Cn) (mf : List Ar → M D) : Sp := fun vs H Q E => ∃ (ap : Option Addr) (G : Hp) (P : Pot) (as : List Ar),
  Post c ap G H P G H ∧ ArsOk c ⟨G, H, ap⟩ G vs as ∧
  out (mf as) P (fun d P' => ∀ v H' G', Post c ap G H P' G' H' → c.rep G' v d → Q v H') (fun e P' => ∀ cl dd H' G', Post c ap G H P' G' H' → ExOk c H' G' e cl dd → E cl dd H')
/-- a def that keeps a promise, where nothing of repr is under way -/
structure FnG (P : Program) (w : World) (K : PySem.W.Frag) (mg : Str → Option Value) (base : Heap) (k : Nat) (f : Addr) (fd : FuncData) (ps : List Str) (sp : Sp) : Prop where
  ln : ∀ vs H Q E, sp vs H Q E → vs.length = ps.length
  go : ∀ (A : Around) (fr : List Env) (s : Shared) (H : Hp) (us : List Value) (vs : List V) (args : Args) (Q : VK) (E : XK), GA A → Room k A → Env0 P w K mg base A fr s H → BindsTo s fd args (ps.zip us) → Vals vs us → sp vs H Q E →
    codeAny (model P w) A (.call (.ref f) args) (CR (L2.CX P w) fr P w H s Q E) s
theorem Post.refl' {c : Cn} {ap : Option Addr} {G0 H0 : Hp} {P : Pot} {G H : Hp} (p : Post c ap G0 H0 P G H) : Post c ap G H P G H :=
  ⟨Ext.refl _, p.le, fun _ _ h _ _ => h, fun _ h => .inl h, p.pot, p.tab, p.nt, fun _ ps h => ⟨ps, h⟩⟩
theorem Post.trans {c : Cn} {ap : Option Addr} {G0 H0 G H G' H' : Hp} {P P' : Pot} (p : Post c ap G0 H0 P G H) (q : Post c ap G H P' G' H') : Post c ap G0 H0 P' G' H' := by
  refine ⟨p.ext.trans q.ext, q.le, fun b o h n t => q.fr b o (p.fr b o h n t) n t, fun a h => ?_, q.pot, q.tab, q.nt, fun a ps h => ?_⟩
  · rcases q.new a h with h | h | h
    · rcases p.new a h with y | y | ⟨vs, y⟩
      · exact .inl y
      · exact .inr (.inl y)
      · exact .inr (.inr ⟨vs, q.ext _ _ y⟩)
    rotate_left
    · exact .inr (.inr h)
    · refine .inr (.inl ?_)
      cases e : H0 a with
      | none => rfl
      | some o =>
        exfalso
        by_cases t : noTbl o
        · by_cases n : some a ≠ ap
          · rw [p.fr a o e n t] at h; cases h
          · have n' : some a = ap := Classical.not_not.mp n
            subst n'
            have z := p.pot
            cases P with
            | none => exact z
            | some ds =>
              obtain ⟨vs, z, _⟩ := z
              rw [z] at h; cases h
        · have : ∃ ps, o = .tbl ps := Classical.not_forall_not.mp t
          obtain ⟨ps, rfl⟩ := this
          obtain ⟨qs, z⟩ := p.tb a ps e
          rw [z] at h; cases h
  · obtain ⟨qs, z⟩ := p.tb a ps h
    exact q.tb a qs z
/-- behind a callee -/
theorem Rel.after {c : Cn} {F : Fr} {ρ : List Sl} {P P' : Pot} {σ : L2.St} {H G H' G' : Hp} (R : Rel c F ρ P σ H G) (q : Post c F.ap G H P' G' H') : Rel c F ρ P' σ H' G' := by
  refine ⟨R.post.trans q, R.len, fun i s x a b => ?_, R.ap⟩
  have z := R.sl i s x a b
  cases s with
  | un => exact True.intro
  | v d => obtain ⟨v, e, r⟩ := z; exact ⟨v, e, r.mono q.ext⟩
  | p => exact z
  | o k =>
    obtain ⟨a, e, ⟨o, ho, hk⟩, g, h, p⟩ := z
    have nt : noTbl o := by
      intro ps e2; subst e2
      cases k <;> exact hk
    refine ⟨a, e, ⟨o, q.fr a o ho p nt, ?_⟩, ?_, h, p⟩
    · have mono : ∀ {vs ds}, c.reps G vs ds → c.reps G' vs ds := fun h => h.mono q.ext
      cases o <;> cases k <;> first | exact hk.elim | exact mono hk | exact ⟨hk.1, mono hk.2⟩ | exact ⟨hk.1, hk.2.1, mono hk.2.2⟩ | exact ⟨hk.1, hk.2.1, hk.2.2.1, mono hk.2.2.2⟩
    · cases z : G' a with
      | none => rfl
      | some u =>
        rcases q.new a (by rw [z]; simp) with h | h | ⟨vs, h⟩
        · exact absurd g h
        · rw [ho] at h; cases h
        · have y := q.le _ _ h
          rw [q.fr a o ho p nt] at y
          cases y
          exact hk.elim
/-- a body's context, whatever the def -/
structure Ctx (c : Cn) (X : Cx) (k : Nat) : Prop where
  mg : X.mg = c.mg
  K : X.K = c.K
  ga : GA X.A
  rm : Room k X.A
section
variable {c : Cn} {F : Fr} {W : WX} {ρ : List Sl} {X : Cx} {k n : Nat}
theorem Ctx.mono {j : Nat} (h : Ctx c X k) (l : j ≤ k) : Ctx c X j := ⟨h.mg, h.K, h.ga, h.rm.mono l⟩
theorem ArsOk.length {G : Hp} : ∀ {vs : List V} {as : List Ar}, ArsOk c F G vs as → vs.length = as.length
  | [], [], _ => rfl
  | _ :: _, _ :: _, h => by simp [ArsOk.length h.2]
theorem ArsOk.fr {F' : Fr} {G : Hp} (h : F.ap = F'.ap) : ∀ {vs : List V} {as : List Ar}, ArsOk c F G vs as → ArsOk c F' G vs as
  | [], [], _ => True.intro
  | _ :: _, .v _ :: _, ⟨a, t⟩ => ⟨a, ArsOk.fr h t⟩
  | _ :: _, .p :: _, ⟨⟨b, a, a'⟩, t⟩ => ⟨⟨b, h.symm.trans a, a'⟩, ArsOk.fr h t⟩
/-- the callee runs -/
theorem run_g {f : Addr} {fd : FuncData} {ps : List Str} {sp : Sp} {pins : List (Addr × Obj)} {s : Shared} {σ : L2.St} {H : Hp} {Q : VK} {us : List Value} {vs : List V} (ga : GA X.A) (rm : Room k X.A) (tk : Takes X W)
    (fn : FnG X.prog X.w X.K X.mg X.base k f fd ps sp) (hb : Binds X.K fd ps []) (I : Inv X pins σ H s) (r : Vals vs us) (h : sp vs H Q (WE W σ)) : wpAny (model X.prog X.w) X.A (call (.ref f) us) (EP X pins σ Q) X.xe s := by
  have hl : us.length = ps.length := r.length.symm.trans (fn.ln _ _ _ _ h)
  have b := hb s us I.kIn (by simpa using hl)
  rw [List.append_nil] at b
  refine wpAny_call (codeAny_mono (fn.go X.A X.stack s H us vs ⟨us, []⟩ Q (WE W σ) ga rm I.env0 b r h) fun res s2 z => ?_)
  match res, z with
  | .error e, z => exact passAt tk σ pins H s e s2 I z
  | .ok (.ret u), z => exact I.after z
  | .ok .next, z => exact z.elim
  | .ok .brk, z => exact z.elim
  | .ok .cont, z => exact z.elim
/-- from a reading of the call's end to the callee's promise -/
theorem sp_of {mf : List Ar → M D} {P : Pot} {σ : L2.St} {H G : Hp} {Q : VK} {as : List Ar} {vs : List V} (R : Rel c F ρ P σ H G) (r : ArsOk c F G vs as)
    (q : out (mf as) P (fun d P' => ∀ v H' G', Ext G G' → Rel c F ρ P' σ H' G' → c.rep G' v d → Q v H') (exW c F W P G σ)) : spD c mf vs H Q (WE W σ) := by
  refine ⟨F.ap, G, P, as, R.post.refl', ArsOk.fr (F := F) (F' := ⟨G, H, F.ap⟩) rfl r, out_mono q (fun d P' z v H' G' p k => z v H' G' p.ext (R.after p) k) fun e P' z cl dd H' G' p k => ?_⟩
  exact z cl dd H' G' ρ p.ext (R.after p) k
/-- f(e, ..), f an own def told by data -/
theorem de_call {f : Addr} {fd : FuncData} {mf : List Ar → M D} {ms : M (List Ar)} {x : Str} {p pos : Pos} {e : Expr} {es : List Expr} {ps : List Str} (C : Ctx c X k) (tk : Takes X W)
    (fn : FnG X.prog X.w X.K X.mg X.base k f fd ps (spD c mf)) (hg : Gl X x) (hm : c.mg x = some (.ref f)) (hk : PySem.W.keepIn c.K (.ref f) = true) (hb : Binds c.K fd ps [])
    (ha : PA X (e :: es) (rdA c F W ρ ms)) (hdb : (x == ("__debug__" : Str)) = false := by decide) (he : starEach (e :: es) X.env = (false, eval e X.env) :: starEach es X.env := by rfl) (hpl : (backTo pos (starEach es X.env)).any (·.1) = false := by rfl) :
    PE X (.Call (.Name x p) (e :: es) [] pos) (rdE c F W ρ (ms >>= mf)) := by
  refine ⟨fun pins s σ H Q I ⟨P, G, R, q⟩ => ?_⟩
  have hx : X.mg x = some (.ref f) := by rw [C.mg]; exact hm
  have kf : PySem.W.keepIn X.K (.ref f) = true := by rw [C.K]; exact hk
  have hb' : Binds X.K fd ps [] := by rw [C.K]; exact hb
  refine wpAny_Call_Name_kw (ld_glob I hg hx ?_ hdb)
  have step := ha.run pos pins s σ H (fun vs H1 => ∃ P1 G1 as, Ext G G1 ∧ Rel c F ρ P1 σ H1 G1 ∧ ArsOk c F G1 vs as ∧ out (mf as) P1 (fun d P' => ∀ v H' G', Ext G1 G' → Rel c F ρ P' σ H' G' → c.rep G' v d → Q v H') (exW c F W P1 G1 σ)) I
    ⟨P, G, R, out_mono (out_bind.mp q) (fun as P1 q1 vs H1 G1 e1 R1 r1 => ⟨P1, G1, as, e1, R1, r1, out_mono q1 (fun d P2 q2 v H2 G2 e2 R2 r2 => q2 v H2 G2 (e1.trans e2) R2 r2) fun _ _ z => exW_le e1 z⟩) fun _ _ z => z⟩
  refine PySem.W.callWith_K (h₀ := X.base) I.ok.mod.kin kf (thn step fun us s1 ⟨vs, H1, I1, rv, P1, G1, as, e1, R1, r1, q1⟩ => ⟨I1.kIn, ?_⟩) he hpl
  exact run_g C.ga C.rm tk fn hb' I1 rv (sp_of R1 r1 q1)
end

/-! ### statements -/
inductive Fl (α : Type) where
  | nx (a : α) | rt (d : D) | bk (a : α) | ct (a : α)
section
variable (c : Cn) (F : Fr) (W : WX)
/-- a block, from the slots ρ; E tells the slots behind it -/
def rdS {α : Type} (ρ : List Sl) (E : α → List Sl) (m : M (Fl α)) : TS := fun B σ H => ∃ P G, Rel c F ρ P σ H G ∧ out m P (fun f P' => match f with
    | .nx a => ∀ σ' H' G', Ext G G' → Rel c F (E a) P' σ' H' G' → B.nx σ' H'
    | .bk a => ∀ σ' H' G', Ext G G' → Rel c F (E a) P' σ' H' G' → B.bk σ' H'
    | .ct a => ∀ σ' H' G', Ext G G' → Rel c F (E a) P' σ' H' G' → B.ct σ' H'
    | .rt d => ∀ v H' G' ρ' σ', Ext G G' → Rel c F ρ' P' σ' H' G' → c.rep G' v d → B.rt v H') (exS c F W P G σ)
end
/-- then, in the way of blocks -/
def andThen {α β : Type} (m : M (Fl α)) (k : α → M (Fl β)) (g : α → β) : M (Fl β) := m >>= fun f => match f with
  | .nx a => k a
  | .rt d => Pure.pure (.rt d)
  | .bk a => Pure.pure (.bk (g a))
  | .ct a => Pure.pure (.ct (g a))
/-- a block that neither breaks nor goes on -/
def thenR {α β : Type} (m : M (Fl α)) (k : α → M (Fl β)) : M (Fl β) := m >>= fun f => match f with
  | .nx a => k a
  | .rt d => Pure.pure (.rt d)
  | _ => M.no
section
variable {c : Cn} {F : Fr} {W : WX} {ρ : List Sl} {X : Cx} {k n : Nat} {α β : Type} {E : α → List Sl} {E' : β → List Sl}
theorem ds_nil {a : α} (h : E a = ρ) : PSs X [] (rdS c F W ρ E (Pure.pure (.nx a))) := by
  refine pss_by pss_nil fun B σ H ⟨P, G, R, q⟩ => ?_
  have q' : ∀ σ' H' G', Ext G G' → Rel c F (E a) P σ' H' G' → B.nx σ' H' := q
  exact q' σ H G (Ext.refl G) (by rw [h]; exact R)
theorem ds_cons {st : Stmt} {rest : List Stmt} {m : M (Fl α)} {k : α → M (Fl β)} (h1 : PS X st (rdS c F W ρ E m)) (h2 : ∀ a, PSs X rest (rdS c F W (E a) E' (k a))) : PSs X (st :: rest) (rdS c F W ρ E' (thenR m k)) := by
  refine ⟨fun pins s σ H B I ⟨P, G, R, q⟩ => ?_⟩
  -- the first statement, then by what it hands on
  have q0 := out_bind.mp q
  have step := h1.run pins s σ H { nx := fun σ' H' => ∃ a P1 G1, Ext G G1 ∧ Rel c F (E a) P1 σ' H' G1 ∧ out (k a) P1 (fun f P' => match f with
    | .nx a => ∀ σ' H' G', Ext G1 G' → Rel c F (E' a) P' σ' H' G' → B.nx σ' H'
    | .bk a => ∀ σ' H' G', Ext G1 G' → Rel c F (E' a) P' σ' H' G' → B.bk σ' H'
    | .ct a => ∀ σ' H' G', Ext G1 G' → Rel c F (E' a) P' σ' H' G' → B.ct σ' H'
    | .rt d => ∀ v H' G' ρ' σ', Ext G1 G' → Rel c F ρ' P' σ' H' G' → c.rep G' v d → B.rt v H') (exS c F W P1 G1 σ'), rt := B.rt } I ⟨P, G, R, out_mono q0 (fun f P1 q1 => ?_) fun _ _ z => z⟩
  · refine wpAny_execs_cons (thn step fun fl s1 z => ?_)
    cases fl with
    | next =>
      obtain ⟨σ1, H1, I1, a, P1, G1, e1, R1, q1⟩ := z
      exact (h2 a).run pins s1 σ1 H1 B I1 ⟨P1, G1, R1, q1⟩
    | ret u => exact z
    | brk => obtain ⟨_, _, _, z⟩ := z; exact z.elim
    | cont => obtain ⟨_, _, _, z⟩ := z; exact z.elim
  · cases f with
    | nx a =>
      intro σ' H' G' e R'
      refine ⟨a, P1, G', e, R', out_mono (show out (k a) P1 _ _ from q1) (fun f P2 q2 => ?_) fun _ _ z => exS_le e z⟩
      cases f with
      | nx b => exact fun σ2 H2 G2 e2 R2 => q2 σ2 H2 G2 (e.trans e2) R2
      | bk b => exact fun σ2 H2 G2 e2 R2 => q2 σ2 H2 G2 (e.trans e2) R2
      | ct b => exact fun σ2 H2 G2 e2 R2 => q2 σ2 H2 G2 (e.trans e2) R2
      | rt d => exact fun v H2 G2 ρ2 σ2 e2 R2 r2 => q2 v H2 G2 ρ2 σ2 (e.trans e2) R2 r2
    | rt d => exact q1
    | bk a => exact (show False from q1).elim
    | ct a => exact (show False from q1).elim
/-- the last statement of a block -/
theorem ds_one {st : Stmt} {m : M (Fl α)} (h : PS X st (rdS c F W ρ E m)) : PSs X [st] (rdS c F W ρ E m) := pss_one h
theorem ds_ret {e : Expr} {pos : Pos} {m : M D} (h : PE X e (rdE c F W ρ m)) : PS X (.Return (some e) pos) (rdS c F W ρ E (m >>= fun d => Pure.pure (.rt d))) := by
  refine ps_by (ps_ret h) fun B σ H ⟨P, G, R, q⟩ => ?_
  exact ⟨P, G, R, out_mono (out_bind.mp q) (fun d P1 q1 v H1 G1 e1 R1 r1 => q1 v H1 G1 ρ σ e1 R1 r1) fun _ _ z => exS.w z⟩
theorem ds_retN {pos : Pos} : PS X (.Return none pos) (rdS c F W ρ E (Pure.pure (.rt .non))) := by
  refine ps_by ps_retN fun B σ H ⟨P, G, R, q⟩ => ?_
  exact q .non H G ρ σ (Ext.refl G) R .non
theorem ds_pass {pos : Pos} {a : α} (h : E a = ρ) : PS X (.Pass pos) (rdS c F W ρ E (Pure.pure (.nx a))) := by
  refine ps_by ps_pass fun B σ H ⟨P, G, R, q⟩ => ?_
  have q' : ∀ σ' H' G', Ext G G' → Rel c F (E a) P σ' H' G' → B.nx σ' H' := q
  exact q' σ H G (Ext.refl G) (by rw [h]; exact R)
theorem ds_break {pos : Pos} {a : α} (h : E a = ρ) : PS X (.Break pos) (rdS c F W ρ E (Pure.pure (.bk a))) := by
  refine ps_by ps_break fun B σ H ⟨P, G, R, q⟩ => ?_
  have q' : ∀ σ' H' G', Ext G G' → Rel c F (E a) P σ' H' G' → B.bk σ' H' := q
  exact q' σ H G (Ext.refl G) (by rw [h]; exact R)
theorem ds_cont {pos : Pos} {a : α} (h : E a = ρ) : PS X (.Continue pos) (rdS c F W ρ E (Pure.pure (.ct a))) := by
  refine ps_by ps_continue fun B σ H ⟨P, G, R, q⟩ => ?_
  have q' : ∀ σ' H' G', Ext G G' → Rel c F (E a) P σ' H' G' → B.ct σ' H' := q
  exact q' σ H G (Ext.refl G) (by rw [h]; exact R)
theorem ds_expr {e : Expr} {pos : Pos} {m : M D} {a : α} (h : PE X e (rdE c F W ρ m)) (he : E a = ρ) (hs : swapsWith e none pos.line X.env = pure false := by rfl) : PS X (.Expr e pos) (rdS c F W ρ E (m >>= fun _ => Pure.pure (.nx a))) := by
  refine ps_by (ps_expr h hs) fun B σ H ⟨P, G, R, q⟩ => ?_
  refine ⟨P, G, R, out_mono (out_bind.mp q) (fun d P1 q1 v H1 G1 e1 R1 r1 => ?_) fun _ _ z => exS.w z⟩
  have q' : ∀ σ' H' G', Ext G G' → Rel c F (E a) P1 σ' H' G' → B.nx σ' H' := q1
  exact q' σ H1 G1 e1 (by rw [he]; exact R1)
theorem ds_if {t : Expr} {a b : List Stmt} {pos : Pos} {m : M Bool} {ma mb : M (Fl α)} (h : PT X t (rdT c F W ρ m)) (ha : PSs X a (rdS c F W ρ E ma)) (hb : PSs X b (rdS c F W ρ E mb)) :
    PS X (.If t a b pos) (rdS c F W ρ E (m >>= fun x => if x = true then ma else mb)) := by
  refine ps_by (ps_if h ha hb) fun B σ H ⟨P, G, R, q⟩ => ?_
  refine ⟨P, G, R, out_mono (out_bind.mp q) (fun x P1 q1 H1 G1 e1 R1 => ?_) fun _ _ z => exS.w z⟩
  have go : ∀ {mm : M (Fl α)}, out mm P1 (fun f P' => match f with
    | .nx a => ∀ σ' H' G', Ext G G' → Rel c F (E a) P' σ' H' G' → B.nx σ' H'
    | .bk a => ∀ σ' H' G', Ext G G' → Rel c F (E a) P' σ' H' G' → B.bk σ' H'
    | .ct a => ∀ σ' H' G', Ext G G' → Rel c F (E a) P' σ' H' G' → B.ct σ' H'
    | .rt d => ∀ v H' G' ρ' σ', Ext G G' → Rel c F ρ' P' σ' H' G' → c.rep G' v d → B.rt v H') (exS c F W P G σ) → rdS c F W ρ E mm B σ H1 := fun {mm} z => by
    refine ⟨P1, G1, R1, out_mono z (fun f P2 q2 => ?_) fun _ _ z => exS_le e1 z⟩
    cases f with
    | nx b => exact fun σ2 H2 G2 e2 R2 => q2 σ2 H2 G2 (e1.trans e2) R2
    | bk b => exact fun σ2 H2 G2 e2 R2 => q2 σ2 H2 G2 (e1.trans e2) R2
    | ct b => exact fun σ2 H2 G2 e2 R2 => q2 σ2 H2 G2 (e1.trans e2) R2
    | rt d => exact fun v H2 G2 ρ2 σ2 e2 R2 r2 => q2 v H2 G2 ρ2 σ2 (e1.trans e2) R2 r2
  cases x with
  | true => exact go q1
  | false => exact go q1
/-- a slot is set to a value -/
theorem Rel.set {P : Pot} {σ : L2.St} {H G : Hp} {i : Nat} {v : V} {d : D} (R : Rel c F ρ P σ H G) (r : c.rep G v d) : Rel c F (ρ.set i (.v d)) P (σ.set i (some v)) H G := by
  refine ⟨R.post, by simp [R.len], fun j s x a b => ?_, fun j j' k k' a h1 h2 h3 h4 => ?_⟩
  · rw [List.getElem?_set] at a b
    by_cases e : i = j
    · rw [if_pos e] at a b
      split at a
      · split at b
        · cases a; cases b; exact ⟨v, rfl, r⟩
        · cases b
      · cases a
    · rw [if_neg e] at a b
      exact R.sl j s x a b
  · have ne : ∀ {m : Nat} {kk : Cel}, (ρ.set i (Sl.v d))[m]? = some (.o kk) → i ≠ m := fun {m kk} h e => by
      rw [List.getElem?_set, if_pos e] at h
      split at h <;> cases h
    have n1 := ne h1
    have n2 := ne h2
    rw [List.getElem?_set_ne n1] at h1 h3
    rw [List.getElem?_set_ne n2] at h2 h4
    exact R.ap j j' k k' a h1 h2 h3 h4
/-- name = e -/
theorem ds_set {i : Nat} {x : Str} {e : Expr} {pos pos' : Pos} {m : M D} (hN : X.N.Nodup) (hi : X.N[i]? = some x) (hx : Loc X.env.scope x) (h : PE X e (rdE c F W ρ m)) (hs : swapsWith e (some (.Name x pos')) pos.line X.env = pure false := by rfl) (hf : X.fn x = true ∨ X.env.scope.names.lookup x = some .local := by first | exact .inl rfl | exact .inr rfl | assumption) :
    PS X (.Assign [.Name x pos'] e pos) (rdS c F W ρ (fun d => ρ.set i (.v d)) (m >>= fun d => Pure.pure (.nx d))) := by
  refine ps_by (ps_set hN hi hx h hs hf) fun B σ H ⟨P, G, R, q⟩ => ?_
  refine ⟨P, G, R, out_mono (out_bind.mp q) (fun d P1 q1 v H1 G1 e1 R1 r1 => ?_) fun _ _ z => exS.w z⟩
  have q' : ∀ σ' H' G', Ext G G' → Rel c F (ρ.set i (.v d)) P1 σ' H' G' → B.nx σ' H' := q1
  exact q' _ H1 G1 e1 (R1.set r1)
/-- what is forgotten -/
def Fog : Sl → Sl → Prop
  | _, .un => True
  | a, b => a = b
theorem Rel.fog {P : Pot} {σ : L2.St} {H G : Hp} {ρ' : List Sl} (R : Rel c F ρ P σ H G) (hl : ρ'.length = ρ.length) (h : ∀ (i : Nat) a b, ρ[i]? = some a → ρ'[i]? = some b → Fog a b) : Rel c F ρ' P σ H G := by
  have up : ∀ (i : Nat) s, ρ'[i]? = some s → s ≠ .un → ρ[i]? = some s := fun i s a ne => by
    have hi : i < ρ.length := by rw [← hl]; exact (List.getElem?_eq_some_iff.mp a).1
    have z := h i _ s (List.getElem?_eq_getElem hi) a
    rw [List.getElem?_eq_getElem hi]
    cases s with
    | un => exact absurd rfl ne
    | v d => cases q : ρ[i] <;> rw [q] at z <;> first | exact congrArg some z | cases z
    | o d => cases q : ρ[i] <;> rw [q] at z <;> first | exact congrArg some z | cases z
    | p => cases q : ρ[i] <;> rw [q] at z <;> first | exact congrArg some z | cases z
  refine ⟨R.post, R.len.trans hl.symm, fun i s x a b => ?_, fun i j k k' a h1 h2 h3 h4 => R.ap i j k k' a (up i _ h1 nofun) (up j _ h2 nofun) h3 h4⟩
  cases s with
  | un => exact True.intro
  | v d => exact R.sl i _ x (up i _ a nofun) b
  | o d => exact R.sl i _ x (up i _ a nofun) b
  | p => exact R.sl i _ x (up i _ a nofun) b
end

/-! ### new objects, objects of one's own -/
theorem tabs_upd {T : List (Addr × Str)} {H : Hp} {a : Addr} {o : HO} (t : LamX.Tabs T H) (ha : ∀ u, H a = some u → (∀ ps, u ≠ .tbl ps) ∧ ∀ φ, u ≠ .ext φ) : LamX.Tabs T (upd H a o) := by
  intro p hp
  obtain ⟨ps, h1, h2, h3⟩ := t p hp
  have ne : ∀ b u, H b = some u → (∃ ps, u = .tbl ps) ∨ (∃ φ, u = .ext φ) → b ≠ a := fun b u e k z => by
    subst z
    rcases k with ⟨q, k⟩ | ⟨q, k⟩
    · exact (ha u e).1 q k
    · exact (ha u e).2 q k
  refine ⟨ps, by rw [upd_ne (ne _ _ h1 (.inl ⟨_, rfl⟩))]; exact h1, h2, fun pos cv hc => ?_⟩
  obtain ⟨x, e1, e2⟩ := h3 pos cv hc
  exact ⟨x, e1, by rw [upd_ne (ne _ _ e2 (.inr ⟨_, rfl⟩))]; exact e2⟩
section
variable {c : Cn} {F : Fr} {ρ : List Sl} {P : Pot} {σ : L2.St} {H G : Hp}
theorem Rel.lt_ap (R : Rel c F ρ P σ H G) {a : Addr} (h : F.ap = some a) : ∃ vs, H a = some (.lst vs) := by
  have z := R.post.pot
  rw [h] at z
  cases P with
  | none => exact z.elim
  | some ds => obtain ⟨vs, z, _⟩ := z; exact ⟨vs, z⟩
theorem Rel.ne_ap (R : Rel c F ρ P σ H G) {a : Addr} (h : H a = none) : some a ≠ F.ap := fun z => by
  obtain ⟨vs, e⟩ := R.lt_ap z.symm
  rw [h] at e; cases e
theorem Post.h0 {ap : Option Addr} {G0 H0 : Hp} (p : Post c ap G0 H0 P G H) {a : Addr} (h : H a = none) : H0 a = none := by
  cases e : H0 a with
  | none => rfl
  | some o =>
    exfalso
    by_cases t : noTbl o
    · by_cases n : some a ≠ ap
      · rw [p.fr a o e n t] at h; cases h
      · have n' : some a = ap := Classical.not_not.mp n
        subst n'
        have z := p.pot
        cases P with
        | none => exact z
        | some ds => obtain ⟨vs, z, _⟩ := z; rw [z] at h; cases h
    · obtain ⟨ps, rfl⟩ : ∃ ps, o = .tbl ps := Classical.not_forall_not.mp t
      obtain ⟨qs, z⟩ := p.tb a ps e
      rw [z] at h; cases h
theorem PotOk.ext {G' H' : Hp} {ap : Option Addr} (h : PotOk c G H ap P) (e : Ext G G') (k : ∀ a, ap = some a → H' a = H a) (g : ∀ a, ap = some a → G' a = none) : PotOk c G' H' ap P := by
  cases ap with
  | none => cases P <;> exact h
  | some a =>
    cases P with
    | none => exact h
    | some ds => obtain ⟨vs, h1, h2, h3⟩ := h; exact ⟨vs, by rw [k a rfl]; exact h1, h2.mono e, g a rfl⟩
/-- H changes at p alone, where no one looks; G gets what it may -/
theorem Rel.at (R : Rel c F ρ P σ H G) {p : Addr} {o : HO} (hg : G p = none) (h0 : F.H0 p = none) (na : some p ≠ F.ap) (ht : ∀ u, H p = some u → (∀ ps, u ≠ .tbl ps) ∧ ∀ φ, u ≠ .ext φ)
    (ow : ∀ (i : Nat) k, ρ[i]? = some (.o k) → σ[i]? ≠ some (some (V.ref p))) : Rel c F ρ P σ (upd H p o) G := by
  have ne : ∀ b u, G b = some u → b ≠ p := fun b u e z => by rw [z, hg] at e; cases e
  refine ⟨⟨R.post.ext, fun a u e => ?_, fun b u e n t => ?_, R.post.new, R.post.pot.ext (Ext.refl _) (fun a e => ?_) (fun a e => ?_), tabs_upd R.post.tab ht, R.post.nt, fun a ps e => ?_⟩, R.len, fun i s x a b => ?_, R.ap⟩
  · rw [upd_ne (ne a u e)]; exact R.post.le a u e
  · rw [upd_ne (fun z => by rw [z, h0] at e; cases e)]; exact R.post.fr b u e n t
  · exact upd_ne (fun z => na (by rw [← z, e]))
  · have z := R.post.pot
    rw [e] at z
    cases P with
    | none => exact z.elim
    | some ds => obtain ⟨_, _, _, z⟩ := z; exact z
  · obtain ⟨qs, z⟩ := R.post.tb a ps e
    exact ⟨qs, by rw [upd_ne (fun q => by rw [q, h0] at e; cases e)]; exact z⟩
  · have z := R.sl i s x a b
    cases s with
    | un => exact True.intro
    | v d => exact z
    | p => exact z
    | o k =>
      obtain ⟨ad, e, ⟨u, hu, hk⟩, g, h, q⟩ := z
      subst e
      exact ⟨ad, rfl, ⟨u, by rw [upd_ne (fun w => ow i k a (by rw [b, w]))]; exact hu, hk⟩, g, h, q⟩
/-- an object that no one has is frozen -/
theorem Rel.freeze (R : Rel c F ρ P σ H G) {p : Addr} {o : HO} (hp : H p = some o) (nt : noTbl o) (h0 : F.H0 p = none) (na : some p ≠ F.ap)
    (ow : ∀ (i : Nat) k, ρ[i]? = some (.o k) → σ[i]? ≠ some (some (V.ref p))) (hg : G p = none) : Rel c F ρ P σ H (upd G p o) ∧ Ext G (upd G p o) := by
  have ne : ∀ b u, G b = some u → b ≠ p := fun b u e z => by rw [z, hg] at e; cases e
  have ex : Ext G (upd G p o) := fun a u e => by rw [upd_ne (ne a u e)]; exact e
  refine ⟨⟨⟨R.post.ext.trans ex, fun a u e => ?_, R.post.fr, fun a e => ?_, R.post.pot.ext ex (fun _ _ => rfl) (fun a e => ?_), R.post.tab, fun a u e => ?_, R.post.tb⟩, R.len, fun i s x a b => ?_, R.ap⟩, ex⟩
  · by_cases z : a = p
    · subst z; rw [upd_same] at e; cases e; exact hp
    · rw [upd_ne z] at e; exact R.post.le a u e
  · by_cases z : a = p
    · subst z; exact .inr (.inl h0)
    · rw [upd_ne z] at e
      rcases R.post.new a e with y | y | ⟨vs, y⟩
      · exact .inl y
      · exact .inr (.inl y)
      · exact .inr (.inr ⟨vs, ex _ _ y⟩)
  · rw [upd_ne (fun z => na (by rw [← z, e]))]
    have z := R.post.pot
    rw [e] at z
    cases P with
    | none => exact z.elim
    | some ds => obtain ⟨_, _, _, z⟩ := z; exact z
  · by_cases z : a = p
    · subst z; rw [upd_same] at e; cases e; exact nt
    · rw [upd_ne z] at e; exact R.post.nt a u e
  · have z := R.sl i s x a b
    cases s with
    | un => exact True.intro
    | v d => obtain ⟨v, e, r⟩ := z; exact ⟨v, e, r.mono ex⟩
    | p => exact z
    | o k =>
      obtain ⟨ad, e, ⟨u, hu, hk⟩, g, h, q⟩ := z
      subst e
      have mono : ∀ {vs ds}, c.reps G vs ds → c.reps (upd G p o) vs ds := fun h => h.mono ex
      refine ⟨ad, rfl, ⟨u, hu, ?_⟩, by rw [upd_ne (fun w => ow i k a (by rw [b, w]))]; exact g, h, q⟩
      cases u <;> cases k <;> first | exact hk.elim | exact mono hk | exact ⟨hk.1, mono hk.2⟩ | exact ⟨hk.1, hk.2.1, mono hk.2.2⟩ | exact ⟨hk.1, hk.2.1, hk.2.2.1, mono hk.2.2.2⟩
theorem Rel.own_at (R : Rel c F ρ P σ H G) {p : Addr} (hp : H p = none) (i : Nat) (k : Cel) (h : ρ[i]? = some (.o k)) : σ[i]? ≠ some (some (V.ref p)) := fun z => by
  obtain ⟨a, e, ⟨u, hu, _⟩, _⟩ := R.sl i _ _ h z
  cases e
  rw [hp] at hu; cases hu
theorem Post.g_none {ap : Option Addr} {G0 H0 : Hp} (p : Post c ap G0 H0 P G H) {a : Addr} (h : H a = none) : G a = none := by
  cases e : G a with
  | none => rfl
  | some o => rw [p.le a o e] at h; cases h
/-- a new object, frozen at once -/
theorem Rel.new (R : Rel c F ρ P σ H G) {p : Addr} {o : HO} (hp : H p = none) (nt : noTbl o) : Rel c F ρ P σ (upd H p o) (upd G p o) ∧ Ext G (upd G p o) := by
  have R1 := R.at (p := p) (o := o) (R.post.g_none hp) (R.post.h0 hp) (R.ne_ap hp) (fun u e => by rw [hp] at e; cases e) (R.own_at hp)
  exact R1.freeze upd_same nt (R.post.h0 hp) (R.ne_ap hp) (R.own_at hp) (R.post.g_none hp)
/-- a new object that nobody has yet -/
theorem Rel.newM (R : Rel c F ρ P σ H G) {p : Addr} {o : HO} (hp : H p = none) : Rel c F ρ P σ (upd H p o) G :=
  R.at (p := p) (o := o) (R.post.g_none hp) (R.post.h0 hp) (R.ne_ap hp) (fun u e => by rw [hp] at e; cases e) (R.own_at hp)
/-- as an entry of its own -/
theorem Rel.entry (R : Rel c F ρ P σ H G) : Post c F.ap G H P G H := R.post.refl'
theorem nt_lst {xs : List V} : noTbl (.lst xs) := fun _ h => nomatch h
theorem nt_tup {xs : List V} : noTbl (.tup xs) := fun _ h => nomatch h
theorem nt_dK {xs : List (Key × V)} : noTbl (.dK xs) := fun _ h => nomatch h
theorem nt_dT {xs : List (List Key × V)} : noTbl (.dT xs) := fun _ h => nomatch h
theorem nt_ins {C dx : Addr} {fs : List (Str × V)} : noTbl (.ins C dx fs) := fun _ h => nomatch h
end
/-! ### displays -/
section
variable {c : Cn} {F : Fr} {W : WX} {ρ : List Sl} {X : Cx} {P : Pot} {σ : L2.St} {H G : Hp}
def mkL (ds : List D) : M D := if ds.length ≤ sizeLine then Pure.pure (.lst ds) else M.no
def mkT (ds : List D) : M D := if ds.length ≤ sizeLine then Pure.pure (.tup ds) else M.no
theorem ArsOk.reps {G : Hp} : ∀ {vs : List V} {as : List Ar} {P : Pot} {ok : List D → Pot → Prop} {ex : Ex → Pot → Prop}, ArsOk c F G vs as → out (DL.vals as) P ok ex → ∃ ds, c.reps G vs ds ∧ ok ds P
  | [], [], _, _, _, _, q => ⟨[], Reps.nil, q⟩
  | v :: vs, .v d :: as, P, ok, ex, ⟨h, t⟩, q => by
    obtain ⟨ds, r, q⟩ := ArsOk.reps t (out_bind.mp q)
    exact ⟨d :: ds, Reps.cons h r, q⟩
  | _ :: _, .p :: _, _, _, _, _, q => q.elim
theorem de_lst {es : List Expr} {pos : Pos} {ms : M (List Ar)} (h : PA X es (rdA c F W ρ ms)) : PE X (.List es pos) (rdE c F W ρ (ms >>= fun as => DL.vals as >>= mkL)) := by
  refine pe_by (pe_lst h) fun σ H Q ⟨P, G, R, q⟩ => ?_
  refine ⟨P, G, R, out_mono (out_bind.mp q) (fun as P1 q1 vs H1 G1 e1 R1 r1 => ?_) fun _ _ z => z⟩
  obtain ⟨ds, r, q2⟩ := r1.reps (out_bind.mp q1)
  unfold mkL at q2
  by_cases hz : ds.length ≤ sizeLine
  · rw [if_pos hz] at q2
    refine ⟨by rw [r.1]; exact hz, fun p hp => ?_⟩
    obtain ⟨R2, e2⟩ := R1.new hp (o := .lst vs) nt_lst
    exact q2 (.ref p) _ _ (e1.trans e2) R2 (.lst upd_same r.1 fun i v d a b => (r.2 i v d a b).mono e2)
  · rw [if_neg hz] at q2; exact q2.elim
theorem de_tup {es : List Expr} {k : Nat} {pos : Pos} {ms : M (List Ar)} (h : PA X es (rdA c F W ρ ms)) : PE X (.Tuple es k pos) (rdE c F W ρ (ms >>= fun as => DL.vals as >>= mkT)) := by
  refine pe_by (pe_tup h) fun σ H Q ⟨P, G, R, q⟩ => ?_
  refine ⟨P, G, R, out_mono (out_bind.mp q) (fun as P1 q1 vs H1 G1 e1 R1 r1 => ?_) fun _ _ z => z⟩
  obtain ⟨ds, r, q2⟩ := r1.reps (out_bind.mp q1)
  unfold mkT at q2
  by_cases hz : ds.length ≤ sizeLine
  · rw [if_pos hz] at q2
    refine ⟨by rw [r.1]; exact hz, fun p hp => ?_⟩
    obtain ⟨R2, e2⟩ := R1.new hp (o := .tup vs) nt_tup
    exact q2 (.ref p) _ _ (e1.trans e2) R2 (.tup (SqT.of upd_same) r.1 fun i v d a b => (r.2 i v d a b).mono e2)
  · rw [if_neg hz] at q2; exact q2.elim
/-- a built-in by its values: r what it asks, f what it gives -/
def CallD (c : Cn) (r : List V → Hp → VK → Prop) (f : List D → M D) : Prop := ∀ F ρ W P σ H G vs ds Q, Rel c F ρ P σ H G → c.reps G vs ds →
  out (f ds) P (fun d P' => ∀ v H' G', Ext G G' → Rel c F ρ P' σ H' G' → c.rep G' v d → Q v H') (exW c F W P G σ) → r vs H Q
theorem call_rd {r : List V → Hp → VK → Prop} {f : List D → M D} {ms : M (List Ar)} (hf : CallD c r f) {Q : VK} (h : rdE c F W ρ (ms >>= fun as => DL.vals as >>= f) σ H Q) : tCB r (rdA c F W ρ ms) σ H Q := by
  obtain ⟨P, G, R, q⟩ := h
  refine ⟨P, G, R, out_mono (out_bind.mp q) (fun as P1 q1 vs H1 G1 e1 R1 r1 => ?_) fun _ _ z => z⟩
  obtain ⟨ds, rr, q2⟩ := r1.reps (out_bind.mp q1)
  exact hf F ρ W P1 σ H1 G1 vs ds Q R1 rr (out_mono q2 (fun d P3 q3 v3 H3 G3 e3 R3 r3 => q3 v3 H3 G3 (e1.trans e3) R3 r3) fun _ _ z => exW_le e1 z)
theorem de_blt {id : String} {r : List V → Hp → VK → Prop} {f : List D → M D} {ms : M (List Ar)} {x : Str} {p pos : Pos} {e : Expr} {es : List Expr} (hc : CallR X (.builtin id) r) (hf : CallD c r f) (hg : Gl X x) (hm : X.mg x = none) (hv : bootBuiltins x = some (.builtin id)) (ha : PA X (e :: es) (rdA c F W ρ ms))
    (hn : x ≠ "__name__" := by decide) (hdb : (x == ("__debug__" : Str)) = false := by decide) (he : starEach (e :: es) X.env = (false, eval e X.env) :: starEach es X.env := by rfl) (hpl : (backTo pos (starEach es X.env)).any (·.1) = false := by rfl) :
    PE X (.Call (.Name x p) (e :: es) [] pos) (rdE c F W ρ (ms >>= fun as => DL.vals as >>= f)) := pe_by (pe_callB hc hg hm hv ha hn hdb he hpl) fun _ _ _ => call_rd hf
theorem de_ty {T : String} {r : List V → Hp → VK → Prop} {f : List D → M D} {ms : M (List Ar)} {x : Str} {p pos : Pos} {e : Expr} {es : List Expr} (hc : CallR X (.type T) r) (hf : CallD c r f) (hg : Gl X x) (hm : X.mg x = none) (hv : bootBuiltins x = some (.type T)) (ha : PA X (e :: es) (rdA c F W ρ ms))
    (hn : x ≠ "__name__" := by decide) (hdb : (x == ("__debug__" : Str)) = false := by decide) (he : starEach (e :: es) X.env = (false, eval e X.env) :: starEach es X.env := by rfl) (hpl : (backTo pos (starEach es X.env)).any (·.1) = false := by rfl) :
    PE X (.Call (.Name x p) (e :: es) [] pos) (rdE c F W ρ (ms >>= fun as => DL.vals as >>= f)) := pe_by (pe_callTy hc hg hm hv ha hn hdb he hpl) fun _ _ _ => call_rd hf
end

/-! ### walks -/
/-- what the iterator yields: ds, one by one -/
def Goes (c : Cn) (J : It) (ds : List D) (G1 : Hp) : Prop := ∀ (F : Fr) (ρ : List Sl) (i : Nat) (P : Pot) (σ : L2.St) (H G : Hp), Ext G1 G → Rel c F ρ P σ H G →
  (ds.length = i → J.stop i H) ∧ ∀ d, ds[i]? = some d → J.go i H ∧ ∀ x H', J.yld i H x H' → ∃ G', Ext G G' ∧ Rel c F ρ P σ H' G' ∧ c.rep G' x d
section
variable (c : Cn) (F : Fr) (W : WX) (ρ : List Sl)
def rdI (m : M (List D)) : TI := fun σ H R => ∃ P G, Rel c F ρ P σ H G ∧ out m P (fun ds P' => ∀ J H' G', Ext G G' → Rel c F ρ P' σ H' G' → Goes c J ds G' → R J H') (exW c F W P G σ)
/-- a target: which slots come of the value -/
def rdG (t : D → Option (List Sl)) : TG := fun v σ H Q => ∃ P G d ρ', Rel c F ρ P σ H G ∧ c.rep G v d ∧ t d = some ρ' ∧ ∀ σ' H' G', Ext G G' → Rel c F ρ' P σ' H' G' → Q σ' H'
end
section
variable {c : Cn} {F : Fr} {W : WX} {ρ : List Sl} {X : Cx} {tg : Expr}
theorem pi_or {iter : Expr} {w w' : TI} (h : PI X tg iter w) (h' : PI X tg iter w') : PI X tg iter (fun σ H R => w σ H R ∨ w' σ H R) :=
  ⟨fun pins s σ H R I q => q.elim (h.run pins s σ H R I) (h'.run pins s σ H R I)⟩
theorem pi_by {iter : Expr} {w w' : TI} (h : PI X tg iter w) (k : ∀ σ H R, w' σ H R → w σ H R) : PI X tg iter w' := ⟨fun pins s σ H R I q => h.run pins s σ H R I (k σ H R q)⟩
theorem pg_by {t t' : TG} (h : PG X tg t) (k : ∀ v σ H Q, t' v σ H Q → t v σ H Q) : PG X tg t' := ⟨fun pins s σ H v u Q I r q => h.run pins s σ H v u Q I r (k v σ H Q q)⟩
/-- what a for walks, by the value -/
def iterD : D → M (List D)
  | .lst ds => Pure.pure ds
  | .tup ds => Pure.pure ds
  | .scr ns => Pure.pure (ns.map .int)
  | _ => M.no
theorem goes_lst {a : Addr} {vs : List V} {ds : List D} {G : Hp} {K : PySem.W.Frag} (h : SqL K G a vs) (r : c.reps G vs ds) (hK : K = c.K) : Goes c (Itl K a) ds G := by
  intro F ρ i P σ H G1 e R
  have hL : SqL K H a vs := Evl.ex_l (e.trans R.post.le) h
  refine ⟨fun hi => ⟨vs, hL, by rw [r.1]; exact Nat.le_of_eq hi⟩, fun d hd => ?_⟩
  obtain ⟨v, hv, rv⟩ := r.get hd
  refine ⟨⟨vs, v, hL, hv⟩, fun x H' y => ?_⟩
  obtain ⟨rfl, y⟩ := y
  have := y vs hL
  rw [hv] at this
  cases this
  exact ⟨G1, Ext.refl _, R, rv.mono e⟩
theorem goes_tup {a : Addr} {vs : List V} {ds : List D} {G : Hp} {K : PySem.W.Frag} (h : SqT K G a vs) (r : c.reps G vs ds) (hK : K = c.K) : Goes c (Itt K a) ds G := by
  intro F ρ i P σ H G1 e R
  have hL : SqT K H a vs := Evl.ex_t (e.trans R.post.le) h
  refine ⟨fun hi => ⟨vs, hL, by rw [r.1]; exact Nat.le_of_eq hi⟩, fun d hd => ?_⟩
  obtain ⟨v, hv, rv⟩ := r.get hd
  refine ⟨⟨vs, v, hL, hv⟩, fun x H' y => ?_⟩
  obtain ⟨rfl, y⟩ := y
  have := y vs hL
  rw [hv] at this
  cases this
  exact ⟨G1, Ext.refl _, R, rv.mono e⟩
theorem reps_ints {G : Hp} : ∀ ns : List Int, c.reps G (ns.map V.int) (ns.map D.int)
  | [] => Reps.nil
  | n :: ns => Reps.cons (.int n) (reps_ints ns)
/-- over a list, a tuple, the script -/
theorem di_seq {e : Expr} {m : M D} (hK : X.K = c.K) (h : PE X e (rdE c F W ρ m)) : PI X tg e (rdI c F W ρ (m >>= iterD)) := by
  refine pi_by (pi_or (pi_list h) (pi_tup h)) fun σ H R q => ?_
  obtain ⟨P, G, Rl, q⟩ := q
  have q' := out_bind.mp q
  cases e : m P with
  | no => unfold out at q'; rw [e] at q'; exact q'.elim
  | ex x p =>
    refine .inl ⟨P, G, Rl, ?_⟩
    unfold out at q' ⊢
    rw [e] at q' ⊢
    exact q'
  | ok d p =>
    unfold out at q'
    rw [e] at q'
    cases d with
    | lst ds =>
      refine .inl ⟨P, G, Rl, ?_⟩
      unfold out
      rw [e]
      intro v H1 G1 e1 R1 r1
      cases r1 with
      | lst ha hl hr => exact ⟨_, rfl, ⟨_, SqL.of (R1.post.le _ _ ha)⟩, q' _ H1 G1 e1 R1 (goes_lst (SqL.of ha) ⟨hl, hr⟩ hK)⟩
    | tup ds =>
      refine .inr ⟨P, G, Rl, ?_⟩
      unfold out
      rw [e]
      intro v H1 G1 e1 R1 r1
      cases r1 with
      | tup ha hl hr => rw [← hK] at ha; exact ⟨_, rfl, ⟨_, Evl.ex_t R1.post.le ha⟩, q' _ H1 G1 e1 R1 (goes_tup ha ⟨hl, hr⟩ hK)⟩
    | scr ns =>
      refine .inl ⟨P, G, Rl, ?_⟩
      unfold out
      rw [e]
      intro v H1 G1 e1 R1 r1
      cases r1 with
      | scr ha => rw [← hK] at ha; exact ⟨_, rfl, ⟨_, Evl.ex_l R1.post.le ha⟩, q' _ H1 G1 e1 R1 (goes_lst ha (reps_ints ns) hK)⟩
    | _ => exact q'.elim
theorem goes_rng (lo : Int) (n : Nat) (G : Hp) : Goes c (Itr lo n) ((List.range n).map fun i => .int (lo + (i : Nat))) G := by
  intro F ρ i P σ H G1 e R
  refine ⟨fun hi => (show n ≤ i by simpa using Nat.le_of_eq hi), fun d hd => ?_⟩
  have hi : i < n := by
    have := (List.getElem?_eq_some_iff.mp hd).1
    simpa using this
  refine ⟨hi, fun x H' y => ?_⟩
  obtain ⟨rfl, rfl⟩ := y
  rw [List.getElem?_map, List.getElem?_range hi] at hd
  cases hd
  exact ⟨G1, Ext.refl _, R, .int _⟩
def rngs (lo hi : Int) : List D := (List.range (hi - lo).toNat).map fun i => .int (lo + (i : Nat))
def rng1 : List Ar → M (List D)
  | [.v (.int j)] => if -(2 ^ 62) ≤ j ∧ j < 2 ^ 62 then Pure.pure (rngs 0 j) else M.no
  | _ => M.no
def rng2 : List Ar → M (List D)
  | [.v (.int i), .v (.int j)] => if -(2 ^ 62) ≤ i ∧ i < 2 ^ 62 ∧ -(2 ^ 62) ≤ j ∧ j < 2 ^ 62 then Pure.pure (rngs i j) else M.no
  | _ => M.no
theorem di_rng1 {a : Expr} {ms : M (List Ar)} {p pos : Pos} (hg : Gl X "range") (hm : X.mg "range" = none) (ha : PA X [a] (rdA c F W ρ ms)) (hs : starEach [a] X.env = [(false, eval a X.env)] := by rfl) : PI X tg (.Call (.Name "range" p) [a] [] pos) (rdI c F W ρ (ms >>= rng1)) := by
  refine pi_by (pi_range1 hg hm ha hs) fun σ H R ⟨P, G, Rl, q⟩ => ?_
  refine ⟨P, G, Rl, out_mono (out_bind.mp q) (fun as P1 q1 vs H1 G1 e1 R1 r1 => ?_) fun _ _ z => z⟩
  unfold rng1 at q1
  split at q1
  · rename_i j
    split at q1
    · rename_i hb
      obtain ⟨v, rfl⟩ : ∃ v, vs = [v] := by
        match vs, r1 with
        | [v], _ => exact ⟨v, rfl⟩
      have rv : c.rep G1 v (.int j) := r1.1
      rw [rv.int_of]
      refine ⟨j, rfl, hb.1, hb.2, q1 _ H1 G1 e1 R1 ?_⟩
      have := goes_rng (c := c) 0 j.toNat G1
      show Goes c (Itr 0 j.toNat) (rngs 0 j) G1
      unfold rngs
      rw [Int.sub_zero]
      exact this
    · exact q1.elim
  · exact q1.elim
theorem di_rng2 {a b : Expr} {ms : M (List Ar)} {p pos : Pos} (hg : Gl X "range") (hm : X.mg "range" = none) (ha : PA X [a, b] (rdA c F W ρ ms)) (hs : starEach [a, b] X.env = [(false, eval a X.env), (false, eval b X.env)] := by rfl) (hs2 : starEach [b] X.env = [(false, eval b X.env)] := by rfl) :
    PI X tg (.Call (.Name "range" p) [a, b] [] pos) (rdI c F W ρ (ms >>= rng2)) := by
  refine pi_by (pi_range2 hg hm ha hs hs2) fun σ H R ⟨P, G, Rl, q⟩ => ?_
  refine ⟨P, G, Rl, out_mono (out_bind.mp q) (fun as P1 q1 vs H1 G1 e1 R1 r1 => ?_) fun _ _ z => z⟩
  unfold rng2 at q1
  split at q1
  · rename_i i j
    split at q1
    · rename_i hb
      obtain ⟨v, w, rfl⟩ : ∃ v w, vs = [v, w] := by
        match vs, r1 with
        | [v, w], _ => exact ⟨v, w, rfl⟩
      have rv : c.rep G1 v (.int i) := r1.1
      have rw' : c.rep G1 w (.int j) := r1.2.1
      rw [rv.int_of, rw'.int_of]
      exact ⟨i, j, rfl, hb, q1 _ H1 G1 e1 R1 (goes_rng (c := c) i (j - i).toNat G1)⟩
    · exact q1.elim
  · exact q1.elim
/-! ### targets -/
theorem dg_name {i : Nat} {x : Str} {pos : Pos} (hN : X.N.Nodup) (hi : X.N[i]? = some x) (hx : Loc X.env.scope x) (hf : X.fn x = true ∨ X.env.scope.names.lookup x = some .local := by first | exact .inl rfl | exact .inr rfl | assumption) :
    PG X (.Name x pos) (rdG c F ρ fun d => some (ρ.set i (.v d))) := by
  refine pg_by (pg_name hN hi hx hf) fun v σ H Q ⟨P, G, d, ρ', R, r, e, q⟩ => ?_
  cases e
  exact q _ H G (Ext.refl _) (R.set r)
def setAll : List Sl → List Nat → List D → Option (List Sl)
  | ρ, [], [] => some ρ
  | ρ, i :: is, d :: ds => setAll (ρ.set i (.v d)) is ds
  | _, _, _ => none
def tupS (ρ : List Sl) (is : List Nat) : D → Option (List Sl)
  | .tup ds => setAll ρ is ds
  | _ => none
/-- the slots of several names -/
def gNames : List Nat → TGs
  | [] => gNil
  | i :: is => gCons (gName i) (gNames is)
theorem names_rd {P : Pot} : ∀ {is : List Nat} {ρ ρ' : List Sl} {σ : L2.St} {H G : Hp} {vs : List V} {ds : List D} {Q : L2.St → Hp → Prop}, Rel c F ρ P σ H G → c.reps G vs ds → setAll ρ is ds = some ρ' →
    (∀ σ' H' G', Ext G G' → Rel c F ρ' P σ' H' G' → Q σ' H') → gNames is vs σ H Q
  | [], ρ, ρ', σ, H, G, vs, [], Q, R, r, e, q => by
    cases e
    exact ⟨r.nil_of', q σ H G (Ext.refl _) R⟩
  | i :: is, ρ, ρ', σ, H, G, [], d :: ds, Q, R, r, e, q => by have := r.1; simp at this
  | i :: is, ρ, ρ', σ, H, G, v :: vs, d :: ds, Q, R, r, e, q => ⟨v, vs, rfl, names_rd (R.set r.head) r.tail e q⟩
  | [], _, _, _, _, _, _, _ :: _, _, _, _, e, _ => nomatch e
  | _ :: _, _, _, _, _, _, _, [], _, _, _, e, _ => nomatch e
theorem setAll_len : ∀ {is : List Nat} {ρ ρ' : List Sl} {ds : List D}, setAll ρ is ds = some ρ' → ds.length = is.length
  | [], _, _, [], _ => rfl
  | _ :: is, ρ, ρ', _ :: ds, e => by simp [setAll_len (is := is) (ds := ds) e]
  | [], _, _, _ :: _, e => nomatch e
  | _ :: _, _, _, [], e => nomatch e
theorem dg_tup {es : List Expr} {k : Nat} {pos : Pos} {is : List Nat} (hK : X.K = c.K) (hc : X.calm = true) (h : PGs X es (gNames is)) (hn : (assignEach es X.env).length = is.length := by rfl) (hst : (assignEach es X.env).findIdx? (·.1) = none := by rfl) :
    PG X (.Tuple es k pos) (rdG c F ρ (tupS ρ is)) := by
  refine pg_by (pg_tup hc h hn hst) fun v σ H Q ⟨P, G, d, ρ', R, r, e, q⟩ => ?_
  cases d with
  | tup ds =>
    cases r with
    | tup ha hl hr =>
      rw [← hK] at ha
      exact ⟨_, _, rfl, Evl.ex_t R.post.le ha, hl.trans (setAll_len e), names_rd R ⟨hl, hr⟩ e q⟩
  | _ => exact nomatch e
end

/-! ### loops -/
/-- a for: b is its body, a what it carries -/
def forF {α : Type} (b : α → D → M (Fl α)) : List D → α → M (Fl α)
  | [], a => Pure.pure (.nx a)
  | d :: ds, a => b a d >>= fun f => match f with
    | .nx a => forF b ds a
    | .ct a => forF b ds a
    | .bk a => Pure.pure (.nx a)
    | .rt d => Pure.pure (.rt d)
section
variable {c : Cn} {F : Fr} {W : WX} {ρ : List Sl} {X : Cx} {α : Type} {E : α → List Sl}
/-- what is wanted behind a block, from the base G -/
def ends (c : Cn) (F : Fr) (E : α → List Sl) (B : Ends) (G : Hp) : Fl α → Pot → Prop := fun f P' => match f with
    | .nx a => ∀ σ' H' G', Ext G G' → Rel c F (E a) P' σ' H' G' → B.nx σ' H'
    | .bk a => ∀ σ' H' G', Ext G G' → Rel c F (E a) P' σ' H' G' → B.bk σ' H'
    | .ct a => ∀ σ' H' G', Ext G G' → Rel c F (E a) P' σ' H' G' → B.ct σ' H'
    | .rt d => ∀ v H' G' ρ' σ', Ext G G' → Rel c F ρ' P' σ' H' G' → c.rep G' v d → B.rt v H'
theorem rdS_iff {m : M (Fl α)} {B : Ends} {σ : L2.St} {H : Hp} : rdS c F W ρ E m B σ H ↔ ∃ P G, Rel c F ρ P σ H G ∧ out m P (ends c F E B G) (exS c F W P G σ) := Iff.rfl
theorem ends_le {B : Ends} {G G' : Hp} (e : Ext G G') {f : Fl α} {P : Pot} (h : ends c F E B G f P) : ends c F E B G' f P := by
  cases f with
  | nx b => exact fun σ2 H2 G2 e2 R2 => h σ2 H2 G2 (e.trans e2) R2
  | bk b => exact fun σ2 H2 G2 e2 R2 => h σ2 H2 G2 (e.trans e2) R2
  | ct b => exact fun σ2 H2 G2 e2 R2 => h σ2 H2 G2 (e.trans e2) R2
  | rt d => exact fun v H2 G2 ρ2 σ2 e2 R2 r2 => h v H2 G2 ρ2 σ2 (e.trans e2) R2 r2
theorem ds_for {tg iter : Expr} {body : List Stmt} {pos : Pos} {mi : M (List D)} {a₀ : α} {b : α → D → M (Fl α)} {t : α → D → Option (List Sl)} (hp : PassesOwn (model X.prog X.w) X.A X.env X.xe) (hc : X.calm = true)
    (hρ : ∀ {P σ H G}, Rel c F ρ P σ H G → Rel c F (E a₀) P σ H G)
    (hi : PI X tg iter (rdI c F W ρ mi)) (hg : PG X tg (fun v σ H Q => ∃ a, rdG c F (E a) (t a) v σ H Q)) (ht : ∀ a d, t a d = none → b a d = M.no) (hb : PSs X body (fun B σ H => ∃ a d ρ', t a d = some ρ' ∧ rdS c F W ρ' E (b a d) B σ H))
    (hs : ∀ x, foldedSetIterable iter X.env x = pure x := by intro _; rfl) :
    PS X (.For tg iter body [] pos) (rdS c F W ρ E (mi >>= fun ds => forF b ds a₀)) := by
  refine ps_by (ps_for hp hc hi hg hb hs) fun B σ H ⟨P, G, R, q⟩ => ?_
  refine ⟨P, G, R, out_mono (out_bind.mp q) (fun ds P1 q1 J H1 G1 e1 R1 go => ?_) fun _ _ z => exS.w z⟩
  refine ⟨fun i m σ H => m = ds.length - i ∧ i ≤ ds.length ∧ ∃ a P' G', Ext G1 G' ∧ Rel c F (E a) P' σ H G' ∧ out (forF b (ds.drop i) a) P' (ends c F E B G') (exS c F W P' G' σ),
    ⟨ds.length, by simp, Nat.zero_le _, a₀, P1, G1, Ext.refl _, hρ R1, out_mono q1 (fun f p z => ends_le e1 z) fun _ _ z => exS_le e1 z⟩, ?_⟩
  rintro i m σ2 H2 ⟨rfl, hi2, a, P2, G2, e2, R2, q2⟩
  by_cases hl : i < ds.length
  · have hd : ds[i]? = some ds[i] := List.getElem?_eq_getElem hl
    obtain ⟨g1, g2⟩ := (go F (E a) i P2 σ2 H2 G2 e2 R2).2 _ hd
    rw [List.drop_eq_getElem_cons hl] at q2
    have q3 := out_bind.mp q2
    refine .inr ⟨g1, fun σ' H' => ∃ a P' G', Ext G2 G' ∧ Rel c F (E a) P' σ' H' G' ∧ out (forF b (ds.drop (i + 1)) a) P' (ends c F E B G') (exS c F W P' G' σ'),
      fun σ' H' ⟨a', P', G', e', R', q'⟩ => ⟨ds.length - (i + 1), by omega, rfl, hl, a', P', G', e2.trans e', R', q'⟩, fun x H3 y => ?_⟩
    obtain ⟨G3, e3, R3, r3⟩ := g2 x H3 y
    refine ⟨a, ?_⟩
    cases hh : t a ds[i] with
    | none => rw [ht _ _ hh] at q3; exact q3.elim
    | some ρ' =>
      refine ⟨P2, G3, ds[i], ρ', R3, r3, hh, fun σ4 H4 G4 e4 R4 => ?_⟩
      refine ⟨a, ds[i], ρ', hh, P2, G4, R4, out_mono q3 (fun f P5 q5 => ?_) fun _ _ z => exS_le (e3.trans e4) z⟩
      have e24 := e3.trans e4
      cases f with
      | nx a' => exact fun σ6 H6 G6 e6 R6 => ⟨a', P5, G6, e24.trans e6, R6, out_mono q5 (fun f p z => ends_le (e24.trans e6) z) fun _ _ z => exS_le (e24.trans e6) z⟩
      | ct a' => exact fun σ6 H6 G6 e6 R6 => ⟨a', P5, G6, e24.trans e6, R6, out_mono q5 (fun f p z => ends_le (e24.trans e6) z) fun _ _ z => exS_le (e24.trans e6) z⟩
      | bk a' => exact fun σ6 H6 G6 e6 R6 => (show ∀ σ' H' G', Ext G2 G' → Rel c F (E a') P5 σ' H' G' → B.nx σ' H' from q5) σ6 H6 G6 (e24.trans e6) R6
      | rt d => exact fun v H6 G6 ρ6 σ6 e6 R6 r6 => (show ∀ v H' G' ρ' σ', Ext G2 G' → Rel c F ρ' P5 σ' H' G' → c.rep G' v d → B.rt v H' from q5) v H6 G6 ρ6 σ6 (e24.trans e6) R6 r6
  · have ei : i = ds.length := by omega
    subst ei
    rw [List.drop_eq_nil_of_le (Nat.le_refl _)] at q2
    exact .inl ⟨(go F (E a) _ P2 σ2 H2 G2 e2 R2).1 rfl, (show ∀ σ' H' G', Ext G2 G' → Rel c F (E a) P2 σ' H' G' → B.nx σ' H' from q2) σ2 H2 G2 (Ext.refl _) R2⟩
/-- a while, at most n turns -/
def whileF (t : α → M Bool) (b : α → M (Fl α)) : Nat → α → M (Fl α)
  | 0, _ => M.no
  | n + 1, a => t a >>= fun x => if x = true then b a >>= fun f => match f with
    | .nx a => whileF t b n a
    | .ct a => whileF t b n a
    | .bk a => Pure.pure (.nx a)
    | .rt d => Pure.pure (.rt d)
    else Pure.pure (.nx a)
theorem ds_while {te : Expr} {body : List Stmt} {pos : Pos} {a₀ : α} {b : α → M (Fl α)} {t : α → M Bool} {n : Nat} (hp : PassesOwn (model X.prog X.w) X.A X.env X.xe)
    (hρ : ∀ {P σ H G}, Rel c F ρ P σ H G → Rel c F (E a₀) P σ H G)
    (ht : PT X te (fun σ H Q => ∃ a, rdT c F W (E a) (t a) σ H Q)) (hb : PSs X body (fun B σ H => ∃ a, rdS c F W (E a) E (b a) B σ H)) :
    PS X (.While te body [] pos) (rdS c F W ρ E (whileF t b n a₀)) := by
  refine ps_by (ps_while hp ht hb) fun B σ H ⟨P, G, R, q⟩ => ?_
  refine ⟨fun m σ H => ∃ a P' G', Rel c F (E a) P' σ H G' ∧ out (whileF t b m a) P' (ends c F E B G') (exS c F W P' G' σ), ⟨n, a₀, P, G, hρ R, q⟩, ?_⟩
  rintro m σ2 H2 ⟨a, P2, G2, R2, q2⟩
  cases m with
  | zero => exact q2.elim
  | succ m =>
    refine ⟨a, P2, G2, R2, out_mono (out_bind.mp q2) (fun x P3 q3 H3 G3 e3 R3 => ?_) fun _ _ z => exS.w z⟩
    cases x with
    | false => exact (show ∀ σ' H' G', Ext G2 G' → Rel c F (E a) P3 σ' H' G' → B.nx σ' H' from q3) σ2 H3 G3 e3 R3
    | true =>
      refine ⟨fun σ' H' => ∃ a P' G', Rel c F (E a) P' σ' H' G' ∧ out (whileF t b m a) P' (ends c F E B G') (exS c F W P' G' σ'), fun σ' H' z => ⟨m, Nat.lt_succ_self m, z⟩, ?_⟩
      have q4 := out_bind.mp (show out (b a >>= fun f => match f with
        | .nx a => whileF t b m a
        | .ct a => whileF t b m a
        | .bk a => Pure.pure (.nx a)
        | .rt d => Pure.pure (.rt d)) P3 (ends c F E B G2) (exS c F W P2 G2 σ2) from q3)
      refine ⟨a, P3, G3, R3, out_mono q4 (fun f P5 q5 => ?_) fun _ _ z => exS_le e3 z⟩
      cases f with
      | nx a' => exact fun σ6 H6 G6 e6 R6 => ⟨a', P5, G6, R6, out_mono q5 (fun f p z => ends_le (e3.trans e6) z) fun _ _ z => exS_le (e3.trans e6) z⟩
      | ct a' => exact fun σ6 H6 G6 e6 R6 => ⟨a', P5, G6, R6, out_mono q5 (fun f p z => ends_le (e3.trans e6) z) fun _ _ z => exS_le (e3.trans e6) z⟩
      | bk a' => exact fun σ6 H6 G6 e6 R6 => (show ∀ σ' H' G', Ext G2 G' → Rel c F (E a') P5 σ' H' G' → B.nx σ' H' from q5) σ6 H6 G6 (e3.trans e6) R6
      | rt d => exact fun v H6 G6 ρ6 σ6 e6 R6 r6 => (show ∀ v H' G' ρ' σ', Ext G2 G' → Rel c F ρ' P5 σ' H' G' → c.rep G' v d → B.rt v H' from q5) v H6 G6 ρ6 σ6 (e3.trans e6) R6 r6
end
/-- from derivations for every a to one reading -/
theorem pss_ex {X : Cx} {b : List Stmt} {ι : Sort _} {t : ι → TS} (h : ∀ a, PSs X b (t a)) : PSs X b (fun B σ H => ∃ a, t a B σ H) := ⟨fun pins s σ H D I ⟨a, q⟩ => (h a).run pins s σ H D I q⟩
theorem pt_ex {X : Cx} {e : Expr} {ι : Sort _} {t : ι → TT} (h : ∀ a, PT X e (t a)) : PT X e (fun σ H Q => ∃ a, t a σ H Q) := ⟨fun pins s σ H Q I ⟨a, q⟩ => (h a).run pins s σ H Q I q⟩
theorem pg_ex {X : Cx} {e : Expr} {ι : Sort _} {t : ι → TG} (h : ∀ a, PG X e (t a)) : PG X e (fun v σ H Q => ∃ a, t a v σ H Q) := ⟨fun pins s σ H v u Q I r ⟨a, q⟩ => (h a).run pins s σ H v u Q I r q⟩
theorem pss_for {c : Cn} {F : Fr} {W : WX} {X : Cx} {α : Type} {E : α → List Sl} {body : List Stmt} {t : α → D → Option (List Sl)} {b : α → D → M (Fl α)} (h : ∀ a d ρ', t a d = some ρ' → PSs X body (rdS c F W ρ' E (b a d))) :
    PSs X body (fun B σ H => ∃ a d ρ', t a d = some ρ' ∧ rdS c F W ρ' E (b a d) B σ H) := ⟨fun pins s σ H D I ⟨a, d, ρ', e, q⟩ => (h a d ρ' e).run pins s σ H D I q⟩

/-- the parts of a value that a target takes -/
def un2 {β : Type} (k : D → D → M β) : D → M β
  | .tup [x, y] => k x y
  | _ => M.no
def un3 {β : Type} (k : D → D → D → M β) : D → M β
  | .tup [x, y, z] => k x y z
  | _ => M.no
theorem un2_no {β : Type} {k : D → D → M β} {ρ : List Sl} {i j : Nat} {d : D} (h : tupS ρ [i, j] d = none) : un2 k d = M.no := by
  cases d with
  | tup ds => match ds, h with
    | [], _ => rfl
    | [_], _ => rfl
    | [_, _], h => exact nomatch h
    | _ :: _ :: _ :: _, _ => rfl
  | _ => rfl
theorem un3_no {β : Type} {k : D → D → D → M β} {ρ : List Sl} {i j l : Nat} {d : D} (h : tupS ρ [i, j, l] d = none) : un3 k d = M.no := by
  cases d with
  | tup ds => match ds, h with
    | [], _ => rfl
    | [_], _ => rfl
    | [_, _], _ => rfl
    | [_, _, _], h => exact nomatch h
    | _ :: _ :: _ :: _ :: _, _ => rfl
  | _ => rfl
theorem tupS2 {ρ ρ' : List Sl} {i j : Nat} {d : D} (h : tupS ρ [i, j] d = some ρ') : ∃ x y, d = .tup [x, y] ∧ ρ' = (ρ.set i (.v x)).set j (.v y) := by
  cases d with
  | tup ds => match ds, h with
    | [], h => exact nomatch h
    | [_], h => exact nomatch h
    | [x, y], h => cases h; exact ⟨x, y, rfl, rfl⟩
    | _ :: _ :: _ :: _, h => exact nomatch h
  | _ => exact nomatch h
theorem tupS3 {ρ ρ' : List Sl} {i j l : Nat} {d : D} (h : tupS ρ [i, j, l] d = some ρ') : ∃ x y z, d = .tup [x, y, z] ∧ ρ' = ((ρ.set i (.v x)).set j (.v y)).set l (.v z) := by
  cases d with
  | tup ds => match ds, h with
    | [], h => exact nomatch h
    | [_], h => exact nomatch h
    | [_, _], h => exact nomatch h
    | [x, y, z], h => cases h; exact ⟨x, y, z, rfl, rfl⟩
    | _ :: _ :: _ :: _ :: _, h => exact nomatch h
  | _ => exact nomatch h

/-! ### list comprehensions -/
/-- nothing may be raised -/
def noEx {α : Type} (m : M α) : M α := fun P => match m P with
  | .ok a p => .ok a p
  | _ => .no
theorem out_noEx {α : Type} {m : M α} {P : Pot} {ok : α → Pot → Prop} {ex : Ex → Pot → Prop} (h : out (noEx m) P ok ex) : out m P ok (fun _ _ => False) := by
  unfold out noEx at *
  cases e : m P <;> rw [e] at h <;> exact h
theorem noEx_ok {α : Type} {m : M α} {P P' : Pot} {a : α} (h : m P = .ok a P') : noEx m P = .ok a P' := by unfold noEx; rw [h]
def compF (t : D → M Bool) (e : D → M D) : List D → M (List D)
  | [] => Pure.pure []
  | d :: ds => noEx (t d) >>= fun x => if x = true then noEx (e d) >>= fun y => noEx (compF t e ds) >>= fun ys => Pure.pure (y :: ys) else compF t e ds
/-- behind what is made so far -/
def compC (acc : List D) (m : M (List D)) : M D := noEx m >>= fun ys => mkL (acc ++ ys)
def wipeS (ρ : List Sl) : List Nat → List Sl
  | [] => ρ
  | i :: is => (wipeS ρ is).set i .un
/-- a comprehension's target by its reading -/
def Tgt (c : Cn) (g : TG) (t : List Sl → D → Option (List Sl)) (vs : List Nat) : Prop := ∀ (F : Fr) (ρ ρ' : List Sl) (P : Pot) (σ : L2.St) (H G : Hp) (v : V) (d : D) (Q : L2.St → Hp → Prop), Rel c F ρ P σ H G → c.rep G v d → t ρ d = some ρ' →
  (∀ σ', Rel c F ρ' P σ' H G → wipe σ' vs = wipe σ vs → Q σ' H) → g v σ H Q
theorem wipe_nil (σ : L2.St) : wipe σ [] = σ := rfl
section
variable {c : Cn} {F : Fr} {W : WX} {ρ : List Sl} {X : Cx}
theorem Rel.un {P : Pot} {σ : L2.St} {H G : Hp} {i : Nat} {x : Option V} (R : Rel c F ρ P σ H G) : Rel c F (ρ.set i .un) P (σ.set i x) H G := by
  refine ⟨R.post, by simp [R.len], fun j s y a b => ?_, fun j j' k k' a h1 h2 h3 h4 => ?_⟩
  · rw [List.getElem?_set] at a b
    by_cases e : i = j
    · rw [if_pos e] at a
      split at a
      · cases a; exact True.intro
      · cases a
    · rw [if_neg e] at a b
      exact R.sl j s y a b
  · have ne : ∀ {m : Nat} {kk : Cel}, (ρ.set i Sl.un)[m]? = some (.o kk) → i ≠ m := fun {m kk} h e => by
      rw [List.getElem?_set, if_pos e] at h
      split at h <;> cases h
    have n1 := ne h1
    have n2 := ne h2
    rw [List.getElem?_set_ne n1] at h1 h3
    rw [List.getElem?_set_ne n2] at h2 h4
    exact R.ap j j' k k' a h1 h2 h3 h4
end

/-- own objects are not seen within -/
def unO : Sl → Sl
  | .o _ => .un
  | s => s
theorem wipe_set {σ : L2.St} {i : Nat} {x : Option V} : ∀ {vs : List Nat}, i ∈ vs → wipe (σ.set i x) vs = wipe σ vs
  | [], h => absurd h (by simp)
  | v :: vs, h => by
    show (wipe (σ.set i x) vs).set v none = (wipe σ vs).set v none
    by_cases hm : i ∈ vs
    · rw [wipe_set hm]
    · have e : v = i := by
        rcases List.mem_cons.mp h with e | e
        · exact e.symm
        · exact absurd e hm
      subst e
      have out : ∀ {us : List Nat}, v ∉ us → wipe (σ.set v x) us = (wipe σ us).set v x := by
        intro us
        induction us with
        | nil => intro _; rfl
        | cons u us ih =>
          intro hu
          have h1 : u ≠ v := fun e => hu (by rw [e]; exact List.mem_cons_self)
          show (wipe (σ.set v x) us).set u none = ((wipe σ us).set u none).set v x
          rw [ih fun m => hu (List.mem_cons_of_mem _ m), List.set_comm _ _ (Ne.symm h1)]
      rw [out hm, List.set_set]
theorem wipe_idem {σ : L2.St} (vs : List Nat) : wipe (wipe σ vs) vs = wipe σ vs := by
  have key : ∀ us : List Nat, (∀ i ∈ us, i ∈ vs) → wipe (wipe σ us) vs = wipe σ vs := by
    intro us
    induction us with
    | nil => intro _; rfl
    | cons u us ih =>
      intro h
      show wipe ((wipe σ us).set u none) vs = _
      rw [wipe_set (h u List.mem_cons_self)]
      exact ih fun i hi => h i (List.mem_cons_of_mem _ hi)
  exact key vs fun _ h => h
abbrev W0 : WX := fun _ _ _ _ => False
/-- the tests of a comprehension -/
def TestOk (c : Cn) (tt : TT) (t : D → Option (List Sl)) (mt : D → M Bool) : Prop := ∀ (F : Fr) (d : D) (ρ' : List Sl) (P : Pot) (σ : L2.St) (H G : Hp) (Q : Bool → Hp → Prop), Rel c F ρ' P σ H G → t d = some ρ' →
  out (mt d) P (fun b P' => ∀ H' G', Ext G G' → Rel c F ρ' P' σ H' G' → Q b H') (fun _ _ => False) → tt σ H Q
section
variable {c : Cn} {F : Fr} {W : WX} {ρ : List Sl} {X : Cx}
theorem Rel.sub {P : Pot} {σ : L2.St} {H G : Hp} (R : Rel c F ρ P σ H G) : Rel c ⟨G, H, F.ap⟩ (ρ.map unO) P σ H G := by
  have no : ∀ (i : Nat) k, (ρ.map unO)[i]? ≠ some (.o k) := fun i k e => by
    rw [List.getElem?_map] at e
    cases h : ρ[i]? with
    | none => rw [h] at e; cases e
    | some s => rw [h] at e; cases s <;> cases e
  refine ⟨R.post.refl', by simpa using R.len, fun i s x a b => ?_, fun i j k k' a h1 _ _ _ => absurd h1 (no i k)⟩
  rw [List.getElem?_map] at a
  cases h : ρ[i]? with
  | none => rw [h] at a; cases a
  | some s' =>
    rw [h] at a
    have z := R.sl i s' x h b
    cases s' <;> cases a
    · exact True.intro
    · exact z
    · exact True.intro
    · exact z
theorem Rel.wipe {P : Pot} {σ : L2.St} {H G : Hp} (R : Rel c F ρ P σ H G) : ∀ vs : List Nat, Rel c F (wipeS ρ vs) P (L2.wipe σ vs) H G
  | [] => R
  | v :: vs => (Rel.wipe R vs).un
theorem tgt_name {i : Nat} {vs : List Nat} (h : i ∈ vs) : Tgt c (gName i) (fun ρ d => some (ρ.set i (.v d))) vs := by
  intro F ρ ρ' P σ H G v d Q R r e q
  cases e
  exact q _ (R.set r) (wipe_set h)
theorem names_tgt {P : Pot} {vs : List Nat} : ∀ {is : List Nat} {ρ ρ' : List Sl} {σ : L2.St} {H G : Hp} {xs : List V} {ds : List D} {Q : L2.St → Hp → Prop}, (∀ i ∈ is, i ∈ vs) → Rel c F ρ P σ H G → c.reps G xs ds → setAll ρ is ds = some ρ' →
    (∀ σ', Rel c F ρ' P σ' H G → wipe σ' vs = wipe σ vs → Q σ' H) → gNames is xs σ H Q
  | [], ρ, ρ', σ, H, G, xs, [], Q, _, R, r, e, q => by cases e; exact ⟨r.nil_of', q σ R rfl⟩
  | i :: is, ρ, ρ', σ, H, G, [], d :: ds, Q, _, R, r, e, q => by have := r.1; simp at this
  | i :: is, ρ, ρ', σ, H, G, v :: xs, d :: ds, Q, hm, R, r, e, q => ⟨v, xs, rfl, names_tgt (fun j hj => hm j (List.mem_cons_of_mem _ hj)) (R.set r.head) r.tail e fun σ' R' w => q σ' R' (w.trans (wipe_set (hm i List.mem_cons_self)))⟩
  | [], _, _, _, _, _, _, _ :: _, _, _, _, _, e, _ => nomatch e
  | _ :: _, _, _, _, _, _, _, [], _, _, _, _, e, _ => nomatch e
theorem tgt_tup {is : List Nat} {vs : List Nat} {K : PySem.W.Frag} (hK : K = c.K) (h : ∀ i ∈ is, i ∈ vs) : Tgt c (gTup K is.length (gNames is)) (fun ρ d => tupS ρ is d) vs := by
  intro F ρ ρ' P σ H G v d Q R r e q
  cases d with
  | tup ds =>
    cases r with
    | tup ha hl hr => rw [← hK] at ha; exact ⟨_, _, rfl, Evl.ex_t R.post.le ha, hl.trans (setAll_len e), names_tgt h R ⟨hl, hr⟩ e q⟩
  | _ => exact nomatch e
theorem test_yes {t : D → Option (List Sl)} : TestOk c tYes t (fun _ => Pure.pure true) := fun F d ρ' P σ H G Q R e q => q H G (Ext.refl _) R
theorem test_rd {t : D → Option (List Sl)} {mt : D → M Bool} : TestOk c (fun σ H Q => ∃ F d ρ', t d = some ρ' ∧ rdT c F W0 ρ' (mt d) σ H Q) t mt := fun F d ρ' P σ H G Q R e q =>
  ⟨F, d, ρ', e, P, G, R, out_mono q (fun _ _ z => z) fun _ _ z => z.elim⟩
theorem out_noEx_bind {α β : Type} {m : M α} {k : α → M β} {P : Pot} {ok : β → Pot → Prop} {ex : Ex → Pot → Prop} (h : out (noEx m >>= k) P ok ex) : ∃ a p, m P = .ok a p ∧ out (k a) p ok ex := by
  have h := out_bind.mp h
  unfold out noEx at h
  cases e : m P with
  | ok a p => rw [e] at h; exact ⟨a, p, rfl, h⟩
  | ex x p => rw [e] at h; exact h.elim
  | no => rw [e] at h; exact h.elim
theorem out_eq {α : Type} {m : M α} {P p : Pot} {a : α} {ok : α → Pot → Prop} {ex : Ex → Pot → Prop} (h : m P = .ok a p) : out m P ok ex ↔ ok a p := by unfold out; rw [h]
theorem noEx_noEx {α : Type} (m : M α) : noEx (noEx m) = noEx m := by
  funext P
  unfold noEx
  cases m P <;> rfl
theorem lc_rd {wi : TI} {g : TG} {tt : TT} {vs : List Nat} {mi : M (List D)} {t : List Sl → D → Option (List Sl)} {mt : D → M Bool} {me : D → M D} (hw : ∀ σ H R, rdI c F W ρ mi σ H R → wi σ H R) (tg : Tgt c g t vs)
    (hno : ∀ ρ d, t ρ d = none → mt d = M.no) (htt : TestOk c tt (t (wipeS (ρ.map unO) vs)) mt) {σ : L2.St} {H : Hp} {Q : VK} (q : rdE c F W ρ (mi >>= fun ds => noEx (compF mt me ds) >>= mkL) σ H Q) :
    tLc wi g tt (fun σ H Q => ∃ F d ρ', t (wipeS (ρ.map unO) vs) d = some ρ' ∧ rdE c F W0 ρ' (me d) σ H Q) vs σ H Q := by
  obtain ⟨P, G, R, q⟩ := q
  refine hw _ _ _ ⟨P, G, R, out_mono (out_bind.mp q) (fun ds P1 q1 J H1 G1 e1 R1 go D hD => ?_) fun _ _ z => z⟩
  have ow := R1.own_at hD
  have h0 := R1.post.h0 hD
  have na := R1.ne_ap hD
  refine ⟨fun i m Hx => m = ds.length - i ∧ i ≤ ds.length ∧ ∃ (acc : List V) (ad : List DL.D) (P' : Pot) (G' : Hp), Ext G1 G' ∧ Rel c F ρ P' σ Hx G' ∧ Hx D = some (.lst acc) ∧ G' D = none ∧ c.reps G' acc ad ∧
    out (noEx (compF mt me (ds.drop i)) >>= fun ys => mkL (ad ++ ys)) P' (fun d P' => ∀ v H' G'', Ext G' G'' → Rel c F ρ P' σ H' G'' → c.rep G'' v d → Q v H') (exW c F W P' G' σ),
    ⟨ds.length, by simp, Nat.zero_le _, [], [], P1, G1, Ext.refl _, R1.newM hD, upd_same, R1.post.g_none hD, Reps.nil, out_mono q1 (fun d p z v H' G'' e => z v H' G'' (e1.trans e)) fun _ _ z => exW_le e1 z⟩, ?_⟩
  rintro i m Hx ⟨rfl, hi, acc, ad, P2, G2, e2, R2, hx, gx, ra, q2⟩
  by_cases hl : i < ds.length
  · have hd : ds[i]? = some ds[i] := List.getElem?_eq_getElem hl
    have S2 := R2.sub
    obtain ⟨g1, g2⟩ := (go _ _ i P2 σ Hx G2 e2 S2).2 _ hd
    rw [List.drop_eq_getElem_cons hl] at q2
    obtain ⟨ys, p, hy, q3⟩ := out_noEx_bind q2
    refine .inr ⟨g1, fun H' => ∃ (acc : List V) (ad : List DL.D) (P' : Pot) (G' : Hp), Ext G1 G' ∧ Rel c F ρ P' σ H' G' ∧ H' D = some (.lst acc) ∧ G' D = none ∧ c.reps G' acc ad ∧
      out (noEx (compF mt me (ds.drop (i + 1))) >>= fun ys => mkL (ad ++ ys)) P' (fun d P' => ∀ v H' G'', Ext G' G'' → Rel c F ρ P' σ H' G'' → c.rep G'' v d → Q v H') (exW c F W P' G' σ), fun H' z => ⟨ds.length - (i + 1), by omega, rfl, hl, z⟩, fun x H3 y => ?_⟩
    obtain ⟨G3, e3, R3, r3⟩ := g2 x H3 y
    -- what one turn gives
    have hy' : (noEx (mt ds[i]) >>= fun x => if x = true then noEx (me ds[i]) >>= fun y => noEx (compF mt me (ds.drop (i + 1))) >>= fun ys => Pure.pure (y :: ys) else compF mt me (ds.drop (i + 1))) P2 = .ok ys p := hy
    have o1 : out (noEx (mt ds[i]) >>= fun x => if x = true then noEx (me ds[i]) >>= fun y => noEx (compF mt me (ds.drop (i + 1))) >>= fun ys => Pure.pure (y :: ys) else compF mt me (ds.drop (i + 1))) P2 (fun z zp => z = ys ∧ zp = p) (fun _ _ => False) := (out_eq hy').mpr ⟨rfl, rfl⟩
    obtain ⟨b, P3, hb, o2⟩ := out_noEx_bind o1
    cases ht : t (wipeS (ρ.map unO) vs) ds[i] with
    | none =>
      rw [hno _ _ ht] at hb
      cases hb
    | some ρ' =>
      refine tg _ _ ρ' P2 _ H3 G3 x ds[i] _ (R3.wipe vs) r3 ht fun σ4 R4 w4 => ⟨w4.trans (wipe_idem vs), ?_⟩
      refine htt _ _ ρ' P2 σ4 H3 G3 _ R4 ht ((out_eq hb).mpr fun H5 G5 e5 R5 => ?_)
      cases b with
      | false =>
        have hz : compF mt me (ds.drop (i + 1)) P3 = .ok ys p := by
          have : out (compF mt me (ds.drop (i + 1))) P3 (fun z zp => z = ys ∧ zp = p) (fun _ _ => False) := o2
          unfold out at this
          cases k : compF mt me (ds.drop (i + 1)) P3 with
          | ok a b => rw [k] at this; rw [this.1, this.2]
          | ex _ _ => rw [k] at this; exact this.elim
          | no => rw [k] at this; exact this.elim
        have A5 := R2.after R5.post
        have e25 : Ext G2 G5 := R5.post.ext
        have g5 : G5 D = none := by
          cases z : G5 D with
          | none => rfl
          | some u =>
            rcases R5.post.new D (by rw [z]; simp) with h | h | ⟨_, h⟩
            · exact absurd gx h
            · have h : Hx D = none := h
              rw [hx] at h; cases h
            · have y := R5.post.le _ _ h
              rw [R5.post.fr D _ hx na nt_lst] at y
              cases y
        exact ⟨acc, ad, P3, G5, e2.trans e25, A5, R5.post.fr D _ hx na nt_lst, g5, ra.mono e25, out_bind.mpr ((out_eq (noEx_ok hz)).mpr (out_mono q3 (fun d p z v H' G'' e => z v H' G'' (e25.trans e)) fun _ _ z => exW_le e25 z))⟩
      | true =>
        have o3 := out_noEx_bind (show out (noEx (me ds[i]) >>= fun y => noEx (compF mt me (ds.drop (i + 1))) >>= fun ys => Pure.pure (y :: ys)) P3 (fun z zp => z = ys ∧ zp = p) (fun _ _ => False) from o2)
        obtain ⟨yd, P4, hyd, o4⟩ := o3
        obtain ⟨ys', p', hys, o5⟩ := out_noEx_bind o4
        have o5' : yd :: ys' = ys ∧ p' = p := o5
        obtain ⟨e6, e7⟩ := o5'
        subst e6 e7
        refine ⟨_, ds[i], ρ', ht, P3, G5, R5, (out_eq hyd).mpr fun v H6 G6 e6 R6 r6 => ?_⟩
        have A6 := R2.after R6.post
        have e26 : Ext G2 G6 := R6.post.ext
        have g6 : G6 D = none := by
          cases z : G6 D with
          | none => rfl
          | some u =>
            rcases R6.post.new D (by rw [z]; simp) with h | h | ⟨_, h⟩
            · exact absurd gx h
            · have h : Hx D = none := h
              rw [hx] at h; cases h
            · have y := R6.post.le _ _ h
              rw [R6.post.fr D _ hx na nt_lst] at y
              cases y
        have hx6 := R6.post.fr D _ hx na nt_lst
        have lenq : ad.length + (ys'.length + 1) ≤ sizeLine := by
          unfold mkL at q3
          by_cases z : (ad ++ yd :: ys').length ≤ sizeLine
          · simpa using z
          · rw [if_neg z] at q3; exact q3.elim
        refine ⟨acc, hx6, by rw [ra.1]; omega, acc ++ [v], ad ++ [yd], P4, G6, e2.trans e26, A6.at g6 h0 na (fun u e => by rw [hx6] at e; cases e; exact ⟨nofun, nofun⟩) ow, upd_same, g6, (ra.mono e26).append (Reps.cons r6 Reps.nil), ?_⟩
        refine out_bind.mpr ((out_eq (noEx_ok hys)).mpr ?_)
        have ea : ad ++ [yd] ++ ys' = ad ++ yd :: ys' := by simp
        rw [ea]
        exact out_mono q3 (fun d p z v H' G'' e => z v H' G'' (e26.trans e)) fun _ _ z => exW_le e26 z
  · have ei : i = ds.length := by omega
    subst ei
    refine .inl ⟨(go _ _ _ P2 σ Hx G2 e2 R2.sub).1 rfl, ?_⟩
    rw [List.drop_eq_nil_of_le (Nat.le_refl _)] at q2
    obtain ⟨ys, p, hy, q3⟩ := out_noEx_bind q2
    cases hy
    rw [List.append_nil] at q3
    unfold mkL at q3
    by_cases z : ad.length ≤ sizeLine
    · rw [if_pos z] at q3
      obtain ⟨R3, e3⟩ := R2.freeze hx nt_lst h0 na ow gx
      exact q3 (.ref D) Hx _ e3 R3 (.lst upd_same ra.1 fun i v d a b => (ra.2 i v d a b).mono e3)
    · rw [if_neg z] at q3; exact q3.elim
end

section
variable {c : Cn} {F : Fr} {W : WX} {ρ : List Sl} {X : Cx}
/-- the reading of an element, whatever the target took -/
abbrev rdElt (c : Cn) (t : D → Option (List Sl)) (me : D → M D) : TE := fun σ H Q => ∃ F d ρ', t d = some ρ' ∧ rdE c F W0 ρ' (me d) σ H Q
abbrev rdTst (c : Cn) (t : D → Option (List Sl)) (mt : D → M Bool) : TT := fun σ H Q => ∃ F d ρ', t d = some ρ' ∧ rdT c F W0 ρ' (mt d) σ H Q
theorem pe_elt {X : Cx} {e : Expr} {t : D → Option (List Sl)} {me : D → M D} (h : ∀ F d ρ', t d = some ρ' → PE X e (rdE c F W0 ρ' (me d))) : PE X e (rdElt c t me) := ⟨fun pins s σ H Q I ⟨F, d, ρ', e, q⟩ => (h F d ρ' e).run pins s σ H Q I q⟩
theorem pt_tst {X : Cx} {e : Expr} {t : D → Option (List Sl)} {mt : D → M Bool} (h : ∀ F d ρ', t d = some ρ' → PT X e (rdT c F W0 ρ' (mt d))) : PT X e (rdTst c t mt) := ⟨fun pins s σ H Q I ⟨F, d, ρ', e, q⟩ => (h F d ρ' e).run pins s σ H Q I q⟩
/-- [e for tg in it] -/
theorem de_lc {elt tg iter : Expr} {ifs : List Expr} {scope : Scope} {own : List (Str × Nat)} {pos : Pos} {g : TG} {tt : TT} {mi : M (List D)} {t : List Sl → D → Option (List Sl)} {mt : D → M Bool} {me : D → M D} (hc : X.calm = true) (hN : X.N.Nodup) (ok : BlkOk X.N X.env.scope scope own)
    (hi : PI X tg iter (rdI c F W ρ mi)) (tgt : Tgt c g t (own.map (·.2))) (hno : ∀ ρ d, t ρ d = none → mt d = M.no) (htt : TestOk c tt (t (wipeS (ρ.map unO) (own.map (·.2)))) mt)
    (hg : ∀ (s : Shared) (H : Hp) (C : Addr) (cl : List (Str × Addr)) (fp : List Addr), PG (X.blk s H scope (compEnvC scope cl C X.env) fp) tg g) (ht : ∀ (s : Shared) (H : Hp) (C : Addr) (cl : List (Str × Addr)) (fp : List Addr), PTs (X.blk s H scope (compEnvC scope cl C X.env) fp) ifs tt)
    (he : ∀ (s : Shared) (H : Hp) (C : Addr) (cl : List (Str × Addr)) (fp : List Addr), PE (X.blk s H scope (compEnvC scope cl C X.env) fp) elt (rdElt c (t (wipeS (ρ.map unO) (own.map (·.2)))) me)) (hs : ∀ x, foldedSetIterable iter X.env x = pure x := by intro _; rfl) :
    PE X (.ListComp elt [⟨tg, iter, ifs, 0⟩] scope pos) (rdE c F W ρ (mi >>= fun ds => noEx (compF mt me ds) >>= mkL)) :=
  pe_by (pe_lc hc hN hi ok hg ht he hs) fun σ H Q q => lc_rd (fun _ _ _ z => z) tgt hno htt q
/-- name = [e for tg in it], on one line -/
theorem ds_setLc {i : Nat} {y : Str} {py : Pos} {elt tg iter : Expr} {ifs : List Expr} {scope : Scope} {own : List (Str × Nat)} {pos spos : Pos} {g : TG} {tt : TT} {mi : M (List D)} {t : List Sl → D → Option (List Sl)} {mt : D → M Bool} {me : D → M D} (hc : X.calm = true) (hN : X.N.Nodup)
    (hy : X.N[i]? = some y) (hyl : X.env.scope.names.lookup y = some .local) (hsw : swapsWith (.ListComp elt [⟨tg, iter, ifs, 0⟩] scope pos) (some (.Name y py)) spos.line X.env = pure true) (ok : BlkOk X.N X.env.scope scope own)
    (hi : PI X tg iter (rdI c F W ρ mi)) (tgt : Tgt c g t (own.map (·.2))) (hno : ∀ ρ d, t ρ d = none → mt d = M.no) (htt : TestOk c tt (t (wipeS (ρ.map unO) (own.map (·.2)))) mt)
    (hg : ∀ (s : Shared) (H : Hp) (C : Addr) (cl : List (Str × Addr)) (fp : List Addr), PG (X.blk s H scope (compEnvC scope cl C X.env) fp) tg g) (ht : ∀ (s : Shared) (H : Hp) (C : Addr) (cl : List (Str × Addr)) (fp : List Addr), PTs (X.blk s H scope (compEnvC scope cl C X.env) fp) ifs tt)
    (he : ∀ (s : Shared) (H : Hp) (C : Addr) (cl : List (Str × Addr)) (fp : List Addr), PE (X.blk s H scope (compEnvC scope cl C X.env) fp) elt (rdElt c (t (wipeS (ρ.map unO) (own.map (·.2)))) me)) (hs : ∀ x, foldedSetIterable iter X.env x = pure x := by intro _; rfl) :
    PS X (.Assign [.Name y py] (.ListComp elt [⟨tg, iter, ifs, 0⟩] scope pos) spos) (rdS c F W ρ (fun d => ρ.set i (.v d)) ((mi >>= fun ds => noEx (compF mt me ds) >>= mkL) >>= fun d => Pure.pure (.nx d))) := by
  refine ps_by (ps_setLc hc hN hy hyl hsw hi ok hg ht he hs) fun B σ H ⟨P, G, R, q⟩ => ?_
  refine lc_rd (W := W) (fun _ _ _ z => z) tgt hno htt ⟨P, G, R, out_mono (out_bind.mp q) (fun d P1 q1 v H1 G1 e1 R1 r1 => ?_) fun _ _ z => exS.w z⟩
  have q' : ∀ σ' H' G', Ext G G' → Rel c F (ρ.set i (.v d)) P1 σ' H' G' → B.nx σ' H' := q1
  exact q' _ H1 G1 e1 (R1.set r1)
end
end DL

namespace DL
open PySem PySem.Spec PyProof.Rows L2

/-! ### data without objects of one's own -/
mutual
def toPy : D → Option PyData
  | .non => some .none
  | .bl b => some (.bool b)
  | .int i => some (.int i)
  | .str x => some (.str x)
  | .lst xs => (toPys xs).map .list
  | .tup xs => (toPys xs).map .tuple
  | _ => none
def toPys : List D → Option (List PyData)
  | [] => some []
  | x :: xs => match toPy x, toPys xs with
    | some d, some ds => some (d :: ds)
    | _, _ => none
end
section
variable {c : Cn} {G H : Hp}
mutual
theorem dp_of (e : Ext G H) : ∀ (d : D) (v : V) (p : PyData), c.rep G v d → toPy d = some p → Dp c.K H v p
  | .non, v, p, r, h => by cases r; simp [toPy] at h; subst h; exact .non
  | .bl b, v, p, r, h => by cases r; simp [toPy] at h; subst h; exact .bl b
  | .int b, v, p, r, h => by cases r; simp [toPy] at h; subst h; exact .int b
  | .str b, v, p, r, h => by cases r; simp [toPy] at h; subst h; exact .str b
  | .lst ds, v, p, r, h => by
    simp only [toPy, Option.map_eq_some_iff] at h
    obtain ⟨ps, h, rfl⟩ := h
    cases r with
    | lst ha hl hr => exact .lst (SqL.of (e _ _ ha)) (dps_of e ds _ ps ⟨hl, hr⟩ h)
  | .tup ds, v, p, r, h => by
    simp only [toPy, Option.map_eq_some_iff] at h
    obtain ⟨ps, h, rfl⟩ := h
    cases r with
    | tup ha hl hr => exact .tup (Evl.ex_t e ha) (dps_of e ds _ ps ⟨hl, hr⟩ h)
  | .scr _, v, p, r, h => by simp [toPy] at h
  | .dic _, v, p, r, h => by simp [toPy] at h
  | .ins _ _, v, p, r, h => by simp [toPy] at h
  | .cls _, v, p, r, h => by simp [toPy] at h
theorem dps_of (e : Ext G H) : ∀ (ds : List D) (vs : List V) (ps : List PyData), c.reps G vs ds → toPys ds = some ps → DpAll c.K H vs ps
  | [], vs, ps, r, h => by
    simp [toPys] at h
    subst h
    rw [r.nil_of']
    exact .nil
  | d :: ds, [], ps, r, h => by have := r.1; simp at this
  | d :: ds, v :: vs, ps, r, h => by
    unfold toPys at h
    cases h1 : toPy d with
    | none => rw [h1] at h; cases h
    | some q =>
      cases h2 : toPys ds with
      | none => rw [h1, h2] at h; cases h
      | some qs =>
        rw [h1, h2] at h
        cases h
        exact .cons (dp_of e d v q r.head h1) (dps_of e ds vs qs r.tail h2)
end
end

/-! ### operators -/
section
variable {c : Cn} {X : Cx}
def addD : D → D → M D
  | .int i, .int j => Pure.pure (.int (i + j))
  | .str a, .str b => if a.length + b.length ≤ sizeLine then Pure.pure (.str (a ++ b)) else M.no
  | .lst a, .lst b => if a.length + b.length ≤ sizeLine then Pure.pure (.lst (a ++ b)) else M.no
  | .tup a, .tup b => if a.length + b.length ≤ sizeLine then Pure.pure (.tup (a ++ b)) else M.no
  | _, _ => M.no
def rAddD (K : PySem.W.Frag) : R2 := fun x y H Q => (rI0 (fun i j => .int (i + j)) x y H Q ∨ (∃ i j, x = .str i ∧ y = .str j ∧ i.length + j.length ≤ sizeLine ∧ Q (.str (i ++ j)) H)) ∨ (rCat x y H Q ∨ rCatA K x y H Q)
theorem opr_add : OpR X (binaryOp .Add) (rAddD X.K) := (op_add.or op_add_str).or (op_cat.or op_catA)
theorem opd_add : OpD c (rAddD c.K) addD := by
  intro F ρ W P σ H G x y dx dy Q R rx ry q
  cases dx <;> cases dy <;> try exact q.elim
  · rw [rx.int_of, ry.int_of]
    exact .inl (.inl ⟨_, _, rfl, rfl, q _ H G (Ext.refl _) R (.int _)⟩)
  · rename_i a b
    unfold addD at q
    by_cases z : a.length + b.length ≤ sizeLine
    · simp only [if_pos z] at q
      rw [rx.str_of, ry.str_of]
      exact .inl (.inr ⟨_, _, rfl, rfl, z, q _ H G (Ext.refl _) R (.str _)⟩)
    · simp only [if_neg z] at q; exact q.elim
  · rename_i a b
    unfold addD at q
    by_cases z : a.length + b.length ≤ sizeLine
    · simp only [if_pos z] at q
      cases rx with
      | lst ha hl hr =>
        cases ry with
        | lst hb hl2 hr2 =>
          refine .inr (.inl ⟨_, _, _, _, rfl, rfl, R.post.le _ _ ha, R.post.le _ _ hb, by rw [hl, hl2]; exact z, fun p hp => ?_⟩)
          obtain ⟨R2, e2⟩ := R.new hp nt_lst
          have rr : c.reps G _ (a ++ b) := Reps.append ⟨hl, hr⟩ ⟨hl2, hr2⟩
          exact q _ _ _ e2 R2 (.lst upd_same rr.1 fun i v d a b => (rr.2 i v d a b).mono e2)
    · simp only [if_neg z] at q; exact q.elim
  · rename_i a b
    unfold addD at q
    by_cases z : a.length + b.length ≤ sizeLine
    · simp only [if_pos z] at q
      cases rx with
      | tup ha hl hr =>
        rename_i aa va
        cases ry with
        | tup hb hl2 hr2 =>
          rename_i ab vb
          refine .inr (.inr ⟨_, _, _, _, rfl, rfl, Evl.ex_t R.post.le ha, Evl.ex_t R.post.le hb, by rw [hl, hl2]; exact z, fun e => ?_, fun _ e => ?_, fun _ _ p hp => ?_⟩)
          · subst e
            have : a = [] := by cases a with
              | nil => rfl
              | cons _ _ => simp at hl
            subst this
            exact q _ H G (Ext.refl _) R (.tup hb hl2 hr2)
          · subst e
            have : b = [] := by cases b with
              | nil => rfl
              | cons _ _ => simp at hl2
            subst this
            exact q _ H G (Ext.refl _) R (by rw [List.append_nil]; exact .tup ha hl hr)
          · obtain ⟨R2, e2⟩ := R.new hp nt_tup
            have rr : c.reps G _ (a ++ b) := Reps.append ⟨hl, hr⟩ ⟨hl2, hr2⟩
            exact q _ _ _ e2 R2 (.tup (SqT.of upd_same) rr.1 fun i v d a b => (rr.2 i v d a b).mono e2)
    · simp only [if_neg z] at q; exact q.elim
/-- ints alone -/
def intD (C : Int → Int → Prop) [∀ i j, Decidable (C i j)] (g : Int → Int → D) : D → D → M D
  | .int i, .int j => if C i j then Pure.pure (g i j) else M.no
  | _, _ => M.no
theorem opd_int {C : Int → Int → Prop} [∀ i j, Decidable (C i j)] {g : Int → Int → D} {gv : Int → Int → V} (hg : ∀ G i j, c.rep G (gv i j) (g i j)) : OpD c (rI C gv) (intD C g) := by
  intro F ρ W P σ H G x y dx dy Q R rx ry q
  cases dx <;> cases dy <;> try exact q.elim
  rename_i i j
  unfold intD at q
  by_cases z : C i j
  · simp only [if_pos z] at q
    rw [rx.int_of, ry.int_of]
    exact ⟨i, j, rfl, rfl, z, q _ H G (Ext.refl _) R (hg G i j)⟩
  · simp only [if_neg z] at q; exact q.elim
def intD0 (g : Int → Int → D) : D → D → M D
  | .int i, .int j => Pure.pure (g i j)
  | _, _ => M.no
theorem opd_int0 {g : Int → Int → D} {gv : Int → Int → V} (hg : ∀ G i j, c.rep G (gv i j) (g i j)) : OpD c (rI0 gv) (intD0 g) := by
  intro F ρ W P σ H G x y dx dy Q R rx ry q
  cases dx <;> cases dy <;> try exact q.elim
  rename_i i j
  rw [rx.int_of, ry.int_of]
  exact ⟨i, j, rfl, rfl, q _ H G (Ext.refl _) R (hg G i j)⟩
def subD : D → D → M D := intD0 fun i j => .int (i - j)
theorem opd_sub : OpD c (rI0 fun i j => .int (i - j)) subD := opd_int0 fun _ _ _ => .int _
instance {i j : Int} : Decidable (CMulX i j) := by unfold CMulX; infer_instance
instance {i j : Int} : Decidable (CDivW i j) := by unfold CDivW; infer_instance
def mulD : D → D → M D
  | .int i, .int j => if CMulX i j then Pure.pure (.int (i * j)) else M.no
  | .lst xs, .int k => if -(2 ^ 63) ≤ k ∧ k < 2 ^ 63 ∧ xs.length * k.toNat ≤ sizeLine then Pure.pure (.lst (List.replicate k.toNat xs).flatten) else M.no
  | _, _ => M.no
theorem Reps.rep {G : Hp} {vs : List V} {ds : List D} (h : c.reps G vs ds) : ∀ k : Nat, c.reps G (List.replicate k vs).flatten (List.replicate k ds).flatten
  | 0 => Reps.nil
  | k + 1 => by
    rw [List.replicate_succ, List.replicate_succ, List.flatten_cons, List.flatten_cons]
    exact h.append (Reps.rep h k)
theorem opr_mul : OpR X (binaryOp .Mult) (fun x y H Q => rI CMulX (fun i j => .int (i * j)) x y H Q ∨ rRep x y H Q) := op_mulX.or op_rep
theorem opd_mul : OpD c (fun x y H Q => rI CMulX (fun i j => .int (i * j)) x y H Q ∨ rRep x y H Q) mulD := by
  intro F ρ W P σ H G x y dx dy Q R rx ry q
  cases dx <;> cases dy <;> try exact q.elim
  · rename_i i j
    unfold mulD at q
    by_cases z : CMulX i j
    · simp only [if_pos z] at q
      rw [rx.int_of, ry.int_of]
      exact .inl ⟨i, j, rfl, rfl, z, q _ H G (Ext.refl _) R (.int _)⟩
    · simp only [if_neg z] at q; exact q.elim
  · rename_i xs k
    unfold mulD at q
    by_cases z : -(2 ^ 63) ≤ k ∧ k < 2 ^ 63 ∧ xs.length * k.toNat ≤ sizeLine
    · simp only [if_pos z] at q
      rw [ry.int_of]
      cases rx with
      | lst ha hl hr =>
        refine .inr ⟨_, k, _, rfl, rfl, R.post.le _ _ ha, z.1, z.2.1, by rw [hl]; exact z.2.2, fun p hp => ?_⟩
        obtain ⟨R2, e2⟩ := R.new hp nt_lst
        have rr : c.reps G _ (List.replicate k.toNat xs).flatten := Reps.rep ⟨hl, hr⟩ k.toNat
        exact q _ _ _ e2 R2 (.lst upd_same rr.1 fun i v d a b => (rr.2 i v d a b).mono e2)
    · simp only [if_neg z] at q; exact q.elim
def modD : D → D → M D := intD (fun _ j => 0 < j) fun i j => .int (i % j)
theorem opd_mod : OpD c (rI (fun _ j => 0 < j) fun i j => .int (i % j)) modD := opd_int fun _ _ _ => .int _
def fdivD : D → D → M D := intD CDivW fun i j => .int (i / j)
theorem opd_fdiv : OpD c (rI CDivW fun i j => .int (i / j)) fdivD := opd_int fun _ _ _ => .int _
/-- ** : the base's bits times the exponent within the line -/
def CPowX (i j : Int) : Prop := 0 ≤ j ∧ (Builtin.Int.intBits i : Int) * j ≤ 2 ^ 27
instance {i j : Int} : Decidable (CPowX i j) := by unfold CPowX; infer_instance
theorem op_powX : OpR X (binaryOp .Pow) (rI CPowX fun i j => .int (i ^ j.toNat)) := opI fun _ _ _ _ _ _ _ hc q => pow_int hc.1 hc.2 q
def powD : D → D → M D := intD CPowX fun i j => .int (i ^ j.toNat)
theorem opd_pow : OpD c (rI CPowX fun i j => .int (i ^ j.toNat)) powD := opd_int fun _ _ _ => .int _
def andD : D → D → M D := intD0 fun i j => .int (Builtin.bitAnd i j)
theorem opd_and : OpD c (rI0 fun i j => .int (Builtin.bitAnd i j)) andD := opd_int0 fun _ _ _ => .int _
def orD : D → D → M D := intD0 fun i j => .int (Builtin.bitOr i j)
theorem opd_or : OpD c (rI0 fun i j => .int (Builtin.bitOr i j)) orD := opd_int0 fun _ _ _ => .int _
instance {i j : Int} : Decidable (CShl i j) := by unfold CShl; infer_instance
def shlD : D → D → M D := intD CShl fun i j => .int (i * 2 ^ j.toNat)
theorem opd_shl : OpD c (rI CShl fun i j => .int (i * 2 ^ j.toNat)) shlD := opd_int fun _ _ _ => .int _
def shrD : D → D → M D := intD (fun _ j => 0 ≤ j) fun i j => .int (i / 2 ^ j.toNat)
theorem opd_shr : OpD c (rI (fun _ j => 0 ≤ j) fun i j => .int (i / 2 ^ j.toNat)) shrD := opd_int fun _ _ _ => .int _
def negD : D → M D
  | .int i => Pure.pure (.int (-i))
  | _ => M.no
theorem und_neg : ∀ F ρ W P σ H G x dx Q, Rel c F ρ P σ H G → c.rep G x dx → out (negD dx) P (fun d P' => ∀ v H' G', Ext G G' → Rel c F ρ P' σ H' G' → c.rep G' v d → Q v H') (exW c F W P G σ) → rU (fun i => .int (-i)) x H Q := by
  intro F ρ W P σ H G x dx Q R rx q
  cases dx <;> try exact q.elim
  rw [rx.int_of]
  exact ⟨_, rfl, q _ H G (Ext.refl _) R (.int _)⟩
def invD : D → M D
  | .int i => Pure.pure (.int (Builtin.bitNot i))
  | _ => M.no
theorem und_inv : ∀ F ρ W P σ H G x dx Q, Rel c F ρ P σ H G → c.rep G x dx → out (invD dx) P (fun d P' => ∀ v H' G', Ext G G' → Rel c F ρ P' σ H' G' → c.rep G' v d → Q v H') (exW c F W P G σ) → rU (fun i => .int (Builtin.bitNot i)) x H Q := by
  intro F ρ W P σ H G x dx Q R rx q
  cases dx <;> try exact q.elim
  rw [rx.int_of]
  exact ⟨_, rfl, q _ H G (Ext.refl _) R (.int _)⟩

/-! ### orders -/
def ordD (p : Int → Int → Bool) (s : Str → Str → Bool) : D → D → M D
  | .int i, .int j => Pure.pure (.bl (p i j))
  | .str i, .str j => Pure.pure (.bl (s i j))
  | _, _ => M.no
def rOrd (p : Int → Int → Bool) (s : Str → Str → Bool) : R2 := fun x y H Q => rI0 (fun i j => .bl (p i j)) x y H Q ∨ ∃ i j, x = .str i ∧ y = .str j ∧ Q (.bl (s i j)) H
theorem opd_ord {p : Int → Int → Bool} {s : Str → Str → Bool} : OpD c (rOrd p s) (ordD p s) := by
  intro F ρ W P σ H G x y dx dy Q R rx ry q
  cases dx <;> cases dy <;> try exact q.elim
  · rw [rx.int_of, ry.int_of]
    exact .inl ⟨_, _, rfl, rfl, q _ H G (Ext.refl _) R (.bl _)⟩
  · rw [rx.str_of, ry.str_of]
    exact .inr ⟨_, _, rfl, rfl, q _ H G (Ext.refl _) R (.bl _)⟩
def ltS (i j : Str) : Bool := decide (i.cps.toList < j.cps.toList)
def ltD := ordD (fun i j => decide (i < j)) ltS
def leD := ordD (fun i j => decide (i ≤ j)) (fun i j => !ltS j i)
def gtD := ordD (fun i j => decide (j < i)) (fun i j => ltS j i)
def geD := ordD (fun i j => decide (j ≤ i)) (fun i j => !ltS i j)
theorem opr_lt : OpR X (compareOp .Lt) (rOrd (fun i j => decide (i < j)) ltS) := op_lt.or op_lt_str
theorem opr_le : OpR X (compareOp .LtE) (rOrd (fun i j => decide (i ≤ j)) (fun i j => !ltS j i)) := op_le.or op_le_str
theorem opr_gt : OpR X (compareOp .Gt) (rOrd (fun i j => decide (j < i)) (fun i j => ltS j i)) := op_gt.or op_gt_str
theorem opr_ge : OpR X (compareOp .GtE) (rOrd (fun i j => decide (j ≤ i)) (fun i j => !ltS i j)) := op_ge.or op_ge_str

/-! ### equality, membership -/
def eqD : D → D → M D := fun x y => match toPy x, toPy y with
  | some d, some e => if SeqAt.shaped d = true ∧ SeqAt.shaped e = true then Pure.pure (.bl (PyData.eqv d e)) else M.no
  | _, _ => M.no
def neD : D → D → M D := fun x y => match toPy x, toPy y with
  | some d, some e => if SeqAt.shaped d = true ∧ SeqAt.shaped e = true then Pure.pure (.bl (!PyData.eqv d e)) else M.no
  | _, _ => M.no
theorem opd_eq : OpD c (rEqD c.K) eqD := by
  intro F ρ W P σ H G x y dx dy Q R rx ry q
  unfold eqD at q
  cases h1 : toPy dx with
  | none => rw [h1] at q; exact q.elim
  | some d =>
    cases h2 : toPy dy with
    | none => rw [h1, h2] at q; exact q.elim
    | some e =>
      rw [h1, h2] at q
      by_cases z : SeqAt.shaped d = true ∧ SeqAt.shaped e = true
      · simp only [if_pos z] at q
        exact ⟨d, e, dp_of R.post.le _ _ _ rx h1, dp_of R.post.le _ _ _ ry h2, z.1, z.2, q _ H G (Ext.refl _) R (.bl _)⟩
      · simp only [if_neg z] at q; exact q.elim
theorem opd_ne : OpD c (rNeD c.K) neD := by
  intro F ρ W P σ H G x y dx dy Q R rx ry q
  unfold neD at q
  cases h1 : toPy dx with
  | none => rw [h1] at q; exact q.elim
  | some d =>
    cases h2 : toPy dy with
    | none => rw [h1, h2] at q; exact q.elim
    | some e =>
      rw [h1, h2] at q
      by_cases z : SeqAt.shaped d = true ∧ SeqAt.shaped e = true
      · simp only [if_pos z] at q
        exact ⟨d, e, dp_of R.post.le _ _ _ rx h1, dp_of R.post.le _ _ _ ry h2, z.1, z.2, q _ H G (Ext.refl _) R (.bl _)⟩
      · simp only [if_neg z] at q; exact q.elim
end

section
variable {c : Cn} {X : Cx} {F : Fr} {W : WX} {ρ : List Sl}
/-- a < b < c -/
def chainM (ma mb mc : M D) (f g : D → D → M D) : M D := ma >>= fun x => mb >>= fun y => f x y >>= fun z => boolD z >>= fun k => if k = true then mc >>= fun w => g y w else Pure.pure (.bl false)
theorem chain_rd {r r' : R2} {f g : D → D → M D} {ma mb mc : M D} (hf : OpD c r f) (hg : OpD c r' g) {σ : L2.St} {H : Hp} {Q : VK} (h : rdE c F W ρ (chainM ma mb mc f g) σ H Q) : tChain r r' (rdE c F W ρ ma) (rdE c F W ρ mb) (rdE c F W ρ mc) σ H Q := by
  obtain ⟨P, G, R, q⟩ := h
  refine ⟨P, G, R, out_mono (out_bind.mp q) (fun x P1 q1 v H1 G1 e1 R1 r1 => ?_) fun _ _ z => z⟩
  refine ⟨P1, G1, R1, out_mono (out_bind.mp q1) (fun y P2 q2 u H2 G2 e2 R2 r2 => ?_) fun _ _ z => exW_le e1 z⟩
  refine hf F ρ W P2 σ H2 G2 v u x y _ R2 (r1.mono e2) r2 (out_mono (out_bind.mp q2) (fun d P3 q3 v3 H3 G3 e3 R3 r3 => ?_) fun _ _ z => exW_le (e1.trans e2) z)
  have e13 := (e1.trans e2).trans e3
  cases d with
  | bl k =>
    refine ⟨k, r3.bl_of, ?_⟩
    cases k with
    | false => exact q3 _ H3 G3 e13 R3 (.bl false)
    | true =>
      refine ⟨P3, G3, R3, out_mono (out_bind.mp (show out (mc >>= fun w => g y w) P3 _ _ from q3)) (fun w P4 q4 v4 H4 G4 e4 R4 r4 => ?_) fun _ _ z => exW_le e13 z⟩
      exact hg F ρ W P4 σ H4 G4 u v4 y w Q R4 (r2.mono (e3.trans e4)) r4 (out_mono q4 (fun d P5 q5 v5 H5 G5 e5 R5 r5 => q5 v5 H5 G5 ((e13.trans e4).trans e5) R5 r5) fun _ _ z => exW_le (e13.trans e4) z)
  | _ => exact q3.elim
theorem de_chain {a b d : Expr} {op op' : CmpOp} {pos : Pos} {r r' : R2} {f g : D → D → M D} {ma mb mc : M D} (ho : OpR X (compareOp op) r) (ho' : OpR X (compareOp op') r') (hf : OpD c r f) (hg : OpD c r' g)
    (ha : PE X a (rdE c F W ρ ma)) (hb : PE X b (rdE c F W ρ mb)) (hc : PE X d (rdE c F W ρ mc)) (hm : lastMarks [op, op'] [b, d] = false := by with_unfolding_all rfl) :
    PE X (.Compare a [op, op'] [b, d] pos) (rdE c F W ρ (chainM ma mb mc f g)) := pe_by (pe_chain ho ho' ha hb hc hm) fun _ _ _ => chain_rd hf hg
theorem dt_chain {a b d : Expr} {op op' : CmpOp} {pos : Pos} {r r' : R2} {f g : D → D → M D} {ma mb mc : M D} (ho : OpR X (compareOp op) r) (ho' : OpR X (compareOp op') r') (hf : OpD c r f) (hg : OpD c r' g)
    (ha : PE X a (rdE c F W ρ ma)) (hb : PE X b (rdE c F W ρ mb)) (hc : PE X d (rdE c F W ρ mc)) (hm : lastMarks [op, op'] [b, d] = false := by with_unfolding_all rfl) :
    PT X (.Compare a [op, op'] [b, d] pos) (rdT c F W ρ (chainM ma mb mc f g >>= boolD)) := by
  refine pt_by (pt_chain ho ho' ha hb hc hm) fun σ H Q ⟨P, G, R, q⟩ => ?_
  refine chain_rd (W := W) hf hg ⟨P, G, R, out_mono (out_bind.mp q) (fun x P1 q1 v H1 G1 e1 R1 r1 => ?_) fun _ _ z => z⟩
  cases x with
  | bl b => exact ⟨b, r1.bl_of, q1 H1 G1 e1 R1⟩
  | _ => exact q1.elim

/-! ### membership -/
def inS (x y : Str) : Bool := match x.cps.toList with
  | [a] => decide (a ∈ y.cps.toList)
  | _ => !(Builtin.Str.occurrences y x 0 y.length 1).isEmpty
def inSeq (neg : Bool) (mk : List PyData → PyData) (x : D) (ys : List D) : M D := match toPy x, toPys ys with
  | some d, some ds => if SeqAt.shaped d = true ∧ SeqAt.shaped (mk ds) = true then Pure.pure (.bl (if neg then !(ds.any fun z => PyData.eqv z d) else ds.any fun z => PyData.eqv z d)) else M.no
  | _, _ => M.no
def inTxt (neg : Bool) (y : Str) : D → M D
  | .str x => Pure.pure (.bl (if neg then !inS x y else inS x y))
  | _ => M.no
def inD (neg : Bool) (x y : D) : M D := match y with
  | .str y => inTxt neg y x
  | .lst ys => inSeq neg .list x ys
  | .tup ys => inSeq neg .tuple x ys
  | _ => M.no
def rInX (K : PySem.W.Frag) (neg : Bool) : R2 := fun x y H Q =>
  (∃ (a : Nat) (z : Str), x = .str ⟨#[a]⟩ ∧ y = .str z ∧ Q (.bl (if neg then !decide (a ∈ z.cps.toList) else decide (a ∈ z.cps.toList))) H) ∨
  (∃ i j, x = .str i ∧ y = .str j ∧ Q (.bl (if neg then !(!(Builtin.Str.occurrences j i 0 j.length 1).isEmpty) else !(Builtin.Str.occurrences j i 0 j.length 1).isEmpty)) H) ∨
  (∃ d ds, Dp K H x d ∧ Dp K H y (.list ds) ∧ SeqAt.shaped d = true ∧ SeqAt.shaped (.list ds) = true ∧ Q (.bl (if neg then !(ds.any fun z => PyData.eqv z d) else ds.any fun z => PyData.eqv z d)) H) ∨
  (∃ d ds, Dp K H x d ∧ Dp K H y (.tuple ds) ∧ SeqAt.shaped d = true ∧ SeqAt.shaped (.tuple ds) = true ∧ Q (.bl (if neg then !(ds.any fun z => PyData.eqv z d) else ds.any fun z => PyData.eqv z d)) H)
end

section
variable {c : Cn} {X : Cx} {F : Fr} {W : WX} {ρ : List Sl}
theorem shaped_room {n : Nat} {d : PyData} {ds : List PyData} (h : SeqAt.shaped d = true) (hu : n + 65 < cLine) : n + 1 + min (PyData.depthAll ds) d.depth < cLine := by
  have h2 : (d.canLay0 && decide (d.depth ≤ 64)) = true := h
  rw [Bool.and_eq_true] at h2
  have h3 := of_decide_eq_true h2.2
  omega
theorem opr_in (hu : X.A.units + 65 < cLine) : OpR X (compareOp .In) (rInX X.K false) := by
  intro pins s σ H x y v u Q I rx ry h
  rcases h with h | h | h | h
  · exact op_in_sign pins s σ H x y v u Q I rx ry h
  · exact op_in_str pins s σ H x y v u Q I rx ry h
  · exact op_inD hu pins s σ H x y v u Q I rx ry h
  · obtain ⟨d, ds, hd, he, sd, se, q⟩ := h
    obtain ⟨as, r1⟩ := Dp.reads I d x v hd rx
    obtain ⟨bs, r2⟩ := Dp.reads I (.tuple ds) y u he ry
    have lay : PyData.canLayAll0 ds = true := by
      have z := SeqAt.canLay_of_shaped se
      simpa only [PyData.canLay0] using z
    exact SeqAt.in_tuple_reads r2 r1 lay (SeqAt.canLay_of_shaped sd) (shaped_room sd hu) ⟨.bl _, H, I, rfl, q⟩
theorem opr_notin (hu : X.A.units + 65 < cLine) : OpR X (compareOp .NotIn) (rInX X.K true) := by
  intro pins s σ H x y v u Q I rx ry h
  rcases h with h | h | h | h
  · exact op_notIn_sign pins s σ H x y v u Q I rx ry h
  · exact op_notin_str pins s σ H x y v u Q I rx ry h
  · exact op_notInD hu pins s σ H x y v u Q I rx ry h
  · obtain ⟨d, ds, hd, he, sd, se, q⟩ := h
    obtain ⟨as, r1⟩ := Dp.reads I d x v hd rx
    obtain ⟨bs, r2⟩ := Dp.reads I (.tuple ds) y u he ry
    have lay : PyData.canLayAll0 ds = true := by
      have z := SeqAt.canLay_of_shaped se
      simpa only [PyData.canLay0] using z
    exact SeqAt.notIn_tuple_reads r2 r1 lay (SeqAt.canLay_of_shaped sd) (shaped_room sd hu) ⟨.bl _, H, I, rfl, q⟩
theorem str_one {x : Str} {a : Nat} (h : x.cps.toList = [a]) : x = ⟨#[a]⟩ := by
  obtain ⟨⟨l⟩⟩ := x
  exact congrArg (fun l => (⟨⟨l⟩⟩ : Str)) h
theorem inSeq_rd {neg : Bool} {mk : List PyData → PyData} {x : D} {ys : List D} {P : Pot} {ok : D → Pot → Prop} {ex : Ex → Pot → Prop} (h : out (inSeq neg mk x ys) P ok ex) :
    ∃ d ds, toPy x = some d ∧ toPys ys = some ds ∧ SeqAt.shaped d = true ∧ SeqAt.shaped (mk ds) = true ∧ ok (.bl (if neg then !(ds.any fun z => PyData.eqv z d) else ds.any fun z => PyData.eqv z d)) P := by
  unfold inSeq at h
  cases h1 : toPy x with
  | none => rw [h1] at h; exact h.elim
  | some d =>
    cases h2 : toPys ys with
    | none => rw [h1, h2] at h; exact h.elim
    | some ds =>
      rw [h1, h2] at h
      by_cases z : SeqAt.shaped d = true ∧ SeqAt.shaped (mk ds) = true
      · simp only [if_pos z] at h
        exact ⟨d, ds, rfl, rfl, z.1, z.2, h⟩
      · simp only [if_neg z] at h; exact h.elim
theorem opd_in (neg : Bool) : OpD c (rInX c.K neg) (inD neg) := by
  intro F ρ W P σ H G x y dx dy Q R rx ry q
  cases dy with
  | str y' =>
    cases dx with
    | str x' =>
      rw [rx.str_of, ry.str_of]
      have q' := q _ H G (Ext.refl _) R (.bl _)
      unfold inS at q'
      cases h : x'.cps.toList with
      | nil => rw [h] at q'; exact .inr (.inl ⟨x', y', rfl, rfl, q'⟩)
      | cons a r =>
        cases r with
        | nil => rw [h] at q'; exact .inl ⟨a, y', congrArg V.str (str_one h), rfl, q'⟩
        | cons b r => rw [h] at q'; exact .inr (.inl ⟨x', y', rfl, rfl, q'⟩)
    | _ => exact q.elim
  | lst ys =>
    obtain ⟨d, ds, h1, h2, s1, s2, k⟩ := inSeq_rd q
    exact .inr (.inr (.inl ⟨d, ds, dp_of R.post.le _ _ _ rx h1, dp_of R.post.le _ _ _ ry (by simp only [toPy]; rw [h2]; rfl), s1, s2, k _ H G (Ext.refl _) R (.bl _)⟩))
  | tup ys =>
    obtain ⟨d, ds, h1, h2, s1, s2, k⟩ := inSeq_rd q
    exact .inr (.inr (.inr ⟨d, ds, dp_of R.post.le _ _ _ rx h1, dp_of R.post.le _ _ _ ry (by simp only [toPy]; rw [h2]; rfl), s1, s2, k _ H G (Ext.refl _) R (.bl _)⟩))
  | _ => exact q.elim

/-! ### subscripts -/
def ixD : D → D → M D
  | .lst xs, .int i => M.some (atI xs i)
  | .tup xs, .int i => M.some (atI xs i)
  | .scr ns, .int i => M.some ((atI ns i).map .int)
  | .str z, .int i => if z.length ≤ sizeLine then M.some ((atI z.cps.toList i).map fun a => .str ⟨#[a]⟩) else M.no
  | _, _ => M.no
theorem atI_rep {G : Hp} {vs : List V} {ds : List D} {i : Int} {d : D} (r : c.reps G vs ds) (h : atI ds i = some d) : ∃ v, atI vs i = some v ∧ c.rep G v d := by
  unfold atI at h ⊢
  rw [r.1]
  cases e : ixN ds.length i with
  | none => rw [e] at h; cases h
  | some j =>
    rw [e] at h
    obtain ⟨v, h1, h2⟩ := r.get (show ds[j]? = some d from h)
    exact ⟨v, h1, h2⟩
theorem atI_map {α β : Type} {f : α → β} {xs : List α} {i : Int} : atI (xs.map f) i = (atI xs i).map f := by
  unfold atI
  rw [List.length_map]
  cases ixN xs.length i with
  | none => rfl
  | some j => simp
theorem opd_ix : OpD c (rIx c.K) ixD := by
  intro F ρ W P σ H G x y dx dy Q R rx ry q
  cases dx <;> cases dy <;> try exact q.elim
  · rename_i z i
    unfold ixD at q
    by_cases hz : z.length ≤ sizeLine
    · simp only [if_pos hz] at q
      obtain ⟨d, h, q⟩ := out_some.mp q
      rw [Option.map_eq_some_iff] at h
      obtain ⟨a, h, rfl⟩ := h
      rw [rx.str_of, ry.int_of]
      exact .inr (.inr ⟨z, i, a, rfl, rfl, hz, h, q _ H G (Ext.refl _) R (.str _)⟩)
    · simp only [if_neg hz] at q; exact q.elim
  · rename_i xs i
    obtain ⟨d, h, q⟩ := out_some.mp q
    rw [ry.int_of]
    cases rx with
    | lst ha hl hr =>
      obtain ⟨v, h1, h2⟩ := atI_rep ⟨hl, hr⟩ h
      exact .inl ⟨_, _, i, v, rfl, rfl, SqL.of (R.post.le _ _ ha), h1, q v H G (Ext.refl _) R h2⟩
  · rename_i xs i
    obtain ⟨d, h, q⟩ := out_some.mp q
    rw [ry.int_of]
    cases rx with
    | tup ha hl hr =>
      obtain ⟨v, h1, h2⟩ := atI_rep ⟨hl, hr⟩ h
      exact .inr (.inl ⟨_, _, i, v, rfl, rfl, Evl.ex_t R.post.le ha, h1, q v H G (Ext.refl _) R h2⟩)
  · rename_i ns i
    obtain ⟨d, h, q⟩ := out_some.mp q
    rw [Option.map_eq_some_iff] at h
    obtain ⟨n, h, rfl⟩ := h
    rw [ry.int_of]
    cases rx with
    | scr ha =>
      exact .inl ⟨_, _, i, .int n, rfl, rfl, Evl.ex_l R.post.le ha, by rw [atI_map, h]; rfl, q _ H G (Ext.refl _) R (.int n)⟩
theorem de_ix {a b : Expr} {pos : Pos} {ma mb : M D} (hK : X.K = c.K) (ha : PE X a (rdE c F W ρ ma)) (hb : PE X b (rdE c F W ρ mb)) (hs : PlainIx b) :
    PE X (.Subscript a b pos) (rdE c F W ρ (ma >>= fun x => mb >>= fun y => ixD x y)) := by
  have h := pe_ix (X := X) ix_seq ha hb hs (pos := pos)
  refine pe_by h fun σ H Q ⟨P, G, R, q⟩ => ?_
  refine ⟨P, G, R, out_mono (out_bind.mp q) (fun x P1 q1 v H1 G1 e1 R1 r1 => ?_) fun _ _ z => z⟩
  refine ⟨P1, G1, R1, out_mono (out_bind.mp q1) (fun y P2 q2 u H2 G2 e2 R2 r2 => ?_) fun _ _ z => exW_le e1 z⟩
  rw [hK]
  exact opd_ix F ρ W P2 σ H2 G2 v u x y Q R2 (r1.mono e2) r2 (out_mono q2 (fun d P3 q3 v3 H3 G3 e3 R3 r3 => q3 v3 H3 G3 (fun a o h => e3 a o (e2 a o (e1 a o h))) R3 r3) fun _ _ z => exW_le (fun a o h => e2 a o (e1 a o h)) z)
/-! ### slices -/
def rdO (c : Cn) (F : Fr) (W : WX) (ρ : List Sl) (m : M (Option Int)) : TO := fun σ H Q => ∃ P G, Rel c F ρ P σ H G ∧ out m P (fun o P' => ∀ H' G', Ext G G' → Rel c F ρ P' σ H' G' → Q o H') (exW c F W P G σ)
theorem po_by {e : Option Expr} {t t' : TO} (h : PO X e t) (k : ∀ σ H Q, t' σ H Q → t σ H Q) : PO X e t' := ⟨fun pins s σ H Q I q => h.run pins s σ H Q I (k σ H Q q)⟩
theorem do_none : PO X none (rdO c F W ρ (Pure.pure none)) := po_by po_none fun σ H Q ⟨P, G, R, q⟩ => q H G (Ext.refl _) R
def partD : D → M (Option Int)
  | .int i => Pure.pure (some i)
  | _ => M.no
theorem do_some {e : Expr} {m : M D} (h : PE X e (rdE c F W ρ m)) : PO X (some e) (rdO c F W ρ (m >>= partD)) := by
  refine po_by (po_some h) fun σ H Q ⟨P, G, R, q⟩ => ?_
  refine ⟨P, G, R, out_mono (out_bind.mp q) (fun x P1 q1 v H1 G1 e1 R1 r1 => ?_) fun _ _ z => z⟩
  cases x with
  | int i => exact ⟨i, r1.int_of, q1 H1 G1 e1 R1⟩
  | _ => exact q1.elim
def cutL {α : Type} (xs : List α) (lo hi : Option Int) : List α := (xs.drop (HT.sIx xs.length 0 lo)).take (HT.sIx xs.length xs.length hi - HT.sIx xs.length 0 lo)
theorem cut_rep {G : Hp} {vs : List V} {ds : List D} {lo hi : Option Int} (r : c.reps G vs ds) : c.reps G (cutV vs lo hi) (cutL ds lo hi) := by
  unfold cutV cutL
  rw [r.1]
  exact (r.drop _).take _
end
end DL

namespace DL
open PySem PySem.Spec PyProof.Rows L2

/-! ### a def by its body -/
def arS : Ar → Sl
  | .v d => .v d
  | .p => .p
def slots (as : List Ar) (n : Nat) : List Sl := as.map arS ++ List.replicate (n - as.length) .un
def doneF {α : Type} : Fl α → M D
  | .nx _ => Pure.pure .non
  | .rt d => Pure.pure d
  | _ => M.no
section
variable {c : Cn}
theorem slots_ok {G H : Hp} {ap : Option Addr} : ∀ {vs : List V} {as : List Ar}, ArsOk c ⟨G, H, ap⟩ G vs as → ∀ (i : Nat) s x, (as.map arS)[i]? = some s → (vs.map some)[i]? = some x → SlOk c ⟨G, H, ap⟩ G H s x
  | [], [], _, i, s, x, h, _ => by simp at h
  | v :: vs, a :: as, ⟨h, t⟩, 0, s, x, h1, h2 => by
    simp at h1 h2
    subst h1; subst h2
    cases a with
    | v d => exact ⟨v, rfl, h⟩
    | p =>
      obtain ⟨b, h3, h4⟩ := h
      exact ⟨b, h3, by rw [h4]⟩
  | v :: vs, a :: as, ⟨h, t⟩, i + 1, s, x, h1, h2 => slots_ok t i s x (by simpa using h1) (by simpa using h2)
  | [], _ :: _, h, _, _, _, _, _ => h.elim
  | _ :: _, [], h, _, _, _, _, _ => h.elim
theorem rel_start {G H : Hp} {ap : Option Addr} {P : Pot} {vs : List V} {as : List Ar} {N : List Str} (p : Post c ap G H P G H) (r : ArsOk c ⟨G, H, ap⟩ G vs as) : Rel c ⟨G, H, ap⟩ (slots as N.length) P (L2.start N vs) H G := by
  have hl : vs.length = as.length := ArsOk.length r
  have nop : ∀ (i : Nat) k, (slots as N.length)[i]? ≠ some (.o k) := fun i k e => by
    unfold slots at e
    by_cases hi : i < (as.map arS).length
    · rw [List.getElem?_append_left hi, List.getElem?_map] at e
      cases q : as[i]? with
      | none => rw [q] at e; cases e
      | some a => rw [q] at e; cases a <;> cases e
    · rw [List.getElem?_append_right (Nat.le_of_not_lt hi), List.getElem?_replicate] at e
      split at e <;> cases e
  refine ⟨p, by unfold slots L2.start; simp [hl], fun i s x a b => ?_, fun i j k k' u h1 _ _ _ => absurd h1 (nop i k)⟩
  unfold slots at a
  unfold L2.start at b
  by_cases hi : i < as.length
  · rw [List.getElem?_append_left (by simpa using hi)] at a
    rw [List.getElem?_append_left (by simpa [hl] using hi)] at b
    exact slots_ok r i s x a b
  · rw [List.getElem?_append_right (by simpa using Nat.le_of_not_lt hi), List.getElem?_replicate] at a
    split at a
    · cases a; exact True.intro
    · cases a
end
section
variable {P : Program} {w : World} {K : PySem.W.Frag} {mg : Str → Option Value} {base : Heap} {c : Cn}
theorem GA.deeper {A : Around} (h : GA A) (env : Env) : GA (A.deeper env) := h
/-- what a body is given -/
structure BodyX (c : Cn) (X : Cx) (k : Nat) (W : WX) : Prop where
  cx : Ctx c X k
  tk : Takes X W
  own : PassesOwn (model X.prog X.w) X.A X.env X.xe
/-- the context of a body -/
abbrev bX (P : Program) (w : World) (K : PySem.W.Frag) (mg : Str → Option Value) (base : Heap) (N : List Str) (qual : Str) (st : Stmt) (f : Addr) (cd : Value) (A : Around) (fr : List Env) (s : Shared) (H : Hp) (E : XK) : Cx :=
  cxOf (L2.CX P w) P w K mg base N qual (defScope st) f cd A fr s H E
/-- a def by a reading of its body -/
theorem fn_core {x qual : Str} {st : Stmt} {f : Addr} {fd : FuncData} {N ps : List Str} {k : Nat} {sp : Sp} (Fn : Fun K x qual st f fd) (hK : c.K = K) (hm : c.mg = mg) (S : FnScope N ps (defScope st)) (ln : ∀ vs H Q E, sp vs H Q E → vs.length = ps.length)
    (hbody : ∀ (cd : Value) (A : Around) (fr : List Env) (s : Shared) (H : Hp) (vs : List V) (Q : VK) (E : XK), BodyX c (bX P w K mg base N qual st f cd A fr s H E) k (fun cl dd _ H => E cl dd H) → sp vs H Q E →
      ∃ t, PSs (bX P w K mg base N qual st f cd A fr s H E) (defBody st) t ∧ t { nx := fun _ H' => Q .non H', bk := fun _ _ => False, ct := fun _ _ => False, rt := Q } (L2.start N vs) H) :
    FnG P w K mg base (k + 1) f fd ps sp := by
  refine ⟨ln, fun A fr s H us vs args Q E ga hr e0 hb r hsp => ?_⟩
  obtain ⟨oc, od, kV, doc, pm, an, cdv, ct, osl, rfl, lk, hcd⟩ := Fn.ex
  have lv := ln _ _ _ _ hsp
  have kx : K.In s.heap := e0.mod.kin.keeps fun b o q => (e0.bs b o q).1
  have nl : s.heap.NoLimit := e0.mod.nolimit.keeps fun b o q => (e0.bs b o q).1
  refine codeAny_call_function hr.depth (kx _ _ lk) rfl S.co S.gen rfl (PySem.W.codeRec_of kx hcd) (hb _ _ _ _ ?_)
  refine wpAny_newFunctionEnv_cells S.kind (fun y hy => ?_) fun env he s1 ic => ?_
  · rcases S.par y.1 (List.of_mem_zip (show (y.1, y.2) ∈ ps.zip us from hy)).1 with z | z
    · exact .inl z
    · exact .inr ⟨z, PySem.W.cellsFrom_some _ _ _ (.inl z)⟩
  subst he
  refine ⟨nl.keeps ic.toInCall.keep, codeAny_func ?_⟩
  have I := inv_start (CX := L2.CX P w) (E := E) (base := base) S hr.hd e0 lv r ic
  have bx : BodyX c (bX P w K mg base N qual st f cdv A fr s H E) k (fun cl dd _ H => E cl dd H) := ⟨⟨hm.symm, hK.symm, ga, hr.deeper _⟩, takes_of rfl rfl rfl rfl, passes_of rfl⟩
  obtain ⟨t, ht, hq⟩ := hbody cdv A fr s H vs Q E bx hsp
  refine wpAny_mono (ht.run [] s1 (L2.start N vs) H _ I hq) (fun fl s' hs => ?_) fun e s' hs => hs
  have fin : ∀ {σ' : L2.St} {H' : Hp} {v : V} {u : Value}, Inv (bX P w K mg base N qual st f cdv A fr s H E) [] σ' H' s' → RelV v u → Q v H' → CE fr P w H s Q u s' :=
    fun {σ' H' v u} J rv z => ⟨v, H', J.os, J.bare, J.base, J.hok, rv, z⟩
  cases fl with
  | next =>
    obtain ⟨σ', H', J, z⟩ := hs
    exact fin (v := .non) (u := .none) J rfl z
  | ret u =>
    obtain ⟨v, σ', H', J, rv, z⟩ := hs
    exact fin J rv z
  | brk => obtain ⟨_, _, _, z⟩ := hs; exact z.elim
  | cont => obtain ⟨_, _, _, z⟩ := hs; exact z.elim
theorem fnG_of {x qual : Str} {st : Stmt} {f : Addr} {fd : FuncData} {N ps : List Str} {k : Nat} {mf : List Ar → M D} (Fn : Fun K x qual st f fd) (hK : c.K = K) (hm : c.mg = mg) (S : FnScope N ps (defScope st)) (len : ∀ as P ok ex, out (mf as) P ok ex → as.length = ps.length)
    (hbody : ∀ (cd : Value) (A : Around) (fr : List Env) (s : Shared) (H0 G0 : Hp) (ap : Option Addr) (E : XK) (as : List Ar) (P0 : Pot) (ok : D → Pot → Prop) (ex : Ex → Pot → Prop), out (mf as) P0 ok ex → BodyX c (bX P w K mg base N qual st f cd A fr s H0 E) k (fun cl dd _ H => E cl dd H) →
      ∃ (α : Type) (En : α → List Sl) (mb : M (Fl α)), PSs (bX P w K mg base N qual st f cd A fr s H0 E) (defBody st) (rdS c ⟨G0, H0, ap⟩ (fun cl dd _ H => E cl dd H) (slots as N.length) En mb) ∧ mf as = mb >>= doneF) :
    FnG P w K mg base (k + 1) f fd ps (spD c mf) := by
  refine fn_core Fn hK hm S (fun vs H Q E ⟨ap, G, P0, as, p, r, q⟩ => (ArsOk.length r).trans (len _ _ _ _ q)) fun cd A fr s H vs Q E bx ⟨ap, G, P0, as, p0, ra, q0⟩ => ?_
  obtain ⟨α, En, mb, hps, em⟩ := hbody cd A fr s H G ap E as P0 _ _ q0 bx
  rw [em] at q0
  refine ⟨_, hps, P0, G, rel_start p0 ra, out_mono (out_bind.mp q0) (fun fl P' z => ?_) fun e P' z cl dd H' G' ρ' σ' _ R' k' => z cl dd H' G' R'.post k'⟩
  cases fl with
  | nx a => exact fun σ' H' G' e R' => z .non H' G' R'.post .non
  | rt d => exact fun v H' G' ρ' σ' e R' k' => z v H' G' R'.post k'
  | bk a => exact z.elim
  | ct a => exact z.elim
/-- a def that returns a new list of its own -/
def spF (c : Cn) (mf : List Ar → M (List D)) : Sp := fun vs H Q E => ∃ (ap : Option Addr) (G : Hp) (P : Pot) (as : List Ar),
  Post c ap G H P G H ∧ ArsOk c ⟨G, H, ap⟩ G vs as ∧
  out (mf as) P (fun ds P' => ∀ p vs H' G', Post c ap G H P' G' H' → H' p = some (.lst vs) → G' p = none → H p = none → some p ≠ ap → c.reps G' vs ds → Q (.ref p) H') (fun e P' => ∀ cl dd H' G', Post c ap G H P' G' H' → ExOk c H' G' e cl dd → E cl dd H')
/-- a block that ends by the return of a new list -/
def rdF (c : Cn) (F : Fr) (W : WX) (ρ : List Sl) (m : M (List D)) : TS := fun B σ H => ∃ P G, Rel c F ρ P σ H G ∧ out m P (fun ds P' => ∀ p vs H' G' ρ' σ', Ext G G' → Rel c F ρ' P' σ' H' G' → H' p = some (.lst vs) → G' p = none → F.H0 p = none → some p ≠ F.ap → c.reps G' vs ds → B.rt (.ref p) H') (exS c F W P G σ)
theorem fnF_of {x qual : Str} {st : Stmt} {f : Addr} {fd : FuncData} {N ps : List Str} {k : Nat} {mf : List Ar → M (List D)} (Fn : Fun K x qual st f fd) (hK : c.K = K) (hm : c.mg = mg) (S : FnScope N ps (defScope st)) (len : ∀ as P ok ex, out (mf as) P ok ex → as.length = ps.length)
    (hbody : ∀ (cd : Value) (A : Around) (fr : List Env) (s : Shared) (H0 G0 : Hp) (ap : Option Addr) (E : XK) (as : List Ar) (P0 : Pot) (ok : List D → Pot → Prop) (ex : Ex → Pot → Prop), out (mf as) P0 ok ex → BodyX c (bX P w K mg base N qual st f cd A fr s H0 E) k (fun cl dd _ H => E cl dd H) →
      PSs (bX P w K mg base N qual st f cd A fr s H0 E) (defBody st) (rdF c ⟨G0, H0, ap⟩ (fun cl dd _ H => E cl dd H) (slots as N.length) (mf as))) :
    FnG P w K mg base (k + 1) f fd ps (spF c mf) := by
  refine fn_core Fn hK hm S (fun vs H Q E ⟨ap, G, P0, as, p, r, q⟩ => (ArsOk.length r).trans (len _ _ _ _ q)) fun cd A fr s H vs Q E bx ⟨ap, G, P0, as, p0, ra, q0⟩ => ?_
  exact ⟨_, hbody cd A fr s H G ap E as P0 _ _ q0 bx, P0, G, rel_start p0 ra, out_mono q0 (fun ds P' z p vs H' G' ρ' σ' _ R' h1 h2 h3 h4 h5 => z p vs H' G' R'.post h1 h2 h3 h4 h5) fun e P' z cl dd H' G' ρ' σ' _ R' k' => z cl dd H' G' R'.post k'⟩
end

/-! ### the law's end -/
theorem law_callG {P : Program} {w : World} {K : PySem.W.Frag} {mg mb : Str → Option Value} {k : Nat} {fa a : Addr} {fd : FuncData} {x : Str} {mf : List Ar → M D} {s₁ : Shared} {vs : List Value} {ns : List Int}
    (kx : K.In s₁.heap) (hns : s₁.heap.Ns mainGlobals mg) (hb : s₁.heap.Ns builtinsNs mb) (hbb : ∀ x : Str, x ≠ "__name__" → mb x = bootBuiltins x) (nl : s₁.heap.NoLimit) (hg : s₁.gens = #[])
    (ha : s₁.heap.get? a = some { cls := .type "list", data := .seq vs.toArray }) (hi : IntsAre vs ns) (hl : ns.length ≤ sizeLine) (hr : Room k callerA)
    (F : ∀ base : Heap, K.In base → base.Ns mainGlobals mg → FnG P w K mg base k fa fd [x] (spD ⟨mg, K, []⟩ mf)) (hbind : ∀ (s : Shared) (u : Value), BindsTo s fd ⟨[u], []⟩ [(x, u)])
    (hm : mf [.v (.scr ns)] none = .ok (.bl true) none) :
    codeAny (model P w) callerA (.call (.ref fa) ⟨[.ref a], []⟩) (fun r s' => r = .ok (.ret (.bool true)) ∧ OldK s₁.heap s'.heap ∧ s'.os = s₁.os ∧ AllBare s'.gens) s₁ := by
  have rv := vals_ints hi
  have lv := hi.length
  have main : ∀ H : Hp, (∀ b o, H b = some o → b = a ∧ ∃ ob xs, o = .frz ob (.lst xs)) → SqL K H a (ns.map V.int) → HOk P w H s₁.heap → (H a ≠ none → K.lookup a = none) →
      codeAny (model P w) callerA (.call (.ref fa) ⟨[.ref a], []⟩) (fun r s' => r = .ok (.ret (.bool true)) ∧ OldK s₁.heap s'.heap ∧ s'.os = s₁.os ∧ AllBare s'.gens) s₁ := by
    intro H only sq ok apart
    have bareOf : ∀ {b : Addr} {o : Obj}, s₁.heap.get? b = some o → (∀ q, o.data ≠ Data.seq vs.toArray q) → H b = none := fun {b o} e d => by
      cases q : H b with
      | none => rfl
      | some u =>
        obtain ⟨rfl, _⟩ := only b u q
        rw [ha] at e
        cases e
        exact absurd rfl (d _)
    have nsOf : ∀ {b : Addr} {m : Str → Option Value}, s₁.heap.Ns b m → (hidT s₁.heap H).Ns b m := fun {b m} ⟨o, es, ep, e, d, z⟩ => ⟨o, es, ep, hidT_get e (bareOf e fun q y => by rw [d] at y; cases y), d, z⟩
    have kb : K.In (hidT s₁.heap H) := fun b o e => hidT_get (kx b o e) (by
      cases q : H b with
      | none => rfl
      | some u =>
        obtain ⟨rfl, _⟩ := only b u q
        rw [apart (by rw [q]; simp)] at e
        cases e)
    have md : Mod K mg (hidT s₁.heap H) := ⟨kb, nsOf hns, ⟨mb, nsOf hb, hbb⟩, let ⟨mc, h1, h2⟩ := nl; ⟨mc, nsOf h1, h2⟩⟩
    have e0 : Env0 P w K mg (hidT s₁.heap H) callerA [] s₁ H :=
      { frames := rfl, mod := md, bs := fun b o e => of_hidT e, bsz := Nat.le_of_eq (hidT_size _ _), funs := trivial, frf := fun b z => absurd (show b ∈ ([] : List Addr) from z) (by simp), hok := ok, bare := .of_eq hg }
    have p0 : Post ⟨mg, K, []⟩ none H H none H H :=
      ⟨Ext.refl _, Ext.refl _, fun _ _ h _ _ => h, fun _ h => .inl h, True.intro, (fun p h => nomatch (show p ∈ ([] : List (Addr × Str)) from h)), (fun b o h => (match only b o h with | ⟨_, _, _, z⟩ => fun _ y => nomatch z.symm.trans y)), fun b ps h => ⟨ps, h⟩⟩
    have sp0 : spD ⟨mg, K, []⟩ mf [.ref a] H (fun v _ => v = .bl true) fun _ _ _ => False :=
      ⟨none, H, none, [.v (.scr ns)], p0, ⟨.scr sq, trivial⟩, (out_eq hm).mpr fun v H' G' _ r => r.bl_of⟩
    refine codeAny_mono ((F _ kb (nsOf hns)).go callerA [] s₁ H [.ref a] [.ref a] ⟨[.ref a], []⟩ _ _ rfl hr e0 (hbind s₁ (.ref a)) (.cons rfl .nil) sp0) fun r s' h => ?_
    match r, h with
    | .error e, h =>
      obtain ⟨_, _, _, _, _, _, _, _, _, _, _, _, z⟩ := h
      exact z.elim
    | .ok .next, h => exact h.elim
    | .ok .brk, h => exact h.elim
    | .ok .cont, h => exact h.elim
    | .ok (.ret u), ⟨v, H', os, bare, un, ok', rr, z⟩ =>
      have z : v = .bl true := z
      subst z
      obtain rfl : u = Value.bool true := rr
      refine ⟨rfl, OldK.of_keep fun b o e => ?_, os, bare⟩
      cases q : H b with
      | none => exact un.keep b o e q (fun y => nomatch (show b ∈ ([] : List Addr) from y)) (by simp)
      | some u =>
        obtain ⟨_, ob, xs, rfl⟩ := only b u q
        obtain ⟨e1, _⟩ := ok b _ q
        obtain ⟨e2, _⟩ := ok' b _ (un.frzs b ob _ q)
        rw [e] at e1
        cases e1
        exact e2
  cases hk : K.lookup a with
  | some o =>
    have e := kx a o hk
    rw [ha] at e
    cases e
    exact main (fun _ => none) (fun b o z => nomatch z) (.inr ⟨_, vs.toArray, _, hk, rfl, rfl, rfl, by rw [List.size_toArray, lv]; exact hl, by simpa using rv⟩) (fun b u z => nomatch z) fun z => absurd rfl z
  | none =>
    let H1 : Hp := fun b => if b = a then some (.frz { cls := .type "list", data := .seq vs.toArray } (.lst (ns.map V.int))) else none
    have at_a : ∀ b u, H1 b = some u → b = a ∧ u = HO.frz { cls := .type "list", data := .seq vs.toArray } (.lst (ns.map V.int)) := fun b u z => by
      by_cases q : b = a
      · exact ⟨q, (Option.some.inj ((if_pos q).symm.trans z)).symm⟩
      · exact nomatch (if_neg q).symm.trans z
    refine main H1 (fun b u z => ?_) (.inl (.inr ⟨{ cls := .type "list", data := .seq vs.toArray }, if_pos rfl⟩)) (fun b u z => ?_) fun _ => hk
    · obtain ⟨q, rfl⟩ := at_a b u z
      exact ⟨q, _, _, rfl⟩
    · obtain ⟨rfl, rfl⟩ := at_a b u z
      exact ⟨ha, by rw [List.length_map]; exact hl, vs, _, rv, ha⟩
theorem walkG {l : PySem.W.OpenLaw} {n k : Nat} {q : Program} {loose : List Str} {XP : (Str → Option Value) → Heap → Prop} {YP : World → Heap → Prop} {d : DefRec} {K : Params → PySem.W.Frag} {mf : List Ar → M D} {x : Str}
    (hn : l.most = some n) (hn2 : n ≤ sizeLine) (hdf : d.params.defaults = []) (hr : Room k callerA) (hY : ∀ (w : World) (h : Heap), YP w h → (K w.params).In h)
    (F : ∀ (w : World) (mg : Str → Option Value) (fa : Addr) (h : Heap), (K w.params).In h → h.Ns mainGlobals mg → mg d.name = some (.ref fa) →
      ∃ fd : FuncData, (∀ (s : Shared) (u : Value), BindsTo s fd ⟨[u], []⟩ [(x, u)]) ∧ ∀ base : Heap, (K w.params).In base → base.Ns mainGlobals mg → FnG l.prog w (K w.params) mg base k fa fd [x] (spD ⟨mg, K w.params, []⟩ mf))
    (hm : ∀ (ns : List Int), ns.length ≤ n → (∀ z ∈ ns, Builtin.Int.intBits z ≤ 1048576) → mf [.v (.scr ns)] none = .ok (.bl true) none) :
    PySem.W.WalkO q loose XP YP l.row.toRowW d [] (fun f vs => PySem.call f vs) := by
  refine Att.attach_callB hn hdf fun w s₀ s₁ mg mb fa o pm cd doc a vs ns g y ho hd hcd hmg hobj hints hlen hbits hg => ?_
  obtain ⟨fd, hb, hF⟩ := F w mg fa _ (hY w _ y) g.T.g hmg
  exact law_callG (hY w _ y) g.T.g g.T.b g.T.builtins g.T.nolimit hg hobj hints (Nat.le_trans hlen hn2) hr hF hb (hm ns hlen hbits)
end DL

namespace DL
open PySem PySem.Spec PyProof.Rows L2

/-! ### calls of built-ins on data -/
section
variable {c : Cn} {X : Cx}
theorem Reps.one {G : Hp} {vs : List V} {d : D} (h : c.reps G vs [d]) : ∃ v, vs = [v] ∧ c.rep G v d := by
  have l := h.1
  match vs, h, l with
  | [v], h, _ => exact ⟨v, rfl, h.head⟩
theorem Reps.two {G : Hp} {vs : List V} {d e : D} (h : c.reps G vs [d, e]) : ∃ v u, vs = [v, u] ∧ c.rep G v d ∧ c.rep G u e := by
  have l := h.1
  match vs, h, l with
  | [v, u], h, _ => exact ⟨v, u, rfl, h.head, h.tail.head⟩
/-- of one argument -/
def f1 (f : D → M D) : List D → M D
  | [d] => f d
  | _ => M.no
/-- of two -/
def f2 (f : D → D → M D) : List D → M D
  | [d, e] => f d e
  | _ => M.no
def Call1 (c : Cn) (r : V → Hp → VK → Prop) (f : D → M D) : Prop := ∀ F ρ W P σ H G v d Q, Rel c F ρ P σ H G → c.rep G v d → out (f d) P (fun d P' => ∀ v H' G', Ext G G' → Rel c F ρ P' σ H' G' → c.rep G' v d → Q v H') (exW c F W P G σ) → r v H Q
theorem callD1 {r : V → Hp → VK → Prop} {f : D → M D} (h : Call1 c r f) : CallD c (fun xs H Q => ∃ v, xs = [v] ∧ r v H Q) (f1 f) := by
  intro F ρ W P σ H G vs ds Q R rs q
  match ds, q with
  | [d], q =>
    obtain ⟨v, rfl, rv⟩ := rs.one
    exact ⟨v, rfl, h F ρ W P σ H G v d Q R rv q⟩
  | [], q => exact q.elim
  | _ :: _ :: _, q => exact q.elim
theorem callD2 {r : V → V → Hp → VK → Prop} {f : D → D → M D} (h : ∀ F ρ W P σ H G x y dx dy Q, Rel c F ρ P σ H G → c.rep G x dx → c.rep G y dy → out (f dx dy) P (fun d P' => ∀ v H' G', Ext G G' → Rel c F ρ P' σ H' G' → c.rep G' v d → Q v H') (exW c F W P G σ) → r x y H Q) :
    CallD c (fun xs H Q => ∃ v u, xs = [v, u] ∧ r v u H Q) (f2 f) := by
  intro F ρ W P σ H G vs ds Q R rs q
  match ds, q with
  | [d, e], q =>
    obtain ⟨v, u, rfl, rv, ru⟩ := rs.two
    exact ⟨v, u, rfl, h F ρ W P σ H G v u d e Q R rv ru q⟩
  | [], q => exact q.elim
  | [_], q => exact q.elim
  | _ :: _ :: _ :: _, q => exact q.elim
theorem CallR.by {f : Value} {r r' : List V → Hp → VK → Prop} (h : CallR X f r) (k : ∀ xs H Q, r' xs H Q → r xs H Q) : CallR X f r' := fun pins s σ H xs us Q I v z => h pins s σ H xs us Q I v (k _ _ _ z)

-- len
def lenD : D → M D
  | .str x => if x.length ≤ sizeLine then Pure.pure (.int (x.length : Nat)) else M.no
  | .lst xs => Pure.pure (.int (xs.length : Nat))
  | .tup xs => Pure.pure (.int (xs.length : Nat))
  | .scr xs => Pure.pure (.int (xs.length : Nat))
  | .dic xs => Pure.pure (.int (xs.length : Nat))
  | _ => M.no
def rLen (K : PySem.W.Frag) : V → Hp → VK → Prop := fun v H Q => (∃ n, LenV K v H n ∧ Q (.int n) H) ∨ (∃ a kvs, v = .ref a ∧ H a = some (.dK kvs) ∧ Q (.int kvs.length) H) ∨ (∃ a kvs, v = .ref a ∧ H a = some (.dT kvs) ∧ Q (.int ((kvs.length : Nat) : Int)) H)
theorem cr_len : CallR X (.builtin "len") (fun xs H Q => ∃ v, xs = [v] ∧ rLen X.K v H Q) :=
  CallR.by (CallR.or call_len (CallR.or call_lenD call_len_dT)) fun xs H Q ⟨v, e, h⟩ => by
    subst e
    rcases h with ⟨n, h, q⟩ | ⟨a, kvs, rfl, h, q⟩ | ⟨a, kvs, rfl, h, q⟩
    · exact .inl ⟨v, n, rfl, h, q⟩
    · exact .inr (.inl ⟨a, kvs, rfl, h, q⟩)
    · exact .inr (.inr ⟨a, kvs, rfl, h, q⟩)
theorem cd_len : CallD c (fun xs H Q => ∃ v, xs = [v] ∧ rLen c.K v H Q) (f1 lenD) := callD1 fun F ρ W P σ H G v d Q R r q => by
  have go : ∀ n : Nat, out (Pure.pure (.int n) : M D) P (fun d P' => ∀ v H' G', Ext G G' → Rel c F ρ P' σ H' G' → c.rep G' v d → Q v H') (exW c F W P G σ) → Q (.int n) H := fun n q => q _ H G (Ext.refl _) R (.int _)
  cases d with
  | str x =>
    unfold lenD at q
    by_cases z : x.length ≤ sizeLine
    · simp only [if_pos z] at q
      rw [r.str_of]
      exact .inl ⟨x.length, ⟨z, rfl⟩, go _ q⟩
    · simp only [if_neg z] at q; exact q.elim
  | lst xs => cases r with | lst ha hl hr => exact .inl ⟨_, .inl ⟨_, SqL.of (R.post.le _ _ ha), rfl⟩, by rw [hl]; exact go _ q⟩
  | tup xs => cases r with | tup ha hl hr => exact .inl ⟨_, .inr ⟨_, Evl.ex_t R.post.le ha, rfl⟩, by rw [hl]; exact go _ q⟩
  | scr xs => cases r with | scr ha => exact .inl ⟨_, .inl ⟨_, Evl.ex_l R.post.le ha, rfl⟩, by rw [List.length_map]; exact go _ q⟩
  | dic xs =>
    cases r with
    | dicK h k hr => exact .inr (.inl ⟨_, _, rfl, R.post.le _ _ h, by have e := congrArg List.length k; rw [List.length_map, List.length_map] at e; rw [e]; exact go _ q⟩)
    | dicT h k hr => exact .inr (.inr ⟨_, _, rfl, R.post.le _ _ h, by have e := congrArg List.length k; rw [List.length_map, List.length_map] at e; rw [e]; exact go _ q⟩)
  | _ => exact q.elim

-- str, int, abs, max, min
def strD : D → M D
  | .int i => if i.natAbs.log2 < 1920 then Pure.pure (.str (toString i)) else M.no
  | .str x => Pure.pure (.str x)
  | _ => M.no
def rStr : V → Hp → VK → Prop := fun v H Q => (∃ i, v = .int i ∧ i.natAbs.log2 < 1920 ∧ Q (.str (toString i)) H) ∨ ∃ a, v = .str a ∧ Q (.str a) H
theorem cr_str : CallR X (.type "str") (fun xs H Q => ∃ v, xs = [v] ∧ rStr v H Q) := CallR.by (CallR.or call_str_int SkE.call_str_str) fun xs H Q ⟨v, e, h⟩ => by
  subst e
  rcases h with ⟨i, rfl, h⟩ | ⟨a, rfl, h⟩
  · exact .inl ⟨i, rfl, h⟩
  · exact .inr ⟨a, rfl, h⟩
theorem cd_str : CallD c (fun xs H Q => ∃ v, xs = [v] ∧ rStr v H Q) (f1 strD) := callD1 fun F ρ W P σ H G v d Q R r q => by
  cases d with
  | int i =>
    unfold strD at q
    by_cases z : i.natAbs.log2 < 1920
    · simp only [if_pos z] at q
      exact .inl ⟨i, r.int_of, z, q _ H G (Ext.refl _) R (.str _)⟩
    · simp only [if_neg z] at q; exact q.elim
  | str x => exact .inr ⟨x, r.str_of, q _ H G (Ext.refl _) R (.str _)⟩
  | _ => exact q.elim
def intOf : D → M D
  | .int i => Pure.pure (.int i)
  | .bl k => Pure.pure (.int (if k then 1 else 0))
  | _ => M.no
def rInt : V → Hp → VK → Prop := fun v H Q => (∃ i, v = .int i ∧ Q (.int i) H) ∨ ∃ k, v = .bl k ∧ Q (.int (if k then 1 else 0)) H
theorem cr_int : CallR X (.type "int") (fun xs H Q => ∃ v, xs = [v] ∧ rInt v H Q) := CallR.by call_int1 fun xs H Q ⟨v, e, h⟩ => by
  subst e
  rcases h with ⟨i, rfl, h⟩ | ⟨a, rfl, h⟩
  · exact .inl ⟨i, rfl, h⟩
  · exact .inr ⟨a, rfl, h⟩
theorem cd_int : CallD c (fun xs H Q => ∃ v, xs = [v] ∧ rInt v H Q) (f1 intOf) := callD1 fun F ρ W P σ H G v d Q R r q => by
  cases d with
  | int i => exact .inl ⟨i, r.int_of, q _ H G (Ext.refl _) R (.int _)⟩
  | bl x => exact .inr ⟨x, r.bl_of, q _ H G (Ext.refl _) R (.int _)⟩
  | _ => exact q.elim
def absD : D → M D
  | .int i => Pure.pure (.int (if i < 0 then -i else i))
  | _ => M.no
theorem cd_abs : CallD c (fun xs H Q => ∃ v, xs = [v] ∧ ∃ i, v = .int i ∧ Q (.int (if i < 0 then -i else i)) H) (f1 absD) := callD1 fun F ρ W P σ H G v d Q R r q => by
  cases d with
  | int i => exact ⟨i, r.int_of, q _ H G (Ext.refl _) R (.int _)⟩
  | _ => exact q.elim
theorem cr_abs : CallR X (.builtin "abs") (fun xs H Q => ∃ v, xs = [v] ∧ ∃ i, v = .int i ∧ Q (.int (if i < 0 then -i else i)) H) := CallR.by call_abs fun xs H Q ⟨v, e, i, e2, q⟩ => ⟨i, by rw [e, e2], q⟩
def maxD : D → D → M D
  | .int i, .int j => Pure.pure (.int (if j > i then j else i))
  | _, _ => M.no
def minD : D → D → M D
  | .int i, .int j => Pure.pure (.int (if j < i then j else i))
  | _, _ => M.no
theorem cr_max (hc : X.calm = true) : CallR X (.builtin "max") (fun xs H Q => ∃ v u, xs = [v, u] ∧ ∃ i j, v = .int i ∧ u = .int j ∧ Q (.int (if j > i then j else i)) H) := CallR.by (call_max2 hc) fun xs H Q ⟨v, u, e, i, j, e1, e2, q⟩ => ⟨i, j, by rw [e, e1, e2], q⟩
theorem cr_min (hc : X.calm = true) : CallR X (.builtin "min") (fun xs H Q => ∃ v u, xs = [v, u] ∧ ∃ i j, v = .int i ∧ u = .int j ∧ Q (.int (if j < i then j else i)) H) := CallR.by (call_min2 hc) fun xs H Q ⟨v, u, e, i, j, e1, e2, q⟩ => ⟨i, j, by rw [e, e1, e2], q⟩
theorem cd_max : CallD c (fun xs H Q => ∃ v u, xs = [v, u] ∧ ∃ i j, v = .int i ∧ u = .int j ∧ Q (.int (if j > i then j else i)) H) (f2 maxD) := callD2 fun F ρ W P σ H G x y dx dy Q R rx ry q => by
  cases dx <;> cases dy <;> try exact q.elim
  exact ⟨_, _, rx.int_of, ry.int_of, q _ H G (Ext.refl _) R (.int _)⟩
theorem cd_min : CallD c (fun xs H Q => ∃ v u, xs = [v, u] ∧ ∃ i j, v = .int i ∧ u = .int j ∧ Q (.int (if j < i then j else i)) H) (f2 minD) := callD2 fun F ρ W P σ H G x y dx dy Q R rx ry q => by
  cases dx <;> cases dy <;> try exact q.elim
  exact ⟨_, _, rx.int_of, ry.int_of, q _ H G (Ext.refl _) R (.int _)⟩

-- list, tuple
def listD : D → M D
  | .lst xs => Pure.pure (.lst xs)
  | .tup xs => Pure.pure (.lst xs)
  | .scr ns => Pure.pure (.lst (ns.map .int))
  | _ => M.no
def tupleD : D → M D
  | .lst xs => Pure.pure (.tup xs)
  | .tup xs => Pure.pure (.tup xs)
  | .scr ns => Pure.pure (.tup (ns.map .int))
  | _ => M.no
def rListOf (K : PySem.W.Frag) : V → Hp → VK → Prop := fun v H Q => ∃ p ys, v = .ref p ∧ (SqL K H p ys ∨ SqT K H p ys) ∧ ∀ l, H l = none → Q (.ref l) (upd H l (.lst ys))
def rTupleOf (K : PySem.W.Frag) : V → Hp → VK → Prop := fun v H Q => ∃ p ys, v = .ref p ∧ ((SqL K H p ys ∧ ∀ l, H l = none → Q (.ref l) (upd H l (.tup ys))) ∨ (SqT K H p ys ∧ Q (.ref p) H))
theorem cr_list : CallR X (.type "list") (fun xs H Q => ∃ v, xs = [v] ∧ rListOf X.K v H Q) := CallR.by call_list_of fun xs H Q ⟨v, e, p, ys, e2, q⟩ => ⟨p, ys, by rw [e, e2], q⟩
theorem cr_tuple : CallR X (.type "tuple") (fun xs H Q => ∃ v, xs = [v] ∧ rTupleOf X.K v H Q) := CallR.by call_tuple_of fun xs H Q ⟨v, e, p, ys, e2, q⟩ => ⟨p, ys, by rw [e, e2], q⟩
theorem new_lst {F : Fr} {ρ : List Sl} {P : Pot} {σ : L2.St} {H G : Hp} {p : Addr} {ys : List V} {ds : List D} {Q : VK} (R : Rel c F ρ P σ H G) (hp : H p = none) (r : c.reps G ys ds) (q : ∀ v H' G', Ext G G' → Rel c F ρ P σ H' G' → c.rep G' v (.lst ds) → Q v H') : Q (.ref p) (upd H p (.lst ys)) := by
  obtain ⟨R2, e2⟩ := R.new hp nt_lst
  exact q _ _ _ e2 R2 (.lst upd_same r.1 fun i v d a b => (r.2 i v d a b).mono e2)
theorem new_tup {F : Fr} {ρ : List Sl} {P : Pot} {σ : L2.St} {H G : Hp} {p : Addr} {ys : List V} {ds : List D} {Q : VK} (R : Rel c F ρ P σ H G) (hp : H p = none) (r : c.reps G ys ds) (q : ∀ v H' G', Ext G G' → Rel c F ρ P σ H' G' → c.rep G' v (.tup ds) → Q v H') : Q (.ref p) (upd H p (.tup ys)) := by
  obtain ⟨R2, e2⟩ := R.new hp nt_tup
  exact q _ _ _ e2 R2 (.tup (SqT.of upd_same) r.1 fun i v d a b => (r.2 i v d a b).mono e2)
theorem cd_list : CallD c (fun xs H Q => ∃ v, xs = [v] ∧ rListOf c.K v H Q) (f1 listD) := callD1 fun F ρ W P σ H G v d Q R r q => by
  cases d with
  | lst xs => cases r with | lst ha hl hr => exact ⟨_, _, rfl, .inl (SqL.of (R.post.le _ _ ha)), fun l h => new_lst R h ⟨hl, hr⟩ q⟩
  | tup xs => cases r with | tup ha hl hr => exact ⟨_, _, rfl, .inr (Evl.ex_t R.post.le ha), fun l h => new_lst R h ⟨hl, hr⟩ q⟩
  | scr xs => cases r with | scr ha => exact ⟨_, _, rfl, .inl (Evl.ex_l R.post.le ha), fun l h => new_lst R h (reps_ints xs) q⟩
  | _ => exact q.elim
theorem cd_tuple : CallD c (fun xs H Q => ∃ v, xs = [v] ∧ rTupleOf c.K v H Q) (f1 tupleD) := callD1 fun F ρ W P σ H G v d Q R r q => by
  cases d with
  | lst xs => cases r with | lst ha hl hr => exact ⟨_, _, rfl, .inl ⟨SqL.of (R.post.le _ _ ha), fun l h => new_tup R h ⟨hl, hr⟩ q⟩⟩
  | tup xs => cases r with | tup ha hl hr => exact ⟨_, _, rfl, .inr ⟨Evl.ex_t R.post.le ha, q _ H G (Ext.refl _) R (.tup ha hl hr)⟩⟩
  | scr xs => cases r with | scr ha => exact ⟨_, _, rfl, .inl ⟨Evl.ex_l R.post.le ha, fun l h => new_tup R h (reps_ints xs) q⟩⟩
  | _ => exact q.elim

-- all, any
def bls : List D → Option (List Bool)
  | [] => some []
  | .bl b :: ds => (bls ds).map (b :: ·)
  | _ => none
theorem bls_of {G : Hp} : ∀ {vs : List V} {ds : List D} {bs : List Bool}, c.reps G vs ds → bls ds = some bs → vs = bs.map V.bl
  | vs, [], bs, r, h => by cases h; rw [r.nil_of']; rfl
  | [], _ :: _, _, r, _ => by have := r.1; simp at this
  | v :: vs, d :: ds, bs, r, h => by
    cases d with
    | bl b =>
      simp only [bls, Option.map_eq_some_iff] at h
      obtain ⟨bs', h, rfl⟩ := h
      rw [r.head.bl_of, bls_of r.tail h]
      rfl
    | _ => exact nomatch h
def allD : D → M D
  | .lst xs => M.some ((bls xs).map fun bs => .bl (bs.all id))
  | _ => M.no
def anyD : D → M D
  | .lst xs => M.some ((bls xs).map fun bs => .bl (bs.any id))
  | _ => M.no
def rBls (K : PySem.W.Frag) (f : List Bool → Bool) : V → Hp → VK → Prop := fun v H Q => ∃ (a : Addr) (bs : List Bool), v = V.ref a ∧ SqL K H a (bs.map V.bl) ∧ Q (.bl (f bs)) H
theorem cr_allD (hc : X.calm = true) : CallR X (.builtin "all") (fun xs H Q => ∃ v, xs = [v] ∧ rBls X.K (fun bs => bs.all id) v H Q) := CallR.by (cr_all hc) fun xs H Q ⟨v, e, a, bs, e2, h⟩ => ⟨a, bs, by rw [e, e2], h⟩
theorem cr_anyD (hc : X.calm = true) : CallR X (.builtin "any") (fun xs H Q => ∃ v, xs = [v] ∧ rBls X.K (fun bs => bs.any id) v H Q) := CallR.by (cr_any hc) fun xs H Q ⟨v, e, a, bs, e2, h⟩ => ⟨a, bs, by rw [e, e2], h⟩
theorem bls_rd {f : List Bool → Bool} {F : Fr} {ρ : List Sl} {W : WX} {P : Pot} {σ : L2.St} {H G : Hp} {v : V} {xs : List D} {Q : VK} (R : Rel c F ρ P σ H G) (r : c.rep G v (.lst xs))
    (q : out (M.some ((bls xs).map fun bs => D.bl (f bs))) P (fun d P' => ∀ v H' G', Ext G G' → Rel c F ρ P' σ H' G' → c.rep G' v d → Q v H') (exW c F W P G σ)) : rBls c.K f v H Q := by
  obtain ⟨d, h, q⟩ := out_some.mp q
  rw [Option.map_eq_some_iff] at h
  obtain ⟨bs, h, rfl⟩ := h
  cases r with
  | lst ha hl hr =>
    have e := bls_of ⟨hl, hr⟩ h
    subst e
    exact ⟨_, bs, rfl, SqL.of (R.post.le _ _ ha), q _ H G (Ext.refl _) R (.bl _)⟩
theorem cd_all : CallD c (fun xs H Q => ∃ v, xs = [v] ∧ rBls c.K (fun bs => bs.all id) v H Q) (f1 allD) := callD1 fun F ρ W P σ H G v d Q R r q => by
  cases d with
  | lst xs => exact bls_rd R r q
  | _ => exact q.elim
theorem cd_any : CallD c (fun xs H Q => ∃ v, xs = [v] ∧ rBls c.K (fun bs => bs.any id) v H Q) (f1 anyD) := callD1 fun F ρ W P σ H G v d Q R r q => by
  cases d with
  | lst xs => exact bls_rd R r q
  | _ => exact q.elim

-- repr of lists and tuples
def reprD (d : D) : M D := match toPy d with
  | some (.list xs) => rp (.list xs)
  | some (.tuple xs) => rp (.tuple xs)
  | _ => M.no
where rp (p : PyData) : M D := if p.showable = true ∧ p.hasDict = false ∧ p.depth ≤ 100 ∧ p.shown.length ≤ sizeLine then Pure.pure (.str p.shown) else M.no
def rRepr (K : PySem.W.Frag) : V → Hp → VK → Prop := fun v H Q => ∃ a p, v = .ref a ∧ Dp K H v p ∧ p.showable = true ∧ p.hasDict = false ∧ p.depth ≤ 100 ∧ p.shown.length ≤ sizeLine ∧ Q (.str p.shown) H
theorem cr_repr (hg : GA X.A) (hu : X.A.units + 102 < cLine) : CallR X (.builtin "repr") (fun xs H Q => ∃ v, xs = [v] ∧ rRepr X.K v H Q) := by
  intro pins s σ H xs us Q I r h
  obtain ⟨v, rfl, a, p, rfl, hp, h1, h2, h3, h4, q⟩ := h
  obtain ⟨u, rfl, ru⟩ := vals1 r
  obtain ⟨as, rd⟩ := Dp.reads I p _ u hp ru
  cases ru
  exact PySem.repr_of_reads' rd h1 (fun z => by rw [h2] at z; cases z) hg (by omega) (fun _ _ e => e) (fun h' t tk k => ⟨.str _, H, I.kept k, ⟨t, rfl⟩, q⟩) h4
theorem rp_rd {p : PyData} {P : Pot} {ok : D → Pot → Prop} {ex : Ex → Pot → Prop} (h : out (reprD.rp p) P ok ex) : p.showable = true ∧ p.hasDict = false ∧ p.depth ≤ 100 ∧ p.shown.length ≤ sizeLine ∧ ok (.str p.shown) P := by
  unfold reprD.rp at h
  by_cases z : p.showable = true ∧ p.hasDict = false ∧ p.depth ≤ 100 ∧ p.shown.length ≤ sizeLine
  · rw [if_pos z] at h
    exact ⟨z.1, z.2.1, z.2.2.1, z.2.2.2, h⟩
  · rw [if_neg z] at h; exact h.elim
theorem cd_repr : CallD c (fun xs H Q => ∃ v, xs = [v] ∧ rRepr c.K v H Q) (f1 reprD) := callD1 fun F ρ W P σ H G v d Q R r q => by
  unfold reprD at q
  cases h : toPy d with
  | none => rw [h] at q; exact q.elim
  | some p =>
    rw [h] at q
    have dp := dp_of R.post.le d v p r h
    cases p with
    | list xs =>
      obtain ⟨h1, h2, h3, h4, q⟩ := rp_rd q
      cases d <;> simp [toPy] at h
      cases r with | lst ha hl hr => exact ⟨_, _, rfl, dp, h1, h2, h3, h4, q _ H G (Ext.refl _) R (.str _)⟩
    | tuple xs =>
      obtain ⟨h1, h2, h3, h4, q⟩ := rp_rd q
      cases d <;> simp [toPy] at h
      cases r with | tup ha hl hr => exact ⟨_, _, rfl, dp, h1, h2, h3, h4, q _ H G (Ext.refl _) R (.str _)⟩
    | _ => exact q.elim
end
end DL

namespace DL
open PySem PySem.Spec PyProof.Rows L2

section
variable {c : Cn} {X : Cx} {F : Fr} {W : WX} {ρ : List Sl}
/-! ### slices -/
def sliceD : D → Option Int → Option Int → M D
  | .lst xs, lo, hi => Pure.pure (.lst (cutL xs lo hi))
  | .tup xs, lo, hi => Pure.pure (.tup (cutL xs lo hi))
  | .scr ns, lo, hi => Pure.pure (.lst ((cutL ns lo hi).map .int))
  | .str z, lo, hi => if z.length ≤ sizeLine then Pure.pure (.str (cutS z lo hi)) else M.no
  | _, _, _ => M.no
def rSlD (K : PySem.W.Frag) : V → Option Int → Option Int → Hp → VK → Prop := fun x lo hi H Q => rSlL K x lo hi H Q ∨ (rSlA K x lo hi H Q ∨ rSlS x lo hi H Q)
theorem sl_D : SlR X (rSlD X.K) := SlR.or sl_list (SlR.or sl_tupA sl_str)
theorem cut_all {α : Type} {xs : List α} {lo hi : Option Int} (h : HT.sIx xs.length 0 lo = 0 ∧ HT.sIx xs.length xs.length hi = xs.length) : cutL xs lo hi = xs := by
  unfold cutL
  rw [h.1, h.2]
  simp
theorem cut_map {α β : Type} {f : α → β} {xs : List α} {lo hi : Option Int} : cutL (xs.map f) lo hi = (cutL xs lo hi).map f := by
  unfold cutL
  rw [List.length_map, List.map_take, List.map_drop]
theorem slice_rd {P : Pot} {σ : L2.St} {H G : Hp} {x : V} {d : D} {lo hi : Option Int} {Q : VK} (R : Rel c F ρ P σ H G) (r : c.rep G x d)
    (q : out (sliceD d lo hi) P (fun d P' => ∀ v H' G', Ext G G' → Rel c F ρ P' σ H' G' → c.rep G' v d → Q v H') (exW c F W P G σ)) : rSlD c.K x lo hi H Q := by
  cases d with
  | lst xs => cases r with | lst ha hl hr => exact .inl ⟨_, _, rfl, SqL.of (R.post.le _ _ ha), fun p hp => new_lst R hp (cut_rep ⟨hl, hr⟩) q⟩
  | tup xs =>
    cases r with
    | tup ha hl hr =>
      refine .inr (.inl ⟨_, _, rfl, Evl.ex_t R.post.le ha, fun w => ?_, fun w p hp => new_tup R hp (cut_rep ⟨hl, hr⟩) q⟩)
      rw [hl] at w
      have q' : ∀ v H' G', Ext G G' → Rel c F ρ P σ H' G' → c.rep G' v (.tup (cutL xs lo hi)) → Q v H' := q
      rw [cut_all w] at q'
      exact q' _ H G (Ext.refl _) R (.tup ha hl hr)
  | scr ns =>
    cases r with
    | scr ha =>
      refine .inl ⟨_, _, rfl, Evl.ex_l R.post.le ha, fun p hp => new_lst R hp ?_ q⟩
      show c.reps G (cutL (ns.map V.int) lo hi) _
      rw [cut_map]
      exact reps_ints _
  | str z =>
    unfold sliceD at q
    by_cases hz : z.length ≤ sizeLine
    · simp only [if_pos hz] at q
      exact .inr (.inr ⟨z, r.str_of, hz, q _ H G (Ext.refl _) R (.str _)⟩)
    · simp only [if_neg hz] at q; exact q.elim
  | _ => exact q.elim
theorem de_slice {e : Expr} {lo hi : Option Expr} {p2 pos : Pos} {me : M D} {ml mh : M (Option Int)} (hK : X.K = c.K) (he : PE X e (rdE c F W ρ me)) (hl : PO X lo (rdO c F W ρ ml)) (hh : PO X hi (rdO c F W ρ mh)) :
    PE X (.Subscript e (.Slice lo hi none p2) pos) (rdE c F W ρ (me >>= fun x => ml >>= fun l => mh >>= fun u => sliceD x l u)) := by
  refine pe_by (pe_slice (sl_D (X := X)) he hl hh) fun σ H Q ⟨P, G, R, q⟩ => ?_
  refine ⟨P, G, R, out_mono (out_bind.mp q) (fun x P1 q1 v H1 G1 e1 R1 r1 => ?_) fun _ _ z => z⟩
  refine ⟨P1, G1, R1, out_mono (out_bind.mp q1) (fun l P2 q2 H2 G2 e2 R2 => ?_) fun _ _ z => exW_le e1 z⟩
  refine ⟨P2, G2, R2, out_mono (out_bind.mp q2) (fun u P3 q3 H3 G3 e3 R3 => ?_) fun _ _ z => exW_le (e1.trans e2) z⟩
  rw [hK]
  have e13 := (e1.trans e2).trans e3
  exact slice_rd (W := W) R3 (r1.mono (e2.trans e3)) (out_mono q3 (fun d P4 q4 v4 H4 G4 e4 R4 r4 => q4 v4 H4 G4 (e13.trans e4) R4 r4) fun _ _ z => exW_le e13 z)

/-! ### x.bit_length() -/
def bitsD : D → M D
  | .int i => Pure.pure (.int (Builtin.Int.intBits i : Nat))
  | _ => M.no
theorem de_bits {o : Expr} {apos pos : Pos} {m : M D} (h : PE X o (rdE c F W ρ m)) (hbase : attributeBase o "bit_length" X.env (eval o X.env) = eval o X.env := by rfl) (hline : (apos.endLine == pos.line) = true := by rfl) :
    PE X (.Call (.Attribute o "bit_length" apos) [] [] pos) (rdE c F W ρ (m >>= bitsD)) := by
  refine pe_by (pe_bits h hbase hline) fun σ H Q ⟨P, G, R, q⟩ => ?_
  refine ⟨P, G, R, out_mono (out_bind.mp q) (fun x P1 q1 v H1 G1 e1 R1 r1 => ?_) fun _ _ z => z⟩
  cases x with
  | int i => exact ⟨i, r1.int_of, q1 _ H1 G1 e1 R1 (.int _)⟩
  | _ => exact q1.elim

/-! ### methods of built-ins -/
def tyD (T : String) : D → Bool
  | .str _ => T == "str"
  | .int _ => T == "int"
  | .lst _ => T == "list"
  | .scr _ => T == "list"
  | .dic _ => T == "dict"
  | _ => false
theorem tyD_of {T : String} {P : Pot} {σ : L2.St} {H G : Hp} {x : V} {d : D} (R : Rel c F ρ P σ H G) (r : c.rep G x d) (h : tyD T d = true) : tyV c.K T x H := by
  cases d with
  | str z => rw [r.str_of]; exact eq_of_beq h
  | int z => rw [r.int_of]; exact eq_of_beq h
  | lst xs => cases r with | lst ha hl hr => exact .inl ⟨eq_of_beq h, _, SqL.of (R.post.le _ _ ha)⟩
  | scr xs => cases r with | scr ha => exact .inl ⟨eq_of_beq h, _, Evl.ex_l R.post.le ha⟩
  | dic xs =>
    cases r with
    | dicK ha k hr => exact .inr (.inr (.inl ⟨eq_of_beq h, .inl ⟨_, R.post.le _ _ ha⟩⟩))
    | dicT ha k hr => exact .inr (.inr (.inl ⟨eq_of_beq h, .inr ⟨_, R.post.le _ _ ha⟩⟩))
  | _ => cases h
def MethD (c : Cn) (r : V → List V → Hp → VK → Prop) (f : D → List D → M D) : Prop := ∀ F ρ W P σ H G v vs d ds Q, Rel c F ρ P σ H G → c.rep G v d → c.reps G vs ds →
  out (f d ds) P (fun d P' => ∀ v H' G', Ext G G' → Rel c F ρ P' σ H' G' → c.rep G' v d → Q v H') (exW c F W P G σ) → r v vs H Q
theorem de_meth {o e : Expr} {es : List Expr} {name : Str} {T id : String} {apos cpos : Pos} {r : V → List V → Hp → VK → Prop} {f : D → List D → M D} {mo : M D} {ms : M (List Ar)} (hK : X.K = c.K) (pa : PlainAttrs T) (slot : Slot T name id) (hty : typeOf (.builtin id) = pure (.type "method_descriptor"))
    (hm : MtR X id r) (hf : MethD c r f) (ho : PE X o (rdE c F W ρ mo)) (ha : PA X (e :: es) (rdA c F W ρ ms)) (hbase : attributeBase o name X.env (eval o X.env) = eval o X.env := by rfl)
    (hfew : ((backTo cpos (starEach (e :: es) X.env)).all (fun x => !x.1) && (backToKw cpos (keywordEach [] X.env)).all (fun x => x.1.isSome)
      && decide ((e :: es).length + ([] : List Keyword).length + (if ([] : List Keyword).isEmpty then 0 else 1) < 30)) = true := by rfl)
    (hline : (apos.endLine == cpos.line) = true := by rfl) (hs : starEach (e :: es) X.env = (false, eval e X.env) :: starEach es X.env := by rfl) (hplain : (backTo cpos (starEach es X.env)).any (·.1) = false := by rfl) :
    PE X (.Call (.Attribute o name apos) (e :: es) [] cpos) (rdE c F W ρ (mo >>= fun x => if tyD T x = true then ms >>= fun as => DL.vals as >>= fun ds => f x ds else M.no)) := by
  refine pe_by (pe_bm pa slot hty hm ho ha hbase hfew hline hs hplain) fun σ H Q ⟨P, G, R, q⟩ => ?_
  refine ⟨P, G, R, out_mono (out_bind.mp q) (fun x P1 q1 v H1 G1 e1 R1 r1 => ?_) fun _ _ z => z⟩
  by_cases hT : tyD T x = true
  · simp only [if_pos hT] at q1
    refine ⟨by rw [hK]; exact tyD_of R1 r1 hT, P1, G1, R1, out_mono (out_bind.mp q1) (fun as P2 q2 vs H2 G2 e2 R2 r2 => ?_) fun _ _ z => exW_le e1 z⟩
    obtain ⟨ds, rs, q3⟩ := ArsOk.reps r2 (out_bind.mp q2)
    exact hf F ρ W P2 σ H2 G2 v vs x ds Q R2 (r1.mono e2) rs (out_mono q3 (fun d P3 q3 v3 H3 G3 e3 R3 r3 => q3 v3 H3 G3 ((e1.trans e2).trans e3) R3 r3) fun _ _ z => exW_le (e1.trans e2) z)
  · simp only [if_neg hT] at q1; exact q1.elim
def txs : List D → Option (List Str)
  | [] => some []
  | .str b :: ds => (txs ds).map (b :: ·)
  | _ => none
theorem txs_of {G : Hp} : ∀ {vs : List V} {ds : List D} {bs : List Str}, c.reps G vs ds → txs ds = some bs → vs = bs.map V.str
  | vs, [], bs, r, h => by cases h; rw [r.nil_of']; rfl
  | [], _ :: _, _, r, _ => by have := r.1; simp at this
  | v :: vs, d :: ds, bs, r, h => by
    cases d with
    | str b =>
      simp only [txs, Option.map_eq_some_iff] at h
      obtain ⟨bs', h, rfl⟩ := h
      rw [r.head.str_of, txs_of r.tail h]
      rfl
    | _ => exact nomatch h
def joinS (a : Str) (ds : List D) : M D := match txs ds with
  | some ys => if (ys.map (·.length)).sum + ys.length * a.length ≤ 16777216 then Pure.pure (.str (Txt.join a ys)) else M.no
  | none => M.no
def joinD : D → List D → M D
  | .str a, [.lst ds] => joinS a ds
  | .str a, [.tup ds] => joinS a ds
  | _, _ => M.no
def rJoin (K : PySem.W.Frag) : V → List V → Hp → VK → Prop := fun x xs H Q => ∃ a p, ∃ ys : List Str, x = .str a ∧ xs = [.ref p] ∧ (SqL K H p (ys.map V.str) ∨ SqT K H p (ys.map V.str)) ∧ (ys.map (·.length)).sum + ys.length * a.length ≤ 16777216 ∧ Q (.str (Txt.join a ys)) H
theorem mr_join : MtR X "str.join" (rJoin X.K) := mt_join
theorem joinS_rd {a : Str} {ds : List D} {P : Pot} {ok : D → Pot → Prop} {ex : Ex → Pot → Prop} (h : out (joinS a ds) P ok ex) : ∃ ys, txs ds = some ys ∧ (ys.map (·.length)).sum + ys.length * a.length ≤ 16777216 ∧ ok (.str (Txt.join a ys)) P := by
  unfold joinS at h
  cases e : txs ds with
  | none => rw [e] at h; exact h.elim
  | some ys =>
    rw [e] at h
    by_cases z : (ys.map (·.length)).sum + ys.length * a.length ≤ 16777216
    · simp only [if_pos z] at h; exact ⟨ys, rfl, z, h⟩
    · simp only [if_neg z] at h; exact h.elim
theorem md_join : MethD c (rJoin c.K) joinD := by
  intro F ρ W P σ H G v vs d ds Q R r rs q
  unfold joinD at q
  split at q
  · obtain ⟨v1, rfl, r1⟩ := rs.one
    obtain ⟨ys, h1, h2, q⟩ := joinS_rd q
    cases r1 with
    | lst ha hl hr =>
      have e := txs_of ⟨hl, hr⟩ h1
      subst e
      exact ⟨_, _, ys, r.str_of, rfl, .inl (SqL.of (R.post.le _ _ ha)), h2, q _ H G (Ext.refl _) R (.str _)⟩
  · obtain ⟨v1, rfl, r1⟩ := rs.one
    obtain ⟨ys, h1, h2, q⟩ := joinS_rd q
    cases r1 with
    | tup ha hl hr =>
      have e := txs_of ⟨hl, hr⟩ h1
      subst e
      exact ⟨_, _, ys, r.str_of, rfl, .inr (Evl.ex_t R.post.le ha), h2, q _ H G (Ext.refl _) R (.str _)⟩
  · exact q.elim

/-! ### isinstance -/
def tyN : D → Option String
  | .non => some "NoneType"
  | .bl _ => some "bool"
  | .int _ => some "int"
  | .str _ => some "str"
  | .lst _ => some "list"
  | .scr _ => some "list"
  | .tup _ => some "tuple"
  | .dic _ => some "dict"
  | .ins _ _ => none
  | .cls _ => none
def isB (n T : String) : Bool := n == T || (n == "bool" && T == "int")
theorem kit_isB {n T : String} (hn : n ∈ ["NoneType", "bool", "int", "str", "list", "tuple", "dict"]) (hT : T ∈ ["bool", "int", "str", "list", "tuple", "dict"]) : kitB n T = some (isB n T) := by
  have all : ∀ n ∈ ["NoneType", "bool", "int", "str", "list", "tuple", "dict"], ∀ T ∈ ["bool", "int", "str", "list", "tuple", "dict"], kitB n T = some (isB n T) := by decide +kernel
  exact all n hn T hT
theorem tyX_of {P : Pot} {σ : L2.St} {H G : Hp} {x : V} {d : D} {n : String} (R : Rel c F ρ P σ H G) (r : c.rep G x d) (h : tyN d = some n) : TyX c.K H x (.type n) ∧ n ∈ ["NoneType", "bool", "int", "str", "list", "tuple", "dict"] := by
  cases d with
  | non => cases h; rw [r.non_of]; exact ⟨.base .non, by decide⟩
  | bl b => cases h; rw [r.bl_of]; exact ⟨.base (.bl b), by decide⟩
  | int b => cases h; rw [r.int_of]; exact ⟨.base (.int b), by decide⟩
  | str b => cases h; rw [r.str_of]; exact ⟨.base (.str b), by decide⟩
  | lst xs => cases h; cases r with | lst ha hl hr => exact ⟨.base (.lst (R.post.le _ _ ha)), by decide⟩
  | scr xs =>
    cases h
    cases r with
    | scr ha =>
      refine ⟨?_, by decide⟩
      have := Evl.ex_l R.post.le ha
      rcases this with (h | ⟨o, h⟩) | ⟨o, its, n, h1, h2, h3⟩
      · exact .base (.lst h)
      · exact .base (.frz h)
      · exact .kList h1 h2
  | tup xs =>
    cases h
    cases r with
    | tup ha hl hr =>
      refine ⟨?_, by decide⟩
      have := Evl.ex_t R.post.le ha
      rcases this with (h | ⟨o, h⟩) | ⟨o, its, n, h1, h2, h3⟩
      · exact .base (.tup h)
      · exact .fTuple h
      · exact .kTuple h1 h2
  | dic xs =>
    cases h
    cases r with
    | dicK ha k hr => exact ⟨.base (.dK (R.post.le _ _ ha)), by decide⟩
    | dicT ha k hr => exact ⟨.base (.dT (R.post.le _ _ ha)), by decide⟩
  | ins _ _ => cases h
  | cls _ => cases h
end
end DL

namespace DL
open PySem PySem.Spec PyProof.Rows L2

section
variable {c : Cn} {X : Cx} {F : Fr} {W : WX} {ρ : List Sl}
/-! ### isinstance(x, T) -/
/-- what the written part says of instances of the class cn, asked about u -/
def InsIs (c : Cn) (cn : Str) (u : Value) (b : Bool) : Prop := ∀ C, c.mg cn = some (.ref C) → Cls c.K C ∧ PySem.W.findIn c.K (.ref C) "__class__" = some (some (.builtin "object.__class__")) ∧
  PySem.W.specialIn c.K (.builtin "object.__class__") "__get__" = some (some (.builtin "getset_descriptor.__get__")) ∧ PySem.W.takesIn c.K (.builtin "object.__class__") = some true ∧ PySem.W.mroIn c.K C (.type "object") = some true ∧
  PySem.W.kitOne c.K (.ref C) u = some b
def isiM (bt : String → Option Bool) (own : Str → Option Bool) (d : D) : M D := match d with
  | .ins cn _ => M.some ((own cn).map .bl)
  | d => match tyN d with
    | some n => M.some ((bt n).map .bl)
    | none => M.no
theorem isi_rd {bt : String → Option Bool} {own : Str → Option Bool} {u : Value} {cv : V} (hk : ClsV cv u) (hbt : ∀ n b, n ∈ ["NoneType", "bool", "int", "str", "list", "tuple", "dict"] → bt n = some b → PySem.W.kitOne c.K (.type n) u = some b) (ho : ∀ cn b, own cn = some b → InsIs c cn u b)
    {P : Pot} {σ : L2.St} {H G : Hp} {x : V} {d : D} {Q : VK} (R : Rel c F ρ P σ H G) (r : c.rep G x d)
    (q : out (isiM bt own d) P (fun d P' => ∀ v H' G', Ext G G' → Rel c F ρ P' σ H' G' → c.rep G' v d → Q v H') (exW c F W P G σ)) : rIsi c.K [x, cv] H Q := by
  have base : ∀ n, tyN d = some n → out (M.some ((bt n).map D.bl)) P (fun d P' => ∀ v H' G', Ext G G' → Rel c F ρ P' σ H' G' → c.rep G' v d → Q v H') (exW c F W P G σ) → rIsi c.K [x, cv] H Q := fun n hn q => by
    obtain ⟨d', h, q⟩ := out_some.mp q
    rw [Option.map_eq_some_iff] at h
    obtain ⟨b, h, rfl⟩ := h
    obtain ⟨t, m⟩ := tyX_of R r hn
    exact ⟨x, cv, _, u, b, rfl, hk, t, hbt n b m h, q _ H G (Ext.refl _) R (.bl _)⟩
  cases d with
  | ins cn fs =>
    obtain ⟨d', h, q⟩ := out_some.mp q
    rw [Option.map_eq_some_iff] at h
    obtain ⟨b, h, rfl⟩ := h
    cases r with
    | ins ha hc k hr =>
      obtain ⟨h1, h2, h3, h4, h5, h6⟩ := ho cn b h _ hc
      exact ⟨_, cv, _, u, b, rfl, hk, .base (.ins (R.post.le _ _ ha) h1 h2 h3 h4 h5), h6, q _ H G (Ext.refl _) R (.bl _)⟩
  | non => exact base "NoneType" rfl q
  | bl b => exact base "bool" rfl q
  | int b => exact base "int" rfl q
  | str b => exact base "str" rfl q
  | lst b => exact base "list" rfl q
  | scr b => exact base "list" rfl q
  | tup b => exact base "tuple" rfl q
  | dic b => exact base "dict" rfl q
  | cls _ => exact q.elim
theorem de_isiX {bt : String → Option Bool} {own : Str → Option Bool} {u : Value} {cv : V} {a e : Expr} {p pos : Pos} {m : M D} (hK : X.K = c.K) (hk : ClsV cv u) (hbt : ∀ n b, n ∈ ["NoneType", "bool", "int", "str", "list", "tuple", "dict"] → bt n = some b → PySem.W.kitOne c.K (.type n) u = some b) (ho : ∀ cn b, own cn = some b → InsIs c cn u b)
    (hg : Gl X "isinstance") (hm : X.mg "isinstance" = none) (ha : PE X a (rdE c F W ρ m)) (he : PE X e (tC cv)) (h1 : starEach (a :: [e]) X.env = (false, eval a X.env) :: starEach [e] X.env := by rfl) (h2 : starEach (e :: []) X.env = (false, eval e X.env) :: starEach [] X.env := by rfl)
    (hpl : (backTo pos (starEach [e] X.env)).any (·.1) = false := by rfl) : PE X (.Call (.Name "isinstance" p) [a, e] [] pos) (rdE c F W ρ (m >>= isiM bt own)) := by
  have hargs : PA X [a, e] (tCons (rdE c F W ρ m) (tCons (tC cv) tNil)) := pa_cons ha (pa_cons he pa_nil h2) h1
  refine pe_by (pe_callB call_isi hg hm PyProof.Rows.boot_isinstance hargs (by decide) (by decide) h1 hpl) fun σ H Q ⟨P, G, R, q⟩ => ?_
  refine ⟨P, G, R, out_mono (out_bind.mp q) (fun x P1 q1 v H1 G1 e1 R1 r1 => ?_) fun _ _ z => z⟩
  show rIsi X.K [v, cv] H1 Q
  rw [hK]
  exact isi_rd (W := W) hk hbt ho R1 r1 (out_mono q1 (fun d P3 q3 v3 H3 G3 e3 R3 r3 => q3 v3 H3 G3 (e1.trans e3) R3 r3) fun _ _ z => exW_le e1 z)
def isiD (T : String) : D → M D := isiM (fun n => some (isB n T)) fun _ => none
theorem de_isi {T : String} {y : Str} {a : Expr} {p py pos : Pos} {m : M D} (hK : X.K = c.K) (hT : T ∈ ["bool", "int", "str", "list", "tuple", "dict"]) (hg : Gl X "isinstance") (hm : X.mg "isinstance" = none) (ha : PE X a (rdE c F W ρ m)) (hgy : Gl X y) (hmy : X.mg y = none) (hv : bootBuiltins y = some (.type T))
    (h1 : starEach (a :: [.Name y py]) X.env = (false, eval a X.env) :: starEach [.Name y py] X.env := by rfl) (h2 : starEach (.Name y py :: []) X.env = (false, eval (.Name y py) X.env) :: starEach [] X.env := by rfl)
    (hpl : (backTo pos (starEach [.Name y py] X.env)).any (·.1) = false := by rfl) (hn : y ≠ "__name__" := by decide) (hd : (y == ("__debug__" : Str)) = false := by decide) : PE X (.Call (.Name "isinstance" p) [a, .Name y py] [] pos) (rdE c F W ρ (m >>= isiD T)) :=
  de_isiX (cv := .ty T) hK (.ty T) (fun n b hn h => by cases h; exact kit_ty (kit_isB hn hT)) (fun _ _ h => nomatch h) hg hm ha (pe_bltn hgy hmy hv rfl hn hd) h1 h2 hpl

/-! ### the pot -/
def potGet (y : D) : M D := fun P => match P, y with
  | some ds, .int i => match atI ds i with
    | some d => .ok d (some ds)
    | none => .no
  | _, _ => .no
def potSet (y d : D) : M Unit := fun P => match P, y with
  | some ds, .int i => match ixN ds.length i with
    | some j => .ok () (some (ds.set j d))
    | none => .no
  | _, _ => .no
theorem Rel.pot_at {P : Pot} {σ : L2.St} {H G : Hp} {a : Addr} (R : Rel c F ρ P σ H G) (h : F.ap = some a) : ∃ ds vs, P = some ds ∧ H a = some (.lst vs) ∧ c.reps G vs ds ∧ G a = none := by
  have z := R.post.pot
  rw [h] at z
  cases P with
  | none => exact z.elim
  | some ds => obtain ⟨vs, z⟩ := z; exact ⟨ds, vs, rfl, z⟩
theorem de_potIx {i : Nat} {x : Str} {p pos : Pos} {b : Expr} {mb : M D} (hK : X.K = c.K) (hi : ρ[i]? = some .p) (hx : PE X (.Name x p) (tVar i)) (hb : PE X b (rdE c F W ρ mb)) (hs : PlainIx b) : PE X (.Subscript (.Name x p) b pos) (rdE c F W ρ (mb >>= potGet)) := by
  refine pe_by (pe_ix (X := X) ix_seq hx hb hs (pos := pos)) fun σ H Q ⟨P, G, R, q⟩ => ?_
  have hl : i < σ.length := by rw [R.len]; exact (List.getElem?_eq_some_iff.mp hi).1
  obtain ⟨a, ea, e⟩ := R.sl i _ _ hi (List.getElem?_eq_getElem hl)
  refine ⟨.ref a, by rw [List.getElem?_eq_getElem hl, e], P, G, R, out_mono (out_bind.mp q) (fun y P1 q1 u H1 G1 e1 R1 r1 => ?_) fun _ _ z => z⟩
  obtain ⟨ds, vs, rfl, h1, h2, h3⟩ := R1.pot_at ea
  cases y with
  | int k =>
    cases hd : atI ds k with
    | none =>
      have : (potGet (.int k)) (some ds) = .no := by unfold potGet; simp only [hd]
      unfold out at q1
      rw [this] at q1
      exact q1.elim
    | some d =>
      have : (potGet (.int k)) (some ds) = .ok d (some ds) := by unfold potGet; simp only [hd]
      have q2 := (out_eq this).mp q1
      obtain ⟨v, h4, h5⟩ := atI_rep h2 hd
      rw [hK]
      exact .inl ⟨a, vs, k, v, rfl, r1.int_of, SqL.of h1, h4, q2 v H1 G1 e1 R1 h5⟩
  | _ => exact q1.elim
theorem Reps.set {G : Hp} {vs : List V} {ds : List D} {v : V} {d : D} (h : c.reps G vs ds) (r : c.rep G v d) (j : Nat) : c.reps G (vs.set j v) (ds.set j d) := by
  refine ⟨by simp [h.1], fun i w e a b => ?_⟩
  rw [List.getElem?_set] at a b
  by_cases z : j = i
  · rw [if_pos z] at a b
    split at a
    · split at b
      · cases a; cases b; exact r
      · cases b
    · cases a
  · rw [if_neg z] at a b
    exact h.2 i w e a b
theorem Rel.potSet {ds ds' : List D} {vs' : List V} {σ : L2.St} {H G : Hp} {a : Addr} (R : Rel c F ρ (some ds) σ H G) (ha : F.ap = some a) (r : c.reps G vs' ds') : Rel c F ρ (some ds') σ (upd H a (.lst vs')) G := by
  obtain ⟨_, vs, _, h1, h2, h3⟩ := R.pot_at ha
  have ne : ∀ b u, G b = some u → b ≠ a := fun b u e z => by rw [z, h3] at e; cases e
  refine ⟨⟨R.post.ext, fun b u e => ?_, fun b u e n t => ?_, R.post.new, ?_, tabs_upd R.post.tab (fun u e => ?_), R.post.nt, fun b ps e => ?_⟩, R.len, fun i s x p q => ?_, R.ap⟩
  · rw [upd_ne (ne b u e)]; exact R.post.le b u e
  · rw [upd_ne (fun z => n (by rw [z, ha]))]; exact R.post.fr b u e n t
  · rw [ha]; exact ⟨vs', upd_same, r, h3⟩
  · rw [h1] at e; cases e; exact ⟨nofun, nofun⟩
  · obtain ⟨qs, z⟩ := R.post.tb b ps e
    exact ⟨qs, by rw [upd_ne (fun q => by rw [q, h1] at z; cases z)]; exact z⟩
  · have z := R.sl i s x p q
    cases s with
    | un => exact True.intro
    | v d => exact z
    | p => exact z
    | o k =>
      obtain ⟨ad, e, ⟨u, hu, hk⟩, g, h, n⟩ := z
      exact ⟨ad, e, ⟨u, by rw [upd_ne (fun w => n (by rw [w, ha]))]; exact hu, hk⟩, g, h, n⟩
theorem ds_potSet {α : Type} {E : α → List Sl} {i : Nat} {x : Str} {p p2 pos : Pos} {b e : Expr} {mb me : M D} {a : α} (hi : ρ[i]? = some .p) (hx : PE X (.Name x p) (tVar i)) (hb : PE X b (rdE c F W ρ mb)) (he : PE X e (rdE c F W ρ me)) (hE : E a = ρ)
    (ha : ∀ v, assign (.Subscript (.Name x p) b p2) X.env v = (do
      let ov ← holding [v] (eval (.Name x p) X.env)
      let iv ← holding [v, ov] (eval b X.env)
      standAt p2
      holding [v, ov, iv] (setItem ov iv v)
      release [v, ov, iv] []) := by intro _; rfl)
    (hs : swapsWithSole [.Subscript (.Name x p) b p2] e pos.line X.env = pure false := by rfl) (hw : swappedStores [.Subscript (.Name x p) b p2] e X.env = pure none := by rfl)
    (h1 : (assignEach [.Subscript (.Name x p) b p2] X.env).map (·.2) = [assign (.Subscript (.Name x p) b p2) X.env] := by rfl) :
    PS X (.Assign [.Subscript (.Name x p) b p2] e pos) (rdS c F W ρ E (me >>= fun d => mb >>= fun y => potSet y d >>= fun _ => Pure.pure (.nx a))) := by
  refine ps_by (ps_asg he (pg_sub hx hb set_list ha) hs hw h1) fun B σ H ⟨P, G, R, q⟩ => ?_
  refine ⟨P, G, R, out_mono (out_bind.mp q) (fun d P1 q1 v H1 G1 e1 R1 r1 => ?_) fun _ _ z => exS.w z⟩
  have hl : i < σ.length := by rw [R.len]; exact (List.getElem?_eq_some_iff.mp hi).1
  obtain ⟨ad, ea, e⟩ := R1.sl i _ _ hi (List.getElem?_eq_getElem hl)
  refine ⟨.ref ad, by rw [List.getElem?_eq_getElem hl, e], P1, G1, R1, out_mono (out_bind.mp q1) (fun y P2 q2 u H2 G2 e2 R2 r2 => ?_) fun _ _ z => exW_le (P := P) e1 (exS.w z)⟩
  obtain ⟨ds, vs, rfl, g1, g2, g3⟩ := R2.pot_at ea
  have q3 := out_bind.mp q2
  cases y with
  | int k =>
    cases hd : ixN ds.length k with
    | none =>
      have : (potSet (.int k) d) (some ds) = .no := by unfold potSet; simp only [hd]
      unfold out at q3
      rw [this] at q3
      exact q3.elim
    | some j =>
      have : (potSet (.int k) d) (some ds) = .ok () (some (ds.set j d)) := by unfold potSet; simp only [hd]
      have q4 := (out_eq this).mp q3
      have q5 : ∀ σ' H' G', Ext G G' → Rel c F (E a) (some (ds.set j d)) σ' H' G' → B.nx σ' H' := q4
      refine ⟨ad, vs, k, j, rfl, r2.int_of, g1, by rw [g2.1]; exact hd, q5 σ _ G2 (e1.trans e2) ?_⟩
      rw [hE]
      exact R2.potSet ea (g2.set (r1.mono e2) j)
  | _ => exact q3.elim

/-! ### a, b = x, y -/
def two (k : D → D → M (Fl (D × D))) : List D → M (Fl (D × D))
  | [x, y] => k x y
  | _ => M.no
theorem ds_par {i j : Nat} {x y : Str} {a b : Expr} {px py pt : Pos} {kt k2 pt2 pos} {ms : M (List Ar)} (hc : X.calm = true) (hN : X.N.Nodup) (hi : X.N[i]? = some x) (hj : X.N[j]? = some y) (hij : i ≠ j)
    (hx : X.env.scope.names.lookup x = some .local) (hy : X.env.scope.names.lookup y = some .local) (ha : PA X [a, b] (rdA c F W ρ ms))
    (hw : swappedStores [.Tuple [.Name x px, .Name y py] kt pt] (.Tuple [a, b] k2 pt2) X.env = pure (some [x, y]))
    (hs : swapsWithSole [.Tuple [.Name x px, .Name y py] kt pt] (.Tuple [a, b] k2 pt2) pos.line X.env = pure false := by rfl) :
    PS X (.Assign [.Tuple [.Name x px, .Name y py] kt pt] (.Tuple [a, b] k2 pt2) pos) (rdS c F W ρ (fun d => (ρ.set i (.v d.1)).set j (.v d.2)) (ms >>= fun as => DL.vals as >>= two fun d e => Pure.pure (.nx (d, e)))) := by
  refine ps_by (ps_par hc hN hi hj hij hx hy ha hw hs) fun B σ H ⟨P, G, R, q⟩ => ?_
  refine ⟨P, G, R, out_mono (out_bind.mp q) (fun as P1 q1 vs H1 G1 e1 R1 r1 => ?_) fun _ _ z => exS.w z⟩
  obtain ⟨ds, rs, q2⟩ := ArsOk.reps r1 (out_bind.mp q1)
  match ds, q2 with
  | [d, e], q2 =>
    obtain ⟨v, u, rfl, rv, ru⟩ := rs.two
    have q3 : ∀ σ' H' G', Ext G G' → Rel c F ((ρ.set i (.v d)).set j (.v e)) P1 σ' H' G' → B.nx σ' H' := q2
    exact ⟨v, u, rfl, q3 _ H1 G1 e1 ((R1.set rv).set ru)⟩
  | [], q2 => exact q2.elim
  | [_], q2 => exact q2.elim
  | _ :: _ :: _ :: _, q2 => exact q2.elim
end
end DL

namespace DL
open PySem PySem.Spec PyProof.Rows L2

section
variable {c : Cn} {X : Cx} {F : Fr} {W : WX} {ρ : List Sl} {α β : Type} {k : Nat}
/-! ### raise C('..'), C without an __init__ of its own -/
theorem ds_raise0 {E : α → List Sl} {C : Addr} {bmB : List Value} {B newId initId : String} {x m : Str} {j : Nat} {p p2 pos pos2 : Pos} (hm : X.mg = c.mg) (hK : X.K = c.K) (hc : X.calm = true) (tk : Takes X W) (Fb : ExcBaseFacts B newId initId bmB) (q : PySem.W.excIn c.K C bmB newId = true) (gC : c.mg x = some (.ref C)) (kC : PySem.W.keepIn c.K (.ref C) = true)
    (h1 : PySem.W.subIn c.K (.ref C) (.type "BaseException") = some true) (h2 : PySem.W.typeIn c.K (.ref C) = some (.type "type")) (hg : Gl X x) (hdb : (x == ("__debug__" : Str)) = false := by decide) :
    PS X (.Raise (some (.Call (.Name x p) [.Constant (.str m) j p2] [] pos)) none pos2) (rdS c F W ρ E (M.raise ⟨x, none⟩)) := by
  refine ps_by (ps_raise hc tk (pmk_own (X := X) Fb (by rw [hK]; exact q) (by rw [hm]; exact gC) (by rw [hK]; exact kC) (raises_own (by rw [hK]; exact h1) (by rw [hK]; exact h2)) hg hdb)) fun D σ H ⟨P, G, R, z⟩ => ?_
  exact z (.ref C) none H G ρ σ (Ext.refl _) R ⟨gC, True.intro⟩

/-! ### try: one expression -/
/-- the clauses: of which exceptions they are, what the suite does -/
abbrev Hd (β : Type) := (Str → Option Bool) × (Ex → M (Fl β))
def pick : List (Hd β) → Ex → M (Fl β)
  | [], e => M.raise e
  | (is, ms) :: r, e => match is e.c with
    | some true => noEx (ms e)
    | some false => pick r e
    | none => M.no
def tryF (m : M (Fl β)) (hs : List (Hd β)) : M (Fl β) := fun P => match m P with
  | .ex e p => pick hs e p
  | r => r
/-- what a suite is given -/
def tSuite (c : Cn) (F : Fr) (ρ : List Sl) (E : β → List Sl) (h : Hd β) : Addr → Value → Option Addr → TS := fun _ cl dd B σ H => ∃ e G, h.1 e.c = some true ∧ ExOk c H G e cl dd ∧ rdS c F W0 ρ E (h.2 e) B σ H
structure HdOk (c : Cn) (is : Str → Option Bool) (cv : Value) : Prop where
  ok : ∀ cn b, is cn = some b → ∀ cl, c.mg cn = some cl → PySem.W.exmOne c.K cl cv = some b
inductive HdsD (c : Cn) (X : Cx) (F : Fr) (ρ : List Sl) (E : β → List Sl) : List ExceptHandler → List (Value × (Addr → Value → Option Addr → TS)) → List (Hd β) → Prop
  | nil : HdsD c X F ρ E [] [] []
  | cons {x : Str} {cv : Value} {b₀ : Stmt} {suite : List Stmt} {np pos' : Pos} {h : Hd β} {hds : List ExceptHandler} {l : List (Value × (Addr → Value → Option Addr → TS))} {r : List (Hd β)} (hc : Names X x cv) (ok : HdOk c h.1 cv)
      (hsu : ∀ (a : Addr) (oe : Obj) (pn : List (Addr × Obj)) (e : Ex), h.1 e.c = some true → PSs (X.suite a ((a, oe) :: pn)) (b₀ :: suite) (rdS c F W0 ρ E (h.2 e))) (t : HdsD c X F ρ E hds l r) :
      HdsD c X F ρ E (.ExceptHandler (some (.Name x np)) none (b₀ :: suite) pos' :: hds) ((cv, tSuite c F ρ E h) :: l) (h :: r)
theorem HdsD.hds {E : β → List Sl} {hds : List ExceptHandler} {l : List (Value × (Addr → Value → Option Addr → TS))} {r : List (Hd β)} (h : HdsD c X F ρ E hds l r) : HdsOk X hds l := by
  induction h with
  | nil => exact .nil
  | cons hc ok hsu t ih =>
    refine .cons hc (fun a oe cls d pn hz hf => ⟨fun pins s σ H D I ⟨e, G, he, _, q⟩ => ?_⟩) ih
    exact (hsu a oe pn e he).run pins s σ H D I q
theorem HdsD.want {E : β → List Sl} {hds : List ExceptHandler} {l : List (Value × (Addr → Value → Option Addr → TS))} {r : List (Hd β)} (h : HdsD c X F ρ E hds l r) (hK : X.K = c.K) {D : Ends} {e : Ex} {cl : Value} {dd : Option Addr} {σ : L2.St} {H G : Hp} {P : Pot} (R : Rel c F ρ P σ H G) (x : ExOk c H G e cl dd)
    (q : out (pick r e) P (ends c F E D G) (exS c F W P G σ)) : wMany X.K W D l cl dd σ H := by
  induction h with
  | nil => exact q cl dd H G ρ σ (Ext.refl _) R x
  | @cons y cv b₀ suite np pos' h hds l r hc ok hsu t ih =>
    unfold pick at q
    cases hi : h.1 e.c with
    | none => simp only [hi] at q; exact q.elim
    | some b =>
      have hb : PySem.W.exmOne X.K cl cv = some b := by rw [hK]; exact ok.ok _ _ hi _ x.1
      cases b with
      | true =>
        simp only [hi] at q
        refine ⟨true, hb, fun _ a na => ⟨e, G, hi, x, P, G, R, ?_⟩, fun z => nomatch z⟩
        exact out_mono (out_noEx q) (fun f p z => z) fun _ _ z => z.elim
      | false =>
        simp only [hi] at q
        exact ⟨false, hb, fun z => (nomatch z), fun _ => ih q⟩
/-- try: e, except .. -/
theorem ds_tryE {E : β → List Sl} {e : Expr} {m : M D} {b : β} {h₀ : ExceptHandler} {hds : List ExceptHandler} {l : List (Value × (Addr → Value → Option Addr → TS))} {r : List (Hd β)} {epos pos : Pos} (hK : X.K = c.K) (hs : X.stack = X.env :: X.outer) (hf : X.env.frame = some X.env.locals) (tk : Takes X W)
    (he : ∀ (W : WX) (pn : List (Addr × Obj)) (xe : Value → Shared → Prop) (G0 H0 : Hp), Takes (X.tr pn xe) W → PassesOwn (model X.prog X.w) X.A X.env xe → PE (X.tr pn xe) e (rdE c ⟨G0, H0, F.ap⟩ W (ρ.map unO) m))
    (hb : E b = ρ) (hh : HdsD c X F ρ E (h₀ :: hds) l r) (hsw : swapsWith e none epos.line X.env = pure false := by rfl) :
    PS X (.Try [.Expr e epos] (h₀ :: hds) [] [] pos) (rdS c F W ρ E (tryF (m >>= fun _ => Pure.pure (.nx b)) r)) := by
  refine ps_by (ps_try_many (tb := fun W' => fun D σ H => ∃ G0 H0, rdE c ⟨G0, H0, F.ap⟩ W' (ρ.map unO) m σ H fun _ H1 => D.nx σ H1) hs hf tk (fun W' pn xe t po => ?_) hh.hds) fun D σ H ⟨P, G, R, q⟩ => ?_
  · refine ⟨fun pins s σ H D I ⟨G0, H0, q⟩ => ?_⟩
    exact (pss_one (ps_expr (he W' pn xe G0 H0 t po) hsw)).run pins s σ H D I q
  · refine ⟨G, H, P, G, R.sub, ?_⟩
    have q : out (tryF (m >>= fun _ => Pure.pure (.nx b)) r) P (ends c F E D G) (exS c F W P G σ) := q
    unfold out tryF at q
    unfold out
    cases hm : m P with
    | ok d p =>
      have hm2 : (m >>= fun _ => (Pure.pure (.nx b) : M (Fl β))) P = .ok (.nx b) p := bind_ok hm
      rw [hm2] at q
      have q' : ∀ σ' H' G', Ext G G' → Rel c F (E b) p σ' H' G' → D.nx σ' H' := q
      exact fun v H' G' e R' _ => q' σ H' G' e (by rw [hb]; exact R.after R'.post)
    | ex e p =>
      have hm2 : (m >>= fun _ => (Pure.pure (.nx b) : M (Fl β))) P = .ex e p := bind_ex hm
      rw [hm2] at q
      exact fun cl dd H' G' ρ' e' R' x => hh.want hK (R.after R'.post) x (out_mono (show out (pick r e) p (ends c F E D G) (exS c F W P G σ) from q) (fun f P z => ends_le e' z) fun _ _ z => exS_le e' z)
    | no =>
      have hm2 : (m >>= fun _ => (Pure.pure (.nx b) : M (Fl β))) P = .no := bind_no hm
      rw [hm2] at q
      exact q.elim
/-- try: return e, except .. -/
theorem ds_tryR {E : β → List Sl} {e : Expr} {m : M D} {h₀ : ExceptHandler} {hds : List ExceptHandler} {l : List (Value × (Addr → Value → Option Addr → TS))} {r : List (Hd β)} {epos pos : Pos} (hK : X.K = c.K) (hs : X.stack = X.env :: X.outer) (hf : X.env.frame = some X.env.locals) (tk : Takes X W)
    (he : ∀ (W : WX) (pn : List (Addr × Obj)) (xe : Value → Shared → Prop) (G0 H0 : Hp), Takes (X.tr pn xe) W → PassesOwn (model X.prog X.w) X.A X.env xe → PE (X.tr pn xe) e (rdE c ⟨G0, H0, F.ap⟩ W (ρ.map unO) m))
    (hh : HdsD c X F ρ E (h₀ :: hds) l r) :
    PS X (.Try [.Return (some e) epos] (h₀ :: hds) [] [] pos) (rdS c F W ρ E (tryF (m >>= fun d => Pure.pure (.rt d)) r)) := by
  refine ps_by (ps_try_many (tb := fun W' => fun D σ H => ∃ G0 H0, rdE c ⟨G0, H0, F.ap⟩ W' (ρ.map unO) m σ H fun v H1 => D.rt v H1) hs hf tk (fun W' pn xe t po => ?_) hh.hds) fun D σ H ⟨P, G, R, q⟩ => ?_
  · refine ⟨fun pins s σ H D I ⟨G0, H0, q⟩ => ?_⟩
    exact (pss_one (ps_ret (he W' pn xe G0 H0 t po))).run pins s σ H D I q
  · refine ⟨G, H, P, G, R.sub, ?_⟩
    have q : out (tryF (m >>= fun d => Pure.pure (.rt d)) r) P (ends c F E D G) (exS c F W P G σ) := q
    unfold out tryF at q
    unfold out
    cases hm : m P with
    | ok d p =>
      have hm2 : (m >>= fun d => (Pure.pure (.rt d) : M (Fl β))) P = .ok (.rt d) p := bind_ok hm
      rw [hm2] at q
      have q' : ∀ v H' G' ρ' σ', Ext G G' → Rel c F ρ' p σ' H' G' → c.rep G' v d → D.rt v H' := q
      exact fun v H' G' e R' r' => q' v H' G' ρ σ e (R.after R'.post) r'
    | ex e p =>
      have hm2 : (m >>= fun d => (Pure.pure (.rt d) : M (Fl β))) P = .ex e p := bind_ex hm
      rw [hm2] at q
      exact fun cl dd H' G' ρ' e' R' x => hh.want hK (R.after R'.post) x (out_mono (show out (pick r e) p (ends c F E D G) (exS c F W P G σ) from q) (fun f P z => ends_le e' z) fun _ _ z => exS_le e' z)
    | no =>
      have hm2 : (m >>= fun d => (Pure.pure (.rt d) : M (Fl β))) P = .no := bind_no hm
      rw [hm2] at q
      exact q.elim

/-! ### the return of a new list -/
def mkN (ds : List D) : M (List D) := if ds.length ≤ sizeLine then Pure.pure ds else M.no
def thenF (m : M (Fl α)) (k : α → M (List D)) : M (List D) := m >>= fun f => match f with
  | .nx a => k a
  | _ => M.no
theorem df_ret {es : List Expr} {p pos : Pos} {ms : M (List Ar)} (h : PA X es (rdA c F W ρ ms)) : PSs X [.Return (some (.List es p)) pos] (rdF c F W ρ (ms >>= fun as => DL.vals as >>= mkN)) := by
  refine pss_by (pss_one (ps_ret (pe_lst h))) fun B σ H ⟨P, G, R, q⟩ => ?_
  refine ⟨P, G, R, out_mono (out_bind.mp q) (fun as P1 q1 vs H1 G1 e1 R1 r1 => ?_) fun _ _ z => exS.w z⟩
  obtain ⟨ds, rs, q2⟩ := ArsOk.reps r1 (out_bind.mp q1)
  unfold mkN at q2
  by_cases z : ds.length ≤ sizeLine
  · simp only [if_pos z] at q2
    refine ⟨by rw [rs.1]; exact z, fun p hp => ?_⟩
    have q3 : ∀ p vs H' G' ρ' σ', Ext G G' → Rel c F ρ' P1 σ' H' G' → H' p = some (.lst vs) → G' p = none → F.H0 p = none → some p ≠ F.ap → c.reps G' vs ds → B.rt (.ref p) H' := q2
    exact q3 p vs _ G1 ρ σ e1 (R1.newM hp) upd_same (R1.post.g_none hp) (R1.post.h0 hp) (R1.ne_ap hp) rs
  · simp only [if_neg z] at q2; exact q2.elim
theorem df_cons {E : α → List Sl} {st : Stmt} {rest : List Stmt} {m : M (Fl α)} {g : α → M (List D)} (h1 : PS X st (rdS c F W ρ E m)) (h2 : ∀ a, PSs X rest (rdF c F W (E a) (g a))) : PSs X (st :: rest) (rdF c F W ρ (thenF m g)) := by
  refine ⟨fun pins s σ H B I ⟨P, G, R, q⟩ => ?_⟩
  have step := h1.run pins s σ H { nx := fun σ' H' => ∃ a, rdF c F W (E a) (g a) B σ' H', bk := fun _ _ => False, ct := fun _ _ => False, rt := fun _ _ => False } I ⟨P, G, R, out_mono (out_bind.mp q) (fun f P1 q1 => ?_) fun _ _ z => z⟩
  · refine wpAny_execs_cons (thn step fun fl s1 z => ?_)
    cases fl with
    | next =>
      obtain ⟨σ1, H1, I1, a, z⟩ := z
      exact (h2 a).run pins s1 σ1 H1 B I1 z
    | ret u => obtain ⟨_, _, _, _, _, z⟩ := z; exact z.elim
    | brk => obtain ⟨_, _, _, z⟩ := z; exact z.elim
    | cont => obtain ⟨_, _, _, z⟩ := z; exact z.elim
  · cases f with
    | nx a => exact fun σ' H' G' e R' => ⟨a, P1, G', R', out_mono (show out (g a) P1 _ _ from q1) (fun ds P2 z p vs H2 G2 ρ2 σ2 e2 R2 => z p vs H2 G2 ρ2 σ2 (e.trans e2) R2) fun _ _ z => exS_le e z⟩
    | rt d => exact (show False from q1).elim
    | bk a => exact (show False from q1).elim
    | ct a => exact (show False from q1).elim

/-! ### the pot is made -/
theorem Rel.toPot {σ : L2.St} {H G : Hp} {p : Addr} {i : Nat} {vs : List V} {ds : List D} (R : Rel c F ρ none σ H G) (hF : F.ap = none) (hp : H p = some (.lst vs)) (hg : G p = none) (h0 : F.H0 p = none) (r : c.reps G vs ds)
    (ow : ∀ (i : Nat) k, ρ[i]? = some (.o k) → σ[i]? ≠ some (some (V.ref p))) : Rel c ⟨F.G0, F.H0, some p⟩ (ρ.set i .p) (some ds) (σ.set i (some (.ref p))) H G := by
  refine ⟨⟨R.post.ext, R.post.le, fun b o e n t => R.post.fr b o e (by rw [hF]; exact nofun) t, R.post.new, ⟨vs, hp, r, hg⟩, R.post.tab, R.post.nt, R.post.tb⟩, by simp [R.len], fun j s x a b => ?_, fun j j' k k' a h1 h2 h3 h4 => ?_⟩
  · rw [List.getElem?_set] at a b
    by_cases e : i = j
    · rw [if_pos e] at a b
      split at a
      · split at b
        · cases a; cases b; exact ⟨p, rfl, rfl⟩
        · cases b
      · cases a
    · rw [if_neg e] at a b
      have z := R.sl j s x a b
      cases s with
      | un => exact True.intro
      | v d => exact z
      | p => obtain ⟨_, z, _⟩ := z; rw [hF] at z; cases z
      | o k =>
        obtain ⟨ad, e, u, g, h, n⟩ := z
        exact ⟨ad, e, u, g, h, fun z => ow j k a (by rw [b, e]; cases z; rfl)⟩
  · have ne : ∀ {m : Nat} {kk : Cel}, (ρ.set i Sl.p)[m]? = some (.o kk) → i ≠ m := fun {m kk} h e => by
      rw [List.getElem?_set, if_pos e] at h
      split at h <;> cases h
    have n1 := ne h1
    have n2 := ne h2
    rw [List.getElem?_set_ne n1] at h1 h3
    rw [List.getElem?_set_ne n2] at h2 h4
    exact R.ap j j' k k' a h1 h2 h3 h4
def unP : Sl → Sl
  | .p => .un
  | s => s
theorem Rel.ofPot {σ : L2.St} {H G : Hp} {p : Addr} {ds : List D} (R : Rel c ⟨F.G0, F.H0, some p⟩ ρ (some ds) σ H G) (hF : F.ap = none) (h0 : F.H0 p = none) : Rel c F (ρ.map unP) none σ H G := by
  have back : ∀ (i : Nat) k, (ρ.map unP)[i]? = some (.o k) → ρ[i]? = some (.o k) := fun i k e => by
    rw [List.getElem?_map] at e
    cases h : ρ[i]? with
    | none => rw [h] at e; cases e
    | some s => rw [h] at e; cases s <;> simp [unP] at e; rw [e]
  refine ⟨⟨R.post.ext, R.post.le, fun b o e n t => R.post.fr b o e (fun z => by cases z; rw [h0] at e; cases e) t, R.post.new, by rw [hF]; exact True.intro, R.post.tab, R.post.nt, R.post.tb⟩, by simpa using R.len, fun j s x a b => ?_, fun j j' k k' a h1 h2 h3 h4 => R.ap j j' k k' a (back _ _ h1) (back _ _ h2) h3 h4⟩
  rw [List.getElem?_map] at a
  cases h : ρ[j]? with
  | none => rw [h] at a; cases a
  | some s' =>
    rw [h] at a
    have z := R.sl j s' x h b
    cases s' <;> cases a
    · exact True.intro
    · exact z
    · obtain ⟨ad, e, u, g, h, n⟩ := z
      exact ⟨ad, e, u, g, h, by rw [hF]; exact nofun⟩
    · exact True.intro
/-- a call of a def that returns a new list -/
def rdN (c : Cn) (F : Fr) (W : WX) (ρ : List Sl) (m : M (List D)) : TE := fun σ H Q => ∃ P G, Rel c F ρ P σ H G ∧ out m P (fun ds P' => ∀ p vs H' G', Ext G G' → Rel c F ρ P' σ H' G' → H' p = some (.lst vs) → G' p = none → F.H0 p = none → some p ≠ F.ap → (∀ (i : Nat) k, ρ[i]? = some (.o k) → σ[i]? ≠ some (some (V.ref p))) → c.reps G' vs ds → Q (.ref p) H') (exW c F W P G σ)
theorem de_callF {f : Addr} {fd : FuncData} {mf : List Ar → M (List D)} {ms : M (List Ar)} {x : Str} {p pos : Pos} {e : Expr} {es : List Expr} {ps : List Str} (C : Ctx c X k) (tk : Takes X W)
    (fn : FnG X.prog X.w X.K X.mg X.base k f fd ps (spF c mf)) (hg : Gl X x) (hm : c.mg x = some (.ref f)) (hk : PySem.W.keepIn c.K (.ref f) = true) (hb : Binds c.K fd ps [])
    (ha : PA X (e :: es) (rdA c F W ρ ms)) (hdb : (x == ("__debug__" : Str)) = false := by decide) (he : starEach (e :: es) X.env = (false, eval e X.env) :: starEach es X.env := by rfl) (hpl : (backTo pos (starEach es X.env)).any (·.1) = false := by rfl) :
    PE X (.Call (.Name x p) (e :: es) [] pos) (rdN c F W ρ (ms >>= mf)) := by
  refine ⟨fun pins s σ H Q I ⟨P, G, R, q⟩ => ?_⟩
  have hx : X.mg x = some (.ref f) := by rw [C.mg]; exact hm
  have kf : PySem.W.keepIn X.K (.ref f) = true := by rw [C.K]; exact hk
  have hb' : Binds X.K fd ps [] := by rw [C.K]; exact hb
  refine wpAny_Call_Name_kw (ld_glob I hg hx ?_ hdb)
  have step := ha.run pos pins s σ H (fun vs H1 => spF c mf vs H1 Q (WE W σ)) I
    ⟨P, G, R, out_mono (out_bind.mp q) (fun as P1 q1 vs H1 G1 e1 R1 r1 => ?_) fun _ _ z => z⟩
  · exact PySem.W.callWith_K (h₀ := X.base) I.ok.mod.kin kf (thn step fun us s1 ⟨vs, H1, I1, rv, z⟩ => ⟨I1.kIn, run_g C.ga C.rm tk fn hb' I1 rv z⟩) he hpl
  · exact ⟨F.ap, G1, P1, as, R1.post.refl', ArsOk.fr (F := F) (F' := ⟨G1, H1, F.ap⟩) rfl r1, out_mono q1 (fun ds P2 z p ws H' G' po h1 h2 h3 h4 r' => z p ws H' G' (e1.trans po.ext) (R1.after po) h1 h2 (R1.post.h0 h3) h4 (R1.own_at h3) r') fun e P2 z cl dd H' G' po k => z cl dd H' G' ρ (e1.trans po.ext) (R1.after po) k⟩
def withPot (ds : List D) (m : M (Fl β)) : M (Fl β) := fun P => match P with
  | none => match m (some ds) with
    | .ok f (some _) => .ok f none
    | .ex e (some _) => .ex e none
    | _ => .no
  | some _ => .no
/-- x = f(..), x the pot of what follows -/
theorem ds_pot {E E2 : β → List Sl} {i : Nat} {x : Str} {e : Expr} {rest : List Stmt} {pos pos' : Pos} {m : M (List D)} {mr : M (Fl β)} (hN : X.N.Nodup) (hi : X.N[i]? = some x) (hx : Loc X.env.scope x) (h : PE X e (rdN c F W ρ m))
    (hr : ∀ a, PSs X rest (rdS c ⟨F.G0, F.H0, some a⟩ W (ρ.set i .p) E2 mr)) (hE : ∀ b, E b = (E2 b).map unP) (hs : swapsWith e (some (.Name x pos')) pos.line X.env = pure false := by rfl) (hf : X.fn x = true ∨ X.env.scope.names.lookup x = some .local := by first | exact .inl rfl | exact .inr rfl | assumption) :
    PSs X (.Assign [.Name x pos'] e pos :: rest) (rdS c F W ρ E (m >>= fun ds => withPot ds mr)) := by
  refine pss_by (pss_cons (ps_set hN hi hx h hs hf) (pss_ex hr)) fun B σ H ⟨P, G, R, q⟩ => ?_
  refine ⟨P, G, R, out_mono (out_bind.mp q) (fun ds P1 q1 p vs H1 G1 e1 R1 h1 h2 h3 h4 h5 r1 => ?_) fun _ _ z => exS.w z⟩
  cases P1 with
  | some _ => exact q1.elim
  | none =>
    have hF : F.ap = none := by
      have z := R1.post.pot
      cases e : F.ap with
      | none => rfl
      | some a => rw [e] at z; exact z.elim
    refine ⟨p, some ds, G1, R1.toPot hF h1 h2 h3 r1 h5, ?_⟩
    unfold out withPot at q1
    unfold out
    cases hm : mr (some ds) with
    | no => simp only [hm] at q1
    | ok f P2 =>
      cases P2 with
      | none => simp only [hm] at q1
      | some ds2 =>
        simp only [hm] at q1
        cases f with
        | nx b => exact fun σ' H' G' e R' => q1 σ' H' G' (e1.trans e) (by rw [hE]; exact R'.ofPot hF h3)
        | bk b => exact fun σ' H' G' e R' => q1 σ' H' G' (e1.trans e) (by rw [hE]; exact R'.ofPot hF h3)
        | ct b => exact fun σ' H' G' e R' => q1 σ' H' G' (e1.trans e) (by rw [hE]; exact R'.ofPot hF h3)
        | rt d => exact fun v H' G' ρ' σ' e R' k => q1 v H' G' _ σ' (e1.trans e) (R'.ofPot hF h3) k
    | ex x P2 =>
      cases P2 with
      | none => simp only [hm] at q1
      | some ds2 =>
        simp only [hm] at q1
        exact fun cl dd H' G' ρ' σ' e R' k => q1 cl dd H' G' _ σ' (e1.trans e) (R'.ofPot hF h3) k
end
end DL

namespace DL
open PySem PySem.Spec PyProof.Rows L2

section
variable {c : Cn} {F : Fr} {W : WX} {ρ : List Sl} {X : Cx} {tg : Expr}
/-! ### walks over texts too -/
def chrs (x : Str) : List D := x.cps.toList.map fun a => .str ⟨#[a]⟩
def iterA : D → M (List D)
  | .str x => Pure.pure (chrs x)
  | d => iterD d
theorem goes_str {x : Str} {G : Hp} : Goes c (Its x) (chrs x) G := by
  intro F ρ i P σ H G1 e R
  refine ⟨fun hi => (show x.cps.size ≤ i by simpa [chrs] using Nat.le_of_eq hi), fun d hd => ?_⟩
  unfold chrs at hd
  rw [List.getElem?_map, Option.map_eq_some_iff] at hd
  obtain ⟨a, ha, rfl⟩ := hd
  rw [Array.getElem?_toList] at ha
  refine ⟨(Array.getElem?_eq_some_iff.mp ha).1, fun v H' y => ?_⟩
  obtain ⟨rfl, b, hb, rfl⟩ := y
  rw [ha] at hb
  cases hb
  exact ⟨G1, Ext.refl _, R, .str _⟩
theorem di_any {e : Expr} {m : M D} (hK : X.K = c.K) (h : PE X e (rdE c F W ρ m)) : PI X tg e (rdI c F W ρ (m >>= iterA)) := by
  refine pi_by (pi_or (di_seq hK h) (pi_str h)) fun σ H R q => ?_
  obtain ⟨P, G, Rl, q⟩ := q
  have q' := out_bind.mp q
  cases e : m P with
  | no => unfold out at q'; rw [e] at q'; exact q'.elim
  | ex x p =>
    refine .inr ⟨P, G, Rl, ?_⟩
    unfold out at q' ⊢
    rw [e] at q' ⊢
    exact q'
  | ok d p =>
    unfold out at q'
    rw [e] at q'
    have seq : out (iterD d) p (fun ds P' => ∀ J H' G', Ext G G' → Rel c F ρ P' σ H' G' → Goes c J ds G' → R J H') (exW c F W P G σ) → rdI c F W ρ (m >>= iterD) σ H R := fun q => ⟨P, G, Rl, out_bind.mpr ((out_eq e).mpr q)⟩
    cases d with
    | str x => exact .inr ⟨P, G, Rl, (out_eq e).mpr fun v H1 G1 e1 R1 r1 => ⟨x, r1.str_of, q' _ H1 G1 e1 R1 goes_str⟩⟩
    | lst ds => exact .inl (seq q')
    | tup ds => exact .inl (seq q')
    | scr ds => exact .inl (seq q')
    | _ => exact q'.elim
end

/-! ### zip of two, of any kinds -/
inductive SV where
  | l (a : Addr) | t (a : Addr) | s (x : Str) (u : Tok)
namespace SV
def at' (K : PySem.W.Frag) (H : Hp) (i : Nat) (v : V) : SV → Prop
  | .l a => ∃ xs, SqL K H a xs ∧ xs[i]? = some v
  | .t a => ∃ xs, SqT K H a xs ∧ xs[i]? = some v
  | .s x _ => ∃ b, x.cps[i]? = some b ∧ v = .str ⟨#[b]⟩
def len (K : PySem.W.Frag) (H : Hp) (n : Nat) : SV → Prop
  | .l a => ∃ xs, SqL K H a xs ∧ n = xs.length
  | .t a => ∃ xs, SqT K H a xs ∧ n = xs.length
  | .s x _ => n = x.cps.size
def it (h : Heap) (i : Addr) (k : Nat) : SV → Prop
  | .l a => h.IsListIter i a k
  | .t a => h.IsTupleIter i a k
  | .s x u => h.IsStrIter i (strIterType x) x u k
def fp (i : Addr) : SV → List Addr
  | .l a => [i, a]
  | .t a => [i, a]
  | .s _ _ => [i]
theorem it_at {h h' : Heap} {i : Addr} {k : Nat} : ∀ {S : SV}, S.it h i k → (∀ o, h.get? i = some o → h'.get? i = some o) → S.it h' i k
  | .l _, x, f => x.at f
  | .t _, x, f => x.at f
  | .s _ _, ⟨o, ho, r⟩, f => ⟨o, f o ho, r⟩
theorem it_obj {h : Heap} {i : Addr} {k : Nat} : ∀ {S : SV}, S.it h i k → ∃ o, h.get? i = some o ∧ ∀ v, o.data ≠ .cell v
  | .l _, ⟨o, ho, _, d⟩ => ⟨o, ho, fun v q => by rw [d] at q; cases q⟩
  | .t _, ⟨o, ho, _, d⟩ => ⟨o, ho, fun v q => by rw [d] at q; cases q⟩
  | .s _ _, ⟨o, ho, _, d⟩ => ⟨o, ho, fun v q => by rw [d] at q; cases q⟩
theorem mem {S : SV} {i : Addr} : i ∈ S.fp i := by cases S <;> simp [fp]
section
variable {X : Cx} {pins : List (Addr × Obj)} {σ : L2.St} {H : Hp} {s : Shared} {A : Around}
/-- what the iterator draws -/
structure Dr (P : Program) (w : World) (A : Around) (i : Addr) (S : SV) (n : Nat) (R : Nat → Value → Prop) (T : Nat → Heap → Prop) : Prop where
  dr : Draws P w A i (S.fp i) n R T
  of : ∀ k h, T k h → S.it h i k
theorem draws (I : Inv X pins σ H s) (hh : A.handled = none) {n : Nat} {i : Addr} {S : SV} (hl : S.len X.K H n) (hi : ∀ a, (S = .l a ∨ S = .t a) → a ≠ i) : ∃ R T, Dr X.prog X.w A i S n R T ∧ (∀ k, S.it s.heap i k → T k s.heap) ∧ (∀ k v u, S.at' X.K H k v → R k u → RelV v u) ∧ ∀ k v v', S.at' X.K H k v → S.at' X.K H k v' → v' = v := by
  cases S with
  | l a =>
    obtain ⟨xs, hq, rfl⟩ := hl
    obtain ⟨its, rv, p, _⟩ := I.list hq
    have d := Draws.list (prog := X.prog) (w := X.w) hh i a (hi a (.inl rfl)) its.toArray
    rw [List.size_toArray, ← rv.length] at d
    refine ⟨_, _, ⟨d, fun k h q => q.1⟩, fun k q => ⟨q, p.isList⟩, fun k v u ⟨ys, hy, hk⟩ e => ?_, fun k v v' ⟨ys, hy, hk⟩ ⟨zs, hz, hk'⟩ => by rw [I.list_inj hy hz, hk'] at hk; cases hk; rfl⟩
    obtain ⟨z, hz, rz⟩ := rv.get (by rw [← I.list_inj hy hq]; exact hk)
    have e' : its[k]? = some u := by simpa using e
    rw [hz] at e'
    cases e'
    exact rz
  | t a =>
    obtain ⟨xs, hq, rfl⟩ := hl
    obtain ⟨its, rv, p, _⟩ := I.tuple hq
    have d := Draws.tuple (prog := X.prog) (w := X.w) hh i a (hi a (.inr rfl)) its.toArray
    rw [List.size_toArray, ← rv.length] at d
    refine ⟨_, _, ⟨d, fun k h q => q.1⟩, fun k q => ⟨q, p⟩, fun k v u ⟨ys, hy, hk⟩ e => ?_, fun k v v' ⟨ys, hy, hk⟩ ⟨zs, hz, hk'⟩ => by rw [I.tuple_inj hy hz, hk'] at hk; cases hk; rfl⟩
    obtain ⟨z, hz, rz⟩ := rv.get (by rw [← I.tuple_inj hy hq]; exact hk)
    have e' : its[k]? = some u := by simpa using e
    rw [hz] at e'
    cases e'
    exact rz
  | s x t =>
    have hl : n = x.cps.size := hl
    subst hl
    refine ⟨_, _, ⟨Draws.text hh i x t, fun k h q => q⟩, fun k q => q, fun k v u ⟨b, h1, h2⟩ ⟨b', t', h3, h4⟩ => ?_, fun k v v' ⟨b, h1, h2⟩ ⟨b', h3, h4⟩ => by rw [h1] at h3; cases h3; rw [h2, h4]⟩
    rw [h1] at h3
    cases h3
    rw [h2, h4]
    exact ⟨_, rfl⟩
end
end SV
def ItZ (K : PySem.W.Frag) (A B : SV) : It :=
  ⟨fun i H => ∃ n m v u, A.len K H n ∧ B.len K H m ∧ A.at' K H i v ∧ B.at' K H i u ∧ i < n ∧ i < m,
    fun i H v H' => ∃ T x y, v = .ref T ∧ H T = none ∧ H' = upd H T (.tup [x, y]) ∧ (∀ x', A.at' K H i x' → x' = x) ∧ ∀ y', B.at' K H i y' → y' = y,
    fun i H => ∃ n m, A.len K H n ∧ B.len K H m ∧ i ≤ n ∧ i ≤ m ∧ (i = n ∨ i = m)⟩
theorem turn_Z {P : Program} {w : World} {K : PySem.W.Frag} {elts : List Expr} {kk : Nat} {tpos : Pos} {A B : SV} {z TI TO i1 i2 : Addr} (S : ZipSep2 z TI TO i1 i2 (A.fp i1) (B.fp i2)) (n1 : ∀ a, (A = .l a ∨ A = .t a) → a ≠ i1) (n2 : ∀ a, (B = .l a ∨ B = .t a) → a ≠ i2) :
    Turn P w K (.Tuple elts kk tpos) (ItZ K A B) [z, TI, TO, i1, i2] z (fun i h => IsZip h z TI TO .none ∧ IsTupOf2 h TI (.ref i1) (.ref i2) ∧ (∃ x y, IsTupOf2 h TO x y) ∧ A.it h i1 i ∧ B.it h i2 i) where
  mem := by simp
  obj := fun i h ⟨hz, hTI, ⟨x, y, hTO⟩, h1, h2⟩ b hb => by
    have hb : b = z ∨ b = TI ∨ b = TO ∨ b = i1 ∨ b = i2 := by simpa using hb
    rcases hb with rfl | rfl | rfl | rfl | rfl
    · exact ⟨_, hz, fun v q => nomatch q⟩
    · exact ⟨_, hTI, fun v q => nomatch q⟩
    · exact ⟨_, hTO, fun v q => nomatch q⟩
    · exact SV.it_obj h1
    · exact SV.it_obj h2
  keep := fun i h h' ⟨hz, hTI, ⟨x, y, hTO⟩, h1, h2⟩ f => ⟨f z (by simp) _ hz, f TI (by simp) _ hTI, ⟨x, y, f TO (by simp) _ hTO⟩, SV.it_at h1 (f i1 (by simp)), SV.it_at h2 (f i2 (by simp))⟩
  item := by
    intro X hP hw hK hc i pins s σ H E I hf ⟨hz, hTI, ⟨x0, y0, hTO⟩, h1, h2⟩ ⟨n, m, v, u, ln, lm, av, bu, hn, hm⟩
    subst hP hw hK
    have hh : X.A.in1.handled = none := I.ok.hd hc
    obtain ⟨R1, T1, d1, t1, r1, q1⟩ := SV.draws (A := X.A.in1) I hh ln n1
    obtain ⟨R2, T2, d2, t2, r2, q2⟩ := SV.draws (A := X.A.in1) I hh lm n2
    have hzl : z < s.heap.objs.size := Heap.lt_size hz
    refine wpAny_pyNext_zipD2_item S d1.dr d2.dr hz hTI hTO (t1 i h1) (t2 i h2) hn hm fun x1 x2 h' tk p1 p2 z' TO' g1 g2 hT hsz hk => ?_
    refine ⟨_, rfl, wpAny_letOwnedTupleGo_zip (s := { s with heap := h', toks := tk }) z' fun h'' z'' sb => ?_⟩
    have hT2 : h''.get? s.heap.objs.size = some { cls := .type "tuple", data := .seq #[x1, x2] } := (sb.2 _ (Nat.ne_of_gt hzl)).trans hT
    have new : ObjOk X.prog X.w (upd H s.heap.objs.size (.tup [v, u])) h'' s.heap.objs.size (.tup [v, u]) := ⟨by show 2 ≤ sizeLine; decide, [x1, x2], .cons (r1 _ _ _ av p1) (.cons (r2 _ _ _ bu p2) .nil), ⟨_, hT2, rfl, _, rfl⟩⟩
    have kk : ∀ b o, b ∉ [z, TI, TO, i1, i2] → s.heap.get? b = some o → h''.get? b = some o := fun b o hb q =>
      (sb.2 b fun e => hb (by simp [e])).trans (hk b o (fun e => hb (by simp [e])) (fun e => hb (by simp [e])) (fun e => hb (by simp [e])) (fun e => hb (by simp [e])) q)
    have I1 : Inv X pins σ (upd H s.heap.objs.size (.tup [v, u])) { s with heap := h'', toks := tk } := I.turnedNew kk hf (Nat.le_refl _) new
    refine ⟨.ref s.heap.objs.size, _, I1, rfl, ⟨_, v, u, rfl, I.hok.fresh (Nat.le_refl _), rfl, fun x' hx => q1 _ _ _ av hx, fun y' hy => q2 _ _ _ bu hy⟩, ⟨z'', ?_, ⟨x1, x2, ?_⟩, ?_, ?_⟩, fun b hb => ?_⟩
    · exact (sb.2 _ S.TIz).trans (hk _ _ S.TIz S.TITO S.TIi1 S.TIi2 hTI)
    · exact (sb.2 _ S.TOz).trans TO'
    · exact SV.it_at (d1.of _ _ g1) fun o q => (sb.2 _ S.zi1.symm).trans q
    · exact SV.it_at (d2.of _ _ g2) fun o q => (sb.2 _ S.zi2.symm).trans q
    · have hlt : b < s.heap.objs.size := by
        have hb' : b = z ∨ b = TI ∨ b = TO ∨ b = i1 ∨ b = i2 := by simpa using hb
        rcases hb' with rfl | rfl | rfl | rfl | rfl
        · exact hzl
        · exact Heap.lt_size hTI
        · exact Heap.lt_size hTO
        · obtain ⟨o, e, _⟩ := SV.it_obj h1; exact Heap.lt_size e
        · obtain ⟨o, e, _⟩ := SV.it_obj h2; exact Heap.lt_size e
      rw [upd_ne (Nat.ne_of_lt hlt)]
      exact (hf b hb).1
  done := by
    intro X hP hw hK hc i pins s σ H E I hf ⟨hz, hTI, ⟨x0, y0, hTO⟩, h1, h2⟩ ⟨n, m, ln, lm, hn, hm, he⟩
    subst hP hw hK
    have hh : X.A.in1.handled = none := I.ok.hd hc
    obtain ⟨R1, T1, d1, t1, r1, q1⟩ := SV.draws (A := X.A.in1) I hh ln n1
    obtain ⟨R2, T2, d2, t2, r2, q2⟩ := SV.draws (A := X.A.in1) I hh lm n2
    exact wpAny_pyNext_zipD2_end S d1.dr d2.dr hz hTI hTO (t1 i h1) (t2 i h2) hn hm he fun h' tk hk => ⟨rfl, I.turnedL (ch := [z, TI, TO, i1, i2]) (fun b o hb q =>
      hk b o (fun e => hb (by simp [e])) (fun e => hb (by simp [e])) (fun e => hb (by simp [e])) (fun e => hb (by simp [e])) q) hf⟩
  self := fun A i s Q E st h => wpAny_pyIter_zip st.1 h
section
variable {c : Cn} {F : Fr} {W : WX} {ρ : List Sl} {X : Cx}
/-- a source as data -/
structure Src (c : Cn) (G : Hp) (S : SV) (ds : List D) : Prop where
  len : ∀ H G', Ext G G' → Ext G' H → S.len c.K H ds.length
  at' : ∀ H G' i d, Ext G G' → Ext G' H → ds[i]? = some d → ∃ v, S.at' c.K H i v ∧ c.rep G' v d
theorem src_of {P : Pot} {σ : L2.St} {H G : Hp} {pins : List (Addr × Obj)} {s : Shared} {v : V} {u : Value} {d : D} {ds : List D} (hK : X.K = c.K) (I : Inv X pins σ H s) (R : Rel c F ρ P σ H G) (r : c.rep G v d) (ru : RelV v u) (h : iterA d P = .ok ds P) :
    ∃ S o HB, Begins u o HB ∧ HB s.heap ∧ (∀ hp i, hp.get? i = some o → S.it hp i 0) ∧ (∀ a, (S = .l a ∨ S = .t a) → a < s.heap.objs.size) ∧ Src c G S ds := by
  have lst : ∀ {a : Addr} {vs : List V}, SqL c.K G a vs → c.reps G vs ds → u = .ref a → ∃ S o HB, Begins u o HB ∧ HB s.heap ∧ (∀ hp i, hp.get? i = some o → S.it hp i 0) ∧ (∀ a, (S = SV.l a ∨ S = SV.t a) → a < s.heap.objs.size) ∧ Src c G S ds := fun {a vs} sq rs e => by
    subst e
    obtain ⟨its, rv, p, _⟩ := I.list (by rw [hK]; exact Evl.ex_l R.post.le sq)
    refine ⟨.l a, _, _, begins_list a its.toArray, p.isList, fun hp i e => ⟨_, e, rfl, rfl⟩, fun b hb => ?_, ⟨fun H' G' e1 e2 => ⟨vs, Evl.ex_l (e1.trans e2) sq, rs.1.symm⟩, fun H' G' i d e1 e2 hd => ?_⟩⟩
    · rcases hb with hb | hb <;> cases hb
      exact p.lt
    · obtain ⟨w, hw, rw'⟩ := rs.get hd
      exact ⟨w, ⟨vs, Evl.ex_l (e1.trans e2) sq, hw⟩, rw'.mono e1⟩
  cases d with
  | lst xs =>
    cases h
    cases r with
    | lst ha hl hr => exact lst (SqL.of ha) ⟨hl, hr⟩ ru
  | scr ns =>
    cases h
    cases r with
    | scr ha => exact lst ha (reps_ints ns) ru
  | tup xs =>
    cases h
    cases r with
    | @tup a vs _ ha hl hr =>
      have ru : u = .ref a := ru
      subst ru
      obtain ⟨its, rv, p, _⟩ := I.tuple (by rw [hK]; exact Evl.ex_t R.post.le ha)
      refine ⟨.t a, _, _, begins_tuple a its.toArray, p, fun hp i e => ⟨_, e, rfl, rfl⟩, fun b hb => ?_, ⟨fun H' G' e1 e2 => ⟨vs, Evl.ex_t (e1.trans e2) ha, hl.symm⟩, fun H' G' i d e1 e2 hd => ?_⟩⟩
      · rcases hb with hb | hb <;> cases hb
        obtain ⟨o, ho, _⟩ := p
        exact Heap.lt_size ho
      · obtain ⟨w, hw, rw'⟩ := Reps.get (mg := c.mg) (K := c.K) ⟨hl, hr⟩ hd
        exact ⟨w, ⟨vs, Evl.ex_t (e1.trans e2) ha, hw⟩, rw'.mono e1⟩
  | str x =>
    cases h
    have ev := r.str_of
    subst ev
    obtain ⟨t, rfl⟩ := ru
    refine ⟨.s x t, _, _, begins_text x t, trivial, fun hp i e => ⟨_, e, rfl, rfl⟩, fun b hb => (hb.elim (fun z => nomatch z) fun z => nomatch z), ⟨fun H' G' e1 e2 => by show (chrs x).length = x.cps.size; simp [chrs], fun H' G' i d e1 e2 hd => ?_⟩⟩
    unfold chrs at hd
    rw [List.getElem?_map, Option.map_eq_some_iff] at hd
    obtain ⟨a, ha, rfl⟩ := hd
    rw [Array.getElem?_toList] at ha
    exact ⟨_, ⟨a, ha, rfl⟩, .str _⟩
  | _ => cases h
def zip2 (xs ys : List D) : List D := List.zipWith (fun a b => .tup [a, b]) xs ys
def zipD : List D → M (List D)
  | [x, y] => iterA x >>= fun xs => iterA y >>= fun ys => Pure.pure (zip2 xs ys)
  | _ => M.no
theorem goes_zip {A B : SV} {xs ys : List D} {G : Hp} {K : PySem.W.Frag} (hK : K = c.K) (a : Src c G A xs) (b : Src c G B ys) : Goes c (ItZ K A B) (zip2 xs ys) G := by
  subst hK
  intro F ρ i P σ H G1 e R
  have la := a.len H G1 e R.post.le
  have lb := b.len H G1 e R.post.le
  have lz : (zip2 xs ys).length = min xs.length ys.length := by unfold zip2; rw [List.length_zipWith]
  refine ⟨fun hi => ⟨_, _, la, lb, by omega, by omega, by omega⟩, fun d hd => ?_⟩
  unfold zip2 at hd
  rw [List.getElem?_zipWith] at hd
  cases hx : xs[i]? with
  | none => rw [hx] at hd; cases hd
  | some x =>
    cases hy : ys[i]? with
    | none => rw [hx, hy] at hd; cases hd
    | some y =>
      rw [hx, hy] at hd
      cases hd
      obtain ⟨v, h1, r1⟩ := a.at' H G1 i x e R.post.le hx
      obtain ⟨u, h2, r2⟩ := b.at' H G1 i y e R.post.le hy
      refine ⟨⟨_, _, v, u, la, lb, h1, h2, (List.getElem?_eq_some_iff.mp hx).1, (List.getElem?_eq_some_iff.mp hy).1⟩, fun z H' q => ?_⟩
      obtain ⟨T, v', u', rfl, hT, rfl, q1, q2⟩ := q
      obtain rfl := q1 _ h1
      obtain rfl := q2 _ h2
      obtain ⟨R2, e2⟩ := R.new hT nt_tup
      have rr : c.reps G1 [v, u] [x, y] := .cons r1 (.cons r2 .nil)
      exact ⟨_, e2, R2, .tup (SqT.of upd_same) rr.1 fun i v d a b => (rr.2 i v d a b).mono e2⟩
theorem iter_ok {d : D} {P p : Pot} {ds : List D} (h : iterA d P = .ok ds p) : p = P ∧ iterA d P = .ok ds P := by
  cases d <;> first | (cases h; exact ⟨rfl, rfl⟩) | cases h
theorem zsep (n : Nat) {f1 f2 : List Addr} (m1 : n ∈ f1) (m2 : n + 1 ∈ f2) (h1 : ∀ b, b ∈ f1 → b ≤ n) (h2 : ∀ b, b ∈ f2 → b = n + 1 ∨ b < n) : ZipSep2 (n + 4) (n + 2) (n + 3) n (n + 1) f1 f2 where
  TIz := show (n + 2 : Nat) ≠ n + 4 by omega
  TOz := show (n + 3 : Nat) ≠ n + 4 by omega
  TITO := show (n + 2 : Nat) ≠ n + 3 by omega
  TIi1 := show (n + 2 : Nat) ≠ n by omega
  mem1 := m1
  zf1 := fun z => by have q : (n + 4 : Nat) ≤ n := h1 _ z; omega
  Tf1 := fun z => by have q : (n + 3 : Nat) ≤ n := h1 _ z; omega
  TIi2 := show (n + 2 : Nat) ≠ n + 1 by omega
  mem2 := m2
  zf2 := fun z => by have q : (n + 4 : Nat) = n + 1 ∨ (n + 4 : Nat) < n := h2 _ z; omega
  Tf2 := fun z => by have q : (n + 3 : Nat) = n + 1 ∨ (n + 3 : Nat) < n := h2 _ z; omega
  sep1_2 := fun z => by have q : (n : Nat) = n + 1 ∨ (n : Nat) < n := h2 _ z; omega
  sep2_1 := fun z => by have q : (n + 1 : Nat) ≤ n := h1 _ z; omega
theorem zle (n b : Nat) (hb : b ∈ [n + 4, n + 2, n + 3, n, n + 1]) : n ≤ b := by
  have hb' : b = n + 4 ∨ b = n + 2 ∨ b = n + 3 ∨ b = n ∨ b = n + 1 := by simpa using hb
  omega
/-- over zip(a, b) -/
theorem di_zip {e e2 : Expr} {ms : M (List Ar)} {p pos tpos : Pos} {elts : List Expr} {kk : Nat} (hK : X.K = c.K) (hg : Gl X "zip") (hm : X.mg "zip" = none) (ha : PA X [e, e2] (rdA c F W ρ ms))
    (hs : starEach [e, e2] X.env = (false, eval e X.env) :: starEach [e2] X.env := by rfl) (hpl : (backTo pos (starEach [e2] X.env)).any (·.1) = false := by rfl) :
    PI X (.Tuple elts kk tpos) (.Call (.Name "zip" p) [e, e2] [] pos) (rdI c F W ρ (ms >>= fun as => DL.vals as >>= zipD)) := by
  refine ⟨fun pins s σ H R I ⟨P, G, Rl, q⟩ => ?_⟩
  have step := ha.run pos pins s σ H (fun vs H1 => ∃ P1 G1 x y xs ys, Rel c F ρ P1 σ H1 G1 ∧ c.reps G1 vs [x, y] ∧ iterA x P1 = .ok xs P1 ∧ iterA y P1 = .ok ys P1 ∧ ∀ J H' G', Ext G1 G' → Rel c F ρ P1 σ H' G' → Goes c J (zip2 xs ys) G' → R J H') I
    ⟨P, G, Rl, out_mono (out_bind.mp q) (fun as P1 q1 vs H1 G1 e1 R1 r1 => ?_) fun _ _ z => z⟩
  · refine Call_ (ld_blt I hg hm PyProof.Rows.boot_zip (PyProof.Rows.callWith_type1 (thn step fun us s1 ⟨vs, H1, I1, rv, P1, G1, x, y, xs, ys, R1, rs, hx, hy, go⟩ => ?_) hs hpl))
    obtain ⟨v, u, rfl, r1, r2⟩ := rs.two
    obtain ⟨v', u', rfl, w1, w2⟩ := vals2 rv
    obtain ⟨A, o1, H1', b1, hb1, i1, f1, s1'⟩ := src_of hK I1 R1 r1 w1 hx
    obtain ⟨B, o2, H2', b2, hb2, i2, f2, s2'⟩ := src_of hK I1 R1 r2 w2 hy
    have mA : ∀ b, b ∈ A.fp s1.heap.objs.size → b ≤ s1.heap.objs.size := fun b hb => by
      cases A with
      | l a => rcases List.mem_cons.mp hb with z | z; exact Nat.le_of_eq z; rw [List.mem_singleton.mp z]; exact Nat.le_of_lt (f1 a (.inl rfl))
      | t a => rcases List.mem_cons.mp hb with z | z; exact Nat.le_of_eq z; rw [List.mem_singleton.mp z]; exact Nat.le_of_lt (f1 a (.inr rfl))
      | s x t => rw [List.mem_singleton.mp hb]; exact Nat.le_refl _
    have mB : ∀ b, b ∈ B.fp (s1.heap.objs.size + 1) → b = s1.heap.objs.size + 1 ∨ b < s1.heap.objs.size := fun b hb => by
      cases B with
      | l a => rcases List.mem_cons.mp hb with z | z; exact .inl z; rw [List.mem_singleton.mp z]; exact .inr (f2 a (.inl rfl))
      | t a => rcases List.mem_cons.mp hb with z | z; exact .inl z; rw [List.mem_singleton.mp z]; exact .inr (f2 a (.inr rfl))
      | s x t => rw [List.mem_singleton.mp hb]; exact .inl rfl
    refine zip_begins2 b1 b2 hb1 hb2 fun h' hz hTI hTO g1 g2 hsz hk => wpAny_pyIter_zip hz ?_
    have I2 : Inv X pins σ H1 { s1 with heap := h' } := I1.kept (t' := s1.toks) hk
    have S : ZipSep2 (s1.heap.objs.size + 4) (s1.heap.objs.size + 2) (s1.heap.objs.size + 3) s1.heap.objs.size (s1.heap.objs.size + 1) (A.fp s1.heap.objs.size) (B.fp (s1.heap.objs.size + 1)) :=
      zsep _ SV.mem SV.mem mA mB
    refine ⟨s1.heap.objs.size + 4, [s1.heap.objs.size + 4, s1.heap.objs.size + 2, s1.heap.objs.size + 3, s1.heap.objs.size, s1.heap.objs.size + 1], _, ItZ X.K A B, H1, rfl, I2, turn_Z S (fun a h => Nat.ne_of_lt (f1 a h)) (fun a h => Nat.ne_of_lt (Nat.lt_succ_of_lt (f2 a h))), ⟨hz, hTI, ⟨_, _, hTO⟩, i1 _ _ g1, i2 _ _ g2⟩, fun b hb => ?_, go _ _ G1 (Ext.refl _) R1 (goes_zip hK s1' s2')⟩
    have hle : s1.heap.objs.size ≤ b := zle _ _ hb
    exact I1.fpOk hle (I1.hok.fresh hle)
  · obtain ⟨ds, rs, q2⟩ := ArsOk.reps r1 (out_bind.mp q1)
    match ds, q2 with
    | [x, y], q2 =>
      unfold zipD at q2
      have q3 := out_bind.mp q2
      unfold out at q3
      cases hx : iterA x P1 with
      | no => rw [hx] at q3; exact q3.elim
      | ex e p => cases x <;> cases hx
      | ok xs p1 =>
        rw [hx] at q3
        obtain ⟨rfl, hx'⟩ := iter_ok hx
        have q4 := out_bind.mp (show out (iterA y >>= fun ys => Pure.pure (zip2 xs ys)) p1 _ _ from q3)
        unfold out at q4
        cases hy : iterA y p1 with
        | no => rw [hy] at q4; exact q4.elim
        | ex e p => cases y <;> cases hy
        | ok ys p2 =>
          rw [hy] at q4
          obtain ⟨rfl, hy'⟩ := iter_ok hy
          exact ⟨_, G1, x, y, xs, ys, R1, rs, hx', hy', fun J H' G' e R' go => q4 J H' G' (e1.trans e) R' go⟩
    | [], q2 => exact q2.elim
    | [_], q2 => exact q2.elim
    | _ :: _ :: _ :: _, q2 => exact q2.elim
end
end DL

namespace DL
open PySem PySem.Spec PyProof.Rows L2

section
variable {c : Cn} {X : Cx} {F : Fr} {W : WX} {ρ : List Sl} {α β : Type}
/-! ### slots forgotten at the end of a block -/
inductive FogL : List Sl → List Sl → Prop
  | n : FogL [] []
  | k {a : Sl} {r r' : List Sl} (t : FogL r r') : FogL (a :: r) (a :: r')
  | u {a : Sl} {r r' : List Sl} (t : FogL r r') : FogL (a :: r) (.un :: r')
theorem FogL.len {r r' : List Sl} (h : FogL r r') : r'.length = r.length := by
  induction h with
  | n => rfl
  | k _ ih => simp [ih]
  | u _ ih => simp [ih]
theorem FogL.at' {r r' : List Sl} (h : FogL r r') : ∀ (i : Nat) a b, r[i]? = some a → r'[i]? = some b → Fog a b := by
  induction h with
  | n => intro i a b h; simp at h
  | @k a r r' t ih =>
    intro i x y h1 h2
    cases i with
    | zero => simp at h1 h2; subst h1; subst h2; cases a <;> first | exact True.intro | rfl
    | succ i => exact ih i x y (by simpa using h1) (by simpa using h2)
  | @u a r r' t ih =>
    intro i x y h1 h2
    cases i with
    | zero => simp at h1 h2; subst h2; exact True.intro
    | succ i => exact ih i x y (by simpa using h1) (by simpa using h2)
theorem Rel.fogL {P : Pot} {σ : L2.St} {H G : Hp} {ρ' : List Sl} (h : FogL ρ ρ') (R : Rel c F ρ P σ H G) : Rel c F ρ' P σ H G := R.fog h.len h.at'
theorem ds_end {E : α → List Sl} {a : α} (h : FogL ρ (E a)) : PSs X [] (rdS c F W ρ E (Pure.pure (.nx a))) := by
  refine pss_by pss_nil fun B σ H ⟨P, G, R, q⟩ => ?_
  have q' : ∀ σ' H' G', Ext G G' → Rel c F (E a) P σ' H' G' → B.nx σ' H' := q
  exact q' σ H G (Ext.refl G) (R.fogL h)
theorem ds_brk {E : α → List Sl} {a : α} {pos : Pos} (h : FogL ρ (E a)) : PS X (.Break pos) (rdS c F W ρ E (Pure.pure (.bk a))) := by
  refine ps_by ps_break fun B σ H ⟨P, G, R, q⟩ => ?_
  have q' : ∀ σ' H' G', Ext G G' → Rel c F (E a) P σ' H' G' → B.bk σ' H' := q
  exact q' σ H G (Ext.refl G) (R.fogL h)
theorem ds_con {E : α → List Sl} {a : α} {pos : Pos} (h : FogL ρ (E a)) : PS X (.Continue pos) (rdS c F W ρ E (Pure.pure (.ct a))) := by
  refine ps_by ps_continue fun B σ H ⟨P, G, R, q⟩ => ?_
  have q' : ∀ σ' H' G', Ext G G' → Rel c F (E a) P σ' H' G' → B.ct σ' H' := q
  exact q' σ H G (Ext.refl G) (R.fogL h)
/-- the last statement of a block, whose end forgets -/
theorem ds_last {E : α → List Sl} {E' : β → List Sl} {st : Stmt} {m : M (Fl α)} {g : α → β} (h1 : PS X st (rdS c F W ρ E m)) (h : ∀ a, FogL (E a) (E' (g a))) : PSs X [st] (rdS c F W ρ E' (thenR m fun a => Pure.pure (.nx (g a)))) :=
  ds_cons h1 fun a => ds_end (h a)

/-! ### calls by one bundle -/
/-- a def that may be called by its name -/
structure Cal (P : Program) (w : World) (K : PySem.W.Frag) (mg : Str → Option Value) (base : Heap) (k : Nat) (x : Str) (sp : Sp) : Prop where
  ex : ∃ (f : Addr) (fd : FuncData) (ps : List Str), FnG P w K mg base k f fd ps sp ∧ mg x = some (.ref f) ∧ PySem.W.keepIn K (.ref f) = true ∧ Binds K fd ps []
theorem de_callC {k j : Nat} {mf : List Ar → M D} {ms : M (List Ar)} {x : Str} {p pos : Pos} {e : Expr} {es : List Expr} (fn : Cal X.prog X.w c.K c.mg X.base k x (spD c mf)) (C : Ctx c X j) (hj : k ≤ j) (tk : Takes X W) (hg : Gl X x)
    (ha : PA X (e :: es) (rdA c F W ρ ms)) (hdb : (x == ("__debug__" : Str)) = false := by decide) (he : starEach (e :: es) X.env = (false, eval e X.env) :: starEach es X.env := by rfl) (hpl : (backTo pos (starEach es X.env)).any (·.1) = false := by rfl) :
    PE X (.Call (.Name x p) (e :: es) [] pos) (rdE c F W ρ (ms >>= mf)) := by
  obtain ⟨f, fd, ps, h, hm, hk, hb⟩ := fn.ex
  have h' : FnG X.prog X.w X.K X.mg X.base k f fd ps (spD c mf) := by rw [C.K, C.mg]; exact h
  exact de_call (C.mono hj) tk h' hg hm hk hb ha hdb he hpl
theorem de_callCF {k j : Nat} {mf : List Ar → M (List D)} {ms : M (List Ar)} {x : Str} {p pos : Pos} {e : Expr} {es : List Expr} (fn : Cal X.prog X.w c.K c.mg X.base k x (spF c mf)) (C : Ctx c X j) (hj : k ≤ j) (tk : Takes X W) (hg : Gl X x)
    (ha : PA X (e :: es) (rdA c F W ρ ms)) (hdb : (x == ("__debug__" : Str)) = false := by decide) (he : starEach (e :: es) X.env = (false, eval e X.env) :: starEach es X.env := by rfl) (hpl : (backTo pos (starEach es X.env)).any (·.1) = false := by rfl) :
    PE X (.Call (.Name x p) (e :: es) [] pos) (rdN c F W ρ (ms >>= mf)) := by
  obtain ⟨f, fd, ps, h, hm, hk, hb⟩ := fn.ex
  have h' : FnG X.prog X.w X.K X.mg X.base k f fd ps (spF c mf) := by rw [C.K, C.mg]; exact h
  exact de_callF (C.mono hj) tk h' hg hm hk hb ha hdb he hpl

/-! ### {k: v, ..} with keys told apart -/
def dicM : List (Key × M D) → M (List (Key × D))
  | [] => Pure.pure []
  | (k, m) :: r => m >>= fun d => dicM r >>= fun ps => Pure.pure ((k, d) :: ps)
def mkDic (ps : List (Key × D)) : M D := if (ps.map (·.1)).Nodup ∧ ps.length ≤ 15 then Pure.pure (.dic (ps.map fun p => (keyD p.1, p.2))) else M.no
theorem de_dic0 {pos : Pos} : PE X (.Dict [] [] pos) (rdE c F W ρ (Pure.pure (.dic []))) := pe_by pe_dnewK fun σ H Q ⟨P, G, R, q⟩ p hp => by
  obtain ⟨R2, e2⟩ := R.new hp (nt_dK (xs := []))
  exact q _ _ _ e2 R2 (.dicK upd_same rfl fun i p q h => by simp at h)
theorem mergeK_nodup : ∀ (more kvs : List (Key × V)), (kvs.map (·.1) ++ more.map (·.1)).Nodup → mergeK kvs more = kvs ++ more
  | [], kvs, _ => by show kvs = kvs ++ []; simp
  | p :: r, kvs, h => by
    have hn : (kvs.any fun kv => decide (kv.1 = p.1)) = false := by
      rw [List.any_eq_false]
      intro kv hk e
      have e : kv.1 = p.1 := by simpa using e
      have := (List.nodup_append.mp h).2.2 kv.1 (List.mem_map.mpr ⟨kv, hk, rfl⟩) p.1 (List.mem_map.mpr ⟨p, List.mem_cons_self, rfl⟩)
      exact this e
    have hp : putK kvs p.1 p.2 = kvs ++ [p] := by
      unfold putK
      rw [hn]
      rfl
    show mergeK (putK kvs p.1 p.2) r = _
    rw [hp, mergeK_nodup r (kvs ++ [p]) (by simpa [List.append_assoc] using h)]
    simp
/-- a value that is made while an object of one's own waits -/
def rdX (c : Cn) (ap : Option Addr) (W : WX) (ρ : List Sl) (m : M D) : TE := fun σ H Q => ∃ G0 H0, rdE c ⟨G0, H0, ap⟩ W (ρ.map unO) m σ H Q
theorem pe_X {e : Expr} {ap : Option Addr} {m : M D} (h : ∀ G0 H0, PE X e (rdE c ⟨G0, H0, ap⟩ W (ρ.map unO) m)) : PE X e (rdX c ap W ρ m) := ⟨fun pins s σ H Q I ⟨G0, H0, q⟩ => (h G0 H0).run pins s σ H Q I q⟩
/-- the readings of the pairs -/
def prs (c : Cn) (ap : Option Addr) (W : WX) (ρ : List Sl) : List (Key × M D) → List (TE × TE)
  | [] => []
  | (k, m) :: r => (tC (kV k), rdX c ap W ρ m) :: prs c ap W ρ r
theorem pairs_rd {G0 H0 : Hp} {ap : Option Addr} {ls : List (Key × M D)} : ∀ {P : Pot} {σ : L2.St} {H G : Hp} {Q : List (V × V) → Hp → Prop}, Rel c ⟨G0, H0, ap⟩ (ρ.map unO) P σ H G →
    out (dicM ls) P (fun ps P' => ∀ (kvs : List (Key × V)) H' G', Ext G G' → Rel c ⟨G0, H0, ap⟩ (ρ.map unO) P' σ H' G' → kvs.map (·.1) = ps.map (·.1) → c.reps G' (kvs.map (·.2)) (ps.map (·.2)) → Q (kvs.map fun kv => (kV kv.1, kv.2)) H') (exW c ⟨G0, H0, ap⟩ W P G σ) → tPairs (prs c ap W ρ ls) σ H Q := by
  induction ls with
  | nil => exact fun R q => q [] _ _ (Ext.refl _) R rfl Reps.nil
  | cons km r ih =>
    obtain ⟨k, m⟩ := km
    intro P σ H G Q R q
    refine ⟨G0, H0, P, G, R, out_mono (out_bind.mp q) (fun d P1 q1 v H1 G1 e1 R1 r1 => ?_) fun _ _ z => z⟩
    refine ih R1 (out_mono (out_bind.mp q1) (fun ps P2 q2 kvs H2 G2 e2 R2 hk hr => ?_) fun _ _ z => exW_le e1 z)
    exact q2 ((k, v) :: kvs) H2 G2 (e1.trans e2) R2 (by simp [hk]) (Reps.cons (r1.mono e2) hr)
theorem de_dic {pos : Pos} {keys : List (Option Expr)} {values : List Expr} {ls : List (Key × M D)} (h : PPs X pos keys values (prs c F.ap W ρ ls)) (hall : keys.all (·.isSome) = true := by rfl) (hl : keys.length = values.length := by rfl) (h0 : keys ≠ [] := by simp) (h15 : keys.length ≤ 15 := by decide) :
    PE X (.Dict keys values pos) (rdE c F W ρ (dicM ls >>= mkDic)) := by
  refine pe_by (pe_disp h hall hl h0 h15) fun σ H Q ⟨P, G, R, q⟩ p hp => ?_
  have R1 : Rel c F ρ P σ (upd H p (.dK [])) G := R.newM hp
  have gp := R.post.g_none hp
  have h0 := R.post.h0 hp
  have na := R.ne_ap hp
  have ow := R.own_at hp
  refine pairs_rd (G0 := G) (H0 := upd H p (.dK [])) R1.sub (out_mono (out_bind.mp q) (fun ps P2 q2 kvs H2 G2 e2 R2 hk hr => ?_) fun e P' z cl dd H' G' ρ' e' R' x => z cl dd H' G' ρ e' (R1.after R'.post) x)
  have A2 := R1.after R2.post
  have hp2 : H2 p = some (.dK []) := R2.post.fr p _ upd_same na nt_dK
  have gp2 : G2 p = none := by
    cases z : G2 p with
    | none => rfl
    | some u =>
      rcases R2.post.new p (by rw [z]; simp) with y | y | ⟨_, y⟩
      · exact absurd gp y
      · have y : upd H p (.dK []) p = none := y
        rw [upd_same] at y; cases y
      · have z := R2.post.le _ _ y
        rw [hp2] at z
        cases z
  unfold mkDic at q2
  by_cases hn : (ps.map (·.1)).Nodup ∧ ps.length ≤ 15
  · simp only [if_pos hn] at q2
    have lk : kvs.length = ps.length := by have := congrArg List.length hk; simpa using this
    refine ⟨hp2, kvs, rfl, by omega, ?_⟩
    rw [mergeK_nodup kvs [] (by rw [List.map_nil, List.nil_append, hk]; exact hn.1), List.nil_append]
    have B1 : Rel c F ρ P2 σ (upd H2 p (.dK kvs)) G2 := A2.at gp2 h0 na (fun u e => by rw [hp2] at e; cases e; exact ⟨nofun, nofun⟩) ow
    obtain ⟨B2, e3⟩ := B1.freeze (p := p) (o := .dK kvs) upd_same nt_dK h0 na ow gp2
    have q3 : ∀ v H' G', Ext G G' → Rel c F ρ P2 σ H' G' → c.rep G' v (.dic (ps.map fun p => (keyD p.1, p.2))) → Q v H' := q2
    refine q3 (.ref p) _ _ (e2.trans e3) B2 (.dicK upd_same ?_ fun i kv dv h1 h2 => ?_)
    · rw [List.map_map]
      have : (List.map (fun p => keyD p.1) kvs) = (kvs.map (·.1)).map keyD := by rw [List.map_map]; rfl
      rw [this, hk, List.map_map]
      rfl
    · rw [List.getElem?_map, Option.map_eq_some_iff] at h2
      obtain ⟨pd, h2, rfl⟩ := h2
      exact (hr.2 i kv.2 pd.2 (by rw [List.getElem?_map, h1]; rfl) (by rw [List.getElem?_map, h2]; rfl)).mono e3
  · simp only [if_neg hn] at q2
    exact q2.elim
end
end DL

namespace DL
open PySem PySem.Spec PyProof.Rows L2
theorem hu_64 {k : Nat} {A : Around} (r : Room k A) : A.units + 64 < cLine := by have := r.un; omega
theorem hu_65 {k : Nat} {A : Around} (r : Room k A) : A.units + 65 < cLine := by have := r.un; omega
theorem hu_102 {k : Nat} {A : Around} (r : Room k A) : A.units + 102 < cLine := by have := r.un; omega
/-- an own exception class without an __init__ of its own -/
structure Exc0 (K : PySem.W.Frag) (mg : Str → Option Value) (x : Str) : Prop where
  ex : ∃ (C : Addr) (bmB : List Value) (B newId initId : String), ExcBaseFacts B newId initId bmB ∧ PySem.W.excIn K C bmB newId = true ∧ mg x = some (.ref C) ∧ PySem.W.keepIn K (.ref C) = true ∧ PySem.W.subIn K (.ref C) (.type "BaseException") = some true ∧ PySem.W.typeIn K (.ref C) = some (.type "type")
/-- a class that an except clause names; is: of which own classes it is a base -/
structure Hand0 (K : PySem.W.Frag) (mg : Str → Option Value) (x : Str) (is : Str → Option Bool) : Prop where
  ex : ∃ cv, mg x = some cv ∧ HdOk ⟨mg, K, []⟩ is cv
section
variable {c : Cn} {X : Cx} {F : Fr} {W : WX} {ρ : List Sl} {α β : Type}
theorem ds_raiseC {E : α → List Sl} {x m : Str} {j : Nat} {p p2 pos pos2 : Pos} (e : Exc0 c.K c.mg x) (hm : X.mg = c.mg) (hK : X.K = c.K) (hc : X.calm = true) (tk : Takes X W) (hg : Gl X x) (hdb : (x == ("__debug__" : Str)) = false := by decide) :
    PS X (.Raise (some (.Call (.Name x p) [.Constant (.str m) j p2] [] pos)) none pos2) (rdS c F W ρ E (M.raise ⟨x, none⟩)) := by
  obtain ⟨C, bmB, B, newId, initId, f, q, g, k, s, t⟩ := e.ex
  exact ds_raise0 hm hK hc tk f q g k s t hg hdb
theorem test_yes2 {ρ : List Sl} {i j : Nat} : TestOk c tYes (fun d => tupS ρ [i, j] d) (un2 fun _ _ => Pure.pure true) := fun F d ρ' P σ H G Q R e q => by
  obtain ⟨x, y, rfl, rfl⟩ := tupS2 e
  exact q H G (Ext.refl _) R
theorem test_yes3 {ρ : List Sl} {i j l : Nat} : TestOk c tYes (fun d => tupS ρ [i, j, l] d) (un3 fun _ _ _ => Pure.pure true) := fun F d ρ' P σ H G Q R e q => by
  obtain ⟨x, y, z, rfl, rfl⟩ := tupS3 e
  exact q H G (Ext.refl _) R
/-- a, b = e, the pair as it is made -/
theorem ds_asg2 {i j : Nat} {es : List Expr} {k : Nat} {e : Expr} {tpos pos : Pos} {m : M D} (hK : X.K = c.K) (hc : X.calm = true) (hg : PGs X es (gNames [i, j])) (he : PE X e (rdE c F W ρ m)) (hs : swapsWithSole [.Tuple es k tpos] e pos.line X.env = pure false := by rfl) (hw : swappedStores [.Tuple es k tpos] e X.env = pure none := by rfl)
    (h1 : (assignEach [.Tuple es k tpos] X.env).map (·.2) = [assign (.Tuple es k tpos) X.env] := by rfl) (hn : (assignEach es X.env).length = [i, j].length := by rfl) (hst : (assignEach es X.env).findIdx? (·.1) = none := by rfl) :
    PS X (.Assign [.Tuple es k tpos] e pos) (rdS c F W ρ (fun d => (ρ.set i (.v d.1)).set j (.v d.2)) (m >>= un2 fun x y => Pure.pure (.nx (x, y)))) := by
  have hg' : PG X (.Tuple es k tpos) (rdG c F ρ (tupS ρ [i, j])) := dg_tup hK hc hg hn hst
  refine ps_by (ps_asg he hg' hs hw h1) fun B σ H ⟨P, G, R, q⟩ => ?_
  refine ⟨P, G, R, out_mono (out_bind.mp q) (fun d P1 q1 v H1 G1 e1 R1 r1 => ?_) fun _ _ z => exS.w z⟩
  cases ht : tupS ρ [i, j] d with
  | none => rw [un2_no ht] at q1; exact q1.elim
  | some ρ' =>
    obtain ⟨x, y, rfl, rfl⟩ := tupS2 ht
    have q2 : ∀ σ' H' G', Ext G G' → Rel c F ((ρ.set i (.v x)).set j (.v y)) P1 σ' H' G' → B.nx σ' H' := q1
    exact ⟨P1, G1, _, _, R1, r1, ht, fun σ' H' G' e R' => q2 σ' H' G' (e1.trans e) R'⟩
end
end DL
namespace DL
open PySem PySem.Spec PyProof.Rows L2
section
variable {c : Cn}
theorem opd_lt : OpD c (rOrd (fun i j => decide (i < j)) ltS) ltD := opd_ord
theorem opd_le : OpD c (rOrd (fun i j => decide (i ≤ j)) (fun i j => !ltS j i)) leD := opd_ord
theorem opd_gt : OpD c (rOrd (fun i j => decide (j < i)) (fun i j => ltS j i)) gtD := opd_ord
theorem opd_ge : OpD c (rOrd (fun i j => decide (j ≤ i)) (fun i j => !ltS i j)) geD := opd_ord
end
end DL
namespace DL
open PySem PySem.Spec PyProof.Rows L2
section
variable {c : Cn} {X : Cx} {F : Fr} {W : WX} {ρ ρ' : List Sl} {α : Type}
/-! the slots, told anew -/
theorem de_at {e : Expr} {m : M D} (h : ρ = ρ') (k : PE X e (rdE c F W ρ' m)) : PE X e (rdE c F W ρ m) := by rw [h]; exact k
theorem dt_at {e : Expr} {m : M Bool} (h : ρ = ρ') (k : PT X e (rdT c F W ρ' m)) : PT X e (rdT c F W ρ m) := by rw [h]; exact k
theorem ds_at {ss : List Stmt} {E : α → List Sl} {m : M (Fl α)} (h : ρ = ρ') (k : PSs X ss (rdS c F W ρ' E m)) : PSs X ss (rdS c F W ρ E m) := by rw [h]; exact k
theorem df_at {ss : List Stmt} {m : M (List D)} (h : ρ = ρ') (k : PSs X ss (rdF c F W ρ' m)) : PSs X ss (rdF c F W ρ m) := by rw [h]; exact k
end
end DL
namespace DL
open PySem PySem.Spec PyProof.Rows L2
section
variable {P : Program} {w : World} {K : PySem.W.Frag} {mg : Str → Option Value} {base : Heap} {x : Str} {sp : Sp}
theorem FnG.mono {j k : Nat} {f : Addr} {fd : FuncData} {ps : List Str} (h : FnG P w K mg base j f fd ps sp) (l : j ≤ k) : FnG P w K mg base k f fd ps sp :=
  ⟨h.ln, fun A fr s H us vs args Q E ga r => h.go A fr s H us vs args Q E ga (r.mono l)⟩
theorem Cal.mono {j k : Nat} (h : Cal P w K mg base j x sp) (l : j ≤ k) : Cal P w K mg base k x sp := by
  obtain ⟨f, fd, ps, a, b⟩ := h.ex
  exact ⟨f, fd, ps, a.mono l, b⟩
end
/-- one own class caught by a class -/
theorem hd_one {K : PySem.W.Frag} {mg : Str → Option Value} {x y : Str} {C D : Addr} {b : Bool} (hy : mg y = some (.ref D)) (h : PySem.W.exmOne K (.ref D) (.ref C) = some b) : ∀ cl, mg y = some cl → PySem.W.exmOne K cl (.ref C) = some b := fun cl e => by
  rw [hy] at e
  cases e
  exact h
end DL

/-! sets of keys (ints and texts): made of a text or a sequence, sorted -/
namespace SX
open PySem PySem.Spec PyProof.Rows L2
def kvl : Key → Tok → Value
  | .inl i, t => .int i t
  | .inr x, t => .str x t
def ko (v : Value) : Key := match v with
  | .int k _ => .inl k
  | .str x _ => .inr x
  | _ => .inl 0
def mm (ks : List Key) (j : Key) : Bool := ks.any fun k => decide (k = j)
theorem mm_iff {ks : List Key} {j : Key} : mm ks j = true ↔ j ∈ ks := by
  unfold mm
  rw [List.any_eq_true]
  exact ⟨fun ⟨k, h, e⟩ => by rw [← of_decide_eq_true e]; exact h, fun h => ⟨j, h, decide_eq_true rfl⟩⟩
theorem mm_nil (j : Key) : mm [] j = false := rfl
theorem mm_add {a : List Key} {j z : Key} : mm (a ++ [z]) j = (mm a j || decide (j = z)) := by
  unfold mm
  rw [List.any_append]
  simp only [List.any_cons, List.any_nil, Bool.or_false]
  congr 1
  by_cases e : j = z
  · subst e; rfl
  · rw [decide_eq_false e, decide_eq_false fun q => e q.symm]
theorem ko_kvl (k : Key) (t : Tok) : ko (kvl k t) = k := by cases k <;> rfl
theorem kvl_is {P : Program} {w : World} (k : Key) (t : Tok) : (mixKind P w).is k (kvl k t) = true := by
  cases k with
  | inl i => exact mixKind_int P w i t
  | inr x => exact mixKind_str P w x t
theorem kvl_scan (k : Key) (t : Tok) : (kvl k t).scannable = true := by cases k <;> rfl
def Gd (P : Program) (w : World) (e : Int × Value) : Prop := ∃ k t, e.2 = kvl k t ∧ e.1 = (mixKind P w).hash k
abbrev keysE (es : Array (Int × Value)) : List Key := es.toList.map fun e => ko e.2
/-- the set of keys at a, with a table that can be walked -/
def SetS (P : Program) (w : World) (h : Heap) (a : Addr) (S : Key → Bool) (n : Nat) : Prop := ∃ (o : Obj) (es : Array (Int × Value)) (ep : Nat) (t : SetTable),
  h.get? a = some o ∧ o.ExactSet ∧ o.data = .set es ep t ∧ (∀ e ∈ es.toList, Gd P w e) ∧ (keysE es).Nodup ∧ (∀ k, S k = true ↔ k ∈ keysE es) ∧
  es.size < scanBound ∧ t.fits es.size = true ∧ es.size = n ∧ Ris t.place.toList ∧ (w.params.followText "set-order" = true ∨ t.led = true)
section
variable {P : Program} {w : World} {h h' : Heap} {a : Addr} {S : Key → Bool} {n : Nat}
theorem SetS.at (R : SetS P w h a S n) (k : ∀ o, h.get? a = some o → h'.get? a = some o) : SetS P w h' a S n := by
  obtain ⟨o, es, ep, t, ho, r⟩ := R; exact ⟨o, es, ep, t, k o ho, r⟩
theorem SetS.congr {S' : Key → Bool} (R : SetS P w h a S n) (e : ∀ k, S' k = S k) : SetS P w h a S' n := (show S' = S from funext e) ▸ R
theorem gd_elems {l : List (Int × Value)} (g : ∀ e ∈ l, Gd P w e) : ElemsOf (mixKind P w) l := fun e he => by
  obtain ⟨k, t, q, r⟩ := g e he
  exact ⟨⟨k, q ▸ kvl_is k t, r⟩, q ▸ kvl_scan k t⟩
theorem gd_is {e : Int × Value} (g : Gd P w e) (k : Key) : (mixKind P w).is k e.2 = true ↔ ko e.2 = k := by
  obtain ⟨j, t, q, _⟩ := g
  rw [q, ko_kvl]
  exact ⟨fun z => (mixKind P w).inj (kvl j t) j k (kvl_is j t) z, fun z => z ▸ kvl_is j t⟩
theorem gd_mem {l : List (Int × Value)} (g : ∀ e ∈ l, Gd P w e) (k : Key) : k ∈ l.map (fun e => ko e.2) ↔ ∃ e ∈ l, (mixKind P w).is k e.2 = true :=
  ⟨fun m => let ⟨e, he, q⟩ := List.mem_map.mp m; ⟨e, he, (gd_is (g e he) k).2 q⟩, fun ⟨e, he, q⟩ => List.mem_map.mpr ⟨e, he, (gd_is (g e he) k).1 q⟩⟩
end
section
variable {P : Program} {w : World} {A : Around} {E : Value → Shared → Prop} {s : Shared} {a : Addr} {S : Key → Bool} {n : Nat}
theorem tailS {g : Bool → Sem Unit} (hg : ∀ (b : Bool) (s1 : Shared) (Z : Unit → Shared → Prop), Z () s1 → wpAny (model P w) A (g b) Z E s1)
    {o : Obj} {es : Array (Int × Value)} {ep : Nat} {t : SetTable} (ho : s.heap.get? a = some o) (hx : o.ExactSet) (hd : o.data = .set es ep t)
    {es1 : Array (Int × Value)} {t2 : SetTable} {S' : Key → Bool} (g1 : ∀ e ∈ es1.toList, Gd P w e) (nd : (keysE es1).Nodup) (m1 : ∀ k, S' k = true ↔ k ∈ keysE es1)
    (hb : es1.size < scanBound) (hf : t2.fits es1.size = true) (hr : Ris t2.place.toList) (hl : w.params.followText "set-order" = true ∨ t2.led = true) {was : Bool} {R : Option Bool → Shared → Prop}
    (hR : ∀ h', Heap.SameBut a s.heap h' → SetS P w h' a S' es1.size → R (some true) { s with heap := h' }) :
    wpAny (model P w) A (storeSet a es1 t2 >>= fun _ => if (!was && t2.tooFull) = true then
        (g (relayAll t2 es1 (SetTable.grown es1.size)).2.2 >>= fun _ => storeSet a (relayAll t2 es1 (SetTable.grown es1.size)).1 (relayAll t2 es1 (SetTable.grown es1.size)).2.1 >>= fun _ => pure (some true))
      else pure (some true)) R E s := by
  have st := store_at (es' := es1) (t' := t2) ho hd
  have sb := Heap.SameBut.update s.heap a (Obj.putSet es1 t2)
  refine wpAny_bind (wpAny_storeSet_of ho hd ?_ (fits_of_scanBound hb))
  by_cases c : (!was && t2.tooFull) = true
  · rw [if_pos c]
    have p := relayAll_perm t2 es1 (SetTable.grown es1.size)
    have f3 := relayAll_fits t2 es1 (SetTable.grown es1.size)
    have r3 := relayAll_ris t2 es1 (SetTable.grown es1.size)
    have l3 := relayAll_led t2 es1 (SetTable.grown es1.size)
    generalize relayAll t2 es1 (SetTable.grown es1.size) = Z at p f3 r3 l3 ⊢
    have hz : Z.1.size = es1.size := by rw [← Array.length_toList, p.length_eq, Array.length_toList]
    have hb2 : Z.1.size < scanBound := hz ▸ hb
    refine wpAny_bind (hg _ _ _ (wpAny_bind (wpAny_storeSet_of st rfl ?_ (fits_of_scanBound hb2))))
    have pk : (keysE Z.1).Perm (keysE es1) := p.map _
    refine wpAny_pure (hR _ (sb.trans (Heap.SameBut.update _ a _)) ⟨_, Z.1, _, Z.2.1, store_at (es' := Z.1) (t' := Z.2.1) st rfl, hx, rfl, fun e he => g1 e (p.mem_iff.mp he), pk.nodup_iff.mpr nd, fun k => (m1 k).trans pk.mem_iff.symm, hb2, f3, hz, r3, hl.imp id fun z => l3.trans z⟩)
  · rw [if_neg c]
    exact wpAny_pure (hR _ sb ⟨_, es1, _, t2, st, hx, rfl, g1, nd, m1, hb, hf, rfl, hr, hl⟩)
theorem addS {k : Key} {tk : Tok} {Q : Bool → Shared → Prop} (R : SetS P w s.heap a S n) (room : n + 1 < scanBound)
    (hQ : ∀ h', Heap.SameBut a s.heap h' → SetS P w h' a (fun j => S j || decide (j = k)) (if S k = true then n else n + 1) → Q (!S k) { s with heap := h' }) :
    wpAny (model P w) A (setAddHashed a (kvl k tk) ((mixKind P w).hash k)) Q E s := by
  obtain ⟨o, es, ep, t, ho, hx, hd, g, nd, hm, hb, hf, hn, hr, hl⟩ := R
  have kk : (mixKind P w).is k (kvl k tk) = true := kvl_is k tk
  have el : ElemsOf (mixKind P w) es.toList := gd_elems g
  unfold setAddHashed; unfold setAddHashedIn
  refine wpAny_holding ?_
  refine wpAny_bind (wpAny_setState_of ho hd hf ?_)
  dsimp only; rw [byScan_of (kvl_scan k tk) hb el]; simp only [↓reduceIte]
  unfold setAddByScan
  refine wpAny_bind (wpAny_bind (wpAny_rule (wpAny_bind (wpAny_setScan_of kk ho hd hf el ?_))))
  cases fi : List.findIdx? (fun e => (mixKind P w).is k e.2) es.toList with
  | some j =>
    obtain ⟨hj, pj, _⟩ := List.findIdx?_eq_some_iff_getElem.mp fi
    have sk : S k = true := (hm k).2 ((gd_mem (P := P) (w := w) g k).2 ⟨es.toList[j], List.getElem_mem hj, pj⟩)
    dsimp only
    refine wpAny_pure (wpAny_pure ?_)
    have q := hQ s.heap (Heap.SameBut.refl a s.heap) ⟨o, es, ep, t, ho, hx, hd, g, nd, fun i => by
      rw [Bool.or_eq_true, decide_eq_true_eq, ← hm i]; exact ⟨fun z => z.elim id (fun e => e ▸ sk), .inl⟩, hb, hf, by rw [if_pos sk]; exact hn, hr, hl⟩
    rw [sk] at q; exact q
  | none =>
    have nk : k ∉ keysE es := fun z => by
      obtain ⟨e, he, q⟩ := (gd_mem (P := P) (w := w) g k).1 z
      have c := List.findIdx?_eq_none_iff.mp fi e he
      rw [q] at c; cases c
    have sk : S k = false := Bool.eq_false_iff.mpr fun q => nk ((hm k).1 q)
    have gw : ∀ (b : Bool) {s1 : Shared} {Z : Unit → Shared → Prop}, Z () s1 → wpAny (model P w) A (match b with | true => rule "set.scan.the-table-gave-way" | false => pure ()) Z E s1 := fun b s1 Z q => by
      cases b
      · exact wpAny_pure q
      · exact wpAny_rule q
    have pm := layNew_perm t es ((mixKind P w).hash k) (kvl k tk)
    have f1 := layNew_fits t es ((mixKind P w).hash k) (kvl k tk)
    have r1 := layNew_ris t es ((mixKind P w).hash k) (kvl k tk) hr
    have l1 := layNew_led t es ((mixKind P w).hash k) (kvl k tk)
    dsimp only
    generalize layNew t es ((mixKind P w).hash k) (kvl k tk) = Z at pm f1 r1 l1 ⊢
    obtain ⟨es1, t1, was, gave⟩ := Z
    dsimp only at pm f1 r1 l1 ⊢
    rw [Array.toList_push] at pm
    have pc : es1.toList.Perm (((mixKind P w).hash k, kvl k tk) :: es.toList) := pm.trans (List.perm_append_singleton _ _)
    have pk : (keysE es1).Perm (k :: keysE es) := by
      have := pc.map fun e => ko e.2
      rwa [List.map_cons, ko_kvl] at this
    have g1 : ∀ e ∈ es1.toList, Gd P w e := fun e he => (List.mem_cons.mp (pc.mem_iff.mp he)).elim (fun z => z ▸ ⟨k, tk, rfl, rfl⟩) (g e)
    have nd1 : (keysE es1).Nodup := pk.nodup_iff.mpr (List.nodup_cons.mpr ⟨nk, nd⟩)
    have m1 : ∀ i, (S i || decide (i = k)) = true ↔ i ∈ keysE es1 := fun i => by
      rw [Bool.or_eq_true, decide_eq_true_eq, hm i, pk.mem_iff, List.mem_cons]; exact Or.comm
    have sz : es1.size = n + 1 := by
      have := pc.length_eq
      rw [List.length_cons, Array.length_toList, Array.length_toList] at this; omega
    have hb1 : es1.size < scanBound := sz ▸ room
    have led : w.params.followText "set-order" = true ∨ t1.led = true := hl.imp id fun z => l1.trans z
    have fin : ∀ h', Heap.SameBut a s.heap h' → SetS P w h' a (fun j => S j || decide (j = k)) es1.size → Q true { s with heap := h' } := fun h' sb r => by
      have q := hQ h' sb
      rw [sk] at q; rw [sz] at r; exact q r
    refine wpAny_bind (gw _ ?_)
    by_cases hp : t1.plain = true
    · rw [if_pos hp]
      refine wpAny_bind ?_
      rw [hashByValue_scannable 8 (kvl_scan k tk)]
      refine wpAny_pure (tailS (fun b s1 Z q => ?_) ho hx hd g1 nd1 m1 hb1 ?_ ?_ ?_ fun h' sb r => ?_)
      · cases b
        · exact wpAny_pure q
        · exact wpAny_rule q
      · first | exact f1 | exact SetTable.fits_plain_off f1 | (split <;> first | exact f1 | exact SetTable.fits_plain_off f1)
      · first | exact r1 | (split <;> exact r1)
      · first | exact led | (split <;> exact led)
      · dsimp only; exact wpAny_pure (fin h' sb r)
    · rw [if_neg hp]
      refine wpAny_bind (wpAny_pure ?_)
      simp only [↓reduceIte]
      refine tailS (fun b s1 Z q => ?_) ho hx hd g1 nd1 m1 hb1 f1 r1 led fun h' sb r => ?_
      · cases b
        · exact wpAny_pure q
        · exact wpAny_rule q
      · dsimp only; exact wpAny_pure (fin h' sb r)
end
section
variable {P : Program} {w : World} {A : Around} {E : Value → Shared → Prop} {s : Shared}
theorem freshS {h : Heap} {a : Addr} (ho : h.get? a = some { cls := .type "set", dict := none, data := .set #[] 0 (.fresh 0 0 (!w.params.followText "set-order")) }) {S : Key → Bool} (e : ∀ k, S k = false) : SetS P w h a S 0 :=
  ⟨_, #[], 0, _, ho, ⟨rfl, rfl, rfl⟩, rfl, fun e he => by simp at he, List.nodup_nil, fun k => by simp [e k], by decide, rfl, rfl, List.Pairwise.nil, by
    cases q : w.params.followText "set-order"
    · exact .inr rfl
    · exact .inl rfl⟩
theorem updateS {I : Addr} {fp wr : List Addr} {G : Array GenState → Array GenState → Prop} {n : Nat} {Pv : Nat → Value → Prop} {St : Nat → Shared → Prop} {R : Result → Shared → Prop}
    (W : WalksS P w A.in1 I fp wr G n Pv St) (a : Addr) (ha : a ∉ fp) (ks : List Key) (hn : n = ks.length) (hb : ks.length + 1 < scanBound) (hv : ∀ i v, Pv i v → ∃ k t, ks[i]? = some k ∧ v = kvl k t) :
    ∀ (m i : Nat) (s : Shared), n - i = m → i ≤ n → St i s → (∃ c, c ≤ i ∧ SetS P w s.heap a (mm (ks.take i)) c) →
      (∀ s' c, Moved (a :: wr) G s s' → c ≤ n → SetS P w s'.heap a (mm ks) c → R (.ok (.ret .none)) s') →
      codeAny (model P w) A (.builtin "set.update.loop" ⟨[.ref a, .ref I], []⟩) R s := by
  have aw : a ∉ wr := fun h => ha (W.sub _ h)
  have sub : ∀ b ∈ wr, b ∈ a :: wr := fun b hb => List.mem_cons_of_mem _ hb
  intro m
  induction m with
  | zero =>
    intro i s hm hi st ⟨c, hc, hS⟩ hR
    obtain rfl : i = n := by omega
    refine codeAny_builtin F.entry_set_update_loop ?_; rw [Around.under_plainId F.plain_set_update_loop _]
    show wpAny _ A.in1 (pyNext (.ref I) >>= _) _ _ s
    refine wpAny_bind (W.done s _ _ st fun s' mv => ?_)
    rw [List.take_of_length_le (by omega)] at hS
    show wpAny _ A.in1 (ret Value.none) _ _ s'
    exact wpAny_pure (hR s' c (mv.mono sub) hc (hS.at fun o e => mv.heap a o aw e))
  | succ m ih =>
    intro i s hm hi st ⟨c, hc, hS⟩ hR
    have lt : i < n := by omega
    refine codeAny_builtin F.entry_set_update_loop ?_; rw [Around.under_plainId F.plain_set_update_loop _]
    show wpAny _ A.in1 (pyNext (.ref I) >>= _) _ _ s
    refine wpAny_bind (W.item i s _ _ lt st fun v s1 pv st1 mv => ?_)
    obtain ⟨z, t, hz, rfl⟩ := hv i v pv
    have hS1 : SetS P w s1.heap a (mm (ks.take i)) c := hS.at fun o e => mv.heap a o aw e
    show wpAny _ A.in1 (holding [kvl z t] (setAdd a (kvl z t)) >>= _) _ _ s1
    unfold setAdd
    refine wpAny_bind (wpAny_holding (wpAny_holding (wpAny_bind ((mixKind P w).pyHash (k := z) (kvl_is z t) ?_))))
    refine addS (s := { s1 with toks := s1.toks + 1 }) hS1 (by omega) fun h' sb hS2 => ?_
    have hS3 : SetS P w h' a (mm (ks.take (i + 1))) (if mm (ks.take i) z = true then c else c + 1) := hS2.congr fun j => by
      rw [List.take_add_one, hz]; exact mm_add
    have c3 : (if mm (ks.take i) z = true then c else c + 1) ≤ i + 1 := by split <;> omega
    refine wpAny_pure ⟨plainId_quiet F.plain_set_update_loop _, ih (i + 1) _ (by omega) lt (W.frame _ s1 _ _ st1 (Nat.le_succ _) fun b hb o e => ?_) ⟨_, c3, hS3⟩ fun s2 c2 mv2 hc2 hS2 => ?_⟩
    · exact (sb.2 b fun h : b = a => ha (h ▸ hb)).trans e
    · exact hR s2 c2 (Moved.trans W.gtrans ((mv.mono sub).then_heap (Nat.le_succ _) fun b o hb e => (sb.2 b fun h : b = a => hb (h ▸ List.mem_cons_self)).trans e) mv2) hc2 hS2
end
end SX
namespace SX
open PySem PySem.Spec PyProof.Rows L2
section
variable {P : Program} {w : World} {A : Around} {E : Value → Shared → Prop} {s : Shared}
theorem sub_str_set : isSubtype (.type "str") (.type "set") = pure false := by rw [isSubtype_type]; kernel_rfl
theorem sub_str_fs : isSubtype (.type "str") (.type "frozenset") = pure false := by rw [isSubtype_type]; kernel_rfl
abbrev s0 (w : World) : Obj := { cls := .type "set", dict := none, data := .set #[] 0 (.fresh 0 0 (!w.params.followText "set-order")) }
/-- the signs of a text, as keys -/
def sgn (x : Str) : List Key := x.cps.toList.map fun c => .inr ⟨#[c]⟩
theorem sgn_at {x : Str} {i : Nat} {v : Value} (h : SignAt x i v) : ∃ k t, (sgn x)[i]? = some k ∧ v = kvl k t := by
  obtain ⟨c, u, q, rfl⟩ := h
  exact ⟨.inr ⟨#[c]⟩, u, by unfold sgn; rw [List.getElem?_map, Array.getElem?_toList, q]; rfl, rfl⟩
set_option maxHeartbeats 8000000 in
theorem call_set_str {x : Str} {t : Tok} {Q : Value → Shared → Prop} (hh : A.handled = none) (hb : (sgn x).length + 1 < scanBound)
    (h : ∀ (h' : Heap) (tk c : Nat), SetS P w h' s.heap.objs.size (mm (sgn x)) c → c ≤ (sgn x).length → (∀ b o, s.heap.get? b = some o → h'.get? b = some o) → Q (.ref s.heap.objs.size) { s with heap := h', toks := tk }) :
    wpAny (model P w) A (call (.type "set") [.str x t]) Q E s := by
  have hz : x.cps.size = (sgn x).length := by unfold sgn; rw [List.length_map, Array.length_toList]
  obtain ⟨c, tl, mro⟩ := F.called_set.mro
  have made := F.called_set.made
  have sub := F.called_set.sub
  refine wpAny_call (codeAny_of_tree ?_)
  show wpAny _ _ (callAny (.type "set") _) _ _ _
  refine wpAny_pure ⟨Code.quiet_builtin _ (by decide +kernel), codeAny_builtin F.entry_type_call ?_⟩
  rw [Around.under_plain (weight_type_call_type "set" [.str x t] []) rfl]
  have u1 := F.called_set.notType
  have u2 := F.called_set.canCreate
  have u3 := F.typeCall_set_1 (.str x t)
  repeat (any_goals (first | assumption | wp_step))

  refine codeAny_mono (code_set_led1 (.str x t) (E := E) (Q₁ := fun obj s1 => obj = .ref s.heap.objs.size ∧ s1 = { s with heap := s.heap.push (s0 w) }) ⟨rfl, rfl⟩) fun r s1 hr => ?_
  cases r with
  | error e => exact hr
  | ok fl =>
    cases fl with
    | ret obj =>
      obtain ⟨rfl, rfl⟩ := hr
      have hS : (s.heap.push (s0 w)).get? s.heap.objs.size = some (s0 w) := Heap.get?_push_size _ rfl
      have hT : Shared.TypeIs { s with heap := s.heap.push (s0 w) } (.ref s.heap.objs.size) "set" := ⟨_, hS, rfl⟩
      have v1 := F.called_set.init.lookup
      have v2 := F.called_set.init.bind (.ref s.heap.objs.size)
      repeat (any_goals (first | assumption | wp_step))

      refine codeAny_mono (codeAny_call_builtin (R := wants (fun r s2 => r = .none ∧ ∃ h' tk c, s2 = { s with heap := h', toks := tk } ∧ SetS P w h' s.heap.objs.size (mm (sgn x)) c ∧ c ≤ (sgn x).length ∧
          (∀ b o, s.heap.get? b = some o → h'.get? b = some o)) E) F.called_set.init.plain F.entry_set_init (check_set_init_1 hT ?_)) fun r2 s2 hr2 => ?_
      · have w1 := sub_str_set
        have w2 := sub_str_fs
        have w3 : (Value.type "str" == Value.type "dict") = false := by decide
        unfold Builtin.«set.__init__» noKeywords Builtin.Frozenset.updateFrom
        generalize ePI : pyIter = PI
        wp_walk
        subst ePI
        refine wpAny_pyIter_str fun o St W hst => ?_
        refine wpAny_bind (wpAny_runValue ?_)
        have g3 : A.in1.in1.in1.handled = none := by simp [hh]
        have z1 : (s.heap.push (s0 w)).objs.size = s.heap.objs.size + 1 := Heap.size_push ..
        have nf : s.heap.objs.size ∉ [(s.heap.push (s0 w)).objs.size] := by
          rw [z1, List.mem_singleton]; omega
        refine updateS ((W _ g3).toS) s.heap.objs.size nf (sgn x) hz hb (fun i v => sgn_at) (x.cps.size - 0) 0 _ (by omega) (Nat.zero_le _) hst ?S0 ?R0
        case S0 =>
          exact ⟨0, Nat.le_refl 0, freshS (Heap.get?_push_of_some _ hS) fun k => rfl⟩
        case R0 =>
          intro s' c' mv hc' hS'
          obtain ⟨h', g2, d', tk', os'⟩ := s'
          obtain rfl : g2 = s.gens := mv.gens
          obtain rfl : d' = s.drawn := mv.drawn
          obtain rfl : os' = s.os := mv.os
          show wpAny _ _ _ _ _ _
          refine wpAny_pure ?_
          show wpAny _ _ (ret Value.none) _ _ _
          rw [hz] at hc'
          refine wpAny_pure ⟨rfl, h', tk', c', rfl, hS', hc', fun b o e => ?_⟩
          have b0 : b < s.heap.objs.size := Heap.lt_size e
          refine mv.heap b o (fun z => ?_) (Heap.get?_push_of_some _ (Heap.get?_push_of_some _ e))
          rcases List.mem_cons.mp z with z | z
          · exact absurd z (Nat.ne_of_lt b0)
          · exact absurd ((List.mem_singleton.mp z).trans z1) (Nat.ne_of_lt (Nat.lt_succ_of_lt b0))
      · cases r2 with
        | error e => exact hr2
        | ok fl2 =>
          cases fl2 with
          | ret r =>
            obtain ⟨rfl, h', tk, c', rfl, hS', hc', hk'⟩ := hr2
            repeat (any_goals (first | assumption | wp_step))
            exact h _ _ _ hS' hc' hk'
          | _ => exact hr2.elim
    | _ => exact hr.elim
end
end SX

namespace SX
open PySem PySem.Spec PyProof.Rows L2
open PySem.W (EachIs alike list_sort_data dataLe)
section
variable {P : Program} {w : World} {A : Around} {E : Value → Shared → Prop} {s : Shared}
/-- sorted(set), its members all told by bo -/
theorem sorted_setG {β : Type} (enc : β → PyData) (mk : β → Tok → Value) (bo : Value → β) (hrd : ∀ h b t, Reads h (mk b t) (enc b) []) (hal : ∀ b b', alike (enc b) (enc b') = true) (hso : ∀ b, enc b ≠ .none ∧ ∀ xs, enc b ≠ .tuple xs) (hde : ∀ b, (enc b).depth = 0)
    {a : Addr} {o : Obj} {es : Array (Int × Value)} {ep : Nat} {t : SetTable} {Q : Value → Shared → Prop} (ho : s.heap.get? a = some o) (hx : o.ExactSet) (hd : o.data = .set es ep t) (hb : es.size < scanBound) (hf : t.fits es.size = true) (hr : Ris t.place.toList)
    (hl : w.params.followText "set-order" = true ∨ t.led = true) (hm : ∀ e ∈ es.toList, ∃ u, e.2 = mk (bo e.2) u) (hh : A.handled = none) (hu : A.units + 64 < cLine)
    (hQ : ∀ s' p (out : Array Value) (c : Nat) (bs : List β), (∀ b o, s.heap.get? b = some o → s'.heap.get? b = some o) → s'.gens = s.gens → s'.os = s.os → s.heap.objs.size ≤ p →
      s'.heap.get? p = some (seqObj "list" out c) → bs.Perm (es.toList.map fun e => bo e.2) → EachIs (fun v b => ∃ u, v = mk b u) out.toList (bs.mergeSort (dataLe false enc)) → Q (.ref p) s') :
    wpAny (model P w) A (call (.builtin "sorted") [.ref a]) Q E s := by
  refine Calls.call_function_entry kind_sorted plain_sorted entry_sorted (args_sorted1 _) ?_
  unfold Builtin.«sorted»
  refine wpAny_bind (m := checkCount "sorted" 1 1 _) (wpAny_pure (wpAny_bind (collect_set (A := A.in1) hh ⟨o, ho, hx.1, hd⟩ hf hb hr hl fun s1 vs k1 hz g1 o1 pm => ?_)))
  have vl : vs.length = es.size := by rw [pm.length_eq, List.length_map, Array.length_toList]
  have line : vs.length ≤ sizeLine := vl ▸ fits_of_scanBound hb
  refine wpAny_bind (wpAny_newList ?_ line)
  have hL : (s1.heap.push (seqObj "list" vs.toArray 0)).get? s1.heap.objs.size = some (seqObj "list" vs.toArray 0) := Heap.get?_push_size _ rfl
  have ev : ∀ ws : List Value, (∀ v ∈ ws, ∃ u, v = mk (bo v) u) → EachIs (fun v b => ∃ u, v = mk b u) ws (ws.map bo) := fun ws => by
    induction ws with
    | nil => exact fun _ => .nil
    | cons v r ih => exact fun q => .cons (q v List.mem_cons_self) (ih fun x hx => q x (List.mem_cons_of_mem _ hx))
  have e1 := ev vs fun v hv => by
    obtain ⟨e, he, q⟩ := List.mem_map.mp (pm.mem_iff.mp hv)
    rw [← q]
    exact hm e he
  have pb : (vs.map bo).Perm (es.toList.map fun e => bo e.2) := by
    have := pm.map bo
    rwa [List.map_map] at this
  refine wpAny_bind (wpAny_holding (list_sort_data (enc := enc) (R := fun v b => ∃ u, v = mk b u) (bs := vs.map bo) hL e1 (e1.mono fun v b ⟨u, q⟩ => ⟨[], q ▸ hrd _ b u, List.not_mem_nil⟩) (.of hal) (.others hso) (by rw [List.length_map]; exact line) (fun b _ => ?_) fun out h1 h2 => ?_))
  · rw [hde b]
    show A.in1.units + 1 + 0 < cLine
    have : A.in1.units ≤ A.units + 62 := by simp [Around.in1]
    omega
  obtain ⟨c, hc⟩ := sortedHeap_at (vs := vs) (out := out.toArray) hL
  refine wpAny_pure ⟨_, rfl, hQ _ s1.heap.objs.size out.toArray c (vs.map bo) (fun b u e => ?_) g1 o1 hz hc pb (by simpa using h2)⟩
  have q := k1 b u e
  have lt := Heap.lt_size q
  show (sortedHeap (s1.heap.push (seqObj "list" vs.toArray 0)) s1.heap.objs.size vs out.toArray).get? b = some u
  exact (sortedHeap_old (Nat.ne_of_lt lt) (by rw [size_push']; exact Nat.lt_succ_of_lt lt)).trans (Heap.get?_push_of_some _ q)
end
end SX

namespace SX
open PySem PySem.Spec PyProof.Rows L2
open PySem.W (EachIs alike list_sort_data dataLe)
/-! ascending lists -/
theorem asc_uniq {α : Type} {r : α → α → Prop} (as : ∀ a b, r a b → ¬ r b a) (ir : ∀ a, ¬ r a a) : ∀ {l m : List α}, l.Pairwise r → m.Pairwise r → (∀ x, x ∈ l ↔ x ∈ m) → l = m
  | [], [], _, _, _ => rfl
  | [], b :: m, _, _, h => absurd ((h b).mpr List.mem_cons_self) List.not_mem_nil
  | a :: l, [], _, _, h => absurd ((h a).mp List.mem_cons_self) List.not_mem_nil
  | a :: l, b :: m, p, q, h => by
    obtain ⟨p1, p2⟩ := List.pairwise_cons.mp p
    obtain ⟨q1, q2⟩ := List.pairwise_cons.mp q
    have e : a = b := by
      rcases List.mem_cons.mp ((h a).mp List.mem_cons_self) with z | z
      · exact z
      · rcases List.mem_cons.mp ((h b).mpr List.mem_cons_self) with y | y
        · exact y.symm
        · exact absurd (p1 b y) (as _ _ (q1 a z))
    subst e
    rw [asc_uniq as ir p2 q2 fun x => ⟨fun hx => ?_, fun hx => ?_⟩]
    · rcases List.mem_cons.mp ((h x).mp (List.mem_cons_of_mem _ hx)) with z | z
      · subst z; exact absurd (p1 x hx) (ir x)
      · exact z
    · rcases List.mem_cons.mp ((h x).mpr (List.mem_cons_of_mem _ hx)) with z | z
      · subst z; exact absurd (q1 x hx) (ir x)
      · exact z
def insU (a : Nat) : List Nat → List Nat
  | [] => [a]
  | b :: l => if a < b then a :: b :: l else if a = b then b :: l else b :: insU a l
theorem insU_mem {a x : Nat} : ∀ {l : List Nat}, x ∈ insU a l ↔ x = a ∨ x ∈ l
  | [] => by simp [insU]
  | b :: l => by
    unfold insU
    split
    · simp
    · split
      · rename_i e; subst e; simp
      · rw [List.mem_cons, insU_mem, List.mem_cons]
        constructor
        · rintro (h | h | h)
          · exact .inr (.inl h)
          · exact .inl h
          · exact .inr (.inr h)
        · rintro (h | h | h)
          · exact .inr (.inl h)
          · exact .inl h
          · exact .inr (.inr h)
theorem insU_asc {a : Nat} : ∀ {l : List Nat}, l.Pairwise (· < ·) → (insU a l).Pairwise (· < ·)
  | [], _ => by simp [insU]
  | b :: l, h => by
    obtain ⟨h1, h2⟩ := List.pairwise_cons.mp h
    unfold insU
    split
    · rename_i q
      refine List.pairwise_cons.mpr ⟨fun x hx => ?_, h⟩
      rcases List.mem_cons.mp hx with z | z
      · omega
      · have := h1 x z; omega
    · split
      · exact h
      · refine List.pairwise_cons.mpr ⟨fun x hx => ?_, insU_asc h2⟩
        rcases insU_mem.mp hx with z | z
        · omega
        · exact h1 x z
def srtN (l : List Nat) : List Nat := l.foldr insU []
theorem srtN_mem {x : Nat} : ∀ {l : List Nat}, x ∈ srtN l ↔ x ∈ l
  | [] => Iff.rfl
  | a :: l => by
    show x ∈ insU a (srtN l) ↔ _
    rw [insU_mem, srtN_mem, List.mem_cons]
theorem srtN_asc : ∀ {l : List Nat}, (srtN l).Pairwise (· < ·)
  | [] => List.Pairwise.nil
  | a :: l => insU_asc (srtN_asc (l := l))
theorem srtN_self {l : List Nat} (h : l.Pairwise (· < ·)) : srtN l = l := asc_uniq (fun a b p q => by omega) (fun a => Nat.lt_irrefl a) srtN_asc h fun x => srtN_mem
def sgl (c : Nat) : Str := ⟨#[c]⟩
theorem sgl_inj {c d : Nat} (h : sgl c = sgl d) : c = d := by
  have e := congrArg (fun x : Str => x.cps.toList) h
  exact (List.cons.inj e).1
/-- Python's order of texts -/
def ltT (a b : Str) : Prop := a.cps.toList < b.cps.toList
theorem ltT_sgl {c d : Nat} : ltT (sgl c) (sgl d) ↔ c < d := by
  refine ⟨fun h => ?_, fun h => List.Lex.rel h⟩
  have h : List.Lex (· < ·) [c] [d] := h
  cases h with
  | rel h => exact h
  | cons h => cases h
theorem ltT_asym (a b : Str) (h : ltT a b) : ¬ ltT b a := fun k => List.lt_irrefl _ (List.lt_trans h k)
theorem ltT_irrefl (a : Str) : ¬ ltT a a := List.lt_irrefl _
def srt (x : Str) : List Str := (srtN x.cps.toList).map sgl
theorem srt_asc {x : Str} : (srt x).Pairwise ltT := List.pairwise_map.mpr (srtN_asc.imp fun {a b} h => ltT_sgl.mpr h)
theorem srt_mem {x y : Str} : y ∈ srt x ↔ y ∈ x.cps.toList.map sgl := by
  refine ⟨fun h => ?_, fun h => ?_⟩
  · obtain ⟨c, h1, h2⟩ := List.mem_map.mp h
    exact List.mem_map.mpr ⟨c, srtN_mem.mp h1, h2⟩
  · obtain ⟨c, h1, h2⟩ := List.mem_map.mp h
    exact List.mem_map.mpr ⟨c, srtN_mem.mpr h1, h2⟩
theorem srt_is {x : Str} {ys : List Str} (p : ys.Pairwise ltT) (h : ∀ y, y ∈ ys ↔ y ∈ x.cps.toList.map sgl) : ys = srt x :=
  asc_uniq ltT_asym ltT_irrefl p srt_asc fun y => (h y).trans srt_mem.symm
theorem srt_length {x : Str} : (srt x).length ≤ x.cps.size := by
  unfold srt
  rw [List.length_map, ← Array.length_toList]
  have : ∀ l : List Nat, (srtN l).length ≤ l.length := fun l => by
    induction l with
    | nil => exact Nat.le_refl _
    | cons a l ih =>
      have : ∀ m : List Nat, (insU a m).length ≤ m.length + 1 := fun m => by
        induction m with
        | nil => exact Nat.le_refl _
        | cons b m ih2 =>
          unfold insU
          split
          · exact Nat.le_refl _
          · split
            · simp
            · simpa using ih2
      exact Nat.le_trans (this (srtN l)) (Nat.succ_le_succ ih)
  exact this _
/-! the rules -/
def SetSO (P : Program) (w : World) (a : Addr) (S : Key → Bool) (n : Nat) : HO := .ext fun h => SetS P w h a S n
theorem setSO_new {P : Program} {w : World} {H : Hp} {h : Heap} {a : Addr} {S : Key → Bool} {n : Nat} (R : SetS P w h a S n) : ObjOk P w H h a (SetSO P w a S n) :=
  ⟨R, (let ⟨o, _, _, _, ho, _⟩ := R; ⟨o, ho⟩), fun _ _ p k => SetS.at p k⟩
def rSetStr (P : Program) (w : World) : List V → Hp → VK → Prop := fun xs H Q => ∃ x : Str, xs = [.str x] ∧ x.cps.size < 4000 ∧ ∀ p n, H p = none → n ≤ x.cps.size → Q (.ref p) (upd H p (SetSO P w p (mm (sgn x)) n))
def rSrtStr (P : Program) (w : World) : List V → Hp → VK → Prop := fun vs H Q => ∃ (a : Addr) (x : Str) (n : Nat), vs = [V.ref a] ∧ x.cps.size < 4000 ∧ H a = some (SetSO P w a (mm (sgn x)) n) ∧ ∀ p, H p = none → Q (.ref p) (upd H p (.lst ((srt x).map V.str)))
section
variable {X : Cx}
theorem cr_setStr (hc : X.calm = true) : CallR X (.type "set") (rSetStr X.prog X.w) := by
  intro pins s σ H xs us Q I r h
  obtain ⟨x, rfl, hx, q⟩ := h
  obtain ⟨u, rfl, ru⟩ := vals1 r
  obtain ⟨t, rfl⟩ := (show ∃ t, u = Value.str x t from ru)
  have hn : H s.heap.objs.size = none := I.hok.fresh (Nat.le_refl _)
  have hl : (sgn x).length = x.cps.size := by unfold sgn; rw [List.length_map, Array.length_toList]
  refine call_set_str (P := X.prog) (w := X.w) (I.ok.hd hc) (by rw [hl]; show _ < 4096; omega) fun h' tk c R hcn k => ?_
  exact ⟨.ref s.heap.objs.size, _, I.laid (t' := tk) k (Nat.le_refl _) (setSO_new R), rfl, q _ c hn (hl ▸ hcn)⟩
theorem vals_strs : ∀ {out : List Value} {ys : List Str}, EachIs (fun v b => ∃ u, v = Value.str b u) out ys → Vals (ys.map V.str) out
  | _, _, .nil => .nil
  | _, _, .cons h t => .cons h (vals_strs t)
theorem cr_srtStr (hc : X.calm = true) (hu : X.A.units + 64 < cLine) : CallR X (.builtin "sorted") (rSrtStr X.prog X.w) := by
  intro pins s σ H vs us Q I r h
  obtain ⟨a, x, n, rfl, hx, ha, q⟩ := h
  rw [Vals.ref1 r]
  have R : SetS X.prog X.w s.heap a (mm (sgn x)) n := (I.hok a _ ha).1
  obtain ⟨o, es, ep, t, ho, hex, hd, g, nd, hm, hb, hf, hn, hr, hl⟩ := R
  have back : ∀ e ∈ es.toList, ∃ c, c ∈ x.cps.toList ∧ ko e.2 = .inr (sgl c) := fun e he => by
    have h1 : ko e.2 ∈ keysE es := List.mem_map.mpr ⟨e, he, rfl⟩
    obtain ⟨c, hc1, hc2⟩ := List.mem_map.mp (mm_iff.mp ((hm _).2 h1))
    exact ⟨c, hc1, hc2.symm⟩
  let bo : Value → Str := fun v => match v with | .str x _ => x | _ => ⟨#[]⟩
  have hbo : ∀ e ∈ es.toList, ∃ u, e.2 = Value.str (bo e.2) u := fun e he => by
    obtain ⟨k, t, e1, _⟩ := g e he
    obtain ⟨c, _, e2⟩ := back e he
    rw [e1, ko_kvl] at e2
    subst e2
    exact ⟨t, by rw [e1]; rfl⟩
  have kb : ∀ e ∈ es.toList, ko e.2 = .inr (bo e.2) := fun e he => by
    obtain ⟨u, e1⟩ := hbo e he
    rw [e1]; rfl
  refine sorted_setG (β := Str) (fun b => .str b) (fun b t => .str b t) bo (fun h b t => .str b t) (fun _ _ => rfl) (fun b => ⟨fun z => (nomatch z), fun xs z => (nomatch z)⟩) (fun _ => rfl) ho hex hd hb hf hr hl hbo (I.ok.hd hc) hu fun s' p out c bs k gg oo hp hg pm ei => ?_
  have mem : ∀ y, y ∈ bs.mergeSort (dataLe false fun b => PyData.str b) ↔ y ∈ x.cps.toList.map sgl := fun y => by
    rw [(List.mergeSort_perm _ _).mem_iff, pm.mem_iff, List.mem_map]
    constructor
    · rintro ⟨e, he, rfl⟩
      obtain ⟨c, hc1, hc2⟩ := back e he
      rw [kb e he] at hc2
      exact List.mem_map.mpr ⟨c, hc1, (Sum.inr.inj hc2).symm⟩
    · intro hy
      obtain ⟨c, hc1, hc2⟩ := List.mem_map.mp hy
      have : (Sum.inr y : Key) ∈ keysE es := (hm _).1 (mm_iff.mpr (List.mem_map.mpr ⟨c, hc1, by rw [← hc2]; rfl⟩))
      obtain ⟨e, he, e1⟩ := List.mem_map.mp this
      rw [kb e he] at e1
      exact ⟨e, he, Sum.inr.inj e1⟩
  have nd2 : (bs.mergeSort (dataLe false fun b => PyData.str b)).Nodup := by
    rw [(List.mergeSort_perm _ _).nodup_iff, pm.nodup_iff]
    have e1 : keysE es = (es.toList.map fun e => bo e.2).map Sum.inr := by
      unfold keysE
      rw [List.map_map]
      exact List.map_congr_left fun e he => kb e he
    rw [e1] at nd
    exact (List.pairwise_map.mp nd).imp fun {a b} h e => h (congrArg _ e)
  have pw : (bs.mergeSort (dataLe false fun b => PyData.str b)).Pairwise ltT := by
    have e1 : (dataLe false fun b : Str => PyData.str b) = fun a b => decide (a.cps.toList ≤ b.cps.toList) := PySem.W.dataLe_str fun b => b
    rw [e1] at nd2 ⊢
    have s1 := List.pairwise_mergeSort (le := fun a b : Str => decide (a.cps.toList ≤ b.cps.toList)) (fun a b c h1 h2 => decide_eq_true (List.le_trans (of_decide_eq_true h1) (of_decide_eq_true h2))) (fun a b => by
      rcases List.le_total a.cps.toList b.cps.toList with z | z
      · rw [decide_eq_true z]; rfl
      · rw [decide_eq_true z, Bool.or_true]) bs
    refine (s1.and nd2).imp fun {a b} ⟨h1, h2⟩ => ?_
    have h1 := of_decide_eq_true h1
    by_cases z : a.cps.toList < b.cps.toList
    · exact z
    · exact absurd (PySem.W.str_of_cps (List.le_antisymm h1 z)) h2
  have es2 := srt_is pw mem
  rw [es2] at ei
  have hlen : ((srt x).map V.str).length ≤ sizeLine := by
    have := srt_length (x := x)
    rw [List.length_map, sizeLine_eq]; omega
  have hnp : H p = none := I.hok.fresh hp
  have J : Inv X pins σ (upd H p (.lst ((srt x).map V.str))) { s with heap := s'.heap, gens := s'.gens, drawn := s'.drawn, toks := s'.toks } :=
    I.call (ch := []) (Un.laid k hp hnp) (I.hok.laid k hp ⟨hlen, out.toList, c, vals_strs ei, hg⟩) (by rw [gg]; exact I.bare) fun _ z => nomatch z
  have e : s' = { s with heap := s'.heap, gens := s'.gens, drawn := s'.drawn, toks := s'.toks } := by
    cases s'; cases s; cases oo; rfl
  rw [e]
  exact ⟨.ref p, _, J, rfl, q p hnp⟩
end
end SX

namespace DL
open PySem PySem.Spec PyProof.Rows L2
section
variable {c : Cn} {X : Cx} {F : Fr} {W : WX} {ρ : List Sl}
/-- sorted(set(x)), x a text -/
def sortSet : D → M D
  | .str x => if x.cps.size < 4000 then Pure.pure (.lst ((SX.srt x).map .str)) else M.no
  | _ => M.no
theorem nt_ext {f : Heap → Prop} : noTbl (.ext f) := fun _ h => nomatch h
theorem reps_strs {G : Hp} : ∀ ys : List Str, c.reps G (ys.map V.str) (ys.map D.str)
  | [] => Reps.nil
  | y :: ys => Reps.cons (.str y) (reps_strs ys)
theorem de_sortSet {x y : Str} {p p2 pos q2 : Pos} {a : Expr} {ms : M (List Ar)} (hc : X.calm = true) (hu : X.A.units + 64 < cLine) (hg : Gl X x) (hm : X.mg x = none) (hv : bootBuiltins x = some (.builtin "sorted")) (hg2 : Gl X y) (hm2 : X.mg y = none) (hv2 : bootBuiltins y = some (.type "set")) (ha : PA X [a] (rdA c F W ρ ms))
    (hn : x ≠ "__name__" := by decide) (hdb : (x == ("__debug__" : Str)) = false := by decide) (hn2 : y ≠ "__name__" := by decide) (hdb2 : (y == ("__debug__" : Str)) = false := by decide)
    (he : starEach [a] X.env = [(false, eval a X.env)] := by rfl) (he2 : starEach [Expr.Call (.Name y p2) [a] [] q2] X.env = [(false, eval (.Call (.Name y p2) [a] [] q2) X.env)] := by rfl) :
    PE X (.Call (.Name x p) [.Call (.Name y p2) [a] [] q2] [] pos) (rdE c F W ρ (ms >>= fun as => DL.vals as >>= f1 sortSet)) := by
  refine pe_by (pe_callB (SX.cr_srtStr hc hu) hg hm hv (pa_cons (pe_callTy (SX.cr_setStr hc) hg2 hm2 hv2 ha hn2 hdb2 he rfl) pa_nil) hn hdb he2 rfl) fun σ H Q ⟨P, G, R, q⟩ => ?_
  refine ⟨P, G, R, out_mono (out_bind.mp q) (fun as P1 q1 vs H1 G1 e1 R1 r1 => ?_) fun _ _ z => z⟩
  obtain ⟨ds, rr, q2⟩ := r1.reps (out_bind.mp q1)
  match ds, q2 with
  | [.str x], q2 =>
    obtain ⟨v, rfl, rv⟩ := rr.one
    obtain rfl := rv.str_of
    have q3 : out (if x.cps.size < 4000 then Pure.pure (D.lst ((SX.srt x).map .str)) else M.no) P1 _ _ := q2
    by_cases hx : x.cps.size < 4000
    · rw [if_pos hx] at q3
      refine ⟨x, rfl, hx, fun p n hp _ => ?_⟩
      obtain ⟨R2, e2⟩ := R1.new hp (o := SX.SetSO X.prog X.w p (SX.mm (SX.sgn x)) n) nt_ext
      refine ⟨p, x, n, rfl, hx, upd_same, fun l hl => ?_⟩
      exact new_lst R2 hl (reps_strs _) fun v' H' G' e3 R3 r3 => q3 v' H' G' ((e1.trans e2).trans e3) R3 r3
    · rw [if_neg hx] at q3; exact q3.elim
  | [.non], q2 => exact q2.elim
  | [.bl _], q2 => exact q2.elim
  | [.int _], q2 => exact q2.elim
  | [.lst _], q2 => exact q2.elim
  | [.tup _], q2 => exact q2.elim
  | [.scr _], q2 => exact q2.elim
  | [.dic _], q2 => exact q2.elim
  | [.ins _ _], q2 => exact q2.elim
  | [], q2 => exact q2.elim
  | _ :: _ :: _, q2 => exact q2.elim
end
end DL

/-! instances: made, read, asked -/
namespace DL
open PySem PySem.Spec PyProof.Rows L2
/-- fields, by name: put in the place of the one that is there, or behind all -/
def putA {β : Type} (f : Str) (v : β) : List (Str × β) → List (Str × β)
  | [] => [(f, v)]
  | (g, x) :: r => if g = f then (g, v) :: r else (g, x) :: putA f v r
section
variable {c : Cn} {X : Cx} {F : Fr} {W : WX} {ρ : List Sl} {k : Nat}
theorem putF_rep {G : Hp} {f : Str} {v : V} {d : D} (r : c.rep G v d) : ∀ {fs : List (Str × V)} {ds : List (Str × D)}, fs.map (·.1) = ds.map (·.1) → c.reps G (fs.map (·.2)) (ds.map (·.2)) → (putF f v fs).map (·.1) = (putA f d ds).map (·.1) ∧ c.reps G ((putF f v fs).map (·.2)) ((putA f d ds).map (·.2))
  | [], [], _, _ => ⟨rfl, Reps.cons r Reps.nil⟩
  | [], _ :: _, h, _ => by simp at h
  | _ :: _, [], h, _ => by simp at h
  | (g, x) :: fs, (g', y) :: ds, h, rs => by
    simp only [List.map_cons, List.cons.injEq] at h
    obtain ⟨h1, h2⟩ := h
    have e1 : g = g' := h1
    subst e1
    have rh : c.rep G x y := rs.head
    have rt : c.reps G (fs.map (·.2)) (ds.map (·.2)) := rs.tail
    unfold putF putA
    by_cases z : g = f
    · rw [if_pos z, if_pos z]
      exact ⟨by simp only [List.map_cons]; rw [h2], by simp only [List.map_cons]; exact Reps.cons r rt⟩
    · rw [if_neg z, if_neg z]
      obtain ⟨a, b⟩ := putF_rep (f := f) r h2 rt
      exact ⟨by simp only [List.map_cons]; rw [a], by simp only [List.map_cons]; exact Reps.cons rh b⟩
theorem lookup_rep {G : Hp} {f : Str} {d : D} : ∀ {fs : List (Str × V)} {ds : List (Str × D)}, fs.map (·.1) = ds.map (·.1) → c.reps G (fs.map (·.2)) (ds.map (·.2)) → ds.lookup f = some d → ∃ v, fs.lookup f = some v ∧ c.rep G v d
  | [], [], _, _, h => by simp at h
  | [], _ :: _, h, _, _ => by simp at h
  | _ :: _, [], h, _, _ => by simp at h
  | (g, x) :: fs, (g', y) :: ds, h, rs, l => by
    simp only [List.map_cons, List.cons.injEq] at h
    obtain ⟨h1, h2⟩ := h
    have e1 : g = g' := h1
    subst e1
    have rh : c.rep G x y := rs.head
    have rt : c.reps G (fs.map (·.2)) (ds.map (·.2)) := rs.tail
    simp only [List.lookup] at l ⊢
    split at l
    · cases l; exact ⟨x, rfl, rh⟩
    · exact lookup_rep h2 rt l
theorem lookup_no {β γ : Type} {f : Str} : ∀ {fs : List (Str × β)} {ds : List (Str × γ)}, fs.map (·.1) = ds.map (·.1) → ds.lookup f = none → fs.lookup f = none
  | [], [], _, _ => rfl
  | [], _ :: _, h, _ => by simp at h
  | _ :: _, [], h, _ => by simp at h
  | (g, x) :: fs, (g', y) :: ds, h, l => by
    simp only [List.map_cons, List.cons.injEq] at h
    obtain ⟨h1, h2⟩ := h
    have e1 : g = g' := h1
    subst e1
    simp only [List.lookup] at l ⊢
    split at l
    · cases l
    · exact lookup_no h2 l
/-! ### what the written part says of a class -/
/-- the class cn of one's own, at C -/
def AtC (c : Cn) (cn : Str) (p : Addr → Prop) : Prop := ∃ C, c.mg cn = some (.ref C) ∧ p C
theorem AtC.get {cn : Str} {p : Addr → Prop} (h : AtC c cn p) {C : Addr} (e : c.mg cn = some (.ref C)) : p C := by
  obtain ⟨C', e', q⟩ := h
  rw [e] at e'
  cases e'
  exact q
/-! ### reading a field -/
def fldD (cns : List Str) (f : Str) : D → M D
  | .ins cn fs => if cn ∈ cns then M.some (fs.lookup f) else M.no
  | _ => M.no
theorem de_fld {e : Expr} {f : Str} {pos : Pos} {m : M D} {cns : List Str} (hK : X.K = c.K) (hc : ∀ cn ∈ cns, AtC c cn fun C => Cls c.K C ∧ NoAttr c.K C f) (he : PE X e (rdE c F W ρ m)) (hb : attributeBase e f X.env (eval e X.env) = eval e X.env := by rfl) :
    PE X (.Attribute e f pos) (rdE c F W ρ (m >>= fldD cns f)) := by
  refine pe_by (pe_fld he hb) fun σ H Q ⟨P, G, R, q⟩ => ?_
  refine ⟨P, G, R, out_mono (out_bind.mp q) (fun d P1 q1 v H1 G1 e1 R1 r1 => ?_) fun _ _ z => z⟩
  cases d with
  | ins cn fs =>
    have q2 : out (if cn ∈ cns then M.some (fs.lookup f) else M.no) P1 _ _ := q1
    by_cases hm : cn ∈ cns
    · rw [if_pos hm] at q2
      obtain ⟨d, l, q3⟩ := out_some.mp q2
      cases r1 with
      | ins ha hmc hk hr =>
        rename_i a C dx fvs
        obtain ⟨k1, k2⟩ := (hc cn hm).get hmc
        obtain ⟨v, l2, rv⟩ := lookup_rep hk ⟨by rw [List.length_map, List.length_map]; have := congrArg List.length hk; rwa [List.length_map, List.length_map] at this, fun i x y h1 h2 => by
          rw [List.getElem?_map, Option.map_eq_some_iff] at h1 h2
          obtain ⟨p, h1, rfl⟩ := h1
          obtain ⟨q, h2, rfl⟩ := h2
          exact hr i p q h1 h2⟩ l
        exact ⟨a, C, dx, fvs, v, rfl, R1.post.le _ _ ha, hK ▸ k1, hK ▸ k2, l2, q3 v H1 G1 e1 R1 rv⟩
    · rw [if_neg hm] at q2; exact q2.elim
  | _ => exact q1.elim
/-! ### a field is set, on an instance of one's own -/
theorem Rel.upd_own {P : Pot} {σ : L2.St} {H G : Hp} {i : Nat} {a : Addr} {k k' : Cel} {o : HO} (R : Rel c F ρ P σ H G) (hi : ρ[i]? = some (.o k)) (ha : σ[i]? = some (some (.ref a))) (hk : CelOk c G a o k') : Rel c F (ρ.set i (.o k')) P σ (upd H a o) G := by
  have hlt : i < ρ.length := (List.getElem?_eq_some_iff.mp hi).1
  obtain ⟨a', e, ⟨u, hu, hk0⟩, g, h, n⟩ := R.sl i _ _ hi ha
  cases e
  have nt : ∀ u, H a = some u → (∀ ps, u ≠ .tbl ps) ∧ ∀ φ, u ≠ .ext φ := fun v e => by
    rw [hu] at e; cases e
    cases u <;> cases k <;> first | exact hk0.elim | exact ⟨nofun, nofun⟩
  have R1 : Rel c F (ρ.set i .un) P σ (upd H a o) G := by
    have R0 : Rel c F (ρ.set i .un) P σ H G := by
      have := R.un (i := i) (x := some (.ref a))
      have e2 : σ.set i (some (V.ref a)) = σ := by
        apply List.ext_getElem?
        intro j
        rw [List.getElem?_set]
        split
        · rename_i z; subst z
          split
          · exact ha.symm
          · rename_i hl; exact absurd (by rw [R.len]; exact hlt) hl
        · rfl
      rwa [e2] at this
    refine R0.at g h n nt fun j kk hj hs => ?_
    by_cases z : i = j
    · subst z; rw [List.getElem?_set] at hj; simp at hj
    · rw [List.getElem?_set_ne z] at hj
      exact z (R.ap i j k kk a hi hj ha hs)
  refine ⟨R1.post, by simpa using R.len, fun j s x h1 h2 => ?_, fun j j' kk kk' b h1 h2 h3 h4 => ?_⟩
  · by_cases z : i = j
    · subst z
      rw [List.getElem?_set, if_pos rfl, if_pos hlt] at h1
      cases h1
      rw [ha] at h2; cases h2
      exact ⟨a, rfl, ⟨o, upd_same, hk⟩, g, h, n⟩
    · rw [List.getElem?_set_ne z] at h1
      exact R1.sl j s x (by rw [List.getElem?_set_ne z]; exact h1) h2
  · have back : ∀ {m : Nat} {kk : Cel}, (ρ.set i (.o k'))[m]? = some (.o kk) → ∃ k2, ρ[m]? = some (.o k2) := fun {m kk} h => by
      by_cases z : i = m
      · subst z; exact ⟨k, hi⟩
      · rw [List.getElem?_set_ne z] at h; exact ⟨kk, h⟩
    obtain ⟨k1, b1⟩ := back h1
    obtain ⟨k2, b2⟩ := back h2
    exact R.ap j j' k1 k2 b b1 b2 h3 h4
theorem ds_fld {i : Nat} {x f : Str} {p p2 pos : Pos} {e : Expr} {cn : Str} {sf : Addr} {fs : List (Str × D)} {me : M D} (hi : ρ[i]? = some (.o (.i sf cn fs))) (hK : X.K = c.K) (hc : AtC c cn fun C => Cls c.K C ∧ NoAttr c.K C f) (hn : fs.length < 900) (hx : PE X (.Name x p) (tVar i)) (he : PE X e (rdE c F W ρ me))
    (hs : swapsWith e (some (.Attribute (.Name x p) f p2)) pos.line X.env = pure false := by rfl) :
    PS X (.Assign [.Attribute (.Name x p) f p2] e pos) (rdS c F W ρ (fun d => ρ.set i (.o (.i sf cn (putA f d fs)))) (me >>= fun d => Pure.pure (.nx d))) := by
  refine ps_by (ps_fld hx he hs) fun B σ H ⟨P, G, R, q⟩ => ?_
  refine ⟨P, G, R, out_mono (out_bind.mp q) (fun d P1 q1 v H1 G1 e1 R1 r1 => ?_) fun _ _ z => exS.w z⟩
  have hl : i < σ.length := by rw [R1.len]; exact (List.getElem?_eq_some_iff.mp hi).1
  obtain ⟨a, ea, ⟨o, ho, hk⟩, g, h, n⟩ := R1.sl i _ _ hi (List.getElem?_eq_getElem hl)
  have hat : σ[i]? = some (some (V.ref a)) := by rw [List.getElem?_eq_getElem hl, ea]
  cases o with
  | ins C dx fvs =>
    obtain ⟨k0, k1, k2, k3⟩ := hk
    obtain ⟨c1, c2⟩ := hc.get k1
    obtain ⟨z1, z2⟩ := putF_rep (f := f) r1 k2 k3
    have len : fvs.length < 1000 := by
      have := congrArg List.length k2
      rw [List.length_map, List.length_map] at this
      omega
    have q2 : ∀ σ' H' G', Ext G G' → Rel c F (ρ.set i (.o (.i sf cn (putA f d fs)))) P1 σ' H' G' → B.nx σ' H' := q1
    refine ⟨.ref a, hat, a, C, dx, fvs, rfl, ho, hK ▸ c1, hK ▸ c2, len, q2 σ _ G1 e1 (R1.upd_own hi hat ⟨k0, k1, z1, z2⟩)⟩
  | _ => exact hk.elim
/-! ### __init__ -/
/-- what __init__ does, told by data: what the new instance keeps -/
def spI (c : Cn) (cn : Str) (mf : List Ar → M (List (Str × D))) : Sp := fun vs H Q E => ∃ (x dx C : Addr) (H1 G : Hp) (ap : Option Addr) (P : Pot) (as : List Ar) (ws : List V),
  vs = .ref x :: ws ∧ H = upd (upd H1 dx (.own x)) x (.ins C dx []) ∧ c.mg cn = some (.ref C) ∧ H1 x = none ∧ H1 dx = none ∧ dx ≠ x ∧ Post c ap G H1 P G H1 ∧ ArsOk c ⟨G, H1, ap⟩ G ws as ∧
  out (mf as) P (fun fs P' => ∀ H' G' dx2 fvs, Post c ap G H1 P' G' H' → H' x = some (.ins C dx2 fvs) → fvs.map (·.1) = fs.map (·.1) → c.reps G' (fvs.map (·.2)) (fs.map (·.2)) → G' x = none → Q .non H') (fun e P' => ∀ cl dd H' G', Post c ap G H1 P' G' H' → ExOk c H' G' e cl dd → E cl dd H')
theorem Post.more {ap : Option Addr} {G H1 H : Hp} {P : Pot} {p : Addr} {o : HO} (h : Post c ap G H1 P G H) (hp : H p = none) : Post c ap G H1 P G (upd H p o) := by
  have ne : ∀ b u, H b = some u → b ≠ p := fun b u e z => by rw [z, hp] at e; cases e
  refine ⟨h.ext, fun b u e => ?_, fun b u e n t => ?_, h.new, h.pot.ext (Ext.refl _) (fun a e => ?_) (fun a e => ?_), tabs_upd h.tab (fun u e => ?_), h.nt, fun a ps e => ?_⟩
  · rw [upd_ne (ne b u (h.le b u e))]; exact h.le b u e
  · rw [upd_ne (ne b u (h.fr b u e n t))]; exact h.fr b u e n t
  · have z := h.pot
    rw [e] at z
    cases P with
    | none => exact z.elim
    | some ds => obtain ⟨vs, z, _⟩ := z; exact upd_ne (ne a _ z)
  · have z := h.pot
    rw [e] at z
    cases P with
    | none => exact z.elim
    | some ds => obtain ⟨_, _, _, z⟩ := z; exact z
  · rw [hp] at e; cases e
  · obtain ⟨qs, z⟩ := h.tb a ps e
    exact ⟨qs, by rw [upd_ne (ne a _ z)]; exact z⟩
/-- the slots at the start of __init__ -/
def slotsI (me : Addr) (cn : Str) (as : List Ar) (n : Nat) : List Sl := .o (.i me cn []) :: slots as (n - 1)
theorem rel_startI {G H1 : Hp} {ap : Option Addr} {P : Pot} {ws : List V} {as : List Ar} {x0 : Str} {N : List Str} {x dx C : Addr} {cn : Str} (p : Post c ap G H1 P G H1) (r : ArsOk c ⟨G, H1, ap⟩ G ws as) (hC : c.mg cn = some (.ref C)) (hx : H1 x = none) (hd : H1 dx = none) (hne : dx ≠ x) :
    Rel c ⟨G, H1, ap⟩ (slotsI x cn as (x0 :: N).length) P (L2.start (x0 :: N) (.ref x :: ws)) (upd (upd H1 dx (.own x)) x (.ins C dx [])) G := by
  have R0 := rel_start (N := N) p r
  have p1 : Post c ap G H1 P G (upd H1 dx (.own x)) := p.more hd
  have hx1 : upd H1 dx (.own x) x = none := by rw [upd_ne (fun e => hne e.symm)]; exact hx
  have p2 := p1.more (o := .ins C dx []) hx1
  have nop : ∀ (i : Nat) k, (slots as N.length)[i]? ≠ some (.o k) := fun i k e => by
    unfold slots at e
    by_cases hi : i < (as.map arS).length
    · rw [List.getElem?_append_left hi, List.getElem?_map] at e
      cases q : as[i]? with
      | none => rw [q] at e; cases e
      | some a => rw [q] at e; cases a <;> cases e
    · rw [List.getElem?_append_right (Nat.le_of_not_lt hi), List.getElem?_replicate] at e
      split at e <;> cases e
  have es : L2.start (x0 :: N) (.ref x :: ws) = some (.ref x) :: L2.start N ws := by
    unfold L2.start
    simp
  rw [es]
  refine ⟨p2, by unfold slotsI; simpa using R0.len, fun i s v h1 h2 => ?_, fun i j k k' u h1 h2 _ _ => ?_⟩
  · cases i with
    | zero =>
      cases h1; cases h2
      refine ⟨x, rfl, ⟨_, upd_same, rfl, hC, rfl, Reps.nil⟩, p.g_none hx, hx, fun z => ?_⟩
      have z2 := p.pot
      have z : some x = ap := z
      rw [← z] at z2
      cases P with
      | none => exact z2.elim
      | some ds => obtain ⟨vs, z2, _⟩ := z2; rw [hx] at z2; cases z2
    | succ i =>
      have h1 : (slots as N.length)[i]? = some s := by simpa [slotsI] using h1
      have h2 : (L2.start N ws)[i]? = some v := by simpa using h2
      have z := R0.sl i s v h1 h2
      cases s with
      | un => exact True.intro
      | v d => exact z
      | p => exact z
      | o k => exact absurd h1 (nop i k)
  · have h0 : ∀ {m : Nat} {kk : Cel}, (slotsI x cn as (x0 :: N).length)[m]? = some (.o kk) → m = 0 := fun {m kk} h => by
      cases m with
      | zero => rfl
      | succ m => exact absurd (by simpa [slotsI] using h) (nop m kk)
    rw [h0 h1, h0 h2]
end
section
variable {P : Program} {w : World} {K : PySem.W.Frag} {mg : Str → Option Value} {base : Heap} {c : Cn}
theorem fnI_of {x qual x0 cn : Str} {st : Stmt} {f : Addr} {fd : FuncData} {N ps : List Str} {k : Nat} {mf : List Ar → M (List (Str × D))} (Fn : Fun K x qual st f fd) (hK : c.K = K) (hm : c.mg = mg) (S : FnScope (x0 :: N) ps (defScope st)) (len : ∀ as P ok ex, out (mf as) P ok ex → as.length + 1 = ps.length)
    (hbody : ∀ (cd : Value) (A : Around) (fr : List Env) (s : Shared) (H0 H1 G0 : Hp) (ap : Option Addr) (E : XK) (as : List Ar) (P0 : Pot) (ok : List (Str × D) → Pot → Prop) (ex : Ex → Pot → Prop), out (mf as) P0 ok ex → BodyX c (bX P w K mg base (x0 :: N) qual st f cd A fr s H0 E) k (fun cl dd _ H => E cl dd H) →
      ∃ (α : Type) (En : Addr → α → List Sl) (fsOf : α → List (Str × D)) (mb : M (Fl α)), (∀ me a, (En me a)[0]? = some (.o (.i me cn (fsOf a)))) ∧ (∀ me, PSs (bX P w K mg base (x0 :: N) qual st f cd A fr s H0 E) (defBody st) (rdS c ⟨G0, H1, ap⟩ (fun cl dd _ H => E cl dd H) (slotsI me cn as (x0 :: N).length) (En me) mb)) ∧
        mf as = mb >>= fun fl => match fl with | .nx a => Pure.pure (fsOf a) | _ => M.no) :
    FnG P w K mg base (k + 1) f fd ps (spI c cn mf) := by
  refine fn_core Fn hK hm S (fun vs H Q E ⟨a, dx, C, H1, G, ap, P0, as, ws, e1, _, _, _, _, _, _, r, q⟩ => by rw [e1, List.length_cons, ArsOk.length r]; exact len _ _ _ _ q) fun cd A fr s H vs Q E bx ⟨a, dx, C, H1, G, ap, P0, as, ws, e1, e2, hC, hx, hd, hne, p0, ra, q0⟩ => ?_
  obtain ⟨α, En, fsOf, mb, hEn, hps, em⟩ := hbody cd A fr s H H1 G ap E as P0 _ _ q0 bx
  rw [em] at q0
  subst e1
  have R0 := rel_startI (x0 := x0) (N := N) p0 ra hC hx hd hne
  rw [← e2] at R0
  refine ⟨_, hps a, P0, G, R0, out_mono (out_bind.mp q0) (fun fl P' z => ?_) fun e P' z cl dd H' G' ρ' σ' _ R' k' => z cl dd H' G' R'.post k'⟩
  cases fl with
  | nx b =>
    intro σ' H' G' _ R'
    have z : ∀ H' G' dx2 fvs, Post c ap G H1 P' G' H' → H' a = some (.ins C dx2 fvs) → fvs.map (·.1) = (fsOf b).map (·.1) → c.reps G' (fvs.map (·.2)) ((fsOf b).map (·.2)) → G' a = none → Q .non H' := z
    have hi := hEn a b
    have hl : 0 < σ'.length := by rw [R'.len]; exact (List.getElem?_eq_some_iff.mp hi).1
    obtain ⟨a', ea, ⟨o, ho, hk⟩, g, _, _⟩ := R'.sl 0 _ _ hi (List.getElem?_eq_getElem hl)
    cases o with
    | ins C' dx' fvs =>
      obtain ⟨k0, k1, k2, k3⟩ := hk
      subst k0
      rw [hC] at k1
      cases k1
      exact z H' G' dx' fvs R'.post ho k2 k3 g
    | _ => exact hk.elim
  | rt d => exact z.elim
  | bk b => exact z.elim
  | ct b => exact z.elim
end
section
variable {c : Cn} {X : Cx} {F : Fr} {W : WX} {ρ : List Sl} {k : Nat}
/-! ### C(e, ..) -/
theorem run_makeG {f C : Addr} {fd : FuncData} {ps : List Str} {sp : Sp} {pins : List (Addr × Obj)} {s : Shared} {σ : L2.St} {H : Hp} {Q : VK} {us : List Value} {vs : List V} (M : Mk X.K C f) (ga : GA X.A) (rm : Room (k + 1) X.A) (tk : Takes X W)
    (fn : FnG X.prog X.w X.K X.mg X.base k f fd ps sp) (hb : Binds X.K fd ps []) (I : Inv X pins σ H s) (r : Vals vs us)
    (h : ∀ x dx, H x = none → H dx = none → dx ≠ x → sp (.ref x :: vs) (upd (upd H dx (.own x)) x (.ins C dx [])) (fun v H2 => v = .non ∧ Q (.ref x) H2) (WE W σ)) :
    wpAny (model X.prog X.w) X.A (call (.ref C) us) (EP X pins σ Q) X.xe s := by
  have hq := h (s.heap.objs.size + 1) s.heap.objs.size (I.hok.fresh (Nat.le_succ _)) (I.hok.fresh (Nat.le_refl _)) (Nat.ne_of_lt (Nat.lt_succ_self _))
  have J := Inv.made (C := C) I
  have r2 : Vals (V.ref (s.heap.objs.size + 1) :: vs) (Value.ref (s.heap.objs.size + 1) :: us) := .cons rfl r
  have hl : (Value.ref (s.heap.objs.size + 1) :: us).length = ps.length := r2.length.symm.trans (fn.ln _ _ _ _ hq)
  have b := hb _ (Value.ref (s.heap.objs.size + 1) :: us) J.kIn (by simpa using hl)
  rw [List.append_nil] at b
  refine wpAny_call (make_map (f := f) I.kIn M.makes M.init (beq_iff_eq.mp M.fn) (codeAny_mono (fn.go _ X.stack _ _ _ _ ⟨Value.ref (s.heap.objs.size + 1) :: us, []⟩ _ _ (by exact ga) (rm.make C us []) (J.env0.make C us []) b r2 hq) fun res s2 z => ?_))
  match res, z with
  | .error e, z => exact passAt tk σ pins _ _ e s2 J z
  | .ok (.ret u), z =>
    obtain ⟨v, H', I3, rv, ev, q3⟩ := J.after z
    subst ev
    exact ⟨rv, ⟨V.ref (s.heap.objs.size + 1), H', I3, rfl, q3⟩⟩
  | .ok .next, z => exact z.elim
  | .ok .brk, z => exact z.elim
  | .ok .cont, z => exact z.elim
theorem de_make {f : Addr} {fd : FuncData} {cn : Str} {mf : List Ar → M (List (Str × D))} {ms : M (List Ar)} {x : Str} {p pos : Pos} {e : Expr} {es : List Expr} {ps : List Str} (Cc : Ctx c X (k + 1)) (tk : Takes X W)
    (hM : AtC c cn fun C => Mk c.K C f) (fn : FnG X.prog X.w X.K X.mg X.base k f fd ps (spI c cn mf)) (hg : Gl X x) (hx : x = cn) (hb : Binds c.K fd ps [])
    (ha : PA X (e :: es) (rdA c F W ρ ms)) (hdb : (x == ("__debug__" : Str)) = false := by decide) (he : starEach (e :: es) X.env = (false, eval e X.env) :: starEach es X.env := by rfl) (hpl : (backTo pos (starEach es X.env)).any (·.1) = false := by rfl) :
    PE X (.Call (.Name x p) (e :: es) [] pos) (rdE c F W ρ (ms >>= fun as => mf as >>= fun fs => Pure.pure (.ins cn fs))) := by
  subst hx
  obtain ⟨C, hC, M0⟩ := hM
  have M : Mk X.K C f := by rw [Cc.K]; exact M0
  have hb' : Binds X.K fd ps [] := by rw [Cc.K]; exact hb
  refine ⟨fun pins s σ H Q I ⟨P, G, R, q⟩ => ?_⟩
  have hm : X.mg x = some (.ref C) := by rw [Cc.mg]; exact hC
  refine wpAny_Call_Name_kw (ld_glob I hg hm ?_ hdb)
  have step := ha.run pos pins s σ H (fun vs H1 => ∃ P1 G1 as, Ext G G1 ∧ Rel c F ρ P1 σ H1 G1 ∧ ArsOk c F G1 vs as ∧ out (mf as >>= fun fs => Pure.pure (D.ins x fs)) P1 (fun d P' => ∀ v H' G', Ext G1 G' → Rel c F ρ P' σ H' G' → c.rep G' v d → Q v H') (exW c F W P1 G1 σ)) I
    ⟨P, G, R, out_mono (out_bind.mp q) (fun as P1 q1 vs H1 G1 e1 R1 r1 => ⟨P1, G1, as, e1, R1, r1, out_mono q1 (fun d P2 q2 v H2 G2 e2 R2 r2 => q2 v H2 G2 (e1.trans e2) R2 r2) fun _ _ z => exW_le e1 z⟩) fun _ _ z => z⟩
  refine PySem.W.callWith_K (h₀ := X.base) I.ok.mod.kin M.kp (thn step fun us s1 ⟨vs, H1, I1, rv, P1, G1, as, e1, R1, r1, q1⟩ => ⟨I1.kIn, ?_⟩) he hpl
  refine run_makeG M Cc.ga Cc.rm tk fn hb' I1 rv fun a dx ha hd hne => ?_
  refine ⟨a, dx, C, H1, G1, F.ap, P1, as, vs, rfl, rfl, hC, ha, hd, hne, R1.post.refl', ArsOk.fr (F := F) (F' := ⟨G1, H1, F.ap⟩) rfl r1, out_mono (out_bind.mp q1) (fun fs P' z H' G' dx2 fvs po hat hk hr hg' => ⟨rfl, ?_⟩) fun e P' z cl dd H' G' po k' => z cl dd H' G' ρ po.ext (R1.after po) k'⟩
  have R2 := R1.after po
  obtain ⟨R3, e3⟩ := R2.freeze hat nt_ins (R1.post.h0 ha) (R1.ne_ap ha) (R1.own_at ha) hg'
  have z : ∀ v H' G', Ext G1 G' → Rel c F ρ P' σ H' G' → c.rep G' v (.ins x fs) → Q v H' := z
  refine z (.ref a) H' _ (po.ext.trans e3) R3 (.ins upd_same hC hk fun i p q h1 h2 => ?_)
  have h1' : (fvs.map (·.2))[i]? = some p.2 := by rw [List.getElem?_map, h1]; rfl
  have h2' : (fs.map (·.2))[i]? = some q.2 := by rw [List.getElem?_map, h2]; rfl
  exact (hr.2 i _ _ h1' h2').mono e3
/-! ### o.m(e, ..), a property -/
/-- an instance of the class cn, with no field m of its own -/
def insG (cn m : Str) : D → M Unit
  | .ins n fs => if n = cn ∧ fs.lookup m = none then Pure.pure () else M.no
  | _ => M.no
theorem insG_out {cn m : Str} {d : D} {P : Pot} {ok : Unit → Pot → Prop} {ex : Ex → Pot → Prop} (h : out (insG cn m d) P ok ex) : ∃ fs, d = .ins cn fs ∧ fs.lookup m = none ∧ ok () P := by
  cases d with
  | ins n fs =>
    have h2 : out (if n = cn ∧ fs.lookup m = none then Pure.pure () else M.no) P ok ex := h
    by_cases z : n = cn ∧ fs.lookup m = none
    · rw [if_pos z] at h2
      exact ⟨fs, by rw [z.1], z.2, h2⟩
    · rw [if_neg z] at h2; exact h2.elim
  | _ => exact h.elim
structure MthC (c : Cn) (X : Cx) (k : Nat) (cn m : Str) (f : Addr) (fd : FuncData) (ps : List Str) (mf : List Ar → M D) : Prop where
  at_ : AtC c cn fun C => Cls c.K C ∧ Meth c.K C m f
  fn : FnG X.prog X.w X.K X.mg X.base k f fd ps (spD c mf)
  bi : Binds c.K fd ps []
theorem run_mth {j : Nat} {f : Addr} {fd : FuncData} {cn m : Str} {mf : List Ar → M D} {ps : List Str} {P : Pot} {σ : L2.St} {H G : Hp} {Q : VK} {pins : List (Addr × Obj)} {s : Shared} {a : Addr} {fs : List (Str × D)} {us : List Value} {vs : List V} {as : List Ar} (Cc : Ctx c X k) (hj : j ≤ k) (tk : Takes X W) (hM : MthC c X j cn m f fd ps mf)
    (I : Inv X pins σ H s) (r : Vals vs us) (R : Rel c F ρ P σ H G) (ra : c.rep G (.ref a) (.ins cn fs)) (rs : ArsOk c F G vs as)
    (q : out (mf (.v (.ins cn fs) :: as)) P (fun d P' => ∀ v H' G', Ext G G' → Rel c F ρ P' σ H' G' → c.rep G' v d → Q v H') (exW c F W P G σ)) : wpAny (model X.prog X.w) X.A (call (.ref f) (.ref a :: us)) (EP X pins σ Q) X.xe s := by
  have rr : ArsOk c F G (.ref a :: vs) (.v (.ins cn fs) :: as) := ⟨ra, rs⟩
  have rv : Vals (.ref a :: vs) (.ref a :: us) := .cons rfl r
  exact run_g Cc.ga (Cc.rm.mono hj) tk hM.fn (by rw [Cc.K]; exact hM.bi) I rv (sp_of R rr q)
theorem de_mth {j : Nat} {f : Addr} {fd : FuncData} {cn m : Str} {mf : List Ar → M D} {mo : M D} {ms : M (List Ar)} {apos pos : Pos} {o e : Expr} {es : List Expr} {ps : List Str} {pl : Sem Bool} (Cc : Ctx c X k) (hj : j ≤ k) (tk : Takes X W) (hM : MthC c X j cn m f fd ps mf)
    (ho : PE X o (rdE c F W ρ mo)) (ha : PA X (e :: es) (rdA c F W ρ ms)) (hst : starEach (e :: es) X.env = (false, eval e X.env) :: starEach es X.env := by rfl) (hpl : (backTo pos (starEach es X.env)).any (·.1) = false := by rfl)
    (ht : eval (.Call (.Attribute o m apos) (e :: es) [] pos) X.env = (do
      let v ← eval o X.env
      standAt apos.atName
      let (f, a) ← holding [v] (getMethod v m pl)
      callWith pos f a (backTo pos (starEach (e :: es) X.env)) (backToKw pos (keywordEach [] X.env))) := by rfl) :
    PE X (.Call (.Attribute o m apos) (e :: es) [] pos) (rdE c F W ρ (mo >>= fun d => insG cn m d >>= fun _ => ms >>= fun as => mf (.v d :: as))) := by
  refine ⟨fun pins s σ H Q I ⟨P, G, R, q⟩ => ?_⟩
  have so := ho.run pins s σ H (fun x H1 => ∃ P1 G1 fs, Ext G G1 ∧ Rel c F ρ P1 σ H1 G1 ∧ c.rep G1 x (.ins cn fs) ∧ fs.lookup m = none ∧ out (ms >>= fun as => mf (.v (.ins cn fs) :: as)) P1 (fun d P' => ∀ v H' G', Ext G1 G' → Rel c F ρ P' σ H' G' → c.rep G' v d → Q v H') (exW c F W P1 G1 σ)) I
    ⟨P, G, R, out_mono (out_bind.mp q) (fun d P1 q1 v H1 G1 e1 R1 r1 => by
      obtain ⟨fs, rfl, l, q2⟩ := insG_out (out_bind.mp q1)
      exact ⟨P1, G1, fs, e1, R1, r1, l, out_mono q2 (fun d P2 q2 v H2 G2 e2 R2 r2 => q2 v H2 G2 (e1.trans e2) R2 r2) fun _ _ z => exW_le e1 z⟩) fun _ _ z => z⟩
  refine PySem.W.methodCall_KW (pl := pl) (thn so fun u s1 ⟨x, H1, I1, rx, P1, G1, fs, e1, R1, r1, hl, q1⟩ => ?_) ht
  cases r1 with
  | ins hg hC hk hr =>
    rename_i a C dx fvs
    obtain rfl : u = Value.ref a := rx
    obtain ⟨c1, c2⟩ := hM.at_.get hC
    have c1' : Cls X.K C := by rw [Cc.K]; exact c1
    have c2' : Meth X.K C m f := by rw [Cc.K]; exact c2
    refine getmeth_ok I1 (R1.post.le _ _ hg) c1' c2' (lookup_no hk hl) ?_
    have sa := ha.run pos pins s1 σ H1 (fun vs H2 => ∃ P2 G2 as, Ext G1 G2 ∧ Rel c F ρ P2 σ H2 G2 ∧ ArsOk c F G2 vs as ∧ out (mf (.v (.ins cn fs) :: as)) P2 (fun d P' => ∀ v H' G', Ext G2 G' → Rel c F ρ P' σ H' G' → c.rep G' v d → Q v H') (exW c F W P2 G2 σ)) I1
      ⟨P1, G1, R1, out_mono (out_bind.mp q1) (fun as P2 q2 vs H2 G2 e2 R2 r2 => ⟨P2, G2, as, e2, R2, r2, out_mono q2 (fun d P3 q3 v H3 G3 e3 R3 r3 => q3 v H3 G3 (e2.trans e3) R3 r3) fun _ _ z => exW_le e2 z⟩) fun _ _ z => z⟩
    refine PySem.W.callWith_K (first := [.ref a]) (h₀ := X.base) I.ok.mod.kin c2'.kp (thn sa fun us s2 ⟨vs, H2, I2, r, P2, G2, as, e2, R2, r2, q2⟩ => ⟨I2.kIn, ?_⟩) hst hpl
    exact run_mth Cc hj tk hM I2 r R2 ((Rep.ins hg hC hk hr : c.rep G1 (.ref a) (.ins cn fs)).mono e2) r2 q2
theorem de_mth0 {j : Nat} {f : Addr} {fd : FuncData} {cn m : Str} {mf : List Ar → M D} {mo : M D} {apos pos : Pos} {o : Expr} {ps : List Str} {pl : Sem Bool} (Cc : Ctx c X k) (hj : j ≤ k) (tk : Takes X W) (hM : MthC c X j cn m f fd ps mf)
    (ho : PE X o (rdE c F W ρ mo))
    (ht : eval (.Call (.Attribute o m apos) [] [] pos) X.env = (do
      let v ← eval o X.env
      standAt apos.atName
      let (f, a) ← holding [v] (getMethod v m pl)
      callWith pos f a (backTo pos (starEach [] X.env)) (backToKw pos (keywordEach [] X.env))) := by rfl) :
    PE X (.Call (.Attribute o m apos) [] [] pos) (rdE c F W ρ (mo >>= fun d => insG cn m d >>= fun _ => mf [.v d])) := by
  refine ⟨fun pins s σ H Q I ⟨P, G, R, q⟩ => ?_⟩
  have so := ho.run pins s σ H (fun x H1 => ∃ P1 G1 fs, Ext G G1 ∧ Rel c F ρ P1 σ H1 G1 ∧ c.rep G1 x (.ins cn fs) ∧ fs.lookup m = none ∧ out (mf [.v (.ins cn fs)]) P1 (fun d P' => ∀ v H' G', Ext G1 G' → Rel c F ρ P' σ H' G' → c.rep G' v d → Q v H') (exW c F W P1 G1 σ)) I
    ⟨P, G, R, out_mono (out_bind.mp q) (fun d P1 q1 v H1 G1 e1 R1 r1 => by
      obtain ⟨fs, rfl, l, q2⟩ := insG_out (out_bind.mp q1)
      exact ⟨P1, G1, fs, e1, R1, r1, l, out_mono q2 (fun d P2 q2 v H2 G2 e2 R2 r2 => q2 v H2 G2 (e1.trans e2) R2 r2) fun _ _ z => exW_le e1 z⟩) fun _ _ z => z⟩
  refine PySem.W.methodCall_KW (pl := pl) (thn so fun u s1 ⟨x, H1, I1, rx, P1, G1, fs, e1, R1, r1, hl, q1⟩ => ?_) ht
  cases r1 with
  | ins hg hC hk hr =>
    rename_i a C dx fvs
    obtain rfl : u = Value.ref a := rx
    obtain ⟨c1, c2⟩ := hM.at_.get hC
    have c1' : Cls X.K C := by rw [Cc.K]; exact c1
    have c2' : Meth X.K C m f := by rw [Cc.K]; exact c2
    refine getmeth_ok I1 (R1.post.le _ _ hg) c1' c2' (lookup_no hk hl) ?_
    exact PySem.W.callWith_K0 (first := [.ref a]) I1.kIn c2'.kp (run_mth (us := []) (vs := []) (as := []) Cc hj tk hM I1 .nil R1 (.ins hg hC hk hr) True.intro q1)
/-! ### o.f, a property -/
structure PrpC (c : Cn) (X : Cx) (k : Nat) (cn f : Str) (g : Addr) (fd : FuncData) (ps : List Str) (mf : List Ar → M D) : Prop where
  at_ : AtC c cn fun C => Cls c.K C ∧ ∃ p, PropOf c.K C f p g
  fn : FnG X.prog X.w X.K X.mg X.base k g fd ps (spD c mf)
  bi : Binds c.K fd ps []
def insP (cn : Str) : D → M Unit
  | .ins n _ => if n = cn then Pure.pure () else M.no
  | _ => M.no
theorem insP_out {cn : Str} {d : D} {P : Pot} {ok : Unit → Pot → Prop} {ex : Ex → Pot → Prop} (h : out (insP cn d) P ok ex) : ∃ fs, d = .ins cn fs ∧ ok () P := by
  cases d with
  | ins n fs =>
    have h2 : out (if n = cn then Pure.pure () else M.no) P ok ex := h
    by_cases z : n = cn
    · rw [if_pos z] at h2
      exact ⟨fs, by rw [z], h2⟩
    · rw [if_neg z] at h2; exact h2.elim
  | _ => exact h.elim
theorem getpropG {j : Nat} {p g a dx C : Addr} {fs : List (Str × V)} {f : Str} {fd : FuncData} {ps : List Str} {sp : Sp} {σ : L2.St} {pins : List (Addr × Obj)} {H : Hp} {s : Shared} {Q : VK} {b : Bool} {E' : Value → Shared → Prop} (I : Inv X pins σ H s) (ea : H a = some (.ins C dx fs)) (cl : Cls X.K C) (hp : PropOf X.K C f p g)
    (ga : GA X.A) (rm : Room (j + 1) X.A) (fn : FnG X.prog X.w X.K X.mg X.base j g fd ps sp) (hb : Binds X.K fd ps []) (h : sp [.ref a] H Q fun _ _ _ => False) :
    wpAny (model X.prog X.w) X.A (getAttr (.ref a) f b) (EP X pins σ Q) E' s := by
  obtain ⟨mA, O, _, _, _, _⟩ := ins_get I.hok ea
  obtain ⟨od, J, _⟩ := O.look
  obtain ⟨rest, hrec⟩ := hp.rec_
  have I1 := I.tok (s.toks + 1)
  have hl : [Value.ref a].length = ps.length := fn.ln _ _ _ _ h
  have bb := hb { s with toks := s.toks + 1 } [.ref a] I1.kIn (by simpa using hl)
  rw [List.append_nil] at bb
  have hc : (PySem.W.clsIn X.K C).isSome = true := by
    obtain ⟨cd, hc, _⟩ := PySem.W.any_some cl.hd
    rw [hc]; rfl
  refine PySem.W.get_bind I.kIn J (PySem.W.plainGet_of (cl.get f)).1 (PySem.W.findObj_data hc hp.at_ hp.get hp.tak) (PySem.W.plainGet_of (cl.get f)).2 (wpAny_call (PySem.W.prop_get (s := { s with toks := s.toks + 1 }) I.kIn hrec ?_))
  refine codeAny_mono (fn.go X.A.in1 X.stack { s with toks := s.toks + 1 } H [.ref a] [.ref a] ⟨[.ref a], []⟩ Q _ (by exact ga) rm.in1 I1.env0.in1 bb (.cons rfl .nil) h) fun r s' hq => ?_
  match r, hq with
  | .error e, hq =>
    obtain ⟨_, _, _, _, _, _, _, _, _, _, _, _, z⟩ := hq
    exact z.elim
  | .ok (.ret u), hq =>
    obtain ⟨v, H', I3, rv, q3⟩ := I1.after hq
    show wpAny _ _ (handedOut u) _ _ _
    rw [PySem.W.handedOut_of (handed_of rv)]
    exact wpAny_pure ⟨v, H', I3, rv, q3⟩
  | .ok .next, hq => exact hq.elim
  | .ok .brk, hq => exact hq.elim
  | .ok .cont, hq => exact hq.elim
theorem de_prop {j : Nat} {g : Addr} {fd : FuncData} {cn f : Str} {mf : List Ar → M D} {mo : M D} {pos : Pos} {o : Expr} {ps : List Str} (Cc : Ctx c X k) (hj : j + 1 ≤ k) (hM : PrpC c X j cn f g fd ps mf) (ho : PE X o (rdE c F W ρ mo)) (hab : attributeBase o f X.env (eval o X.env) = eval o X.env := by rfl) :
    PE X (.Attribute o f pos) (rdE c F W ρ (mo >>= fun d => insP cn d >>= fun _ => noEx (mf [.v d]))) := by
  refine ⟨fun pins s σ H Q I ⟨P, G, R, q⟩ => ?_⟩
  have so := ho.run pins s σ H (fun x H1 => ∃ P1 G1 fs, Ext G G1 ∧ Rel c F ρ P1 σ H1 G1 ∧ c.rep G1 x (.ins cn fs) ∧ out (noEx (mf [.v (.ins cn fs)])) P1 (fun d P' => ∀ v H' G', Ext G1 G' → Rel c F ρ P' σ H' G' → c.rep G' v d → Q v H') (exW c F W P1 G1 σ)) I
    ⟨P, G, R, out_mono (out_bind.mp q) (fun d P1 q1 v H1 G1 e1 R1 r1 => by
      obtain ⟨fs, rfl, q2⟩ := insP_out (out_bind.mp q1)
      exact ⟨P1, G1, fs, e1, R1, r1, out_mono q2 (fun d P2 q2 v H2 G2 e2 R2 r2 => q2 v H2 G2 (e1.trans e2) R2 r2) fun _ _ z => exW_le e1 z⟩) fun _ _ z => z⟩
  refine attr_of hab (thn so fun u s1 ⟨x, H1, I1, rx, P1, G1, fs, e1, R1, r1, q1⟩ => ?_)
  cases r1 with
  | ins hg hC hk hr =>
    rename_i a C dx fvs
    obtain rfl : u = Value.ref a := rx
    obtain ⟨c1, p, c2⟩ := hM.at_.get hC
    have rr : ArsOk c F G1 [.ref a] [.v (.ins cn fs)] := ⟨.ins hg hC hk hr, True.intro⟩
    refine getpropG (p := p) (g := g) I1 (R1.post.le _ _ hg) (by rw [Cc.K]; exact c1) (by rw [Cc.K]; exact c2) Cc.ga (Cc.rm.mono hj) hM.fn (by rw [Cc.K]; exact hM.bi) ?_
    exact ⟨F.ap, G1, P1, _, R1.post.refl', ArsOk.fr (F := F) (F' := ⟨G1, H1, F.ap⟩) rfl rr, out_mono (out_noEx q1) (fun d P' z v H' G' p k => z v H' G' p.ext (R1.after p) k) fun e P' z => z.elim⟩
end
end DL

/-! lists of one's own: made, grown, popped, let go -/
namespace DL
open PySem PySem.Spec PyProof.Rows L2
section
variable {c : Cn} {X : Cx} {F : Fr} {W : WX} {ρ : List Sl} {α β : Type}
theorem Rel.ownNew {P : Pot} {σ : L2.St} {H G : Hp} {i : Nat} {p : Addr} {vs : List V} {ds : List D} (R : Rel c F ρ P σ H G) (hp : H p = none) (r : c.reps G vs ds) : Rel c F (ρ.set i (.o (.l ds))) P (σ.set i (some (.ref p))) (upd H p (.lst vs)) G := by
  have R1 : Rel c F ρ P σ (upd H p (.lst vs)) G := R.newM hp
  have R2 := R1.un (i := i) (x := some (.ref p))
  have ow := R.own_at hp
  refine ⟨R2.post, by simpa using R2.len, fun j s x h1 h2 => ?_, fun j j' kk kk' b h1 h2 h3 h4 => ?_⟩
  · by_cases z : i = j
    · subst z
      rw [List.getElem?_set, if_pos rfl] at h1 h2
      split at h1
      · split at h2
        · cases h1; cases h2
          exact ⟨p, rfl, ⟨_, upd_same, r⟩, R.post.g_none hp, R.post.h0 hp, R.ne_ap hp⟩
        · cases h2
      · cases h1
    · rw [List.getElem?_set_ne z] at h1
      exact R2.sl j s x (by rw [List.getElem?_set_ne z]; exact h1) h2
  · by_cases z : i = j
    · by_cases z' : i = j'
      · rw [← z, ← z']
      · subst z
        rw [List.getElem?_set_ne z'] at h2 h4
        have e3 : b = p := by
          rw [List.getElem?_set, if_pos rfl] at h3
          split at h3
          · cases h3; rfl
          · cases h3
        subst e3
        exact absurd h4 (ow j' kk' h2)
    · rw [List.getElem?_set_ne z] at h1 h3
      by_cases z' : i = j'
      · subst z'
        have e4 : b = p := by
          rw [List.getElem?_set, if_pos rfl] at h4
          split at h4
          · cases h4; rfl
          · cases h4
        subst e4
        exact absurd h3 (ow j kk h1)
      · rw [List.getElem?_set_ne z'] at h2 h4
        exact R.ap j j' kk kk' b h1 h2 h3 h4
/-- x = list(..) | [..]: a list of one's own -/
theorem ds_ownCall {i : Nat} {y : Str} {py spos : Pos} {e : Expr} {te : TE} {m : M (List D)} (hN : X.N.Nodup) (hi : X.N[i]? = some y) (hx : Loc X.env.scope y) (he : PE X e te)
    (hr : ∀ σ H Q, (∃ P G, Rel c F ρ P σ H G ∧ out m P (fun ds P' => ∀ H' G' p vs, Ext G G' → Rel c F ρ P' σ H' G' → H' p = none → c.reps G' vs ds → Q (.ref p) (upd H' p (.lst vs))) (exW c F W P G σ)) → te σ H Q)
    (hs : swapsWith e (some (.Name y py)) spos.line X.env = pure false := by rfl) (hf : X.fn y = true ∨ X.env.scope.names.lookup y = some .local := by first | exact .inl rfl | exact .inr rfl | assumption) :
    PS X (.Assign [.Name y py] e spos) (rdS c F W ρ (fun ds => ρ.set i (.o (.l ds))) (m >>= fun ds => Pure.pure (.nx ds))) := by
  refine ps_by (ps_set hN hi hx he hs hf) fun B σ H ⟨P, G, R, q⟩ => ?_
  refine hr _ _ _ ⟨P, G, R, out_mono (out_bind.mp q) (fun ds P1 q1 H1 G1 p vs e1 R1 hp rs => ?_) fun _ _ z => exS.w z⟩
  have q2 : ∀ σ' H' G', Ext G G' → Rel c F (ρ.set i (.o (.l ds))) P1 σ' H' G' → B.nx σ' H' := q1
  exact q2 _ _ G1 e1 (R1.ownNew hp rs)
def itemsD : D → M (List D)
  | .lst xs => Pure.pure xs
  | .tup xs => Pure.pure xs
  | .scr ns => Pure.pure (ns.map .int)
  | _ => M.no
/-- x = list(e) -/
theorem ds_ownList {i : Nat} {y x : Str} {py spos p pos : Pos} {a : Expr} {ma : M D} (hK : X.K = c.K) (hN : X.N.Nodup) (hi : X.N[i]? = some y) (hx : Loc X.env.scope y) (hg : Gl X x) (hm : X.mg x = none) (hv : bootBuiltins x = some (.type "list")) (ha : PE X a (rdE c F W ρ ma))
    (hn : x ≠ "__name__" := by decide) (hdb : (x == ("__debug__" : Str)) = false := by decide) (he1 : starEach [a] X.env = [(false, eval a X.env)] := by rfl)
    (hs : swapsWith (.Call (.Name x p) [a] [] pos) (some (.Name y py)) spos.line X.env = pure false := by rfl) (hf : X.fn y = true ∨ X.env.scope.names.lookup y = some .local := by first | exact .inl rfl | exact .inr rfl | assumption) :
    PS X (.Assign [.Name y py] (.Call (.Name x p) [a] [] pos) spos) (rdS c F W ρ (fun ds => ρ.set i (.o (.l ds))) ((ma >>= itemsD) >>= fun ds => Pure.pure (.nx ds))) := by
  refine ds_ownCall hN hi hx (pe_callTy call_list_of hg hm hv (pa_cons ha pa_nil he1) hn hdb he1 rfl) (fun σ H Q ⟨P, G, R, q⟩ => ?_) hs hf
  refine ⟨P, G, R, out_mono (out_bind.mp q) (fun d P1 q1 v H1 G1 e1 R1 r1 => ?_) fun _ _ z => z⟩
  rw [hK]
  cases d with
  | lst xs => cases r1 with | lst h hl hr => exact ⟨_, _, rfl, .inl (SqL.of (R1.post.le _ _ h)), fun l hn => q1 H1 G1 l _ e1 R1 hn ⟨hl, hr⟩⟩
  | tup xs => cases r1 with | tup h hl hr => exact ⟨_, _, rfl, .inr (Evl.ex_t R1.post.le h), fun l hn => q1 H1 G1 l _ e1 R1 hn ⟨hl, hr⟩⟩
  | scr xs => cases r1 with | scr h => exact ⟨_, _, rfl, .inl (Evl.ex_l R1.post.le h), fun l hn => q1 H1 G1 l _ e1 R1 hn (reps_ints xs)⟩
  | _ => exact q1.elim
/-- x = [e, ..] -/
theorem ds_ownLst {i : Nat} {y : Str} {py spos pos : Pos} {es : List Expr} {ms : M (List Ar)} (hN : X.N.Nodup) (hi : X.N[i]? = some y) (hx : Loc X.env.scope y) (ha : PA X es (rdA c F W ρ ms))
    (hs : swapsWith (.List es pos) (some (.Name y py)) spos.line X.env = pure false := by rfl) (hf : X.fn y = true ∨ X.env.scope.names.lookup y = some .local := by first | exact .inl rfl | exact .inr rfl | assumption) :
    PS X (.Assign [.Name y py] (.List es pos) spos) (rdS c F W ρ (fun ds => ρ.set i (.o (.l ds))) ((ms >>= fun as => DL.vals as >>= mkN) >>= fun ds => Pure.pure (.nx ds))) := by
  refine ds_ownCall hN hi hx (pe_lst ha) (fun σ H Q ⟨P, G, R, q⟩ => ?_) hs hf
  refine ⟨P, G, R, out_mono (out_bind.mp q) (fun as P1 q1 vs H1 G1 e1 R1 r1 => ?_) fun _ _ z => z⟩
  obtain ⟨ds, rs, q2⟩ := ArsOk.reps r1 (out_bind.mp q1)
  unfold mkN at q2
  by_cases z : ds.length ≤ sizeLine
  · rw [if_pos z] at q2
    refine ⟨by rw [rs.1]; exact z, fun p hp => ?_⟩
    exact (show ∀ H' G' p vs, Ext G G' → Rel c F ρ P1 σ H' G' → H' p = none → c.reps G' vs ds → Q (.ref p) (upd H' p (.lst vs)) from q2) H1 G1 p vs e1 R1 hp rs
  · rw [if_neg z] at q2; exact q2.elim
/-- len(x), x a list of one's own -/
theorem de_lenO {i : Nat} {ds : List D} {x y : Str} {p p2 pos : Pos} (hK : X.K = c.K) (hi : ρ[i]? = some (.o (.l ds))) (hx : PE X (.Name x p2) (tVar i)) (hg : Gl X y) (hm : X.mg y = none) (hv : bootBuiltins y = some (.builtin "len"))
    (hn : y ≠ "__name__" := by decide) (hdb : (y == ("__debug__" : Str)) = false := by decide) (he1 : starEach [.Name x p2] X.env = [(false, eval (.Name x p2) X.env)] := by rfl) :
    PE X (.Call (.Name y p) [.Name x p2] [] pos) (rdE c F W ρ (Pure.pure (.int (ds.length : Nat)))) := by
  refine pe_by (pe_callB call_len hg hm hv (pa_cons hx pa_nil he1) hn hdb he1 rfl) fun σ H Q ⟨P, G, R, q⟩ => ?_
  have hl : i < σ.length := by rw [R.len]; exact (List.getElem?_eq_some_iff.mp hi).1
  obtain ⟨a, ea, ⟨o, ho, hk⟩, g, h, n⟩ := R.sl i _ _ hi (List.getElem?_eq_getElem hl)
  cases o with
  | lst vs =>
    have hk : c.reps G vs ds := hk
    refine ⟨.ref a, by rw [List.getElem?_eq_getElem hl, ea], ?_⟩
    refine ⟨.ref a, vs.length, rfl, .inl ⟨vs, SqL.of ho, rfl⟩, ?_⟩
    have q2 : ∀ v H' G', Ext G G' → Rel c F ρ P σ H' G' → c.rep G' v (.int (ds.length : Nat)) → Q v H' := q
    rw [hk.1]
    exact q2 _ H G (Ext.refl _) R (.int _)
  | _ => exact hk.elim
/-- x.append(e) -/
theorem ds_append {i : Nat} {ds : List D} {x : Str} {p apos cpos pos : Pos} {e : Expr} {me : M D} (hi : ρ[i]? = some (.o (.l ds))) (hK : X.K = c.K) (hx : PE X (.Name x p) (tVar i)) (he : PE X e (rdE c F W ρ me))
    (hbase : attributeBase (.Name x p) "append" X.env (eval (.Name x p) X.env) = eval (.Name x p) X.env := by rfl)
    (hfew : ((backTo cpos (starEach [e] X.env)).all (fun x => !x.1) && (backToKw cpos (keywordEach [] X.env)).all (fun x => x.1.isSome) && decide ([e].length + ([] : List Keyword).length + (if ([] : List Keyword).isEmpty then 0 else 1) < 30)) = true := by rfl)
    (hline : (apos.endLine == cpos.line) = true := by rfl) (hs1 : starEach [e] X.env = [(false, eval e X.env)] := by rfl) (hs : swapsWith (.Call (.Attribute (.Name x p) "append" apos) [e] [] cpos) none pos.line X.env = pure false := by rfl) :
    PS X (.Expr (.Call (.Attribute (.Name x p) "append" apos) [e] [] cpos) pos) (rdS c F W ρ (fun d => ρ.set i (.o (.l (ds ++ [d])))) (me >>= fun d => if ds.length < sizeLine then Pure.pure (.nx d) else M.no)) := by
  refine ps_by (ps_expr (pe_bm PySem.F.plainAttrs_list PySem.F.slot_list_append PySem.F.type_list_append mt_append hx (pa_cons he pa_nil hs1) hbase hfew hline hs1 rfl) hs) fun B σ H ⟨P, G, R, q⟩ => ?_
  have hl : i < σ.length := by rw [R.len]; exact (List.getElem?_eq_some_iff.mp hi).1
  obtain ⟨a, ea, ⟨o, ho, hk⟩, g, h, n⟩ := R.sl i _ _ hi (List.getElem?_eq_getElem hl)
  cases o with
  | lst vs =>
    refine ⟨.ref a, by rw [List.getElem?_eq_getElem hl, ea], .inl ⟨rfl, vs, SqL.of ho⟩, P, G, R, out_mono (out_bind.mp q) (fun d P1 q1 v H1 G1 e1 R1 r1 => ?_) fun _ _ z => exS.w z⟩
    obtain ⟨a', ea', ⟨o', ho', hk'⟩, g', h', n'⟩ := R1.sl i _ _ hi (List.getElem?_eq_getElem hl)
    rw [ea] at ea'
    cases ea'
    have hat : σ[i]? = some (some (V.ref a)) := by rw [List.getElem?_eq_getElem hl, ea]
    cases o' with
    | lst vs' =>
      have hk' : c.reps G1 vs' ds := hk'
      by_cases z : ds.length < sizeLine
      · rw [if_pos z] at q1
        have q2 : ∀ σ' H' G', Ext G G' → Rel c F (ρ.set i (.o (.l (ds ++ [d])))) P1 σ' H' G' → B.nx σ' H' := q1
        exact ⟨a, vs', v, rfl, rfl, ho', by rw [hk'.1]; exact z, q2 σ _ G1 e1 (R1.upd_own hi hat (show CelOk c G1 a (.lst (vs' ++ [v])) (.l (ds ++ [d])) from hk'.append (Reps.cons r1 Reps.nil)))⟩
      · rw [if_neg z] at q1; exact q1.elim
    | _ => exact hk'.elim
  | _ => exact hk.elim
/-- a list of one's own is let go: from here on a value -/
theorem Rel.letgo {P : Pot} {σ : L2.St} {H G : Hp} {i : Nat} {ds : List D} (R : Rel c F ρ P σ H G) (hi : ρ[i]? = some (.o (.l ds))) : ∃ G', Ext G G' ∧ Rel c F (ρ.set i (.v (.lst ds))) P σ H G' := by
  have hlt : i < ρ.length := (List.getElem?_eq_some_iff.mp hi).1
  have hl : i < σ.length := by rw [R.len]; exact hlt
  obtain ⟨a, ea, ⟨o, ho, hk⟩, g, h, n⟩ := R.sl i _ _ hi (List.getElem?_eq_getElem hl)
  have hat : σ[i]? = some (some (V.ref a)) := by rw [List.getElem?_eq_getElem hl, ea]
  cases o with
  | lst vs =>
    have hk : c.reps G vs ds := hk
    have eσ : σ.set i (some (.ref a)) = σ := by
      apply List.ext_getElem?
      intro j
      rw [List.getElem?_set]
      by_cases z : i = j
      · subst z
        rw [if_pos rfl, if_pos hl]; exact hat.symm
      · rw [if_neg z]
    have R0 := R.un (i := i) (x := some (.ref a))
    rw [eσ] at R0
    obtain ⟨R1, e1⟩ := R0.freeze ho nt_lst h n (fun j kk hj hs => by
      by_cases z : i = j
      · subst z; rw [List.getElem?_set] at hj; simp at hj
      · rw [List.getElem?_set_ne z] at hj
        exact z (R.ap i j _ kk a hi hj hat hs)) g
    refine ⟨_, e1, ?_⟩
    have R2 := R1.set (i := i) (v := .ref a) (d := .lst ds) (.lst upd_same hk.1 fun i v d a b => (hk.2 i v d a b).mono e1)
    rw [List.set_set, eσ] at R2
    exact R2
  | _ => exact hk.elim
theorem ds_letgo {ss : List Stmt} {E : α → List Sl} {i : Nat} {ds : List D} {m : M (Fl α)} (hi : ρ[i]? = some (.o (.l ds))) (h : PSs X ss (rdS c F W (ρ.set i (.v (.lst ds))) E m)) : PSs X ss (rdS c F W ρ E m) :=
  pss_by h fun B σ H ⟨P, G, R, q⟩ => by
    obtain ⟨G', e, R'⟩ := R.letgo hi
    refine ⟨P, G', R', out_mono q (fun f P' z => ?_) fun x p z => exS_le e z⟩
    cases f with
    | nx a => exact fun σ' H' G2 e2 R2 => z σ' H' G2 (e.trans e2) R2
    | bk a => exact fun σ' H' G2 e2 R2 => z σ' H' G2 (e.trans e2) R2
    | ct a => exact fun σ' H' G2 e2 R2 => z σ' H' G2 (e.trans e2) R2
    | rt d => exact fun v H' G2 ρ' σ' e2 R2 k => z v H' G2 ρ' σ' (e.trans e2) R2 k
end
end DL

/-! a comprehension whose element pops a list of one's own -/
namespace DL
open PySem PySem.Spec PyProof.Rows L2
def gone (H : Hp) (a : Addr) : Hp := fun b => if b = a then none else H b
theorem gone_ne {H : Hp} {a b : Addr} (h : b ≠ a) : gone H a b = H b := if_neg h
theorem gone_at {H : Hp} {a : Addr} : gone H a a = none := if_pos rfl
section
variable {c : Cn} {X : Cx} {F : Fr} {W : WX} {ρ : List Sl} {α β : Type}
theorem Rel.afterO {P P' : Pot} {σ : L2.St} {H G H' G' : Hp} {i : Nat} {a : Addr} {ws ws' : List D} {vs' : List V} (R : Rel c F ρ P σ H G) (hi : ρ[i]? = some (.o (.l ws))) (ha : σ[i]? = some (some (.ref a))) (q : Post c F.ap G (gone H a) P' G' H') (h1 : H' a = some (.lst vs')) (h2 : c.reps G' vs' ws') (h3 : G' a = none) :
    Rel c F (ρ.set i (.o (.l ws'))) P' σ H' G' := by
  have hlt : i < ρ.length := (List.getElem?_eq_some_iff.mp hi).1
  obtain ⟨a', e, ⟨u, hu, hk0⟩, g, h, n⟩ := R.sl i _ _ hi ha
  cases e
  have p := R.post
  have post : Post c F.ap F.G0 F.H0 P' G' H' := by
    refine ⟨p.ext.trans q.ext, q.le, fun b o hb hn ht => ?_, fun b hb => ?_, q.pot, q.tab, q.nt, fun b ps hb => ?_⟩
    · exact q.fr b o (by rw [gone_ne (fun z => by rw [z, h] at hb; cases hb)]; exact p.fr b o hb hn ht) hn ht
    · rcases q.new b hb with z | z | z
      · rcases p.new b z with y | y | ⟨vs, y⟩
        · exact .inl y
        · exact .inr (.inl y)
        · exact .inr (.inr ⟨vs, q.ext _ _ y⟩)
      · by_cases y : b = a
        · subst y; exact absurd h3 hb
        · rw [gone_ne y] at z
          exact .inr (.inl (p.h0 z))
      · exact .inr (.inr z)
    · obtain ⟨qs, z⟩ := p.tb b ps hb
      exact q.tb b qs (by rw [gone_ne (fun y => by rw [y, h] at hb; cases hb)]; exact z)
  refine ⟨post, by simpa using R.len, fun j s x k1 k2 => ?_, fun j j' kk kk' b k1 k2 k3 k4 => ?_⟩
  · by_cases z : i = j
    · subst z
      rw [List.getElem?_set, if_pos rfl, if_pos hlt] at k1
      cases k1
      rw [ha] at k2; cases k2
      exact ⟨a, rfl, ⟨_, h1, h2⟩, h3, h, n⟩
    · rw [List.getElem?_set_ne z] at k1
      have y := R.sl j s x k1 k2
      cases s with
      | un => exact True.intro
      | v d => obtain ⟨v, e, r⟩ := y; exact ⟨v, e, r.mono q.ext⟩
      | p => exact y
      | o k =>
        obtain ⟨ad, e, ⟨o, ho, hk⟩, g', h', n'⟩ := y
        subst e
        have ne : ad ≠ a := fun w => z (R.ap i j _ k a hi k1 ha (by rw [k2, w]))
        have nt : noTbl o := by
          intro ps e2; subst e2
          cases k <;> exact hk
        refine ⟨ad, rfl, ⟨o, q.fr ad o (by rw [gone_ne ne]; exact ho) n' nt, ?_⟩, ?_, h', n'⟩
        · have mono : ∀ {vs ds}, c.reps G vs ds → c.reps G' vs ds := fun h => h.mono q.ext
          cases o <;> cases k <;> first | exact hk.elim | exact mono hk | exact ⟨hk.1, mono hk.2⟩ | exact ⟨hk.1, hk.2.1, hk.2.2.1, mono hk.2.2.2⟩
        · cases w : G' ad with
          | none => rfl
          | some u =>
            rcases q.new ad (by rw [w]; simp) with y | y | ⟨vs, y⟩
            · exact absurd g' y
            · rw [gone_ne ne, ho] at y; cases y
            · have z := q.le _ _ y
              rw [q.fr ad o (by rw [gone_ne ne]; exact ho) n' nt] at z
              cases z
              exact hk.elim
  · have back : ∀ {m : Nat} {kk : Cel}, (ρ.set i (.o (.l ws')))[m]? = some (.o kk) → ∃ k2, ρ[m]? = some (.o k2) := fun {m kk} h => by
      by_cases z : i = m
      · subst z; exact ⟨_, hi⟩
      · rw [List.getElem?_set_ne z] at h; exact ⟨kk, h⟩
    obtain ⟨k1', b1⟩ := back k1
    obtain ⟨k2', b2⟩ := back k2
    exact R.ap j j' k1' k2' b b1 b2 k3 k4
/-- as an entry of its own, one list of one's own kept -/
theorem Rel.subO {P : Pot} {σ : L2.St} {H G : Hp} {i : Nat} {a : Addr} {ws : List D} (R : Rel c F ρ P σ H G) (hi : ρ[i]? = some (.o (.l ws))) (ha : σ[i]? = some (some (.ref a))) : Rel c ⟨G, gone H a, F.ap⟩ ((ρ.map unO).set i (.o (.l ws))) P σ H G := by
  have hlt : i < ρ.length := (List.getElem?_eq_some_iff.mp hi).1
  obtain ⟨a', e, ⟨u, hu, hk0⟩, g, h, n⟩ := R.sl i _ _ hi ha
  cases e
  have S := R.sub
  have no : ∀ (i : Nat) k, (ρ.map unO)[i]? ≠ some (.o k) := fun i k e => by
    rw [List.getElem?_map] at e
    cases h : ρ[i]? with
    | none => rw [h] at e; cases e
    | some s => rw [h] at e; cases s <;> cases e
  have p := R.post.refl'
  refine ⟨⟨p.ext, p.le, fun b o hb hn ht => ?_, (fun b hb => .inl hb), p.pot, p.tab, p.nt, fun b ps hb => ?_⟩, by simpa using R.len, fun j s x k1 k2 => ?_, fun j j' kk kk' b k1 k2 _ _ => ?_⟩
  · have hb : gone H a b = some o := hb
    by_cases z : b = a
    · subst z; rw [gone_at] at hb; cases hb
    · rw [gone_ne z] at hb; exact hb
  · have hb : gone H a b = some (.tbl ps) := hb
    by_cases z : b = a
    · subst z; rw [gone_at] at hb; cases hb
    · rw [gone_ne z] at hb; exact ⟨ps, hb⟩
  · by_cases z : i = j
    · subst z
      rw [List.getElem?_set, if_pos rfl, if_pos (by simpa using hlt)] at k1
      cases k1
      rw [ha] at k2; cases k2
      exact ⟨a, rfl, ⟨u, hu, hk0⟩, g, gone_at, n⟩
    · rw [List.getElem?_set_ne z] at k1
      have y := S.sl j s x k1 k2
      cases s with
      | un => exact True.intro
      | v d => exact y
      | p => exact y
      | o k => exact absurd k1 (no j k)
  · have at' : ∀ {m : Nat} {kk : Cel}, ((ρ.map unO).set i (.o (.l ws)))[m]? = some (.o kk) → m = i := fun {m kk} h => by
      by_cases z : i = m
      · exact z.symm
      · rw [List.getElem?_set_ne z] at h; exact absurd h (no m kk)
    rw [at' k1, at' k2]
/-- an expression that changes the list of one's own in slot i -/
def rdEO (c : Cn) (F : Fr) (W : WX) (ρ : List Sl) (i : Nat) (m : M (D × List D)) : TE := fun σ H Q => ∃ P G, Rel c F ρ P σ H G ∧ out m P (fun r P' => ∀ v H' G', Ext G G' → Rel c F (ρ.set i (.o (.l r.2))) P' σ H' G' → c.rep G' v r.1 → Q v H') (exW c F W P G σ)
def popD (ds : List D) : D → M (D × List D)
  | .int k => if -(2 ^ 63) ≤ k ∧ k < 2 ^ 63 then M.some ((seqIndex? k ds.length).bind fun j => (ds[j]?).map fun d => (d, ds.eraseIdx j)) else M.no
  | _ => M.no
theorem Reps.erase {G : Hp} {vs : List V} {ds : List D} (h : c.reps G vs ds) (j : Nat) : c.reps G (vs.eraseIdx j) (ds.eraseIdx j) := by
  refine ⟨by rw [List.length_eraseIdx, List.length_eraseIdx, h.1], fun i v d a b => ?_⟩
  rw [List.getElem?_eraseIdx] at a b
  by_cases z : i < j
  · rw [if_pos z] at a b; exact h.2 _ v d a b
  · rw [if_neg z] at a b; exact h.2 _ v d a b
/-- x.pop(e), x a list of one's own -/
theorem de_popO {i : Nat} {ds : List D} {x : Str} {p apos cpos : Pos} {e : Expr} {me : M D} (hi : ρ[i]? = some (.o (.l ds))) (hx : PE X (.Name x p) (tVar i)) (he : PE X e (rdE c F W ρ me))
    (hbase : attributeBase (.Name x p) "pop" X.env (eval (.Name x p) X.env) = eval (.Name x p) X.env := by rfl)
    (hfew : ((backTo cpos (starEach [e] X.env)).all (fun x => !x.1) && (backToKw cpos (keywordEach [] X.env)).all (fun x => x.1.isSome) && decide ([e].length + ([] : List Keyword).length + (if ([] : List Keyword).isEmpty then 0 else 1) < 30)) = true := by rfl)
    (hline : (apos.endLine == cpos.line) = true := by rfl) (hs1 : starEach [e] X.env = [(false, eval e X.env)] := by rfl) :
    PE X (.Call (.Attribute (.Name x p) "pop" apos) [e] [] cpos) (rdEO c F W ρ i (me >>= popD ds)) := by
  refine pe_by (pe_bm PySem.F.plainAttrs_list PySem.F.slot_list_pop PySem.F.type_list_pop mt_popAt hx (pa_cons he pa_nil hs1) hbase hfew hline hs1 rfl) fun σ H Q ⟨P, G, R, q⟩ => ?_
  have hl : i < σ.length := by rw [R.len]; exact (List.getElem?_eq_some_iff.mp hi).1
  obtain ⟨a, ea, ⟨o, ho, hk⟩, g, h, n⟩ := R.sl i _ _ hi (List.getElem?_eq_getElem hl)
  cases o with
  | lst vs =>
    refine ⟨.ref a, by rw [List.getElem?_eq_getElem hl, ea], .inl ⟨rfl, vs, SqL.of ho⟩, P, G, R, out_mono (out_bind.mp q) (fun d P1 q1 v H1 G1 e1 R1 r1 => ?_) fun _ _ z => z⟩
    obtain ⟨a', ea', ⟨o', ho', hk'⟩, g', h', n'⟩ := R1.sl i _ _ hi (List.getElem?_eq_getElem hl)
    rw [ea] at ea'
    cases ea'
    have hat : σ[i]? = some (some (V.ref a)) := by rw [List.getElem?_eq_getElem hl, ea]
    cases o' with
    | lst vs' =>
      have hk' : c.reps G1 vs' ds := hk'
      cases d with
      | int k =>
        have q2 : out (if -(2 ^ 63) ≤ k ∧ k < 2 ^ 63 then M.some ((seqIndex? k ds.length).bind fun j => (ds[j]?).map fun d => (d, ds.eraseIdx j)) else M.no) P1 _ _ := q1
        by_cases z : -(2 ^ 63) ≤ k ∧ k < 2 ^ 63
        · rw [if_pos z] at q2
          obtain ⟨r, hr, q3⟩ := out_some.mp q2
          rw [Option.bind_eq_some_iff] at hr
          obtain ⟨j, hj, hr⟩ := hr
          rw [Option.map_eq_some_iff] at hr
          obtain ⟨d, hd, rfl⟩ := hr
          obtain ⟨y, hy, ry⟩ := hk'.get hd
          have q4 : ∀ v H' G', Ext G G' → Rel c F (ρ.set i (.o (.l (ds.eraseIdx j)))) P1 σ H' G' → c.rep G' v d → Q v H' := q3
          refine ⟨a, vs', k, j, y, rfl, by rw [r1.int_of], ho', z.1, z.2, by rw [hk'.1]; exact hj, hy, q4 y _ G1 e1 (R1.upd_own hi hat (show CelOk c G1 a (.lst (vs'.eraseIdx j)) (.l (ds.eraseIdx j)) from Reps.erase hk' j)) ry⟩
        · rw [if_neg z] at q2; exact q2.elim
      | _ => exact q1.elim
    | _ => exact hk'.elim
  | _ => exact hk.elim
def compO (me : List D → D → M (D × List D)) : List D → List D → M (List D)
  | _, [] => Pure.pure []
  | ws, d :: ds => noEx (me ws d) >>= fun r => noEx (compO me r.2 ds) >>= fun ys => Pure.pure (r.1 :: ys)
theorem wipe_get {σ : L2.St} {i : Nat} : ∀ {vs : List Nat}, i ∉ vs → (wipe σ vs)[i]? = σ[i]?
  | [], _ => rfl
  | v :: vs, h => by
    show ((wipe σ vs).set v none)[i]? = _
    rw [List.getElem?_set_ne (fun e => h (by rw [e]; exact List.mem_cons_self)), wipe_get fun m => h (List.mem_cons_of_mem _ m)]
theorem wipeS_get {ρ : List Sl} {i : Nat} : ∀ {vs : List Nat}, i ∉ vs → (wipeS ρ vs)[i]? = ρ[i]?
  | [], _ => rfl
  | v :: vs, h => by
    show ((wipeS ρ vs).set v .un)[i]? = _
    rw [List.getElem?_set_ne (fun e => h (by rw [e]; exact List.mem_cons_self)), wipeS_get fun m => h (List.mem_cons_of_mem _ m)]
/-- the reading of such an element -/
abbrev rdEltO (c : Cn) (i : Nat) (t : List D → D → Option (List Sl)) (me : List D → D → M (D × List D)) : TE := fun σ H Q => ∃ F ws d ρ', t ws d = some ρ' ∧ rdEO c F W0 ρ' i (me ws d) σ H Q
theorem pe_eltO {X : Cx} {e : Expr} {i : Nat} {t : List D → D → Option (List Sl)} {me : List D → D → M (D × List D)} (h : ∀ F ws d ρ', t ws d = some ρ' → PE X e (rdEO c F W0 ρ' i (me ws d))) : PE X e (rdEltO c i t me) := ⟨fun pins s σ H Q I ⟨F, ws, d, ρ', e, q⟩ => (h F ws d ρ' e).run pins s σ H Q I q⟩
/-- what such a comprehension leaves: the list, whatever is left of the one of one's own -/
def rdLO (c : Cn) (F : Fr) (W : WX) (ρ : List Sl) (i : Nat) (m : M D) : TE := fun σ H Q => ∃ P G, Rel c F ρ P σ H G ∧ out m P (fun d P' => ∀ ws' v H' G', Ext G G' → Rel c F (ρ.set i (.o (.l ws'))) P' σ H' G' → c.rep G' v d → Q v H') (exW c F W P G σ)
theorem lc_rdO {wi : TI} {g : TG} {vs : List Nat} {i : Nat} {ws0 : List D} {mi : M (List D)} {t : List Sl → D → Option (List Sl)} {me : List D → D → M (D × List D)} (hi : ρ[i]? = some (.o (.l ws0))) (hv : i ∉ vs) (hw : ∀ σ H R, rdI c F W ρ mi σ H R → wi σ H R) (tg : Tgt c g t vs)
    (hno : ∀ ρ d ws, t ρ d = none → me ws d = M.no) (hkp : ∀ ρ d ρ', t ρ d = some ρ' → ρ'[i]? = ρ[i]?) {σ : L2.St} {H : Hp} {Q : VK} (q : rdLO c F W ρ i (mi >>= fun ds => noEx (compO me ws0 ds) >>= mkL) σ H Q) :
    tLc wi g tYes (rdEltO c i (fun ws d => t (wipeS ((ρ.map unO).set i (.o (.l ws))) vs) d) me) vs σ H Q := by
  have hlt : i < ρ.length := (List.getElem?_eq_some_iff.mp hi).1
  have ρ0 : ρ.set i (.o (.l ws0)) = ρ := by
    apply List.ext_getElem?
    intro j
    rw [List.getElem?_set]
    by_cases z : i = j
    · subst z; rw [if_pos rfl, if_pos hlt]; exact hi.symm
    · rw [if_neg z]
  obtain ⟨P, G, R, q⟩ := q
  refine hw _ _ _ ⟨P, G, R, out_mono (out_bind.mp q) (fun ds P1 q1 J H1 G1 e1 R1 go D hD => ?_) fun _ _ z => z⟩
  have ow := R1.own_at hD
  have h0 := R1.post.h0 hD
  have na := R1.ne_ap hD
  have hlσ : i < σ.length := by rw [R1.len]; exact hlt
  obtain ⟨a, ea, _⟩ := R1.sl i _ _ hi (List.getElem?_eq_getElem hlσ)
  have hat : σ[i]? = some (some (V.ref a)) := by rw [List.getElem?_eq_getElem hlσ, ea]
  have Da : D ≠ a := fun z => ow i _ hi (by rw [hat, z])
  refine ⟨fun k m Hx => m = ds.length - k ∧ k ≤ ds.length ∧ ∃ (ws : List DL.D) (acc : List V) (ad : List DL.D) (P' : Pot) (G' : Hp), Ext G1 G' ∧ Rel c F (ρ.set i (.o (.l ws))) P' σ Hx G' ∧ Hx D = some (.lst acc) ∧ G' D = none ∧ c.reps G' acc ad ∧
    out (noEx (compO me ws (ds.drop k)) >>= fun ys => mkL (ad ++ ys)) P' (fun d P' => ∀ ws' v H' G'', Ext G' G'' → Rel c F (ρ.set i (.o (.l ws'))) P' σ H' G'' → c.rep G'' v d → Q v H') (exW c F W P' G' σ),
    ⟨ds.length, by simp, Nat.zero_le _, ws0, [], [], P1, G1, Ext.refl _, by rw [ρ0]; exact R1.newM hD, upd_same, R1.post.g_none hD, Reps.nil, out_mono q1 (fun d p z ws' v H' G'' e => z ws' v H' G'' (e1.trans e)) fun _ _ z => exW_le e1 z⟩, ?_⟩
  rintro k m Hx ⟨rfl, hk, ws, acc, ad, P2, G2, e2, R2, hx, gx, ra, q2⟩
  have hiS : (ρ.set i (Sl.o (.l ws)))[i]? = some (.o (.l ws)) := by rw [List.getElem?_set, if_pos rfl, if_pos hlt]
  have eS : ((ρ.set i (Sl.o (.l ws))).map unO).set i (Sl.o (.l ws)) = (ρ.map unO).set i (Sl.o (.l ws)) := by
    apply List.ext_getElem?
    intro j
    by_cases z : i = j
    · subst z; simp
    · rw [List.getElem?_set_ne z, List.getElem?_set_ne z, List.getElem?_map, List.getElem?_map, List.getElem?_set_ne z]
  have S2 := R2.subO hiS hat
  rw [eS] at S2
  by_cases hl : k < ds.length
  · have hd : ds[k]? = some ds[k] := List.getElem?_eq_getElem hl
    obtain ⟨g1, g2⟩ := (go _ _ k P2 σ Hx G2 e2 S2).2 _ hd
    rw [List.drop_eq_getElem_cons hl] at q2
    obtain ⟨ys, p, hy, q3⟩ := out_noEx_bind q2
    refine .inr ⟨g1, fun H' => ∃ (ws : List DL.D) (acc : List V) (ad : List DL.D) (P' : Pot) (G' : Hp), Ext G1 G' ∧ Rel c F (ρ.set i (.o (.l ws))) P' σ H' G' ∧ H' D = some (.lst acc) ∧ G' D = none ∧ c.reps G' acc ad ∧
      out (noEx (compO me ws (ds.drop (k + 1))) >>= fun ys => mkL (ad ++ ys)) P' (fun d P' => ∀ ws' v H' G'', Ext G' G'' → Rel c F (ρ.set i (.o (.l ws'))) P' σ H' G'' → c.rep G'' v d → Q v H') (exW c F W P' G' σ), fun H' z => ⟨ds.length - (k + 1), by omega, rfl, hl, z⟩, fun x H3 y => ?_⟩
    obtain ⟨G3, e3, R3, r3⟩ := g2 x H3 y
    have hy' : (noEx (me ws ds[k]) >>= fun r => noEx (compO me r.2 (ds.drop (k + 1))) >>= fun ys => Pure.pure (r.1 :: ys)) P2 = .ok ys p := hy
    have o1 : out (noEx (me ws ds[k]) >>= fun r => noEx (compO me r.2 (ds.drop (k + 1))) >>= fun ys => Pure.pure (r.1 :: ys)) P2 (fun z zp => z = ys ∧ zp = p) (fun _ _ => False) := (out_eq hy').mpr ⟨rfl, rfl⟩
    obtain ⟨r, P4, hyd, o4⟩ := out_noEx_bind o1
    obtain ⟨ys', p', hys, o5⟩ := out_noEx_bind o4
    have o5' : r.1 :: ys' = ys ∧ p' = p := o5
    obtain ⟨e6, e7⟩ := o5'
    subst e6 e7
    cases ht : t (wipeS ((ρ.map unO).set i (.o (.l ws))) vs) ds[k] with
    | none =>
      rw [hno _ _ ws ht] at hyd
      cases hyd
    | some ρ' =>
      refine tg _ _ ρ' P2 _ H3 G3 x ds[k] _ (R3.wipe vs) r3 ht fun σ4 R4 w4 => ⟨w4.trans (wipe_idem vs), ?_⟩
      have hρ' : ρ'[i]? = some (.o (.l ws)) := by
        rw [hkp _ _ _ ht, wipeS_get hv, List.getElem?_set, if_pos rfl, if_pos (by simpa using hlt)]
      have h4 : σ4[i]? = some (some (V.ref a)) := by
        have z : (wipe σ4 vs)[i]? = (wipe σ vs)[i]? := by rw [w4.trans (wipe_idem vs)]
        rw [wipe_get hv, wipe_get hv] at z
        rw [z, hat]
      refine ⟨_, ws, ds[k], ρ', ht, P2, G3, R4, (out_eq hyd).mpr fun v H6 G6 e6 R6 r6 => ?_⟩
      have hlρ : i < ρ'.length := (List.getElem?_eq_some_iff.mp hρ').1
      obtain ⟨a', ea', ⟨u, hu, hk6⟩, g6a, _, _⟩ := R6.sl i _ _ (by rw [List.getElem?_set, if_pos rfl, if_pos hlρ]) h4
      cases ea'
      cases u with
      | lst vs6 =>
        have hk6 : c.reps G6 vs6 r.2 := hk6
        have A6 := R2.afterO hiS hat R6.post hu hk6 g6a
        rw [List.set_set] at A6
        have e26 : Ext G2 G6 := R6.post.ext
        have hx6 : H6 D = some (.lst acc) := R6.post.fr D _ (by show gone Hx a D = _; rw [gone_ne Da]; exact hx) na nt_lst
        have g6 : G6 D = none := by
          cases z : G6 D with
          | none => rfl
          | some u =>
            rcases R6.post.new D (by rw [z]; simp) with h | h | ⟨_, h⟩
            · exact absurd gx h
            · have h : gone Hx a D = none := h
              rw [gone_ne Da, hx] at h; cases h
            · have y := R6.post.le _ _ h
              rw [hx6] at y
              cases y
        have lenq : ad.length + (ys'.length + 1) ≤ sizeLine := by
          unfold mkL at q3
          by_cases z : (ad ++ r.1 :: ys').length ≤ sizeLine
          · simpa using z
          · rw [if_neg z] at q3; exact q3.elim
        have ow6 : ∀ (j : Nat) kk, (ρ.set i (.o (.l r.2)))[j]? = some (.o kk) → σ[j]? ≠ some (some (V.ref D)) := fun j kk hj hs => by
          by_cases z : i = j
          · subst z; rw [hat] at hs; cases hs; exact Da rfl
          · rw [List.getElem?_set_ne z] at hj; exact ow j kk hj hs
        refine ⟨acc, hx6, by rw [ra.1]; omega, r.2, acc ++ [v], ad ++ [r.1], P4, G6, e2.trans e26, A6.at g6 h0 na (fun u e => by rw [hx6] at e; cases e; exact ⟨nofun, nofun⟩) ow6, upd_same, g6, (ra.mono e26).append (Reps.cons r6 Reps.nil), ?_⟩
        refine out_bind.mpr ((out_eq (noEx_ok hys)).mpr ?_)
        have ea : ad ++ [r.1] ++ ys' = ad ++ r.1 :: ys' := by simp
        rw [ea]
        exact out_mono q3 (fun d p z ws' v H' G'' e => z ws' v H' G'' (e26.trans e)) fun _ _ z => exW_le e26 z
      | _ => exact hk6.elim
  · have ei : k = ds.length := by omega
    subst ei
    refine .inl ⟨(go _ _ _ P2 σ Hx G2 e2 S2).1 rfl, ?_⟩
    rw [List.drop_eq_nil_of_le (Nat.le_refl _)] at q2
    obtain ⟨ys, p, hy, q3⟩ := out_noEx_bind q2
    cases hy
    rw [List.append_nil] at q3
    unfold mkL at q3
    have ow2 : ∀ (j : Nat) kk, (ρ.set i (.o (.l ws)))[j]? = some (.o kk) → σ[j]? ≠ some (some (V.ref D)) := fun j kk hj hs => by
      by_cases z : i = j
      · subst z; rw [hat] at hs; cases hs; exact Da rfl
      · rw [List.getElem?_set_ne z] at hj; exact ow j kk hj hs
    by_cases z : ad.length ≤ sizeLine
    · rw [if_pos z] at q3
      obtain ⟨R3, e3⟩ := R2.freeze hx nt_lst h0 na ow2 gx
      exact q3 ws (.ref D) Hx _ e3 R3 (.lst upd_same ra.1 fun i v d a b => (ra.2 i v d a b).mono e3)
    · rw [if_neg z] at q3; exact q3.elim
/-- return [.. for .. in ..], its element popping -/
theorem ds_retLcO {E : α → List Sl} {i : Nat} {ws0 : List D} {elt tg iter : Expr} {scope : Scope} {own : List (Str × Nat)} {pos spos : Pos} {g : TG} {mi : M (List D)} {t : List Sl → D → Option (List Sl)} {me : List D → D → M (D × List D)} (hi : ρ[i]? = some (.o (.l ws0))) (hv : i ∉ own.map (·.2)) (hc : X.calm = true) (hN : X.N.Nodup) (ok : BlkOk X.N X.env.scope scope own)
    (hit : PI X tg iter (rdI c F W ρ mi)) (tgt : Tgt c g t (own.map (·.2))) (hno : ∀ ρ d ws, t ρ d = none → me ws d = M.no) (hkp : ∀ ρ d ρ', t ρ d = some ρ' → ρ'[i]? = ρ[i]?)
    (hg : ∀ (s : Shared) (H : Hp) (C : Addr) (cl : List (Str × Addr)) (fp : List Addr), PG (X.blk s H scope (compEnvC scope cl C X.env) fp) tg g)
    (he : ∀ (s : Shared) (H : Hp) (C : Addr) (cl : List (Str × Addr)) (fp : List Addr), PE (X.blk s H scope (compEnvC scope cl C X.env) fp) elt (rdEltO c i (fun ws d => t (wipeS ((ρ.map unO).set i (.o (.l ws))) (own.map (·.2))) d) me)) (hs : ∀ x, foldedSetIterable iter X.env x = pure x := by intro _; rfl) :
    PS X (.Return (some (.ListComp elt [⟨tg, iter, [], 0⟩] scope pos)) spos) (rdS c F W ρ E ((mi >>= fun ds => noEx (compO me ws0 ds) >>= mkL) >>= fun d => Pure.pure (.rt d))) := by
  refine ps_by (ps_ret (pe_lc hc hN hit ok hg (fun _ _ _ _ _ => pts_nil) he hs)) fun B σ H ⟨P, G, R, q⟩ => ?_
  refine lc_rdO (W := W) hi hv (fun _ _ _ z => z) tgt hno hkp ⟨P, G, R, out_mono (out_bind.mp q) (fun d P1 q1 ws' v H1 G1 e1 R1 r1 => ?_) fun _ _ z => exS.w z⟩
  exact (show ∀ v H' G' ρ' σ', Ext G G' → Rel c F ρ' P1 σ' H' G' → c.rep G' v d → B.rt v H' from q1) v H1 G1 _ σ e1 R1 r1
end
end DL

namespace DL
open PySem PySem.Spec PyProof.Rows L2
/-! ### len(o), str(o), o == x, o != x by an own __len__, __str__, __eq__ -/
section
variable {c : Cn} {X : Cx} {F : Fr} {W : WX} {ρ : List Sl} {k : Nat}
/-- a def that a built-in calls; no exception leaves it -/
theorem run_dun {j : Nat} {A : Around} {f : Addr} {fd : FuncData} {ps : List Str} {sp : Sp} {pins : List (Addr × Obj)} {s : Shared} {σ : L2.St} {H : Hp} {Q : VK} {us : List Value} {vs : List V} {E' : Value → Shared → Prop} (ga : GA A) (rm : Room j A) (e0 : Env0 X.prog X.w X.K X.mg X.base A X.stack s H)
    (fn : FnG X.prog X.w X.K X.mg X.base j f fd ps sp) (hb : Binds X.K fd ps []) (I : Inv X pins σ H s) (r : Vals vs us) (h : sp vs H Q fun _ _ _ => False) : wpAny (model X.prog X.w) A (call (.ref f) us) (EP X pins σ Q) E' s := by
  have hl : us.length = ps.length := r.length.symm.trans (fn.ln _ _ _ _ h)
  have b := hb s us I.kIn (by simpa using hl)
  rw [List.append_nil] at b
  refine wpAny_call (codeAny_mono (fn.go A X.stack s H us vs ⟨us, []⟩ Q _ ga rm e0 b r h) fun res s2 z => ?_)
  match res, z with
  | .error e, z =>
    obtain ⟨_, _, _, _, _, _, _, _, _, _, _, _, z⟩ := z
    exact z.elim
  | .ok (.ret u), z => exact I.after z
  | .ok .next, z => exact z.elim
  | .ok .brk, z => exact z.elim
  | .ok .cont, z => exact z.elim
/-- what the callee asks: an instance of cn, and the method's promise -/
def rDun (c : Cn) (cn : Str) (mf : List Ar → M D) (ok : V → Prop) : List V → Hp → VK → Prop := fun xs H Q => ∃ (a C dx : Addr) (fs : List (Str × V)), xs = [.ref a] ∧ H a = some (.ins C dx fs) ∧ c.mg cn = some (.ref C) ∧
  spD c mf [.ref a] H (fun v H' => ok v ∧ Q v H') (fun _ _ _ => False)
def okLen : V → Prop := fun v => ∃ n : Int, v = .int n ∧ 0 ≤ n ∧ n < 2 ^ 63
def okStr : V → Prop := fun v => ∃ x : Str, v = .str x
def okBl : V → Prop := fun v => ∃ b : Bool, v = .bl b
theorem Vals.one {v : V} {us : List Value} (r : Vals [v] us) : ∃ u, us = [u] ∧ RelV v u := by
  cases r with
  | cons h t => cases t; exact ⟨_, rfl, h⟩
theorem cr_lenI {j : Nat} {f : Addr} {fd : FuncData} {cn : Str} {ps : List Str} {mf : List Ar → M D} (Cc : Ctx c X k) (hj : j + 1 ≤ k) (hM : MthC c X j cn "__len__" f fd ps mf) : CallR X (.builtin "len") (rDun c cn mf okLen) := by
  intro pins s σ H xs us Q I rv ⟨a, C, dx, fs, e, ea, hC, h⟩
  subst e
  obtain ⟨u, rfl, ru⟩ := Vals.one rv
  obtain rfl : u = Value.ref a := ru
  obtain ⟨mA, J, _⟩ := ins_get I.hok ea
  obtain ⟨od, J, _⟩ := J.look
  obtain ⟨m, hF⟩ := I.fr
  obtain ⟨c1, c2⟩ := hM.at_.get hC
  have c2' : Meth X.K C "__len__" f := by rw [Cc.K]; exact c2
  refine PySem.W.len_K hF I.ok.mod.kin J c2'.at_ c2'.fn (wpAny_mono (run_dun (A := X.A.in1) (by exact Cc.ga) (Cc.rm.mono hj).in1 I.env0.in1 hM.fn (by rw [Cc.K]; exact hM.bi) I rv h) (fun r s' q => ?_) fun _ _ z => z)
  obtain ⟨v, H', I', rv', ⟨n, en, h0, h1⟩, q⟩ := q
  subst en
  obtain ⟨t, rfl⟩ := (show ∃ t, r = Value.int n t from rv')
  exact ⟨⟨h0, h1⟩, .int n, H', I'.tok _, ⟨_, rfl⟩, q⟩
theorem cr_strI {j : Nat} {f : Addr} {fd : FuncData} {cn : Str} {ps : List Str} {mf : List Ar → M D} (Cc : Ctx c X k) (hj : j + 2 ≤ k) (hM : MthC c X j cn "__str__" f fd ps mf) : CallR X (.type "str") (rDun c cn mf okStr) := by
  intro pins s σ H xs us Q I rv ⟨a, C, dx, fs, e, ea, hC, h⟩
  subst e
  obtain ⟨u, rfl, ru⟩ := Vals.one rv
  obtain rfl : u = Value.ref a := ru
  obtain ⟨mA, J, _⟩ := ins_get I.hok ea
  obtain ⟨od, J, _⟩ := J.look
  obtain ⟨c1, c2⟩ := hM.at_.get hC
  have c2' : Meth X.K C "__str__" f := by rw [Cc.K]; exact c2
  have rm2 : Room j X.A.in1.in1 := ((Cc.rm.mono hj).in1).in1
  refine PySem.W.kso_call rm2.units0 I.kIn J c2'.at_ c2'.fn (wpAny_mono (run_dun (A := X.A.in1.in1) (by exact Cc.ga) rm2 I.env0.in1.in1 hM.fn (by rw [Cc.K]; exact hM.bi) I rv h) (fun r s' q => ?_) fun _ _ z => z)
  obtain ⟨v, H', I', rv', ⟨n, en⟩, q⟩ := q
  subst en
  obtain ⟨t, rfl⟩ := (show ∃ t, r = Value.str n t from rv')
  exact ⟨.str n, H', I', ⟨_, rfl⟩, q⟩
/-- a comparison by an own method -/
def rCmpI (c : Cn) (cn : Str) (mf : List Ar → M D) (g : Bool → Bool) : R2 := fun x y H Q => ∃ (a C dx : Addr) (fs : List (Str × V)) (tb : Value), x = .ref a ∧ H a = some (.ins C dx fs) ∧ c.mg cn = some (.ref C) ∧ TyX c.K H y tb ∧ PySem.W.notFirst c.K C tb = true ∧
  spD c mf [.ref a, y] H (fun v H' => ∃ b, v = .bl b ∧ Q (.bl (g b)) H') (fun _ _ _ => False)
theorem op_eqI {j : Nat} {f : Addr} {fd : FuncData} {cn : Str} {ps : List Str} {mf : List Ar → M D} (Cc : Ctx c X k) (hj : j ≤ k) (hM : MthC c X j cn "__eq__" f fd ps mf) : OpR X (compareOp .Eq) (rCmpI c cn mf id) := by
  intro pins s σ H x y u1 u2 Q I rx ry ⟨a, C, dx, fs, tb, e, ea, hC, ht, hn, h⟩
  subst e
  obtain rfl : u1 = Value.ref a := rx
  obtain ⟨mA, J, _⟩ := ins_get I.hok ea
  obtain ⟨od, J, _⟩ := J.look
  obtain ⟨m, hF⟩ := I.fr
  obtain ⟨c1, c2⟩ := hM.at_.get hC
  have c2' : Meth X.K C "__eq__" f := by rw [Cc.K]; exact c2
  rw [← Cc.K] at ht hn
  obtain ⟨Pp, kt, kp, _⟩ := kit_of I ry ht
  show wpAny (model X.prog X.w) X.A (richCompare .Eq (.ref a) u2) (EP X pins σ Q) X.xe s
  refine PySem.W.cmp_K (op := .Eq) (tb := tb) Cc.rm.units0 hF I.ok.mod.kin J (kt.ty _ _ I.kIn kp) hn c2'.at_ c2'.fn (wpAny_mono (run_dun (A := X.A) Cc.ga (Cc.rm.mono hj) I.env0 hM.fn (by rw [Cc.K]; exact hM.bi) I (.cons (show RelV (V.ref a) (Value.ref a) from rfl) (.cons ry .nil)) h) (fun r s' q => ?_) fun _ _ z => z)
  obtain ⟨v, H', I', rv', b, en, q⟩ := q
  subst en
  obtain rfl : r = Value.bool b := rv'
  exact ⟨.bl b, H', I', rfl, q⟩

/-! ### != by the own __eq__ -/
theorem ne_call {prog : Program} {w : World} {A : Around} {E : Value → Shared → Prop} {s : Shared} {K : PySem.W.Frag} {x C f : Addr} {ox : Obj} {od : Option Obj} {b : Value} {Q : Value → Shared → Prop} (hu : A.in1.units < cLine) (Xi : K.In s.heap) (I : PySem.W.InstAt s.heap x ox C od)
    (hs : PySem.W.findIn K (.ref C) "__eq__" = some (some (.ref f))) (hf : PySem.W.isFn K (.ref f) = true) (hm : PySem.W.mroIn K C (.type "object") = some true)
    (h : wpAny (model prog w) A.in1 (call (.ref f) [.ref x, b]) (fun v s' => ∃ k, v = .bool k ∧ Q (.bool (!k)) s') E s) :
    wpAny (model prog w) A (call (.builtin "object.__ne__") [.ref x, b]) Q E s := by
  refine wpAny_call (codeAny_call_builtin (by decide +kernel) F.cmpEntry_ne (PySem.W.check_slot F.cmpKind_ne F.cmpSplit_ne (I.type.andThen (PySem.W.looks_mroIn Xi hm)) (F.cmpArgs_ne _ _) ?_))
  unfold Builtin.«object.__ne__»
  refine wpAny_bind (m := slotArgs _ _ _) (wpAny_pure ?_)
  refine wpAny_bind (wpAny_cRoomFor hu ?_)
  refine wpAny_bind (PySem.W.ifBound_K Xi I hs hf (wpAny_mono h (fun v s' hv => ?_) fun _ _ e => e))
  obtain ⟨k, rfl, hq⟩ := hv
  refine wpAny_bind (m := truthy (.bool _)) (wpAny_truthy_bool ?_)
  exact wpAny_pure hq

theorem ne_bind (self : Value) : bindSpecial (.builtin "object.__ne__") self = pure (.builtin "object.__ne__", [self]) :=
  (Slot.of (T := "object") (name := "__ne__") (owner := "object") (n := "__ne__") (by rw [typeLookup_type, builtinLookup_eq_fast]; kernel_rfl) (by decide +kernel) (by decide +kernel) (by decide +kernel)
    (.inl (by decide +kernel)) (by rw [isSubtype_type]; kernel_rfl)).bind self
theorem ne_bound {M : Model} {A : Around} {E : Value → Shared → Prop} {s : Shared} {K : PySem.W.Frag} {x C : Addr} {ox : Obj} {od : Option Obj} {args : List Value} {Q : Option Value → Shared → Prop} (Xi : K.In s.heap) (I : PySem.W.InstAt s.heap x ox C od)
    (hs : PySem.W.findIn K (.ref C) "__ne__" = some (some (.builtin "object.__ne__")))
    (h : wpAny M A (call (.builtin "object.__ne__") (.ref x :: args)) (fun v => Q (some v)) E s) : wpAny M A (callSpecialIfBound? (.ref x) "__ne__" args) Q E s := by
  simp only [callSpecialIfBound?, bindSpecialIfBound?]
  refine wpAny_holding (wpAny_bind (wpAny_bind (wpAny_bind (I.type.here ((PySem.W.looks_findIn Xi hs).here ?_)))))
  refine wpAny_bind (wpAny_askSetting (wpAny_ite ?_))
  have fin : wpAny M A (call (.builtin "object.__ne__") ([.ref x] ++ args) >>= fun v => pure (some v)) Q E s := wpAny_bind (wpAny_mono h (fun v s' h' => wpAny_pure h') fun _ _ h' => h')
  rw [ne_bind]
  split
  · exact wpAny_bind (wpAny_pure (wpAny_pure (by exact fin)))
  · exact wpAny_tryCatch (wpAny_bind (wpAny_pure (wpAny_pure (by exact fin))))
theorem ne_K {prog : Program} {w : World} {A : Around} {E : Value → Shared → Prop} {s : Shared} {K : PySem.W.Frag} {x C f : Addr} {ox : Obj} {od : Option Obj} {b tb : Value} {Q : Value → Shared → Prop} (hu : A.units < cLine) (hu1 : A.in1.units < cLine) (Xi : K.In s.heap) (I : PySem.W.InstAt s.heap x ox C od)
    (hb : PySem.W.Looks (model prog w) s.heap (typeOf b) tb) (hn : PySem.W.notFirst K C tb = true) (hs : PySem.W.findIn K (.ref C) "__eq__" = some (some (.ref f))) (hf : PySem.W.isFn K (.ref f) = true) (hm : PySem.W.mroIn K C (.type "object") = some true)
    (hne : PySem.W.findIn K (.ref C) "__ne__" = some (some (.builtin "object.__ne__")))
    (h : wpAny (model prog w) A.in1 (call (.ref f) [.ref x, b]) (fun v s' => ∃ k, v = .bool k ∧ Q (.bool (!k)) s') E s) :
    wpAny (model prog w) A (richCompare .NotEq (.ref x) b) Q E s := by
  have one : wpAny (model prog w) A (tryCompare (.ref x) (cmpInfo .NotEq).2.1 b) (fun r s' => ∃ v, r = some v ∧ Q v s') E s := by
    unfold tryCompare
    refine wpAny_bind (ne_bound Xi I hne (ne_call (by exact hu1) Xi I hs hf hm (wpAny_mono h (fun v s' hv => ?_) fun _ _ e => e)))
    obtain ⟨k, rfl, hq⟩ := hv
    exact ⟨k, rfl, wpAny_pure ⟨_, rfl, hq⟩⟩
  unfold richCompare
  simp only [oneThing_ref]
  refine wpAny_holding (wpAny_bind (wpAny_cRoomFor hu ?_))
  refine wpAny_bind (I.type.here (wpAny_bind (hb.here ?_)))
  split
  · rename_i q
    have e : PySem.W.subIn K tb (.ref C) = some false := by
      rcases Bool.or_eq_true_iff.mp hn with e | e
      · rw [beq_iff_eq.mp e] at q; simp at q
      · exact beq_iff_eq.mp e
    refine wpAny_bind ((PySem.W.looks_subIn Xi e).here ?_)
    simp only [Bool.false_eq_true, if_false]
    refine wpAny_bind (wpAny_mono one (fun r s' z => ?_) fun _ _ e => e)
    obtain ⟨v, rfl, hq⟩ := z
    exact wpAny_pure hq
  · refine wpAny_bind (wpAny_pure ?_)
    simp only [Bool.false_eq_true, if_false]
    refine wpAny_bind (wpAny_mono one (fun r s' z => ?_) fun _ _ e => e)
    obtain ⟨v, rfl, hq⟩ := z
    exact wpAny_pure hq
theorem op_neI {j : Nat} {f : Addr} {fd : FuncData} {cn : Str} {ps : List Str} {mf : List Ar → M D} (Cc : Ctx c X k) (hj : j + 1 ≤ k) (hM : MthC c X j cn "__eq__" f fd ps mf) (hN : AtC c cn fun C => PySem.W.mroIn c.K C (.type "object") = some true ∧ PySem.W.findIn c.K (.ref C) "__ne__" = some (some (.builtin "object.__ne__"))) : OpR X (compareOp .NotEq) (rCmpI c cn mf (fun b => !b)) := by
  intro pins s σ H x y u1 u2 Q I rx ry ⟨a, C, dx, fs, tb, e, ea, hC, ht, hn, h⟩
  subst e
  obtain rfl : u1 = Value.ref a := rx
  obtain ⟨mA, J, _⟩ := ins_get I.hok ea
  obtain ⟨od, J, _⟩ := J.look
  obtain ⟨c1, c2⟩ := hM.at_.get hC
  obtain ⟨n1, n2⟩ := hN.get hC
  have c2' : Meth X.K C "__eq__" f := by rw [Cc.K]; exact c2
  rw [← Cc.K] at ht hn n1 n2
  obtain ⟨Pp, kt, kp, _⟩ := kit_of I ry ht
  have rm := Cc.rm.mono hj
  show wpAny (model X.prog X.w) X.A (richCompare .NotEq (.ref a) u2) (EP X pins σ Q) X.xe s
  refine ne_K (tb := tb) rm.units0 rm.in1.units0 I.kIn J (kt.ty _ _ I.kIn kp) hn c2'.at_ c2'.fn n1 n2 (wpAny_mono (run_dun (A := X.A.in1) (by exact Cc.ga) rm.in1 I.env0.in1 hM.fn (by rw [Cc.K]; exact hM.bi) I (.cons (show RelV (V.ref a) (Value.ref a) from rfl) (.cons ry .nil)) h) (fun r s' q => ?_) fun _ _ z => z)
  obtain ⟨v, H', I', rv', b, en, q⟩ := q
  subst en
  obtain rfl : r = Value.bool b := rv'
  exact ⟨b, rfl, .bl _, H', I', rfl, q⟩
/-! ### told by data -/
def natD : D → M D
  | .int n => if 0 ≤ n ∧ n < 2 ^ 63 then Pure.pure (.int n) else M.no
  | _ => M.no
def strO : D → M D
  | .str x => Pure.pure (.str x)
  | _ => M.no
/-- of an instance of cn by its method mf -/
def dunD (cn : Str) (mf : List Ar → M D) (k : D → M D) : D → M D
  | .ins n fs => if n = cn then noEx (mf [.v (.ins n fs)]) >>= k else M.no
  | _ => M.no
theorem sp_noEx {mf : List Ar → M D} {P : Pot} {σ : L2.St} {H G : Hp} {Q : VK} {as : List Ar} {vs : List V} {kk : D → M D} {ok : V → Prop} (R : Rel c F ρ P σ H G) (r : ArsOk c F G vs as)
    (q : out (noEx (mf as) >>= kk) P (fun d P' => ∀ v H' G', Ext G G' → Rel c F ρ P' σ H' G' → c.rep G' v d → Q v H') (exW c F W P G σ))
    (hk : ∀ d P' G' v H' Q2, out (kk d) P' (fun d P' => ∀ v H' G2, Ext G G2 → Rel c F ρ P' σ H' G2 → c.rep G2 v d → Q v H') Q2 → Ext G G' → Rel c F ρ P' σ H' G' → c.rep G' v d → ok v ∧ Q v H') :
    spD c mf vs H (fun v H' => ok v ∧ Q v H') (fun _ _ _ => False) := by
  have q := out_noEx (out_bind.mp q)
  refine ⟨F.ap, G, P, as, R.post.refl', ArsOk.fr (F := F) (F' := ⟨G, H, F.ap⟩) rfl r, out_mono q (fun d P' z v H' G' p k => ?_) fun e P' z => z.elim⟩
  exact hk d P' G' v H' _ z p.ext (R.after p) k
end
end DL

namespace DL
open PySem PySem.Spec PyProof.Rows L2
section
variable {c : Cn} {X : Cx} {F : Fr} {W : WX} {ρ : List Sl} {k : Nat}
theorem sub_ty {K : PySem.W.Frag} {C : Addr} {n : String} (h : n ∈ ["NoneType", "bool", "int", "str", "list", "tuple", "dict"]) : PySem.W.subIn K (.type n) (.ref C) = some false := by
  have all : ∀ n ∈ ["NoneType", "bool", "int", "str", "list", "tuple", "dict"], (PySem.fastFind? n).isSome = true := by decide +kernel
  obtain ⟨m, e⟩ := Option.isSome_iff_exists.mp (all n h)
  show ((PySem.fastFind? n).map (·.mro.map Value.type)).map (fun x => x.contains (Value.ref C)) = some false
  rw [e]
  show some ((m.mro.map Value.type).contains (.ref C)) = some false
  congr 1
  cases hh : (m.mro.map Value.type).contains (Value.ref C) with
  | false => rfl
  | true =>
    rw [List.contains_iff_mem, List.mem_map] at hh
    obtain ⟨_, _, z⟩ := hh
    cases z
theorem nf_ty {K : PySem.W.Frag} {C : Addr} {n : String} (h : n ∈ ["NoneType", "bool", "int", "str", "list", "tuple", "dict"]) : PySem.W.notFirst K C (.type n) = true := by
  unfold PySem.W.notFirst
  rw [sub_ty h]
  simp
theorem nf_own {K : PySem.W.Frag} {C : Addr} : PySem.W.notFirst K C (.ref C) = true := by
  unfold PySem.W.notFirst
  simp
/-- what must be known of a class, that its instances' type is told -/
def InsTy (c : Cn) (cn : Str) : Prop := AtC c cn fun C => Cls c.K C ∧ PySem.W.findIn c.K (.ref C) "__class__" = some (some (.builtin "object.__class__")) ∧
  PySem.W.specialIn c.K (.builtin "object.__class__") "__get__" = some (some (.builtin "getset_descriptor.__get__")) ∧ PySem.W.takesIn c.K (.builtin "object.__class__") = some true ∧ PySem.W.mroIn c.K C (.type "object") = some true
theorem cd_lenI {cn : Str} {mf : List Ar → M D} : CallD c (rDun c cn mf okLen) (f1 (dunD cn mf natD)) := by
  intro F ρ W P σ H G vs ds Q R rs q
  match ds, q with
  | [d], q =>
    obtain ⟨v, rfl, rv⟩ := rs.one
    cases d with
    | ins n fs =>
      have q2 : out (if n = cn then noEx (mf [.v (.ins n fs)]) >>= natD else M.no) P _ _ := q
      by_cases z : n = cn
      · rw [if_pos z] at q2
        subst z
        cases rv with
        | ins ha hc hk hr =>
          refine ⟨_, _, _, _, rfl, R.post.le _ _ ha, hc, sp_noEx (ok := okLen) R (as := [.v (.ins n fs)]) ⟨.ins ha hc hk hr, True.intro⟩ q2 fun d P' G' v H' Q2 z e R' r' => ?_⟩
          cases d with
          | int i =>
            have z : out (if 0 ≤ i ∧ i < 2 ^ 63 then Pure.pure (D.int i) else M.no) P' _ _ := z
            by_cases hi : 0 ≤ i ∧ i < 2 ^ 63
            · rw [if_pos hi] at z
              exact ⟨⟨i, r'.int_of, hi.1, hi.2⟩, z v H' G' e R' r'⟩
            · rw [if_neg hi] at z; exact z.elim
          | _ => exact z.elim
      · rw [if_neg z] at q2; exact q2.elim
    | _ => exact q.elim
  | [], q => exact q.elim
  | _ :: _ :: _, q => exact q.elim
theorem cd_strI {cn : Str} {mf : List Ar → M D} : CallD c (rDun c cn mf okStr) (f1 (dunD cn mf strO)) := by
  intro F ρ W P σ H G vs ds Q R rs q
  match ds, q with
  | [d], q =>
    obtain ⟨v, rfl, rv⟩ := rs.one
    cases d with
    | ins n fs =>
      have q2 : out (if n = cn then noEx (mf [.v (.ins n fs)]) >>= strO else M.no) P _ _ := q
      by_cases z : n = cn
      · rw [if_pos z] at q2
        subst z
        cases rv with
        | ins ha hc hk hr =>
          refine ⟨_, _, _, _, rfl, R.post.le _ _ ha, hc, sp_noEx (ok := okStr) R (as := [.v (.ins n fs)]) ⟨.ins ha hc hk hr, True.intro⟩ q2 fun d P' G' v H' Q2 z e R' r' => ?_⟩
          cases d with
          | str i => exact ⟨⟨i, r'.str_of⟩, z v H' G' e R' r'⟩
          | _ => exact z.elim
      · rw [if_neg z] at q2; exact q2.elim
    | _ => exact q.elim
  | [], q => exact q.elim
  | _ :: _ :: _, q => exact q.elim
/-- may the right side stand there? -/
def rightI (cn : Str) : D → Bool
  | .ins n _ => decide (n = cn)
  | .cls _ => false
  | _ => true
def cmpI (cn : Str) (mf : List Ar → M D) (g : Bool → Bool) : D → D → M D
  | .ins n fs, y => if n = cn ∧ rightI cn y = true then noEx (mf [.v (.ins n fs), .v y]) >>= (fun d => boolD d >>= fun b => Pure.pure (.bl (g b))) else M.no
  | _, _ => M.no
theorem opd_cmpI {cn : Str} {mf : List Ar → M D} {g : Bool → Bool} (hT : InsTy c cn) : OpD c (rCmpI c cn mf g) (cmpI cn mf g) := by
  intro F ρ W P σ H G x y dx dy Q R rx ry q
  cases dx with
  | ins n fs =>
    have q2 : out (if n = cn ∧ rightI cn dy = true then noEx (mf [.v (.ins n fs), .v dy]) >>= (fun d => boolD d >>= fun b => Pure.pure (D.bl (g b))) else M.no) P _ _ := q
    by_cases z : n = cn ∧ rightI cn dy = true
    · rw [if_pos z] at q2
      obtain ⟨z, hy⟩ := z
      subst z
      cases rx with
      | ins ha hc hk hr =>
        rename_i a C dx fvs
        obtain ⟨t1, t2, t3, t4, t5⟩ := hT.get hc
        have ty : ∃ tb, TyX c.K H y tb ∧ PySem.W.notFirst c.K C tb = true := by
          cases hn : tyN dy with
          | some m => exact ⟨_, (tyX_of R ry hn).1, nf_ty (tyX_of R ry hn).2⟩
          | none =>
            cases dy with
            | ins n2 fs2 =>
              have e : n2 = n := by simpa [rightI] using hy
              subst e
              cases ry with
              | ins ha2 hc2 hk2 hr2 =>
                rw [hc] at hc2
                cases hc2
                exact ⟨_, .base (.ins (R.post.le _ _ ha2) t1 t2 t3 t4 t5), nf_own⟩
            | cls n2 => simp [rightI] at hy
            | _ => simp [tyN] at hn
        obtain ⟨tb, h1, h2⟩ := ty
        refine ⟨a, C, dx, fvs, tb, rfl, R.post.le _ _ ha, hc, h1, h2, ?_⟩
        have q := out_noEx (out_bind.mp q2)
        have rr : ArsOk c F G [.ref a, y] [.v (.ins n fs), .v dy] := ⟨.ins ha hc hk hr, ry, True.intro⟩
        refine ⟨F.ap, G, P, _, R.post.refl', ArsOk.fr (F := F) (F' := ⟨G, H, F.ap⟩) rfl rr, out_mono q (fun d P' z v H' G' p k => ?_) fun e P' z => z.elim⟩
        cases d with
        | bl b =>
          have z : ∀ v H' G', Ext G G' → Rel c F ρ P' σ H' G' → c.rep G' v (.bl (g b)) → Q v H' := z
          exact ⟨b, k.bl_of, z _ H' G' p.ext (R.after p) (.bl _)⟩
        | _ => exact z.elim
    · rw [if_neg z] at q2; exact q2.elim
  | _ => exact q.elim
end
end DL

namespace DL
open PySem PySem.Spec PyProof.Rows L2
/-! ### {k: v for tg in it if t}, keys ints or texts -/
def keyM : D → M Key
  | .int i => Pure.pure (.inl i)
  | .str x => Pure.pure (.inr x)
  | _ => M.no
def putD (kvs : List (Key × D)) (k : Key) (v : D) : List (Key × D) :=
  if (kvs.any fun kv => decide (kv.1 = k)) = true then kvs.map (fun kv => if kv.1 = k then (kv.1, v) else kv) else kvs ++ [(k, v)]
def dcF (t : D → M Bool) (ke ve : D → M D) : List D → List (Key × D) → M (List (Key × D))
  | [], acc => Pure.pure acc
  | d :: ds, acc => noEx (t d) >>= fun x => if x = true then noEx (ke d) >>= fun y => noEx (ve d) >>= fun z => keyM y >>= fun k => if acc.length < sizeLine then dcF t ke ve ds (putD acc k z) else M.no else dcF t ke ve ds acc
def dicD (kvs : List (Key × D)) : D := .dic (kvs.map fun p => (keyD p.1, p.2))
section
variable {c : Cn} {F : Fr} {W : WX} {ρ : List Sl} {X : Cx}
def RepK (c : Cn) (G : Hp) (kvs : List (Key × V)) (ds : List (Key × D)) : Prop := kvs.map (·.1) = ds.map (·.1) ∧ c.reps G (kvs.map (·.2)) (ds.map (·.2))
theorem RepK.nil {G : Hp} : RepK c G [] [] := ⟨rfl, Reps.nil⟩
theorem RepK.len {G : Hp} {kvs : List (Key × V)} {ds : List (Key × D)} (h : RepK c G kvs ds) : kvs.length = ds.length := by
  have := congrArg List.length h.1
  simpa using this
theorem RepK.mono {G G' : Hp} (e : Ext G G') {kvs : List (Key × V)} {ds : List (Key × D)} (h : RepK c G kvs ds) : RepK c G' kvs ds := ⟨h.1, h.2.mono e⟩
theorem any_keys {β γ : Type} (k : Key) : ∀ {kvs : List (Key × β)} {ds : List (Key × γ)}, kvs.map (·.1) = ds.map (·.1) → (kvs.any fun kv => decide (kv.1 = k)) = ds.any fun kv => decide (kv.1 = k)
  | [], [], _ => rfl
  | [], _ :: _, h => by simp at h
  | _ :: _, [], h => by simp at h
  | p :: r, q :: s, h => by
    simp only [List.map_cons, List.cons.injEq] at h
    rw [List.any_cons, List.any_cons, h.1, any_keys k h.2]
theorem put_map {G : Hp} {k : Key} {v : V} {d : D} (r : c.rep G v d) : ∀ {kvs : List (Key × V)} {ds : List (Key × D)}, RepK c G kvs ds → RepK c G (kvs.map fun kv => if kv.1 = k then (kv.1, v) else kv) (ds.map fun kv => if kv.1 = k then (kv.1, d) else kv)
  | [], [], _ => RepK.nil
  | [], _ :: _, h => by have := h.1; simp at this
  | _ :: _, [], h => by have := h.1; simp at this
  | p :: kvs, q :: ds, h => by
    obtain ⟨h1, h2⟩ := h
    simp only [List.map_cons, List.cons.injEq] at h1
    have ih := put_map (k := k) r (kvs := kvs) (ds := ds) ⟨h1.2, Reps.tail h2⟩
    have hd : c.rep G p.2 q.2 := Reps.head h2
    refine ⟨?_, ?_⟩
    · simp only [List.map_cons, List.cons.injEq]
      refine ⟨?_, ih.1⟩
      rw [h1.1]
      split <;> simp [h1.1]
    · simp only [List.map_cons]
      refine Reps.cons ?_ ih.2
      rw [h1.1]
      split
      · exact r
      · exact hd
theorem RepK.put {G : Hp} {k : Key} {v : V} {d : D} (r : c.rep G v d) {kvs : List (Key × V)} {ds : List (Key × D)} (h : RepK c G kvs ds) : RepK c G (putK kvs k v) (putD ds k d) := by
  unfold putK putD
  rw [any_keys k h.1]
  split
  · exact put_map r h
  · refine ⟨by simp [h.1], ?_⟩
    rw [List.map_append, List.map_append]
    exact h.2.append (Reps.cons r Reps.nil)
theorem keyM_out {y : D} {P : Pot} {ok : Key → Pot → Prop} {ex : Ex → Pot → Prop} (h : out (keyM y) P ok ex) : ∃ k, y = keyD k ∧ ok k P := by
  cases y with
  | int i => exact ⟨.inl i, rfl, h⟩
  | str x => exact ⟨.inr x, rfl, h⟩
  | _ => exact h.elim
theorem rep_key {G : Hp} {v : V} {k : Key} (r : c.rep G v (keyD k)) : v = kV k := by
  cases k with
  | inl i => exact r.int_of
  | inr x => exact r.str_of
theorem dc_rd {wi : TI} {g : TG} {tt : TT} {vs : List Nat} {mi : M (List D)} {t : List Sl → D → Option (List Sl)} {mt : D → M Bool} {mk mv : D → M D} (hw : ∀ σ H R, rdI c F W ρ mi σ H R → wi σ H R) (tg : Tgt c g t vs)
    (hno : ∀ ρ d, t ρ d = none → mt d = M.no) (htt : TestOk c tt (t (wipeS (ρ.map unO) vs)) mt) {σ : L2.St} {H : Hp} {Q : VK} (q : rdE c F W ρ (mi >>= fun ds => noEx (dcF mt mk mv ds []) >>= fun kvs => Pure.pure (dicD kvs)) σ H Q) :
    tDc wi g tt (fun σ H Q => ∃ F d ρ', t (wipeS (ρ.map unO) vs) d = some ρ' ∧ rdE c F W0 ρ' (mk d) σ H Q) (fun σ H Q => ∃ F d ρ', t (wipeS (ρ.map unO) vs) d = some ρ' ∧ rdE c F W0 ρ' (mv d) σ H Q) vs σ H Q := by
  obtain ⟨P, G, R, q⟩ := q
  refine hw _ _ _ ⟨P, G, R, out_mono (out_bind.mp q) (fun ds P1 q1 J H1 G1 e1 R1 go D hD => ?_) fun _ _ z => z⟩
  have ow := R1.own_at hD
  have h0 := R1.post.h0 hD
  have na := R1.ne_ap hD
  refine ⟨fun i m Hx => m = ds.length - i ∧ i ≤ ds.length ∧ ∃ (acc : List (Key × V)) (ad : List (Key × DL.D)) (P' : Pot) (G' : Hp), Ext G1 G' ∧ Rel c F ρ P' σ Hx G' ∧ Hx D = some (.dK acc) ∧ G' D = none ∧ RepK c G' acc ad ∧
    out (noEx (dcF mt mk mv (ds.drop i) ad) >>= fun kvs => (Pure.pure (dicD kvs) : M DL.D)) P' (fun d P' => ∀ v H' G'', Ext G' G'' → Rel c F ρ P' σ H' G'' → c.rep G'' v d → Q v H') (exW c F W P' G' σ),
    ⟨ds.length, by simp, Nat.zero_le _, [], [], P1, G1, Ext.refl _, R1.newM hD, upd_same, R1.post.g_none hD, RepK.nil, out_mono q1 (fun d p z v H' G'' e => z v H' G'' (e1.trans e)) fun _ _ z => exW_le e1 z⟩, ?_⟩
  rintro i m Hx ⟨rfl, hi, acc, ad, P2, G2, e2, R2, hx, gx, ra, q2⟩
  by_cases hl : i < ds.length
  · have hd : ds[i]? = some ds[i] := List.getElem?_eq_getElem hl
    have S2 := R2.sub
    obtain ⟨g1, g2⟩ := (go _ _ i P2 σ Hx G2 e2 S2).2 _ hd
    rw [List.drop_eq_getElem_cons hl] at q2
    obtain ⟨ys, p, hy, q3⟩ := out_noEx_bind q2
    refine .inr ⟨g1, fun H' => ∃ (acc : List (Key × V)) (ad : List (Key × DL.D)) (P' : Pot) (G' : Hp), Ext G1 G' ∧ Rel c F ρ P' σ H' G' ∧ H' D = some (.dK acc) ∧ G' D = none ∧ RepK c G' acc ad ∧
      out (noEx (dcF mt mk mv (ds.drop (i + 1)) ad) >>= fun kvs => (Pure.pure (dicD kvs) : M DL.D)) P' (fun d P' => ∀ v H' G'', Ext G' G'' → Rel c F ρ P' σ H' G'' → c.rep G'' v d → Q v H') (exW c F W P' G' σ), fun H' z => ⟨ds.length - (i + 1), by omega, rfl, hl, z⟩, fun x H3 y => ?_⟩
    obtain ⟨G3, e3, R3, r3⟩ := g2 x H3 y
    have hy' : (noEx (mt ds[i]) >>= fun x => if x = true then noEx (mk ds[i]) >>= fun y => noEx (mv ds[i]) >>= fun z => keyM y >>= fun k => if ad.length < sizeLine then dcF mt mk mv (ds.drop (i + 1)) (putD ad k z) else M.no else dcF mt mk mv (ds.drop (i + 1)) ad) P2 = .ok ys p := hy
    have o1 : out (noEx (mt ds[i]) >>= fun x => if x = true then noEx (mk ds[i]) >>= fun y => noEx (mv ds[i]) >>= fun z => keyM y >>= fun k => if ad.length < sizeLine then dcF mt mk mv (ds.drop (i + 1)) (putD ad k z) else M.no else dcF mt mk mv (ds.drop (i + 1)) ad) P2 (fun z zp => z = ys ∧ zp = p) (fun _ _ => False) := (out_eq hy').mpr ⟨rfl, rfl⟩
    obtain ⟨b, P3, hb, o2⟩ := out_noEx_bind o1
    have back : ∀ {m : M (List (Key × DL.D))} {P : Pot}, out m P (fun z zp => z = ys ∧ zp = p) (fun _ _ => False) → m P = .ok ys p := fun {m P} this => by
      unfold out at this
      cases k : m P with
      | ok a b => rw [k] at this; rw [this.1, this.2]
      | ex _ _ => rw [k] at this; exact this.elim
      | no => rw [k] at this; exact this.elim
    cases ht : t (wipeS (ρ.map unO) vs) ds[i] with
    | none =>
      rw [hno _ _ ht] at hb
      cases hb
    | some ρ' =>
      refine tg _ _ ρ' P2 _ H3 G3 x ds[i] _ (R3.wipe vs) r3 ht fun σ4 R4 w4 => ⟨w4.trans (wipe_idem vs), ?_⟩
      refine htt _ _ ρ' P2 σ4 H3 G3 _ R4 ht ((out_eq hb).mpr fun H5 G5 e5 R5 => ?_)
      have gone : ∀ {F' : Fr} {ρ2 : List Sl} {P' : Pot} {σ' : L2.St} {H' G' : Hp}, Rel c ⟨G2, Hx, F.ap⟩ ρ2 P' σ' H' G' → G' D = none := fun {F' ρ2 P' σ' H' G'} R5 => by
        cases z : G' D with
        | none => rfl
        | some u =>
          rcases R5.post.new D (by rw [z]; simp) with h | h | ⟨_, h⟩
          · exact absurd gx h
          · have h : Hx D = none := h
            rw [hx] at h; cases h
          · have y := R5.post.le _ _ h
            rw [R5.post.fr D _ hx na nt_dK] at y
            cases y
      cases b with
      | false =>
        have hz := back (show out (dcF mt mk mv (ds.drop (i + 1)) ad) P3 (fun z zp => z = ys ∧ zp = p) (fun _ _ => False) from o2)
        have A5 := R2.after R5.post
        have e25 : Ext G2 G5 := R5.post.ext
        exact ⟨acc, ad, P3, G5, e2.trans e25, A5, R5.post.fr D _ hx na nt_dK, gone (F' := F) R5, ra.mono e25, out_bind.mpr ((out_eq (noEx_ok hz)).mpr (out_mono q3 (fun d p z v H' G'' e => z v H' G'' (e25.trans e)) fun _ _ z => exW_le e25 z))⟩
      | true =>
        obtain ⟨kd, P4, hkd, o4⟩ := out_noEx_bind (show out (noEx (mk ds[i]) >>= fun y => noEx (mv ds[i]) >>= fun z => keyM y >>= fun k => if ad.length < sizeLine then dcF mt mk mv (ds.drop (i + 1)) (putD ad k z) else M.no) P3 (fun z zp => z = ys ∧ zp = p) (fun _ _ => False) from o2)
        obtain ⟨vd, P5, hvd, o5⟩ := out_noEx_bind o4
        obtain ⟨k, ek, o6⟩ := keyM_out (out_bind.mp o5)
        have hlen : ad.length < sizeLine := by
          by_cases z : ad.length < sizeLine
          · exact z
          · rw [if_neg z] at o6; exact o6.elim
        rw [if_pos hlen] at o6
        have hz := back o6
        refine ⟨_, ds[i], ρ', ht, P3, G5, R5, (out_eq hkd).mpr fun kv H6 G6 e6 R6 r6 => ?_⟩
        refine ⟨_, ds[i], ρ', ht, P4, G6, R6, (out_eq hvd).mpr fun v H7 G7 e7 R7 r7 => ?_⟩
        have A7 := R2.after R7.post
        have e27 : Ext G2 G7 := R7.post.ext
        have hx7 := R7.post.fr D _ hx na nt_dK
        have g7 := gone (F' := F) R7
        rw [ek] at r6
        refine ⟨acc, k, rep_key r6, hx7, by rw [ra.len]; exact hlen, putK acc k v, putD ad k vd, P5, G7, e2.trans e27, A7.at g7 h0 na (fun u e => by rw [hx7] at e; cases e; exact ⟨nofun, nofun⟩) ow, upd_same, g7, (ra.mono e27).put r7, ?_⟩
        exact out_bind.mpr ((out_eq (noEx_ok hz)).mpr (out_mono q3 (fun d p z v H' G'' e => z v H' G'' (e27.trans e)) fun _ _ z => exW_le e27 z))
  · have ei : i = ds.length := by omega
    subst ei
    refine .inl ⟨(go _ _ _ P2 σ Hx G2 e2 R2.sub).1 rfl, ?_⟩
    rw [List.drop_eq_nil_of_le (Nat.le_refl _)] at q2
    obtain ⟨ys, p, hy, q3⟩ := out_noEx_bind q2
    cases hy
    obtain ⟨R3, e3⟩ := R2.freeze hx nt_dK h0 na ow gx
    have q4 : ∀ v H' G'', Ext G2 G'' → Rel c F ρ P2 σ H' G'' → c.rep G'' v (dicD ad) → Q v H' := q3
    refine q4 (.ref D) Hx _ e3 R3 (.dicK upd_same ?_ fun i kv dv h1 h2 => ?_)
    · rw [List.map_map]
      have : (List.map (fun p => keyD p.1) acc) = (acc.map (·.1)).map keyD := by rw [List.map_map]; rfl
      rw [this, ra.1, List.map_map]
      rfl
    · rw [List.getElem?_map, Option.map_eq_some_iff] at h2
      obtain ⟨q, h2, rfl⟩ := h2
      exact (ra.2.2 i kv.2 q.2 (by rw [List.getElem?_map, h1]; rfl) (by rw [List.getElem?_map, h2]; rfl)).mono e3
theorem de_dc {kx vx tg iter : Expr} {ifs : List Expr} {scope : Scope} {own : List (Str × Nat)} {pos : Pos} {g : TG} {tt : TT} {mi : M (List D)} {t : List Sl → D → Option (List Sl)} {mt : D → M Bool} {mk mv : D → M D} (hc : X.calm = true) (hN : X.N.Nodup) (ok : BlkOk X.N X.env.scope scope own)
    (hi : PI X tg iter (rdI c F W ρ mi)) (tgt : Tgt c g t (own.map (·.2))) (hno : ∀ ρ d, t ρ d = none → mt d = M.no) (htt : TestOk c tt (t (wipeS (ρ.map unO) (own.map (·.2)))) mt)
    (hg : ∀ (s : Shared) (H : Hp) (C : Addr) (cl : List (Str × Addr)) (fp : List Addr), PG (X.blk s H scope (compEnvC scope cl C X.env) fp) tg g) (ht : ∀ (s : Shared) (H : Hp) (C : Addr) (cl : List (Str × Addr)) (fp : List Addr), PTs (X.blk s H scope (compEnvC scope cl C X.env) fp) ifs tt)
    (hk : ∀ (s : Shared) (H : Hp) (C : Addr) (cl : List (Str × Addr)) (fp : List Addr), PE (X.blk s H scope (compEnvC scope cl C X.env) fp) kx (rdElt c (t (wipeS (ρ.map unO) (own.map (·.2)))) mk))
    (he : ∀ (s : Shared) (H : Hp) (C : Addr) (cl : List (Str × Addr)) (fp : List Addr), PE (X.blk s H scope (compEnvC scope cl C X.env) fp) vx (rdElt c (t (wipeS (ρ.map unO) (own.map (·.2)))) mv)) (hs : ∀ x, foldedSetIterable iter X.env x = pure x := by intro _; rfl) :
    PE X (.DictComp kx vx [⟨tg, iter, ifs, 0⟩] scope pos) (rdE c F W ρ (mi >>= fun ds => noEx (dcF mt mk mv ds []) >>= fun kvs => Pure.pure (dicD kvs))) :=
  pe_by (pe_dc hc hN hi ok hg ht hk he hs) fun σ H Q q => dc_rd (fun _ _ _ z => z) tgt hno htt q
end
end DL

namespace SX
open PySem PySem.Spec PyProof.Rows L2
open PySem.W (EachIs alike list_sort_data dataLe)
/-! texts, ascending, each once -/
instance (a b : Str) : Decidable (ltT a b) := inferInstanceAs (Decidable (a.cps.toList < b.cps.toList))
theorem ltT_trans {a b c : Str} (h : ltT a b) (k : ltT b c) : ltT a c := List.lt_trans h k
theorem ltT_tri {a b : Str} (h : ¬ ltT a b) (k : a ≠ b) : ltT b a := by
  by_cases z : ltT b a
  · exact z
  · exact absurd (PySem.W.str_of_cps (List.le_antisymm (List.not_lt.mp z) (List.not_lt.mp h))) k
def insS (a : Str) : List Str → List Str
  | [] => [a]
  | b :: l => if ltT a b then a :: b :: l else if a = b then b :: l else b :: insS a l
theorem insS_mem {a x : Str} : ∀ {l : List Str}, x ∈ insS a l ↔ x = a ∨ x ∈ l
  | [] => by simp [insS]
  | b :: l => by
    unfold insS
    split
    · simp
    · split
      · rename_i e; subst e; simp
      · rw [List.mem_cons, insS_mem, List.mem_cons]
        constructor
        · rintro (h | h | h)
          · exact .inr (.inl h)
          · exact .inl h
          · exact .inr (.inr h)
        · rintro (h | h | h)
          · exact .inr (.inl h)
          · exact .inl h
          · exact .inr (.inr h)
theorem insS_asc {a : Str} : ∀ {l : List Str}, l.Pairwise ltT → (insS a l).Pairwise ltT
  | [], _ => by simp [insS]
  | b :: l, h => by
    obtain ⟨h1, h2⟩ := List.pairwise_cons.mp h
    unfold insS
    split
    · rename_i q
      refine List.pairwise_cons.mpr ⟨fun x hx => ?_, h⟩
      rcases List.mem_cons.mp hx with z | z
      · subst z; exact q
      · exact ltT_trans q (h1 x z)
    · rename_i q
      split
      · exact h
      · rename_i e
        refine List.pairwise_cons.mpr ⟨fun x hx => ?_, insS_asc h2⟩
        rcases insS_mem.mp hx with z | z
        · subst z; exact ltT_tri q e
        · exact h1 x z
def srtS (l : List Str) : List Str := l.foldr insS []
theorem srtS_mem {x : Str} : ∀ {l : List Str}, x ∈ srtS l ↔ x ∈ l
  | [] => Iff.rfl
  | a :: l => by
    show x ∈ insS a (srtS l) ↔ _
    rw [insS_mem, srtS_mem, List.mem_cons]
theorem srtS_asc : ∀ {l : List Str}, (srtS l).Pairwise ltT
  | [] => List.Pairwise.nil
  | a :: l => insS_asc (srtS_asc (l := l))
theorem srtS_is {l ys : List Str} (p : ys.Pairwise ltT) (h : ∀ y, y ∈ ys ↔ y ∈ l) : ys = srtS l :=
  asc_uniq ltT_asym ltT_irrefl p srtS_asc fun y => (h y).trans srtS_mem.symm
theorem srtS_self {l : List Str} (h : l.Pairwise ltT) : srtS l = l := (srtS_is h fun _ => Iff.rfl).symm
theorem srtS_length {l : List Str} : (srtS l).length ≤ l.length := by
  have one : ∀ (a : Str) (m : List Str), (insS a m).length ≤ m.length + 1 := fun a m => by
    induction m with
    | nil => exact Nat.le_refl _
    | cons b m ih =>
      unfold insS
      split
      · exact Nat.le_refl _
      · split
        · simp
        · simpa using ih
  induction l with
  | nil => exact Nat.le_refl _
  | cons a l ih => exact Nat.le_trans (one a (srtS l)) (Nat.succ_le_succ ih)
/-! set(x), x a list of keys -/
section
variable {P : Program} {w : World} {A : Around} {E : Value → Shared → Prop} {s : Shared}
set_option maxHeartbeats 8000000 in
theorem call_set_lst {l : Addr} {items : Array Value} (ks : List Key) {Q : Value → Shared → Prop} (hh : A.handled = none) (hl : s.heap.IsList l items) (hsz : items.size = ks.length) (hv : ∀ (i : Nat) (v : Value), items[i]? = some v → ∃ k t, ks[i]? = some k ∧ v = kvl k t) (hb : ks.length + 1 < scanBound)
    (h : ∀ h' tk c, SetS P w h' s.heap.objs.size (mm ks) c → c ≤ ks.length → (∀ b o, s.heap.get? b = some o → h'.get? b = some o) → Q (.ref s.heap.objs.size) { s with heap := h', toks := tk }) :
    wpAny (model P w) A (call (.type "set") [.ref l]) Q E s := by
  obtain ⟨c, tl, mro⟩ := F.called_set.mro
  have made := F.called_set.made
  have sub := F.called_set.sub
  refine wpAny_call (codeAny_of_tree ?_)
  show wpAny _ _ (callAny (.type "set") _) _ _ _
  refine wpAny_pure ⟨Code.quiet_builtin _ (by decide +kernel), codeAny_builtin F.entry_type_call ?_⟩
  rw [Around.under_plain (weight_type_call_type "set" [.ref l] []) rfl]
  have u1 := F.called_set.notType
  have u2 := F.called_set.canCreate
  have u3 := F.typeCall_set_1 (.ref l)
  repeat (any_goals (first | assumption | wp_step))

  refine codeAny_mono (code_set_led1 (.ref l) (E := E) (Q₁ := fun obj s1 => obj = .ref s.heap.objs.size ∧ s1 = { s with heap := s.heap.push (s0 w) }) ⟨rfl, rfl⟩) fun r s1 hr => ?_
  cases r with
  | error e => exact hr
  | ok fl =>
    cases fl with
    | ret obj =>
      obtain ⟨rfl, rfl⟩ := hr
      have hS : (s.heap.push (s0 w)).get? s.heap.objs.size = some (s0 w) := Heap.get?_push_size _ rfl
      have hT : Shared.TypeIs { s with heap := s.heap.push (s0 w) } (.ref s.heap.objs.size) "set" := ⟨_, hS, rfl⟩
      have v1 := F.called_set.init.lookup
      have v2 := F.called_set.init.bind (.ref s.heap.objs.size)
      repeat (any_goals (first | assumption | wp_step))

      refine codeAny_mono (codeAny_call_builtin (R := wants (fun r s2 => r = .none ∧ ∃ h' tk c, s2 = { s with heap := h', toks := tk } ∧ SetS P w h' s.heap.objs.size (mm ks) c ∧ c ≤ ks.length ∧
          (∀ b o, s.heap.get? b = some o → h'.get? b = some o)) E) F.called_set.init.plain F.entry_set_init (check_set_init_1 hT ?_)) fun r2 s2 hr2 => ?_
      · obtain ⟨ol, hol, hcl, nl, hdl⟩ := hl
        obtain ⟨ocls, odict, odata, oslots⟩ := ol
        simp only at hcl hdl
        subst hcl; subst hdl
        have hol' : (s.heap.push (s0 w)).get? l = some { cls := .type "list", dict := odict, data := .seq items nl, slots := oslots } := Heap.get?_push_of_some _ hol
        have w1 := F.sub_list_set
        have w2 := F.sub_list_frozenset
        have w3 : (Value.type "list" == Value.type "dict") = false := by decide
        have hl1 : (s.heap.push (s0 w)).IsList l items := ⟨_, hol', rfl, nl, rfl⟩
        unfold Builtin.«set.__init__» noKeywords Builtin.Frozenset.updateFrom
        generalize ePI : pyIter = PI
        wp_walk
        subst ePI
        refine wpAny_pyIter_list hl1 ?_
        refine wpAny_bind (wpAny_runValue ?_)
        have hlS : l < s.heap.objs.size := Heap.lt_size hol
        have g3 : A.in1.in1.in1.handled = none := by simp [hh]
        have z1 : (s.heap.push (s0 w)).objs.size = s.heap.objs.size + 1 := Heap.size_push ..
        have hneI : l ≠ (s.heap.push (s0 w)).objs.size := by rw [z1]; exact Nat.ne_of_lt (Nat.lt_succ_of_lt hlS)
        have nf : s.heap.objs.size ∉ [(s.heap.push (s0 w)).objs.size, l] := by
          rw [z1]; simp only [List.mem_cons, List.mem_singleton, List.not_mem_nil, or_false, not_or]
          exact ⟨Nat.ne_of_lt (Nat.lt_succ_self _), Nat.ne_of_gt hlS⟩
        refine updateS ((Walks.list g3 _ l hneI items).toS) s.heap.objs.size nf ks hsz hb hv (items.size - 0) 0 _ (by omega) (Nat.zero_le _) ⟨⟨_, Heap.get?_push_size _ rfl, rfl, rfl⟩, (hl1.push _)⟩ ?S0 ?R0
        case S0 =>
          exact ⟨0, Nat.le_refl 0, freshS (Heap.get?_push_of_some _ hS) fun k => rfl⟩
        case R0 =>
          intro s' c' mv hc' hS'
          obtain ⟨h', g2, d', tk', os'⟩ := s'
          obtain rfl : g2 = s.gens := mv.gens
          obtain rfl : d' = s.drawn := mv.drawn
          obtain rfl : os' = s.os := mv.os
          show wpAny _ _ _ _ _ _
          refine wpAny_pure ?_
          show wpAny _ _ (ret Value.none) _ _ _
          rw [hsz] at hc'
          refine wpAny_pure ⟨rfl, h', tk', c', rfl, hS', hc', fun b o e => ?_⟩
          have b0 : b < s.heap.objs.size := Heap.lt_size e
          refine mv.heap b o (fun z => ?_) (Heap.get?_push_of_some _ (Heap.get?_push_of_some _ e))
          rcases List.mem_cons.mp z with z | z
          · exact absurd z (Nat.ne_of_lt b0)
          · exact absurd ((List.mem_singleton.mp z).trans z1) (Nat.ne_of_lt (Nat.lt_succ_of_lt b0))
      · cases r2 with
        | error e => exact hr2
        | ok fl2 =>
          cases fl2 with
          | ret r =>
            obtain ⟨rfl, h', tk, c', rfl, hS', hc', hk'⟩ := hr2
            repeat (any_goals (first | assumption | wp_step))
            exact h _ _ _ hS' hc' hk'
          | _ => exact hr2.elim
    | _ => exact hr.elim
end
end SX

namespace SX
open PySem PySem.Spec PyProof.Rows L2
open PySem.W (EachIs alike list_sort_data dataLe)
theorem vals_ix : ∀ {vs : List V} {us : List Value}, Vals vs us → ∀ {i : Nat} {u : Value}, us[i]? = some u → ∃ v, vs[i]? = some v ∧ RelV v u
  | _, _, .nil, _, _, h => by simp at h
  | _, _, .cons h t, 0, u, e => by
    simp at e; subst e; exact ⟨_, rfl, h⟩
  | _, _, .cons h t, i + 1, u, e => by
    obtain ⟨v, a, b⟩ := vals_ix t (i := i) (u := u) (by simpa using e)
    exact ⟨v, by simpa using a, b⟩
/-! the rules -/
def rSetL (K : PySem.W.Frag) (P : Program) (w : World) : List V → Hp → VK → Prop := fun xs H Q => ∃ (l : Addr) (ys : List Str), xs = [.ref l] ∧ SqL K H l (ys.map V.str) ∧ ys.length < 4000 ∧ ∀ p n, H p = none → Q (.ref p) (upd H p (SetSO P w p (mm (ys.map Sum.inr)) n))
def rSrtL (P : Program) (w : World) : List V → Hp → VK → Prop := fun vs H Q => ∃ (a : Addr) (ys : List Str) (n : Nat), vs = [V.ref a] ∧ ys.length < 4000 ∧ H a = some (SetSO P w a (mm (ys.map Sum.inr)) n) ∧ ∀ p, H p = none → Q (.ref p) (upd H p (.lst ((srtS ys).map V.str)))
section
variable {X : Cx}
theorem cr_setL (hc : X.calm = true) : CallR X (.type "set") (rSetL X.K X.prog X.w) := by
  intro pins s σ H xs us Q I r h
  obtain ⟨l, ys, rfl, hs, hx, q⟩ := h
  rw [Vals.ref1 r]
  obtain ⟨its, rv, hl, _⟩ := I.list hs
  have hn : H s.heap.objs.size = none := I.hok.fresh (Nat.le_refl _)
  have hz : its.length = ys.length := by have := rv.length; rw [List.length_map] at this; exact this.symm
  refine call_set_lst (P := X.prog) (w := X.w) (ys.map Sum.inr) (I.ok.hd hc) hl.isList (by rw [List.size_toArray, List.length_map, hz]) (fun i v e => ?_) (by rw [List.length_map]; show _ < 4096; omega) fun h' tk c R hcn k => ?_
  · rw [List.getElem?_toArray] at e
    obtain ⟨x, e1, e2⟩ := vals_ix rv e
    rw [List.getElem?_map, Option.map_eq_some_iff] at e1
    obtain ⟨y, e1, rfl⟩ := e1
    obtain ⟨t, rfl⟩ := (show ∃ t, v = Value.str y t from e2)
    exact ⟨.inr y, t, by rw [List.getElem?_map, e1]; rfl, rfl⟩
  · exact ⟨.ref s.heap.objs.size, _, I.laid (t' := tk) k (Nat.le_refl _) (setSO_new R), rfl, q _ c hn⟩

theorem cr_srtL (hc : X.calm = true) (hu : X.A.units + 64 < cLine) : CallR X (.builtin "sorted") (rSrtL X.prog X.w) := by
  intro pins s σ H vs us Q I r h
  obtain ⟨a, ys, n, rfl, hx, ha, q⟩ := h
  rw [Vals.ref1 r]
  have R : SetS X.prog X.w s.heap a (mm (ys.map Sum.inr)) n := (I.hok a _ ha).1
  obtain ⟨o, es, ep, t, ho, hex, hd, g, nd, hm, hb, hf, hn, hr, hl⟩ := R
  have back : ∀ e ∈ es.toList, ∃ y, y ∈ ys ∧ ko e.2 = .inr y := fun e he => by
    have h1 : ko e.2 ∈ keysE es := List.mem_map.mpr ⟨e, he, rfl⟩
    obtain ⟨y, hy1, hy2⟩ := List.mem_map.mp (mm_iff.mp ((hm _).2 h1))
    exact ⟨y, hy1, hy2.symm⟩
  let bo : Value → Str := fun v => match v with | .str x _ => x | _ => ⟨#[]⟩
  have hbo : ∀ e ∈ es.toList, ∃ u, e.2 = Value.str (bo e.2) u := fun e he => by
    obtain ⟨k, t, e1, _⟩ := g e he
    obtain ⟨c, _, e2⟩ := back e he
    rw [e1, ko_kvl] at e2
    subst e2
    exact ⟨t, by rw [e1]; rfl⟩
  have kb : ∀ e ∈ es.toList, ko e.2 = .inr (bo e.2) := fun e he => by
    obtain ⟨u, e1⟩ := hbo e he
    rw [e1]; rfl
  refine sorted_setG (β := Str) (fun b => .str b) (fun b t => .str b t) bo (fun h b t => .str b t) (fun _ _ => rfl) (fun b => ⟨fun z => (nomatch z), fun xs z => (nomatch z)⟩) (fun _ => rfl) ho hex hd hb hf hr hl hbo (I.ok.hd hc) hu fun s' p out c bs k gg oo hp hg pm ei => ?_
  have mem : ∀ y, y ∈ bs.mergeSort (dataLe false fun b => PyData.str b) ↔ y ∈ ys := fun y => by
    rw [(List.mergeSort_perm _ _).mem_iff, pm.mem_iff, List.mem_map]
    constructor
    · rintro ⟨e, he, rfl⟩
      obtain ⟨c, hc1, hc2⟩ := back e he
      rw [kb e he] at hc2
      exact (Sum.inr.inj hc2) ▸ hc1
    · intro hy
      have : (Sum.inr y : Key) ∈ keysE es := (hm _).1 (mm_iff.mpr (List.mem_map.mpr ⟨y, hy, rfl⟩))
      obtain ⟨e, he, e1⟩ := List.mem_map.mp this
      rw [kb e he] at e1
      exact ⟨e, he, Sum.inr.inj e1⟩
  have nd2 : (bs.mergeSort (dataLe false fun b => PyData.str b)).Nodup := by
    rw [(List.mergeSort_perm _ _).nodup_iff, pm.nodup_iff]
    have e1 : keysE es = (es.toList.map fun e => bo e.2).map Sum.inr := by
      unfold keysE
      rw [List.map_map]
      exact List.map_congr_left fun e he => kb e he
    rw [e1] at nd
    exact (List.pairwise_map.mp nd).imp fun {a b} h e => h (congrArg _ e)
  have pw : (bs.mergeSort (dataLe false fun b => PyData.str b)).Pairwise ltT := by
    have e1 : (dataLe false fun b : Str => PyData.str b) = fun a b => decide (a.cps.toList ≤ b.cps.toList) := PySem.W.dataLe_str fun b => b
    rw [e1] at nd2 ⊢
    have s1 := List.pairwise_mergeSort (le := fun a b : Str => decide (a.cps.toList ≤ b.cps.toList)) (fun a b c h1 h2 => decide_eq_true (List.le_trans (of_decide_eq_true h1) (of_decide_eq_true h2))) (fun a b => by
      rcases List.le_total a.cps.toList b.cps.toList with z | z
      · rw [decide_eq_true z]; rfl
      · rw [decide_eq_true z, Bool.or_true]) bs
    refine (s1.and nd2).imp fun {a b} ⟨h1, h2⟩ => ?_
    have h1 := of_decide_eq_true h1
    by_cases z : a.cps.toList < b.cps.toList
    · exact z
    · exact absurd (PySem.W.str_of_cps (List.le_antisymm h1 z)) h2
  have es2 := srtS_is pw mem
  rw [es2] at ei
  have hlen : ((srtS ys).map V.str).length ≤ sizeLine := by
    have := srtS_length (l := ys)
    rw [List.length_map, sizeLine_eq]; omega
  have hnp : H p = none := I.hok.fresh hp
  have J : Inv X pins σ (upd H p (.lst ((srtS ys).map V.str))) { s with heap := s'.heap, gens := s'.gens, drawn := s'.drawn, toks := s'.toks } :=
    I.call (ch := []) (Un.laid k hp hnp) (I.hok.laid k hp ⟨hlen, out.toList, c, vals_strs ei, hg⟩) (by rw [gg]; exact I.bare) fun _ z => nomatch z
  have e : s' = { s with heap := s'.heap, gens := s'.gens, drawn := s'.drawn, toks := s'.toks } := by
    cases s'; cases s; cases oo; rfl
  rw [e]
  exact ⟨.ref p, _, J, rfl, q p hnp⟩
end
end SX

namespace SX
open PySem PySem.Spec PyProof.Rows L2
open PySem.W (EachIs alike dataLe AllAlike Sortable SortsAt dataKind dataKind_inv dataKind_some sortingHeap copyHeap sorting_copy_old)
/-! sorted(x), x a list of alike data -/
section
variable {prog : Program} {w : World} {A : Around} {s : Shared}
theorem sortsAt_one {vs : List Value} {ds : List PyData} (e : EachIs (fun v d => ∃ as, Reads s.heap v d as) vs ds) (hal : AllAlike ds) (hn : ∀ d ∈ ds, d ≠ .none) (h1 : ds.length ≤ 1) (hu : ∀ d, d ∈ ds → A.units + d.depth < cLine) : SortsAt prog w A s (dataKind s.heap ds) vs := by
  refine ⟨fun v hv => ?_, ?_⟩
  · obtain ⟨d, hd, as, r⟩ := e.left v hv
    exact ⟨_, dataKind_some hal hd r⟩
  · refine ⟨general', ?_, fun h2 => absurd h2 (by have := e.length; omega)⟩
    intro E x y a b Q ha hb hq
    obtain ⟨d, as, hd, ra, rfl⟩ := dataKind_inv ha
    obtain ⟨d', as', hd', rb, rfl⟩ := dataKind_inv hb
    show wpAny (model prog w) A (oneLt' false x y) Q E s
    exact PySem.W.oneLt_alike (fun z => (nomatch z)) ra rb (hal d hd d' hd') (hn d hd) (Nat.lt_of_le_of_lt (Nat.add_le_add_left (Nat.min_le_left _ _) _) (hu d hd)) hq
end
def SortOk (ps : List PyData) : Prop := AllAlike ps ∧ (∀ p ∈ ps, p ≠ .none) ∧ (Sortable ps ∨ ps.length ≤ 1) ∧ ∀ p ∈ ps, p.depth ≤ 30
def rSortD (K : PySem.W.Frag) : List V → Hp → VK → Prop := fun vs H Q => ∃ (a : Addr) (ws : List V) (ps : List PyData), vs = [.ref a] ∧ SqL K H a ws ∧ DpAll K H ws ps ∧ ws.length = ps.length ∧ ws.length ≤ sizeLine ∧ SortOk ps ∧
  ∀ p, H p = none → Q (.ref p) (upd H p (.lst (((ws.zip ps).mergeSort (dataLe false (·.2))).map (·.1))))
theorem each_zip {h : Heap} : ∀ {us : List Value} {ws : List V} {ps : List PyData} {as : List Addr}, Vals ws us → ReadsAll h us ps as → EachIs (fun (u : Value) (b : V × PyData) => RelV b.1 u) us (ws.zip ps) ∧ EachIs (fun (u : Value) (b : V × PyData) => ∃ as, Reads h u b.2 as) us (ws.zip ps)
  | _, _, _, _, .nil, .nil => ⟨.nil, .nil⟩
  | _, _, _, _, .cons h t, .cons r1 r2 => ⟨.cons h (each_zip t r2).1, .cons ⟨_, r1⟩ (each_zip t r2).2⟩
theorem vals_zip : ∀ {us : List Value} {bs : List (V × PyData)}, EachIs (fun (u : Value) (b : V × PyData) => RelV b.1 u) us bs → Vals (bs.map (·.1)) us
  | _, _, .nil => .nil
  | _, _, .cons h t => .cons h (vals_zip t)
section
variable {X : Cx}
theorem cr_sortD (hu : X.A.units + 64 < cLine) : CallR X (.builtin "sorted") (rSortD X.K) := by
  intro pins s σ H vs us Q I r h
  obtain ⟨a, ws, ps, rfl, hs, hp, hlen, hz, ⟨hal, hnn, hk, hd⟩, q⟩ := h
  rw [Vals.ref1 r]
  obtain ⟨its, rv, hl, _⟩ := I.list hs
  obtain ⟨as, ra⟩ := Dp.readsAll I ps ws its hp rv
  obtain ⟨e1, e2⟩ := each_zip rv ra
  have em : (ws.zip ps).map (·.2) = ps := List.map_snd_zip (by omega)
  have hiz : its.length = ws.length := rv.length.symm
  have fin : ∀ out : List Value, out.length = (ws.zip ps).length → EachIs (fun (u : Value) (b : V × PyData) => RelV b.1 u) out ((ws.zip ps).mergeSort (dataLe false (·.2))) → EP X pins σ Q (.ref (s.heap.objs.size + 1)) { s with heap := sortedAll s.heap its out.toArray } := fun out ho eo => by
    obtain ⟨c, hc⟩ := sortedAll_at s.heap its out.toArray
    have hnp : H (s.heap.objs.size + 1) = none := I.hok.fresh (Nat.le_succ _)
    have k : ∀ b o, s.heap.get? b = some o → (sortedAll s.heap its out.toArray).get? b = some o := fun _ _ => sortedAll_old
    have hl2 : (((ws.zip ps).mergeSort (dataLe false (·.2))).map (·.1)).length ≤ sizeLine := by
      rw [List.length_map, List.length_mergeSort, List.length_zip]; omega
    exact ⟨.ref (s.heap.objs.size + 1), upd H (s.heap.objs.size + 1) (.lst (((ws.zip ps).mergeSort (dataLe false (·.2))).map (·.1))), I.call (ch := []) (Un.laid k (Nat.le_succ _) hnp) (I.hok.laid k (Nat.le_succ _) ⟨hl2, out, c, vals_zip eo, by simpa using hc⟩) I.bare fun _ z => (nomatch z), rfl, q _ hnp⟩
  have hub : ∀ b, b ∈ ws.zip ps → X.A.units + 2 + (b.2 : PyData).depth < cLine := fun b hb => by
    have := hd b.2 (by rw [← em]; exact List.mem_map.mpr ⟨b, hb, rfl⟩)
    omega
  have hl' : s.heap.IsList a its.toArray := hl.isList
  rcases hk with hk | hk
  · exact PySem.W.sorted_data (enc := fun b : V × PyData => b.2) (R := fun u b => RelV b.1 u) hl' e1 e2 (by rw [em]; exact hal) (by rw [em]; exact hk) (by rw [List.length_zip]; omega) hub fun out ho eo => fin out ho eo
  · have er' : EachIs (fun (u : Value) (b : V × PyData) => ∃ as, Reads (sortingHeap (copyHeap s.heap its) (s.heap.objs.size + 1) its) u b.2 as) its (ws.zip ps) := e2.mono fun _ _ ⟨as, r⟩ => ⟨as, PyProof.Rows.Reads.keeps (fun _ _ => sorting_copy_old) r⟩
    have hub2 : ∀ d, d ∈ (ws.zip ps).map (·.2) → X.A.in1.in1.units + d.depth < cLine := fun d hd2 => by
      rw [em] at hd2
      have := hd d hd2
      have u : X.A.in1.in1.units ≤ X.A.units + 2 := by simp [Around.in1]
      omega
    refine PySem.W.sorted_vals hl' (sortsAt_one (s := { s with heap := sortingHeap (copyHeap s.heap its) (s.heap.objs.size + 1) its }) (PySem.W.each_map (R := fun v d => ∃ as, Reads (sortingHeap (copyHeap s.heap its) (s.heap.objs.size + 1) its) v d as) (fun b : V × PyData => b.2) er') (by rw [em]; exact hal) (by rw [em]; exact hnn) (by rw [em]; exact hk) hub2) (by omega) ?_
    exact fin _ (by rw [PySem.W.sortVals_length false rfl, hiz, List.length_zip]; omega) (PySem.W.sortVals_data (enc := fun b : V × PyData => b.2) false e1 er' (by rw [em]; exact hal))
end
end SX

namespace DL
open PySem PySem.Spec PyProof.Rows L2
section
variable {c : Cn} {X : Cx} {F : Fr} {W : WX} {ρ : List Sl} {k : Nat}
/-! ### isinstance(e, C), C a class of one's own -/
def isiC (cn : Str) : D → M D := isiM (fun _ => some false) fun n => if n = cn then some true else none
def isCls (c : Cn) (cn : Str) : Prop := AtC c cn fun C => PySem.W.isClsIn c.K C = true ∧ PySem.W.typeIn c.K (.ref C) = some (.type "type")
theorem de_isiO {cn y : Str} {a : Expr} {p py pos : Pos} {m : M D} (Cc : Ctx c X k) (hT : InsTy c cn) (hC : isCls c cn) (hy : y = cn) (hg : Gl X "isinstance") (hm : X.mg "isinstance" = none) (ha : PE X a (rdE c F W ρ m)) (hgy : Gl X y)
    (h1 : starEach (a :: [.Name y py]) X.env = (false, eval a X.env) :: starEach [.Name y py] X.env := by rfl) (h2 : starEach (.Name y py :: []) X.env = (false, eval (.Name y py) X.env) :: starEach [] X.env := by rfl)
    (hpl : (backTo pos (starEach [.Name y py] X.env)).any (·.1) = false := by rfl) (hd : (y == ("__debug__" : Str)) = false := by decide) : PE X (.Call (.Name "isinstance" p) [a, .Name y py] [] pos) (rdE c F W ρ (m >>= isiC cn)) := by
  subst hy
  obtain ⟨C, hm0, i1, i2⟩ := hC
  have hmy : X.mg y = some (.ref C) := by rw [Cc.mg]; exact hm0
  obtain ⟨t1, t2, t3, t4, t5⟩ := hT.get hm0
  refine de_isiX (cv := .ref C) (u := .ref C) Cc.K (.own C) (fun n b hn h => ?_) (fun n b h => ?_) hg hm ha (pe_glob hgy hmy rfl hd) h1 h2 hpl
  · cases h
    have e : ¬ ((Value.type n == Value.ref C) = true) := by simp
    show (if (Value.type n == Value.ref C) = true then some true else PySem.W.kitCls c.K (.type n) (.ref C)) = some false
    rw [if_neg e]
    show (if ((PySem.W.clsIn c.K C).isSome && PySem.W.typeIn c.K (.ref C) == some (.type "type")) = true then PySem.W.subIn c.K (.type n) (.ref C) else none) = some false
    have i1 : (PySem.W.clsIn c.K C).isSome = true := i1
    rw [if_pos (by rw [i1, i2]; rfl)]
    exact sub_ty hn
  · by_cases z : n = y
    · rw [if_pos z] at h
      cases h
      subst z
      intro C2 hC2
      rw [hm0] at hC2
      cases hC2
      refine ⟨t1, t2, t3, t4, t5, ?_⟩
      show (if (Value.ref C == Value.ref C) = true then some true else _) = some true
      rw [if_pos (by simp)]
    · rw [if_neg z] at h; cases h
/-! ### o(e, ..) -/
theorem de_callI {j : Nat} {cn : Str} {f : Addr} {fd : FuncData} {mf : List Ar → M D} {mo : M D} {ms : M (List Ar)} {pos : Pos} {fe e : Expr} {es : List Expr} {ps : List Str} (Cc : Ctx c X k) (hj : j ≤ k) (tk : Takes X W) (hM : MthC c X j cn "__call__" f fd ps mf) (hfi : PySem.W.fnIn c.K f = true)
    (ho : PE X fe (rdE c F W ρ mo)) (ha : PA X (e :: es) (rdA c F W ρ ms))
    (ht : eval (.Call fe (e :: es) [] pos) X.env = (do callWith pos (← eval fe X.env) [] (backTo pos (starEach (e :: es) X.env)) (backToKw pos (keywordEach [] X.env))) := by rfl)
    (he : starEach (e :: es) X.env = (false, eval e X.env) :: starEach es X.env := by rfl) (hpl : (backTo pos (starEach es X.env)).any (·.1) = false := by rfl) :
    PE X (.Call fe (e :: es) [] pos) (rdE c F W ρ (mo >>= fun d => insP cn d >>= fun _ => ms >>= fun as => mf (.v d :: as))) := by
  refine ⟨fun pins s σ H Q I ⟨P, G, R, q⟩ => ?_⟩
  have so := ho.run pins s σ H (fun x H1 => ∃ P1 G1 fs, Ext G G1 ∧ Rel c F ρ P1 σ H1 G1 ∧ c.rep G1 x (.ins cn fs) ∧ out (ms >>= fun as => mf (.v (.ins cn fs) :: as)) P1 (fun d P' => ∀ v H' G', Ext G1 G' → Rel c F ρ P' σ H' G' → c.rep G' v d → Q v H') (exW c F W P1 G1 σ)) I
    ⟨P, G, R, out_mono (out_bind.mp q) (fun d P1 q1 v H1 G1 e1 R1 r1 => by
      obtain ⟨fs, rfl, q2⟩ := insP_out (out_bind.mp q1)
      exact ⟨P1, G1, fs, e1, R1, r1, out_mono q2 (fun d P2 q2 v H2 G2 e2 R2 r2 => q2 v H2 G2 (e1.trans e2) R2 r2) fun _ _ z => exW_le e1 z⟩) fun _ _ z => z⟩
  refine Call_ (thn so fun u s1 ⟨x, H1, I1, rx, P1, G1, fs, e1, R1, r1, q1⟩ => ?_) ht
  cases r1 with
  | ins hg hC hk hr =>
    rename_i a C dx fvs
    obtain rfl : u = Value.ref a := rx
    obtain ⟨c1, c2⟩ := hM.at_.get hC
    have c2' : Meth X.K C "__call__" f := by rw [Cc.K]; exact c2
    have hfi' : PySem.W.fnIn X.K f = true := by rw [Cc.K]; exact hfi
    have sa := ha.run pos pins s1 σ H1 (fun vs H2 => ∃ P2 G2 as, Ext G1 G2 ∧ Rel c F ρ P2 σ H2 G2 ∧ ArsOk c F G2 vs as ∧ out (mf (.v (.ins cn fs) :: as)) P2 (fun d P' => ∀ v H' G', Ext G2 G' → Rel c F ρ P' σ H' G' → c.rep G' v d → Q v H') (exW c F W P2 G2 σ)) I1
      ⟨P1, G1, R1, out_mono (out_bind.mp q1) (fun as P2 q2 vs H2 G2 e2 R2 r2 => ⟨P2, G2, as, e2, R2, r2, out_mono q2 (fun d P3 q3 v H3 G3 e3 R3 r3 => q3 v H3 G3 (e2.trans e3) R3 r3) fun _ _ z => exW_le e2 z⟩) fun _ _ z => z⟩
    refine StX.callO_with (thn sa fun us s2 ⟨vs, H2, I2, rv, P2, G2, as, e2, R2, r2, q2⟩ => ?_) he hpl
    have r3 : c.rep G2 (.ref a) (.ins cn fs) := (Rep.ins hg hC hk hr : c.rep G1 (.ref a) (.ins cn fs)).mono e2
    have ea := R2.post.le _ _ (e2 _ _ hg)
    obtain ⟨mA, O, _⟩ := ins_get I2.hok ea
    obtain ⟨od, J, _⟩ := O.look
    refine ⟨⟨C, _, _, J, rfl⟩, ?_⟩
    have rr : ArsOk c F G2 (.ref a :: vs) (.v (.ins cn fs) :: as) := ⟨r3, r2⟩
    have rv2 : Vals (.ref a :: vs) (.ref a :: us) := .cons rfl rv
    have sp := sp_of (W := W) R2 rr q2
    have hl : (Value.ref a :: us).length = ps.length := rv2.length.symm.trans (hM.fn.ln _ _ _ _ sp)
    have b := hM.bi s2 (Value.ref a :: us) (by rw [← Cc.K]; exact I2.kIn) (by simpa using hl)
    rw [List.append_nil] at b
    refine wpAny_call (PySem.W.kco_code I2.kIn J rfl c2'.at_ c2'.fn hfi' (codeAny_mono (hM.fn.go X.A X.stack s2 H2 (.ref a :: us) _ ⟨.ref a :: us, []⟩ Q (WE W σ) Cc.ga (Cc.rm.mono hj) I2.env0 b rv2 sp) fun res s3 z => ?_))
    match res, z with
    | .error e, z => exact passAt tk σ pins H2 s2 e s3 I2 z
    | .ok (.ret u), z => exact I2.after z
    | .ok .next, z => exact z.elim
    | .ok .brk, z => exact z.elim
    | .ok .cont, z => exact z.elim
/-! ### C.m(e, ..), a classmethod -/
theorem de_cm {j : Nat} {cn m : Str} {f : Addr} {fd : FuncData} {mf : List Ar → M D} {ms : M (List Ar)} {p apos pos : Pos} {x : Str} {e : Expr} {es : List Expr} {ps : List Str} {pl : Sem Bool} (Cc : Ctx c X k) (hj : j ≤ k) (tk : Takes X W)
    (hC : AtC c cn fun C => ∃ mc p0, ClX.CRead c.K C mc ∧ ClX.CMet c.K C mc m p0 f) (fn : FnG X.prog X.w X.K X.mg X.base j f fd ps (spD c mf)) (hb : Binds c.K fd ps []) (hx : x = cn) (hg : Gl X x) (ha : PA X (e :: es) (rdA c F W ρ ms)) (hdb : (x == ("__debug__" : Str)) = false := by decide)
    (hst : starEach (e :: es) X.env = (false, eval e X.env) :: starEach es X.env := by rfl) (hpl : (backTo pos (starEach es X.env)).any (·.1) = false := by rfl)
    (ht : eval (.Call (.Attribute (.Name x p) m apos) (e :: es) [] pos) X.env = (do
      let ov ← eval (.Name x p) X.env
      standAt apos.atName
      let (f, first) ← holding [ov] (getMethod ov m pl)
      callWith pos f first (backTo pos (starEach (e :: es) X.env)) (backToKw pos (keywordEach [] X.env))) := by rfl) :
    PE X (.Call (.Attribute (.Name x p) m apos) (e :: es) [] pos) (rdE c F W ρ (ms >>= fun as => mf (.v (.cls cn) :: as))) := by
  subst hx
  obtain ⟨C, hm0, mc, p0, r, k0⟩ := hC
  have hmy : X.mg x = some (.ref C) := by rw [Cc.mg]; exact hm0
  rw [← Cc.K] at r k0
  refine ⟨fun pins s σ H Q I ⟨P, G, R, q⟩ => ?_⟩
  have so := (pe_glob (pos := p) hg hmy (v := .ref C) rfl hdb).run pins s σ H (fun v H1 => v = .ref C ∧ H1 = H) I ⟨rfl, rfl⟩
  refine PySem.W.methodCall_KW (pl := pl) (thn so fun u s1 ⟨x1, H1, I1, rx, ex, eH⟩ => ?_) ht
  subst ex eH
  obtain rfl : u = Value.ref C := rx
  refine ClX.getmethcm_ok I1 r k0 fun s2 I2 => ?_
  have sa := ha.run pos _ s2 σ _ (fun vs H2 => ∃ P2 G2 as, Ext G G2 ∧ Rel c F ρ P2 σ H2 G2 ∧ ArsOk c F G2 vs as ∧ out (mf (.v (.cls x) :: as)) P2 (fun d P' => ∀ v H' G', Ext G2 G' → Rel c F ρ P' σ H' G' → c.rep G' v d → Q v H') (exW c F W P2 G2 σ)) I2
    ⟨P, G, R, out_mono (out_bind.mp q) (fun as P2 q2 vs H2 G2 e2 R2 r2 => ⟨P2, G2, as, e2, R2, r2, out_mono q2 (fun d P3 q3 v H3 G3 e3 R3 r3 => q3 v H3 G3 (e2.trans e3) R3 r3) fun _ _ z => exW_le e2 z⟩) fun _ _ z => z⟩
  refine ClX.callwith_cm I2 (ClX.base_none I1 (Nat.le_refl _)) k0.fi (thn sa fun us s3 ⟨vs, H2, I3, rv, P2, G2, as, e2, R2, r2, q2⟩ => ⟨⟨ClX.pin_at I3, I3.kIn⟩, ?_⟩) hst hpl
  have rr : ArsOk c F G2 (.ref C :: vs) (.v (.cls x) :: as) := ⟨.cls hm0, r2⟩
  have rv2 : Vals (.ref C :: vs) (.ref C :: us) := .cons rfl rv
  have sp := sp_of (W := W) R2 rr q2
  have hl : (Value.ref C :: us).length = ps.length := rv2.length.symm.trans (fn.ln _ _ _ _ sp)
  have b := hb s3 (Value.ref C :: us) (by rw [← Cc.K]; exact I3.kIn) (by simpa using hl)
  rw [List.append_nil] at b
  have z : wpAny (model X.prog X.w) X.A (call (.ref s1.heap.objs.size) us) (EP X ((s1.heap.objs.size, PySem.W.methodObj (.ref f) (.ref C)) :: pins) σ Q) X.xe s3 := by
    refine wpAny_call (PySem.W.method_call (ClX.pin_at I3) (codeAny_mono (fn.go X.A X.stack s3 H2 (.ref C :: us) _ ⟨.ref C :: us, []⟩ Q (WE W σ) Cc.ga (Cc.rm.mono hj) I3.env0 b rv2 sp) fun res s4 z => ?_))
    match res, z with
    | .error e, z => exact passAt tk σ _ H2 s3 e s4 I3 z
    | .ok (.ret u), z => exact I3.after z
    | .ok .next, z => exact z.elim
    | .ok .brk, z => exact z.elim
    | .ok .cont, z => exact z.elim
  exact thn z fun _ _ y => ClX.unpinE y
/-! ### x(e, ..), x a local that holds a class -/
theorem de_makeL {i j : Nat} {f : Addr} {fd : FuncData} {cn : Str} {mf : List Ar → M (List (Str × D))} {ms : M (List Ar)} {x : Str} {p pos : Pos} {e : Expr} {es : List Expr} {ps : List Str} (hi : ρ[i]? = some (.v (.cls cn))) (Cc : Ctx c X k) (hj : j + 1 ≤ k) (tk : Takes X W)
    (hM : AtC c cn fun C => Mk c.K C f) (fn : FnG X.prog X.w X.K X.mg X.base j f fd ps (spI c cn mf)) (hx : PE X (.Name x p) (tVar i)) (hb : Binds c.K fd ps [])
    (ha : PA X (e :: es) (rdA c F W ρ ms)) (he : starEach (e :: es) X.env = (false, eval e X.env) :: starEach es X.env := by rfl) (hpl : (backTo pos (starEach es X.env)).any (·.1) = false := by rfl) :
    PE X (.Call (.Name x p) (e :: es) [] pos) (rdE c F W ρ (ms >>= fun as => mf as >>= fun fs => Pure.pure (.ins cn fs))) := by
  have hM0 := hM
  obtain ⟨C, hC, M0⟩ := hM0
  have M : Mk X.K C f := by rw [Cc.K]; exact M0
  have hb' : Binds X.K fd ps [] := by rw [Cc.K]; exact hb
  refine ⟨fun pins s σ H Q I ⟨P, G, R, q⟩ => ?_⟩
  have hl : i < σ.length := by rw [R.len]; exact (List.getElem?_eq_some_iff.mp hi).1
  obtain ⟨v0, ev, rv0⟩ := R.sl i _ _ hi (List.getElem?_eq_getElem hl)
  have ev : σ[i]? = some (some (V.ref C)) := by
    cases rv0 with
    | cls hc2 =>
      rw [hC] at hc2
      cases hc2
      rw [List.getElem?_eq_getElem hl, ev]
  refine wpAny_Call_Name_kw (thn (hx.run pins s σ H (fun v H1 => v = .ref C ∧ H1 = H) I ⟨.ref C, ev, rfl, rfl⟩) fun u s1 ⟨v, H1, I1, r1, q1⟩ => ?_)
  obtain ⟨rfl, rfl⟩ := q1
  cases r1
  have step := ha.run pos pins s1 σ _ (fun vs H1 => ∃ P1 G1 as, Ext G G1 ∧ Rel c F ρ P1 σ H1 G1 ∧ ArsOk c F G1 vs as ∧ out (mf as >>= fun fs => Pure.pure (D.ins cn fs)) P1 (fun d P' => ∀ v H' G', Ext G1 G' → Rel c F ρ P' σ H' G' → c.rep G' v d → Q v H') (exW c F W P1 G1 σ)) I1
    ⟨P, G, R, out_mono (out_bind.mp q) (fun as P1 q1 vs H1 G1 e1 R1 r1 => ⟨P1, G1, as, e1, R1, r1, out_mono q1 (fun d P2 q2 v H2 G2 e2 R2 r2 => q2 v H2 G2 (e1.trans e2) R2 r2) fun _ _ z => exW_le e1 z⟩) fun _ _ z => z⟩
  refine PySem.W.callWith_K (h₀ := X.base) I1.ok.mod.kin M.kp (thn step fun us s1 ⟨vs, H1, I1, rv, P1, G1, as, e1, R1, r1, q1⟩ => ⟨I1.kIn, ?_⟩) he hpl
  refine run_makeG M Cc.ga (Cc.rm.mono hj) tk fn hb' I1 rv fun a dx ha hd hne => ?_
  refine ⟨a, dx, C, H1, G1, F.ap, P1, as, vs, rfl, rfl, hC, ha, hd, hne, R1.post.refl', ArsOk.fr (F := F) (F' := ⟨G1, H1, F.ap⟩) rfl r1, out_mono (out_bind.mp q1) (fun fs P' z H' G' dx2 fvs po hat hk hr hg' => ⟨rfl, ?_⟩) fun e P' z cl dd H' G' po k' => z cl dd H' G' ρ po.ext (R1.after po) k'⟩
  have R2 := R1.after po
  obtain ⟨R3, e3⟩ := R2.freeze hat nt_ins (R1.post.h0 ha) (R1.ne_ap ha) (R1.own_at ha) hg'
  have z : ∀ v H' G', Ext G1 G' → Rel c F ρ P' σ H' G' → c.rep G' v (.ins cn fs) → Q v H' := z
  refine z (.ref a) H' _ (po.ext.trans e3) R3 (.ins upd_same hC hk fun i p q h1 h2 => ?_)
  have h1' : (fvs.map (·.2))[i]? = some p.2 := by rw [List.getElem?_map, h1]; rfl
  have h2' : (fs.map (·.2))[i]? = some q.2 := by rw [List.getElem?_map, h2]; rfl
  exact (hr.2 i _ _ h1' h2').mono e3
end
end DL

namespace DL
open PySem PySem.Spec PyProof.Rows L2
open PySem.W (dataLe)
section
variable {c : Cn} {X : Cx} {F : Fr} {W : WX} {ρ : List Sl} {k : Nat}
/-! ### sorted(x) of data -/
def pyLe (x y : D) : Bool := match toPy x, toPy y with
  | some p, some q => dataLe false (fun p : PyData => p) p q
  | _, _ => false
open Classical in
noncomputable def sortD : D → M D
  | .lst ds => match toPys ds with
    | some ps => if SX.SortOk ps ∧ ds.length ≤ sizeLine then Pure.pure (.lst (ds.mergeSort pyLe)) else M.no
    | none => M.no
  | _ => M.no
theorem toPys_get : ∀ {ds : List D} {ps : List PyData}, toPys ds = some ps → ds.length = ps.length ∧ ∀ t ∈ ds.zip ps, toPy t.1 = some t.2
  | [], ps, h => by
    simp [toPys] at h; subst h; exact ⟨rfl, fun t ht => by simp at ht⟩
  | d :: ds, ps, h => by
    unfold toPys at h
    cases h1 : toPy d with
    | none => rw [h1] at h; simp at h
    | some p =>
      cases h2 : toPys ds with
      | none => rw [h1, h2] at h; simp at h
      | some qs =>
        rw [h1, h2] at h
        cases h
        obtain ⟨e1, e2⟩ := toPys_get h2
        refine ⟨by simp [e1], fun t ht => ?_⟩
        rcases List.mem_cons.mp ht with z | z
        · subst z; exact h1
        · exact e2 t z
theorem reps_mem {G : Hp} {T : List (V × D)} (h : ∀ t ∈ T, c.rep G t.1 t.2) : c.reps G (T.map (·.1)) (T.map (·.2)) := by
  induction T with
  | nil => exact Reps.nil
  | cons t T ih => exact Reps.cons (h t List.mem_cons_self) (ih fun u hu => h u (List.mem_cons_of_mem _ hu))
theorem mem_reps {G : Hp} : ∀ {vs : List V} {ds : List D}, c.reps G vs ds → ∀ t ∈ vs.zip ds, c.rep G t.1 t.2
  | [], _, _, t, ht => by simp at ht
  | _ :: _, [], _, t, ht => by simp at ht
  | v :: vs, d :: ds, h, t, ht => by
    rcases List.mem_cons.mp ht with z | z
    · subst z; exact h.head
    · exact mem_reps h.tail t z
theorem zip3_a {α β γ : Type} : ∀ (vs : List α) (ds : List β) (ps : List γ), vs.length = ds.length → ds.length = ps.length → (vs.zip (ds.zip ps)).map (fun t => (t.1, t.2.2)) = vs.zip ps
  | [], _, _, _, _ => by simp
  | _ :: _, [], _, h, _ => by simp at h
  | _ :: _, _ :: _, [], _, h => by simp at h
  | v :: vs, d :: ds, p :: ps, h, k => by
    simp only [List.zip_cons_cons, List.map_cons]
    rw [zip3_a vs ds ps (by simpa using h) (by simpa using k)]
theorem zip3_b {α β γ : Type} : ∀ (vs : List α) (ds : List β) (ps : List γ), vs.length = ds.length → ds.length = ps.length → (vs.zip (ds.zip ps)).map (fun t => t.2.1) = ds
  | [], [], _, _, _ => by simp
  | [], _ :: _, _, h, _ => by simp at h
  | _ :: _, [], _, h, _ => by simp at h
  | _ :: _, _ :: _, [], _, h => by simp at h
  | v :: vs, d :: ds, p :: ps, h, k => by
    simp only [List.zip_cons_cons, List.map_cons]
    rw [zip3_b vs ds ps (by simpa using h) (by simpa using k)]
theorem sort_reps {G : Hp} {vs : List V} {ds : List D} {ps : List PyData} (r : c.reps G vs ds) (h : toPys ds = some ps) : c.reps G (((vs.zip ps).mergeSort (dataLe false (·.2))).map (·.1)) (ds.mergeSort pyLe) := by
  obtain ⟨e1, e2⟩ := toPys_get h
  have l1 := r.1
  let T : List (V × D × PyData) := vs.zip (ds.zip ps)
  have hT : ∀ t ∈ T, c.rep G t.1 t.2.1 ∧ toPy t.2.1 = some t.2.2 := fun t ht => by
    obtain ⟨i, hi, e⟩ := List.getElem_of_mem ht
    have e : (vs.zip (ds.zip ps))[i]'hi = t := e
    rw [List.getElem_zip, List.getElem_zip] at e
    have hi1 : i < vs.length := by simp [T] at hi; omega
    have hi2 : i < ds.length := by omega
    have hi3 : i < ps.length := by omega
    subst e
    refine ⟨r.2 i _ _ (List.getElem?_eq_getElem hi1) (List.getElem?_eq_getElem hi2), ?_⟩
    refine e2 (ds[i], ps[i]) ?_
    have : (ds.zip ps)[i]'(by simp; omega) = (ds[i], ps[i]) := List.getElem_zip
    rw [← this]
    exact List.getElem_mem _
  have m1 : T.map (fun t => (t.1, t.2.2)) = vs.zip ps := zip3_a vs ds ps (by omega) (by omega)
  have m2 : T.map (fun t => t.2.1) = ds := zip3_b vs ds ps (by omega) (by omega)
  have s1 := List.map_mergeSort (r := fun a b : V × D × PyData => dataLe false (fun b : V × PyData => b.2) (a.1, a.2.2) (b.1, b.2.2)) (s := dataLe false (fun b : V × PyData => b.2)) (f := fun t => (t.1, t.2.2)) (l := T) (fun a _ b _ => rfl)
  have s2 := List.map_mergeSort (r := fun a b : V × D × PyData => dataLe false (fun b : V × PyData => b.2) (a.1, a.2.2) (b.1, b.2.2)) (s := pyLe) (f := fun t => t.2.1) (l := T) (fun a ha b hb => by
    unfold pyLe
    rw [(hT a ha).2, (hT b hb).2]
    rfl)
  rw [m1] at s1
  rw [m2] at s2
  rw [← s1, ← s2, List.map_map]
  have := reps_mem (c := c) (G := G) (T := (T.mergeSort fun a b => dataLe false (fun b : V × PyData => b.2) (a.1, a.2.2) (b.1, b.2.2)).map fun t => (t.1, t.2.1)) (fun t ht => by
    obtain ⟨u, hu, rfl⟩ := List.mem_map.mp ht
    exact (hT u (List.mem_mergeSort.mp hu)).1)
  rw [List.map_map, List.map_map] at this
  exact this
open Classical in
theorem cd_sortD : CallD c (SX.rSortD c.K) (f1 sortD) := by
  intro F ρ W P σ H G vs ds Q R rs q
  match ds, q with
  | [d], q =>
    obtain ⟨v, rfl, rv⟩ := rs.one
    cases d with
    | lst xs =>
      have q : out (match toPys xs with
        | some ps => if SX.SortOk ps ∧ xs.length ≤ sizeLine then Pure.pure (D.lst (xs.mergeSort pyLe)) else M.no
        | none => M.no) P _ _ := q
      cases hp : toPys xs with
      | none => rw [hp] at q; exact q.elim
      | some ps =>
        rw [hp] at q
        by_cases z : SX.SortOk ps ∧ xs.length ≤ sizeLine
        · have q : out (if SX.SortOk ps ∧ xs.length ≤ sizeLine then Pure.pure (D.lst (xs.mergeSort pyLe)) else M.no) P _ _ := q
          rw [if_pos z] at q
          cases rv with
          | lst ha hl hr =>
            refine ⟨_, _, ps, rfl, SqL.of (R.post.le _ _ ha), dps_of R.post.le xs _ ps ⟨hl, hr⟩ hp, hl.trans (toPys_get hp).1, by rw [hl]; exact z.2, z.1, fun p hpn => ?_⟩
            exact new_lst R hpn (sort_reps ⟨hl, hr⟩ hp) q
        · have q : out (if SX.SortOk ps ∧ xs.length ≤ sizeLine then Pure.pure (D.lst (xs.mergeSort pyLe)) else M.no) P _ _ := q
          rw [if_neg z] at q; exact q.elim
    | _ => exact q.elim
  | [], q => exact q.elim
  | _ :: _ :: _, q => exact q.elim
end
end DL

namespace DL
open PySem PySem.Spec PyProof.Rows L2
section
variable {c : Cn} {X : Cx} {F : Fr} {W : WX} {ρ : List Sl} {k : Nat}
/-! ### sum, list of a dict -/
def nums : List D → Option (List Int)
  | [] => some []
  | .int b :: ds => (nums ds).map (b :: ·)
  | _ => none
theorem nums_of {G : Hp} : ∀ {vs : List V} {ds : List D} {bs : List Int}, c.reps G vs ds → nums ds = some bs → vs = bs.map V.int
  | vs, [], bs, r, h => by cases h; rw [r.nil_of']; rfl
  | [], _ :: _, _, r, _ => by have := r.1; simp at this
  | v :: vs, d :: ds, bs, r, h => by
    cases d with
    | int b =>
      simp only [nums, Option.map_eq_some_iff] at h
      obtain ⟨bs', h, rfl⟩ := h
      rw [nums_of r.tail h, r.head.int_of]; rfl
    | _ => simp [nums] at h
def sumD : D → M D
  | .lst ds => M.some ((nums ds).map fun ns => .int ns.sum)
  | _ => M.no
theorem cd_sum : CallD c (rSum c.K) (f1 sumD) := by
  intro F ρ W P σ H G vs ds Q R rs q
  match ds, q with
  | [d], q =>
    obtain ⟨v, rfl, rv⟩ := rs.one
    cases d with
    | lst xs =>
      obtain ⟨d, h, q⟩ := out_some.mp (show out (M.some ((nums xs).map fun ns => D.int ns.sum)) P _ _ from q)
      obtain ⟨ns, hns, rfl⟩ := Option.map_eq_some_iff.mp h
      cases rv with
      | lst ha hl hr =>
        have e := nums_of ⟨hl, hr⟩ hns
        subst e
        exact ⟨_, ns, rfl, SqL.of (R.post.le _ _ ha), q _ H G (Ext.refl _) R (.int _)⟩
    | _ => exact q.elim
  | [], q => exact q.elim
  | _ :: _ :: _, q => exact q.elim
def isKey : D → Bool
  | .int _ => true
  | .str _ => true
  | _ => false
/-- list(x), x a sequence or a dict with plain keys -/
def listE : D → M D
  | .dic kvs => if (kvs.all fun p => isKey p.1) = true then Pure.pure (.lst (kvs.map (·.1))) else M.no
  | d => listD d
theorem rep_keyV {G : Hp} (k : Key) : c.rep G (kV k) (keyD k) := by
  cases k with
  | inl i => exact .int i
  | inr x => exact .str x
theorem reps_keys {G : Hp} : ∀ (ks : List Key), c.reps G (ks.map kV) (ks.map keyD)
  | [] => Reps.nil
  | k :: ks => Reps.cons (rep_keyV k) (reps_keys ks)
def rListE (K : PySem.W.Frag) : V → Hp → VK → Prop := fun v H Q => rListOf K v H Q ∨ (∃ p kvs, v = .ref p ∧ H p = some (.dK kvs) ∧ ∀ q, H q = none → Q (.ref q) (upd H q (.lst (kvs.map fun kv => kV kv.1)))) ∨ ∃ d, v = .ref d ∧ Rd H d (.dT []) ∧ ∀ q, H q = none → Q (.ref q) (upd H q (.lst []))
theorem cr_listE (hc : X.calm = true) : CallR X (.type "list") (fun xs H Q => ∃ v, xs = [v] ∧ rListE X.K v H Q) := CallR.by (CallR.or cr_list (CallR.or (call_list_dK hc) (call_list_dT hc))) fun xs H Q ⟨v, e, h⟩ => by
  rcases h with h | ⟨p, kvs, e2, h, q⟩ | ⟨d, e2, h, q⟩
  · exact .inl ⟨v, e, h⟩
  · exact .inr (.inl ⟨p, kvs, by rw [e, e2], h, q⟩)
  · refine .inr (.inr ⟨d, [], by rw [e, e2], h, fun p bs hp hk => ?_⟩)
    have : bs = [] := by
      cases bs with
      | nil => rfl
      | cons b bs => exact absurd hk (by intro z; cases z)
    subst this
    exact q p hp
theorem cd_listE : CallD c (fun xs H Q => ∃ v, xs = [v] ∧ rListE c.K v H Q) (f1 listE) := by
  intro F ρ W P σ H G vs ds Q R rs q
  have base : ∀ d, f1 listE [d] = f1 listD [d] → ds = [d] → ∃ v, vs = [v] ∧ rListE c.K v H Q := fun d e hd => by
    subst hd
    rw [e] at q
    obtain ⟨v, e2, h⟩ := cd_list F ρ W P σ H G vs [d] Q R rs q
    exact ⟨v, e2, .inl h⟩
  match ds, q with
  | [d], q =>
    cases d with
    | dic kvs =>
      obtain ⟨v, rfl, rv⟩ := rs.one
      have q2 : out (if (kvs.all fun p => isKey p.1) = true then Pure.pure (D.lst (kvs.map (·.1))) else M.no) P _ _ := q
      by_cases z : (kvs.all fun p => isKey p.1) = true
      · rw [if_pos z] at q2
        cases rv with
        | dicK ha hk hr =>
          rename_i a vs'
          refine ⟨_, rfl, .inr (.inl ⟨a, vs', rfl, R.post.le _ _ ha, fun l hl => new_lst R hl ?_ q2⟩)⟩
          have e : kvs.map (·.1) = (vs'.map (·.1)).map keyD := by rw [List.map_map, ← hk]; rfl
          have e2 : (vs'.map fun kv => kV kv.1) = (vs'.map (·.1)).map kV := by rw [List.map_map]; rfl
          rw [e, e2]
          exact reps_keys _
        | dicT ha hk hr =>
          rename_i a vs'
          cases kvs with
          | nil =>
            cases vs' with
            | nil => exact ⟨_, rfl, .inr (.inr ⟨a, rfl, .inl (R.post.le _ _ ha), fun l hl => new_lst R hl Reps.nil q2⟩)⟩
            | cons _ _ => simp at hk
          | cons p r =>
            exfalso
            cases vs' with
            | nil => simp at hk
            | cons p' r' =>
              simp only [List.map_cons, List.cons.injEq] at hk
              simp only [List.all_cons, Bool.and_eq_true] at z
              rw [← hk.1] at z
              simp [isKey] at z
      · rw [if_neg z] at q2; exact q2.elim
    | _ => exact base _ rfl rfl
  | [], q => exact q.elim
  | _ :: _ :: _, q => exact q.elim
end
end DL

namespace DL
open PySem PySem.Spec PyProof.Rows L2
section
variable {c : Cn} {X : Cx} {F : Fr} {W : WX} {ρ : List Sl} {k : Nat}
/-! ### f-strings of texts -/
def jsM : List (M D) → Str → M Str
  | [], acc => Pure.pure acc
  | m :: ms, acc => m >>= fun d => match d with
    | .str y => if (acc ++ y).length ≤ sizeLine then jsM ms (acc ++ y) else M.no
    | _ => M.no
inductive PJD (c : Cn) (F : Fr) (W : WX) (ρ : List Sl) (X : Cx) : List Expr → List (M D) → Prop where
  | nil : PJD c F W ρ X [] []
  | cons {e : Expr} {m : M D} {es : List Expr} {ms : List (M D)} (h : PE X e (rdE c F W ρ m)) (r : PJD c F W ρ X es ms) : PJD c F W ρ X (e :: es) (m :: ms)
theorem PJD.pj {es : List Expr} {ms : List (M D)} (h : PJD c F W ρ X es ms) : PJ X es (ms.map fun m => rdE c F W ρ m) := by
  induction h with
  | nil => exact .nil
  | cons h _ ih => exact .cons h ih
theorem js_rd : ∀ {ms : List (M D)} {acc : Str} {P : Pot} {σ : L2.St} {H G : Hp} {Q : Str → Hp → Prop}, Rel c F ρ P σ H G →
    out (jsM ms acc) P (fun y P' => ∀ H' G', Ext G G' → Rel c F ρ P' σ H' G' → Q y H') (exW c F W P G σ) → tJs (ms.map fun m => rdE c F W ρ m) acc σ H Q
  | [], acc, P, σ, H, G, Q, R, q => q H G (Ext.refl _) R
  | m :: ms, acc, P, σ, H, G, Q, R, q => by
    refine ⟨P, G, R, out_mono (out_bind.mp q) (fun d P1 q1 v H1 G1 e1 R1 r1 => ?_) fun _ _ z => z⟩
    cases d with
    | str y =>
      have q2 : out (if (acc ++ y).length ≤ sizeLine then jsM ms (acc ++ y) else M.no) P1 _ _ := q1
      by_cases z : (acc ++ y).length ≤ sizeLine
      · rw [if_pos z] at q2
        exact ⟨y, r1.str_of, z, js_rd R1 (out_mono q2 (fun y P3 q3 H3 G3 e3 R3 => q3 H3 G3 (e1.trans e3) R3) fun _ _ z => exW_le e1 z)⟩
      · rw [if_neg z] at q2; exact q2.elim
    | _ => exact q1.elim
theorem de_js {v1 v2 : Expr} {rest : List Expr} {ms : List (M D)} {pos : Pos} (h : PJD c F W ρ X (v1 :: v2 :: rest) ms) : PE X (.JoinedStr (v1 :: v2 :: rest) pos) (rdE c F W ρ (jsM ms ⟨#[]⟩ >>= fun y => Pure.pure (.str y))) :=
  pe_by (pe_joined h.pj) fun σ H Q ⟨P, G, R, q⟩ => js_rd (W := W) R (out_mono (out_bind.mp q) (fun y P1 q1 H1 G1 e1 R1 => q1 _ H1 G1 e1 R1 (.str y)) fun _ _ z => z)
/-- {e}, a text -/
def fmtD : D → M D
  | .str y => if y.length ≤ sizeLine then Pure.pure (.str y) else M.no
  | .int i => if i.natAbs.log2 < 1920 then Pure.pure (.str (toString i)) else M.no
  | _ => M.no
theorem de_fmt {e : Expr} {m : M D} {pos : Pos} (he : PE X e (rdE c F W ρ m)) : PE X (.FormattedValue e (-1) none pos) (rdE c F W ρ (m >>= fmtD)) :=
  pe_by (pe_fmt he) fun σ H Q ⟨P, G, R, q⟩ => by
    refine ⟨P, G, R, out_mono (out_bind.mp q) (fun d P1 q1 v H1 G1 e1 R1 r1 => ?_) fun _ _ z => z⟩
    cases d with
    | str y =>
      have q2 : out (if y.length ≤ sizeLine then Pure.pure (D.str y) else M.no) P1 _ _ := q1
      by_cases z : y.length ≤ sizeLine
      · rw [if_pos z] at q2
        exact .inl ⟨y, r1.str_of, z, q2 _ H1 G1 e1 R1 (.str y)⟩
      · rw [if_neg z] at q2; exact q2.elim
    | int y =>
      have q2 : out (if y.natAbs.log2 < 1920 then Pure.pure (D.str (toString y)) else M.no) P1 _ _ := q1
      by_cases z : y.natAbs.log2 < 1920
      · rw [if_pos z] at q2
        exact .inr ⟨y, r1.int_of, z, q2 _ H1 G1 e1 R1 (.str _)⟩
      · rw [if_neg z] at q2; exact q2.elim
    | _ => exact q1.elim
/-! ### constants of the module: tuples, dicts of ints -/
/-- the global x is always this value -/
def KVal (c : Cn) (x : Str) (d : D) : Prop := ∃ v u, c.mg x = some u ∧ RelV v u ∧ ∀ G, c.rep G v d
theorem de_globK {x : Str} {d : D} {pos : Pos} (Cc : Ctx c X k) (hg : Gl X x) (h : KVal c x d) (hx : (x == ("__debug__" : Str)) = false := by decide) : PE X (.Name x pos) (rdE c F W ρ (Pure.pure d)) := by
  obtain ⟨v, u, hm, r, hd⟩ := h
  exact de_glob hg (by rw [Cc.mg]; exact hm) r hd hx
theorem kval_tup {x : Str} {a : Addr} {o : Obj} {its : List Value} {n : Nat} {vs : List V} {ds : List D} (hm : c.mg x = some (.ref a)) (ho : c.K.lookup a = some o) (hc : o.cls = .type "tuple") (hd : o.data = .seq its.toArray n) (hl : its.length ≤ sizeLine) (hv : Vals vs its) (hr : ∀ G, c.reps G vs ds) : KVal c x (.tup ds) :=
  ⟨.ref a, .ref a, hm, rfl, fun G => .tup (.inr ⟨o, its.toArray, n, ho, hc, hd, by simpa using hl, by simpa using hv⟩) (hr G).1 (hr G).2⟩
theorem kval_txs {x : Str} {a : Addr} {o : Obj} {its : List Value} {n : Nat} {ys : List Str} (hm : c.mg x = some (.ref a)) (ho : c.K.lookup a = some o) (hc : o.cls = .type "tuple") (hd : o.data = .seq its.toArray n) (hl : its.length ≤ sizeLine) (hv : Vals (ys.map V.str) its) : KVal c x (.tup (ys.map .str)) :=
  kval_tup hm ho hc hd hl hv fun G => reps_strs ys
/-- at the keys of tab, the module's dict x has just these ints -/
def KTab (c : Cn) (w : World) (x : Str) (tab : List (Str × Option Int)) : Prop := ∃ d, c.mg x = some (.ref d) ∧ (∃ es n, KDict c.K w d es n) ∧ ∀ p ∈ tab, match p.2 with
  | some i => ∃ t, PySem.W.nsIn c.K d p.1 = some (some (.int i t))
  | none => PySem.W.nsIn c.K d p.1 = some none
def kgetD (tab : List (Str × Option Int)) : D → D → M D
  | .str z, dflt => match tab.lookup z with
    | some (some i) => Pure.pure (.int i)
    | some none => Pure.pure dflt
    | none => M.no
  | _, _ => M.no
theorem lookup_mem {β : Type} {z : Str} {v : β} : ∀ {tab : List (Str × β)}, tab.lookup z = some v → (z, v) ∈ tab
  | [], h => by simp at h
  | p :: r, h => by
    obtain ⟨a, b⟩ := p
    rw [List.lookup_cons] at h
    split at h
    · rename_i e
      have e := beq_iff_eq.mp e
      cases h
      subst e
      exact List.mem_cons_self
    · exact List.mem_cons_of_mem _ (lookup_mem h)
theorem de_kget {x : Str} {w : World} {tab : List (Str × Option Int)} {e f : Expr} {p apos cpos : Pos} {me mf : M D} (Cc : Ctx c X k) (hw : X.w = w) (h : KTab c w x tab) (hg : Gl X x) (he : PE X e (rdE c F W ρ me)) (hf : PE X f (rdE c F W ρ mf)) (m : M2 X (.Name x p) "get" apos e f cpos) (hdb : (x == ("__debug__" : Str)) = false := by decide) :
    PE X (.Call (.Attribute (.Name x p) "get" apos) [e, f] [] cpos) (rdE c F W ρ (me >>= fun y => mf >>= fun z => kgetD tab y z)) := by
  subst hw
  obtain ⟨d, hm, ⟨es, n, kd⟩, ht⟩ := h
  have hm' : X.mg x = some (.ref d) := by rw [Cc.mg]; exact hm
  have kd' : KDict X.K X.w d es n := by rw [Cc.K]; exact kd
  refine ⟨fun pins s σ H Q I ⟨P, G, R, q⟩ => ?_⟩
  have so := (pe_glob (pos := p) hg hm' (v := .ref d) rfl hdb).run pins s σ H (fun v H1 => v = .ref d ∧ H1 = H) I ⟨rfl, rfl⟩
  refine wpAny_Call_method m.base m.few m.line PySem.F.plainAttrs_dict PySem.F.slot_dict_get PySem.F.type_dict_get (thn so fun u s1 ⟨x1, H1, I1, rx, ex, eH⟩ => ?_)
  subst ex eH
  obtain rfl : u = Value.ref d := rx
  have mo := PySem.W.mapOf_K (prog := X.prog) (w := X.w) I1.kIn kd'.at_ kd'.lit
  refine ⟨mo.typeIs, fun b q => ?_, ?_⟩
  · cases q
    exact ⟨_, I1.kIn _ _ kd'.at_, rfl⟩
  rw [m.trees]
  have se := he.run pins s1 σ _ (fun y H2 => ∃ P2 G2 dy, Ext G G2 ∧ Rel c F ρ P2 σ H2 G2 ∧ c.rep G2 y dy ∧ out (mf >>= fun z => kgetD tab dy z) P2 (fun d P' => ∀ v H' G', Ext G2 G' → Rel c F ρ P' σ H' G' → c.rep G' v d → Q v H') (exW c F W P2 G2 σ)) I1
    ⟨P, G, R, out_mono (out_bind.mp q) (fun dy P2 q2 v H2 G2 e2 R2 r2 => ⟨P2, G2, dy, e2, R2, r2, out_mono q2 (fun d P3 q3 v H3 G3 e3 R3 r3 => q3 v H3 G3 (e2.trans e3) R3 r3) fun _ _ z => exW_le e2 z⟩) fun _ _ z => z⟩
  refine Calls.callWith_builtin rfl (Calls.evalArgs_plain (Calls.spliced_cons (thn se fun iv s2 ⟨y, H2, I2, ry, P2, G2, dy, e2, R2, r2, q2⟩ => ?_)))
  have sf := hf.run pins s2 σ _ (fun z H3 => ∃ P3 G3 dz, Ext G2 G3 ∧ Rel c F ρ P3 σ H3 G3 ∧ c.rep G3 z dz ∧ out (kgetD tab dy dz) P3 (fun d P' => ∀ v H' G', Ext G3 G' → Rel c F ρ P' σ H' G' → c.rep G' v d → Q v H') (exW c F W P3 G3 σ)) I2
    ⟨P2, G2, R2, out_mono (out_bind.mp q2) (fun dz P3 q3 v H3 G3 e3 R3 r3 => ⟨P3, G3, dz, e3, R3, r3, out_mono q3 (fun d P4 q4 v H4 G4 e4 R4 r4 => q4 v H4 G4 (e3.trans e4) R4 r4) fun _ _ z => exW_le e3 z⟩) fun _ _ z => z⟩
  refine Calls.spliced_cons (thn sf fun fv s3 ⟨z, H3, I3, rz, P3, G3, dz, e3, R3, r3, q3⟩ => Calls.spliced_nil ?_)
  cases dy with
  | str x0 =>
    obtain rfl := r2.str_of
    obtain ⟨t, rfl⟩ := (show ∃ t, iv = Value.str x0 t from ry)
    have mo3 := PySem.W.mapOf_K (prog := X.prog) (w := X.w) I3.kIn kd'.at_ kd'.lit
    have q3 : out (match tab.lookup x0 with
      | some (some i) => Pure.pure (D.int i)
      | some none => Pure.pure dz
      | none => M.no) P3 _ _ := q3
    cases hl : tab.lookup x0 with
    | none => rw [hl] at q3; exact q3.elim
    | some o =>
      rw [hl] at q3
      have hin := ht _ (lookup_mem hl)
      refine call_meetsIn PySem.F.slot_dict_get mo3.typeIs PySem.F.entry_dict_get (PySem.F.args_dict_get_3 _ _ _) (meets_dict_get_default (strKind X.prog X.w) d (PySem.strKind_is X.prog X.w x0 t) kd'.low fv) ⟨_, mo3, ?_⟩
      cases o with
      | some i =>
        obtain ⟨t2, hin⟩ := (show ∃ t, PySem.W.nsIn c.K d x0 = some (some (.int i t)) from hin)
        rw [← Cc.K] at hin
        rw [PySem.W.find_K kd'.at_ hin]
        exact ⟨.int i, H3, I3.tok _, ⟨_, rfl⟩, (show ∀ v H' G', Ext G3 G' → Rel c F ρ P3 σ H' G' → c.rep G' v (.int i) → Q v H' from q3) _ H3 G3 (Ext.refl _) R3 (.int i)⟩
      | none =>
        have hin : PySem.W.nsIn c.K d x0 = some none := hin
        rw [← Cc.K] at hin
        rw [PySem.W.find_K kd'.at_ hin]
        exact ⟨z, H3, I3.tok _, rz, (show ∀ v H' G', Ext G3 G' → Rel c F ρ P3 σ H' G' → c.rep G' v dz → Q v H' from q3) _ H3 G3 (Ext.refl _) R3 r3⟩
  | _ => exact q3.elim
/-! ### sorted(set(x)), x a text or a list of texts -/
def sortSetX : D → M D
  | .lst ds => match txs ds with
    | some ys => if ys.length < 4000 then Pure.pure (.lst ((SX.srtS ys).map .str)) else M.no
    | none => M.no
  | _ => M.no
theorem de_sortSetX {x y : Str} {p p2 pos q2 : Pos} {a : Expr} {ms : M (List Ar)} (hK : X.K = c.K) (hc : X.calm = true) (hu : X.A.units + 64 < cLine) (hg : Gl X x) (hm : X.mg x = none) (hv : bootBuiltins x = some (.builtin "sorted")) (hg2 : Gl X y) (hm2 : X.mg y = none) (hv2 : bootBuiltins y = some (.type "set")) (ha : PA X [a] (rdA c F W ρ ms))
    (hn : x ≠ "__name__" := by decide) (hdb : (x == ("__debug__" : Str)) = false := by decide) (hn2 : y ≠ "__name__" := by decide) (hdb2 : (y == ("__debug__" : Str)) = false := by decide)
    (he : starEach [a] X.env = [(false, eval a X.env)] := by rfl) (he2 : starEach [Expr.Call (.Name y p2) [a] [] q2] X.env = [(false, eval (.Call (.Name y p2) [a] [] q2) X.env)] := by rfl) :
    PE X (.Call (.Name x p) [.Call (.Name y p2) [a] [] q2] [] pos) (rdE c F W ρ (ms >>= fun as => DL.vals as >>= f1 sortSetX)) := by
  refine pe_by (pe_callB (SX.cr_srtL hc hu) hg hm hv (pa_cons (pe_callTy (SX.cr_setL hc) hg2 hm2 hv2 ha hn2 hdb2 he rfl) pa_nil) hn hdb he2 rfl) fun σ H Q ⟨P, G, R, q⟩ => ?_
  refine ⟨P, G, R, out_mono (out_bind.mp q) (fun as P1 q1 vs H1 G1 e1 R1 r1 => ?_) fun _ _ z => z⟩
  obtain ⟨ds, rr, q2⟩ := r1.reps (out_bind.mp q1)
  match ds, q2 with
  | [d], q2 =>
    cases d with
    | lst ds =>
      obtain ⟨v, rfl, rv⟩ := rr.one
      have q3 : out (match txs ds with
        | some ys => if ys.length < 4000 then Pure.pure (D.lst ((SX.srtS ys).map .str)) else M.no
        | none => M.no) P1 _ _ := q2
      cases hx : txs ds with
      | none => rw [hx] at q3; exact q3.elim
      | some ys =>
        rw [hx] at q3
        have q3 : out (if ys.length < 4000 then Pure.pure (D.lst ((SX.srtS ys).map .str)) else M.no) P1 _ _ := q3
        by_cases hl : ys.length < 4000
        · rw [if_pos hl] at q3
          cases rv with
          | lst ha hln hr =>
            have e := txs_of ⟨hln, hr⟩ hx
            subst e
            refine ⟨_, ys, rfl, SqL.of (R1.post.le _ _ ha), hl, fun p n hp => ?_⟩
            obtain ⟨R2, e2⟩ := R1.new hp (o := SX.SetSO X.prog X.w p (SX.mm (ys.map Sum.inr)) n) nt_ext
            refine ⟨p, ys, n, rfl, hl, upd_same, fun l hpl => ?_⟩
            exact new_lst R2 hpl (reps_strs _) fun v' H' G' e3 R3 r3 => q3 v' H' G' ((e1.trans e2).trans e3) R3 r3
        · rw [if_neg hl] at q3; exact q3.elim
    | _ => exact q2.elim
  | [], q2 => exact q2.elim
  | _ :: _ :: _, q2 => exact q2.elim
/-! ### x, y, z = a, b, c -/
def three {α : Type} (k : D → D → D → M α) : List D → M α
  | [a, b, c] => k a b c
  | _ => M.no
theorem ds_par3 {i j l : Nat} {x y z : Str} {a b e : Expr} {px py pz pt : Pos} {kt k2 pt2 pos} {ms : M (List Ar)} (hc : X.calm = true) (hN : X.N.Nodup) (hi : X.N[i]? = some x) (hj : X.N[j]? = some y) (hl : X.N[l]? = some z) (hij : i ≠ j) (hil : i ≠ l) (hjl : j ≠ l)
    (hx : X.env.scope.names.lookup x = some .local) (hy : X.env.scope.names.lookup y = some .local) (hz : X.env.scope.names.lookup z = some .local) (ha : PA X [a, b, e] (rdA c F W ρ ms))
    (hw : swappedStores [.Tuple [.Name x px, .Name y py, .Name z pz] kt pt] (.Tuple [a, b, e] k2 pt2) X.env = pure (some [x, y, z]))
    (hs : swapsWithSole [.Tuple [.Name x px, .Name y py, .Name z pz] kt pt] (.Tuple [a, b, e] k2 pt2) pos.line X.env = pure false := by rfl) :
    PS X (.Assign [.Tuple [.Name x px, .Name y py, .Name z pz] kt pt] (.Tuple [a, b, e] k2 pt2) pos) (rdS c F W ρ (fun (d : D × D × D) => ((ρ.set i (.v d.1)).set j (.v d.2.1)).set l (.v d.2.2)) (ms >>= fun as => DL.vals as >>= three fun d e f => Pure.pure (.nx (d, e, f)))) := by
  refine ps_by (ps_par3 hc hN hi hj hl hij hil hjl hx hy hz ha hw hs) fun B σ H ⟨P, G, R, q⟩ => ?_
  refine ⟨P, G, R, out_mono (out_bind.mp q) (fun as P1 q1 vs H1 G1 e1 R1 r1 => ?_) fun _ _ z => exS.w z⟩
  obtain ⟨ds, rs, q2⟩ := ArsOk.reps r1 (out_bind.mp q1)
  match ds, q2 with
  | [d, e, f], q2 =>
    match vs, rs with
    | [u, v, w], rs =>
      have q3 : ∀ σ' H' G', Ext G G' → Rel c F (((ρ.set i (.v d)).set j (.v e)).set l (.v f)) P1 σ' H' G' → B.nx σ' H' := q2
      exact ⟨u, v, w, rfl, q3 _ H1 G1 e1 (((R1.set rs.head).set rs.tail.head).set rs.tail.tail.head)⟩
    | [], rs => exact absurd rs.1 (by simp)
    | [_], rs => exact absurd rs.1 (by simp)
    | [_, _], rs => exact absurd rs.1 (by simp)
    | _ :: _ :: _ :: _ :: _, rs => exact absurd rs.1 (by simp)
  | [], q2 => exact q2.elim
  | [_], q2 => exact q2.elim
  | [_, _], q2 => exact q2.elim
  | _ :: _ :: _ :: _ :: _, q2 => exact q2.elim
/-! ### truth -/
/-- of a bool, a list, a tuple -/
def truE : D → M Bool
  | .tup xs => Pure.pure (!xs.isEmpty)
  | .lst xs => Pure.pure (!xs.isEmpty)
  | .bl b => Pure.pure b
  | _ => M.no
theorem emp_len {α β : Type} {vs : List α} {ds : List β} (h : vs.length = ds.length) : (!ds.isEmpty) = (!vs.isEmpty) := by
  cases vs <;> cases ds <;> simp_all
theorem dt_tru {e : Expr} {m : M D} (hK : X.K = c.K) (h : PE X e (rdE c F W ρ m)) (he : ∀ whole, isTrue e X.env whole = (do let v ← whole; standAt e.pos; holding [v] (truthy v)) := by intro _; rfl) : PT X e (rdT c F W ρ (m >>= truE)) := by
  refine pt_by (pt_truth h he) fun σ H Q ⟨P, G, R, q⟩ => ?_
  refine ⟨P, G, R, out_mono (out_bind.mp q) (fun x P1 q1 v H1 G1 e1 R1 r1 => ?_) fun _ _ z => z⟩
  rw [hK]
  cases x with
  | bl b => exact ⟨b, by rw [r1.bl_of]; rfl, q1 H1 G1 e1 R1⟩
  | tup xs =>
    cases r1 with
    | tup ha hl hr => exact ⟨!xs.isEmpty, .inr (.inl ⟨_, Evl.ex_t R1.post.le ha, emp_len hl⟩), (show ∀ H' G', Ext G G' → Rel c F ρ P1 σ H' G' → Q (!xs.isEmpty) H' from q1) H1 G1 e1 R1⟩
  | lst xs =>
    cases r1 with
    | lst ha hl hr => exact ⟨!xs.isEmpty, .inl ⟨_, SqL.of (R1.post.le _ _ ha), emp_len hl⟩, (show ∀ H' G', Ext G G' → Rel c F ρ P1 σ H' G' → Q (!xs.isEmpty) H' from q1) H1 G1 e1 R1⟩
  | _ => exact q1.elim
end
end DL

namespace DL
open PySem PySem.Spec PyProof.Rows L2
/-! ### what may be called, by bundles -/
/-- a method of the class cn -/
structure CalM (P : Program) (w : World) (c : Cn) (base : Heap) (k : Nat) (cn m : Str) (mf : List Ar → M D) : Prop where
  ex : ∃ (f : Addr) (fd : FuncData) (ps : List Str), AtC c cn (fun C => Cls c.K C ∧ Meth c.K C m f) ∧ FnG P w c.K c.mg base k f fd ps (spD c mf) ∧ Binds c.K fd ps [] ∧ PySem.W.fnIn c.K f = true
/-- a property -/
structure CalP (P : Program) (w : World) (c : Cn) (base : Heap) (k : Nat) (cn m : Str) (mf : List Ar → M D) : Prop where
  ex : ∃ (f : Addr) (fd : FuncData) (ps : List Str), AtC c cn (fun C => Cls c.K C ∧ ∃ p, PropOf c.K C m p f) ∧ FnG P w c.K c.mg base k f fd ps (spD c mf) ∧ Binds c.K fd ps []
/-- a classmethod -/
structure CalK (P : Program) (w : World) (c : Cn) (base : Heap) (k : Nat) (cn m : Str) (mf : List Ar → M D) : Prop where
  ex : ∃ (f : Addr) (fd : FuncData) (ps : List Str), AtC c cn (fun C => ∃ mc p0, ClX.CRead c.K C mc ∧ ClX.CMet c.K C mc m p0 f) ∧ FnG P w c.K c.mg base k f fd ps (spD c mf) ∧ Binds c.K fd ps []
/-- the making of an instance -/
structure CalI (P : Program) (w : World) (c : Cn) (base : Heap) (k : Nat) (cn : Str) (mf : List Ar → M (List (Str × D))) : Prop where
  ex : ∃ (f : Addr) (fd : FuncData) (ps : List Str), AtC c cn (fun C => Mk c.K C f) ∧ FnG P w c.K c.mg base k f fd ps (spI c cn mf) ∧ Binds c.K fd ps []
section
variable {P : Program} {w : World} {c : Cn} {base : Heap} {k j : Nat} {cn m : Str} {mf : List Ar → M D}
theorem CalM.mono (h : CalM P w c base j cn m mf) (l : j ≤ k) : CalM P w c base k cn m mf := by
  obtain ⟨f, fd, ps, a, b, d, e⟩ := h.ex
  exact ⟨f, fd, ps, a, ⟨b.ln, fun A fr s H us vs args Q E ga rm => b.go A fr s H us vs args Q E ga (rm.mono l)⟩, d, e⟩
theorem CalP.mono (h : CalP P w c base j cn m mf) (l : j ≤ k) : CalP P w c base k cn m mf := by
  obtain ⟨f, fd, ps, a, b, d⟩ := h.ex
  exact ⟨f, fd, ps, a, ⟨b.ln, fun A fr s H us vs args Q E ga rm => b.go A fr s H us vs args Q E ga (rm.mono l)⟩, d⟩
theorem CalK.mono (h : CalK P w c base j cn m mf) (l : j ≤ k) : CalK P w c base k cn m mf := by
  obtain ⟨f, fd, ps, a, b, d⟩ := h.ex
  exact ⟨f, fd, ps, a, ⟨b.ln, fun A fr s H us vs args Q E ga rm => b.go A fr s H us vs args Q E ga (rm.mono l)⟩, d⟩
theorem CalI.mono {mf : List Ar → M (List (Str × D))} (h : CalI P w c base j cn mf) (l : j ≤ k) : CalI P w c base k cn mf := by
  obtain ⟨f, fd, ps, a, b, d⟩ := h.ex
  exact ⟨f, fd, ps, a, ⟨b.ln, fun A fr s H us vs args Q E ga rm => b.go A fr s H us vs args Q E ga (rm.mono l)⟩, d⟩
end
section
variable {c : Cn} {X : Cx} {F : Fr} {W : WX} {ρ : List Sl} {k j : Nat} {cn m : Str} {mf : List Ar → M D}
theorem fnG_X {f : Addr} {fd : FuncData} {ps : List Str} {sp : Sp} (C : Ctx c X k) (h : FnG X.prog X.w c.K c.mg X.base j f fd ps sp) : FnG X.prog X.w X.K X.mg X.base j f fd ps sp := by rw [C.K, C.mg]; exact h
theorem de_mthC {mo : M D} {ms : M (List Ar)} {apos pos : Pos} {o e : Expr} {es : List Expr} {pl : Sem Bool} (fn : CalM X.prog X.w c X.base j cn m mf) (C : Ctx c X k) (hj : j ≤ k) (tk : Takes X W)
    (ho : PE X o (rdE c F W ρ mo)) (ha : PA X (e :: es) (rdA c F W ρ ms)) (hst : starEach (e :: es) X.env = (false, eval e X.env) :: starEach es X.env := by rfl) (hpl : (backTo pos (starEach es X.env)).any (·.1) = false := by rfl)
    (ht : eval (.Call (.Attribute o m apos) (e :: es) [] pos) X.env = (do
      let v ← eval o X.env
      standAt apos.atName
      let (f, a) ← holding [v] (getMethod v m pl)
      callWith pos f a (backTo pos (starEach (e :: es) X.env)) (backToKw pos (keywordEach [] X.env))) := by rfl) :
    PE X (.Call (.Attribute o m apos) (e :: es) [] pos) (rdE c F W ρ (mo >>= fun d => insG cn m d >>= fun _ => ms >>= fun as => mf (.v d :: as))) := by
  obtain ⟨f, fd, ps, a, b, d, _⟩ := fn.ex
  exact de_mth (pl := pl) C hj tk ⟨a, fnG_X C b, d⟩ ho ha hst hpl ht
theorem de_mthC0 {mo : M D} {apos pos : Pos} {o : Expr} {pl : Sem Bool} (fn : CalM X.prog X.w c X.base j cn m mf) (C : Ctx c X k) (hj : j ≤ k) (tk : Takes X W)
    (ho : PE X o (rdE c F W ρ mo))
    (ht : eval (.Call (.Attribute o m apos) [] [] pos) X.env = (do
      let v ← eval o X.env
      standAt apos.atName
      let (f, a) ← holding [v] (getMethod v m pl)
      callWith pos f a (backTo pos (starEach [] X.env)) (backToKw pos (keywordEach [] X.env))) := by rfl) :
    PE X (.Call (.Attribute o m apos) [] [] pos) (rdE c F W ρ (mo >>= fun d => insG cn m d >>= fun _ => mf [.v d])) := by
  obtain ⟨f, fd, ps, a, b, d, _⟩ := fn.ex
  exact de_mth0 (pl := pl) C hj tk ⟨a, fnG_X C b, d⟩ ho ht
theorem de_propC {mo : M D} {pos : Pos} {o : Expr} (fn : CalP X.prog X.w c X.base j cn m mf) (C : Ctx c X k) (hj : j + 1 ≤ k) (ho : PE X o (rdE c F W ρ mo)) (hab : attributeBase o m X.env (eval o X.env) = eval o X.env := by rfl) :
    PE X (.Attribute o m pos) (rdE c F W ρ (mo >>= fun d => insP cn d >>= fun _ => noEx (mf [.v d]))) := by
  obtain ⟨f, fd, ps, a, b, d⟩ := fn.ex
  exact de_prop C hj ⟨a, fnG_X C b, d⟩ ho hab
theorem de_makeC {mi : List Ar → M (List (Str × D))} {ms : M (List Ar)} {x : Str} {p pos : Pos} {e : Expr} {es : List Expr} (fn : CalI X.prog X.w c X.base j cn mi) (C : Ctx c X k) (hj : j + 1 ≤ k) (tk : Takes X W) (hx : x = cn) (hg : Gl X x)
    (ha : PA X (e :: es) (rdA c F W ρ ms)) (hdb : (x == ("__debug__" : Str)) = false := by decide) (he : starEach (e :: es) X.env = (false, eval e X.env) :: starEach es X.env := by rfl) (hpl : (backTo pos (starEach es X.env)).any (·.1) = false := by rfl) :
    PE X (.Call (.Name x p) (e :: es) [] pos) (rdE c F W ρ (ms >>= fun as => mi as >>= fun fs => Pure.pure (.ins cn fs))) := by
  obtain ⟨f, fd, ps, a, b, d⟩ := fn.ex
  exact de_make (C.mono hj) tk a (fnG_X C b) hg hx d ha hdb he hpl
theorem de_makeLC {i : Nat} {mi : List Ar → M (List (Str × D))} {ms : M (List Ar)} {x : Str} {p pos : Pos} {e : Expr} {es : List Expr} (fn : CalI X.prog X.w c X.base j cn mi) (C : Ctx c X k) (hj : j + 1 ≤ k) (tk : Takes X W) (hi : ρ[i]? = some (.v (.cls cn))) (hx : PE X (.Name x p) (tVar i))
    (ha : PA X (e :: es) (rdA c F W ρ ms)) (he : starEach (e :: es) X.env = (false, eval e X.env) :: starEach es X.env := by rfl) (hpl : (backTo pos (starEach es X.env)).any (·.1) = false := by rfl) :
    PE X (.Call (.Name x p) (e :: es) [] pos) (rdE c F W ρ (ms >>= fun as => mi as >>= fun fs => Pure.pure (.ins cn fs))) := by
  obtain ⟨f, fd, ps, a, b, d⟩ := fn.ex
  exact de_makeL hi C hj tk a (fnG_X C b) hx d ha he hpl
theorem de_cmC {ms : M (List Ar)} {p apos pos : Pos} {x : Str} {e : Expr} {es : List Expr} {pl : Sem Bool} (fn : CalK X.prog X.w c X.base j cn m mf) (C : Ctx c X k) (hj : j ≤ k) (tk : Takes X W) (hx : x = cn) (hg : Gl X x) (ha : PA X (e :: es) (rdA c F W ρ ms)) (hdb : (x == ("__debug__" : Str)) = false := by decide)
    (hst : starEach (e :: es) X.env = (false, eval e X.env) :: starEach es X.env := by rfl) (hpl : (backTo pos (starEach es X.env)).any (·.1) = false := by rfl)
    (ht : eval (.Call (.Attribute (.Name x p) m apos) (e :: es) [] pos) X.env = (do
      let ov ← eval (.Name x p) X.env
      standAt apos.atName
      let (f, first) ← holding [ov] (getMethod ov m pl)
      callWith pos f first (backTo pos (starEach (e :: es) X.env)) (backToKw pos (keywordEach [] X.env))) := by rfl) :
    PE X (.Call (.Attribute (.Name x p) m apos) (e :: es) [] pos) (rdE c F W ρ (ms >>= fun as => mf (.v (.cls cn) :: as))) := by
  obtain ⟨f, fd, ps, a, b, d⟩ := fn.ex
  exact de_cm (pl := pl) C hj tk a (fnG_X C b) d hx hg ha hdb hst hpl ht
theorem de_callIC {mo : M D} {ms : M (List Ar)} {pos : Pos} {fe e : Expr} {es : List Expr} (fn : CalM X.prog X.w c X.base j cn "__call__" mf) (C : Ctx c X k) (hj : j ≤ k) (tk : Takes X W)
    (ho : PE X fe (rdE c F W ρ mo)) (ha : PA X (e :: es) (rdA c F W ρ ms))
    (ht : eval (.Call fe (e :: es) [] pos) X.env = (do callWith pos (← eval fe X.env) [] (backTo pos (starEach (e :: es) X.env)) (backToKw pos (keywordEach [] X.env))) := by rfl)
    (he : starEach (e :: es) X.env = (false, eval e X.env) :: starEach es X.env := by rfl) (hpl : (backTo pos (starEach es X.env)).any (·.1) = false := by rfl) :
    PE X (.Call fe (e :: es) [] pos) (rdE c F W ρ (mo >>= fun d => insP cn d >>= fun _ => ms >>= fun as => mf (.v d :: as))) := by
  obtain ⟨f, fd, ps, a, b, d, h⟩ := fn.ex
  exact de_callI C hj tk ⟨a, fnG_X C b, d⟩ h ho ha ht he hpl
theorem de_lenIC {ms : M (List Ar)} {x : Str} {p pos : Pos} {e : Expr} (fn : CalM X.prog X.w c X.base j cn "__len__" mf) (C : Ctx c X k) (hj : j + 1 ≤ k) (hg : Gl X x) (hm : X.mg x = none) (hv : bootBuiltins x = some (.builtin "len")) (ha : PA X [e] (rdA c F W ρ ms))
    (hn : x ≠ "__name__" := by decide) (hdb : (x == ("__debug__" : Str)) = false := by decide) (he : starEach [e] X.env = (false, eval e X.env) :: starEach [] X.env := by rfl) :
    PE X (.Call (.Name x p) [e] [] pos) (rdE c F W ρ (ms >>= fun as => DL.vals as >>= f1 (dunD cn mf natD))) := by
  obtain ⟨f, fd, ps, a, b, d, _⟩ := fn.ex
  exact de_blt (cr_lenI C hj ⟨a, fnG_X C b, d⟩) cd_lenI hg hm hv ha hn hdb he rfl
theorem de_strIC {ms : M (List Ar)} {x : Str} {p pos : Pos} {e : Expr} (fn : CalM X.prog X.w c X.base j cn "__str__" mf) (C : Ctx c X k) (hj : j + 2 ≤ k) (hg : Gl X x) (hm : X.mg x = none) (hv : bootBuiltins x = some (.type "str")) (ha : PA X [e] (rdA c F W ρ ms))
    (hn : x ≠ "__name__" := by decide) (hdb : (x == ("__debug__" : Str)) = false := by decide) (he : starEach [e] X.env = (false, eval e X.env) :: starEach [] X.env := by rfl) :
    PE X (.Call (.Name x p) [e] [] pos) (rdE c F W ρ (ms >>= fun as => DL.vals as >>= f1 (dunD cn mf strO))) := by
  obtain ⟨f, fd, ps, a, b, d, _⟩ := fn.ex
  exact de_ty (cr_strI C hj ⟨a, fnG_X C b, d⟩) cd_strI hg hm hv ha hn hdb he rfl
def neI (c : Cn) (cn : Str) : Prop := AtC c cn fun C => PySem.W.mroIn c.K C (.type "object") = some true ∧ PySem.W.findIn c.K (.ref C) "__ne__" = some (some (.builtin "object.__ne__"))
theorem opr_eqI (fn : CalM X.prog X.w c X.base j cn "__eq__" mf) (C : Ctx c X k) (hj : j ≤ k) : OpR X (compareOp .Eq) (rCmpI c cn mf id) := by
  obtain ⟨f, fd, ps, a, b, d, _⟩ := fn.ex
  exact op_eqI C hj ⟨a, fnG_X C b, d⟩
theorem opr_neI (fn : CalM X.prog X.w c X.base j cn "__eq__" mf) (C : Ctx c X k) (hj : j + 1 ≤ k) (hN : neI c cn) : OpR X (compareOp .NotEq) (rCmpI c cn mf (fun b => !b)) := by
  obtain ⟨f, fd, ps, a, b, d, _⟩ := fn.ex
  exact op_neI C hj ⟨a, fnG_X C b, d⟩ hN
theorem ds_asg3 {i j l : Nat} {es : List Expr} {k : Nat} {e : Expr} {tpos pos : Pos} {m : M D} (hK : X.K = c.K) (hc : X.calm = true) (hg : PGs X es (gNames [i, j, l])) (he : PE X e (rdE c F W ρ m)) (hs : swapsWithSole [.Tuple es k tpos] e pos.line X.env = pure false := by rfl) (hw : swappedStores [.Tuple es k tpos] e X.env = pure none := by rfl)
    (h1 : (assignEach [.Tuple es k tpos] X.env).map (·.2) = [assign (.Tuple es k tpos) X.env] := by rfl) (hn : (assignEach es X.env).length = [i, j, l].length := by rfl) (hst : (assignEach es X.env).findIdx? (·.1) = none := by rfl) :
    PS X (.Assign [.Tuple es k tpos] e pos) (rdS c F W ρ (fun (d : D × D × D) => ((ρ.set i (.v d.1)).set j (.v d.2.1)).set l (.v d.2.2)) (m >>= un3 fun x y z => Pure.pure (.nx (x, y, z)))) := by
  have hg' : PG X (.Tuple es k tpos) (rdG c F ρ (tupS ρ [i, j, l])) := dg_tup hK hc hg hn hst
  refine ps_by (ps_asg he hg' hs hw h1) fun B σ H ⟨P, G, R, q⟩ => ?_
  refine ⟨P, G, R, out_mono (out_bind.mp q) (fun d P1 q1 v H1 G1 e1 R1 r1 => ?_) fun _ _ z => exS.w z⟩
  cases ht : tupS ρ [i, j, l] d with
  | none => rw [un3_no ht] at q1; exact q1.elim
  | some ρ' =>
    obtain ⟨x, y, z, rfl, rfl⟩ := tupS3 ht
    have q2 : ∀ σ' H' G', Ext G G' → Rel c F (((ρ.set i (.v x)).set j (.v y)).set l (.v z)) P1 σ' H' G' → B.nx σ' H' := q1
    exact ⟨P1, G1, _, _, R1, r1, ht, fun σ' H' G' e R' => q2 σ' H' G' (e1.trans e) R'⟩
theorem eo_at {ρ' : List Sl} {i : Nat} {e : Expr} {m : M (D × List D)} (h : ρ = ρ') (k : PE X e (rdEO c F W ρ' i m)) : PE X e (rdEO c F W ρ i m) := by rw [h]; exact k
theorem de_js2 {a b : Expr} {ma mb : M D} {pos : Pos} (ha : PE X a (rdE c F W ρ ma)) (hb : PE X b (rdE c F W ρ mb)) : PE X (.JoinedStr [a, b] pos) (rdE c F W ρ (jsM [ma, mb] ⟨#[]⟩ >>= fun y => Pure.pure (.str y))) := de_js (.cons ha (.cons hb .nil))
theorem de_js3 {a b d : Expr} {ma mb md : M D} {pos : Pos} (ha : PE X a (rdE c F W ρ ma)) (hb : PE X b (rdE c F W ρ mb)) (hd : PE X d (rdE c F W ρ md)) : PE X (.JoinedStr [a, b, d] pos) (rdE c F W ρ (jsM [ma, mb, md] ⟨#[]⟩ >>= fun y => Pure.pure (.str y))) := de_js (.cons ha (.cons hb (.cons hd .nil)))
theorem de_js4 {a b d e : Expr} {ma mb md me : M D} {pos : Pos} (ha : PE X a (rdE c F W ρ ma)) (hb : PE X b (rdE c F W ρ mb)) (hd : PE X d (rdE c F W ρ md)) (he : PE X e (rdE c F W ρ me)) : PE X (.JoinedStr [a, b, d, e] pos) (rdE c F W ρ (jsM [ma, mb, md, me] ⟨#[]⟩ >>= fun y => Pure.pure (.str y))) := de_js (.cons ha (.cons hb (.cons hd (.cons he .nil))))
theorem de_js5 {a b d e f : Expr} {ma mb md me mf : M D} {pos : Pos} (ha : PE X a (rdE c F W ρ ma)) (hb : PE X b (rdE c F W ρ mb)) (hd : PE X d (rdE c F W ρ md)) (he : PE X e (rdE c F W ρ me)) (hf : PE X f (rdE c F W ρ mf)) : PE X (.JoinedStr [a, b, d, e, f] pos) (rdE c F W ρ (jsM [ma, mb, md, me, mf] ⟨#[]⟩ >>= fun y => Pure.pure (.str y))) := de_js (.cons ha (.cons hb (.cons hd (.cons he (.cons hf .nil)))))
theorem l9z : ([] : List (Str × D)).length ≤ 0 := Nat.le_refl 0
theorem l9s {n : Nat} {f : Str} {v : D} : ∀ {fs : List (Str × D)}, fs.length ≤ n → (putA f v fs).length ≤ n + 1 := by
  have key : ∀ fs : List (Str × D), (putA f v fs).length ≤ fs.length + 1 := fun fs => by
    induction fs with
    | nil => exact Nat.le_refl _
    | cons p r ih =>
      obtain ⟨a, b⟩ := p
      unfold putA
      split
      · simp
      · simpa using ih
  exact fun {fs} h => Nat.le_trans (key fs) (Nat.succ_le_succ h)
theorem l9 {n : Nat} {fs : List (Str × D)} (h : fs.length ≤ n) (hn : n < 900 := by decide) : fs.length < 900 := Nat.lt_of_le_of_lt h hn
end
def doneI : Fl (List (Str × D)) → M (List (Str × D))
  | .nx a => Pure.pure a
  | _ => M.no
section
variable {P : Program} {w : World} {K : PySem.W.Frag} {mg : Str → Option Value} {base : Heap} {c : Cn}
theorem fnI_of2 {x qual x0 cn : Str} {st : Stmt} {f : Addr} {fd : FuncData} {N ps : List Str} {k : Nat} {mf : List Ar → M (List (Str × D))} (Fn : Fun K x qual st f fd) (hK : c.K = K) (hm : c.mg = mg) (S : FnScope (x0 :: N) ps (defScope st)) (len : ∀ as P ok ex, out (mf as) P ok ex → as.length + 1 = ps.length)
    (hbody : ∀ (cd : Value) (A : Around) (fr : List Env) (s : Shared) (H0 H1 G0 : Hp) (ap : Option Addr) (E : XK) (as : List Ar) (P0 : Pot) (ok : List (Str × D) → Pot → Prop) (ex : Ex → Pot → Prop), out (mf as) P0 ok ex → BodyX c (bX P w K mg base (x0 :: N) qual st f cd A fr s H0 E) k (fun cl dd _ H => E cl dd H) →
      ∃ (En : Addr → List (Str × D) → List Sl) (mb : M (Fl (List (Str × D)))), (∀ me a, (En me a)[0]? = some (.o (.i me cn a))) ∧ (∀ me, PSs (bX P w K mg base (x0 :: N) qual st f cd A fr s H0 E) (defBody st) (rdS c ⟨G0, H1, ap⟩ (fun cl dd _ H => E cl dd H) (slotsI me cn as (x0 :: N).length) (En me) mb)) ∧
        mf as = mb >>= doneI) :
    FnG P w K mg base (k + 1) f fd ps (spI c cn mf) := by
  refine fnI_of Fn hK hm S len fun cd A fr s H0 H1 G0 ap E as P0 ok ex h bx => ?_
  obtain ⟨En, mb, h1, h2, h3⟩ := hbody cd A fr s H0 H1 G0 ap E as P0 ok ex h bx
  refine ⟨_, En, fun a => a, mb, h1, h2, ?_⟩
  rw [h3]
  congr 1
  funext fl
  cases fl <;> rfl
end
/-- a def that is never reached keeps the promise that says nothing -/
theorem out_no {α : Type} {P : Pot} {ok : α → Pot → Prop} {ex : Ex → Pot → Prop} (h : out (M.no : M α) P ok ex) : False := h
end DL

namespace DL
open PySem PySem.Spec PyProof.Rows L2
/-! ### f(_law_pot(..)): the pot goes to a call without a name -/
section
variable {c : Cn} {X : Cx} {F : Fr} {W : WX} {ρ : List Sl} {k j : Nat}
def withPotE {α : Type} (ds : List D) (m : M α) : M α := fun P => match P with
  | none => match m (some ds) with
    | .ok f (some _) => .ok f none
    | .ex e (some _) => .ex e none
    | _ => .no
  | some _ => .no
theorem Rel.toPot0 {σ : L2.St} {H G : Hp} {p : Addr} {vs : List V} {ds : List D} (R : Rel c F ρ none σ H G) (hF : F.ap = none) (hp : H p = some (.lst vs)) (hg : G p = none) (h0 : F.H0 p = none) (r : c.reps G vs ds)
    (ow : ∀ (i : Nat) k, ρ[i]? = some (.o k) → σ[i]? ≠ some (some (V.ref p))) : Rel c ⟨F.G0, F.H0, some p⟩ ρ (some ds) σ H G := by
  refine ⟨⟨R.post.ext, R.post.le, fun b o e n t => R.post.fr b o e (by rw [hF]; exact nofun) t, R.post.new, ⟨vs, hp, r, hg⟩, R.post.tab, R.post.nt, R.post.tb⟩, R.len, fun j s x a b => ?_, R.ap⟩
  have z := R.sl j s x a b
  cases s with
  | un => exact True.intro
  | v d => exact z
  | p => obtain ⟨_, z, _⟩ := z; rw [hF] at z; cases z
  | o k =>
    obtain ⟨ad, e, u, g, h, n⟩ := z
    exact ⟨ad, e, u, g, h, fun z => ow j k a (by rw [b, e]; cases z; rfl)⟩
theorem Rel.noP {P : Pot} {σ : L2.St} {H G : Hp} (R : Rel c F ρ P σ H G) (hF : F.ap = none) : ρ.map unP = ρ := by
  apply List.ext_getElem?
  intro i
  rw [List.getElem?_map]
  cases h : ρ[i]? with
  | none => rfl
  | some s =>
    have hl : i < σ.length := by rw [R.len]; exact (List.getElem?_eq_some_iff.mp h).1
    have z := R.sl i s _ h (List.getElem?_eq_getElem hl)
    cases s with
    | p => obtain ⟨_, z, _⟩ := z; rw [hF] at z; cases z
    | _ => rfl
theorem de_callPot {mf : List Ar → M D} {m : M (List D)} {x : Str} {p pos : Pos} {e : Expr} (fn : Cal X.prog X.w c.K c.mg X.base k x (spD c mf)) (C : Ctx c X j) (hj : k ≤ j) (tk : Takes X W) (hg : Gl X x)
    (ha : PE X e (rdN c F W ρ m)) (hdb : (x == ("__debug__" : Str)) = false := by decide) (he : starEach [e] X.env = (false, eval e X.env) :: starEach [] X.env := by rfl) :
    PE X (.Call (.Name x p) [e] [] pos) (rdE c F W ρ (m >>= fun ds => withPotE ds (mf [.p]))) := by
  obtain ⟨f, fd, ps, h, hm, hk, hb⟩ := fn.ex
  have h' : FnG X.prog X.w X.K X.mg X.base k f fd ps (spD c mf) := by rw [C.K, C.mg]; exact h
  refine ⟨fun pins s σ H Q I ⟨P, G, R, q⟩ => ?_⟩
  have hx : X.mg x = some (.ref f) := by rw [C.mg]; exact hm
  have kf : PySem.W.keepIn X.K (.ref f) = true := by rw [C.K]; exact hk
  have hb' : Binds X.K fd ps [] := by rw [C.K]; exact hb
  refine wpAny_Call_Name_kw (ld_glob I hg hx ?_ hdb)
  have step := (pa_cons ha pa_nil he).run pos pins s σ H (fun vs H1 => spD c mf vs H1 Q (WE W σ)) I
    ⟨P, G, R, out_mono (out_bind.mp q) (fun ds P1 q1 p vs H1 G1 e1 R1 h1 h2 h3 h4 h5 r1 => ?_) fun _ _ z => z⟩
  · exact PySem.W.callWith_K (h₀ := X.base) I.ok.mod.kin kf (thn step fun us s1 ⟨vs, H1, I1, rv, z⟩ => ⟨I1.kIn, run_g C.ga (C.rm.mono hj) tk h' hb' I1 rv z⟩) he rfl
  · cases P1 with
    | some _ => exact q1.elim
    | none =>
      have hF : F.ap = none := by
        have z := R1.post.pot
        cases e : F.ap with
        | none => rfl
        | some a => rw [e] at z; exact z.elim
      have R2 := R1.toPot0 hF h1 h2 h3 r1 h5
      show spD c mf [.ref p] H1 Q (WE W σ)
      refine ⟨some p, G1, some ds, [.p], R2.post.refl', ⟨⟨p, rfl, rfl⟩, True.intro⟩, ?_⟩
      unfold out withPotE at q1
      unfold out
      cases hm : mf [.p] (some ds) with
      | no => simp only [hm] at q1
      | ok d P2 =>
        cases P2 with
        | none => simp only [hm] at q1
        | some ds2 =>
          simp only [hm] at q1
          intro v H' G' po r'
          have R3 := (R2.after po).ofPot hF h3
          rw [R1.noP hF] at R3
          exact q1 v H' G' (e1.trans po.ext) R3 r'
      | ex x P2 =>
        cases P2 with
        | none => simp only [hm] at q1
        | some ds2 =>
          simp only [hm] at q1
          intro cl dd H' G' po k'
          exact q1 cl dd H' G' _ (e1.trans po.ext) ((R2.after po).ofPot hF h3) k'
end
end DL

/-! dicts of one's own: made, put into, read, let go -/
namespace DL
open PySem PySem.Spec PyProof.Rows L2
section
variable {c : Cn} {X : Cx} {F : Fr} {W : WX} {ρ : List Sl} {α β : Type}
theorem ds_no {E : α → List Sl} {st : Stmt} : PS X st (rdS c F W ρ E M.no) := ⟨fun pins s σ H B I h => by
  obtain ⟨_, _, _, q⟩ := h
  exact q.elim⟩
theorem Rel.ownX {P : Pot} {σ : L2.St} {H G : Hp} {i : Nat} {p : Addr} {o : HO} {k : Cel} (R : Rel c F ρ P σ H G) (hp : H p = none) (r : CelOk c G p o k) : Rel c F (ρ.set i (.o k)) P (σ.set i (some (.ref p))) (upd H p o) G := by
  have R1 : Rel c F ρ P σ (upd H p o) G := R.newM hp
  have R2 := R1.un (i := i) (x := some (.ref p))
  have ow := R.own_at hp
  refine ⟨R2.post, by simpa using R2.len, fun j s x h1 h2 => ?_, fun j j' kk kk' b h1 h2 h3 h4 => ?_⟩
  · by_cases z : i = j
    · subst z
      rw [List.getElem?_set, if_pos rfl] at h1 h2
      split at h1
      · split at h2
        · cases h1; cases h2
          exact ⟨p, rfl, ⟨_, upd_same, r⟩, R.post.g_none hp, R.post.h0 hp, R.ne_ap hp⟩
        · cases h2
      · cases h1
    · rw [List.getElem?_set_ne z] at h1
      exact R2.sl j s x (by rw [List.getElem?_set_ne z]; exact h1) h2
  · have hit : ∀ {m : Nat}, i = m → ∀ {x : Option V}, (σ.set i (some (V.ref p)))[m]? = some x → x = some (.ref p) := fun {m} z {x} h => by
      subst z
      rw [List.getElem?_set, if_pos rfl] at h
      split at h
      · cases h; rfl
      · cases h
    by_cases z : i = j
    · by_cases z' : i = j'
      · rw [← z, ← z']
      · have e := hit z h3
        cases e
        rw [List.getElem?_set_ne z'] at h2 h4
        exact absurd h4 (ow j' kk' h2)
    · by_cases z' : i = j'
      · have e := hit z' h4
        cases e
        rw [List.getElem?_set_ne z] at h1 h3
        exact absurd h3 (ow j kk h1)
      · rw [List.getElem?_set_ne z] at h1 h3
        rw [List.getElem?_set_ne z'] at h2 h4
        exact R.ap j j' kk kk' b h1 h2 h3 h4
/-- x = {}: keys ints and texts | tuples of such -/
theorem ds_ownDK {i : Nat} {y : Str} {py dpos spos : Pos} (hN : X.N.Nodup) (hi : X.N[i]? = some y) (hx : Loc X.env.scope y)
    (hs : swapsWith (.Dict [] [] dpos) (some (.Name y py)) spos.line X.env = pure false := by rfl) (hf : X.fn y = true ∨ X.env.scope.names.lookup y = some .local := by first | exact .inl rfl | exact .inr rfl | assumption) :
    PS X (.Assign [.Name y py] (.Dict [] [] dpos) spos) (rdS c F W ρ (fun ds : List (Key × D) => ρ.set i (.o (.dk ds))) (Pure.pure (.nx []))) := by
  refine ps_by (ps_set hN hi hx pe_dnewK hs hf) fun B σ H ⟨P, G, R, q⟩ p hp => ?_
  have q2 : ∀ σ' H' G', Ext G G' → Rel c F (ρ.set i (.o (.dk []))) P σ' H' G' → B.nx σ' H' := q
  exact q2 _ _ G (Ext.refl _) (R.ownX hp ⟨rfl, Reps.nil⟩)
theorem ds_ownDT {i : Nat} {y : Str} {py dpos spos : Pos} (hN : X.N.Nodup) (hi : X.N[i]? = some y) (hx : Loc X.env.scope y)
    (hs : swapsWith (.Dict [] [] dpos) (some (.Name y py)) spos.line X.env = pure false := by rfl) (hf : X.fn y = true ∨ X.env.scope.names.lookup y = some .local := by first | exact .inl rfl | exact .inr rfl | assumption) :
    PS X (.Assign [.Name y py] (.Dict [] [] dpos) spos) (rdS c F W ρ (fun ds : List (List Key × D) => ρ.set i (.o (.dt ds))) (Pure.pure (.nx []))) := by
  refine ps_by (ps_set hN hi hx pe_dnewT hs hf) fun B σ H ⟨P, G, R, q⟩ p hp => ?_
  have q2 : ∀ σ' H' G', Ext G G' → Rel c F (ρ.set i (.o (.dt []))) P σ' H' G' → B.nx σ' H' := q
  exact q2 _ _ G (Ext.refl _) (R.ownX hp ⟨rfl, Reps.nil⟩)
theorem own_dk {P : Pot} {σ : L2.St} {H G : Hp} {i : Nat} {ds : List (Key × D)} (R : Rel c F ρ P σ H G) (hi : ρ[i]? = some (.o (.dk ds))) : ∃ a kvs, σ[i]? = some (some (.ref a)) ∧ H a = some (.dK kvs) ∧ RepK c G kvs ds ∧ G a = none ∧ F.H0 a = none ∧ some a ≠ F.ap := by
  have hl : i < σ.length := by rw [R.len]; exact (List.getElem?_eq_some_iff.mp hi).1
  obtain ⟨a, ea, ⟨o, ho, hk⟩, g, h, n⟩ := R.sl i _ _ hi (List.getElem?_eq_getElem hl)
  cases o with
  | dK kvs => exact ⟨a, kvs, by rw [List.getElem?_eq_getElem hl, ea], ho, hk, g, h, n⟩
  | _ => exact hk.elim
/-- the same of tuples of keys -/
def RepT (c : Cn) (G : Hp) (kvs : List (List Key × V)) (ds : List (List Key × D)) : Prop := kvs.map (·.1) = ds.map (·.1) ∧ c.reps G (kvs.map (·.2)) (ds.map (·.2))
theorem own_dt {P : Pot} {σ : L2.St} {H G : Hp} {i : Nat} {ds : List (List Key × D)} (R : Rel c F ρ P σ H G) (hi : ρ[i]? = some (.o (.dt ds))) : ∃ a kvs, σ[i]? = some (some (.ref a)) ∧ H a = some (.dT kvs) ∧ RepT c G kvs ds ∧ G a = none ∧ F.H0 a = none ∧ some a ≠ F.ap := by
  have hl : i < σ.length := by rw [R.len]; exact (List.getElem?_eq_some_iff.mp hi).1
  obtain ⟨a, ea, ⟨o, ho, hk⟩, g, h, n⟩ := R.sl i _ _ hi (List.getElem?_eq_getElem hl)
  cases o with
  | dT kvs => exact ⟨a, kvs, by rw [List.getElem?_eq_getElem hl, ea], ho, hk, g, h, n⟩
  | _ => exact hk.elim
/-- d[k] = v as data -/
def putX {κ : Type} [DecidableEq κ] (ds : List (κ × D)) (k : κ) (v : D) : List (κ × D) :=
  if (ds.any fun kv => decide (kv.1 = k)) = true then ds.map (fun kv => if kv.1 = k then (kv.1, v) else kv) else ds ++ [(k, v)]
def getX {κ : Type} [DecidableEq κ] (ds : List (κ × D)) (k : κ) : Option D := (ds.find? fun kv => decide (kv.1 = k)).map (·.2)
section
variable {κ : Type} [DecidableEq κ]
def RepX (c : Cn) (G : Hp) (kvs : List (κ × V)) (ds : List (κ × D)) : Prop := kvs.map (·.1) = ds.map (·.1) ∧ c.reps G (kvs.map (·.2)) (ds.map (·.2))
theorem any_keysX {β γ : Type} (k : κ) : ∀ {kvs : List (κ × β)} {ds : List (κ × γ)}, kvs.map (·.1) = ds.map (·.1) → (kvs.any fun kv => decide (kv.1 = k)) = ds.any fun kv => decide (kv.1 = k)
  | [], [], _ => rfl
  | [], _ :: _, h => by simp at h
  | _ :: _, [], h => by simp at h
  | p :: r, q :: s, h => by
    simp only [List.map_cons, List.cons.injEq] at h
    rw [List.any_cons, List.any_cons, h.1, any_keysX k h.2]
theorem put_mapX {G : Hp} {k : κ} {v : V} {d : D} (r : c.rep G v d) : ∀ {kvs : List (κ × V)} {ds : List (κ × D)}, RepX c G kvs ds → RepX c G (kvs.map fun kv => if kv.1 = k then (kv.1, v) else kv) (ds.map fun kv => if kv.1 = k then (kv.1, d) else kv)
  | [], [], _ => ⟨rfl, Reps.nil⟩
  | [], _ :: _, h => by have := h.1; simp at this
  | _ :: _, [], h => by have := h.1; simp at this
  | p :: kvs, q :: ds, h => by
    obtain ⟨h1, h2⟩ := h
    simp only [List.map_cons, List.cons.injEq] at h1
    have ih := put_mapX (k := k) r (kvs := kvs) (ds := ds) ⟨h1.2, Reps.tail h2⟩
    have hd : c.rep G p.2 q.2 := Reps.head h2
    refine ⟨?_, ?_⟩
    · simp only [List.map_cons, List.cons.injEq]
      refine ⟨?_, ih.1⟩
      rw [h1.1]
      split <;> simp [h1.1]
    · simp only [List.map_cons]
      refine Reps.cons ?_ ih.2
      rw [h1.1]
      split
      · exact r
      · exact hd
theorem RepX.put {G : Hp} {k : κ} {v : V} {d : D} (r : c.rep G v d) {kvs : List (κ × V)} {ds : List (κ × D)} (h : RepX c G kvs ds) : RepX c G (if (kvs.any fun kv => decide (kv.1 = k)) = true then kvs.map (fun kv => if kv.1 = k then (kv.1, v) else kv) else kvs ++ [(k, v)]) (putX ds k d) := by
  unfold putX
  rw [any_keysX k h.1]
  split
  · exact put_mapX r h
  · refine ⟨by simp [h.1], ?_⟩
    rw [List.map_append, List.map_append]
    exact h.2.append (Reps.cons r Reps.nil)
theorem RepX.get {G : Hp} {k : κ} {d : D} : ∀ {kvs : List (κ × V)} {ds : List (κ × D)}, RepX c G kvs ds → getX ds k = some d → ∃ v, ((kvs.find? fun kv => decide (kv.1 = k)).map (·.2)) = some v ∧ c.rep G v d
  | [], [], _, h => by cases h
  | [], _ :: _, h, _ => by have := h.1; simp at this
  | _ :: _, [], h, _ => by have := h.1; simp at this
  | p :: kvs, q :: ds, ⟨h1, h2⟩, h => by
    simp only [List.map_cons, List.cons.injEq] at h1
    unfold getX at h
    rw [List.find?_cons] at h ⊢
    rw [h1.1]
    by_cases z : q.1 = k
    · rw [decide_eq_true z] at h ⊢
      simp only [Option.map_some, Option.some.injEq] at h
      subst h
      exact ⟨_, rfl, Reps.head h2⟩
    · rw [decide_eq_false z] at h ⊢
      exact RepX.get (kvs := kvs) (ds := ds) ⟨h1.2, Reps.tail h2⟩ h
theorem RepX.len {G : Hp} {kvs : List (κ × V)} {ds : List (κ × D)} (h : RepX c G kvs ds) : kvs.length = ds.length := by
  have := congrArg List.length h.1
  simpa using this
theorem RepX.mono {G G' : Hp} (e : Ext G G') {kvs : List (κ × V)} {ds : List (κ × D)} (h : RepX c G kvs ds) : RepX c G' kvs ds := ⟨h.1, h.2.mono e⟩
end
/-- x[k] = e, k an int or a text -/
theorem ds_putK {i : Nat} {ds : List (Key × D)} {x : Str} {p p2 pos : Pos} {ke e : Expr} {me mk : M D} (hu : X.A.units + 1 < cLine) (hi : ρ[i]? = some (.o (.dk ds))) (hx : PE X (.Name x p) (tVar i)) (he : PE X e (rdE c F W ρ me)) (hk : PE X ke (rdE c F W ρ mk))
    (hs : swapsWith e (some (.Subscript (.Name x p) ke p2)) pos.line X.env = pure false := by rfl) :
    PS X (.Assign [.Subscript (.Name x p) ke p2] e pos) (rdS c F W ρ (fun ds => ρ.set i (.o (.dk ds))) (me >>= fun d => mk >>= fun y => keyM y >>= fun k => if ds.length < sizeLine then Pure.pure (.nx (putX ds k d)) else M.no)) := by
  refine ps_by (ps_dput hu hx hk he hs) fun B σ H ⟨P, G, R, q⟩ => ?_
  refine ⟨P, G, R, out_mono (out_bind.mp q) (fun d P1 q1 v H1 G1 e1 R1 r1 => ?_) fun _ _ z => exS.w z⟩
  obtain ⟨a, kvs, ea, -⟩ := own_dk R1 hi
  refine ⟨.ref a, ea, P1, G1, R1, out_mono (out_bind.mp q1) (fun y P2 q2 w H2 G2 e2 R2 r2 => ?_) fun _ _ z => exW_le (P := P) e1 (exS.w z)⟩
  obtain ⟨k, rfl, q3⟩ := keyM_out (out_bind.mp q2)
  obtain ⟨a', kvs2, ea', h2, rk, -⟩ := own_dk R2 hi
  rw [ea] at ea'
  cases ea'
  by_cases z : ds.length < sizeLine
  · rw [if_pos z] at q3
    have q4 : ∀ σ' H' G', Ext G G' → Rel c F (ρ.set i (.o (.dk (putX ds k d)))) P2 σ' H' G' → B.nx σ' H' := q3
    have rp : RepX c G2 (putK kvs2 k v) (putX ds k d) := RepX.put (r1.mono e2) rk
    exact ⟨a, _, rfl, .inl ⟨kvs2, k, h2, rep_key r2, by rw [RepX.len rk]; exact z, rfl⟩, q4 σ _ G2 (e1.trans e2) (R2.upd_own hi ea rp)⟩
  · rw [if_neg z] at q3; exact q3.elim
/-- x[k], x of one's own -/
theorem de_getK {i : Nat} {ds : List (Key × D)} {x : Str} {p pos : Pos} {ke : Expr} {mk : M D} (hu : X.A.units + 1 < cLine) (hi : ρ[i]? = some (.o (.dk ds))) (hx : PE X (.Name x p) (tVar i)) (hk : PE X ke (rdE c F W ρ mk)) (hs : NoSl ke := by intro _ _; rfl) :
    PE X (.Subscript (.Name x p) ke pos) (rdE c F W ρ (mk >>= fun y => keyM y >>= fun k => M.some (getX ds k))) := by
  refine pe_by (pe_dget hu hx hk hs) fun σ H Q ⟨P, G, R, q⟩ => ?_
  obtain ⟨a, kvs, ea, -⟩ := own_dk R hi
  refine ⟨.ref a, ea, P, G, R, out_mono (out_bind.mp q) (fun y P1 q1 w H1 G1 e1 R1 r1 => ?_) fun _ _ z => z⟩
  obtain ⟨k, rfl, q2⟩ := keyM_out (out_bind.mp q1)
  obtain ⟨d, hd, q3⟩ := out_some.mp q2
  obtain ⟨a', kvs1, ea', h1, rk, -⟩ := own_dk R1 hi
  rw [ea] at ea'
  cases ea'
  obtain ⟨v, hv, rv⟩ := RepX.get rk hd
  exact ⟨a, v, rfl, .inl ⟨kvs1, k, .of h1, rep_key r1, hv.symm⟩, q3 v H1 G1 e1 R1 rv⟩
def keyL : List D → M (List Key)
  | [] => Pure.pure []
  | d :: ds => keyM d >>= fun k => keyL ds >>= fun ks => Pure.pure (k :: ks)
theorem keyL_out : ∀ {ys : List D} {P : Pot} {ok : List Key → Pot → Prop} {ex : Ex → Pot → Prop}, out (keyL ys) P ok ex → ∃ ks : List Key, ys = ks.map keyD ∧ ok ks P
  | [], _, _, _, h => ⟨[], rfl, h⟩
  | y :: ys, P, ok, ex, h => by
    obtain ⟨k, rfl, h2⟩ := keyM_out (out_bind.mp h)
    obtain ⟨ks, rfl, h3⟩ := keyL_out (out_bind.mp h2)
    exact ⟨k :: ks, rfl, h3⟩
theorem keys_of {G : Hp} : ∀ {vs : List V} {ks : List Key}, c.reps G vs (ks.map keyD) → vs = ks.map kV
  | [], [], _ => rfl
  | [], _ :: _, h => by have := h.1; simp at this
  | _ :: _, [], h => by have := h.1; simp at this
  | v :: vs, k :: ks, h => by
    rw [List.map_cons, ← keys_of (vs := vs) (ks := ks) (Reps.tail h), rep_key (Reps.head h)]
theorem keysV_of {G : Hp} : ∀ ks : List Key, c.reps G (ks.map kV) (ks.map keyD)
  | [] => Reps.nil
  | .inl i :: ks => Reps.cons (.int i) (keysV_of ks)
  | .inr x :: ks => Reps.cons (.str x) (keysV_of ks)
/-- x[k, ..] = e -/
theorem ds_putT {i : Nat} {ds : List (List Key × D)} {x : Str} {kk : Nat} {p p2 p3 pos : Pos} {es : List Expr} {e : Expr} {me : M D} {ms : M (List Ar)} (hu : X.A.units + 1 < cLine) (hi : ρ[i]? = some (.o (.dt ds))) (hx : PE X (.Name x p) (tVar i)) (he : PE X e (rdE c F W ρ me)) (hk : PA X es (rdA c F W ρ ms))
    (hs : swapsWith e (some (.Subscript (.Name x p) (.Tuple es kk p3) p2)) pos.line X.env = pure false := by rfl) :
    PS X (.Assign [.Subscript (.Name x p) (.Tuple es kk p3) p2] e pos) (rdS c F W ρ (fun ds => ρ.set i (.o (.dt ds))) (me >>= fun d => ms >>= fun as => DL.vals as >>= fun ys => keyL ys >>= fun k => if ds.length < sizeLine ∧ k.length ≤ sizeLine then Pure.pure (.nx (putX ds k d)) else M.no)) := by
  refine ps_by (ps_dput hu hx (pe_tup hk) he hs) fun B σ H ⟨P, G, R, q⟩ => ?_
  refine ⟨P, G, R, out_mono (out_bind.mp q) (fun d P1 q1 v H1 G1 e1 R1 r1 => ?_) fun _ _ z => exS.w z⟩
  obtain ⟨a, kvs, ea, -⟩ := own_dt R1 hi
  refine ⟨.ref a, ea, P1, G1, R1, out_mono (out_bind.mp q1) (fun as P2 q2 ws H2 G2 e2 R2 r2 => ?_) fun _ _ z => exW_le (P := P) e1 (exS.w z)⟩
  obtain ⟨ys, r3, q3⟩ := r2.reps (out_bind.mp q2)
  obtain ⟨k, rfl, q4⟩ := keyL_out (out_bind.mp q3)
  have ew := keys_of r3
  subst ew
  by_cases z : ds.length < sizeLine ∧ k.length ≤ sizeLine
  · rw [if_pos z] at q4
    have q5 : ∀ σ' H' G', Ext G G' → Rel c F (ρ.set i (.o (.dt (putX ds k d)))) P2 σ' H' G' → B.nx σ' H' := q4
    refine ⟨by rw [List.length_map]; exact z.2, fun b hb => ?_⟩
    obtain ⟨R3, e3⟩ := R2.new hb (o := .tup (k.map kV)) nt_tup
    obtain ⟨a', kvs2, ea', h2, rk, -⟩ := own_dt R3 hi
    rw [ea] at ea'
    cases ea'
    have rp : RepX c _ (putK kvs2 k v) (putX ds k d) := RepX.put ((r1.mono e2).mono e3) rk
    exact ⟨a, _, rfl, .inr ⟨kvs2, k, b, h2, rfl, upd_same, by rw [RepX.len rk]; exact z.1, rfl⟩, q5 σ _ _ (e1.trans (e2.trans e3)) (R3.upd_own hi ea rp)⟩
  · rw [if_neg z] at q4; exact q4.elim
end
end DL

namespace DL
open PySem PySem.Spec PyProof.Rows L2
section
variable {c : Cn} {X : Cx} {F : Fr} {W : WX} {ρ : List Sl} {α β : Type}
/-- what one has made is let go: from here on a value -/
theorem Rel.letgoX {P : Pot} {σ : L2.St} {H G : Hp} {i : Nat} {k : Cel} {d : D} (R : Rel c F ρ P σ H G) (hi : ρ[i]? = some (.o k))
    (hd : ∀ a o, H a = some o → CelOk c G a o k → noTbl o ∧ (Ext G (upd G a o) → c.rep (upd G a o) (.ref a) d)) : ∃ G', Ext G G' ∧ Rel c F (ρ.set i (.v d)) P σ H G' := by
  have hlt : i < ρ.length := (List.getElem?_eq_some_iff.mp hi).1
  have hl : i < σ.length := by rw [R.len]; exact hlt
  obtain ⟨a, ea, ⟨o, ho, hk⟩, g, h, n⟩ := R.sl i _ _ hi (List.getElem?_eq_getElem hl)
  have hat : σ[i]? = some (some (V.ref a)) := by rw [List.getElem?_eq_getElem hl, ea]
  obtain ⟨nt, hr⟩ := hd a o ho hk
  have eσ : σ.set i (some (.ref a)) = σ := by
    apply List.ext_getElem?
    intro j
    rw [List.getElem?_set]
    by_cases z : i = j
    · subst z
      rw [if_pos rfl, if_pos hl]; exact hat.symm
    · rw [if_neg z]
  have R0 := R.un (i := i) (x := some (.ref a))
  rw [eσ] at R0
  obtain ⟨R1, e1⟩ := R0.freeze ho nt h n (fun j kk hj hs => by
    by_cases z : i = j
    · subst z; rw [List.getElem?_set] at hj; simp at hj
    · rw [List.getElem?_set_ne z] at hj
      exact z (R.ap i j _ kk a hi hj hat hs)) g
  refine ⟨_, e1, ?_⟩
  have R2 := R1.set (i := i) (v := .ref a) (d := d) (hr e1)
  rw [List.set_set, eσ] at R2
  exact R2
theorem ds_letgoX {ss : List Stmt} {E : α → List Sl} {i : Nat} {k : Cel} {d : D} {m : M (Fl α)} (hi : ρ[i]? = some (.o k)) (hd : ∀ (G H : Hp) a o, H a = some o → CelOk c G a o k → noTbl o ∧ (Ext G (upd G a o) → c.rep (upd G a o) (.ref a) d)) (h : PSs X ss (rdS c F W (ρ.set i (.v d)) E m)) : PSs X ss (rdS c F W ρ E m) :=
  pss_by h fun B σ H ⟨P, G, R, q⟩ => by
    obtain ⟨G', e, R'⟩ := R.letgoX hi (hd G H)
    refine ⟨P, G', R', out_mono q (fun f P' z => ?_) fun x p z => exS_le e z⟩
    cases f with
    | nx a => exact fun σ' H' G2 e2 R2 => z σ' H' G2 (e.trans e2) R2
    | bk a => exact fun σ' H' G2 e2 R2 => z σ' H' G2 (e.trans e2) R2
    | ct a => exact fun σ' H' G2 e2 R2 => z σ' H' G2 (e.trans e2) R2
    | rt d => exact fun v H' G2 ρ' σ' e2 R2 k => z v H' G2 ρ' σ' (e.trans e2) R2 k
theorem celK {G H : Hp} {ds : List (Key × D)} (a : Addr) (o : HO) (ho : H a = some o) (hk : CelOk c G a o (.dk ds)) : noTbl o ∧ (Ext G (upd G a o) → c.rep (upd G a o) (.ref a) (dicD ds)) := by
  cases o with
  | dK kvs =>
    have hk : RepX c G kvs ds := hk
    refine ⟨nt_dK, fun e => .dicK upd_same ?_ fun i kv dv h1 h2 => ?_⟩
    · rw [List.map_map]
      have : (List.map (fun p => keyD p.1) kvs) = (kvs.map (·.1)).map keyD := by rw [List.map_map]; rfl
      rw [this, hk.1, List.map_map]
      rfl
    · rw [List.getElem?_map, Option.map_eq_some_iff] at h2
      obtain ⟨pd, h2, rfl⟩ := h2
      exact (hk.2.2 i kv.2 pd.2 (by rw [List.getElem?_map, h1]; rfl) (by rw [List.getElem?_map, h2]; rfl)).mono e
  | _ => exact hk.elim
def dicT (ds : List (List Key × D)) : D := .dic (ds.map fun p => (.tup (p.1.map keyD), p.2))
theorem celT {G H : Hp} {ds : List (List Key × D)} (a : Addr) (o : HO) (ho : H a = some o) (hk : CelOk c G a o (.dt ds)) : noTbl o ∧ (Ext G (upd G a o) → c.rep (upd G a o) (.ref a) (dicT ds)) := by
  cases o with
  | dT kvs =>
    have hk : RepX c G kvs ds := hk
    refine ⟨nt_dT, fun e => .dicT upd_same ?_ fun i kv dv h1 h2 => ?_⟩
    · rw [List.map_map]
      have : (List.map (fun p => D.tup (p.1.map keyD)) kvs) = (kvs.map (·.1)).map fun k => D.tup (k.map keyD) := by rw [List.map_map]; rfl
      rw [this, hk.1, List.map_map]
      rfl
    · rw [List.getElem?_map, Option.map_eq_some_iff] at h2
      obtain ⟨pd, h2, rfl⟩ := h2
      exact (hk.2.2 i kv.2 pd.2 (by rw [List.getElem?_map, h1]; rfl) (by rw [List.getElem?_map, h2]; rfl)).mono e
  | _ => exact hk.elim
theorem ds_letgoK {ss : List Stmt} {E : α → List Sl} {i : Nat} {ds : List (Key × D)} {m : M (Fl α)} (hi : ρ[i]? = some (.o (.dk ds))) (h : PSs X ss (rdS c F W (ρ.set i (.v (dicD ds))) E m)) : PSs X ss (rdS c F W ρ E m) := ds_letgoX hi (fun _ _ => celK) h
theorem ds_letgoT {ss : List Stmt} {E : α → List Sl} {i : Nat} {ds : List (List Key × D)} {m : M (Fl α)} (hi : ρ[i]? = some (.o (.dt ds))) (h : PSs X ss (rdS c F W (ρ.set i (.v (dicT ds))) E m)) : PSs X ss (rdS c F W ρ E m) := ds_letgoX hi (fun _ _ => celT) h
/-- a tuple that lies there may be known -/
theorem Rel.freezeT {P : Pot} {σ : L2.St} {H G : Hp} {b : Addr} {vs : List V} (R : Rel c F ρ P σ H G) (hb : H b = some (.tup vs)) : ∃ G', Rel c F ρ P σ H G' ∧ Ext G G' ∧ G' b = some (.tup vs) := by
  cases hg : G b with
  | some o =>
    have := R.post.le b o hg
    rw [hb] at this
    cases this
    exact ⟨G, R, Ext.refl _, hg⟩
  | none =>
    have ne : ∀ a u, G a = some u → a ≠ b := fun a u e z => by rw [z, hg] at e; cases e
    have ex : Ext G (upd G b (.tup vs)) := fun a u e => by rw [upd_ne (ne a u e)]; exact e
    have apne : ∀ a, F.ap = some a → a ≠ b := fun a e z => by
      have y := R.post.pot
      rw [e] at y
      cases P with
      | none => exact y.elim
      | some ds =>
        obtain ⟨ws, y, _⟩ := y
        rw [z, hb] at y
        cases y
    refine ⟨upd G b (.tup vs), ⟨⟨R.post.ext.trans ex, fun a u e => ?_, R.post.fr, fun a e => ?_, R.post.pot.ext ex (fun _ _ => rfl) (fun a e => ?_), R.post.tab, fun a u e => ?_, R.post.tb⟩, R.len, fun i s x h1 h2 => ?_, R.ap⟩, ex, upd_same⟩
    · by_cases z : a = b
      · subst z; rw [upd_same] at e; cases e; exact hb
      · rw [upd_ne z] at e; exact R.post.le a u e
    · by_cases z : a = b
      · subst z; exact .inr (.inr ⟨vs, upd_same⟩)
      · rw [upd_ne z] at e
        rcases R.post.new a e with y | y | ⟨ws, y⟩
        · exact .inl y
        · exact .inr (.inl y)
        · exact .inr (.inr ⟨ws, ex _ _ y⟩)
    · rw [upd_ne (apne a e)]
      have z := R.post.pot
      rw [e] at z
      cases P with
      | none => exact z.elim
      | some ds => obtain ⟨_, _, _, z⟩ := z; exact z
    · by_cases z : a = b
      · subst z; rw [upd_same] at e; cases e; exact nt_tup
      · rw [upd_ne z] at e; exact R.post.nt a u e
    · have z := R.sl i s x h1 h2
      cases s with
      | un => exact True.intro
      | v d => obtain ⟨v, e, r⟩ := z; exact ⟨v, e, r.mono ex⟩
      | p => exact z
      | o k =>
        obtain ⟨ad, e, ⟨u, hu, hk⟩, g, h, q⟩ := z
        subst e
        have mono : ∀ {vs' ds}, c.reps G vs' ds → c.reps (upd G b (.tup vs)) vs' ds := fun h => h.mono ex
        have nab : ad ≠ b := fun z => by
          rw [z, hb] at hu
          cases hu
          exact hk.elim
        refine ⟨ad, rfl, ⟨u, hu, ?_⟩, by rw [upd_ne nab]; exact g, h, q⟩
        cases u <;> cases k <;> first | exact hk.elim | exact mono hk | exact ⟨hk.1, mono hk.2⟩ | exact ⟨hk.1, hk.2.1, mono hk.2.2⟩ | exact ⟨hk.1, hk.2.1, hk.2.2.1, mono hk.2.2.2⟩
theorem freezeTs {P : Pot} {σ : L2.St} {H : Hp} {kvs : List (List Key × V)} {bs : List Addr} (h : IsKeys H kvs bs) : ∀ {G : Hp}, Rel c F ρ P σ H G → ∃ G', Rel c F ρ P σ H G' ∧ Ext G G' ∧ c.reps G' (bs.map V.ref) (kvs.map fun p => .tup (p.1.map keyD)) := by
  unfold IsKeys at h
  induction h with
  | nil => exact fun R => ⟨_, R, Ext.refl _, Reps.nil⟩
  | @cons p b kvs bs hb t ih =>
    intro G R
    obtain ⟨G1, R1, e1, h1⟩ := R.freezeT hb
    obtain ⟨G2, R2, e2, h2⟩ := ih R1
    have r := keysV_of (c := c) (G := G2) p.1
    exact ⟨G2, R2, e1.trans e2, Reps.cons (.tup (SqT.of (e2 _ _ h1)) r.1 r.2) h2⟩
/-- list(x), x a dict of one's own with tuples as keys -/
theorem de_listT {i : Nat} {ds : List (List Key × D)} {x y : Str} {p p2 pos : Pos} (hc : X.calm = true) (hi : ρ[i]? = some (.o (.dt ds))) (hx : PE X (.Name x p2) (tVar i)) (hg : Gl X y) (hm : X.mg y = none) (hv : bootBuiltins y = some (.type "list"))
    (hn : y ≠ "__name__" := by decide) (hdb : (y == ("__debug__" : Str)) = false := by decide) (he1 : starEach [.Name x p2] X.env = [(false, eval (.Name x p2) X.env)] := by rfl) :
    PE X (.Call (.Name y p) [.Name x p2] [] pos) (rdE c F W ρ (Pure.pure (.lst (ds.map fun p => .tup (p.1.map keyD))))) := by
  refine pe_by (pe_callTy (call_list_dT hc) hg hm hv (pa_cons hx pa_nil he1) hn hdb he1 rfl) fun σ H Q ⟨P, G, R, q⟩ => ?_
  obtain ⟨a, kvs, ea, ha, rk, -⟩ := own_dt R hi
  refine ⟨.ref a, ea, a, kvs, rfl, .of ha, fun p bs hp hk => ?_⟩
  obtain ⟨G1, R1, e1, r1⟩ := freezeTs hk R
  obtain ⟨R2, e2⟩ := R1.new hp (o := .lst (bs.map V.ref)) nt_lst
  have q2 : ∀ v H' G', Ext G G' → Rel c F ρ P σ H' G' → c.rep G' v (.lst (ds.map fun p => .tup (p.1.map keyD))) → Q v H' := q
  have ed : (kvs.map fun p => D.tup (p.1.map keyD)) = ds.map fun p => D.tup (p.1.map keyD) := by
    have := congrArg (List.map fun k : List Key => D.tup (k.map keyD)) rk.1
    rw [List.map_map, List.map_map] at this
    exact this
  rw [ed] at r1
  exact q2 _ _ _ (e1.trans e2) R2 (.lst upd_same r1.1 fun i v d a b => (r1.2 i v d a b).mono e2)
/-- list(x), x a dict of one's own with ints and texts as keys -/
theorem de_listK {i : Nat} {ds : List (Key × D)} {x y : Str} {p p2 pos : Pos} (hc : X.calm = true) (hi : ρ[i]? = some (.o (.dk ds))) (hx : PE X (.Name x p2) (tVar i)) (hg : Gl X y) (hm : X.mg y = none) (hv : bootBuiltins y = some (.type "list"))
    (hn : y ≠ "__name__" := by decide) (hdb : (y == ("__debug__" : Str)) = false := by decide) (he1 : starEach [.Name x p2] X.env = [(false, eval (.Name x p2) X.env)] := by rfl) :
    PE X (.Call (.Name y p) [.Name x p2] [] pos) (rdE c F W ρ (Pure.pure (.lst (ds.map fun p => keyD p.1)))) := by
  refine pe_by (pe_callTy (call_list_dK hc) hg hm hv (pa_cons hx pa_nil he1) hn hdb he1 rfl) fun σ H Q ⟨P, G, R, q⟩ => ?_
  obtain ⟨a, kvs, ea, ha, rk, -⟩ := own_dk R hi
  refine ⟨.ref a, ea, a, kvs, rfl, ha, fun p hp => ?_⟩
  have r1 := keysV_of (c := c) (G := G) (kvs.map (·.1))
  obtain ⟨R2, e2⟩ := R.new hp (o := .lst (kvs.map fun kv => kV kv.1)) nt_lst
  have q2 : ∀ v H' G', Ext G G' → Rel c F ρ P σ H' G' → c.rep G' v (.lst (ds.map fun p => keyD p.1)) → Q v H' := q
  have ed : (kvs.map (·.1)).map keyD = ds.map fun p => keyD p.1 := by
    rw [rk.1, List.map_map]; rfl
  rw [ed, List.map_map] at r1
  exact q2 _ _ _ e2 R2 (.lst upd_same r1.1 fun i v d a b => (r1.2 i v d a b).mono e2)
end
end DL

namespace DL
open PySem PySem.Spec PyProof.Rows L2
section
variable {c : Cn} {X : Cx} {F : Fr} {W : WX} {ρ : List Sl} {α β : Type}
/-- an object that nobody has becomes one's own -/
theorem Rel.ownAt {P : Pot} {σ : L2.St} {H G : Hp} {i : Nat} {p : Addr} {o : HO} {k : Cel} (R : Rel c F ρ P σ H G) (ho : H p = some o) (r : CelOk c G p o k) (hg : G p = none) (h0 : F.H0 p = none) (na : some p ≠ F.ap)
    (ow : ∀ (i : Nat) k, ρ[i]? = some (.o k) → σ[i]? ≠ some (some (V.ref p))) : Rel c F (ρ.set i (.o k)) P (σ.set i (some (.ref p))) H G := by
  have R2 := R.un (i := i) (x := some (.ref p))
  refine ⟨R2.post, by simpa using R2.len, fun j s x h1 h2 => ?_, fun j j' kk kk' b h1 h2 h3 h4 => ?_⟩
  · by_cases z : i = j
    · subst z
      rw [List.getElem?_set, if_pos rfl] at h1 h2
      split at h1
      · split at h2
        · cases h1; cases h2
          exact ⟨p, rfl, ⟨_, ho, r⟩, hg, h0, na⟩
        · cases h2
      · cases h1
    · rw [List.getElem?_set_ne z] at h1
      exact R2.sl j s x (by rw [List.getElem?_set_ne z]; exact h1) h2
  · have hit : ∀ {m : Nat}, i = m → ∀ {x : Option V}, (σ.set i (some (V.ref p)))[m]? = some x → x = some (.ref p) := fun {m} z {x} h => by
      subst z
      rw [List.getElem?_set, if_pos rfl] at h
      split at h
      · cases h; rfl
      · cases h
    by_cases z : i = j
    · by_cases z' : i = j'
      · rw [← z, ← z']
      · have e := hit z h3
        cases e
        rw [List.getElem?_set_ne z'] at h2 h4
        exact absurd h4 (ow j' kk' h2)
    · by_cases z' : i = j'
      · have e := hit z' h4
        cases e
        rw [List.getElem?_set_ne z] at h1 h3
        exact absurd h3 (ow j kk h1)
      · rw [List.getElem?_set_ne z] at h1 h3
        rw [List.getElem?_set_ne z'] at h2 h4
        exact R.ap j j' kk kk' b h1 h2 h3 h4
def mkDicL (ps : List (Key × D)) : M (List (Key × D)) := if (ps.map (·.1)).Nodup ∧ ps.length ≤ 15 then Pure.pure ps else M.no
/-- x = {k: v, ..} -/
theorem ds_ownDisp {i : Nat} {y : Str} {py dpos spos : Pos} {keys : List (Option Expr)} {values : List Expr} {ls : List (Key × M D)} (hN : X.N.Nodup) (hi : X.N[i]? = some y) (hx : Loc X.env.scope y) (h : PPs X dpos keys values (prs c F.ap W ρ ls))
    (hall : keys.all (·.isSome) = true := by rfl) (hl : keys.length = values.length := by rfl) (h0 : keys ≠ [] := by simp) (h15 : keys.length ≤ 15 := by decide)
    (hs : swapsWith (.Dict keys values dpos) (some (.Name y py)) spos.line X.env = pure false := by rfl) (hf : X.fn y = true ∨ X.env.scope.names.lookup y = some .local := by first | exact .inl rfl | exact .inr rfl | assumption) :
    PS X (.Assign [.Name y py] (.Dict keys values dpos) spos) (rdS c F W ρ (fun ds : List (Key × D) => ρ.set i (.o (.dk ds))) (dicM ls >>= fun ps => mkDicL ps >>= fun ps => Pure.pure (.nx ps))) := by
  refine ps_by (ps_set hN hi hx (pe_disp h hall hl h0 h15) hs hf) fun B σ H ⟨P, G, R, q⟩ p hp => ?_
  have R1 : Rel c F ρ P σ (upd H p (.dK [])) G := R.newM hp
  have gp := R.post.g_none hp
  have h0 := R.post.h0 hp
  have na := R.ne_ap hp
  have ow := R.own_at hp
  refine pairs_rd (G0 := G) (H0 := upd H p (.dK [])) R1.sub (out_mono (out_bind.mp q) (fun ps P2 q2 kvs H2 G2 e2 R2 hk hr => ?_) fun e P' z cl dd H' G' ρ' e' R' x => z cl dd H' G' ρ σ e' (R1.after R'.post) x)
  have A2 := R1.after R2.post
  have hp2 : H2 p = some (.dK []) := R2.post.fr p _ upd_same na nt_dK
  have gp2 : G2 p = none := by
    cases z : G2 p with
    | none => rfl
    | some u =>
      rcases R2.post.new p (by rw [z]; simp) with y | y | ⟨_, y⟩
      · exact absurd gp y
      · have y : upd H p (.dK []) p = none := y
        rw [upd_same] at y; cases y
      · have z := R2.post.le _ _ y
        rw [hp2] at z
        cases z
  have q2 := out_bind.mp q2
  unfold mkDicL at q2
  by_cases hn : (ps.map (·.1)).Nodup ∧ ps.length ≤ 15
  · simp only [if_pos hn] at q2
    have lk : kvs.length = ps.length := by have := congrArg List.length hk; simpa using this
    refine ⟨hp2, kvs, rfl, by omega, ?_⟩
    rw [mergeK_nodup kvs [] (by rw [List.map_nil, List.nil_append, hk]; exact hn.1), List.nil_append]
    have B1 : Rel c F ρ P2 σ (upd H2 p (.dK kvs)) G2 := A2.at gp2 h0 na (fun u e => by rw [hp2] at e; cases e; exact ⟨nofun, nofun⟩) ow
    have q3 : ∀ σ' H' G', Ext G G' → Rel c F (ρ.set i (.o (.dk ps))) P2 σ' H' G' → B.nx σ' H' := q2
    exact q3 _ _ G2 e2 (B1.ownAt upd_same (show CelOk c G2 p (.dK kvs) (.dk ps) from ⟨hk, hr⟩) gp2 h0 na ow)
  · simp only [if_neg hn] at q2
    exact q2.elim
end
end DL

namespace DL
open PySem PySem.Spec PyProof.Rows L2
section
variable {c : Cn} {X : Cx} {F : Fr} {W : WX} {ρ : List Sl}
def isN (n : Str) : D → Bool
  | .ins m _ => decide (m = n)
  | _ => false
/-- one of two readings, as the first value tells -/
theorem de_alt {e : Expr} {m : M D} {f g : D → M D} {t : D → Bool} (h1 : PE X e (rdE c F W ρ (m >>= f))) (h2 : PE X e (rdE c F W ρ (m >>= g))) : PE X e (rdE c F W ρ (m >>= fun d => if t d = true then f d else g d)) := by
  refine ⟨fun pins s σ H Q I ⟨P, G, R, q⟩ => ?_⟩
  have key : ∀ {k : D → M D} (d : D) (p : Pot), m P = .ok d p → k d = (if t d = true then f d else g d) → out (m >>= k) P (fun d P' => ∀ v H' G', Ext G G' → Rel c F ρ P' σ H' G' → c.rep G' v d → Q v H') (exW c F W P G σ) := fun {k} d p hm hk => by
    have a1 : (m >>= k) P = k d p := bind_ok hm
    have a2 : (m >>= fun d => if t d = true then f d else g d) P = (if t d = true then f d else g d) p := bind_ok hm
    unfold out at q ⊢
    rw [a1, hk]
    rw [a2] at q
    exact q
  cases hm : m P with
  | ok d p =>
    by_cases z : t d = true
    · exact h1.run pins s σ H Q I ⟨P, G, R, key d p hm (if_pos z).symm⟩
    · exact h2.run pins s σ H Q I ⟨P, G, R, key d p hm (if_neg z).symm⟩
  | ex e p =>
    have a2 : (m >>= fun d => if t d = true then f d else g d) P = .ex e p := bind_ex hm
    have a1 : (m >>= f) P = .ex e p := bind_ex hm
    refine h1.run pins s σ H Q I ⟨P, G, R, ?_⟩
    unfold out at q ⊢
    rw [a1]
    rw [a2] at q
    exact q
  | no =>
    have a2 : (m >>= fun d => if t d = true then f d else g d) P = .no := bind_no hm
    unfold out at q
    rw [a2] at q
    exact q.elim
end
end DL

/-! list(range(..)), tuple(range(..)) -/
namespace DL
open PySem PySem.Spec PyProof.Rows L2
section
variable {c : Cn} {X : Cx} {F : Fr} {W : WX} {ρ : List Sl}
def rngOk (a b : Int) : Prop := 0 ≤ a ∧ a ≤ 16777216 ∧ 0 ≤ b ∧ b ≤ 16777216
instance {a b : Int} : Decidable (rngOk a b) := by unfold rngOk; infer_instance
def rngL : D → M D
  | .int j => if rngOk 0 j then Pure.pure (.lst (rngs 0 j)) else M.no
  | _ => M.no
def rngT : D → M D
  | .int j => if rngOk 0 j then Pure.pure (.tup (rngs 0 j)) else M.no
  | _ => M.no
def rngL2 : D → D → M D
  | .int i, .int j => if rngOk i j then Pure.pure (.lst (rngs i j)) else M.no
  | _, _ => M.no
def rngT2 : D → D → M D
  | .int i, .int j => if rngOk i j then Pure.pure (.tup (rngs i j)) else M.no
  | _, _ => M.no
theorem reps_rg {G : Hp} (a b : Int) : c.reps G (rgV a b) (rngs a b) := by
  unfold rgV rngs
  refine ⟨by rw [List.length_map, List.length_map], fun i v d h1 h2 => ?_⟩
  rw [List.getElem?_map, Option.map_eq_some_iff] at h1 h2
  obtain ⟨x, hx, rfl⟩ := h1
  obtain ⟨y, hy, rfl⟩ := h2
  rw [hx] at hy
  cases hy
  exact .int _
theorem rng_fin {P : Pot} {σ : L2.St} {H G : Hp} {Q : VK} (R : Rel c F ρ P σ H G) {a b : Int} (q : ∀ v H' G', Ext G G' → Rel c F ρ P σ H' G' → c.rep G' v (.lst (rngs a b)) → Q v H') : ∀ p, H p = none → Q (.ref p) (upd H p (.lst (rgV a b))) := fun p hp => by
  obtain ⟨R2, e2⟩ := R.new hp (o := .lst (rgV a b)) nt_lst
  have r := reps_rg (c := c) (G := upd G p (.lst (rgV a b))) a b
  exact q _ _ _ e2 R2 (.lst upd_same r.1 r.2)
theorem rng_finT {P : Pot} {σ : L2.St} {H G : Hp} {Q : VK} (R : Rel c F ρ P σ H G) {a b : Int} (q : ∀ v H' G', Ext G G' → Rel c F ρ P σ H' G' → c.rep G' v (.tup (rngs a b)) → Q v H') : ∀ p, H p = none → Q (.ref p) (upd H p (.tup (rgV a b))) := fun p hp => by
  obtain ⟨R2, e2⟩ := R.new hp (o := .tup (rgV a b)) nt_tup
  have r := reps_rg (c := c) (G := upd G p (.tup (rgV a b))) a b
  exact q _ _ _ e2 R2 (.tup (SqT.of upd_same) r.1 r.2)
theorem rg_ok {a b : Int} (h : rngOk a b) : RgOk a b := .of_le h.1 h.2.2.2 h.2.1 h.2.2.1
/-- list(range(n)) -/
theorem de_listRg {a : Expr} {p p2 pos pos2 : Pos} {ma : M D} (hc : X.calm = true) (hg : Gl X "list") (hm : X.mg "list" = none) (hg2 : Gl X "range") (hm2 : X.mg "range" = none) (ha : PE X a (rdE c F W ρ ma))
    (na : starEach [a] X.env = (false, eval a X.env) :: starEach [] X.env := by rfl) (nb : starEach [.Call (.Name "range" p2) [a] [] pos2] X.env = (false, eval (.Call (.Name "range" p2) [a] [] pos2) X.env) :: starEach [] X.env := by rfl) :
    PE X (.Call (.Name "list" p) [.Call (.Name "range" p2) [a] [] pos2] [] pos) (rdE c F W ρ (ma >>= rngL)) := by
  refine pe_by (pe_listRg hc hg hm (prg_1 hg2 hm2 ha na) nb) fun σ H Q ⟨P, G, R, q⟩ => ?_
  refine ⟨P, G, R, out_mono (out_bind.mp q) (fun x P1 q1 v H1 G1 e1 R1 r1 => ?_) fun _ _ z => z⟩
  cases x with
  | int j =>
    unfold rngL at q1
    by_cases z : rngOk 0 j
    · simp only [if_pos z] at q1
      have q2 : ∀ v H' G', Ext G G' → Rel c F ρ P1 σ H' G' → c.rep G' v (.lst (rngs 0 j)) → Q v H' := q1
      exact ⟨j, r1.int_of, rg_ok z, rng_fin R1 fun v H' G' e => q2 v H' G' (e1.trans e)⟩
    · simp only [if_neg z] at q1; exact q1.elim
  | _ => exact q1.elim
/-- tuple(range(n)) -/
theorem de_tupRg {a : Expr} {p p2 pos pos2 : Pos} {ma : M D} (hc : X.calm = true) (hg : Gl X "tuple") (hm : X.mg "tuple" = none) (hg2 : Gl X "range") (hm2 : X.mg "range" = none) (ha : PE X a (rdE c F W ρ ma))
    (na : starEach [a] X.env = (false, eval a X.env) :: starEach [] X.env := by rfl) (nb : starEach [.Call (.Name "range" p2) [a] [] pos2] X.env = (false, eval (.Call (.Name "range" p2) [a] [] pos2) X.env) :: starEach [] X.env := by rfl) :
    PE X (.Call (.Name "tuple" p) [.Call (.Name "range" p2) [a] [] pos2] [] pos) (rdE c F W ρ (ma >>= rngT)) := by
  refine pe_by (pe_tupRg hc hg hm (prg_1 hg2 hm2 ha na) nb) fun σ H Q ⟨P, G, R, q⟩ => ?_
  refine ⟨P, G, R, out_mono (out_bind.mp q) (fun x P1 q1 v H1 G1 e1 R1 r1 => ?_) fun _ _ z => z⟩
  cases x with
  | int j =>
    unfold rngT at q1
    by_cases z : rngOk 0 j
    · simp only [if_pos z] at q1
      have q2 : ∀ v H' G', Ext G G' → Rel c F ρ P1 σ H' G' → c.rep G' v (.tup (rngs 0 j)) → Q v H' := q1
      exact ⟨j, r1.int_of, rg_ok z, rng_finT R1 fun v H' G' e => q2 v H' G' (e1.trans e)⟩
    · simp only [if_neg z] at q1; exact q1.elim
  | _ => exact q1.elim
end
end DL

/-! lists of one's own that come from + and * -/
namespace DL
open PySem PySem.Spec PyProof.Rows L2
section
variable {c : Cn} {X : Cx} {F : Fr} {W : WX} {ρ : List Sl}
def mulL : D → D → M (List D)
  | .lst xs, .int k => if -(2 ^ 63) ≤ k ∧ k < 2 ^ 63 ∧ xs.length * k.toNat ≤ sizeLine then Pure.pure (List.replicate k.toNat xs).flatten else M.no
  | _, _ => M.no
def addL : D → D → M (List D)
  | .lst xs, .lst ys => if xs.length + ys.length ≤ sizeLine then Pure.pure (xs ++ ys) else M.no
  | _, _ => M.no
/-- x = e * n, e a list -/
theorem ds_ownMul {i : Nat} {y : Str} {py spos pos : Pos} {a b : Expr} {ma mb : M D} (hN : X.N.Nodup) (hi : X.N[i]? = some y) (hx : Loc X.env.scope y) (ha : PE X a (rdE c F W ρ ma)) (hb : PE X b (rdE c F W ρ mb))
    (hs : swapsWith (.BinOp a .Mult b pos) (some (.Name y py)) spos.line X.env = pure false := by rfl) (hf : X.fn y = true ∨ X.env.scope.names.lookup y = some .local := by first | exact .inl rfl | exact .inr rfl | assumption) :
    PS X (.Assign [.Name y py] (.BinOp a .Mult b pos) spos) (rdS c F W ρ (fun ds => ρ.set i (.o (.l ds))) ((ma >>= fun x => mb >>= fun y => mulL x y) >>= fun ds => Pure.pure (.nx ds))) := by
  refine ds_ownCall hN hi hx (pe_op opr_mul ha hb) (fun σ H Q ⟨P, G, R, q⟩ => ?_) hs hf
  refine ⟨P, G, R, out_mono (out_bind.mp q) (fun x P1 q1 v H1 G1 e1 R1 r1 => ?_) fun _ _ z => z⟩
  refine ⟨P1, G1, R1, out_mono (out_bind.mp q1) (fun y P2 q2 u H2 G2 e2 R2 r2 => ?_) fun _ _ z => exW_le e1 z⟩
  replace r1 := r1.mono e2
  cases x <;> cases y <;> try exact q2.elim
  rename_i xs k
  unfold mulL at q2
  by_cases z : -(2 ^ 63) ≤ k ∧ k < 2 ^ 63 ∧ xs.length * k.toNat ≤ sizeLine
  · simp only [if_pos z] at q2
    have q3 : ∀ H' G' p vs, Ext G G' → Rel c F ρ P2 σ H' G' → H' p = none → c.reps G' vs (List.replicate k.toNat xs).flatten → Q (.ref p) (upd H' p (.lst vs)) := q2
    rw [r2.int_of]
    cases r1 with
    | lst ha hl hr =>
      have rr : c.reps G2 _ (List.replicate k.toNat xs).flatten := Reps.rep ⟨hl, hr⟩ k.toNat
      exact .inr ⟨_, k, _, rfl, rfl, R2.post.le _ _ ha, z.1, z.2.1, by rw [hl]; exact z.2.2, fun p hp => q3 _ _ _ _ (e1.trans e2) R2 hp rr⟩
  · simp only [if_neg z] at q2; exact q2.elim
/-- x = e + f, lists -/
theorem ds_ownAdd {i : Nat} {y : Str} {py spos pos : Pos} {a b : Expr} {ma mb : M D} (hN : X.N.Nodup) (hi : X.N[i]? = some y) (hx : Loc X.env.scope y) (ha : PE X a (rdE c F W ρ ma)) (hb : PE X b (rdE c F W ρ mb))
    (hs : swapsWith (.BinOp a .Add b pos) (some (.Name y py)) spos.line X.env = pure false := by rfl) (hf : X.fn y = true ∨ X.env.scope.names.lookup y = some .local := by first | exact .inl rfl | exact .inr rfl | assumption) :
    PS X (.Assign [.Name y py] (.BinOp a .Add b pos) spos) (rdS c F W ρ (fun ds => ρ.set i (.o (.l ds))) ((ma >>= fun x => mb >>= fun y => addL x y) >>= fun ds => Pure.pure (.nx ds))) := by
  refine ds_ownCall hN hi hx (pe_op opr_add ha hb) (fun σ H Q ⟨P, G, R, q⟩ => ?_) hs hf
  refine ⟨P, G, R, out_mono (out_bind.mp q) (fun x P1 q1 v H1 G1 e1 R1 r1 => ?_) fun _ _ z => z⟩
  refine ⟨P1, G1, R1, out_mono (out_bind.mp q1) (fun y P2 q2 u H2 G2 e2 R2 r2 => ?_) fun _ _ z => exW_le e1 z⟩
  replace r1 := r1.mono e2
  cases x <;> cases y <;> try exact q2.elim
  rename_i xs ys
  unfold addL at q2
  by_cases z : xs.length + ys.length ≤ sizeLine
  · simp only [if_pos z] at q2
    have q3 : ∀ H' G' p vs, Ext G G' → Rel c F ρ P2 σ H' G' → H' p = none → c.reps G' vs (xs ++ ys) → Q (.ref p) (upd H' p (.lst vs)) := q2
    cases r1 with
    | lst ha hl hr =>
      cases r2 with
      | lst hb hl2 hr2 =>
        have rr : c.reps G2 _ (xs ++ ys) := Reps.append ⟨hl, hr⟩ ⟨hl2, hr2⟩
        exact .inr (.inl ⟨_, _, _, _, rfl, rfl, R2.post.le _ _ ha, R2.post.le _ _ hb, by rw [hl, hl2]; exact z, fun p hp => q3 _ _ _ _ (e1.trans e2) R2 hp rr⟩)
  · simp only [if_neg z] at q2; exact q2.elim
end
end DL

/-! lists of one's own: x[i], x[i] = e -/
namespace DL
open PySem PySem.Spec PyProof.Rows L2
section
variable {c : Cn} {X : Cx} {F : Fr} {W : WX} {ρ : List Sl}
theorem own_l {P : Pot} {σ : L2.St} {H G : Hp} {i : Nat} {ds : List D} (R : Rel c F ρ P σ H G) (hi : ρ[i]? = some (.o (.l ds))) : ∃ a vs, σ[i]? = some (some (.ref a)) ∧ H a = some (.lst vs) ∧ c.reps G vs ds := by
  have hl : i < σ.length := by rw [R.len]; exact (List.getElem?_eq_some_iff.mp hi).1
  obtain ⟨a, ea, ⟨o, ho, hk⟩, g, h, n⟩ := R.sl i _ _ hi (List.getElem?_eq_getElem hl)
  cases o with
  | lst vs => exact ⟨a, vs, by rw [List.getElem?_eq_getElem hl, ea], ho, hk⟩
  | _ => exact hk.elim
def ixL (ds : List D) : D → M D
  | .int k => M.some (atI ds k)
  | _ => M.no
def setL (ds : List D) (d : D) : D → M (List D)
  | .int k => M.some ((ixN ds.length k).map fun j => ds.set j d)
  | _ => M.no
theorem reps_atI {G : Hp} {vs : List V} {ds : List D} {k : Int} {d : D} (r : c.reps G vs ds) (h : atI ds k = some d) : ∃ v, atI vs k = some v ∧ c.rep G v d := by
  unfold atI at h ⊢
  rw [r.1]
  cases hj : ixN ds.length k with
  | none => rw [hj] at h; cases h
  | some j =>
    rw [hj] at h
    exact r.get h
/-- x[e] -/
theorem de_ixO {i : Nat} {ds : List D} {x : Str} {p pos : Pos} {b : Expr} {mb : M D} (hK : X.K = c.K) (hi : ρ[i]? = some (.o (.l ds))) (hx : PE X (.Name x p) (tVar i)) (hb : PE X b (rdE c F W ρ mb)) (hs : PlainIx b) : PE X (.Subscript (.Name x p) b pos) (rdE c F W ρ (mb >>= ixL ds)) := by
  refine pe_by (pe_ix (X := X) ix_seq hx hb hs (pos := pos)) fun σ H Q ⟨P, G, R, q⟩ => ?_
  obtain ⟨a, vs, ea, -⟩ := own_l R hi
  refine ⟨.ref a, ea, P, G, R, out_mono (out_bind.mp q) (fun y P1 q1 u H1 G1 e1 R1 r1 => ?_) fun _ _ z => z⟩
  obtain ⟨a', vs1, ea', h1, rv⟩ := own_l R1 hi
  rw [ea] at ea'
  cases ea'
  cases y with
  | int k =>
    obtain ⟨d, hd, q2⟩ := out_some.mp (show out (M.some (atI ds k)) P1 _ _ from q1)
    obtain ⟨v, hv, r2⟩ := reps_atI rv hd
    rw [hK]
    exact .inl ⟨a, vs1, k, v, rfl, r1.int_of, SqL.of h1, hv, q2 v H1 G1 e1 R1 r2⟩
  | _ => exact q1.elim
/-- x[e] = f -/
theorem ds_setO {i : Nat} {ds : List D} {x : Str} {p p2 pos : Pos} {b e : Expr} {mb me : M D} (hi : ρ[i]? = some (.o (.l ds))) (hx : PE X (.Name x p) (tVar i)) (hb : PE X b (rdE c F W ρ mb)) (he : PE X e (rdE c F W ρ me))
    (ha : ∀ v, assign (.Subscript (.Name x p) b p2) X.env v = (do
      let ov ← holding [v] (eval (.Name x p) X.env)
      let iv ← holding [v, ov] (eval b X.env)
      standAt p2
      holding [v, ov, iv] (setItem ov iv v)
      release [v, ov, iv] []) := by intro _; rfl)
    (hs : swapsWithSole [.Subscript (.Name x p) b p2] e pos.line X.env = pure false := by rfl) (hw : swappedStores [.Subscript (.Name x p) b p2] e X.env = pure none := by rfl)
    (h1 : (assignEach [.Subscript (.Name x p) b p2] X.env).map (·.2) = [assign (.Subscript (.Name x p) b p2) X.env] := by rfl) :
    PS X (.Assign [.Subscript (.Name x p) b p2] e pos) (rdS c F W ρ (fun ds => ρ.set i (.o (.l ds))) (me >>= fun d => mb >>= fun y => setL ds d y >>= fun ds => Pure.pure (.nx ds))) := by
  refine ps_by (ps_asg he (pg_sub hx hb set_list ha) hs hw h1) fun B σ H ⟨P, G, R, q⟩ => ?_
  refine ⟨P, G, R, out_mono (out_bind.mp q) (fun d P1 q1 v H1 G1 e1 R1 r1 => ?_) fun _ _ z => exS.w z⟩
  obtain ⟨a, vs, ea, -⟩ := own_l R1 hi
  refine ⟨.ref a, ea, P1, G1, R1, out_mono (out_bind.mp q1) (fun y P2 q2 u H2 G2 e2 R2 r2 => ?_) fun _ _ z => exW_le (P := P) e1 (exS.w z)⟩
  obtain ⟨a', vs2, ea', h2, rv⟩ := own_l R2 hi
  rw [ea] at ea'
  cases ea'
  have q3 := out_bind.mp q2
  cases y with
  | int k =>
    obtain ⟨es, he2, q4⟩ := out_some.mp (show out (M.some ((ixN ds.length k).map fun j => ds.set j d)) P2 _ _ from q3)
    obtain ⟨j, hj, rfl⟩ := Option.map_eq_some_iff.mp he2
    have q5 : ∀ σ' H' G', Ext G G' → Rel c F (ρ.set i (.o (.l (ds.set j d)))) P2 σ' H' G' → B.nx σ' H' := q4
    have hk : CelOk c G2 a (.lst (vs2.set j v)) (.l (ds.set j d)) := Reps.set rv (r1.mono e2) j
    exact ⟨a, vs2, k, j, rfl, r2.int_of, h2, by rw [rv.1]; exact hj, q5 σ _ G2 (e1.trans e2) (R2.upd_own hi ea hk)⟩
  | _ => exact q3.elim
end
end DL

/-! xs[::-1] of a list -/
namespace DL
open PySem PySem.Spec PyProof.Rows L2
section
variable {c : Cn} {X : Cx} {F : Fr} {W : WX} {ρ : List Sl}
def revD : D → M D
  | .lst xs => Pure.pure (.lst xs.reverse)
  | .scr ns => Pure.pure (.lst (ns.map .int).reverse)
  | _ => M.no
theorem Reps.rev {G : Hp} : ∀ {vs : List V} {ds : List D}, c.reps G vs ds → c.reps G vs.reverse ds.reverse
  | [], [], _ => Reps.nil
  | [], _ :: _, h => by have := h.1; simp at this
  | _ :: _, [], h => by have := h.1; simp at this
  | v :: vs, d :: ds, h => by
    rw [List.reverse_cons, List.reverse_cons]
    exact (Reps.rev (Reps.tail h)).append (Reps.cons (Reps.head h) Reps.nil)
theorem de_revL {e : Expr} {k : Nat} {p1 p2 p3 pos : Pos} {m : M D} (hK : X.K = c.K) (he : PE X e (rdE c F W ρ m)) : PE X (.Subscript e (.Slice none none (some (.UnaryOp .USub (.Constant (.int 1) k p1) p2)) p3) pos) (rdE c F W ρ (m >>= revD)) := by
  refine pe_by (pe_revL he) fun σ H Q ⟨P, G, R, q⟩ => ?_
  refine ⟨P, G, R, out_mono (out_bind.mp q) (fun d P1 q1 v H1 G1 e1 R1 r1 => ?_) fun _ _ z => z⟩
  rw [hK]
  cases d with
  | lst xs =>
    cases r1 with
    | @lst a vs _ ha hl hr =>
      refine ⟨a, vs, rfl, SqL.of (R1.post.le _ _ ha), fun p hp => ?_⟩
      obtain ⟨R2, e2⟩ := R1.new hp (o := .lst vs.reverse) nt_lst
      have rr : c.reps G1 vs.reverse xs.reverse := Reps.rev ⟨hl, hr⟩
      have q2 : ∀ v H' G', Ext G G' → Rel c F ρ P1 σ H' G' → c.rep G' v (.lst xs.reverse) → Q v H' := q1
      exact q2 _ _ _ (e1.trans e2) R2 (.lst upd_same rr.1 fun i v d a b => (rr.2 i v d a b).mono e2)
  | scr ns =>
    cases r1 with
    | @scr a _ ha =>
      refine ⟨a, _, rfl, Evl.ex_l R1.post.le ha, fun p hp => ?_⟩
      obtain ⟨R2, e2⟩ := R1.new hp (o := .lst (ns.map V.int).reverse) nt_lst
      have rr : c.reps G1 (ns.map V.int).reverse (ns.map D.int).reverse := Reps.rev (reps_ints ns)
      have q2 : ∀ v H' G', Ext G G' → Rel c F ρ P1 σ H' G' → c.rep G' v (.lst (ns.map D.int).reverse) → Q v H' := q1
      exact q2 _ _ _ (e1.trans e2) R2 (.lst upd_same rr.1 fun i v d a b => (rr.2 i v d a b).mono e2)
  | _ => exact q1.elim
end
end DL

/-! for i, a in enumerate(e), e a list, a tuple or a text that stays -/
namespace DL
open PySem PySem.Spec PyProof.Rows L2
theorem meets_enum1 {v : Value} {o : Obj} {H : Heap → Prop} (B : Begins v o H) :
    Meets (Builtin.«enumerate.__new__» ⟨[.type "enumerate", v], []⟩) (fun _ R s => H s.heap ∧
      R (.ok (.ret (.ref (s.heap.push o).objs.size))) { s with heap := (s.heap.push o).push { cls := .type "enumerate", data := .fields #[.none, .bool false, .ref s.heap.objs.size, rawInt 0, .none, .none] } }) :=
  .of_wp fun prog w A R s h => by
    obtain ⟨hp, g, d, tk, os⟩ := s
    obtain ⟨h1, h⟩ := h
    have hsub := sub_enumerate
    have q1 : ∀ {A' : Around} {E : Value → Shared → Prop} {Q : Value → Shared → Prop}, Q (.ref hp.objs.size) ⟨hp.push o, g, d, tk, os⟩ → wpAny (model prog w) A' (pyIter v) Q E ⟨hp, g, d, tk, os⟩ :=
      fun q => B.iter prog w _ _ ⟨hp, g, d, tk, os⟩ _ h1 q
    wp_walk using q1
    refine wpAny_stack_any fun st => wpAny_pure ?_
    split
    · rename_i c _ _ _ _ _
      cases (c == Value.type "enumerate") <;> (wp_walk using q1; exact ⟨_, rfl, h⟩)
    · wp_walk using q1
      exact ⟨_, rfl, h⟩
theorem enum_begins1 {prog : Program} {w : World} {A : Around} {E : Value → Shared → Prop} {s : Shared} {v : Value} {o : Obj} {H : Heap → Prop} {Q : Value → Shared → Prop} (B : Begins v o H) (h1 : H s.heap)
    (h : ∀ h', IsEnum h' (s.heap.objs.size + 1) s.heap.objs.size 0 .none → h'.get? s.heap.objs.size = some o → h'.objs.size = s.heap.objs.size + 2 →
      (∀ b o, s.heap.get? b = some o → h'.get? b = some o) → Q (.ref (s.heap.objs.size + 1)) { s with heap := h' }) :
    wpAny (model prog w) A (call (.type "enumerate") [v]) Q E s := by
  refine callType_new F.called_enumerate (by decide) (F.typeCall_enumerate_1 _) (F.newCall_enumerate_1 _) (fun obj => F.args_object_init_2 obj _) F.entry_enumerate_new
    (meets_enum1 B) ⟨h1, ?_⟩
  have hz : (s.heap.push o).objs.size = s.heap.objs.size + 1 := Heap.size_push ..
  show _ ∧ _
  rw [hz]
  have he : IsEnum ((s.heap.push o).push { cls := .type "enumerate", data := .fields #[.none, .bool false, .ref s.heap.objs.size, rawInt 0, .none, .none] }) (s.heap.objs.size + 1) s.heap.objs.size 0 .none := by
    have := Heap.get?_push_size (s.heap.push o) (o := { cls := .type "enumerate", data := .fields #[.none, .bool false, .ref s.heap.objs.size, rawInt 0, .none, .none] }) rfl
    rw [hz] at this; exact this
  exact ⟨⟨_, he, rfl⟩, h _ he (Heap.get?_push_of_some _ (Heap.get?_push_size _ B.free)) (by rw [Heap.size_push, hz]) fun b o x => Heap.get?_push_of_some _ (Heap.get?_push_of_some _ x)⟩
def ItE (K : PySem.W.Frag) (A : SV) : It :=
  ⟨fun i H => ∃ n v, A.len K H n ∧ A.at' K H i v ∧ i < n,
    fun i H v H' => ∃ T x, v = .ref T ∧ H T = none ∧ H' = upd H T (.tup [.int (i : Nat), x]) ∧ ∀ x', A.at' K H i x' → x' = x,
    fun i H => A.len K H i⟩
theorem turn_E {P : Program} {w : World} {K : PySem.W.Frag} {elts : List Expr} {kk : Nat} {tpos : Pos} {A : SV} {e it : Addr} (n1 : ∀ a, (A = .l a ∨ A = .t a) → a ≠ it) (hne : e ≠ it) (hef : e ∉ A.fp it) :
    Turn P w K (.Tuple elts kk tpos) (ItE K A) [e, it] e (fun i h => (∃ old, IsEnum h e it ((i : Nat) : Int) old) ∧ A.it h it i) where
  mem := by simp
  obj := fun i h ⟨⟨old, he⟩, h1⟩ b hb => by
    have hb : b = e ∨ b = it := by simpa using hb
    rcases hb with rfl | rfl
    · exact ⟨_, he, fun v q => nomatch q⟩
    · exact SV.it_obj h1
  keep := fun i h h' ⟨⟨old, he⟩, h1⟩ f => ⟨⟨old, f e (by simp) _ he⟩, SV.it_at h1 (f it (by simp))⟩
  item := by
    intro X hP hw hK hc i pins s σ H E I hf ⟨⟨old, he⟩, h1⟩ ⟨n, v, ln, av, hn⟩
    subst hP hw hK
    have hh : X.A.in1.handled = none := I.ok.hd hc
    obtain ⟨R1, T1, d1, t1, r1, q1⟩ := SV.draws (A := X.A.in1) I hh ln n1
    have hel : e < s.heap.objs.size := Heap.lt_size he
    refine wpAny_pyNext_enum_itemD d1.dr he (t1 i h1) hn hne hef fun x h' tk px ho g1 hT hsz hk => ?_
    refine ⟨_, rfl, wpAny_letOwnedTupleGo_enum (s := { s with heap := h', toks := tk + 1 }) ho fun h'' he' sb => ?_⟩
    have hT2 : h''.get? s.heap.objs.size = some { cls := .type "tuple", data := .seq #[.int i tk, x] } := (sb.2 _ (Nat.ne_of_gt hel)).trans hT
    have new : ObjOk X.prog X.w (upd H s.heap.objs.size (.tup [.int (i : Nat), v])) h'' s.heap.objs.size (.tup [.int (i : Nat), v]) :=
      ⟨by show 2 ≤ sizeLine; decide, [.int i tk, x], .cons ⟨_, rfl⟩ (.cons (r1 _ _ _ av px) .nil), ⟨_, hT2, rfl, _, rfl⟩⟩
    have I1 : Inv X pins σ (upd H s.heap.objs.size (.tup [.int (i : Nat), v])) { s with heap := h'', toks := tk + 1 } :=
      I.turnedNew (ch := [e, it]) (fun b ob hb q => (sb.2 b (fun z => hb (by simp [z]))).trans (hk b ob (fun z => hb (by simp [z])) (fun z => hb (by simp [z])) q)) hf (Nat.le_refl _) new
    refine ⟨.ref s.heap.objs.size, _, I1, rfl, ⟨_, v, rfl, I.hok.fresh (Nat.le_refl _), rfl, fun x' hx => q1 _ _ _ av hx⟩, ⟨⟨x, ?_⟩, ?_⟩, fun b hb => ?_⟩
    · have e1 : ((i + 1 : Nat) : Int) = (i : Int) + 1 := by omega
      rw [e1]; exact he'
    · exact SV.it_at (d1.of _ _ g1) fun o q => (sb.2 _ (Ne.symm hne)).trans q
    · have hlt : b < s.heap.objs.size := by
        have hb' : b = e ∨ b = it := by simpa using hb
        rcases hb' with rfl | rfl
        · exact hel
        · obtain ⟨o, e, _⟩ := SV.it_obj h1; exact Heap.lt_size e
      rw [upd_ne (Nat.ne_of_lt hlt)]
      exact (hf b hb).1
  done := by
    intro X hP hw hK hc i pins s σ H E I hf ⟨⟨old, he⟩, h1⟩ ln
    subst hP hw hK
    have hh : X.A.in1.handled = none := I.ok.hd hc
    obtain ⟨R1, T1, d1, t1, r1, q1⟩ := SV.draws (A := X.A.in1) I hh ln n1
    obtain ⟨f0, f1, f2, f3, f4, f5⟩ := hf it (by simp)
    exact wpAny_pyNext_enum_endD d1.dr he (t1 i h1) fun h' eb => ⟨rfl, I.turned (t' := s.toks) (fun b o hb q => eb b o hb q) f0 f1 f3 f4 f5⟩
  self := fun A i s Q E st h => let ⟨⟨_, he⟩, _⟩ := st; wpAny_pyIter_enum he h
def enumL (xs : List D) : List D := xs.mapIdx fun i d => .tup [.int (i : Nat), d]
def enumD (d : D) : M (List D) := iterA d >>= fun xs => Pure.pure (enumL xs)
section
variable {c : Cn} {F : Fr} {W : WX} {ρ : List Sl} {X : Cx}
theorem goes_enum {A : SV} {xs : List D} {G : Hp} {K : PySem.W.Frag} (hK : K = c.K) (a : Src c G A xs) : Goes c (ItE K A) (enumL xs) G := by
  subst hK
  intro F ρ i P σ H G1 e R
  have la := a.len H G1 e R.post.le
  have lz : (enumL xs).length = xs.length := by unfold enumL; rw [List.length_mapIdx]
  refine ⟨fun hi => ?_, fun d hd => ?_⟩
  · show A.len c.K H i
    rw [← hi, lz]; exact la
  unfold enumL at hd
  rw [List.getElem?_mapIdx, Option.map_eq_some_iff] at hd
  obtain ⟨x, hx, rfl⟩ := hd
  obtain ⟨v, h1, r1⟩ := a.at' H G1 i x e R.post.le hx
  refine ⟨⟨_, v, la, h1, (List.getElem?_eq_some_iff.mp hx).1⟩, fun z H' q => ?_⟩
  obtain ⟨T, v', rfl, hT, rfl, q1⟩ := q
  obtain rfl := q1 _ h1
  obtain ⟨R2, e2⟩ := R.new hT nt_tup
  have rr : c.reps G1 [.int (i : Nat), v] [.int (i : Nat), x] := .cons (.int _) (.cons r1 .nil)
  exact ⟨_, e2, R2, .tup (SqT.of upd_same) rr.1 fun i v d a b => (rr.2 i v d a b).mono e2⟩
/-- over enumerate(e) -/
theorem di_enum {e : Expr} {m : M D} {p pos tpos : Pos} {elts : List Expr} {kk : Nat} (hK : X.K = c.K) (hg : Gl X "enumerate") (hm : X.mg "enumerate" = none) (ha : PE X e (rdE c F W ρ m))
    (hs : starEach [e] X.env = [(false, eval e X.env)] := by rfl) :
    PI X (.Tuple elts kk tpos) (.Call (.Name "enumerate" p) [e] [] pos) (rdI c F W ρ (m >>= enumD)) := by
  refine ⟨fun pins s σ H R I ⟨P, G, Rl, q⟩ => ?_⟩
  have step := (pa_cons ha pa_nil hs).run pos pins s σ H (fun vs H1 => ∃ P1 G1 v x xs, vs = [v] ∧ Rel c F ρ P1 σ H1 G1 ∧ c.rep G1 v x ∧ iterA x P1 = .ok xs P1 ∧ ∀ J H' G', Ext G1 G' → Rel c F ρ P1 σ H' G' → Goes c J (enumL xs) G' → R J H') I
    ⟨P, G, Rl, out_mono (out_bind.mp q) (fun x P1 q1 v H1 G1 e1 R1 r1 => ?_) fun _ _ z => z⟩
  · refine Call_ (ld_blt I hg hm boot_enumerate (PyProof.Rows.callWith_type1 (thn step fun us s1 ⟨vs, H1, I1, rv, P1, G1, v, x, xs, hv, R1, rs, hx, go⟩ => ?_) hs rfl))
    subst hv
    cases rv with
    | cons w1 rr =>
    cases rr
    obtain ⟨A, o1, H1', b1, hb1, i1, f1, s1'⟩ := src_of hK I1 R1 rs w1 hx
    have mA : s1.heap.objs.size + 1 ∉ A.fp s1.heap.objs.size := fun hb => by
      cases A with
      | l a => rcases List.mem_cons.mp hb with z | z; exact absurd z (Nat.succ_ne_self _); rw [List.mem_singleton] at z; have := f1 a (.inl rfl); rw [← z] at this; exact absurd this (by show ¬ (s1.heap.objs.size + 1 < s1.heap.objs.size); omega)
      | t a => rcases List.mem_cons.mp hb with z | z; exact absurd z (Nat.succ_ne_self _); rw [List.mem_singleton] at z; have := f1 a (.inr rfl); rw [← z] at this; exact absurd this (by show ¬ (s1.heap.objs.size + 1 < s1.heap.objs.size); omega)
      | s x t => exact absurd (List.mem_singleton.mp hb) (Nat.succ_ne_self _)
    refine enum_begins1 b1 hb1 fun h' he g1 hsz hk => wpAny_pyIter_enum he ?_
    have I2 : Inv X pins σ H1 { s1 with heap := h' } := I1.kept (t' := s1.toks) hk
    refine ⟨s1.heap.objs.size + 1, [s1.heap.objs.size + 1, s1.heap.objs.size], _, ItE X.K A, H1, rfl, I2, turn_E (fun a h => Nat.ne_of_lt (f1 a h)) (Nat.succ_ne_self _) mA, ⟨⟨.none, he⟩, i1 _ _ g1⟩, fun b hb => ?_, go _ _ G1 (Ext.refl _) R1 (goes_enum hK s1')⟩
    have e' : b = s1.heap.objs.size + 1 ∨ b = s1.heap.objs.size := by simpa using hb
    have hle : s1.heap.objs.size ≤ b := by
      rcases e' with z | z
      · rw [z]; exact Nat.le_add_right _ _
      · rw [z]; exact Nat.le_refl _
    exact I1.fpOk hle (I1.hok.fresh hle)
  · have q3 := out_bind.mp (show out (iterA x >>= fun xs => Pure.pure (enumL xs)) P1 _ _ from q1)
    unfold out at q3
    cases hx : iterA x P1 with
    | no => rw [hx] at q3; exact q3.elim
    | ex e p => cases x <;> cases hx
    | ok xs p1 =>
      rw [hx] at q3
      obtain ⟨rfl, hx'⟩ := iter_ok hx
      exact ⟨_, G1, v, x, xs, rfl, R1, r1, hx', fun J H' G' e R' go => q3 J H' G' (e1.trans e) R' go⟩
end
end DL

/-! a dict of one's own whose values are lists of one's own: made by a comprehension, d[k][i] = .., let go -/
namespace DL
open PySem PySem.Spec PyProof.Rows L2
abbrev zipR {β : Type} (kvs : List (Key × β)) (bs : List Addr) : List (Key × V) := List.zipWith (fun kv b => (kv.1, V.ref b)) kvs bs
structure Deep (c : Cn) (F : Fr) (G H : Hp) (a : Addr) (kvs : List (Key × List D)) : Prop where
  ex : ∃ bs : List Addr, bs.length = kvs.length ∧ bs.Nodup ∧ H a = some (.dK (zipR kvs bs)) ∧
    ∀ (i : Nat) (kv : Key × List D) (b : Addr), kvs[i]? = some kv → bs[i]? = some b → (∃ vs, H b = some (.lst vs) ∧ c.reps G vs kv.2) ∧ G b = none ∧ F.H0 b = none ∧ some b ≠ F.ap
  nd : (kvs.map (·.1)).Nodup
  g : G a = none
  h : F.H0 a = none
  p : some a ≠ F.ap
section
variable {c : Cn} {X : Cx} {F : Fr} {W : WX} {ρ : List Sl}
theorem Post.still {ap : Option Addr} {G H G' H' : Hp} {P : Pot} {a : Addr} {o : HO} (q : Post c ap G H P G' H') (ha : H a = some o) (nt : noTbl o) (ntp : ∀ vs, o ≠ .tup vs) (hg : G a = none) (na : some a ≠ ap) : H' a = some o ∧ G' a = none := by
  have hh := q.fr a o ha na nt
  refine ⟨hh, ?_⟩
  cases z : G' a with
  | none => rfl
  | some u =>
    rcases q.new a (by rw [z]; simp) with h | h | ⟨vs, h⟩
    · exact absurd hg h
    · rw [ha] at h; cases h
    · have y := q.le _ _ h
      rw [hh] at y
      cases y
      exact absurd rfl (ntp vs)
theorem Deep.after {P : Pot} {G H G' H' : Hp} {a : Addr} {kvs : List (Key × List D)} (d : Deep c F G H a kvs) (q : Post c F.ap G H P G' H') : Deep c F G' H' a kvs := by
  obtain ⟨⟨bs, hl, hn, ha, hb⟩, nd, g, h, p⟩ := d
  obtain ⟨ha', g'⟩ := q.still ha nt_dK nofun g p
  refine ⟨⟨bs, hl, hn, ha', fun i kv b h1 h2 => ?_⟩, nd, g', h, p⟩
  obtain ⟨⟨vs, k1, k2⟩, k3, k4, k5⟩ := hb i kv b h1 h2
  obtain ⟨k1', k3'⟩ := q.still k1 nt_lst nofun k3 k5
  exact ⟨⟨vs, k1', k2.mono q.ext⟩, k3', k4, k5⟩
theorem find_of {β : Type} : ∀ {ws : List (Key × β)} {j : Nat} {k : Key} {v : β}, (ws.map (·.1)).Nodup → ws[j]? = some (k, v) → (ws.find? fun kv => decide (kv.1 = k)).map (·.2) = some v
  | [], _, _, _, _, h => by simp at h
  | p :: ws, 0, k, v, _, h => by
    simp only [List.getElem?_cons_zero, Option.some.injEq] at h
    subst h
    simp
  | p :: ws, j + 1, k, v, nd, h => by
    rw [List.getElem?_cons_succ] at h
    rw [List.map_cons, List.nodup_cons] at nd
    have ne : p.1 ≠ k := fun z => nd.1 (by rw [z]; exact List.mem_map.mpr ⟨(k, v), List.mem_of_getElem? h, rfl⟩)
    rw [List.find?_cons, decide_eq_false ne]
    exact find_of nd.2 h
theorem find_at {β : Type} {ws : List (Key × β)} {k : Key} {v : β} (h : (ws.find? fun kv => decide (kv.1 = k)).map (·.2) = some v) : ∃ j : Nat, ws[j]? = some (k, v) := by
  rw [Option.map_eq_some_iff] at h
  obtain ⟨kv, h, rfl⟩ := h
  have hk := List.find?_some h
  obtain ⟨j, hj⟩ := List.mem_iff_getElem?.mp (List.mem_of_find?_eq_some h)
  exact ⟨j, by rw [hj]; have : kv.1 = k := by simpa using hk
               rw [← this]⟩
theorem zipR_keys {β : Type} : ∀ {kvs : List (Key × β)} {bs : List Addr}, bs.length = kvs.length → (zipR kvs bs).map (·.1) = kvs.map (·.1)
  | [], [], _ => rfl
  | [], _ :: _, h => by simp at h
  | _ :: _, [], h => by simp at h
  | p :: kvs, b :: bs, h => by
    have := zipR_keys (kvs := kvs) (bs := bs) (by simpa using h)
    simp only [zipR, List.zipWith_cons_cons, List.map_cons] at this ⊢
    rw [this]
theorem zipR_at {β : Type} {kvs : List (Key × β)} {bs : List Addr} {i : Nat} {kv : Key × β} {b : Addr} (h1 : kvs[i]? = some kv) (h2 : bs[i]? = some b) : (zipR kvs bs)[i]? = some (kv.1, .ref b) := by
  unfold zipR
  rw [List.getElem?_zipWith, h1, h2]
theorem nodup_at {α : Type} {xs : List α} (h : xs.Nodup) {i j : Nat} {x : α} (h1 : xs[i]? = some x) (h2 : xs[j]? = some x) : i = j := by
  exact (List.getElem?_inj (List.getElem?_eq_some_iff.mp h1).1 h).mp (h1.trans h2.symm)
/-- d[k] -/
theorem Deep.get {G H : Hp} {a : Addr} {kvs : List (Key × List D)} (d : Deep c F G H a kvs) {k : Key} {ds : List D} (h : (kvs.find? fun kv => decide (kv.1 = k)).map (·.2) = some ds) :
    ∃ b vs, DGet H a (kV k) (some (.ref b)) ∧ H b = some (.lst vs) ∧ c.reps G vs ds ∧
      ∀ vs' ds', c.reps G vs' ds' → Deep c F G (upd H b (.lst vs')) a (kvs.map fun kv => if kv.1 = k then (kv.1, ds') else kv) ∧ (∀ {P σ}, (∀ (i : Nat) k, ρ[i]? ≠ some (.o k)) → Rel c F ρ P σ H G → Rel c F ρ P σ (upd H b (.lst vs')) G) := by
  obtain ⟨⟨bs, hl, hn, ha, hb⟩, nd, g, h0, p⟩ := d
  obtain ⟨j, hj⟩ := find_at h
  have jl : j < bs.length := by rw [hl]; exact (List.getElem?_eq_some_iff.mp hj).1
  have ej : bs[j]? = some bs[j] := List.getElem?_eq_getElem jl
  obtain ⟨⟨vs, k1, k2⟩, k3, k4, k5⟩ := hb j _ _ hj ej
  have nab : a ≠ bs[j] := fun z => by rw [z, k1] at ha; cases ha
  refine ⟨bs[j], vs, .inl ⟨_, k, .of ha, rfl, (find_of (by rw [zipR_keys hl]; exact nd) (zipR_at hj ej)).symm⟩, k1, k2, fun vs' ds' r => ⟨⟨⟨bs, by simpa using hl, hn, ?_, fun i kv b h1 h2 => ?_⟩, ?_, g, h0, p⟩, fun {P σ} no R => ?_⟩⟩
  · rw [upd_ne nab, ha]
    congr 2
    unfold zipR
    rw [List.zipWith_map_left]
    congr 1
    funext kv b
    split <;> rfl
  · rw [List.getElem?_map, Option.map_eq_some_iff] at h1
    obtain ⟨kv0, h1, rfl⟩ := h1
    obtain ⟨⟨ws, m1, m2⟩, m3, m4, m5⟩ := hb i kv0 b h1 h2
    by_cases z : i = j
    · subst z
      rw [hj] at h1
      cases h1
      rw [ej] at h2
      cases h2
      refine ⟨⟨vs', upd_same, ?_⟩, k3, k4, k5⟩
      simpa using r
    · have nb : b ≠ bs[j] := fun q => z (nodup_at hn h2 (by rw [q]; exact ej))
      have nk : kv0.1 ≠ k := fun q => z (nodup_at nd (by rw [List.getElem?_map, h1]; exact congrArg some q) (by rw [List.getElem?_map, hj]; rfl))
      rw [if_neg nk]
      exact ⟨⟨ws, by rw [upd_ne nb]; exact m1, m2⟩, m3, m4, m5⟩
  · have : (kvs.map fun kv => if kv.1 = k then (kv.1, ds') else kv).map (·.1) = kvs.map (·.1) := by
      rw [List.map_map]
      apply List.map_congr_left
      intro kv _
      show (if kv.1 = k then (kv.1, ds') else kv).1 = kv.1
      split <;> rfl
    rw [this]; exact nd
  · exact R.at k3 k4 k5 (fun u e => by rw [k1] at e; cases e; exact ⟨nofun, nofun⟩) fun i kk hi => absurd hi (no i kk)
/-- a new list more -/
theorem Deep.push {G H : Hp} {P : Pot} {σ : L2.St} {a q : Addr} {kvs : List (Key × List D)} {k : Key} {vs : List V} {ds : List D} (R : Rel c F ρ P σ H G) (d : Deep c F G H a kvs) (hq : H q = none) (r : c.reps G vs ds) (hk : k ∉ kvs.map (·.1)) :
    ∃ ws, upd H q (.lst vs) a = some (.dK ws) ∧ ws.length = kvs.length ∧ Deep c F G (upd (upd H q (.lst vs)) a (.dK (putK ws k (.ref q)))) a (kvs ++ [(k, ds)]) := by
  obtain ⟨⟨bs, hl, hn, ha, hb⟩, nd, g, h0, p⟩ := d
  have nqa : a ≠ q := fun z => by rw [z, hq] at ha; cases ha
  have nin : ∀ b, b ∈ bs → b ≠ q ∧ b ≠ a := fun b hb' => by
    obtain ⟨i, hi⟩ := List.mem_iff_getElem?.mp hb'
    have il : i < kvs.length := by rw [← hl]; exact (List.getElem?_eq_some_iff.mp hi).1
    obtain ⟨⟨ws, m1, _⟩, _⟩ := hb i _ b (List.getElem?_eq_getElem il) hi
    exact ⟨fun z => (by rw [z, hq] at m1; cases m1), fun z => (by rw [z, ha] at m1; cases m1)⟩
  have lz : (zipR kvs bs).length = kvs.length := by unfold zipR; rw [List.length_zipWith, hl, Nat.min_self]
  refine ⟨_, by rw [upd_ne nqa]; exact ha, lz, ⟨bs ++ [q], by simp [hl], ?_, ?_, fun i kv b h1 h2 => ?_⟩, ?_, g, h0, p⟩
  · rw [List.nodup_append]
    refine ⟨hn, by simp, fun x hx y hy => ?_⟩
    rw [List.mem_singleton.mp hy]
    exact (nin x hx).1
  · rw [upd_same]
    have hz : ((zipR kvs bs).any fun kv => decide (kv.1 = k)) = false := by
      rw [List.any_eq_false]
      intro kv hkv z
      have : kv.1 = k := by simpa using z
      refine hk ?_
      rw [← zipR_keys hl, ← this]
      exact List.mem_map.mpr ⟨kv, hkv, rfl⟩
    unfold putK
    rw [hz, if_neg (by simp)]
    congr 2
    unfold zipR
    rw [List.zipWith_append hl.symm]
    rfl
  · by_cases z : i < kvs.length
    · rw [List.getElem?_append_left z] at h1
      rw [List.getElem?_append_left (by rw [hl]; exact z)] at h2
      obtain ⟨⟨ws, m1, m2⟩, m3⟩ := hb i kv b h1 h2
      obtain ⟨n1, n2⟩ := nin b (List.mem_of_getElem? h2)
      exact ⟨⟨ws, by rw [upd_ne n2, upd_ne n1]; exact m1, m2⟩, m3⟩
    · have e : i = kvs.length := by
        have := (List.getElem?_eq_some_iff.mp h1).1
        simp at this
        omega
      subst e
      rw [List.getElem?_append_right (Nat.le_refl _), Nat.sub_self] at h1
      rw [List.getElem?_append_right (Nat.le_of_eq hl), hl, Nat.sub_self] at h2
      cases h1
      cases h2
      exact ⟨⟨vs, by rw [upd_ne (Ne.symm nqa), upd_same], r⟩, R.post.g_none hq, R.post.h0 hq, R.ne_ap hq⟩
  · rw [List.map_append, List.nodup_append]
    refine ⟨nd, by simp, fun x hx y hy => ?_⟩
    have : y = k := by simpa using hy
    rw [this]
    exact fun z => hk (by rw [← z]; exact hx)
/-- all of them are let go -/
theorem freezeL {P : Pot} {σ : L2.St} {H : Hp} (no : ∀ (i : Nat) k, ρ[i]? ≠ some (.o k)) : ∀ (bs : List Addr) {G : Hp}, Rel c F ρ P σ H G → bs.Nodup → (∀ b, b ∈ bs → (∃ vs, H b = some (.lst vs)) ∧ G b = none ∧ F.H0 b = none ∧ some b ≠ F.ap) →
    ∃ G', Ext G G' ∧ Rel c F ρ P σ H G' ∧ (∀ b, b ∈ bs → G' b = H b) ∧ ∀ b, b ∉ bs → G' b = G b
  | [], G, R, _, _ => ⟨G, Ext.refl _, R, fun _ h => by simp at h, fun _ _ => rfl⟩
  | b :: bs, G, R, nd, h => by
    obtain ⟨⟨vs, h1⟩, h2, h3, h4⟩ := h b List.mem_cons_self
    rw [List.nodup_cons] at nd
    obtain ⟨R1, e1⟩ := R.freeze h1 nt_lst h3 h4 (fun i kk hi => absurd hi (no i kk)) h2
    obtain ⟨G', e2, R2, k1, k2⟩ := freezeL no bs R1 nd.2 fun x hx => by
      obtain ⟨a1, a2, a3⟩ := h x (List.mem_cons_of_mem _ hx)
      exact ⟨a1, by rw [upd_ne (fun z => nd.1 (by rw [← z]; exact hx))]; exact a2, a3⟩
    refine ⟨G', e1.trans e2, R2, fun x hx => ?_, fun x hx => ?_⟩
    · rcases List.mem_cons.mp hx with z | z
      · rw [z, k2 b nd.1, upd_same, h1]
      · exact k1 x z
    · rw [k2 x fun z => hx (List.mem_cons_of_mem _ z), upd_ne fun z => hx (by rw [z]; exact List.mem_cons_self)]
def dicL (kvs : List (Key × List D)) : D := dicD (kvs.map fun kv => (kv.1, .lst kv.2))
theorem Deep.letgo {P : Pot} {σ : L2.St} {G H : Hp} {a : Addr} {kvs : List (Key × List D)} (no : ∀ (i : Nat) k, ρ[i]? ≠ some (.o k)) (R : Rel c F ρ P σ H G) (d : Deep c F G H a kvs) : ∃ G', Ext G G' ∧ Rel c F ρ P σ H G' ∧ c.rep G' (.ref a) (dicL kvs) := by
  obtain ⟨⟨bs, hl, hn, ha, hb⟩, nd, g, h0, p⟩ := d
  have at' : ∀ b, b ∈ bs → ∃ i kv, kvs[i]? = some kv ∧ bs[i]? = some b := fun b hb' => by
    obtain ⟨i, hi⟩ := List.mem_iff_getElem?.mp hb'
    have il : i < kvs.length := by rw [← hl]; exact (List.getElem?_eq_some_iff.mp hi).1
    exact ⟨i, _, List.getElem?_eq_getElem il, hi⟩
  obtain ⟨G1, e1, R1, k1, k2⟩ := freezeL no bs R hn fun b hb' => by
    obtain ⟨i, kv, h1, h2⟩ := at' b hb'
    obtain ⟨⟨vs, m1, _⟩, m2⟩ := hb i kv b h1 h2
    exact ⟨⟨vs, m1⟩, m2⟩
  have na : a ∉ bs := fun z => by
    obtain ⟨i, kv, h1, h2⟩ := at' a z
    obtain ⟨⟨vs, m1, _⟩, m2⟩ := hb i kv a h1 h2
    rw [ha] at m1; cases m1
  obtain ⟨R2, e2⟩ := R1.freeze ha nt_dK h0 p (fun i kk hi => absurd hi (no i kk)) (by rw [k2 a na]; exact g)
  refine ⟨_, e1.trans e2, R2, .dicK upd_same ?_ fun i kv dv h1 h2 => ?_⟩
  · have : (zipR kvs bs).map (fun p => keyD p.1) = ((zipR kvs bs).map (·.1)).map keyD := by rw [List.map_map]; rfl
    rw [this, zipR_keys hl, List.map_map, List.map_map, List.map_map]
    rfl
  · rw [List.map_map, List.getElem?_map, Option.map_eq_some_iff] at h2
    obtain ⟨q, h2, rfl⟩ := h2
    have il : i < bs.length := by rw [hl]; exact (List.getElem?_eq_some_iff.mp h2).1
    have hi : bs[i]? = some bs[i] := List.getElem?_eq_getElem il
    rw [zipR_at h2 hi] at h1
    cases h1
    obtain ⟨⟨vs, m1, m2⟩, _⟩ := hb i q _ h2 hi
    have mem : bs[i] ∈ bs := List.mem_of_getElem? hi
    refine .lst (vs := vs) (e2 _ _ (by rw [k1 _ mem]; exact m1)) m2.1 fun j v d x y => (m2.2 j v d x y).mono (e1.trans e2)
end
end DL

/-! the statements over such a dict -/
namespace DL
open PySem PySem.Spec PyProof.Rows L2
section
variable (c : Cn) (F : Fr) (W : WX) (ρ : List Sl)
/-- a new list that nobody has yet -/
def rdNew (m : M (List D)) : TE := fun σ H Q => ∃ P G, Rel c F ρ P σ H G ∧ out m P (fun ds P' => ∀ H' G' p vs, Ext G G' → Rel c F ρ P' σ H' G' → H' p = none → c.reps G' vs ds → Q (.ref p) (upd H' p (.lst vs))) (exW c F W P G σ)
def RelQ (i : Nat) (kvs : List (Key × List D)) (P : Pot) (σ : L2.St) (H G : Hp) : Prop := Rel c F ρ P σ H G ∧ ∃ a, σ[i]? = some (some (V.ref a)) ∧ Deep c F G H a kvs
def rdQ0 (i : Nat) (m : M (List (Key × List D))) : TS := fun B σ H => ∃ P G, Rel c F ρ P σ H G ∧ out m P (fun kvs P' => ∀ σ' H' G', Ext G G' → RelQ c F ρ i kvs P' σ' H' G' → B.nx σ' H') (exS c F W P G σ)
def rdQ (i : Nat) (m : List (Key × List D) → M (List (Key × List D))) : TS := fun B σ H => ∃ P G kvs, RelQ c F ρ i kvs P σ H G ∧ out (m kvs) P (fun kvs' P' => ∀ σ' H' G', Ext G G' → RelQ c F ρ i kvs' P' σ' H' G' → B.nx σ' H') (exS c F W P G σ)
end
section
variable {c : Cn} {X : Cx} {F : Fr} {W : WX} {ρ : List Sl}
theorem pe_newMul {a b : Expr} {pos : Pos} {ma mb : M D} (ha : PE X a (rdE c F W ρ ma)) (hb : PE X b (rdE c F W ρ mb)) : PE X (.BinOp a .Mult b pos) (rdNew c F W ρ (ma >>= fun x => mb >>= fun y => mulL x y)) := by
  refine pe_by (pe_op opr_mul ha hb) fun σ H Q ⟨P, G, R, q⟩ => ?_
  refine ⟨P, G, R, out_mono (out_bind.mp q) (fun x P1 q1 v H1 G1 e1 R1 r1 => ?_) fun _ _ z => z⟩
  refine ⟨P1, G1, R1, out_mono (out_bind.mp q1) (fun y P2 q2 u H2 G2 e2 R2 r2 => ?_) fun _ _ z => exW_le e1 z⟩
  replace r1 := r1.mono e2
  cases x <;> cases y <;> try exact q2.elim
  rename_i xs k
  unfold mulL at q2
  by_cases z : -(2 ^ 63) ≤ k ∧ k < 2 ^ 63 ∧ xs.length * k.toNat ≤ sizeLine
  · simp only [if_pos z] at q2
    have q3 : ∀ H' G' p vs, Ext G G' → Rel c F ρ P2 σ H' G' → H' p = none → c.reps G' vs (List.replicate k.toNat xs).flatten → Q (.ref p) (upd H' p (.lst vs)) := q2
    rw [r2.int_of]
    cases r1 with
    | lst ha hl hr =>
      have rr : c.reps G2 _ (List.replicate k.toNat xs).flatten := Reps.rep ⟨hl, hr⟩ k.toNat
      exact .inr ⟨_, k, _, rfl, rfl, R2.post.le _ _ ha, z.1, z.2.1, by rw [hl]; exact z.2.2, fun p hp => q3 _ _ _ _ (e1.trans e2) R2 hp rr⟩
  · simp only [if_neg z] at q2; exact q2.elim
def dcL (mk : D → M D) (mv : D → M (List D)) : List D → List (Key × List D) → M (List (Key × List D))
  | [], acc => Pure.pure acc
  | d :: ds, acc => noEx (mk d) >>= fun y => noEx (mv d) >>= fun z => keyM y >>= fun k => if acc.length < sizeLine ∧ (acc.any fun kv => decide (kv.1 = k)) = false then dcL mk mv ds (acc ++ [(k, z)]) else M.no
theorem out_noEx' {α : Type} {m : M α} {P : Pot} {ok : α → Pot → Prop} {ex : Ex → Pot → Prop} (h : out (noEx m) P ok ex) : ∃ a p, m P = .ok a p ∧ ok a p := by
  unfold out noEx at h
  cases e : m P with
  | ok a p => rw [e] at h; exact ⟨a, p, rfl, h⟩
  | ex x p => rw [e] at h; exact h.elim
  | no => rw [e] at h; exact h.elim
theorem back_eq {α : Type} {m : M α} {P p : Pot} {y : α} (h : out m P (fun z zp => z = y ∧ zp = p) (fun _ _ => False)) : m P = .ok y p := by
  unfold out at h
  cases k : m P with
  | ok a b => rw [k] at h; rw [h.1, h.2]
  | ex _ _ => rw [k] at h; exact h.elim
  | no => rw [k] at h; exact h.elim
theorem not_mem_of {β : Type} {kvs : List (Key × β)} {k : Key} (h : (kvs.any fun kv => decide (kv.1 = k)) = false) : k ∉ kvs.map (·.1) := fun z => by
  obtain ⟨kv, h1, h2⟩ := List.mem_map.mp z
  rw [List.any_eq_false] at h
  exact h kv h1 (by simpa using h2)
theorem dcL_rd {wi : TI} {g : TG} {vs : List Nat} {mi : M (List D)} {t : List Sl → D → Option (List Sl)} {mk : D → M D} {mv : D → M (List D)} (hw : ∀ σ H R, rdI c F W ρ mi σ H R → wi σ H R) (tg : Tgt c g t vs) (no : ∀ (i : Nat) k, ρ[i]? ≠ some (.o k))
    (hno : ∀ ρ d, t ρ d = none → mk d = M.no) {σ : L2.St} {H : Hp} {Q : VK} (q : ∃ P G, Rel c F ρ P σ H G ∧ out (mi >>= fun ds => noEx (dcL mk mv ds [])) P (fun kvs P' => ∀ a H' G', Ext G G' → Rel c F ρ P' σ H' G' → Deep c F G' H' a kvs → Q (.ref a) H') (exW c F W P G σ)) :
    tDc wi g tYes (fun σ H Q => ∃ F d ρ', t (wipeS (ρ.map unO) vs) d = some ρ' ∧ rdE c F W0 ρ' (mk d) σ H Q) (fun σ H Q => ∃ F d ρ', t (wipeS (ρ.map unO) vs) d = some ρ' ∧ rdNew c F W0 ρ' (mv d) σ H Q) vs σ H Q := by
  obtain ⟨P, G, R, q⟩ := q
  refine hw _ _ _ ⟨P, G, R, out_mono (out_bind.mp q) (fun ds P1 q1 J H1 G1 e1 R1 go E hE => ?_) fun _ _ z => z⟩
  refine ⟨fun i m Hx => m = ds.length - i ∧ i ≤ ds.length ∧ ∃ (acc : List (Key × List D)) (P' : Pot) (G' : Hp), Ext G1 G' ∧ Rel c F ρ P' σ Hx G' ∧ Deep c F G' Hx E acc ∧
    out (noEx (dcL mk mv (ds.drop i) acc)) P' (fun kvs P' => ∀ a H' G'', Ext G' G'' → Rel c F ρ P' σ H' G'' → Deep c F G'' H' a kvs → Q (.ref a) H') (fun _ _ => True),
    ⟨ds.length, by simp, Nat.zero_le _, [], P1, G1, Ext.refl _, R1.newM hE, ⟨⟨[], rfl, List.nodup_nil, upd_same, fun i kv b h => by simp at h⟩, List.nodup_nil, R1.post.g_none hE, R1.post.h0 hE, R1.ne_ap hE⟩,
      out_mono q1 (fun d p z a H' G'' e => z a H' G'' (e1.trans e)) fun _ _ _ => trivial⟩, ?_⟩
  rintro i m Hx ⟨rfl, hi, acc, P2, G2, e2, R2, dp, q2⟩
  by_cases hl : i < ds.length
  · have hd : ds[i]? = some ds[i] := List.getElem?_eq_getElem hl
    have S2 := R2.sub
    obtain ⟨g1, g2⟩ := (go _ _ i P2 σ Hx G2 e2 S2).2 _ hd
    rw [List.drop_eq_getElem_cons hl] at q2
    obtain ⟨ys, p, hy, q3⟩ := out_noEx' q2
    refine .inr ⟨g1, fun H' => ∃ (acc : List (Key × List D)) (P' : Pot) (G' : Hp), Ext G1 G' ∧ Rel c F ρ P' σ H' G' ∧ Deep c F G' H' E acc ∧
      out (noEx (dcL mk mv (ds.drop (i + 1)) acc)) P' (fun kvs P' => ∀ a H' G'', Ext G' G'' → Rel c F ρ P' σ H' G'' → Deep c F G'' H' a kvs → Q (.ref a) H') (fun _ _ => True), fun H' z => ⟨ds.length - (i + 1), by omega, rfl, hl, z⟩, fun x H3 y => ?_⟩
    obtain ⟨G3, e3, R3, r3⟩ := g2 x H3 y
    have hy' : (noEx (mk ds[i]) >>= fun y => noEx (mv ds[i]) >>= fun z => keyM y >>= fun k => if acc.length < sizeLine ∧ (acc.any fun kv => decide (kv.1 = k)) = false then dcL mk mv (ds.drop (i + 1)) (acc ++ [(k, z)]) else M.no) P2 = .ok ys p := hy
    have o1 : out (noEx (mk ds[i]) >>= fun y => noEx (mv ds[i]) >>= fun z => keyM y >>= fun k => if acc.length < sizeLine ∧ (acc.any fun kv => decide (kv.1 = k)) = false then dcL mk mv (ds.drop (i + 1)) (acc ++ [(k, z)]) else M.no) P2 (fun z zp => z = ys ∧ zp = p) (fun _ _ => False) := (out_eq hy').mpr ⟨rfl, rfl⟩
    obtain ⟨kd, P4, hkd, o4⟩ := out_noEx_bind o1
    obtain ⟨vd, P5, hvd, o5⟩ := out_noEx_bind o4
    obtain ⟨k, ek, o6⟩ := keyM_out (out_bind.mp o5)
    have hlen : acc.length < sizeLine ∧ (acc.any fun kv => decide (kv.1 = k)) = false := by
      by_cases z : acc.length < sizeLine ∧ (acc.any fun kv => decide (kv.1 = k)) = false
      · exact z
      · rw [if_neg z] at o6; exact o6.elim
    rw [if_pos hlen] at o6
    have hz := back_eq o6
    cases ht : t (wipeS (ρ.map unO) vs) ds[i] with
    | none =>
      rw [hno _ _ ht] at hkd
      cases hkd
    | some ρ' =>
      refine tg _ _ ρ' P2 _ H3 G3 x ds[i] _ (R3.wipe vs) r3 ht fun σ4 R4 w4 => ⟨w4.trans (wipe_idem vs), ?_⟩
      refine ⟨_, ds[i], ρ', ht, P2, G3, R4, (out_eq hkd).mpr fun kv H6 G6 e6 R6 r6 => ?_⟩
      refine ⟨_, ds[i], ρ', ht, P4, G6, R6, (out_eq hvd).mpr fun H7 G7 pn vs7 e7 R7 hp7 r7 => ?_⟩
      have A7 := R2.after R7.post
      have e27 : Ext G2 G7 := R7.post.ext
      have d7 := dp.after R7.post
      obtain ⟨ws, w1, w2, d8⟩ := d7.push A7 hp7 r7 (not_mem_of hlen.2)
      have A8 : Rel c F ρ P5 σ (upd H7 pn (.lst vs7)) G7 := A7.newM hp7
      rw [ek] at r6
      exact ⟨ws, k, rep_key r6, w1, by rw [w2]; exact hlen.1, acc ++ [(k, vd)], P5, G7, e2.trans e27, A8.at d7.g d7.h d7.p (fun u e => by rw [w1] at e; cases e; exact ⟨nofun, nofun⟩) (fun j kk hj => absurd hj (no j kk)), d8,
        (out_eq (noEx_ok hz)).mpr fun a H' G'' e => q3 a H' G'' (e27.trans e)⟩
  · have ei : i = ds.length := by omega
    subst ei
    refine .inl ⟨(go _ _ _ P2 σ Hx G2 e2 R2.sub).1 rfl, ?_⟩
    rw [List.drop_eq_nil_of_le (Nat.le_refl _)] at q2
    obtain ⟨ys, p, hy, q3⟩ := out_noEx' q2
    cases hy
    exact q3 E Hx G2 (Ext.refl _) R2 dp
/-- x = {k: [..] * n for ..} -/
theorem ds_tab {i : Nat} {y : Str} {py spos : Pos} {kx vx tg iter : Expr} {scope : Scope} {own : List (Str × Nat)} {pos : Pos} {g : TG} {mi : M (List D)} {t : List Sl → D → Option (List Sl)} {mk : D → M D} {mv : D → M (List D)} (hc : X.calm = true) (hN : X.N.Nodup) (hy : X.N[i]? = some y) (hx : Loc X.env.scope y)
    (hun : ρ[i]? = some .un) (no : ∀ (i : Nat) k, ρ[i]? ≠ some (.o k)) (ok : BlkOk X.N X.env.scope scope own)
    (hi : PI X tg iter (rdI c F W ρ mi)) (tgt : Tgt c g t (own.map (·.2))) (hno : ∀ ρ d, t ρ d = none → mk d = M.no)
    (hg : ∀ (s : Shared) (H : Hp) (C : Addr) (cl : List (Str × Addr)) (fp : List Addr), PG (X.blk s H scope (compEnvC scope cl C X.env) fp) tg g)
    (hk : ∀ (s : Shared) (H : Hp) (C : Addr) (cl : List (Str × Addr)) (fp : List Addr), PE (X.blk s H scope (compEnvC scope cl C X.env) fp) kx (rdElt c (t (wipeS (ρ.map unO) (own.map (·.2)))) mk))
    (he : ∀ (s : Shared) (H : Hp) (C : Addr) (cl : List (Str × Addr)) (fp : List Addr) (F' : Fr) (d : D) (ρ' : List Sl), t (wipeS (ρ.map unO) (own.map (·.2))) d = some ρ' → PE (X.blk s H scope (compEnvC scope cl C X.env) fp) vx (rdNew c F' W0 ρ' (mv d)))
    (hfs : ∀ x, foldedSetIterable iter X.env x = pure x := by intro _; rfl)
    (hs : swapsWith (.DictComp kx vx [⟨tg, iter, [], 0⟩] scope pos) (some (.Name y py)) spos.line X.env = pure false := by rfl) (hf : X.fn y = true ∨ X.env.scope.names.lookup y = some .local := by first | exact .inl rfl | exact .inr rfl | assumption) :
    PS X (.Assign [.Name y py] (.DictComp kx vx [⟨tg, iter, [], 0⟩] scope pos) spos) (rdQ0 c F W ρ i (mi >>= fun ds => noEx (dcL mk mv ds []))) := by
  refine ps_by (ps_set hN hy hx (pe_dc hc hN hi ok hg (fun _ _ _ _ _ => pts_nil) hk (fun s H C cl fp => (⟨fun pins s' σ H Q I ⟨F', d, ρ', e, q⟩ => (he _ _ C cl fp F' d ρ' e).run pins s' σ H Q I q⟩ : PE _ vx (fun σ H Q => ∃ F d ρ', t (wipeS (ρ.map unO) (own.map (·.2))) d = some ρ' ∧ rdNew c F W0 ρ' (mv d) σ H Q))) hfs) hs hf) fun B σ H ⟨P, G, R, q⟩ => ?_
  refine dcL_rd (fun _ _ _ z => z) tgt no hno ⟨P, G, R, out_mono q (fun kvs P' z a H' G' e R' d => ?_) fun _ _ z => exS.w z⟩
  have hl : i < σ.length := by rw [R.len]; exact (List.getElem?_eq_some_iff.mp hun).1
  refine z _ _ _ e ⟨?_, a, by rw [List.getElem?_set, if_pos rfl, if_pos hl], d⟩
  have R2 := R'.un (i := i) (x := some (.ref a))
  have : ρ.set i .un = ρ := by
    apply List.ext_getElem?
    intro j
    rw [List.getElem?_set]
    by_cases z : i = j
    · subst z
      rw [if_pos rfl, hun]
      split
      · rfl
      · rename_i h; exact absurd (List.getElem?_eq_some_iff.mp hun).1 h
    · rw [if_neg z]
  rw [this] at R2
  exact R2
def forQ (b : List (Key × List D) → D → M (List (Key × List D))) : List D → List (Key × List D) → M (List (Key × List D))
  | [], kvs => Pure.pure kvs
  | d :: ds, kvs => noEx (b kvs d) >>= fun kvs => forQ b ds kvs
theorem unO_id : ∀ {ρ : List Sl}, (∀ (i : Nat) k, ρ[i]? ≠ some (.o k)) → ρ.map unO = ρ
  | [], _ => rfl
  | s :: ρ, h => by
    rw [List.map_cons, unO_id fun i k e => h (i + 1) k (by simpa using e)]
    cases s with
    | o k => exact absurd rfl (h 0 k)
    | _ => rfl
/-- a loop whose body changes such a dict -/
theorem ds_forQ {i : Nat} {tg iter : Expr} {body : List Stmt} {pos : Pos} {g : TG} {vs : List Nat} {mi : M (List D)} {b : List (Key × List D) → D → M (List (Key × List D))} {t : List Sl → D → Option (List Sl)} (hp : PassesOwn (model X.prog X.w) X.A X.env X.xe) (hc : X.calm = true)
    (no : ∀ (i : Nat) k, ρ[i]? ≠ some (.o k)) (hi : ∀ F', PI X tg iter (rdI c F' W0 ρ mi)) (hg : PG X tg g) (tgt : Tgt c g t vs) (hiv : i ∉ vs) (hno : ∀ kvs d, t ρ d = none → b kvs d = M.no) (hfog : ∀ d ρ', t ρ d = some ρ' → ∀ {P σ H G}, Rel c F ρ' P σ H G → Rel c F ρ P σ H G)
    (hb : PSs X body (fun B σ H => ∃ d ρ', t ρ d = some ρ' ∧ ∃ P G kvs, RelQ c F ρ' i kvs P σ H G ∧ out (noEx (b kvs d)) P (fun kvs' P' => ∀ σ' H' G', Ext G G' → RelQ c F ρ' i kvs' P' σ' H' G' → B.nx σ' H') (fun _ _ => True)))
    (hs : ∀ x, foldedSetIterable iter X.env x = pure x := by intro _; rfl) :
    PS X (.For tg iter body [] pos) (rdQ c F W ρ i (fun kvs => noEx mi >>= fun ds => noEx (forQ b ds kvs))) := by
  refine ps_by (ps_for hp hc (⟨fun pins s σ H R I ⟨F', q⟩ => (hi F').run pins s σ H R I q⟩ : PI X tg iter (fun σ H R => ∃ F', rdI c F' W0 ρ mi σ H R)) hg hb hs) fun B σ H ⟨P, G, kvs0, ⟨R, a0, ha0, d0⟩, q⟩ => ?_
  obtain ⟨ds, P1, hmi, q⟩ := out_noEx_bind q
  obtain ⟨kvs9, P9, h9, q9⟩ := out_noEx' q
  have S := R.sub
  rw [unO_id no] at S
  refine ⟨_, P, G, S, (out_eq hmi).mpr fun J H1 G1 e1 S1 go => ?_⟩
  have R1 := R.after S1.post
  have d1 := d0.after S1.post
  refine ⟨fun n m σ H => m = ds.length - n ∧ n ≤ ds.length ∧ ∃ P' G' kvs, Ext G1 G' ∧ RelQ c F ρ i kvs P' σ H G' ∧ forQ b (ds.drop n) kvs P' = .ok kvs9 P9,
    ⟨ds.length, by simp, Nat.zero_le _, P1, G1, kvs0, Ext.refl _, ⟨R1, a0, ha0, d1⟩, h9⟩, ?_⟩
  rintro n m σ2 H2 ⟨rfl, hi2, P2, G2, kvs, e2, ⟨R2, a, ha, d2⟩, q2⟩
  by_cases hl : n < ds.length
  · have hd : ds[n]? = some ds[n] := List.getElem?_eq_getElem hl
    have S2 := R2.sub
    rw [unO_id no] at S2
    obtain ⟨g1, g2⟩ := (go _ ρ n P2 σ2 H2 G2 e2 S2).2 _ hd
    rw [List.drop_eq_getElem_cons hl] at q2
    obtain ⟨kvs3, P3, hb3, o3⟩ := out_noEx_bind (show out (noEx (b kvs ds[n]) >>= fun kvs => forQ b (ds.drop (n + 1)) kvs) P2 (fun z zp => z = kvs9 ∧ zp = P9) (fun _ _ => False) from (out_eq q2).mpr ⟨rfl, rfl⟩)
    have q3 := back_eq o3
    refine .inr ⟨g1, fun σ' H' => ∃ P' G' kvs, Ext G1 G' ∧ RelQ c F ρ i kvs P' σ' H' G' ∧ forQ b (ds.drop (n + 1)) kvs P' = .ok kvs9 P9,
      fun σ' H' z => ⟨ds.length - (n + 1), by omega, rfl, hl, z⟩, fun x H3 y => ?_⟩
    obtain ⟨G3, e3, S3, r3⟩ := g2 x H3 y
    have R3 := R2.after S3.post
    have d3 := d2.after S3.post
    cases ht : t ρ ds[n] with
    | none => rw [hno _ _ ht] at hb3; cases hb3
    | some ρ' =>
      refine tgt F ρ ρ' P2 σ2 H3 G3 x ds[n] _ R3 r3 ht fun σ4 R4 w4 => ?_
      have ha4 : σ4[i]? = some (some (V.ref a)) := by rw [← wipe_get (σ := σ4) hiv, w4, wipe_get hiv]; exact ha
      refine ⟨ds[n], ρ', ht, P2, G3, kvs, ⟨R4, a, ha4, d3⟩, (out_eq (noEx_ok hb3)).mpr fun σ' H' G' e' ⟨R5, z5⟩ => ?_⟩
      exact ⟨P3, G', kvs3, (e2.trans e3).trans e', ⟨hfog _ _ ht R5, z5⟩, q3⟩
  · have ei : n = ds.length := by omega
    subst ei
    rw [List.drop_eq_nil_of_le (Nat.le_refl _)] at q2
    cases q2
    exact .inl ⟨(go _ ρ _ _ σ2 H2 G2 e2 (by have S2 := R2.sub; rw [unO_id no] at S2; exact S2)).1 rfl, q9 σ2 H2 G2 (S1.post.ext.trans e2) ⟨R2, a, ha, d2⟩⟩
def put2 (kvs : List (Key × List D)) (s l o : D) : M (List (Key × List D)) := keyM l >>= fun k => M.some ((kvs.find? fun kv => decide (kv.1 = k)).map (·.2)) >>= fun xs => ixL xs s >>= fun x => noEx (shlD (.int 1) o) >>= fun y => noEx (orD x y) >>= fun z => setL xs z s >>= fun xs' => Pure.pure (kvs.map fun kv => if kv.1 = k then (kv.1, xs') else kv)
/-- d[k][s] = d[k][s] | 1 << o -/
theorem ds_put2 {i js jk jo : Nat} {x : Str} {p1 p3 p5 p6 p8 p10 p11 p13 p14 pos : Pos} {j11 : Nat} {ek es ek' es' eo : Expr} {kd sd od : D} (hu : X.A.units + 1 < cLine) (hK : X.K = c.K) (no : ∀ (i : Nat) k, ρ[i]? ≠ some (.o k)) (hx1 : PE X (.Name x p1) (tVar i)) (hx6 : PE X (.Name x p6) (tVar i))
    (hk : PE X ek (tVar jk)) (hk' : PE X ek' (tVar jk)) (hs : PE X es (tVar js)) (hs' : PE X es' (tVar js)) (ho : PE X eo (tVar jo)) (ik : ρ[jk]? = some (.v kd)) (is : ρ[js]? = some (.v sd)) (io : ρ[jo]? = some (.v od))
    (n1 : NoSl ek) (n2 : NoSl ek') (n3 : PlainIx es')
    (ha : ∀ v, assign (.Subscript (.Subscript (.Name x p1) ek p3) es p5) X.env v = (do
      let ov ← holding [v] (eval (.Subscript (.Name x p1) ek p3) X.env)
      let iv ← holding [v, ov] (eval es X.env)
      standAt p5
      holding [v, ov, iv] (setItem ov iv v)
      release [v, ov, iv] []) := by intro _; rfl)
    (hsw : swapsWithSole [.Subscript (.Subscript (.Name x p1) ek p3) es p5] (.BinOp (.Subscript (.Subscript (.Name x p6) ek' p8) es' p10) .BitOr (.BinOp (.Constant (.int 1) j11 p11) .LShift eo p13) p14) pos.line X.env = pure false := by rfl)
    (hw : swappedStores [.Subscript (.Subscript (.Name x p1) ek p3) es p5] (.BinOp (.Subscript (.Subscript (.Name x p6) ek' p8) es' p10) .BitOr (.BinOp (.Constant (.int 1) j11 p11) .LShift eo p13) p14) X.env = pure none := by rfl)
    (h1 : (assignEach [.Subscript (.Subscript (.Name x p1) ek p3) es p5] X.env).map (·.2) = [assign (.Subscript (.Subscript (.Name x p1) ek p3) es p5) X.env] := by rfl) :
    PS X (.Assign [.Subscript (.Subscript (.Name x p1) ek p3) es p5] (.BinOp (.Subscript (.Subscript (.Name x p6) ek' p8) es' p10) .BitOr (.BinOp (.Constant (.int 1) j11 p11) .LShift eo p13) p14) pos)
      (fun B σ H => ∃ P G kvs, RelQ c F ρ i kvs P σ H G ∧ out (noEx (put2 kvs sd kd od)) P (fun kvs' P' => ∀ σ' H' G', Ext G G' → RelQ c F ρ i kvs' P' σ' H' G' → B.nx σ' H') (fun _ _ => True)) := by
  refine ps_by (ps_asg (pe_op op_or (pe_ix (X := X) ix_seq (pe_dget hu hx6 hk' n2) hs' n3 (pos := p10)) (pe_op op_shlW pe_int ho)) (pg_sub (pe_dget hu hx1 hk n1) hs set_list ha) hsw hw h1) fun B σ H ⟨P, G, kvs, ⟨R, a, hat, d⟩, q⟩ => ?_
  obtain ⟨kvs9, P9, h9, q9⟩ := out_noEx' q
  have val : ∀ {j : Nat} {e : D}, ρ[j]? = some (.v e) → ∃ v, σ[j]? = some (some v) ∧ c.rep G v e := fun {j e} h => by
    have hl : j < σ.length := by rw [R.len]; exact (List.getElem?_eq_some_iff.mp h).1
    obtain ⟨v, e, r⟩ := R.sl j _ _ h (List.getElem?_eq_getElem hl)
    exact ⟨v, by rw [List.getElem?_eq_getElem hl, e], r⟩
  obtain ⟨kv, k1, k2⟩ := val ik
  obtain ⟨sv, s1, s2⟩ := val is
  obtain ⟨ov, o1, o2⟩ := val io
  have z1 : out (put2 kvs sd kd od) P (fun z zp => z = kvs9 ∧ zp = P9) (fun _ _ => False) := (out_eq h9).mpr ⟨rfl, rfl⟩
  unfold put2 at z1
  obtain ⟨k, rfl, z2⟩ := keyM_out (out_bind.mp z1)
  obtain ⟨xs, hxs, z3⟩ := out_some.mp (out_bind.mp z2)
  have ek := rep_key k2
  subst ek
  cases sd with
  | int si =>
    have es := s2.int_of
    subst es
    obtain ⟨xd, hxd, z4⟩ := out_some.mp (out_bind.mp (show out (M.some (atI xs si) >>= _) P _ _ from z3))
    obtain ⟨yd, P5, hyd, z5⟩ := out_noEx_bind z4
    obtain ⟨zd, P6, hzd, z6⟩ := out_noEx_bind z5
    cases od with
    | int oi =>
      have eo := o2.int_of
      subst eo
      by_cases cs : CShl 1 oi
      · have : (shlD (.int 1) (.int oi) P : Res D) = .ok (.int (1 * 2 ^ oi.toNat)) P := by
          show (if CShl 1 oi then (Pure.pure (D.int (1 * 2 ^ oi.toNat)) : M D) else M.no) P = _
          rw [if_pos cs]; rfl
        rw [this] at hyd
        cases hyd
        obtain ⟨b, vs, g1, g2, g3, g4⟩ := d.get (ρ := ρ) hxs
        obtain ⟨xv, hxv, rx⟩ := reps_atI g3 hxd
        cases xd with
        | int xi =>
          have ex := rx.int_of
          subst ex
          have : (orD (.int xi) (.int (1 * 2 ^ oi.toNat)) P : Res D) = .ok (.int (Builtin.bitOr xi (1 * 2 ^ oi.toNat))) P := rfl
          rw [this] at hzd
          cases hzd
          obtain ⟨xs', hset, z7⟩ := out_some.mp (out_bind.mp (show out (M.some ((ixN xs.length si).map fun j => xs.set j (D.int (Builtin.bitOr xi (1 * 2 ^ oi.toNat)))) >>= _) P _ _ from z6))
          rw [Option.map_eq_some_iff] at hset
          obtain ⟨j, hj, rfl⟩ := hset
          obtain ⟨rfl, rfl⟩ := (show _ = kvs9 ∧ P = P9 from z7)
          obtain ⟨d5, R5⟩ := g4 _ _ (g3.set (v := .int (Builtin.bitOr xi (1 * 2 ^ oi.toNat))) (.int _) j)
          refine ⟨.ref a, hat, kV k, k1, a, .ref b, rfl, g1, .int si, s1, ?_⟩
          rw [hK]
          refine .inl ⟨b, vs, si, .int xi, rfl, rfl, SqL.of g2, hxv, ?_⟩
          refine ⟨.int oi, o1, 1, oi, rfl, rfl, cs, xi, _, rfl, rfl, ?_⟩
          refine ⟨.ref a, hat, kV k, k1, a, .ref b, rfl, g1, .int si, s1, b, vs, si, j, rfl, rfl, g2, by rw [g3.1]; exact hj, ?_⟩
          exact q9 σ _ G (Ext.refl _) ⟨R5 no R, a, hat, d5⟩
        | _ => cases hzd
      · have : (shlD (.int 1) (.int oi) P : Res D) = .no := by
          show (if CShl 1 oi then (Pure.pure (D.int (1 * 2 ^ oi.toNat)) : M D) else M.no) P = _
          rw [if_neg cs]; rfl
        rw [this] at hyd
        cases hyd
    | _ => cases hyd
  | _ => exact z3.elim
/-- the three parts together, then a block over the dict as a value -/
theorem ds_tabRest {i : Nat} {α : Type} {E : α → List Sl} {s1 s2 : Stmt} {rest : List Stmt} {m0 : M (List (Key × List D))} {m1 : List (Key × List D) → M (List (Key × List D))} {m2 : D → M (Fl α)} (hun : ρ[i]? = some .un) (no : ∀ (i : Nat) k, ρ[i]? ≠ some (.o k))
    (h1 : PS X s1 (rdQ0 c F W ρ i m0)) (h2 : PS X s2 (rdQ c F W ρ i m1)) (h3 : ∀ d, PSs X rest (rdS c F W (ρ.set i (.v d)) E (m2 d))) : PSs X (s1 :: s2 :: rest) (rdS c F W ρ E (m0 >>= fun kvs => m1 kvs >>= fun kvs => m2 (dicL kvs))) := by
  refine pss_by (pss_cons h1 (pss_cons h2 (pss_ex h3))) fun B σ H ⟨P, G, R, q⟩ => ?_
  refine ⟨P, G, R, out_mono (out_bind.mp q) (fun kvs P1 q1 σ1 H1 G1 e1 R1 => ?_) fun _ _ z => z⟩
  refine ⟨P1, G1, kvs, R1, out_mono (out_bind.mp q1) (fun kvs2 P2 q2 σ2 H2 G2 e2 R2 => ?_) fun _ _ z => exS_le e1 z⟩
  obtain ⟨R2, a, ha, d2⟩ := R2
  obtain ⟨G3, e3, R3, r3⟩ := d2.letgo no R2
  have hl : i < σ2.length := by rw [R2.len]; exact (List.getElem?_eq_some_iff.mp hun).1
  have R4 := R3.set (i := i) (v := .ref a) (d := dicL kvs2) r3
  have eσ : σ2.set i (some (.ref a)) = σ2 := by
    apply List.ext_getElem?
    intro j
    rw [List.getElem?_set]
    by_cases z : i = j
    · subst z
      rw [if_pos rfl, if_pos hl]; exact ha.symm
    · rw [if_neg z]
  rw [eσ] at R4
  have e := (e1.trans e2).trans e3
  refine ⟨dicL kvs2, P2, G3, R4, out_mono q2 (fun f P' z => ?_) fun x p z => exS_le e z⟩
  cases f with
  | nx a => exact fun σ' H' G2 e2 R2 => z σ' H' G2 (e.trans e2) R2
  | bk a => exact fun σ' H' G2 e2 R2 => z σ' H' G2 (e.trans e2) R2
  | ct a => exact fun σ' H' G2 e2 R2 => z σ' H' G2 (e.trans e2) R2
  | rt d => exact fun v H' G2 ρ' σ' e2 R2 k => z v H' G2 ρ' σ' (e.trans e2) R2 k
end
end DL
namespace DL
open PySem PySem.Spec PyProof.Rows L2
def noO : List Sl → Bool
  | [] => true
  | .o _ :: _ => false
  | _ :: r => noO r
theorem noO_by : ∀ {ρ : List Sl}, noO ρ = true → ∀ (i : Nat) k, ρ[i]? ≠ some (.o k)
  | [], _, i, k, e => by simp at e
  | s :: ρ, h, 0, k, e => by
    simp only [List.getElem?_cons_zero, Option.some.injEq] at e
    subst e
    cases h
  | s :: ρ, h, i + 1, k, e => by
    rw [List.getElem?_cons_succ] at e
    refine noO_by (ρ := ρ) ?_ i k e
    cases s <;> first | exact h | cases h
section
variable {c : Cn} {X : Cx} {F : Fr} {W : WX} {ρ : List Sl}
theorem dn_at {ρ' : List Sl} {e : Expr} {m : M (List D)} (h : ρ = ρ') (k : PE X e (rdNew c F W ρ' m)) : PE X e (rdNew c F W ρ m) := by rw [h]; exact k
theorem pss_q {body : List Stmt} {t : D → Option (List Sl)} {r : D → List Sl → TS} (h : ∀ d ρ', t d = some ρ' → PSs X body (r d ρ')) : PSs X body (fun B σ H => ∃ d ρ', t d = some ρ' ∧ r d ρ' B σ H) := ⟨fun pins s σ H B I ⟨d, ρ', e, q⟩ => (h d ρ' e).run pins s σ H B I q⟩
end
end DL

/-! the truth of ints, texts and None too -/
namespace DL
open PySem PySem.Spec PyProof.Rows L2
section
variable {c : Cn} {X : Cx} {F : Fr} {W : WX} {ρ : List Sl}
def truI : D → M Bool
  | .tup xs => Pure.pure (!xs.isEmpty)
  | .lst xs => Pure.pure (!xs.isEmpty)
  | .bl b => Pure.pure b
  | .int i => Pure.pure (i != 0)
  | .non => Pure.pure false
  | _ => M.no
theorem dt_tri {e : Expr} {m : M D} (hK : X.K = c.K) (h : PE X e (rdE c F W ρ m)) (he : ∀ whole, isTrue e X.env whole = (do let v ← whole; standAt e.pos; holding [v] (truthy v)) := by intro _; rfl) : PT X e (rdT c F W ρ (m >>= truI)) := by
  refine pt_by (pt_truth h he) fun σ H Q ⟨P, G, R, q⟩ => ?_
  refine ⟨P, G, R, out_mono (out_bind.mp q) (fun x P1 q1 v H1 G1 e1 R1 r1 => ?_) fun _ _ z => z⟩
  rw [hK]
  cases x with
  | bl b => exact ⟨b, by rw [r1.bl_of]; rfl, q1 H1 G1 e1 R1⟩
  | int i => exact ⟨i != 0, by rw [r1.int_of]; rfl, (show ∀ H' G', Ext G G' → Rel c F ρ P1 σ H' G' → Q (i != 0) H' from q1) H1 G1 e1 R1⟩
  | non => exact ⟨false, by rw [r1.non_of]; rfl, (show ∀ H' G', Ext G G' → Rel c F ρ P1 σ H' G' → Q false H' from q1) H1 G1 e1 R1⟩
  | tup xs =>
    cases r1 with
    | tup ha hl hr => exact ⟨!xs.isEmpty, .inr (.inl ⟨_, Evl.ex_t R1.post.le ha, emp_len hl⟩), (show ∀ H' G', Ext G G' → Rel c F ρ P1 σ H' G' → Q (!xs.isEmpty) H' from q1) H1 G1 e1 R1⟩
  | lst xs =>
    cases r1 with
    | lst ha hl hr => exact ⟨!xs.isEmpty, .inl ⟨_, SqL.of (R1.post.le _ _ ha), emp_len hl⟩, (show ∀ H' G', Ext G G' → Rel c F ρ P1 σ H' G' → Q (!xs.isEmpty) H' from q1) H1 G1 e1 R1⟩
  | _ => exact q1.elim
end
end DL

/-! sorted(set(x)), x a list of ints -/
namespace SX
open PySem PySem.Spec PyProof.Rows L2
open PySem.W (EachIs alike list_sort_data dataLe)
def insI (a : Int) : List Int → List Int
  | [] => [a]
  | b :: l => if a < b then a :: b :: l else if a = b then b :: l else b :: insI a l
theorem insI_mem {a x : Int} : ∀ {l : List Int}, x ∈ insI a l ↔ x = a ∨ x ∈ l
  | [] => by simp [insI]
  | b :: l => by
    unfold insI
    split
    · simp
    · split
      · rename_i e; subst e; simp
      · rw [List.mem_cons, insI_mem, List.mem_cons]
        constructor
        · rintro (h | h | h)
          · exact .inr (.inl h)
          · exact .inl h
          · exact .inr (.inr h)
        · rintro (h | h | h)
          · exact .inr (.inl h)
          · exact .inl h
          · exact .inr (.inr h)
theorem insI_asc {a : Int} : ∀ {l : List Int}, l.Pairwise (· < ·) → (insI a l).Pairwise (· < ·)
  | [], _ => by simp [insI]
  | b :: l, h => by
    obtain ⟨h1, h2⟩ := List.pairwise_cons.mp h
    unfold insI
    split
    · rename_i q
      refine List.pairwise_cons.mpr ⟨fun x hx => ?_, h⟩
      rcases List.mem_cons.mp hx with z | z
      · subst z; exact q
      · have := h1 x z; omega
    · rename_i q
      split
      · exact h
      · rename_i e
        refine List.pairwise_cons.mpr ⟨fun x hx => ?_, insI_asc h2⟩
        rcases insI_mem.mp hx with z | z
        · subst z; omega
        · exact h1 x z
def srtI (l : List Int) : List Int := l.foldr insI []
theorem srtI_mem {x : Int} : ∀ {l : List Int}, x ∈ srtI l ↔ x ∈ l
  | [] => Iff.rfl
  | a :: l => by
    show x ∈ insI a (srtI l) ↔ _
    rw [insI_mem, srtI_mem, List.mem_cons]
theorem srtI_asc : ∀ {l : List Int}, (srtI l).Pairwise (· < ·)
  | [] => List.Pairwise.nil
  | a :: l => insI_asc (srtI_asc (l := l))
theorem srtI_is {l ys : List Int} (p : ys.Pairwise (· < ·)) (h : ∀ y, y ∈ ys ↔ y ∈ l) : ys = srtI l :=
  asc_uniq (fun a b h k => by omega) (fun a h => by omega) p srtI_asc fun y => (h y).trans srtI_mem.symm
theorem srtI_self {l : List Int} (h : l.Pairwise (· < ·)) : srtI l = l := (srtI_is h fun _ => Iff.rfl).symm
theorem srtI_length {l : List Int} : (srtI l).length ≤ l.length := by
  have one : ∀ (a : Int) (m : List Int), (insI a m).length ≤ m.length + 1 := fun a m => by
    induction m with
    | nil => exact Nat.le_refl _
    | cons b m ih =>
      unfold insI
      split
      · exact Nat.le_refl _
      · split
        · simp
        · simpa using ih
  induction l with
  | nil => exact Nat.le_refl _
  | cons a l ih => exact Nat.le_trans (one a (srtI l)) (Nat.succ_le_succ ih)
theorem vals_intsE : ∀ {out : List Value} {ys : List Int}, EachIs (fun v b => ∃ u, v = Value.int b u) out ys → Vals (ys.map V.int) out
  | _, _, .nil => .nil
  | _, _, .cons h t => .cons h (vals_intsE t)
def rSetI (K : PySem.W.Frag) (P : Program) (w : World) : List V → Hp → VK → Prop := fun xs H Q => ∃ (l : Addr) (ys : List Int), xs = [.ref l] ∧ SqL K H l (ys.map V.int) ∧ ys.length < 4000 ∧ ∀ p n, H p = none → Q (.ref p) (upd H p (SetSO P w p (mm (ys.map Sum.inl)) n))
def rSrtI (P : Program) (w : World) : List V → Hp → VK → Prop := fun vs H Q => ∃ (a : Addr) (ys : List Int) (n : Nat), vs = [V.ref a] ∧ ys.length < 4000 ∧ H a = some (SetSO P w a (mm (ys.map Sum.inl)) n) ∧ ∀ p, H p = none → Q (.ref p) (upd H p (.lst ((srtI ys).map V.int)))
section
variable {X : Cx}
theorem cr_setI (hc : X.calm = true) : CallR X (.type "set") (rSetI X.K X.prog X.w) := by
  intro pins s σ H xs us Q I r h
  obtain ⟨l, ys, rfl, hs, hx, q⟩ := h
  rw [Vals.ref1 r]
  obtain ⟨its, rv, hl, _⟩ := I.list hs
  have hn : H s.heap.objs.size = none := I.hok.fresh (Nat.le_refl _)
  have hz : its.length = ys.length := by have := rv.length; rw [List.length_map] at this; exact this.symm
  refine call_set_lst (P := X.prog) (w := X.w) (ys.map Sum.inl) (I.ok.hd hc) hl.isList (by rw [List.size_toArray, List.length_map, hz]) (fun i v e => ?_) (by rw [List.length_map]; show _ < 4096; omega) fun h' tk c R hcn k => ?_
  · rw [List.getElem?_toArray] at e
    obtain ⟨x, e1, e2⟩ := vals_ix rv e
    rw [List.getElem?_map, Option.map_eq_some_iff] at e1
    obtain ⟨y, e1, rfl⟩ := e1
    obtain ⟨t, rfl⟩ := (show ∃ t, v = Value.int y t from e2)
    exact ⟨.inl y, t, by rw [List.getElem?_map, e1]; rfl, rfl⟩
  · exact ⟨.ref s.heap.objs.size, _, I.laid (t' := tk) k (Nat.le_refl _) (setSO_new R), rfl, q _ c hn⟩
theorem cr_srtI (hc : X.calm = true) (hu : X.A.units + 64 < cLine) : CallR X (.builtin "sorted") (rSrtI X.prog X.w) := by
  intro pins s σ H vs us Q I r h
  obtain ⟨a, ys, n, rfl, hx, ha, q⟩ := h
  rw [Vals.ref1 r]
  have R : SetS X.prog X.w s.heap a (mm (ys.map Sum.inl)) n := (I.hok a _ ha).1
  obtain ⟨o, es, ep, t, ho, hex, hd, g, nd, hm, hb, hf, hn, hr, hl⟩ := R
  have back : ∀ e ∈ es.toList, ∃ y, y ∈ ys ∧ ko e.2 = .inl y := fun e he => by
    have h1 : ko e.2 ∈ keysE es := List.mem_map.mpr ⟨e, he, rfl⟩
    obtain ⟨y, hy1, hy2⟩ := List.mem_map.mp (mm_iff.mp ((hm _).2 h1))
    exact ⟨y, hy1, hy2.symm⟩
  let bo : Value → Int := fun v => match v with | .int x _ => x | _ => 0
  have hbo : ∀ e ∈ es.toList, ∃ u, e.2 = Value.int (bo e.2) u := fun e he => by
    obtain ⟨k, t, e1, _⟩ := g e he
    obtain ⟨c, _, e2⟩ := back e he
    rw [e1, ko_kvl] at e2
    subst e2
    exact ⟨t, by rw [e1]; rfl⟩
  have kb : ∀ e ∈ es.toList, ko e.2 = .inl (bo e.2) := fun e he => by
    obtain ⟨u, e1⟩ := hbo e he
    rw [e1]; rfl
  refine sorted_setG (β := Int) (fun b => .int b) (fun b t => .int b t) bo (fun h b t => .int b t) (fun _ _ => rfl) (fun b => ⟨fun z => (nomatch z), fun xs z => (nomatch z)⟩) (fun _ => rfl) ho hex hd hb hf hr hl hbo (I.ok.hd hc) hu fun s' p out c bs k gg oo hp hg pm ei => ?_
  have mem : ∀ y, y ∈ bs.mergeSort (dataLe false fun b => PyData.int b) ↔ y ∈ ys := fun y => by
    rw [(List.mergeSort_perm _ _).mem_iff, pm.mem_iff, List.mem_map]
    constructor
    · rintro ⟨e, he, rfl⟩
      obtain ⟨c, hc1, hc2⟩ := back e he
      rw [kb e he] at hc2
      exact (Sum.inl.inj hc2) ▸ hc1
    · intro hy
      have : (Sum.inl y : Key) ∈ keysE es := (hm _).1 (mm_iff.mpr (List.mem_map.mpr ⟨y, hy, rfl⟩))
      obtain ⟨e, he, e1⟩ := List.mem_map.mp this
      rw [kb e he] at e1
      exact ⟨e, he, Sum.inl.inj e1⟩
  have nd2 : (bs.mergeSort (dataLe false fun b => PyData.int b)).Nodup := by
    rw [(List.mergeSort_perm _ _).nodup_iff, pm.nodup_iff]
    have e1 : keysE es = (es.toList.map fun e => bo e.2).map Sum.inl := by
      unfold keysE
      rw [List.map_map]
      exact List.map_congr_left fun e he => kb e he
    rw [e1] at nd
    exact (List.pairwise_map.mp nd).imp fun {a b} h e => h (congrArg _ e)
  have pw : (bs.mergeSort (dataLe false fun b => PyData.int b)).Pairwise (· < ·) := by
    have e1 : (dataLe false fun b : Int => PyData.int b) = fun a b => decide (a ≤ b) := PySem.W.dataLe_int fun b => b
    rw [e1] at nd2 ⊢
    have s1 := List.pairwise_mergeSort (le := fun a b : Int => decide (a ≤ b)) (fun a b c h1 h2 => decide_eq_true (Int.le_trans (of_decide_eq_true h1) (of_decide_eq_true h2))) (fun a b => by
      rcases Int.le_total a b with z | z
      · rw [decide_eq_true z]; rfl
      · rw [decide_eq_true z, Bool.or_true]) bs
    refine (s1.and nd2).imp fun {a b} ⟨h1, h2⟩ => ?_
    have h1 := of_decide_eq_true h1
    omega
  have es2 := srtI_is pw mem
  rw [es2] at ei
  have hlen : ((srtI ys).map V.int).length ≤ sizeLine := by
    have := srtI_length (l := ys)
    rw [List.length_map, sizeLine_eq]; omega
  have hnp : H p = none := I.hok.fresh hp
  have J : Inv X pins σ (upd H p (.lst ((srtI ys).map V.int))) { s with heap := s'.heap, gens := s'.gens, drawn := s'.drawn, toks := s'.toks } :=
    I.call (ch := []) (Un.laid k hp hnp) (I.hok.laid k hp ⟨hlen, out.toList, c, vals_intsE ei, hg⟩) (by rw [gg]; exact I.bare) fun _ z => nomatch z
  have e : s' = { s with heap := s'.heap, gens := s'.gens, drawn := s'.drawn, toks := s'.toks } := by
    cases s'; cases s; cases oo; rfl
  rw [e]
  exact ⟨.ref p, _, J, rfl, q p hnp⟩
end
end SX
namespace DL
open PySem PySem.Spec PyProof.Rows L2
section
variable {c : Cn} {X : Cx} {F : Fr} {W : WX} {ρ : List Sl}
def itg : List D → Option (List Int)
  | [] => some []
  | .int i :: ds => (itg ds).map (i :: ·)
  | _ :: _ => none
theorem ints_of {G : Hp} : ∀ {vs : List V} {ds : List D} {ys : List Int}, c.reps G vs ds → itg ds = some ys → vs = ys.map V.int
  | [], [], ys, _, h => by cases h; rfl
  | [], _ :: _, _, r, _ => by have := r.1; simp at this
  | _ :: _, [], _, r, _ => by have := r.1; simp at this
  | v :: vs, d :: ds, ys, r, h => by
    cases d with
    | int i =>
      have h : (itg ds).map (i :: ·) = some ys := h
      rw [Option.map_eq_some_iff] at h
      obtain ⟨zs, h1, rfl⟩ := h
      rw [r.head.int_of, ints_of r.tail h1]
      rfl
    | _ => cases h
theorem ints_map (ys : List Int) : itg (ys.map D.int) = some ys := by
  induction ys with
  | nil => rfl
  | cons y ys ih => show (itg (ys.map D.int)).map (y :: ·) = _; rw [ih]; rfl
def sortSetI : D → M D
  | .lst ds => match itg ds with
    | some ys => if ys.length < 4000 then Pure.pure (.lst ((SX.srtI ys).map .int)) else M.no
    | none => M.no
  | _ => M.no
theorem de_sortSetI {x y : Str} {p p2 pos q2 : Pos} {a : Expr} {ms : M (List Ar)} (hK : X.K = c.K) (hc : X.calm = true) (hu : X.A.units + 64 < cLine) (hg : Gl X x) (hm : X.mg x = none) (hv : bootBuiltins x = some (.builtin "sorted")) (hg2 : Gl X y) (hm2 : X.mg y = none) (hv2 : bootBuiltins y = some (.type "set")) (ha : PA X [a] (rdA c F W ρ ms))
    (hn : x ≠ "__name__" := by decide) (hdb : (x == ("__debug__" : Str)) = false := by decide) (hn2 : y ≠ "__name__" := by decide) (hdb2 : (y == ("__debug__" : Str)) = false := by decide)
    (he : starEach [a] X.env = [(false, eval a X.env)] := by rfl) (he2 : starEach [Expr.Call (.Name y p2) [a] [] q2] X.env = [(false, eval (.Call (.Name y p2) [a] [] q2) X.env)] := by rfl) :
    PE X (.Call (.Name x p) [.Call (.Name y p2) [a] [] q2] [] pos) (rdE c F W ρ (ms >>= fun as => DL.vals as >>= f1 sortSetI)) := by
  refine pe_by (pe_callB (SX.cr_srtI hc hu) hg hm hv (pa_cons (pe_callTy (SX.cr_setI hc) hg2 hm2 hv2 ha hn2 hdb2 he rfl) pa_nil) hn hdb he2 rfl) fun σ H Q ⟨P, G, R, q⟩ => ?_
  refine ⟨P, G, R, out_mono (out_bind.mp q) (fun as P1 q1 vs H1 G1 e1 R1 r1 => ?_) fun _ _ z => z⟩
  obtain ⟨ds, rr, q2⟩ := r1.reps (out_bind.mp q1)
  match ds, q2 with
  | [d], q2 =>
    cases d with
    | lst ds =>
      obtain ⟨v, rfl, rv⟩ := rr.one
      have q3 : out (match itg ds with
        | some ys => if ys.length < 4000 then Pure.pure (D.lst ((SX.srtI ys).map .int)) else M.no
        | none => M.no) P1 _ _ := q2
      cases hx : itg ds with
      | none => rw [hx] at q3; exact q3.elim
      | some ys =>
        rw [hx] at q3
        have q3 : out (if ys.length < 4000 then Pure.pure (D.lst ((SX.srtI ys).map .int)) else M.no) P1 _ _ := q3
        by_cases hl : ys.length < 4000
        · rw [if_pos hl] at q3
          cases rv with
          | lst ha hln hr =>
            have e := ints_of ⟨hln, hr⟩ hx
            subst e
            refine ⟨_, ys, rfl, SqL.of (R1.post.le _ _ ha), hl, fun p n hp => ?_⟩
            obtain ⟨R2, e2⟩ := R1.new hp (o := SX.SetSO X.prog X.w p (SX.mm (ys.map Sum.inl)) n) nt_ext
            refine ⟨p, ys, n, rfl, hl, upd_same, fun l hpl => ?_⟩
            exact new_lst R2 hpl (reps_ints _) fun v' H' G' e3 R3 r3 => q3 v' H' G' ((e1.trans e2).trans e3) R3 r3
        · rw [if_neg hl] at q3; exact q3.elim
    | _ => exact q2.elim
  | [], q2 => exact q2.elim
  | _ :: _ :: _, q2 => exact q2.elim
end
end DL

/-! the equations of the mirrors -/
namespace DL
open PySem PySem.Spec PyProof.Rows L2
instance : LawfulMonad M := LawfulMonad.mk' M (fun x => by funext P; show M.bind x M.pure P = x P; unfold M.bind M.pure; cases x P <;> rfl) (fun x f => rfl) (fun x f g => by
  funext P
  show M.bind (M.bind x f) g P = M.bind x (fun a => M.bind (f a) g) P
  unfold M.bind
  cases x P <;> rfl)
section
variable {α β γ : Type}
theorem pb (a : α) (k : α → M β) : (Pure.pure a >>= k) = k a := Eq.trans rfl rfl
theorem asc (m : M α) (f : α → M β) (g : β → M γ) : (m >>= f >>= g) = (m >>= fun x => f x >>= g) := bind_assoc m f g
theorem thB (m : M γ) (f : γ → M (Fl α)) (k : α → M (Fl β)) : thenR (m >>= f) k = (m >>= fun x => thenR (f x) k) := bind_assoc m f _
theorem thN (a : α) (k : α → M (Fl β)) : thenR (Pure.pure (.nx a)) k = k a := Eq.trans rfl rfl
theorem thR (d : D) (k : α → M (Fl β)) : thenR (Pure.pure (.rt d)) k = Pure.pure (.rt d) := Eq.trans rfl rfl
theorem thX (e : Ex) (k : α → M (Fl β)) : thenR (M.raise e) k = M.raise e := Eq.trans rfl rfl
theorem thT (m : M (Fl γ)) (f : γ → M (Fl α)) (k : α → M (Fl β)) : thenR (thenR m f) k = thenR m fun x => thenR (f x) k := by
  unfold thenR
  rw [bind_assoc]
  congr 1
  funext z
  cases z <;> rfl
theorem xb (e : Ex) (k : α → M β) : (M.raise e >>= k) = M.raise e := Eq.trans rfl rfl
theorem nb (k : α → M β) : (M.no >>= k) = M.no := Eq.trans rfl rfl
theorem ib {c : Prop} [Decidable c] (a b : M α) (k : α → M β) : ((if c then a else b) >>= k) = if c then a >>= k else b >>= k := by split <;> rfl
theorem thI {c : Prop} [Decidable c] (a b : M (Fl α)) (k : α → M (Fl β)) : thenR (if c then a else b) k = if c then thenR a k else thenR b k := by split <;> rfl
theorem dR (d : D) : doneF (α := α) (.rt d) = Pure.pure d := Eq.trans rfl rfl
theorem dN (a : α) : doneF (.nx a) = Pure.pure .non := Eq.trans rfl rfl
theorem bB (b : Bool) : boolD (.bl b) = Pure.pure b := Eq.trans rfl rfl
theorem v0 : vals [] = Pure.pure [] := Eq.trans rfl rfl
theorem v1 (d : D) (as : List Ar) : vals (.v d :: as) = (vals as >>= fun ds => Pure.pure (d :: ds)) := Eq.trans rfl rfl
theorem f1e (f : D → M D) (d : D) : f1 f [d] = f d := Eq.trans rfl rfl
theorem f2e (f : D → D → M D) (d e : D) : f2 f [d, e] = f d e := Eq.trans rfl rfl
theorem ntn : (!true) = false := Eq.trans rfl rfl
theorem ntf : (!false) = true := Eq.trans rfl rfl
theorem ittr (a b : M α) : (if true = true then a else b) = a := if_pos rfl
theorem itfa (a b : M α) : (if false = true then a else b) = b := if_neg (fun h => nomatch h)
theorem itT (a b : M α) : (if True then a else b) = a := if_pos True.intro
theorem itF (a b : M α) : (if False then a else b) = b := if_neg id
theorem sB (a : α) : M.some (some a) = Pure.pure a := Eq.trans rfl rfl
/-! kinds -/
theorem isi_is (T : String) {d : D} {n : String} (h : tyN d = some n) : isiD T d = Pure.pure (.bl (isB n T)) := by
  have go : isiM (fun n => some (isB n T)) (fun _ => none) d = Pure.pure (.bl (isB n T)) := by
    cases d <;> first | (cases h; done) | (unfold isiM; simp only [h]; exact Eq.trans rfl rfl)
  exact go
/-! comprehensions -/
theorem noE (a : α) : noEx (Pure.pure a : M α) = Pure.pure a := by funext P; exact Eq.trans rfl rfl
theorem comp_pure {t : D → M Bool} {e : D → M D} (p : D → Bool) (f : D → D) : ∀ ds : List D, (∀ d ∈ ds, t d = Pure.pure (p d)) → (∀ d ∈ ds, p d = true → e d = Pure.pure (f d)) → compF t e ds = Pure.pure ((ds.filter p).map f)
  | [], _, _ => Eq.trans rfl rfl
  | d :: ds, ht, he => by
    have ih := comp_pure p f ds (fun x hx => ht x (List.mem_cons_of_mem _ hx)) fun x hx => he x (List.mem_cons_of_mem _ hx)
    unfold compF
    rw [ht d List.mem_cons_self, noE, pb]
    cases q : p d with
    | true =>
      rw [ittr, he d List.mem_cons_self q, noE, pb, ih, noE, pb, List.filter_cons_of_pos q, List.map_cons]
    | false =>
      rw [itfa, ih, List.filter_cons_of_neg (by rw [q]; exact Bool.false_ne_true)]
/-- without a test -/
theorem comp_all {e : D → M D} (f : D → D) (ds : List D) (he : ∀ d ∈ ds, e d = Pure.pure (f d)) : compF (fun _ => Pure.pure true) e ds = Pure.pure (ds.map f) := by
  have h := comp_pure (t := fun _ => Pure.pure true) (fun _ => true) f ds (fun _ _ => rfl) fun d hd _ => he d hd
  rwa [List.filter_eq_self.mpr fun _ _ => rfl] at h
theorem mkLe {ds : List D} (h : ds.length ≤ sizeLine) : mkL ds = Pure.pure (.lst ds) := if_pos h
theorem mkTe {ds : List D} (h : ds.length ≤ sizeLine) : mkT ds = Pure.pure (.tup ds) := if_pos h
/-! loops -/
theorem for_pure {α : Type} {b : α → D → M (Fl α)} (f : α → D → α) : ∀ (ds : List D) (a : α), (∀ a, ∀ d ∈ ds, b a d = Pure.pure (.nx (f a d))) → forF b ds a = Pure.pure (.nx (ds.foldl f a))
  | [], a, _ => Eq.trans rfl rfl
  | d :: ds, a, h => by
    unfold forF
    rw [h a d List.mem_cons_self, pb]
    exact for_pure f ds _ fun a x hx => h a x (List.mem_cons_of_mem _ hx)
/-! runs from a pot -/
def wp (m : M α) (P : Pot) (Q : α → Pot → Prop) : Prop := ∃ a P', m P = .ok a P' ∧ Q a P'
theorem wp_pure {a : α} {P : Pot} {Q : α → Pot → Prop} (h : Q a P) : wp (Pure.pure a : M α) P Q := ⟨a, P, rfl, h⟩
theorem wp_bind {m : M α} {k : α → M β} {P : Pot} {Q : β → Pot → Prop} (h : wp m P fun a P' => wp (k a) P' Q) : wp (m >>= k) P Q := by
  obtain ⟨a, P', e, b, P2, e2, q⟩ := h
  exact ⟨b, P2, (bind_ok e).trans e2, q⟩
theorem wp_mono {m : M α} {P : Pot} {Q Q' : α → Pot → Prop} (h : wp m P Q) (k : ∀ a p, Q a p → Q' a p) : wp m P Q' := by
  obtain ⟨a, P', e, q⟩ := h
  exact ⟨a, P', e, k _ _ q⟩
theorem wp_eq {m m' : M α} {P : Pot} {Q : α → Pot → Prop} (e : m = m') (h : wp m' P Q) : wp m P Q := e ▸ h
theorem wp_then {m : M (Fl α)} {k : α → M (Fl β)} {P : Pot} {Q : Fl β → Pot → Prop} (h : wp m P fun f P' => ∃ a, f = .nx a ∧ wp (k a) P' Q) : wp (thenR m k) P Q := by
  refine wp_bind (wp_mono h fun f p ⟨a, e, q⟩ => ?_)
  subst e
  exact q
theorem wp_noEx {m : M α} {P : Pot} {Q : α → Pot → Prop} (h : wp m P Q) : wp (noEx m) P Q := by
  obtain ⟨a, P', e, q⟩ := h
  exact ⟨a, P', noEx_ok e, q⟩
theorem wp_for {b : α → D → M (Fl α)} (I : Nat → α → Pot → Prop) (N : Nat) : ∀ (ds : List D) (i : Nat) (a : α) (P : Pot), i + ds.length ≤ N → I i a P → (∀ i a P, i < N → ∀ d ∈ ds, I i a P → wp (b a d) P fun f P' => ∃ a', f = .nx a' ∧ I (i + 1) a' P') →
    wp (forF b ds a) P fun f P' => ∃ a', f = .nx a' ∧ I (i + ds.length) a' P'
  | [], i, a, P, _, h, _ => wp_pure ⟨a, rfl, h⟩
  | d :: ds, i, a, P, hn, h, hb => by
    rw [List.length_cons] at hn
    unfold forF
    refine wp_bind (wp_mono (hb i a P (by omega) d List.mem_cons_self h) fun f P' ⟨a', e, q⟩ => ?_)
    subst e
    refine wp_mono (wp_for I N ds (i + 1) a' P' (by omega) q fun i a P hi x hx => hb i a P hi x (List.mem_cons_of_mem _ hx)) fun f p ⟨a2, e2, q2⟩ => ⟨a2, e2, ?_⟩
    rw [List.length_cons, show i + (ds.length + 1) = i + 1 + ds.length by omega]
    exact q2
/-- a comprehension without a test, its elements drawn -/
theorem wp_comp {e : D → M D} (I : Nat → Pot → Prop) (R : D → Prop) (N : Nat) : ∀ (ds : List D) (i : Nat) (P : Pot), i + ds.length ≤ N → I i P → (∀ i P, i < N → ∀ d ∈ ds, I i P → wp (e d) P fun r P' => R r ∧ I (i + 1) P') →
    wp (compF (fun _ => Pure.pure true) e ds) P fun rs P' => rs.length = ds.length ∧ (∀ r ∈ rs, R r) ∧ I (i + ds.length) P'
  | [], i, P, _, h, _ => wp_pure ⟨rfl, fun _ h => absurd h List.not_mem_nil, h⟩
  | d :: ds, i, P, hn, h, hb => by
    rw [List.length_cons] at hn
    unfold compF
    refine wp_eq (by rw [noE, pb, ittr]) (wp_bind (wp_mono (wp_noEx (hb i P (by omega) d List.mem_cons_self h)) fun r P' ⟨hr, q⟩ => ?_))
    refine wp_bind (wp_mono (wp_noEx (wp_comp I R N ds (i + 1) P' (by omega) q fun i P hi x hx => hb i P hi x (List.mem_cons_of_mem _ hx))) fun rs P2 ⟨h1, h2, h3⟩ => ?_)
    refine wp_pure ⟨by rw [List.length_cons, List.length_cons, h1], fun x hx => ?_, ?_⟩
    · rcases List.mem_cons.mp hx with z | z
      · exact z ▸ hr
      · exact h2 x z
    · rw [List.length_cons, show i + (ds.length + 1) = i + 1 + ds.length by omega]
      exact h3
theorem wp_withPot {ds : List D} {m : M (Fl α)} {Q : Fl α → Pot → Prop} (h : wp m (some ds) fun f P' => P' ≠ none ∧ Q f none) : wp (withPot ds m) none Q := by
  obtain ⟨a, P', e, n, q⟩ := h
  cases P' with
  | none => exact absurd rfl n
  | some ps => exact ⟨a, none, by unfold withPot; rw [e], q⟩
end
end DL

namespace KX
open PySem PySem.Spec PyProof.Rows L2 DL
def topS (i : Nat) : Stmt := PySem.Challenge.pw_loneguess_k00_integers_names_letters_and.main.body.getD i (.Pass ⟨0, 0, 0, 0⟩)
def mthS (i j : Nat) : Stmt := (match topS i with | .ClassDef (body := b) .. => b | _ => []).getD j (.Pass ⟨0, 0, 0, 0⟩)
noncomputable section
variable {P : Program} {w : World} {K : PySem.W.Frag} {mg : Str → Option Value} {base : Heap}
def is_InvalidLetters : Str → Option Bool := fun n => if n = "InvalidLetters" then some true else none
/-! is_integer -/
abbrev s_is_integer : Stmt := topS 7
abbrev N_is_integer : List Str := ["value"]
theorem sc_is_integer : FnScope N_is_integer ["value"] (defScope s_is_integer) := ⟨rfl, rfl, rfl, by decide +kernel, rfl, by decide +kernel, by decide +kernel⟩
def m_is_integer (value0 : D) : M D := (thenR ((((((Pure.pure value0) >>= isiD "int") >>= boolD) >>= fun b => Pure.pure (!b)) >>= fun x => if x = true then Pure.pure true else (((Pure.pure value0) >>= isiD "bool") >>= boolD)) >>= fun x => if x = true then ((Pure.pure (.bl false)) >>= fun d => Pure.pure (.rt d)) else (Pure.pure (.nx ()))) fun _ => (((((Pure.pure value0) >>= bitsD) >>= fun x => ((Pure.pure (.int 4)) >>= fun x => (Pure.pure (.int 200)) >>= fun y => mulD x y) >>= fun y => leD x y) >>= fun x => boolD x >>= fun x => if x = true then ((((((((Pure.pure value0) >>= fun x => (Pure.pure []) >>= fun xs => Pure.pure (.v x :: xs)) >>= fun as => DL.vals as >>= f1 absD) >>= fun x => (Pure.pure []) >>= fun xs => Pure.pure (.v x :: xs)) >>= fun as => DL.vals as >>= f1 strD) >>= fun x => (Pure.pure []) >>= fun xs => Pure.pure (.v x :: xs)) >>= fun as => DL.vals as >>= f1 lenD) >>= fun x => (Pure.pure (.int 200)) >>= fun y => leD x y) else Pure.pure (.bl false)) >>= fun d => Pure.pure (.rt d))) >>= doneF (α := Unit)
def g_is_integer : List Ar → M D
  | [.v value0] => m_is_integer value0
  | _ => M.no
theorem c_is_integer {as : List Ar} {P : Pot} {ok : D → Pot → Prop} {ex : Ex → Pot → Prop} (h : out (g_is_integer as) P ok ex) : ∃ value0, as = [.v value0] := by
  unfold g_is_integer at h; split at h
  · exact ⟨_, rfl⟩
  · exact h.elim
theorem ok_is_integer {f : Addr} {fd : FuncData} (Fn : Fun K "is_integer" "is_integer" s_is_integer f fd) (b_abs : mg "abs" = none) (b_bool : mg "bool" = none) (b_int : mg "int" = none) (b_isinstance : mg "isinstance" = none) (b_len : mg "len" = none) (b_str : mg "str" = none) (e_MAX_DIGITS : ∃ t, mg "MAX_DIGITS" = some (.int 200 t)) : FnG P w K mg base 1 f fd ["value"] (spD ⟨mg, K, []⟩ g_is_integer) := by
  obtain ⟨t_MAX_DIGITS, c_MAX_DIGITS⟩ := e_MAX_DIGITS
  refine fnG_of (k := 0) Fn rfl rfl sc_is_integer (fun as P ok ex h => by obtain ⟨value0, rfl⟩ := c_is_integer h; rfl) fun cd A fr s H0 G0 ap E as P0 ok ex h bx => ?_
  obtain ⟨value0, rfl⟩ := c_is_integer h
  have hu64 := hu_64 bx.cx.rm
  have hu65 := hu_65 bx.cx.rm
  have hu102 := hu_102 bx.cx.rm
  exact ⟨Unit, (fun (a : Unit) => [.un]), _, ds_at (ρ' := [.v value0]) rfl (ds_cons (ds_if (E := (fun (a : Unit) => [.v value0])) (PW.pt (dw_or (dt_not (dt_val (de_isi (T := "int") rfl (by decide) (by rfl) b_isinstance (de_var rfl (pv 0)) (by rfl) b_int (by decide +kernel)))) (dw_or1 (dt_val (de_isi (T := "bool") rfl (by decide) (by rfl) b_isinstance (de_var rfl (pv 0)) (by rfl) b_bool (by decide +kernel)))))) (ds_one (ds_ret de_bl)) (ds_end (a := ()) (.k FogL.n))) fun _ => ds_at (ρ' := [.v value0]) rfl (ds_one (ds_ret (de_and (de_cmp opr_le opd_le (de_bits (de_var rfl (pv 0))) (de_op opr_mul opd_mul de_int (de_glob (v := .int 200) (by rfl) c_MAX_DIGITS ⟨_, rfl⟩ fun _ => .int _))) (de_one (de_cmp opr_le opd_le (de_blt cr_len cd_len (by rfl) b_len (by decide +kernel) (da_cons (de_ty cr_str cd_str (by rfl) b_str (by decide +kernel) (da_cons (de_blt cr_abs cd_abs (by rfl) b_abs (by decide +kernel) (da_cons (de_var rfl (pv 0)) da_nil)) da_nil)) da_nil)) (de_glob (v := .int 200) (by rfl) c_MAX_DIGITS ⟨_, rfl⟩ fun _ => .int _))))))), rfl⟩
/-! is_plain -/
abbrev s_is_plain : Stmt := topS 12
abbrev N_is_plain : List Str := ["text", "letter"]
theorem sc_is_plain : FnScope N_is_plain ["text"] (defScope s_is_plain) := ⟨rfl, rfl, rfl, by decide +kernel, rfl, by decide +kernel, by decide +kernel⟩
def m_is_plain (text0 : D) : M D := ((((((Pure.pure text0) >>= iterA) >>= fun ds => noEx (compF (fun _ => Pure.pure true) (fun letter2 => (chainM (Pure.pure (.str "a")) (Pure.pure letter2) (Pure.pure (.str "z")) leD leD)) ds) >>= mkL) >>= fun x => (Pure.pure []) >>= fun xs => Pure.pure (.v x :: xs)) >>= fun as => DL.vals as >>= f1 allD) >>= fun d => Pure.pure (.rt d)) >>= doneF (α := Unit)
def g_is_plain : List Ar → M D
  | [.v text0] => m_is_plain text0
  | _ => M.no
theorem c_is_plain {as : List Ar} {P : Pot} {ok : D → Pot → Prop} {ex : Ex → Pot → Prop} (h : out (g_is_plain as) P ok ex) : ∃ text0, as = [.v text0] := by
  unfold g_is_plain at h; split at h
  · exact ⟨_, rfl⟩
  · exact h.elim
theorem ok_is_plain {f : Addr} {fd : FuncData} (Fn : Fun K "is_plain" "is_plain" s_is_plain f fd) (b_all : mg "all" = none) : FnG P w K mg base 1 f fd ["text"] (spD ⟨mg, K, []⟩ g_is_plain) := by
  refine fnG_of (k := 0) Fn rfl rfl sc_is_plain (fun as P ok ex h => by obtain ⟨text0, rfl⟩ := c_is_plain h; rfl) fun cd A fr s H0 G0 ap E as P0 ok ex h bx => ?_
  obtain ⟨text0, rfl⟩ := c_is_plain h
  have hu64 := hu_64 bx.cx.rm
  have hu65 := hu_65 bx.cx.rm
  have hu102 := hu_102 bx.cx.rm
  exact ⟨Unit, (fun (a : Unit) => [.un, .un]), _, ds_at (ρ' := [.v text0, .un]) rfl (ds_one (ds_ret (de_blt (cr_allD rfl) cd_all (by rfl) b_all (by decide +kernel) (da_cons (de_lc (own := [("letter", 1)]) (g := gName 1) (tt := tYes) rfl sc_is_plain.nd (blkOk_by (N := N_is_plain) (sc := defScope s_is_plain) (by decide +kernel)) (di_any rfl (de_var rfl (pv 0))) (tgt_name (by simp)) (fun ρ d h => nomatch h) test_yes (fun _ _ _ _ _ => pg_name (i := 1) sc_is_plain.nd rfl (Or.inl rfl)) (fun _ _ _ _ _ => pts_nil) (fun _ _ _ _ _ => pe_elt fun F letter2 ρ' e => by cases e; exact de_at (ρ' := [.v text0, .v letter2]) rfl (de_chain opr_le opr_le opd_le opd_le de_str (de_var rfl (pv 1)) de_str))) da_nil)))), rfl⟩
/-! is_name -/
abbrev s_is_name : Stmt := topS 8
abbrev N_is_name : List Str := ["value"]
theorem sc_is_name : FnScope N_is_name ["value"] (defScope s_is_name) := ⟨rfl, rfl, rfl, by decide +kernel, rfl, by decide +kernel, by decide +kernel⟩
def m_is_name (value0 : D) : M D := ((((Pure.pure value0) >>= isiD "str") >>= fun x => boolD x >>= fun x => if x = true then ((chainM (Pure.pure (.int 1)) (((Pure.pure value0) >>= fun x => (Pure.pure []) >>= fun xs => Pure.pure (.v x :: xs)) >>= fun as => DL.vals as >>= f1 lenD) (Pure.pure (.int 8)) leD leD) >>= fun x => boolD x >>= fun x => if x = true then (((Pure.pure value0) >>= fun x => (Pure.pure []) >>= fun xs => Pure.pure (.v x :: xs)) >>= g_is_plain) else Pure.pure (.bl false)) else Pure.pure (.bl false)) >>= fun d => Pure.pure (.rt d)) >>= doneF (α := Unit)
def g_is_name : List Ar → M D
  | [.v value0] => m_is_name value0
  | _ => M.no
theorem c_is_name {as : List Ar} {P : Pot} {ok : D → Pot → Prop} {ex : Ex → Pot → Prop} (h : out (g_is_name as) P ok ex) : ∃ value0, as = [.v value0] := by
  unfold g_is_name at h; split at h
  · exact ⟨_, rfl⟩
  · exact h.elim
theorem ok_is_name {f : Addr} {fd : FuncData} (Fn : Fun K "is_name" "is_name" s_is_name f fd) (b_isinstance : mg "isinstance" = none) (b_len : mg "len" = none) (b_str : mg "str" = none) (e_MAX_LETTERS : ∃ t, mg "MAX_LETTERS" = some (.int 8 t)) (d_is_plain : Cal P w K mg base 1 "is_plain" (spD ⟨mg, K, []⟩ g_is_plain)) : FnG P w K mg base 2 f fd ["value"] (spD ⟨mg, K, []⟩ g_is_name) := by
  obtain ⟨t_MAX_LETTERS, c_MAX_LETTERS⟩ := e_MAX_LETTERS
  refine fnG_of (k := 1) Fn rfl rfl sc_is_name (fun as P ok ex h => by obtain ⟨value0, rfl⟩ := c_is_name h; rfl) fun cd A fr s H0 G0 ap E as P0 ok ex h bx => ?_
  obtain ⟨value0, rfl⟩ := c_is_name h
  have hu64 := hu_64 bx.cx.rm
  have hu65 := hu_65 bx.cx.rm
  have hu102 := hu_102 bx.cx.rm
  exact ⟨Unit, (fun (a : Unit) => [.un]), _, ds_at (ρ' := [.v value0]) rfl (ds_one (ds_ret (de_and (de_isi (T := "str") rfl (by decide) (by rfl) b_isinstance (de_var rfl (pv 0)) (by rfl) b_str (by decide +kernel)) (de_and (de_chain opr_le opr_le opd_le opd_le de_int (de_blt cr_len cd_len (by rfl) b_len (by decide +kernel) (da_cons (de_var rfl (pv 0)) da_nil)) (de_glob (v := .int 8) (by rfl) c_MAX_LETTERS ⟨_, rfl⟩ fun _ => .int _)) (de_one (de_callC d_is_plain ⟨rfl, rfl, bx.cx.ga, bx.cx.rm⟩ (by omega) bx.tk (by rfl) (da_cons (de_var rfl (pv 0)) da_nil))))))), rfl⟩
/-! is_ascending -/
abbrev s_is_ascending : Stmt := topS 11
abbrev N_is_ascending : List Str := ["values", "one", "other"]
theorem sc_is_ascending : FnScope N_is_ascending ["values"] (defScope s_is_ascending) := ⟨rfl, rfl, rfl, by decide +kernel, rfl, by decide +kernel, by decide +kernel⟩
def m_is_ascending (values0 : D) : M D := (((((((Pure.pure values0) >>= fun x => (((Pure.pure values0) >>= fun x => ((Pure.pure (.int 1)) >>= partD) >>= fun l => (Pure.pure none) >>= fun u => sliceD x l u) >>= fun x => (Pure.pure []) >>= fun xs => Pure.pure (.v x :: xs)) >>= fun xs => Pure.pure (.v x :: xs)) >>= fun as => DL.vals as >>= zipD) >>= fun ds => noEx (compF (un2 fun one3 other4 => Pure.pure true) (un2 fun one3 other4 => ((Pure.pure one3) >>= fun x => (Pure.pure other4) >>= fun y => ltD x y)) ds) >>= mkL) >>= fun x => (Pure.pure []) >>= fun xs => Pure.pure (.v x :: xs)) >>= fun as => DL.vals as >>= f1 allD) >>= fun d => Pure.pure (.rt d)) >>= doneF (α := Unit)
def g_is_ascending : List Ar → M D
  | [.v values0] => m_is_ascending values0
  | _ => M.no
theorem c_is_ascending {as : List Ar} {P : Pot} {ok : D → Pot → Prop} {ex : Ex → Pot → Prop} (h : out (g_is_ascending as) P ok ex) : ∃ values0, as = [.v values0] := by
  unfold g_is_ascending at h; split at h
  · exact ⟨_, rfl⟩
  · exact h.elim
theorem ok_is_ascending {f : Addr} {fd : FuncData} (Fn : Fun K "is_ascending" "is_ascending" s_is_ascending f fd) (b_all : mg "all" = none) (b_zip : mg "zip" = none) : FnG P w K mg base 1 f fd ["values"] (spD ⟨mg, K, []⟩ g_is_ascending) := by
  refine fnG_of (k := 0) Fn rfl rfl sc_is_ascending (fun as P ok ex h => by obtain ⟨values0, rfl⟩ := c_is_ascending h; rfl) fun cd A fr s H0 G0 ap E as P0 ok ex h bx => ?_
  obtain ⟨values0, rfl⟩ := c_is_ascending h
  have hu64 := hu_64 bx.cx.rm
  have hu65 := hu_65 bx.cx.rm
  have hu102 := hu_102 bx.cx.rm
  exact ⟨Unit, (fun (a : Unit) => [.un, .un, .un]), _, ds_at (ρ' := [.v values0, .un, .un]) rfl (ds_one (ds_ret (de_blt (cr_allD rfl) cd_all (by rfl) b_all (by decide +kernel) (da_cons (de_lc (own := [("one", 1), ("other", 2)])  (tt := tYes) rfl sc_is_ascending.nd (blkOk_by (N := N_is_ascending) (sc := defScope s_is_ascending) (by decide +kernel)) (di_zip rfl (by rfl) b_zip (da_cons (de_var rfl (pv 0)) (da_cons (de_slice rfl (de_var rfl (pv 0)) (do_some de_int) do_none) da_nil))) (tgt_tup (is := [1, 2]) rfl (by simp)) (fun ρ d h => un2_no h) test_yes2 (fun _ _ _ _ _ => pg_tup rfl (pgs_cons (pg_name (i := 1) sc_is_ascending.nd rfl (Or.inl rfl)) (pgs_cons (pg_name (i := 2) sc_is_ascending.nd rfl (Or.inl rfl)) pgs_nil))) (fun _ _ _ _ _ => pts_nil) (fun _ _ _ _ _ => pe_elt fun F d ρ' e => by obtain ⟨one3, other4, rfl, rfl⟩ := tupS2 e; exact de_at (ρ' := [.v values0, .v one3, .v other4]) rfl (de_cmp opr_lt opd_lt (de_var rfl (pv 1)) (de_var rfl (pv 2))))) da_nil)))), rfl⟩
/-! is_letters -/
abbrev s_is_letters : Stmt := topS 9
abbrev N_is_letters : List Str := ["value"]
theorem sc_is_letters : FnScope N_is_letters ["value"] (defScope s_is_letters) := ⟨rfl, rfl, rfl, by decide +kernel, rfl, by decide +kernel, by decide +kernel⟩
def m_is_letters (value0 : D) : M D := (thenR ((((((Pure.pure value0) >>= isiD "str") >>= boolD) >>= fun b => Pure.pure (!b)) >>= fun x => if x = true then Pure.pure true else (((chainM (Pure.pure (.int 1)) (((Pure.pure value0) >>= fun x => (Pure.pure []) >>= fun xs => Pure.pure (.v x :: xs)) >>= fun as => DL.vals as >>= f1 lenD) (Pure.pure (.int 4)) leD leD) >>= boolD) >>= fun b => Pure.pure (!b))) >>= fun x => if x = true then ((Pure.pure (.bl false)) >>= fun d => Pure.pure (.rt d)) else (Pure.pure (.nx ()))) fun _ => (((((Pure.pure value0) >>= fun x => (Pure.pure []) >>= fun xs => Pure.pure (.v x :: xs)) >>= g_is_plain) >>= fun x => boolD x >>= fun x => if x = true then (((Pure.pure value0) >>= fun x => (Pure.pure []) >>= fun xs => Pure.pure (.v x :: xs)) >>= g_is_ascending) else Pure.pure (.bl false)) >>= fun d => Pure.pure (.rt d))) >>= doneF (α := Unit)
def g_is_letters : List Ar → M D
  | [.v value0] => m_is_letters value0
  | _ => M.no
theorem c_is_letters {as : List Ar} {P : Pot} {ok : D → Pot → Prop} {ex : Ex → Pot → Prop} (h : out (g_is_letters as) P ok ex) : ∃ value0, as = [.v value0] := by
  unfold g_is_letters at h; split at h
  · exact ⟨_, rfl⟩
  · exact h.elim
theorem ok_is_letters {f : Addr} {fd : FuncData} (Fn : Fun K "is_letters" "is_letters" s_is_letters f fd) (b_isinstance : mg "isinstance" = none) (b_len : mg "len" = none) (b_str : mg "str" = none) (e_MAX_ALPHABET : ∃ t, mg "_MAX_ALPHABET" = some (.int 4 t)) (d_is_ascending : Cal P w K mg base 1 "is_ascending" (spD ⟨mg, K, []⟩ g_is_ascending)) (d_is_plain : Cal P w K mg base 1 "is_plain" (spD ⟨mg, K, []⟩ g_is_plain)) : FnG P w K mg base 2 f fd ["value"] (spD ⟨mg, K, []⟩ g_is_letters) := by
  obtain ⟨t_MAX_ALPHABET, c_MAX_ALPHABET⟩ := e_MAX_ALPHABET
  refine fnG_of (k := 1) Fn rfl rfl sc_is_letters (fun as P ok ex h => by obtain ⟨value0, rfl⟩ := c_is_letters h; rfl) fun cd A fr s H0 G0 ap E as P0 ok ex h bx => ?_
  obtain ⟨value0, rfl⟩ := c_is_letters h
  have hu64 := hu_64 bx.cx.rm
  have hu65 := hu_65 bx.cx.rm
  have hu102 := hu_102 bx.cx.rm
  exact ⟨Unit, (fun (a : Unit) => [.un]), _, ds_at (ρ' := [.v value0]) rfl (ds_cons (ds_if (E := (fun (a : Unit) => [.v value0])) (PW.pt (dw_or (dt_not (dt_val (de_isi (T := "str") rfl (by decide) (by rfl) b_isinstance (de_var rfl (pv 0)) (by rfl) b_str (by decide +kernel)))) (dw_or1 (dt_not (dt_chain opr_le opr_le opd_le opd_le de_int (de_blt cr_len cd_len (by rfl) b_len (by decide +kernel) (da_cons (de_var rfl (pv 0)) da_nil)) (de_glob (v := .int 4) (by rfl) c_MAX_ALPHABET ⟨_, rfl⟩ fun _ => .int _)))))) (ds_one (ds_ret de_bl)) (ds_end (a := ()) (.k FogL.n))) fun _ => ds_at (ρ' := [.v value0]) rfl (ds_one (ds_ret (de_and (de_callC d_is_plain ⟨rfl, rfl, bx.cx.ga, bx.cx.rm⟩ (by omega) bx.tk (by rfl) (da_cons (de_var rfl (pv 0)) da_nil)) (de_one (de_callC d_is_ascending ⟨rfl, rfl, bx.cx.ga, bx.cx.rm⟩ (by omega) bx.tk (by rfl) (da_cons (de_var rfl (pv 0)) da_nil))))))), rfl⟩
/-! check_letters -/
abbrev s_check_letters : Stmt := topS 13
abbrev N_check_letters : List Str := ["value"]
theorem sc_check_letters : FnScope N_check_letters ["value"] (defScope s_check_letters) := ⟨rfl, rfl, rfl, by decide +kernel, rfl, by decide +kernel, by decide +kernel⟩
def m_check_letters (value0 : D) : M D := (thenR ((((((Pure.pure value0) >>= fun x => (Pure.pure []) >>= fun xs => Pure.pure (.v x :: xs)) >>= g_is_letters) >>= boolD) >>= fun b => Pure.pure (!b)) >>= fun x => if x = true then (M.raise ⟨"InvalidLetters", none⟩) else (Pure.pure (.nx ()))) fun _ => (Pure.pure (.nx ()))) >>= doneF (α := Unit)
def g_check_letters : List Ar → M D
  | [.v value0] => m_check_letters value0
  | _ => M.no
theorem c_check_letters {as : List Ar} {P : Pot} {ok : D → Pot → Prop} {ex : Ex → Pot → Prop} (h : out (g_check_letters as) P ok ex) : ∃ value0, as = [.v value0] := by
  unfold g_check_letters at h; split at h
  · exact ⟨_, rfl⟩
  · exact h.elim
theorem ok_check_letters {f : Addr} {fd : FuncData} (Fn : Fun K "check_letters" "check_letters" s_check_letters f fd) (d_is_letters : Cal P w K mg base 2 "is_letters" (spD ⟨mg, K, []⟩ g_is_letters)) (x_InvalidLetters : Exc0 K mg "InvalidLetters") : FnG P w K mg base 3 f fd ["value"] (spD ⟨mg, K, []⟩ g_check_letters) := by
  refine fnG_of (k := 2) Fn rfl rfl sc_check_letters (fun as P ok ex h => by obtain ⟨value0, rfl⟩ := c_check_letters h; rfl) fun cd A fr s H0 G0 ap E as P0 ok ex h bx => ?_
  obtain ⟨value0, rfl⟩ := c_check_letters h
  have hu64 := hu_64 bx.cx.rm
  have hu65 := hu_65 bx.cx.rm
  have hu102 := hu_102 bx.cx.rm
  exact ⟨Unit, (fun (a : Unit) => [.un]), _, ds_at (ρ' := [.v value0]) rfl (ds_cons (ds_if (E := (fun (a : Unit) => [.v value0])) (dt_not (dt_val (de_callC d_is_letters ⟨rfl, rfl, bx.cx.ga, bx.cx.rm⟩ (by omega) bx.tk (by rfl) (da_cons (de_var rfl (pv 0)) da_nil)))) (ds_one (ds_raiseC x_InvalidLetters rfl rfl rfl bx.tk (by rfl))) (ds_end (a := ()) (.k FogL.n))) fun _ => ds_at (ρ' := [.v value0]) rfl (ds_end (a := ()) (.u FogL.n))), rfl⟩
/-! is_text -/
abbrev s_is_text : Stmt := topS 10
abbrev N_is_text : List Str := ["letters", "value", "letter"]
theorem sc_is_text : FnScope N_is_text ["letters", "value"] (defScope s_is_text) := ⟨rfl, rfl, rfl, by decide +kernel, rfl, by decide +kernel, by decide +kernel⟩
def m_is_text (letters0 : D) (value0 : D) : M D := (thenR ((((Pure.pure letters0) >>= fun x => (Pure.pure []) >>= fun xs => Pure.pure (.v x :: xs)) >>= g_check_letters) >>= fun _ => Pure.pure (.nx ())) fun _ => ((((Pure.pure value0) >>= isiD "str") >>= fun x => boolD x >>= fun x => if x = true then (((((Pure.pure value0) >>= iterA) >>= fun ds => noEx (compF (fun _ => Pure.pure true) (fun letter7 => ((Pure.pure letter7) >>= fun x => (Pure.pure letters0) >>= fun y => (inD false) x y)) ds) >>= mkL) >>= fun x => (Pure.pure []) >>= fun xs => Pure.pure (.v x :: xs)) >>= fun as => DL.vals as >>= f1 allD) else Pure.pure (.bl false)) >>= fun d => Pure.pure (.rt d))) >>= doneF (α := Unit)
def g_is_text : List Ar → M D
  | [.v letters0, .v value0] => m_is_text letters0 value0
  | _ => M.no
theorem c_is_text {as : List Ar} {P : Pot} {ok : D → Pot → Prop} {ex : Ex → Pot → Prop} (h : out (g_is_text as) P ok ex) : ∃ letters0 value0, as = [.v letters0, .v value0] := by
  unfold g_is_text at h; split at h
  · exact ⟨_, _, rfl⟩
  · exact h.elim
theorem ok_is_text {f : Addr} {fd : FuncData} (Fn : Fun K "is_text" "is_text" s_is_text f fd) (b_all : mg "all" = none) (b_isinstance : mg "isinstance" = none) (b_str : mg "str" = none) (d_check_letters : Cal P w K mg base 3 "check_letters" (spD ⟨mg, K, []⟩ g_check_letters)) : FnG P w K mg base 4 f fd ["letters", "value"] (spD ⟨mg, K, []⟩ g_is_text) := by
  refine fnG_of (k := 3) Fn rfl rfl sc_is_text (fun as P ok ex h => by obtain ⟨letters0, value0, rfl⟩ := c_is_text h; rfl) fun cd A fr s H0 G0 ap E as P0 ok ex h bx => ?_
  obtain ⟨letters0, value0, rfl⟩ := c_is_text h
  have hu64 := hu_64 bx.cx.rm
  have hu65 := hu_65 bx.cx.rm
  have hu102 := hu_102 bx.cx.rm
  exact ⟨Unit, (fun (a : Unit) => [.un, .un, .un]), _, ds_at (ρ' := [.v letters0, .v value0, .un]) rfl (ds_cons (ds_expr (E := (fun (a : Unit) => [.v letters0, .v value0, .un])) (a := ()) (de_callC d_check_letters ⟨rfl, rfl, bx.cx.ga, bx.cx.rm⟩ (by omega) bx.tk (by rfl) (da_cons (de_var rfl (pv 0)) da_nil)) rfl) fun _ => ds_at (ρ' := [.v letters0, .v value0, .un]) rfl (ds_one (ds_ret (de_and (de_isi (T := "str") rfl (by decide) (by rfl) b_isinstance (de_var rfl (pv 1)) (by rfl) b_str (by decide +kernel)) (de_one (de_blt (cr_allD rfl) cd_all (by rfl) b_all (by decide +kernel) (da_cons (de_lc (own := [("letter", 2)]) (g := gName 2) (tt := tYes) rfl sc_is_text.nd (blkOk_by (N := N_is_text) (sc := defScope s_is_text) (by decide +kernel)) (di_any rfl (de_var rfl (pv 1))) (tgt_name (by simp)) (fun ρ d h => nomatch h) test_yes (fun _ _ _ _ _ => pg_name (i := 2) sc_is_text.nd rfl (Or.inl rfl)) (fun _ _ _ _ _ => pts_nil) (fun _ _ _ _ _ => pe_elt fun F letter7 ρ' e => by cases e; exact de_at (ρ' := [.v letters0, .v value0, .v letter7]) rfl (de_cmp (opr_in hu65) (opd_in false) (de_var rfl (pv 2)) (de_var rfl (pv 0))))) da_nil))))))), rfl⟩
/-! _law_pot -/
abbrev s_l_pot : Stmt := topS 15
abbrev N_l_pot : List Str := ["_law_script", "_law_at", "_law_cell", "_law_great", "_law_blend"]
theorem sc_l_pot : FnScope N_l_pot ["_law_script", "_law_at"] (defScope s_l_pot) := ⟨rfl, rfl, rfl, by decide +kernel, rfl, by decide +kernel, by decide +kernel⟩
def m_l_pot (l_script0 : D) (l_at0 : D) : M (List D) := (thenF (((((Pure.pure l_at0) >>= fun x => (((Pure.pure l_script0) >>= fun x => (Pure.pure []) >>= fun xs => Pure.pure (.v x :: xs)) >>= fun as => DL.vals as >>= f1 lenD) >>= fun y => ltD x y) >>= boolD) >>= fun x => if x = true then ((Pure.pure l_script0) >>= fun x => (Pure.pure l_at0) >>= fun y => ixD x y) else (((Pure.pure (.int 67)) >>= fun x => (Pure.pure l_at0) >>= fun y => mulD x y) >>= fun x => (Pure.pure (.int 37)) >>= fun y => addD x y)) >>= fun d => Pure.pure (.nx d)) fun l_cell8 => (thenF (((((((Pure.pure l_cell8) >>= fun x => (Pure.pure []) >>= fun xs => Pure.pure (.v x :: xs)) >>= fun as => DL.vals as >>= f1 absD) >>= fun x => (Pure.pure []) >>= fun xs => Pure.pure (.v x :: xs)) >>= fun as => DL.vals as >>= f1 intOf) >>= fun x => (((Pure.pure (.int 10)) >>= fun x => (Pure.pure (.int 61)) >>= fun y => powD x y) >>= fun x => (Pure.pure (.int 11)) >>= fun y => powD x y) >>= fun y => modD x y) >>= fun d => Pure.pure (.nx d)) fun l_great9 => (thenF (((((((((Pure.pure l_great9) >>= fun x => (Pure.pure []) >>= fun xs => Pure.pure (.v x :: xs)) >>= fun as => DL.vals as >>= f1 intOf) >>= fun x => (Pure.pure (.int 2147483249)) >>= fun y => modD x y) >>= fun x => (Pure.pure (.int 96293)) >>= fun y => mulD x y) >>= fun x => ((Pure.pure (.int 9413)) >>= fun x => (Pure.pure l_at0) >>= fun y => mulD x y) >>= fun y => addD x y) >>= fun x => ((Pure.pure (.int 47)) >>= fun x => ((((Pure.pure l_cell8) >>= fun x => (Pure.pure (.int 0)) >>= fun y => ltD x y) >>= fun x => (Pure.pure []) >>= fun xs => Pure.pure (.v x :: xs)) >>= fun as => DL.vals as >>= f1 intOf) >>= fun y => mulD x y) >>= fun y => addD x y) >>= fun x => (Pure.pure (.int 73)) >>= fun y => addD x y) >>= fun d => Pure.pure (.nx d)) fun l_blend10 => (((((Pure.pure (.int 0)) >>= fun x => (((Pure.pure l_great9) >>= fun x => ((Pure.pure (.int 10)) >>= fun x => (Pure.pure (.int 18)) >>= fun y => powD x y) >>= fun y => subD x y) >>= fun x => (Pure.pure []) >>= fun xs => Pure.pure (.v x :: xs)) >>= fun xs => Pure.pure (.v x :: xs)) >>= fun as => DL.vals as >>= f2 maxD) >>= fun x => (((((Pure.pure l_blend10) >>= fun x => (Pure.pure []) >>= fun xs => Pure.pure (.v x :: xs)) >>= fun as => DL.vals as >>= f1 intOf) >>= fun x => (Pure.pure (.int 2305843009213693907)) >>= fun y => modD x y) >>= fun x => ((Pure.pure (.int 0)) >>= fun x => (Pure.pure []) >>= fun xs => Pure.pure (.v x :: xs)) >>= fun xs => Pure.pure (.v x :: xs)) >>= fun xs => Pure.pure (.v x :: xs)) >>= fun as => DL.vals as >>= mkN))))
def g_l_pot : List Ar → M (List D)
  | [.v l_script0, .v l_at0] => m_l_pot l_script0 l_at0
  | _ => M.no
theorem c_l_pot {as : List Ar} {P : Pot} {ok : List D → Pot → Prop} {ex : Ex → Pot → Prop} (h : out (g_l_pot as) P ok ex) : ∃ l_script0 l_at0, as = [.v l_script0, .v l_at0] := by
  unfold g_l_pot at h; split at h
  · exact ⟨_, _, rfl⟩
  · exact h.elim
theorem ok_l_pot {f : Addr} {fd : FuncData} (Fn : Fun K "_law_pot" "_law_pot" s_l_pot f fd) (b_abs : mg "abs" = none) (b_int : mg "int" = none) (b_len : mg "len" = none) (b_max : mg "max" = none) : FnG P w K mg base 1 f fd ["_law_script", "_law_at"] (spF ⟨mg, K, []⟩ g_l_pot) := by
  refine fnF_of (k := 0) Fn rfl rfl sc_l_pot (fun as P ok ex h => by obtain ⟨l_script0, l_at0, rfl⟩ := c_l_pot h; rfl) fun cd A fr s H0 G0 ap E as P0 ok ex h bx => ?_
  obtain ⟨l_script0, l_at0, rfl⟩ := c_l_pot h
  have hu64 := hu_64 bx.cx.rm
  have hu65 := hu_65 bx.cx.rm
  have hu102 := hu_102 bx.cx.rm
  exact df_at (ρ' := [.v l_script0, .v l_at0, .un, .un, .un]) rfl (df_cons (ds_set (i := 2) sc_l_pot.nd rfl (Or.inl rfl) (de_if (dt_cmp opr_lt opd_lt (de_var rfl (pv 1)) (de_blt cr_len cd_len (by rfl) b_len (by decide +kernel) (da_cons (de_var rfl (pv 0)) da_nil))) (de_ix rfl (de_var rfl (pv 0)) (de_var rfl (pv 1)) (by intro _ _; rfl)) (de_op opr_add opd_add (de_op opr_mul opd_mul de_int (de_var rfl (pv 1))) de_int))) fun l_cell8 => df_at (ρ' := [.v l_script0, .v l_at0, .v l_cell8, .un, .un]) rfl (df_cons (ds_set (i := 3) sc_l_pot.nd rfl (Or.inl rfl) (de_op op_mod opd_mod (de_ty cr_int cd_int (by rfl) b_int (by decide +kernel) (da_cons (de_blt cr_abs cd_abs (by rfl) b_abs (by decide +kernel) (da_cons (de_var rfl (pv 2)) da_nil)) da_nil)) (de_op op_powX opd_pow (de_op op_powX opd_pow de_int de_int) de_int))) fun l_great9 => df_at (ρ' := [.v l_script0, .v l_at0, .v l_cell8, .v l_great9, .un]) rfl (df_cons (ds_set (i := 4) sc_l_pot.nd rfl (Or.inl rfl) (de_op opr_add opd_add (de_op opr_add opd_add (de_op opr_add opd_add (de_op opr_mul opd_mul (de_op op_mod opd_mod (de_ty cr_int cd_int (by rfl) b_int (by decide +kernel) (da_cons (de_var rfl (pv 3)) da_nil)) de_int) de_int) (de_op opr_mul opd_mul de_int (de_var rfl (pv 1)))) (de_op opr_mul opd_mul de_int (de_ty cr_int cd_int (by rfl) b_int (by decide +kernel) (da_cons (de_cmp opr_lt opd_lt (de_var rfl (pv 2)) de_int) da_nil)))) de_int)) fun l_blend10 => df_at (ρ' := [.v l_script0, .v l_at0, .v l_cell8, .v l_great9, .v l_blend10]) rfl (df_ret (da_cons (de_blt (DL.cr_max rfl) cd_max (by rfl) b_max (by decide +kernel) (da_cons de_int (da_cons (de_op op_sub opd_sub (de_var rfl (pv 3)) (de_op op_powX opd_pow de_int de_int)) da_nil))) (da_cons (de_op op_mod opd_mod (de_ty cr_int cd_int (by rfl) b_int (by decide +kernel) (da_cons (de_var rfl (pv 4)) da_nil)) de_int) (da_cons de_int da_nil)))))))
/-! _law_bit -/
abbrev s_l_bit : Stmt := topS 16
abbrev N_l_bit : List Str := ["_law_pot_here", "_law_much", "_law_first", "_law_later", "_law_found"]
theorem sc_l_bit : FnScope N_l_bit ["_law_pot_here", "_law_much"] (defScope s_l_bit) := ⟨rfl, rfl, rfl, by decide +kernel, rfl, by decide +kernel, by decide +kernel⟩
def m_l_bit (l_much0 : D) : M D := (thenR (((((Pure.pure (.int 0)) >>= potGet) >>= fun x => (Pure.pure (.int 0)) >>= fun y => gtD x y) >>= boolD) >>= fun x => if x = true then (thenR ((((((Pure.pure (.int 0)) >>= potGet) >>= fun x => (Pure.pure []) >>= fun xs => Pure.pure (.v x :: xs)) >>= fun as => DL.vals as >>= f1 intOf) >>= fun x => (Pure.pure l_much0) >>= fun y => modD x y) >>= fun d => Pure.pure (.nx d)) fun l_found11 => (thenR ((((Pure.pure (.int 0)) >>= potGet) >>= fun x => (Pure.pure l_much0) >>= fun y => fdivD x y) >>= fun d => (Pure.pure (.int 0)) >>= fun y => potSet y d >>= fun _ => Pure.pure (.nx ())) fun _ => ((Pure.pure l_found11) >>= fun d => Pure.pure (.rt d)))) else (Pure.pure (.nx ()))) fun _ => (thenR ((((Pure.pure (.int 2)) >>= potGet) >>= fun x => (Pure.pure (.int 1)) >>= fun y => addD x y) >>= fun d => (Pure.pure (.int 2)) >>= fun y => potSet y d >>= fun _ => Pure.pure (.nx ())) fun _ => (thenR (((((((Pure.pure (.int 1)) >>= potGet) >>= fun x => ((Pure.pure (.int 1000453)) >>= fun x => ((Pure.pure (.int 2)) >>= potGet) >>= fun y => mulD x y) >>= fun y => addD x y) >>= fun x => (Pure.pure []) >>= fun xs => Pure.pure (.v x :: xs)) >>= fun as => DL.vals as >>= f1 intOf) >>= fun x => (Pure.pure (.int 2305843009213693951)) >>= fun y => modD x y) >>= fun d => Pure.pure (.nx d)) fun l_first13 => (thenR ((((((((Pure.pure l_first13) >>= fun x => (Pure.pure l_first13) >>= fun y => mulD x y) >>= fun x => (Pure.pure []) >>= fun xs => Pure.pure (.v x :: xs)) >>= fun as => DL.vals as >>= f1 intOf) >>= fun x => (Pure.pure (.int 2305843009213693921)) >>= fun y => modD x y) >>= fun x => (Pure.pure l_first13) >>= fun y => mulD x y) >>= fun x => ((Pure.pure (.int 9103)) >>= fun x => ((Pure.pure (.int 2)) >>= potGet) >>= fun y => mulD x y) >>= fun y => addD x y) >>= fun d => Pure.pure (.nx d)) fun l_later14 => (((((((((Pure.pure l_later14) >>= fun x => (Pure.pure []) >>= fun xs => Pure.pure (.v x :: xs)) >>= fun as => DL.vals as >>= f1 intOf) >>= fun x => (Pure.pure (.int 2305843009213693907)) >>= fun y => modD x y) >>= fun x => (Pure.pure (.int 16384)) >>= fun y => fdivD x y) >>= fun x => (Pure.pure []) >>= fun xs => Pure.pure (.v x :: xs)) >>= fun as => DL.vals as >>= f1 intOf) >>= fun x => (Pure.pure l_much0) >>= fun y => modD x y) >>= fun d => Pure.pure (.rt d)))))) >>= doneF (α := Unit)
def g_l_bit : List Ar → M D
  | [.p, .v l_much0] => m_l_bit l_much0
  | _ => M.no
theorem c_l_bit {as : List Ar} {P : Pot} {ok : D → Pot → Prop} {ex : Ex → Pot → Prop} (h : out (g_l_bit as) P ok ex) : ∃ l_much0, as = [.p, .v l_much0] := by
  unfold g_l_bit at h; split at h
  · exact ⟨_, rfl⟩
  · exact h.elim
theorem ok_l_bit {f : Addr} {fd : FuncData} (Fn : Fun K "_law_bit" "_law_bit" s_l_bit f fd) (b_int : mg "int" = none) : FnG P w K mg base 1 f fd ["_law_pot_here", "_law_much"] (spD ⟨mg, K, []⟩ g_l_bit) := by
  refine fnG_of (k := 0) Fn rfl rfl sc_l_bit (fun as P ok ex h => by obtain ⟨l_much0, rfl⟩ := c_l_bit h; rfl) fun cd A fr s H0 G0 ap E as P0 ok ex h bx => ?_
  obtain ⟨l_much0, rfl⟩ := c_l_bit h
  have hu64 := hu_64 bx.cx.rm
  have hu65 := hu_65 bx.cx.rm
  have hu102 := hu_102 bx.cx.rm
  exact ⟨Unit, (fun (a : Unit) => [.p, .un, .un, .un, .un]), _, ds_at (ρ' := [.p, .v l_much0, .un, .un, .un]) rfl (ds_cons (ds_if (E := (fun (a : Unit) => [.p, .v l_much0, .un, .un, .un])) (dt_cmp opr_gt opd_gt (de_potIx rfl rfl (pv 0) de_int (by intro _ _; rfl)) de_int) (ds_cons (ds_set (i := 4) sc_l_bit.nd rfl (Or.inl rfl) (de_op op_mod opd_mod (de_ty cr_int cd_int (by rfl) b_int (by decide +kernel) (da_cons (de_potIx rfl rfl (pv 0) de_int (by intro _ _; rfl)) da_nil)) (de_var rfl (pv 1)))) fun l_found11 => ds_at (ρ' := [.p, .v l_much0, .un, .un, .v l_found11]) rfl (ds_cons (ds_potSet (E := (fun (a : Unit) => [.p, .v l_much0, .un, .un, .v l_found11])) (a := ()) rfl (pv 0) de_int (de_op op_fdivW opd_fdiv (de_potIx rfl rfl (pv 0) de_int (by intro _ _; rfl)) (de_var rfl (pv 1))) rfl) fun _ => ds_at (ρ' := [.p, .v l_much0, .un, .un, .v l_found11]) rfl (ds_one (ds_ret (de_var rfl (pv 4)))))) (ds_end (a := ()) (.k (.k (.k (.k (.k FogL.n))))))) fun _ => ds_at (ρ' := [.p, .v l_much0, .un, .un, .un]) rfl (ds_cons (ds_potSet (E := (fun (a : Unit) => [.p, .v l_much0, .un, .un, .un])) (a := ()) rfl (pv 0) de_int (de_op opr_add opd_add (de_potIx rfl rfl (pv 0) de_int (by intro _ _; rfl)) de_int) rfl) fun _ => ds_at (ρ' := [.p, .v l_much0, .un, .un, .un]) rfl (ds_cons (ds_set (i := 2) sc_l_bit.nd rfl (Or.inl rfl) (de_op op_mod opd_mod (de_ty cr_int cd_int (by rfl) b_int (by decide +kernel) (da_cons (de_op opr_add opd_add (de_potIx rfl rfl (pv 0) de_int (by intro _ _; rfl)) (de_op opr_mul opd_mul de_int (de_potIx rfl rfl (pv 0) de_int (by intro _ _; rfl)))) da_nil)) de_int)) fun l_first13 => ds_at (ρ' := [.p, .v l_much0, .v l_first13, .un, .un]) rfl (ds_cons (ds_set (i := 3) sc_l_bit.nd rfl (Or.inl rfl) (de_op opr_add opd_add (de_op opr_mul opd_mul (de_op op_mod opd_mod (de_ty cr_int cd_int (by rfl) b_int (by decide +kernel) (da_cons (de_op opr_mul opd_mul (de_var rfl (pv 2)) (de_var rfl (pv 2))) da_nil)) de_int) (de_var rfl (pv 2))) (de_op opr_mul opd_mul de_int (de_potIx rfl rfl (pv 0) de_int (by intro _ _; rfl))))) fun l_later14 => ds_at (ρ' := [.p, .v l_much0, .v l_first13, .v l_later14, .un]) rfl (ds_one (ds_ret (de_op op_mod opd_mod (de_ty cr_int cd_int (by rfl) b_int (by decide +kernel) (da_cons (de_op op_fdivW opd_fdiv (de_op op_mod opd_mod (de_ty cr_int cd_int (by rfl) b_int (by decide +kernel) (da_cons (de_var rfl (pv 3)) da_nil)) de_int) de_int) da_nil)) (de_var rfl (pv 1))))))))), rfl⟩
/-! _law_pick -/
abbrev s_l_pick : Stmt := topS 17
abbrev N_l_pick : List Str := ["_law_pot_here", "_law_items"]
theorem sc_l_pick : FnScope N_l_pick ["_law_pot_here", "_law_items"] (defScope s_l_pick) := ⟨rfl, rfl, rfl, by decide +kernel, rfl, by decide +kernel, by decide +kernel⟩
def m_l_pick (l_items0 : D) : M D := (((Pure.pure l_items0) >>= fun x => ((((((Pure.pure l_items0) >>= fun x => (Pure.pure []) >>= fun xs => Pure.pure (.v x :: xs)) >>= fun as => DL.vals as >>= f1 lenD) >>= fun x => (Pure.pure []) >>= fun xs => Pure.pure (.v x :: xs)) >>= fun xs => Pure.pure (.p :: xs)) >>= g_l_bit) >>= fun y => ixD x y) >>= fun d => Pure.pure (.rt d)) >>= doneF (α := Unit)
def g_l_pick : List Ar → M D
  | [.p, .v l_items0] => m_l_pick l_items0
  | _ => M.no
theorem c_l_pick {as : List Ar} {P : Pot} {ok : D → Pot → Prop} {ex : Ex → Pot → Prop} (h : out (g_l_pick as) P ok ex) : ∃ l_items0, as = [.p, .v l_items0] := by
  unfold g_l_pick at h; split at h
  · exact ⟨_, rfl⟩
  · exact h.elim
theorem ok_l_pick {f : Addr} {fd : FuncData} (Fn : Fun K "_law_pick" "_law_pick" s_l_pick f fd) (b_len : mg "len" = none) (d_l_bit : Cal P w K mg base 1 "_law_bit" (spD ⟨mg, K, []⟩ g_l_bit)) : FnG P w K mg base 2 f fd ["_law_pot_here", "_law_items"] (spD ⟨mg, K, []⟩ g_l_pick) := by
  refine fnG_of (k := 1) Fn rfl rfl sc_l_pick (fun as P ok ex h => by obtain ⟨l_items0, rfl⟩ := c_l_pick h; rfl) fun cd A fr s H0 G0 ap E as P0 ok ex h bx => ?_
  obtain ⟨l_items0, rfl⟩ := c_l_pick h
  have hu64 := hu_64 bx.cx.rm
  have hu65 := hu_65 bx.cx.rm
  have hu102 := hu_102 bx.cx.rm
  exact ⟨Unit, (fun (a : Unit) => [.p, .un]), _, ds_at (ρ' := [.p, .v l_items0]) rfl (ds_one (ds_ret (de_ix rfl (de_var rfl (pv 1)) (de_callC d_l_bit ⟨rfl, rfl, bx.cx.ga, bx.cx.rm⟩ (by omega) bx.tk (by rfl) (da_pot rfl (pv 0) (da_cons (de_blt cr_len cd_len (by rfl) b_len (by decide +kernel) (da_cons (de_var rfl (pv 1)) da_nil)) da_nil))) (by intro _ _; rfl)))), rfl⟩
/-! _law_letter -/
abbrev s_l_letter : Stmt := topS 18
abbrev N_l_letter : List Str := ["_law_pot_here"]
theorem sc_l_letter : FnScope N_l_letter ["_law_pot_here"] (defScope s_l_letter) := ⟨rfl, rfl, rfl, by decide +kernel, rfl, by decide +kernel, by decide +kernel⟩
def m_l_letter  : M D := (((Pure.pure (.str "abcdefghijklmnopqrstuvwxyz")) >>= fun x => ((((Pure.pure (.int 26)) >>= fun x => (Pure.pure []) >>= fun xs => Pure.pure (.v x :: xs)) >>= fun xs => Pure.pure (.p :: xs)) >>= g_l_bit) >>= fun y => ixD x y) >>= fun d => Pure.pure (.rt d)) >>= doneF (α := Unit)
def g_l_letter : List Ar → M D
  | [.p] => m_l_letter 
  | _ => M.no
theorem c_l_letter {as : List Ar} {P : Pot} {ok : D → Pot → Prop} {ex : Ex → Pot → Prop} (h : out (g_l_letter as) P ok ex) : as = [.p] := by
  unfold g_l_letter at h; split at h
  · exact rfl
  · exact h.elim
theorem ok_l_letter {f : Addr} {fd : FuncData} (Fn : Fun K "_law_letter" "_law_letter" s_l_letter f fd) (d_l_bit : Cal P w K mg base 1 "_law_bit" (spD ⟨mg, K, []⟩ g_l_bit)) : FnG P w K mg base 2 f fd ["_law_pot_here"] (spD ⟨mg, K, []⟩ g_l_letter) := by
  refine fnG_of (k := 1) Fn rfl rfl sc_l_letter (fun as P ok ex h => by obtain rfl := c_l_letter h; rfl) fun cd A fr s H0 G0 ap E as P0 ok ex h bx => ?_
  obtain rfl := c_l_letter h
  have hu64 := hu_64 bx.cx.rm
  have hu65 := hu_65 bx.cx.rm
  have hu102 := hu_102 bx.cx.rm
  exact ⟨Unit, (fun (a : Unit) => [.p]), _, ds_at (ρ' := [.p]) rfl (ds_one (ds_ret (de_ix rfl de_str (de_callC d_l_bit ⟨rfl, rfl, bx.cx.ga, bx.cx.rm⟩ (by omega) bx.tk (by rfl) (da_pot rfl (pv 0) (da_cons de_int da_nil))) (by intro _ _; rfl)))), rfl⟩
/-! _law_spelled -/
abbrev s_l_spelled : Stmt := topS 19
abbrev N_l_spelled : List Str := ["_law_value", "_law_sign"]
theorem sc_l_spelled : FnScope N_l_spelled ["_law_value"] (defScope s_l_spelled) := ⟨rfl, rfl, rfl, by decide +kernel, rfl, by decide +kernel, by decide +kernel⟩
def m_l_spelled (l_value0 : D) : M D := (thenR ((((((Pure.pure l_value0) >>= isiD "str") >>= boolD) >>= fun b => Pure.pure (!b)) >>= fun x => if x = true then Pure.pure true else ((((((Pure.pure l_value0) >>= fun x => (Pure.pure []) >>= fun xs => Pure.pure (.v x :: xs)) >>= fun as => DL.vals as >>= f1 lenD) >>= fun x => (Pure.pure (.int 0)) >>= fun y => eqD x y) >>= boolD) >>= fun x => if x = true then Pure.pure true else (((((Pure.pure l_value0) >>= fun x => (Pure.pure []) >>= fun xs => Pure.pure (.v x :: xs)) >>= fun as => DL.vals as >>= f1 lenD) >>= fun x => (Pure.pure (.int 8)) >>= fun y => gtD x y) >>= boolD))) >>= fun x => if x = true then ((Pure.pure (.bl false)) >>= fun d => Pure.pure (.rt d)) else (Pure.pure (.nx ()))) fun _ => (((((Pure.pure l_value0) >>= iterA) >>= fun ds => noEx (compF (fun l_sign16 => (((Pure.pure l_sign16) >>= fun x => (Pure.pure (.str "abcdefghijklmnopqrstuvwxyz")) >>= fun y => (inD true) x y) >>= boolD)) (fun l_sign16 => (Pure.pure l_sign16)) ds) >>= mkL) >>= fun x => ((Pure.pure []) >>= fun as => DL.vals as >>= mkL) >>= fun y => eqD x y) >>= fun d => Pure.pure (.rt d))) >>= doneF (α := Unit)
def g_l_spelled : List Ar → M D
  | [.v l_value0] => m_l_spelled l_value0
  | _ => M.no
theorem c_l_spelled {as : List Ar} {P : Pot} {ok : D → Pot → Prop} {ex : Ex → Pot → Prop} (h : out (g_l_spelled as) P ok ex) : ∃ l_value0, as = [.v l_value0] := by
  unfold g_l_spelled at h; split at h
  · exact ⟨_, rfl⟩
  · exact h.elim
theorem ok_l_spelled {f : Addr} {fd : FuncData} (Fn : Fun K "_law_spelled" "_law_spelled" s_l_spelled f fd) (b_isinstance : mg "isinstance" = none) (b_len : mg "len" = none) (b_str : mg "str" = none) : FnG P w K mg base 1 f fd ["_law_value"] (spD ⟨mg, K, []⟩ g_l_spelled) := by
  refine fnG_of (k := 0) Fn rfl rfl sc_l_spelled (fun as P ok ex h => by obtain ⟨l_value0, rfl⟩ := c_l_spelled h; rfl) fun cd A fr s H0 G0 ap E as P0 ok ex h bx => ?_
  obtain ⟨l_value0, rfl⟩ := c_l_spelled h
  have hu64 := hu_64 bx.cx.rm
  have hu65 := hu_65 bx.cx.rm
  have hu102 := hu_102 bx.cx.rm
  exact ⟨Unit, (fun (a : Unit) => [.un, .un]), _, ds_at (ρ' := [.v l_value0, .un]) rfl (ds_cons (ds_if (E := (fun (a : Unit) => [.v l_value0, .un])) (PW.pt (dw_or (dt_not (dt_val (de_isi (T := "str") rfl (by decide) (by rfl) b_isinstance (de_var rfl (pv 0)) (by rfl) b_str (by decide +kernel)))) (dw_or (dt_cmp (op_eqD hu64) opd_eq (de_blt cr_len cd_len (by rfl) b_len (by decide +kernel) (da_cons (de_var rfl (pv 0)) da_nil)) de_int) (dw_or1 (dt_cmp opr_gt opd_gt (de_blt cr_len cd_len (by rfl) b_len (by decide +kernel) (da_cons (de_var rfl (pv 0)) da_nil)) de_int))))) (ds_one (ds_ret de_bl)) (ds_end (a := ()) (.k (.k FogL.n)))) fun _ => ds_at (ρ' := [.v l_value0, .un]) rfl (ds_one (ds_ret (de_cmp (op_eqD hu64) opd_eq (de_lc (own := [("_law_sign", 1)]) (g := gName 1)  rfl sc_l_spelled.nd (blkOk_by (N := N_l_spelled) (sc := defScope s_l_spelled) (by decide +kernel)) (di_any rfl (de_var rfl (pv 0))) (tgt_name (by simp)) (fun ρ d h => nomatch h) test_rd (fun _ _ _ _ _ => pg_name (i := 1) sc_l_spelled.nd rfl (Or.inl rfl)) (fun _ _ _ _ _ => pts_one (pt_tst fun F l_sign16 ρ' e => by cases e; exact dt_at (ρ' := [.v l_value0, .v l_sign16]) rfl (dt_cmp (opr_notin hu65) (opd_in true) (de_var rfl (pv 1)) de_str))) (fun _ _ _ _ _ => pe_elt fun F l_sign16 ρ' e => by cases e; exact de_at (ρ' := [.v l_value0, .v l_sign16]) rfl (de_var rfl (pv 1)))) (de_lst da_nil))))), rfl⟩
/-! _law_is_long -/
abbrev s_l_is_long : Stmt := topS 20
abbrev N_l_is_long : List Str := ["_law_value"]
theorem sc_l_is_long : FnScope N_l_is_long ["_law_value"] (defScope s_l_is_long) := ⟨rfl, rfl, rfl, by decide +kernel, rfl, by decide +kernel, by decide +kernel⟩
def m_l_is_long (l_value0 : D) : M D := (thenR ((((((Pure.pure l_value0) >>= isiD "int") >>= boolD) >>= fun b => Pure.pure (!b)) >>= fun x => if x = true then Pure.pure true else (((Pure.pure l_value0) >>= isiD "bool") >>= boolD)) >>= fun x => if x = true then ((Pure.pure (.bl false)) >>= fun d => Pure.pure (.rt d)) else (Pure.pure (.nx ()))) fun _ => (((((Pure.pure l_value0) >>= fun x => (Pure.pure []) >>= fun xs => Pure.pure (.v x :: xs)) >>= fun as => DL.vals as >>= f1 absD) >>= fun x => (((Pure.pure (.int 10)) >>= fun x => (Pure.pure (.int 50)) >>= fun y => powD x y) >>= fun x => (Pure.pure (.int 4)) >>= fun y => powD x y) >>= fun y => ltD x y) >>= fun d => Pure.pure (.rt d))) >>= doneF (α := Unit)
def g_l_is_long : List Ar → M D
  | [.v l_value0] => m_l_is_long l_value0
  | _ => M.no
theorem c_l_is_long {as : List Ar} {P : Pot} {ok : D → Pot → Prop} {ex : Ex → Pot → Prop} (h : out (g_l_is_long as) P ok ex) : ∃ l_value0, as = [.v l_value0] := by
  unfold g_l_is_long at h; split at h
  · exact ⟨_, rfl⟩
  · exact h.elim
theorem ok_l_is_long {f : Addr} {fd : FuncData} (Fn : Fun K "_law_is_long" "_law_is_long" s_l_is_long f fd) (b_abs : mg "abs" = none) (b_bool : mg "bool" = none) (b_int : mg "int" = none) (b_isinstance : mg "isinstance" = none) : FnG P w K mg base 1 f fd ["_law_value"] (spD ⟨mg, K, []⟩ g_l_is_long) := by
  refine fnG_of (k := 0) Fn rfl rfl sc_l_is_long (fun as P ok ex h => by obtain ⟨l_value0, rfl⟩ := c_l_is_long h; rfl) fun cd A fr s H0 G0 ap E as P0 ok ex h bx => ?_
  obtain ⟨l_value0, rfl⟩ := c_l_is_long h
  have hu64 := hu_64 bx.cx.rm
  have hu65 := hu_65 bx.cx.rm
  have hu102 := hu_102 bx.cx.rm
  exact ⟨Unit, (fun (a : Unit) => [.un]), _, ds_at (ρ' := [.v l_value0]) rfl (ds_cons (ds_if (E := (fun (a : Unit) => [.v l_value0])) (PW.pt (dw_or (dt_not (dt_val (de_isi (T := "int") rfl (by decide) (by rfl) b_isinstance (de_var rfl (pv 0)) (by rfl) b_int (by decide +kernel)))) (dw_or1 (dt_val (de_isi (T := "bool") rfl (by decide) (by rfl) b_isinstance (de_var rfl (pv 0)) (by rfl) b_bool (by decide +kernel)))))) (ds_one (ds_ret de_bl)) (ds_end (a := ()) (.k FogL.n))) fun _ => ds_at (ρ' := [.v l_value0]) rfl (ds_one (ds_ret (de_cmp opr_lt opd_lt (de_blt cr_abs cd_abs (by rfl) b_abs (by decide +kernel) (da_cons (de_var rfl (pv 0)) da_nil)) (de_op op_powX opd_pow (de_op op_powX opd_pow de_int de_int) de_int))))), rfl⟩
/-! _law_are_signs -/
abbrev s_l_are_signs : Stmt := topS 21
abbrev N_l_are_signs : List Str := ["_law_value"]
theorem sc_l_are_signs : FnScope N_l_are_signs ["_law_value"] (defScope s_l_are_signs) := ⟨rfl, rfl, rfl, by decide +kernel, rfl, by decide +kernel, by decide +kernel⟩
def m_l_are_signs (l_value0 : D) : M D := (thenR ((((((Pure.pure l_value0) >>= isiD "str") >>= boolD) >>= fun b => Pure.pure (!b)) >>= fun x => if x = true then Pure.pure true else (((chainM (Pure.pure (.int 1)) (((Pure.pure l_value0) >>= fun x => (Pure.pure []) >>= fun xs => Pure.pure (.v x :: xs)) >>= fun as => DL.vals as >>= f1 lenD) (Pure.pure (.int 4)) leD leD) >>= boolD) >>= fun b => Pure.pure (!b))) >>= fun x => if x = true then ((Pure.pure (.bl false)) >>= fun d => Pure.pure (.rt d)) else (Pure.pure (.nx ()))) fun _ => (((((Pure.pure l_value0) >>= fun x => (Pure.pure []) >>= fun xs => Pure.pure (.v x :: xs)) >>= g_l_spelled) >>= fun x => boolD x >>= fun x => if x = true then ((Pure.pure l_value0) >>= fun x => ((Pure.pure (.str "")) >>= fun x => if tyD "str" x = true then ((((Pure.pure l_value0) >>= fun x => (Pure.pure []) >>= fun xs => Pure.pure (.v x :: xs)) >>= fun as => DL.vals as >>= f1 sortSet) >>= fun x => (Pure.pure []) >>= fun xs => Pure.pure (.v x :: xs)) >>= fun as => DL.vals as >>= fun ds => joinD x ds else M.no) >>= fun y => eqD x y) else Pure.pure (.bl false)) >>= fun d => Pure.pure (.rt d))) >>= doneF (α := Unit)
def g_l_are_signs : List Ar → M D
  | [.v l_value0] => m_l_are_signs l_value0
  | _ => M.no
theorem c_l_are_signs {as : List Ar} {P : Pot} {ok : D → Pot → Prop} {ex : Ex → Pot → Prop} (h : out (g_l_are_signs as) P ok ex) : ∃ l_value0, as = [.v l_value0] := by
  unfold g_l_are_signs at h; split at h
  · exact ⟨_, rfl⟩
  · exact h.elim
theorem ok_l_are_signs {f : Addr} {fd : FuncData} (Fn : Fun K "_law_are_signs" "_law_are_signs" s_l_are_signs f fd) (b_isinstance : mg "isinstance" = none) (b_len : mg "len" = none) (b_set : mg "set" = none) (b_sorted : mg "sorted" = none) (b_str : mg "str" = none) (d_l_spelled : Cal P w K mg base 1 "_law_spelled" (spD ⟨mg, K, []⟩ g_l_spelled)) : FnG P w K mg base 2 f fd ["_law_value"] (spD ⟨mg, K, []⟩ g_l_are_signs) := by
  refine fnG_of (k := 1) Fn rfl rfl sc_l_are_signs (fun as P ok ex h => by obtain ⟨l_value0, rfl⟩ := c_l_are_signs h; rfl) fun cd A fr s H0 G0 ap E as P0 ok ex h bx => ?_
  obtain ⟨l_value0, rfl⟩ := c_l_are_signs h
  have hu64 := hu_64 bx.cx.rm
  have hu65 := hu_65 bx.cx.rm
  have hu102 := hu_102 bx.cx.rm
  exact ⟨Unit, (fun (a : Unit) => [.un]), _, ds_at (ρ' := [.v l_value0]) rfl (ds_cons (ds_if (E := (fun (a : Unit) => [.v l_value0])) (PW.pt (dw_or (dt_not (dt_val (de_isi (T := "str") rfl (by decide) (by rfl) b_isinstance (de_var rfl (pv 0)) (by rfl) b_str (by decide +kernel)))) (dw_or1 (dt_not (dt_chain opr_le opr_le opd_le opd_le de_int (de_blt cr_len cd_len (by rfl) b_len (by decide +kernel) (da_cons (de_var rfl (pv 0)) da_nil)) de_int))))) (ds_one (ds_ret de_bl)) (ds_end (a := ()) (.k FogL.n))) fun _ => ds_at (ρ' := [.v l_value0]) rfl (ds_one (ds_ret (de_and (de_callC d_l_spelled ⟨rfl, rfl, bx.cx.ga, bx.cx.rm⟩ (by omega) bx.tk (by rfl) (da_cons (de_var rfl (pv 0)) da_nil)) (de_one (de_cmp (op_eqD hu64) opd_eq (de_var rfl (pv 0)) (de_meth (T := "str") rfl PySem.F.plainAttrs_str PySem.F.slot_str_join PySem.F.type_str_join mr_join md_join de_str (da_cons (de_sortSet rfl hu64 (by rfl) b_sorted (by decide +kernel) (by rfl) b_set (by decide +kernel) (da_cons (de_var rfl (pv 0)) da_nil)) da_nil)))))))), rfl⟩
/-! _law_is_in -/
abbrev s_l_is_in : Stmt := topS 22
abbrev N_l_is_in : List Str := ["_law_signs", "_law_value", "_law_sign"]
theorem sc_l_is_in : FnScope N_l_is_in ["_law_signs", "_law_value"] (defScope s_l_is_in) := ⟨rfl, rfl, rfl, by decide +kernel, rfl, by decide +kernel, by decide +kernel⟩
def m_l_is_in (l_signs0 : D) (l_value0 : D) : M D := ((((Pure.pure l_value0) >>= isiD "str") >>= fun x => boolD x >>= fun x => if x = true then ((((Pure.pure l_value0) >>= iterA) >>= fun ds => noEx (compF (fun l_sign19 => (((Pure.pure l_sign19) >>= fun x => (Pure.pure l_signs0) >>= fun y => (inD true) x y) >>= boolD)) (fun l_sign19 => (Pure.pure l_sign19)) ds) >>= mkL) >>= fun x => ((Pure.pure []) >>= fun as => DL.vals as >>= mkL) >>= fun y => eqD x y) else Pure.pure (.bl false)) >>= fun d => Pure.pure (.rt d)) >>= doneF (α := Unit)
def g_l_is_in : List Ar → M D
  | [.v l_signs0, .v l_value0] => m_l_is_in l_signs0 l_value0
  | _ => M.no
theorem c_l_is_in {as : List Ar} {P : Pot} {ok : D → Pot → Prop} {ex : Ex → Pot → Prop} (h : out (g_l_is_in as) P ok ex) : ∃ l_signs0 l_value0, as = [.v l_signs0, .v l_value0] := by
  unfold g_l_is_in at h; split at h
  · exact ⟨_, _, rfl⟩
  · exact h.elim
theorem ok_l_is_in {f : Addr} {fd : FuncData} (Fn : Fun K "_law_is_in" "_law_is_in" s_l_is_in f fd) (b_isinstance : mg "isinstance" = none) (b_str : mg "str" = none) : FnG P w K mg base 1 f fd ["_law_signs", "_law_value"] (spD ⟨mg, K, []⟩ g_l_is_in) := by
  refine fnG_of (k := 0) Fn rfl rfl sc_l_is_in (fun as P ok ex h => by obtain ⟨l_signs0, l_value0, rfl⟩ := c_l_is_in h; rfl) fun cd A fr s H0 G0 ap E as P0 ok ex h bx => ?_
  obtain ⟨l_signs0, l_value0, rfl⟩ := c_l_is_in h
  have hu64 := hu_64 bx.cx.rm
  have hu65 := hu_65 bx.cx.rm
  have hu102 := hu_102 bx.cx.rm
  exact ⟨Unit, (fun (a : Unit) => [.un, .un, .un]), _, ds_at (ρ' := [.v l_signs0, .v l_value0, .un]) rfl (ds_one (ds_ret (de_and (de_isi (T := "str") rfl (by decide) (by rfl) b_isinstance (de_var rfl (pv 1)) (by rfl) b_str (by decide +kernel)) (de_one (de_cmp (op_eqD hu64) opd_eq (de_lc (own := [("_law_sign", 2)]) (g := gName 2)  rfl sc_l_is_in.nd (blkOk_by (N := N_l_is_in) (sc := defScope s_l_is_in) (by decide +kernel)) (di_any rfl (de_var rfl (pv 1))) (tgt_name (by simp)) (fun ρ d h => nomatch h) test_rd (fun _ _ _ _ _ => pg_name (i := 2) sc_l_is_in.nd rfl (Or.inl rfl)) (fun _ _ _ _ _ => pts_one (pt_tst fun F l_sign19 ρ' e => by cases e; exact dt_at (ρ' := [.v l_signs0, .v l_value0, .v l_sign19]) rfl (dt_cmp (opr_notin hu65) (opd_in true) (de_var rfl (pv 2)) (de_var rfl (pv 0))))) (fun _ _ _ _ _ => pe_elt fun F l_sign19 ρ' e => by cases e; exact de_at (ρ' := [.v l_signs0, .v l_value0, .v l_sign19]) rfl (de_var rfl (pv 2)))) (de_lst da_nil)))))), rfl⟩
/-! _law_numbers -/
abbrev s_l_numbers : Stmt := topS 23
abbrev N_l_numbers : List Str := ["_law_pot_here", "_law_cell", "_law_found", "_law_great", "_law_near", "_law_more", "_law_number"]
theorem sc_l_numbers : FnScope N_l_numbers ["_law_pot_here", "_law_cell"] (defScope s_l_numbers) := ⟨rfl, rfl, rfl, by decide +kernel, rfl, by decide +kernel, by decide +kernel⟩
def m_l_numbers (l_cell0 : D) : M D := (thenR (((((((Pure.pure l_cell0) >>= fun x => (Pure.pure []) >>= fun xs => Pure.pure (.v x :: xs)) >>= fun as => DL.vals as >>= f1 intOf) >>= fun x => ((((Pure.pure (.int 10)) >>= fun x => (Pure.pure (.int 50)) >>= fun y => powD x y) >>= fun x => (Pure.pure (.int 4)) >>= fun y => powD x y) >>= fun x => ((Pure.pure (.int 10)) >>= fun x => (Pure.pure (.int 10)) >>= fun y => powD x y) >>= fun y => mulD x y) >>= fun y => modD x y) >>= fun x => ((((Pure.pure (.int 10)) >>= fun x => (Pure.pure (.int 50)) >>= fun y => powD x y) >>= fun x => (Pure.pure (.int 4)) >>= fun y => powD x y) >>= fun x => (Pure.pure []) >>= fun xs => Pure.pure (.v x :: xs)) >>= fun xs => Pure.pure (.v x :: xs)) >>= fun as => DL.vals as >>= mkT) >>= un2 fun x y => Pure.pure (.nx (x, y))) fun l_great20 => (thenR ((((((((Pure.pure (.int 0)) >>= fun x => (Pure.pure (.int 2)) >>= fun y => subD x y) >>= fun x => (((Pure.pure (.int 0)) >>= fun x => (Pure.pure (.int 1)) >>= fun y => subD x y) >>= fun x => ((Pure.pure (.int 0)) >>= fun x => ((Pure.pure (.int 1)) >>= fun x => (Pure.pure []) >>= fun xs => Pure.pure (.v x :: xs)) >>= fun xs => Pure.pure (.v x :: xs)) >>= fun xs => Pure.pure (.v x :: xs)) >>= fun xs => Pure.pure (.v x :: xs)) >>= fun as => DL.vals as >>= mkT) >>= iterA) >>= fun ds => noEx (compF (fun _ => Pure.pure true) (fun l_more23 => ((Pure.pure l_great20.2) >>= fun x => (Pure.pure l_more23) >>= fun y => addD x y)) ds) >>= mkL) >>= fun x => (((Pure.pure l_great20.1) >>= fun x => (((((Pure.pure (.int 1000)) >>= fun x => (Pure.pure []) >>= fun xs => Pure.pure (.v x :: xs)) >>= fun xs => Pure.pure (.p :: xs)) >>= g_l_bit) >>= fun x => ((Pure.pure (.int 0)) >>= fun x => (Pure.pure []) >>= fun xs => Pure.pure (.v x :: xs)) >>= fun xs => Pure.pure (.v x :: xs)) >>= fun xs => Pure.pure (.v x :: xs)) >>= fun as => DL.vals as >>= mkL) >>= fun y => addD x y) >>= fun d => Pure.pure (.nx d)) fun l_found22 => (((Pure.pure l_found22) >>= fun x => (((Pure.pure l_found22) >>= iterA) >>= fun ds => noEx (compF (fun _ => Pure.pure true) (fun l_number24 => ((Pure.pure (.int 0)) >>= fun x => (Pure.pure l_number24) >>= fun y => subD x y)) ds) >>= mkL) >>= fun y => addD x y) >>= fun d => Pure.pure (.rt d)))) >>= doneF (α := Unit)
def g_l_numbers : List Ar → M D
  | [.p, .v l_cell0] => m_l_numbers l_cell0
  | _ => M.no
theorem c_l_numbers {as : List Ar} {P : Pot} {ok : D → Pot → Prop} {ex : Ex → Pot → Prop} (h : out (g_l_numbers as) P ok ex) : ∃ l_cell0, as = [.p, .v l_cell0] := by
  unfold g_l_numbers at h; split at h
  · exact ⟨_, rfl⟩
  · exact h.elim
theorem ok_l_numbers {f : Addr} {fd : FuncData} (Fn : Fun K "_law_numbers" "_law_numbers" s_l_numbers f fd) (b_int : mg "int" = none) (d_l_bit : Cal P w K mg base 1 "_law_bit" (spD ⟨mg, K, []⟩ g_l_bit)) : FnG P w K mg base 2 f fd ["_law_pot_here", "_law_cell"] (spD ⟨mg, K, []⟩ g_l_numbers) := by
  refine fnG_of (k := 1) Fn rfl rfl sc_l_numbers (fun as P ok ex h => by obtain ⟨l_cell0, rfl⟩ := c_l_numbers h; rfl) fun cd A fr s H0 G0 ap E as P0 ok ex h bx => ?_
  obtain ⟨l_cell0, rfl⟩ := c_l_numbers h
  have hu64 := hu_64 bx.cx.rm
  have hu65 := hu_65 bx.cx.rm
  have hu102 := hu_102 bx.cx.rm
  exact ⟨Unit, (fun (a : Unit) => [.p, .un, .un, .un, .un, .un, .un]), _, ds_at (ρ' := [.p, .v l_cell0, .un, .un, .un, .un, .un]) rfl (ds_cons (ds_asg2 (i := 3) (j := 4) rfl rfl (pgs_cons (pg_name (i := 3) sc_l_numbers.nd rfl (Or.inl rfl)) (pgs_cons (pg_name (i := 4) sc_l_numbers.nd rfl (Or.inr rfl)) pgs_nil)) (de_tup (da_cons (de_op op_mod opd_mod (de_ty cr_int cd_int (by rfl) b_int (by decide +kernel) (da_cons (de_var rfl (pv 1)) da_nil)) (de_op opr_mul opd_mul (de_op op_powX opd_pow (de_op op_powX opd_pow de_int de_int) de_int) (de_op op_powX opd_pow de_int de_int))) (da_cons (de_op op_powX opd_pow (de_op op_powX opd_pow de_int de_int) de_int) da_nil)))) fun l_great20 => ds_at (ρ' := [.p, .v l_cell0, .un, .v l_great20.1, .v l_great20.2, .un, .un]) rfl (ds_cons (ds_set (i := 2) sc_l_numbers.nd rfl (Or.inl rfl) (de_op opr_add opd_add (de_lc (own := [("_law_more", 5)]) (g := gName 5) (tt := tYes) rfl sc_l_numbers.nd (blkOk_by (N := N_l_numbers) (sc := defScope s_l_numbers) (by decide +kernel)) (di_any rfl (de_tup (da_cons (de_op op_sub opd_sub de_int de_int) (da_cons (de_op op_sub opd_sub de_int de_int) (da_cons de_int (da_cons de_int da_nil)))))) (tgt_name (by simp)) (fun ρ d h => nomatch h) test_yes (fun _ _ _ _ _ => pg_name (i := 5) sc_l_numbers.nd rfl (Or.inl rfl)) (fun _ _ _ _ _ => pts_nil) (fun _ _ _ _ _ => pe_elt fun F l_more23 ρ' e => by cases e; exact de_at (ρ' := [.p, .v l_cell0, .un, .v l_great20.1, .v l_great20.2, .v l_more23, .un]) rfl (de_op opr_add opd_add (de_var rfl (pv 4)) (de_var rfl (pv 5))))) (de_lst (da_cons (de_var rfl (pv 3)) (da_cons (de_callC d_l_bit ⟨rfl, rfl, bx.cx.ga, bx.cx.rm⟩ (by omega) bx.tk (by rfl) (da_pot rfl (pv 0) (da_cons de_int da_nil))) (da_cons de_int da_nil)))))) fun l_found22 => ds_at (ρ' := [.p, .v l_cell0, .v l_found22, .v l_great20.1, .v l_great20.2, .un, .un]) rfl (ds_one (ds_ret (de_op opr_add opd_add (de_var rfl (pv 2)) (de_lc (own := [("_law_number", 6)]) (g := gName 6) (tt := tYes) rfl sc_l_numbers.nd (blkOk_by (N := N_l_numbers) (sc := defScope s_l_numbers) (by decide +kernel)) (di_any rfl (de_var rfl (pv 2))) (tgt_name (by simp)) (fun ρ d h => nomatch h) test_yes (fun _ _ _ _ _ => pg_name (i := 6) sc_l_numbers.nd rfl (Or.inl rfl)) (fun _ _ _ _ _ => pts_nil) (fun _ _ _ _ _ => pe_elt fun F l_number24 ρ' e => by cases e; exact de_at (ρ' := [.p, .v l_cell0, .v l_found22, .v l_great20.1, .v l_great20.2, .un, .v l_number24]) rfl (de_op op_sub opd_sub de_int (de_var rfl (pv 6)))))))))), rfl⟩
/-! _law_strings -/
abbrev s_l_strings : Stmt := topS 24
abbrev N_l_strings : List Str := ["_law_pot_here", "_law_found", "_law_turn", "_law_word", "_law_spot", "_law_odd", "_law_at"]
theorem sc_l_strings : FnScope N_l_strings ["_law_pot_here"] (defScope s_l_strings) := ⟨rfl, rfl, rfl, by decide +kernel, rfl, by decide +kernel, by decide +kernel⟩
def m_l_strings  : M D := (thenR ((((Pure.pure (.str "")) >>= fun x => ((Pure.pure (.str "abcdefgh")) >>= fun x => ((Pure.pure (.str "abcdefghi")) >>= fun x => ((Pure.pure (.str "abcd")) >>= fun x => ((Pure.pure (.str "abcde")) >>= fun x => ((Pure.pure (.str "aa")) >>= fun x => ((Pure.pure (.str "ba")) >>= fun x => ((Pure.pure (.str "az")) >>= fun x => ((Pure.pure (.str "A")) >>= fun x => ((Pure.pure (.str "a b")) >>= fun x => (Pure.pure []) >>= fun xs => Pure.pure (.v x :: xs)) >>= fun xs => Pure.pure (.v x :: xs)) >>= fun xs => Pure.pure (.v x :: xs)) >>= fun xs => Pure.pure (.v x :: xs)) >>= fun xs => Pure.pure (.v x :: xs)) >>= fun xs => Pure.pure (.v x :: xs)) >>= fun xs => Pure.pure (.v x :: xs)) >>= fun xs => Pure.pure (.v x :: xs)) >>= fun xs => Pure.pure (.v x :: xs)) >>= fun xs => Pure.pure (.v x :: xs)) >>= fun as => DL.vals as >>= mkL) >>= fun d => Pure.pure (.nx d)) fun l_found25 => (thenR ((((Pure.pure (.int 5)) >>= fun x => (Pure.pure []) >>= fun xs => Pure.pure (.v x :: xs)) >>= rng1) >>= fun ds => forF (fun (a26 : D) l_turn27 => (thenR (((Pure.pure (.str "")) >>= fun x => if tyD "str" x = true then ((((((((Pure.pure (.int 11)) >>= fun x => (Pure.pure []) >>= fun xs => Pure.pure (.v x :: xs)) >>= fun xs => Pure.pure (.p :: xs)) >>= g_l_bit) >>= fun x => (Pure.pure []) >>= fun xs => Pure.pure (.v x :: xs)) >>= rng1) >>= fun ds => noEx (compF (fun _ => Pure.pure true) (fun l_at29 => (((Pure.pure []) >>= fun xs => Pure.pure (.p :: xs)) >>= g_l_letter)) ds) >>= mkL) >>= fun x => (Pure.pure []) >>= fun xs => Pure.pure (.v x :: xs)) >>= fun as => DL.vals as >>= fun ds => joinD x ds else M.no) >>= fun d => Pure.pure (.nx d)) fun l_word28 => (thenR ((((((((Pure.pure l_word28) >>= fun x => (Pure.pure []) >>= fun xs => Pure.pure (.v x :: xs)) >>= fun as => DL.vals as >>= f1 lenD) >>= fun x => (Pure.pure (.int 1)) >>= fun y => addD x y) >>= fun x => (Pure.pure []) >>= fun xs => Pure.pure (.v x :: xs)) >>= fun xs => Pure.pure (.p :: xs)) >>= g_l_bit) >>= fun d => Pure.pure (.nx d)) fun l_spot30 => (thenR (((((((Pure.pure (.str "A")) >>= fun x => ((Pure.pure (.str "Z")) >>= fun x => ((Pure.pure (.str "7")) >>= fun x => ((Pure.pure (.str " ")) >>= fun x => ((Pure.pure (.str "_")) >>= fun x => ((Pure.pure (.str "\n")) >>= fun x => ((Pure.pure (.str "@")) >>= fun x => ((Pure.pure (.str "{")) >>= fun x => ((Pure.pure (.str ".")) >>= fun x => (Pure.pure []) >>= fun xs => Pure.pure (.v x :: xs)) >>= fun xs => Pure.pure (.v x :: xs)) >>= fun xs => Pure.pure (.v x :: xs)) >>= fun xs => Pure.pure (.v x :: xs)) >>= fun xs => Pure.pure (.v x :: xs)) >>= fun xs => Pure.pure (.v x :: xs)) >>= fun xs => Pure.pure (.v x :: xs)) >>= fun xs => Pure.pure (.v x :: xs)) >>= fun xs => Pure.pure (.v x :: xs)) >>= fun as => DL.vals as >>= mkL) >>= fun x => (Pure.pure []) >>= fun xs => Pure.pure (.v x :: xs)) >>= fun xs => Pure.pure (.p :: xs)) >>= g_l_pick) >>= fun d => Pure.pure (.nx d)) fun l_odd31 => (thenR (((Pure.pure a26) >>= fun x => (((Pure.pure l_word28) >>= fun x => (((((Pure.pure l_word28) >>= fun x => (Pure.pure none) >>= fun l => ((Pure.pure l_spot30) >>= partD) >>= fun u => sliceD x l u) >>= fun x => (Pure.pure l_odd31) >>= fun y => addD x y) >>= fun x => ((Pure.pure l_word28) >>= fun x => ((Pure.pure l_spot30) >>= partD) >>= fun l => (Pure.pure none) >>= fun u => sliceD x l u) >>= fun y => addD x y) >>= fun x => ((((Pure.pure (.str "")) >>= fun x => if tyD "str" x = true then ((((Pure.pure l_word28) >>= fun x => (Pure.pure []) >>= fun xs => Pure.pure (.v x :: xs)) >>= fun as => DL.vals as >>= f1 sortSet) >>= fun x => (Pure.pure []) >>= fun xs => Pure.pure (.v x :: xs)) >>= fun as => DL.vals as >>= fun ds => joinD x ds else M.no) >>= fun x => (Pure.pure none) >>= fun l => (((((Pure.pure (.int 6)) >>= fun x => (Pure.pure []) >>= fun xs => Pure.pure (.v x :: xs)) >>= fun xs => Pure.pure (.p :: xs)) >>= g_l_bit) >>= partD) >>= fun u => sliceD x l u) >>= fun x => (Pure.pure []) >>= fun xs => Pure.pure (.v x :: xs)) >>= fun xs => Pure.pure (.v x :: xs)) >>= fun xs => Pure.pure (.v x :: xs)) >>= fun as => DL.vals as >>= mkL) >>= fun y => addD x y) >>= fun d => Pure.pure (.nx d)) fun l_found32 => (Pure.pure (.nx l_found32))))))) ds l_found25) fun a33 => ((Pure.pure a33) >>= fun d => Pure.pure (.rt d)))) >>= doneF (α := Unit)
def g_l_strings : List Ar → M D
  | [.p] => m_l_strings 
  | _ => M.no
theorem c_l_strings {as : List Ar} {P : Pot} {ok : D → Pot → Prop} {ex : Ex → Pot → Prop} (h : out (g_l_strings as) P ok ex) : as = [.p] := by
  unfold g_l_strings at h; split at h
  · exact rfl
  · exact h.elim
theorem ok_l_strings {f : Addr} {fd : FuncData} (Fn : Fun K "_law_strings" "_law_strings" s_l_strings f fd) (b_len : mg "len" = none) (b_range : mg "range" = none) (b_set : mg "set" = none) (b_sorted : mg "sorted" = none) (d_l_bit : Cal P w K mg base 1 "_law_bit" (spD ⟨mg, K, []⟩ g_l_bit)) (d_l_letter : Cal P w K mg base 2 "_law_letter" (spD ⟨mg, K, []⟩ g_l_letter)) (d_l_pick : Cal P w K mg base 2 "_law_pick" (spD ⟨mg, K, []⟩ g_l_pick)) : FnG P w K mg base 3 f fd ["_law_pot_here"] (spD ⟨mg, K, []⟩ g_l_strings) := by
  refine fnG_of (k := 2) Fn rfl rfl sc_l_strings (fun as P ok ex h => by obtain rfl := c_l_strings h; rfl) fun cd A fr s H0 G0 ap E as P0 ok ex h bx => ?_
  obtain rfl := c_l_strings h
  have hu64 := hu_64 bx.cx.rm
  have hu65 := hu_65 bx.cx.rm
  have hu102 := hu_102 bx.cx.rm
  exact ⟨Unit, (fun (a : Unit) => [.p, .un, .un, .un, .un, .un, .un]), _, ds_at (ρ' := [.p, .un, .un, .un, .un, .un, .un]) rfl (ds_cons (ds_set (i := 1) sc_l_strings.nd rfl (Or.inl rfl) (de_lst (da_cons de_str (da_cons de_str (da_cons de_str (da_cons de_str (da_cons de_str (da_cons de_str (da_cons de_str (da_cons de_str (da_cons de_str (da_cons de_str da_nil)))))))))))) fun l_found25 => ds_at (ρ' := [.p, .v l_found25, .un, .un, .un, .un, .un]) rfl (ds_cons (ds_for (E := (fun (a : D) => [.p, .v a, .un, .un, .un, .un, .un])) (a₀ := l_found25) (t := fun (a : D) d => some (((fun (a : D) => [.p, .v a, .un, .un, .un, .un, .un]) a).set 2 (.v d))) bx.own rfl (Rel.fogL (.k (.k (.k (.k (.k (.k (.k FogL.n)))))))) (di_rng1 (by rfl) b_range (da_cons de_int da_nil)) (pg_ex fun a => dg_name (i := 2) sc_l_strings.nd rfl (Or.inl rfl)) (fun a d h => nomatch h) (pss_for fun a26 l_turn27 ρ' e => by cases e; exact ds_at (ρ' := [.p, .v a26, .v l_turn27, .un, .un, .un, .un]) rfl (ds_cons (ds_set (i := 3) sc_l_strings.nd rfl (Or.inl rfl) (de_meth (T := "str") rfl PySem.F.plainAttrs_str PySem.F.slot_str_join PySem.F.type_str_join mr_join md_join de_str (da_cons (de_lc (own := [("_law_at", 6)]) (g := gName 6) (tt := tYes) rfl sc_l_strings.nd (blkOk_by (N := N_l_strings) (sc := defScope s_l_strings) (by decide +kernel)) (di_rng1 (by rfl) b_range (da_cons (de_callC d_l_bit ⟨rfl, rfl, bx.cx.ga, bx.cx.rm⟩ (by omega) bx.tk (by rfl) (da_pot rfl (pv 0) (da_cons de_int da_nil))) da_nil)) (tgt_name (by simp)) (fun ρ d h => nomatch h) test_yes (fun _ _ _ _ _ => pg_name (i := 6) sc_l_strings.nd rfl (Or.inl rfl)) (fun _ _ _ _ _ => pts_nil) (fun _ _ _ _ _ => pe_elt fun F l_at29 ρ' e => by cases e; exact de_at (ρ' := [.p, .v a26, .v l_turn27, .un, .un, .un, .v l_at29]) rfl (de_callC d_l_letter ⟨rfl, rfl, bx.cx.ga, bx.cx.rm⟩ (by omega) takes0 (by rfl) (da_pot rfl (pv 0) da_nil)))) da_nil))) fun l_word28 => ds_at (ρ' := [.p, .v a26, .v l_turn27, .v l_word28, .un, .un, .un]) rfl (ds_cons (ds_set (i := 4) sc_l_strings.nd rfl (Or.inl rfl) (de_callC d_l_bit ⟨rfl, rfl, bx.cx.ga, bx.cx.rm⟩ (by omega) bx.tk (by rfl) (da_pot rfl (pv 0) (da_cons (de_op opr_add opd_add (de_blt cr_len cd_len (by rfl) b_len (by decide +kernel) (da_cons (de_var rfl (pv 3)) da_nil)) de_int) da_nil)))) fun l_spot30 => ds_at (ρ' := [.p, .v a26, .v l_turn27, .v l_word28, .v l_spot30, .un, .un]) rfl (ds_cons (ds_set (i := 5) sc_l_strings.nd rfl (Or.inl rfl) (de_callC d_l_pick ⟨rfl, rfl, bx.cx.ga, bx.cx.rm⟩ (by omega) bx.tk (by rfl) (da_pot rfl (pv 0) (da_cons (de_lst (da_cons de_str (da_cons de_str (da_cons de_str (da_cons de_str (da_cons de_str (da_cons de_str (da_cons de_str (da_cons de_str (da_cons de_str da_nil)))))))))) da_nil)))) fun l_odd31 => ds_at (ρ' := [.p, .v a26, .v l_turn27, .v l_word28, .v l_spot30, .v l_odd31, .un]) rfl (ds_cons (ds_set (i := 1) sc_l_strings.nd rfl (Or.inl rfl) (de_op opr_add opd_add (de_var rfl (pv 1)) (de_lst (da_cons (de_var rfl (pv 3)) (da_cons (de_op opr_add opd_add (de_op opr_add opd_add (de_slice rfl (de_var rfl (pv 3)) do_none (do_some (de_var rfl (pv 4)))) (de_var rfl (pv 5))) (de_slice rfl (de_var rfl (pv 3)) (do_some (de_var rfl (pv 4))) do_none)) (da_cons (de_slice rfl (de_meth (T := "str") rfl PySem.F.plainAttrs_str PySem.F.slot_str_join PySem.F.type_str_join mr_join md_join de_str (da_cons (de_sortSet rfl hu64 (by rfl) b_sorted (by decide +kernel) (by rfl) b_set (by decide +kernel) (da_cons (de_var rfl (pv 3)) da_nil)) da_nil)) do_none (do_some (de_callC d_l_bit ⟨rfl, rfl, bx.cx.ga, bx.cx.rm⟩ (by omega) bx.tk (by rfl) (da_pot rfl (pv 0) (da_cons de_int da_nil))))) da_nil)))))) fun l_found32 => ds_at (ρ' := [.p, .v l_found32, .v l_turn27, .v l_word28, .v l_spot30, .v l_odd31, .un]) rfl (ds_end (a := l_found32) (.k (.k (.u (.u (.u (.u (.k FogL.n)))))))))))))) fun a33 => ds_at (ρ' := [.p, .v a33, .un, .un, .un, .un, .un]) rfl (ds_one (ds_ret (de_var rfl (pv 1)))))), rfl⟩
/-! _law_refused -/
abbrev s_l_refused : Stmt := topS 25
abbrev N_l_refused : List Str := ["_law_signs"]
theorem sc_l_refused : FnScope N_l_refused ["_law_signs"] (defScope s_l_refused) := ⟨rfl, rfl, rfl, by decide +kernel, rfl, by decide +kernel, by decide +kernel⟩
def m_l_refused (l_signs0 : D) : M D := (thenR (tryF ((((Pure.pure l_signs0) >>= fun x => ((Pure.pure (.str "a")) >>= fun x => (Pure.pure []) >>= fun xs => Pure.pure (.v x :: xs)) >>= fun xs => Pure.pure (.v x :: xs)) >>= g_is_text) >>= fun _ => Pure.pure (.nx ())) [(is_InvalidLetters, fun _ => ((Pure.pure (.bl true)) >>= fun d => Pure.pure (.rt d)))]) fun _ => ((Pure.pure (.bl false)) >>= fun d => Pure.pure (.rt d))) >>= doneF (α := Unit)
def g_l_refused : List Ar → M D
  | [.v l_signs0] => m_l_refused l_signs0
  | _ => M.no
theorem c_l_refused {as : List Ar} {P : Pot} {ok : D → Pot → Prop} {ex : Ex → Pot → Prop} (h : out (g_l_refused as) P ok ex) : ∃ l_signs0, as = [.v l_signs0] := by
  unfold g_l_refused at h; split at h
  · exact ⟨_, rfl⟩
  · exact h.elim
theorem ok_l_refused {f : Addr} {fd : FuncData} (Fn : Fun K "_law_refused" "_law_refused" s_l_refused f fd) (d_is_text : Cal P w K mg base 4 "is_text" (spD ⟨mg, K, []⟩ g_is_text)) (e_InvalidLetters : Hand0 K mg "InvalidLetters" is_InvalidLetters) : FnG P w K mg base 5 f fd ["_law_signs"] (spD ⟨mg, K, []⟩ g_l_refused) := by
  obtain ⟨cv_InvalidLetters, hm_InvalidLetters, ho_InvalidLetters⟩ := e_InvalidLetters.ex
  refine fnG_of (k := 4) Fn rfl rfl sc_l_refused (fun as P ok ex h => by obtain ⟨l_signs0, rfl⟩ := c_l_refused h; rfl) fun cd A fr s H0 G0 ap E as P0 ok ex h bx => ?_
  obtain ⟨l_signs0, rfl⟩ := c_l_refused h
  have hu64 := hu_64 bx.cx.rm
  have hu65 := hu_65 bx.cx.rm
  have hu102 := hu_102 bx.cx.rm
  exact ⟨Unit, (fun (a : Unit) => [.un]), _, ds_at (ρ' := [.v l_signs0]) rfl (ds_cons (ds_tryE (E := (fun (a : Unit) => [.v l_signs0])) (b := ()) rfl rfl rfl bx.tk (fun W pn xe G0 H0 t po => (de_callC d_is_text ⟨rfl, rfl, bx.cx.ga, bx.cx.rm⟩ (by omega) t (by rfl) (da_cons (de_var rfl (pv 0)) (da_cons de_str da_nil)))) rfl (.cons (h := (is_InvalidLetters, fun _ => ((Pure.pure (.bl true)) >>= fun d => Pure.pure (.rt d)))) ⟨by rfl, by decide, .inl hm_InvalidLetters⟩ ho_InvalidLetters (fun _ _ _ _ _ => (ds_one (ds_ret de_bl))) .nil)) fun _ => ds_at (ρ' := [.v l_signs0]) rfl (ds_one (ds_ret de_bl))), rfl⟩
/-! law -/
abbrev s_law : Stmt := topS 26
abbrev N_law : List Str := ["_law_script", "_law_at", "_law_pot_here", "_law_cell", "_law_words", "_law_some", "_law_signs", "_law_value", "_law_turn", "_law_told", "_law_due", "_law_word"]
theorem sc_law : FnScope N_law ["_law_script"] (defScope s_law) := ⟨rfl, rfl, rfl, by decide +kernel, rfl, by decide +kernel, by decide +kernel⟩
def m_law (l_script0 : D) : M D := (thenR ((((((Pure.pure (.int 1)) >>= fun x => ((((Pure.pure (.int 8)) >>= fun x => ((((Pure.pure l_script0) >>= fun x => (Pure.pure []) >>= fun xs => Pure.pure (.v x :: xs)) >>= fun as => DL.vals as >>= f1 lenD) >>= fun x => (Pure.pure []) >>= fun xs => Pure.pure (.v x :: xs)) >>= fun xs => Pure.pure (.v x :: xs)) >>= fun as => DL.vals as >>= f2 minD) >>= fun x => (Pure.pure []) >>= fun xs => Pure.pure (.v x :: xs)) >>= fun xs => Pure.pure (.v x :: xs)) >>= fun as => DL.vals as >>= f2 maxD) >>= fun x => (Pure.pure []) >>= fun xs => Pure.pure (.v x :: xs)) >>= rng1) >>= fun ds => forF (fun (a34 : Unit) l_at35 => ((((Pure.pure l_script0) >>= fun x => ((Pure.pure l_at35) >>= fun x => (Pure.pure []) >>= fun xs => Pure.pure (.v x :: xs)) >>= fun xs => Pure.pure (.v x :: xs)) >>= g_l_pot) >>= fun ds => withPot ds (thenR (((((Pure.pure l_at35) >>= fun x => (((Pure.pure l_script0) >>= fun x => (Pure.pure []) >>= fun xs => Pure.pure (.v x :: xs)) >>= fun as => DL.vals as >>= f1 lenD) >>= fun y => ltD x y) >>= boolD) >>= fun x => if x = true then ((Pure.pure l_script0) >>= fun x => (Pure.pure l_at35) >>= fun y => ixD x y) else (Pure.pure (.int 7))) >>= fun d => Pure.pure (.nx d)) fun l_cell36 => (thenR ((((Pure.pure []) >>= fun xs => Pure.pure (.p :: xs)) >>= g_l_strings) >>= fun d => Pure.pure (.nx d)) fun l_words37 => (thenR (((((((Pure.pure l_cell36) >>= fun x => (Pure.pure []) >>= fun xs => Pure.pure (.v x :: xs)) >>= fun xs => Pure.pure (.p :: xs)) >>= g_l_numbers) >>= fun x => (Pure.pure l_words37) >>= fun y => addD x y) >>= fun x => (((Pure.pure (.bl true)) >>= fun x => ((Pure.pure (.bl false)) >>= fun x => ((Pure.pure .non) >>= fun x => (((Pure.pure []) >>= fun as => DL.vals as >>= mkL) >>= fun x => ((Pure.pure (.dic [])) >>= fun x => (((Pure.pure []) >>= fun as => DL.vals as >>= mkT) >>= fun x => ((((Pure.pure (.str "a")) >>= fun x => (Pure.pure []) >>= fun xs => Pure.pure (.v x :: xs)) >>= fun as => DL.vals as >>= mkT) >>= fun x => ((((Pure.pure (.str "a")) >>= fun x => ((Pure.pure (.str "b")) >>= fun x => (Pure.pure []) >>= fun xs => Pure.pure (.v x :: xs)) >>= fun xs => Pure.pure (.v x :: xs)) >>= fun as => DL.vals as >>= mkL) >>= fun x => ((dicM [(.inr "a", (Pure.pure (.int 1)))] >>= mkDic) >>= fun x => ((((Pure.pure (.int 1)) >>= fun x => (Pure.pure []) >>= fun xs => Pure.pure (.v x :: xs)) >>= fun as => DL.vals as >>= mkT) >>= fun x => (Pure.pure []) >>= fun xs => Pure.pure (.v x :: xs)) >>= fun xs => Pure.pure (.v x :: xs)) >>= fun xs => Pure.pure (.v x :: xs)) >>= fun xs => Pure.pure (.v x :: xs)) >>= fun xs => Pure.pure (.v x :: xs)) >>= fun xs => Pure.pure (.v x :: xs)) >>= fun xs => Pure.pure (.v x :: xs)) >>= fun xs => Pure.pure (.v x :: xs)) >>= fun xs => Pure.pure (.v x :: xs)) >>= fun xs => Pure.pure (.v x :: xs)) >>= fun as => DL.vals as >>= mkL) >>= fun y => addD x y) >>= fun d => Pure.pure (.nx d)) fun l_some38 => (thenR (((((((Pure.pure l_words37) >>= iterA) >>= fun ds => noEx (compF (fun l_word40 => ((((Pure.pure l_word40) >>= fun x => (Pure.pure []) >>= fun xs => Pure.pure (.v x :: xs)) >>= g_l_are_signs) >>= boolD)) (fun l_word40 => (Pure.pure l_word40)) ds) >>= mkL) >>= fun x => (Pure.pure []) >>= fun xs => Pure.pure (.v x :: xs)) >>= fun xs => Pure.pure (.p :: xs)) >>= g_l_pick) >>= fun d => Pure.pure (.nx d)) fun l_signs39 => (thenR (((Pure.pure l_some38) >>= iterA) >>= fun ds => forF (fun (a41 : Unit) l_value42 => (thenR ((((Pure.pure (.int 2)) >>= fun x => (Pure.pure []) >>= fun xs => Pure.pure (.v x :: xs)) >>= rng1) >>= fun ds => forF (fun (a43 : Unit) l_turn44 => (thenR ((((((Pure.pure l_value42) >>= fun x => (Pure.pure []) >>= fun xs => Pure.pure (.v x :: xs)) >>= g_is_integer) >>= fun x => ((((Pure.pure l_value42) >>= fun x => (Pure.pure []) >>= fun xs => Pure.pure (.v x :: xs)) >>= g_is_name) >>= fun x => ((((Pure.pure l_value42) >>= fun x => (Pure.pure []) >>= fun xs => Pure.pure (.v x :: xs)) >>= g_is_letters) >>= fun x => ((((Pure.pure l_signs39) >>= fun x => ((Pure.pure l_value42) >>= fun x => (Pure.pure []) >>= fun xs => Pure.pure (.v x :: xs)) >>= fun xs => Pure.pure (.v x :: xs)) >>= g_is_text) >>= fun x => (Pure.pure []) >>= fun xs => Pure.pure (.v x :: xs)) >>= fun xs => Pure.pure (.v x :: xs)) >>= fun xs => Pure.pure (.v x :: xs)) >>= fun xs => Pure.pure (.v x :: xs)) >>= fun as => DL.vals as >>= mkL) >>= fun d => Pure.pure (.nx d)) fun l_told45 => (thenR ((((((Pure.pure l_value42) >>= fun x => (Pure.pure []) >>= fun xs => Pure.pure (.v x :: xs)) >>= g_l_is_long) >>= fun x => ((((Pure.pure l_value42) >>= fun x => (Pure.pure []) >>= fun xs => Pure.pure (.v x :: xs)) >>= g_l_spelled) >>= fun x => ((((Pure.pure l_value42) >>= fun x => (Pure.pure []) >>= fun xs => Pure.pure (.v x :: xs)) >>= g_l_are_signs) >>= fun x => ((((Pure.pure l_signs39) >>= fun x => ((Pure.pure l_value42) >>= fun x => (Pure.pure []) >>= fun xs => Pure.pure (.v x :: xs)) >>= fun xs => Pure.pure (.v x :: xs)) >>= g_l_is_in) >>= fun x => (Pure.pure []) >>= fun xs => Pure.pure (.v x :: xs)) >>= fun xs => Pure.pure (.v x :: xs)) >>= fun xs => Pure.pure (.v x :: xs)) >>= fun xs => Pure.pure (.v x :: xs)) >>= fun as => DL.vals as >>= mkL) >>= fun d => Pure.pure (.nx d)) fun l_due46 => (thenR ((((((Pure.pure l_told45) >>= fun x => (Pure.pure []) >>= fun xs => Pure.pure (.v x :: xs)) >>= fun as => DL.vals as >>= f1 reprD) >>= fun x => (((Pure.pure l_due46) >>= fun x => (Pure.pure []) >>= fun xs => Pure.pure (.v x :: xs)) >>= fun as => DL.vals as >>= f1 reprD) >>= fun y => neD x y) >>= boolD) >>= fun x => if x = true then ((Pure.pure (.bl false)) >>= fun d => Pure.pure (.rt d)) else (Pure.pure (.nx ()))) fun _ => (Pure.pure (.nx ())))))) ds ()) fun _ => (thenR (((((((Pure.pure l_value42) >>= fun x => (Pure.pure []) >>= fun xs => Pure.pure (.v x :: xs)) >>= g_l_are_signs) >>= boolD) >>= fun b => Pure.pure (!b)) >>= fun x => if x = true then (((((Pure.pure l_value42) >>= fun x => (Pure.pure []) >>= fun xs => Pure.pure (.v x :: xs)) >>= g_l_refused) >>= boolD) >>= fun b => Pure.pure (!b)) else Pure.pure false) >>= fun x => if x = true then ((Pure.pure (.bl false)) >>= fun d => Pure.pure (.rt d)) else (Pure.pure (.nx ()))) fun _ => (Pure.pure (.nx ()))))) ds ()) fun _ => (Pure.pure (.nx ()))))))))) ds ()) fun _ => (((((Pure.pure (.int 8)) >>= fun x => ((Pure.pure (.int 200)) >>= fun x => (Pure.pure []) >>= fun xs => Pure.pure (.v x :: xs)) >>= fun xs => Pure.pure (.v x :: xs)) >>= fun as => DL.vals as >>= mkL) >>= fun x => (((Pure.pure (.int 8)) >>= fun x => ((Pure.pure (.int 200)) >>= fun x => (Pure.pure []) >>= fun xs => Pure.pure (.v x :: xs)) >>= fun xs => Pure.pure (.v x :: xs)) >>= fun as => DL.vals as >>= mkL) >>= fun y => eqD x y) >>= fun d => Pure.pure (.rt d))) >>= doneF (α := Unit)
def g_law : List Ar → M D
  | [.v l_script0] => m_law l_script0
  | _ => M.no
theorem c_law {as : List Ar} {P : Pot} {ok : D → Pot → Prop} {ex : Ex → Pot → Prop} (h : out (g_law as) P ok ex) : ∃ l_script0, as = [.v l_script0] := by
  unfold g_law at h; split at h
  · exact ⟨_, rfl⟩
  · exact h.elim
theorem ok_law {f : Addr} {fd : FuncData} (Fn : Fun K "law" "law" s_law f fd) (b_len : mg "len" = none) (b_max : mg "max" = none) (b_min : mg "min" = none) (b_range : mg "range" = none) (b_repr : mg "repr" = none) (e_MAX_DIGITS : ∃ t, mg "MAX_DIGITS" = some (.int 200 t)) (e_MAX_LETTERS : ∃ t, mg "MAX_LETTERS" = some (.int 8 t)) (d_l_are_signs : Cal P w K mg base 2 "_law_are_signs" (spD ⟨mg, K, []⟩ g_l_are_signs)) (d_l_is_in : Cal P w K mg base 1 "_law_is_in" (spD ⟨mg, K, []⟩ g_l_is_in)) (d_l_is_long : Cal P w K mg base 1 "_law_is_long" (spD ⟨mg, K, []⟩ g_l_is_long)) (d_l_numbers : Cal P w K mg base 2 "_law_numbers" (spD ⟨mg, K, []⟩ g_l_numbers)) (d_l_pick : Cal P w K mg base 2 "_law_pick" (spD ⟨mg, K, []⟩ g_l_pick)) (d_l_pot : Cal P w K mg base 1 "_law_pot" (spF ⟨mg, K, []⟩ g_l_pot)) (d_l_refused : Cal P w K mg base 5 "_law_refused" (spD ⟨mg, K, []⟩ g_l_refused)) (d_l_spelled : Cal P w K mg base 1 "_law_spelled" (spD ⟨mg, K, []⟩ g_l_spelled)) (d_l_strings : Cal P w K mg base 3 "_law_strings" (spD ⟨mg, K, []⟩ g_l_strings)) (d_is_integer : Cal P w K mg base 1 "is_integer" (spD ⟨mg, K, []⟩ g_is_integer)) (d_is_letters : Cal P w K mg base 2 "is_letters" (spD ⟨mg, K, []⟩ g_is_letters)) (d_is_name : Cal P w K mg base 2 "is_name" (spD ⟨mg, K, []⟩ g_is_name)) (d_is_text : Cal P w K mg base 4 "is_text" (spD ⟨mg, K, []⟩ g_is_text)) : FnG P w K mg base 6 f fd ["_law_script"] (spD ⟨mg, K, []⟩ g_law) := by
  obtain ⟨t_MAX_DIGITS, c_MAX_DIGITS⟩ := e_MAX_DIGITS
  obtain ⟨t_MAX_LETTERS, c_MAX_LETTERS⟩ := e_MAX_LETTERS
  refine fnG_of (k := 5) Fn rfl rfl sc_law (fun as P ok ex h => by obtain ⟨l_script0, rfl⟩ := c_law h; rfl) fun cd A fr s H0 G0 ap E as P0 ok ex h bx => ?_
  obtain ⟨l_script0, rfl⟩ := c_law h
  have hu64 := hu_64 bx.cx.rm
  have hu65 := hu_65 bx.cx.rm
  have hu102 := hu_102 bx.cx.rm
  exact ⟨Unit, (fun (a : Unit) => [.un, .un, .un, .un, .un, .un, .un, .un, .un, .un, .un, .un]), _, ds_at (ρ' := [.v l_script0, .un, .un, .un, .un, .un, .un, .un, .un, .un, .un, .un]) rfl (ds_cons (ds_for (E := (fun (a : Unit) => [.v l_script0, .un, .un, .un, .un, .un, .un, .un, .un, .un, .un, .un])) (a₀ := ()) (t := fun (a : Unit) d => some (((fun (a : Unit) => [.v l_script0, .un, .un, .un, .un, .un, .un, .un, .un, .un, .un, .un]) a).set 1 (.v d))) bx.own rfl (Rel.fogL (.k (.k (.k (.k (.k (.k (.k (.k (.k (.k (.k (.k FogL.n))))))))))))) (di_rng1 (by rfl) b_range (da_cons (de_blt (DL.cr_max rfl) cd_max (by rfl) b_max (by decide +kernel) (da_cons de_int (da_cons (de_blt (DL.cr_min rfl) cd_min (by rfl) b_min (by decide +kernel) (da_cons de_int (da_cons (de_blt cr_len cd_len (by rfl) b_len (by decide +kernel) (da_cons (de_var rfl (pv 0)) da_nil)) da_nil))) da_nil))) da_nil)) (pg_ex fun a => dg_name (i := 1) sc_law.nd rfl (Or.inl rfl)) (fun a d h => nomatch h) (pss_for fun a34 l_at35 ρ' e => by cases e; exact ds_at (ρ' := [.v l_script0, .v l_at35, .un, .un, .un, .un, .un, .un, .un, .un, .un, .un]) rfl (ds_pot (E2 := (fun (a : Unit) => [.v l_script0, .un, .p, .un, .un, .un, .un, .un, .un, .un, .un, .un])) (i := 2) sc_law.nd rfl (Or.inl rfl) (de_callCF d_l_pot ⟨rfl, rfl, bx.cx.ga, bx.cx.rm⟩ (by decide) bx.tk (by rfl) (da_cons (de_var rfl (pv 0)) (da_cons (de_var rfl (pv 1)) da_nil))) (fun a => ds_at (ρ' := [.v l_script0, .v l_at35, .p, .un, .un, .un, .un, .un, .un, .un, .un, .un]) rfl (ds_cons (ds_set (i := 3) sc_law.nd rfl (Or.inl rfl) (de_if (dt_cmp opr_lt opd_lt (de_var rfl (pv 1)) (de_blt cr_len cd_len (by rfl) b_len (by decide +kernel) (da_cons (de_var rfl (pv 0)) da_nil))) (de_ix rfl (de_var rfl (pv 0)) (de_var rfl (pv 1)) (by intro _ _; rfl)) de_int)) fun l_cell36 => ds_at (ρ' := [.v l_script0, .v l_at35, .p, .v l_cell36, .un, .un, .un, .un, .un, .un, .un, .un]) rfl (ds_cons (ds_set (i := 4) sc_law.nd rfl (Or.inl rfl) (de_callC d_l_strings ⟨rfl, rfl, bx.cx.ga, bx.cx.rm⟩ (by omega) bx.tk (by rfl) (da_pot rfl (pv 2) da_nil))) fun l_words37 => ds_at (ρ' := [.v l_script0, .v l_at35, .p, .v l_cell36, .v l_words37, .un, .un, .un, .un, .un, .un, .un]) rfl (ds_cons (ds_set (i := 5) sc_law.nd rfl (Or.inl rfl) (de_op opr_add opd_add (de_op opr_add opd_add (de_callC d_l_numbers ⟨rfl, rfl, bx.cx.ga, bx.cx.rm⟩ (by omega) bx.tk (by rfl) (da_pot rfl (pv 2) (da_cons (de_var rfl (pv 3)) da_nil))) (de_var rfl (pv 4))) (de_lst (da_cons de_bl (da_cons de_bl (da_cons de_non (da_cons (de_lst da_nil) (da_cons de_dic0 (da_cons (de_tup da_nil) (da_cons (de_tup (da_cons de_str da_nil)) (da_cons (de_lst (da_cons de_str (da_cons de_str da_nil))) (da_cons (de_dic (ls := [(.inr "a", (Pure.pure (.int 1)))]) (pps_cons pe_str (pe_X fun G0 H0 => de_int) pps_nil)) (da_cons (de_tup (da_cons de_int da_nil)) da_nil))))))))))))) fun l_some38 => ds_at (ρ' := [.v l_script0, .v l_at35, .p, .v l_cell36, .v l_words37, .v l_some38, .un, .un, .un, .un, .un, .un]) rfl (ds_cons (ds_set (i := 6) sc_law.nd rfl (Or.inl rfl) (de_callC d_l_pick ⟨rfl, rfl, bx.cx.ga, bx.cx.rm⟩ (by omega) bx.tk (by rfl) (da_pot rfl (pv 2) (da_cons (de_lc (own := [("_law_word", 11)]) (g := gName 11)  rfl sc_law.nd (blkOk_by (N := N_law) (sc := defScope s_law) (by decide +kernel)) (di_any rfl (de_var rfl (pv 4))) (tgt_name (by simp)) (fun ρ d h => nomatch h) test_rd (fun _ _ _ _ _ => pg_name (i := 11) sc_law.nd rfl (Or.inl rfl)) (fun _ _ _ _ _ => pts_one (pt_tst fun F l_word40 ρ' e => by cases e; exact dt_at (ρ' := [.v l_script0, .v l_at35, .p, .v l_cell36, .v l_words37, .v l_some38, .un, .un, .un, .un, .un, .v l_word40]) rfl (dt_val (de_callC d_l_are_signs ⟨rfl, rfl, bx.cx.ga, bx.cx.rm⟩ (by omega) takes0 (by rfl) (da_cons (de_var rfl (pv 11)) da_nil))))) (fun _ _ _ _ _ => pe_elt fun F l_word40 ρ' e => by cases e; exact de_at (ρ' := [.v l_script0, .v l_at35, .p, .v l_cell36, .v l_words37, .v l_some38, .un, .un, .un, .un, .un, .v l_word40]) rfl (de_var rfl (pv 11)))) da_nil)))) fun l_signs39 => ds_at (ρ' := [.v l_script0, .v l_at35, .p, .v l_cell36, .v l_words37, .v l_some38, .v l_signs39, .un, .un, .un, .un, .un]) rfl (ds_cons (ds_for (E := (fun (a : Unit) => [.v l_script0, .v l_at35, .p, .v l_cell36, .v l_words37, .v l_some38, .v l_signs39, .un, .un, .un, .un, .un])) (a₀ := ()) (t := fun (a : Unit) d => some (((fun (a : Unit) => [.v l_script0, .v l_at35, .p, .v l_cell36, .v l_words37, .v l_some38, .v l_signs39, .un, .un, .un, .un, .un]) a).set 7 (.v d))) bx.own rfl (Rel.fogL (.k (.k (.k (.k (.k (.k (.k (.k (.k (.k (.k (.k FogL.n))))))))))))) (di_any rfl (de_var rfl (pv 5))) (pg_ex fun a => dg_name (i := 7) sc_law.nd rfl (Or.inl rfl)) (fun a d h => nomatch h) (pss_for fun a41 l_value42 ρ' e => by cases e; exact ds_at (ρ' := [.v l_script0, .v l_at35, .p, .v l_cell36, .v l_words37, .v l_some38, .v l_signs39, .v l_value42, .un, .un, .un, .un]) rfl (ds_cons (ds_for (E := (fun (a : Unit) => [.v l_script0, .v l_at35, .p, .v l_cell36, .v l_words37, .v l_some38, .v l_signs39, .v l_value42, .un, .un, .un, .un])) (a₀ := ()) (t := fun (a : Unit) d => some (((fun (a : Unit) => [.v l_script0, .v l_at35, .p, .v l_cell36, .v l_words37, .v l_some38, .v l_signs39, .v l_value42, .un, .un, .un, .un]) a).set 8 (.v d))) bx.own rfl (Rel.fogL (.k (.k (.k (.k (.k (.k (.k (.k (.k (.k (.k (.k FogL.n))))))))))))) (di_rng1 (by rfl) b_range (da_cons de_int da_nil)) (pg_ex fun a => dg_name (i := 8) sc_law.nd rfl (Or.inl rfl)) (fun a d h => nomatch h) (pss_for fun a43 l_turn44 ρ' e => by cases e; exact ds_at (ρ' := [.v l_script0, .v l_at35, .p, .v l_cell36, .v l_words37, .v l_some38, .v l_signs39, .v l_value42, .v l_turn44, .un, .un, .un]) rfl (ds_cons (ds_set (i := 9) sc_law.nd rfl (Or.inl rfl) (de_lst (da_cons (de_callC d_is_integer ⟨rfl, rfl, bx.cx.ga, bx.cx.rm⟩ (by omega) bx.tk (by rfl) (da_cons (de_var rfl (pv 7)) da_nil)) (da_cons (de_callC d_is_name ⟨rfl, rfl, bx.cx.ga, bx.cx.rm⟩ (by omega) bx.tk (by rfl) (da_cons (de_var rfl (pv 7)) da_nil)) (da_cons (de_callC d_is_letters ⟨rfl, rfl, bx.cx.ga, bx.cx.rm⟩ (by omega) bx.tk (by rfl) (da_cons (de_var rfl (pv 7)) da_nil)) (da_cons (de_callC d_is_text ⟨rfl, rfl, bx.cx.ga, bx.cx.rm⟩ (by omega) bx.tk (by rfl) (da_cons (de_var rfl (pv 6)) (da_cons (de_var rfl (pv 7)) da_nil))) da_nil)))))) fun l_told45 => ds_at (ρ' := [.v l_script0, .v l_at35, .p, .v l_cell36, .v l_words37, .v l_some38, .v l_signs39, .v l_value42, .v l_turn44, .v l_told45, .un, .un]) rfl (ds_cons (ds_set (i := 10) sc_law.nd rfl (Or.inl rfl) (de_lst (da_cons (de_callC d_l_is_long ⟨rfl, rfl, bx.cx.ga, bx.cx.rm⟩ (by omega) bx.tk (by rfl) (da_cons (de_var rfl (pv 7)) da_nil)) (da_cons (de_callC d_l_spelled ⟨rfl, rfl, bx.cx.ga, bx.cx.rm⟩ (by omega) bx.tk (by rfl) (da_cons (de_var rfl (pv 7)) da_nil)) (da_cons (de_callC d_l_are_signs ⟨rfl, rfl, bx.cx.ga, bx.cx.rm⟩ (by omega) bx.tk (by rfl) (da_cons (de_var rfl (pv 7)) da_nil)) (da_cons (de_callC d_l_is_in ⟨rfl, rfl, bx.cx.ga, bx.cx.rm⟩ (by omega) bx.tk (by rfl) (da_cons (de_var rfl (pv 6)) (da_cons (de_var rfl (pv 7)) da_nil))) da_nil)))))) fun l_due46 => ds_at (ρ' := [.v l_script0, .v l_at35, .p, .v l_cell36, .v l_words37, .v l_some38, .v l_signs39, .v l_value42, .v l_turn44, .v l_told45, .v l_due46, .un]) rfl (ds_cons (ds_if (E := (fun (a : Unit) => [.v l_script0, .v l_at35, .p, .v l_cell36, .v l_words37, .v l_some38, .v l_signs39, .v l_value42, .v l_turn44, .v l_told45, .v l_due46, .un])) (dt_cmp (op_neD hu64) opd_ne (de_blt (cr_repr bx.cx.ga hu102) cd_repr (by rfl) b_repr (by decide +kernel) (da_cons (de_var rfl (pv 9)) da_nil)) (de_blt (cr_repr bx.cx.ga hu102) cd_repr (by rfl) b_repr (by decide +kernel) (da_cons (de_var rfl (pv 10)) da_nil))) (ds_one (ds_ret de_bl)) (ds_end (a := ()) (.k (.k (.k (.k (.k (.k (.k (.k (.k (.k (.k (.k FogL.n)))))))))))))) fun _ => ds_at (ρ' := [.v l_script0, .v l_at35, .p, .v l_cell36, .v l_words37, .v l_some38, .v l_signs39, .v l_value42, .v l_turn44, .v l_told45, .v l_due46, .un]) rfl (ds_end (a := ()) (.k (.k (.k (.k (.k (.k (.k (.k (.u (.u (.u (.k FogL.n)))))))))))))))))) fun _ => ds_at (ρ' := [.v l_script0, .v l_at35, .p, .v l_cell36, .v l_words37, .v l_some38, .v l_signs39, .v l_value42, .un, .un, .un, .un]) rfl (ds_cons (ds_if (E := (fun (a : Unit) => [.v l_script0, .v l_at35, .p, .v l_cell36, .v l_words37, .v l_some38, .v l_signs39, .v l_value42, .un, .un, .un, .un])) (PW.pt (dw_and (dt_not (dt_val (de_callC d_l_are_signs ⟨rfl, rfl, bx.cx.ga, bx.cx.rm⟩ (by omega) bx.tk (by rfl) (da_cons (de_var rfl (pv 7)) da_nil)))) (dw_and1 (dt_not (dt_val (de_callC d_l_refused ⟨rfl, rfl, bx.cx.ga, bx.cx.rm⟩ (by omega) bx.tk (by rfl) (da_cons (de_var rfl (pv 7)) da_nil))))))) (ds_one (ds_ret de_bl)) (ds_end (a := ()) (.k (.k (.k (.k (.k (.k (.k (.k (.k (.k (.k (.k FogL.n)))))))))))))) fun _ => ds_at (ρ' := [.v l_script0, .v l_at35, .p, .v l_cell36, .v l_words37, .v l_some38, .v l_signs39, .v l_value42, .un, .un, .un, .un]) rfl (ds_end (a := ()) (.k (.k (.k (.k (.k (.k (.k (.u (.k (.k (.k (.k FogL.n))))))))))))))))) fun _ => ds_at (ρ' := [.v l_script0, .v l_at35, .p, .v l_cell36, .v l_words37, .v l_some38, .v l_signs39, .un, .un, .un, .un, .un]) rfl (ds_end (a := ()) (.k (.u (.k (.u (.u (.u (.u (.k (.k (.k (.k (.k FogL.n))))))))))))))))))) (fun _ => rfl)))) fun _ => ds_at (ρ' := [.v l_script0, .un, .un, .un, .un, .un, .un, .un, .un, .un, .un, .un]) rfl (ds_one (ds_ret (de_cmp (op_eqD hu64) opd_eq (de_lst (da_cons (de_glob (v := .int 8) (by rfl) c_MAX_LETTERS ⟨_, rfl⟩ fun _ => .int _) (da_cons (de_glob (v := .int 200) (by rfl) c_MAX_DIGITS ⟨_, rfl⟩ fun _ => .int _) da_nil))) (de_lst (da_cons de_int (da_cons de_int da_nil))))))), (by show m_law l_script0 = _; unfold m_law; rfl)⟩
end
end KX

namespace KX
open PySem PySem.Spec PyProof.Rows L2 DL
/-! texts by their codes -/
def plain (l : List Nat) : Bool := l.all fun c => decide (97 ≤ c) && decide (c ≤ 122)
def ascB (l : List Nat) : Bool := (List.zipWith (fun a b => decide (a < b)) l (l.drop 1)).all id
theorem cps_a : (Str.ofString "a").cps.toList = [97] := by decide +kernel
theorem cps_z : (Str.ofString "z").cps.toList = [122] := by decide +kernel
theorem one_lt {c d : Nat} : decide (([c] : List Nat) < [d]) = decide (c < d) := by
  by_cases h : c < d
  · rw [decide_eq_true h]; exact decide_eq_true (SX.ltT_sgl.mpr h)
  · rw [decide_eq_false h]; exact decide_eq_false fun k => h (SX.ltT_sgl.mp k)
theorem lt_a (c : Nat) : ltS ⟨#[c]⟩ (Str.ofString "a") = decide (c < 97) := by
  unfold ltS; rw [cps_a]; exact one_lt
theorem lt_z (c : Nat) : ltS (Str.ofString "z") ⟨#[c]⟩ = decide (122 < c) := by
  unfold ltS; rw [cps_z]; exact one_lt
theorem lt_cc (c d : Nat) : ltS ⟨#[c]⟩ ⟨#[d]⟩ = decide (c < d) := one_lt
theorem iter_str (x : Str) : iterA (.str x) = Pure.pure (chrs x) := Eq.trans rfl rfl
theorem chrs_len (x : Str) : (chrs x).length = x.cps.size := by unfold chrs; rw [List.length_map, Array.length_toList]
theorem bls_map (l : List Nat) (f : Nat → Bool) : bls (l.map fun a => .bl (f a)) = some (l.map f) := by
  induction l with
  | nil => rfl
  | cons a l ih => show (bls _).map _ = _; rw [ih]; rfl
theorem le_str (x y : Str) : leD (.str x) (.str y) = Pure.pure (.bl (!ltS y x)) := Eq.trans rfl rfl
theorem lt_str (x y : Str) : ltD (.str x) (.str y) = Pure.pure (.bl (ltS x y)) := Eq.trans rfl rfl
theorem plain_e {x : Str} (h : x.cps.size ≤ sizeLine) : g_is_plain [.v (.str x)] = Pure.pure (.bl (plain x.cps.toList)) := by
  show m_is_plain (.str x) = _
  unfold m_is_plain
  have e1 : ∀ d ∈ chrs x, chainM (Pure.pure (.str "a")) (Pure.pure d) (Pure.pure (.str "z")) leD leD = Pure.pure (match d with | .str y => .bl (y.cps.toList.all fun c => decide (97 ≤ c) && decide (c ≤ 122)) | d => d) := fun d hd => by
    obtain ⟨c, _, rfl⟩ := List.mem_map.mp hd
    unfold chainM
    simp only [pb, le_str, bB]
    rw [lt_a]
    by_cases q : c < 97
    · have q2 : decide (97 ≤ c) = false := decide_eq_false (by omega)
      simp only [decide_eq_true q, Bool.not_true, Bool.false_eq_true, if_false, List.all_cons, List.all_nil, Bool.and_true, q2, Bool.false_and]
    · have q2 : decide (97 ≤ c) = true := decide_eq_true (by omega)
      simp only [decide_eq_false q, Bool.not_false, if_true, lt_z, List.all_cons, List.all_nil, Bool.and_true, q2, Bool.true_and]
      by_cases q3 : 122 < c
      · rw [decide_eq_true q3, decide_eq_false (by omega)]; rfl
      · rw [decide_eq_false q3, decide_eq_true (by omega)]; rfl
  have e2 : compF (fun _ => Pure.pure true) (fun d => chainM (Pure.pure (.str "a")) (Pure.pure d) (Pure.pure (.str "z")) leD leD) (chrs x) = Pure.pure (x.cps.toList.map fun c => .bl (decide (97 ≤ c) && decide (c ≤ 122))) := by
    rw [comp_all _ _ e1]
    unfold chrs
    rw [List.map_map]
    congr 1
    refine List.map_congr_left fun c _ => ?_
    show D.bl (([c].all fun c => decide (97 ≤ c) && decide (c ≤ 122))) = _
    simp only [List.all_cons, List.all_nil, Bool.and_true]
  have e3 : allD (.lst (x.cps.toList.map fun c => .bl (decide (97 ≤ c) && decide (c ≤ 122)))) = Pure.pure (.bl (plain x.cps.toList)) := by
    unfold allD
    simp only [bls_map, Option.map_some, sB]
    unfold plain
    rw [List.all_map]
    rfl
  simp only [pb, asc, iter_str, e2, noE, v0, v1, f1e, dR]
  rw [mkLe (by rw [List.length_map, Array.length_toList]; exact h)]
  simp only [pb, v0, v1, f1e, dR, e3]

abbrev cl (x : Str) : List Nat := x.cps.toList
theorem cl_len (x : Str) : (cl x).length = x.cps.size := Array.length_toList
theorem len_e {x : Str} (h : x.cps.size ≤ sizeLine) : lenD (.str x) = Pure.pure (.int ((cl x).length : Nat)) := by
  show (if x.length ≤ sizeLine then Pure.pure (D.int (x.length : Nat)) else M.no) = _
  have e : x.length = x.cps.size := rfl
  rw [if_pos (show x.length ≤ sizeLine from h), e, cl_len]
theorem le_int (i j : Int) : leD (.int i) (.int j) = Pure.pure (.bl (decide (i ≤ j))) := Eq.trans rfl rfl
theorem lt_int (i j : Int) : ltD (.int i) (.int j) = Pure.pure (.bl (decide (i < j))) := Eq.trans rfl rfl
theorem gt_int (i j : Int) : gtD (.int i) (.int j) = Pure.pure (.bl (decide (j < i))) := Eq.trans rfl rfl
theorem chain_int (a n b : Int) : chainM (Pure.pure (.int a)) (Pure.pure (.int n)) (Pure.pure (.int b)) leD leD = Pure.pure (.bl (decide (a ≤ n) && decide (n ≤ b))) := by
  unfold chainM
  simp only [pb, le_int, bB]
  by_cases h : a ≤ n
  · rw [decide_eq_true h, ittr, Bool.true_and]
  · rw [decide_eq_false h, itfa, Bool.false_and]
theorem is_str (x : Str) (T : String) : isiD T (.str x) = Pure.pure (.bl (isB "str" T)) := isi_is T rfl
theorem isB1 : isB "str" "str" = true := by decide
theorem isB2 : isB "str" "int" = false := by decide
theorem isB3 : isB "int" "int" = true := by decide
theorem isB4 : isB "int" "str" = false := by decide
theorem isB5 : isB "int" "bool" = false := by decide
def nameB (l : List Nat) : Bool := decide (1 ≤ (l.length : Int)) && decide ((l.length : Int) ≤ 8) && plain l
theorem name_e {x : Str} (h : x.cps.size ≤ sizeLine) : g_is_name [.v (.str x)] = Pure.pure (.bl (nameB (cl x))) := by
  show m_is_name (.str x) = _
  unfold m_is_name
  simp only [pb, asc, is_str, isB1, bB, ittr, itT, v0, v1, f1e, len_e h, chain_int, plain_e h]
  unfold nameB
  cases decide (1 ≤ ((cl x).length : Int)) && decide (((cl x).length : Int) ≤ 8)
  · simp only [itfa, itF, pb, dR, Bool.false_and]
  · simp only [ittr, itT, pb, dR, Bool.true_and]
/-! ascending -/
theorem cut_e {x : Str} (h : x.cps.size ≤ sizeLine) (lo hi : Option Int) : sliceD (.str x) lo hi = Pure.pure (.str (cutS x lo hi)) := by
  unfold sliceD
  exact if_pos h
theorem cut_1 (x : Str) : cl (cutS x (some 1) none) = (cl x).drop 1 := by
  have e1 : HT.sIx x.length 0 (some 1) = min 1 x.length := HT.sIx_nat _ _ 1
  have e2 : HT.sIx x.length x.length none = x.length := rfl
  have e3 : x.length = (cl x).length := (cl_len x).symm
  unfold cutS
  rw [e1, e2]
  show ((cl x).drop _).take _ = _
  rw [e3]
  by_cases z : 1 ≤ (cl x).length
  · rw [Nat.min_eq_left z]
    exact List.take_of_length_le (by rw [List.length_drop]; exact Nat.le_refl _)
  · have e : cl x = [] := List.eq_nil_of_length_eq_zero (by omega)
    rw [e]; rfl
theorem zip_chrs (x y : Str) : zipD [.str x, .str y] = Pure.pure (List.zipWith (fun a b => .tup [.str ⟨#[a]⟩, .str ⟨#[b]⟩]) (cl x) (cl y)) := by
  unfold zipD
  simp only [iter_str, pb]
  unfold zip2 chrs
  rw [List.zipWith_map]
theorem zw_mem {α : Type} {f : Nat → Nat → α} {d : α} : ∀ {l m : List Nat}, d ∈ List.zipWith f l m → ∃ a b, d = f a b
  | [], _, h => absurd h List.not_mem_nil
  | _ :: _, [], h => absurd h List.not_mem_nil
  | a :: l, b :: m, h => by
    rcases List.mem_cons.mp h with z | z
    · exact ⟨a, b, z⟩
    · exact zw_mem z
theorem bls_zw (f : Nat → Nat → Bool) : ∀ l m : List Nat, bls (List.zipWith (fun a b => D.bl (f a b)) l m) = some (List.zipWith f l m)
  | [], _ => rfl
  | _ :: _, [] => rfl
  | a :: l, b :: m => by show (bls _).map _ = _; rw [bls_zw f l m]; rfl
theorem asc_e {x : Str} (h : x.cps.size ≤ sizeLine) : g_is_ascending [.v (.str x)] = Pure.pure (.bl (ascB (cl x))) := by
  show m_is_ascending (.str x) = _
  unfold m_is_ascending
  have p1 : partD (.int 1) = Pure.pure (some 1) := Eq.trans rfl rfl
  have e1 : compF (un2 fun one other => Pure.pure true) (un2 fun one other => ltD one other) (List.zipWith (fun a b => D.tup [.str ⟨#[a]⟩, .str ⟨#[b]⟩]) (cl x) ((cl x).drop 1)) =
      Pure.pure (List.zipWith (fun a b => D.bl (decide (a < b))) (cl x) ((cl x).drop 1)) := by
    rw [comp_pure (fun _ => true) (fun d => match d with | .tup [.str a, .str b] => .bl (ltS a b) | d => d) _ (fun d hd => ?_) fun d hd _ => ?_]
    · rw [List.filter_eq_self.mpr fun _ _ => rfl, List.map_zipWith]
      congr 2
      funext a b
      show D.bl (ltS ⟨#[a]⟩ ⟨#[b]⟩) = _
      rw [lt_cc]
    · obtain ⟨a, b, rfl⟩ := zw_mem hd; exact Eq.trans rfl rfl
    · obtain ⟨a, b, rfl⟩ := zw_mem hd; exact Eq.trans rfl rfl
  have e3 : allD (.lst (List.zipWith (fun a b => D.bl (decide (a < b))) (cl x) ((cl x).drop 1))) = Pure.pure (.bl (ascB (cl x))) := by
    unfold allD
    simp only [bls_zw, Option.map_some, sB]
    rfl
  simp only [pb, asc, p1, cut_e h, v0, v1, zip_chrs, cut_1, e1, noE, f1e, dR]
  rw [mkLe (by rw [List.length_zipWith, cl_len]; exact Nat.le_trans (Nat.min_le_left _ _) h)]
  simp only [pb, v0, v1, f1e, dR, e3]
def lettersB (l : List Nat) : Bool := decide (1 ≤ (l.length : Int)) && decide ((l.length : Int) ≤ 4) && (plain l && ascB l)
theorem letters_e {x : Str} (h : x.cps.size ≤ sizeLine) : g_is_letters [.v (.str x)] = Pure.pure (.bl (lettersB (cl x))) := by
  show m_is_letters (.str x) = _
  unfold m_is_letters
  simp only [pb, asc, thB, is_str, isB1, bB, ntn, itfa, itF, v0, v1, f1e, len_e h, chain_int, plain_e h, asc_e h]
  unfold lettersB
  cases decide (1 ≤ ((cl x).length : Int)) && decide (((cl x).length : Int) ≤ 4)
  · simp only [ntf, ittr, itT, pb, thR, dR, Bool.false_and]
  · simp only [ntn, itfa, itF, pb, thN, asc, bB, Bool.true_and]
    cases plain (cl x)
    · simp only [itfa, itF, pb, dR, Bool.false_and]
    · simp only [ittr, itT, pb, asc, dR, Bool.true_and]
/-! what is no text -/
theorem not_str {d : D} (h : isiD "str" d = Pure.pure (.bl false)) : g_is_name [.v d] = Pure.pure (.bl false) ∧ g_is_letters [.v d] = Pure.pure (.bl false) ∧ g_l_spelled [.v d] = Pure.pure (.bl false) ∧ g_l_are_signs [.v d] = Pure.pure (.bl false) ∧ ∀ s, g_l_is_in [.v s, .v d] = Pure.pure (.bl false) := by
  refine ⟨?_, ?_, ?_, ?_, fun s => ?_⟩
  · show m_is_name d = _
    unfold m_is_name
    simp only [pb, asc, h, bB, itfa, itF, dR]
  · show m_is_letters d = _
    unfold m_is_letters
    simp only [pb, asc, thB, h, bB, ntf, ittr, itT, thR, dR]
  · show m_l_spelled d = _
    unfold m_l_spelled
    simp only [pb, asc, thB, h, bB, ntf, ittr, itT, thR, dR]
  · show m_l_are_signs d = _
    unfold m_l_are_signs
    simp only [pb, asc, thB, h, bB, ntf, ittr, itT, thR, dR]
  · show m_l_is_in s d = _
    unfold m_l_is_in
    simp only [pb, asc, h, bB, itfa, itF, dR]
end KX

namespace KX
open PySem PySem.Spec PyProof.Rows L2 DL
theorem eq_int (i j : Int) : eqD (.int i) (.int j) = Pure.pure (.bl (i == j)) := by
  show (if SeqAt.shaped (.int i) = true ∧ SeqAt.shaped (.int j) = true then Pure.pure (D.bl (PyData.eqv (.int i) (.int j))) else M.no) = _
  rw [if_pos ⟨rfl, rfl⟩]
  rfl
theorem shaped_str {x : Str} (h : PyData.canLay0 (.str x) = true) : SeqAt.shaped (.str x) = true := by
  unfold SeqAt.shaped; rw [h]; rfl
theorem eq_str {x y : Str} (hx : PyData.canLay0 (.str x) = true) (hy : PyData.canLay0 (.str y) = true) : eqD (.str x) (.str y) = Pure.pure (.bl (x == y)) := by
  show (if SeqAt.shaped (.str x) = true ∧ SeqAt.shaped (.str y) = true then Pure.pure (D.bl (PyData.eqv (.str x) (.str y))) else M.no) = _
  rw [if_pos ⟨shaped_str hx, shaped_str hy⟩]
  rfl
theorem toPys_strs (ys : List Str) : toPys (ys.map .str) = some (ys.map .str) := by
  induction ys with
  | nil => rfl
  | cons y ys ih => show (match toPy (.str y), toPys _ with | some d, some ds => some (d :: ds) | _, _ => none) = _; rw [ih]; rfl
theorem lay_strs {ys : List Str} (h : ∀ y ∈ ys, PyData.canLay0 (.str y) = true) : PyData.canLayAll0 (ys.map .str) = true ∧ PyData.depthAll (ys.map .str) = 0 := by
  induction ys with
  | nil => exact ⟨rfl, rfl⟩
  | cons y ys ih =>
    obtain ⟨a, b⟩ := ih fun z hz => h z (List.mem_cons_of_mem _ hz)
    exact ⟨by show (PyData.canLay0 (.str y) && PyData.canLayAll0 _) = true; rw [h y List.mem_cons_self, a]; rfl, by show max 0 (PyData.depthAll _) = 0; rw [b]; rfl⟩
theorem eq_nil {ys : List Str} (h : ∀ y ∈ ys, PyData.canLay0 (.str y) = true) : eqD (.lst (ys.map .str)) (.lst []) = Pure.pure (.bl ys.isEmpty) := by
  have e : toPy (.lst (ys.map .str)) = some (.list (ys.map .str)) := by show (toPys _).map _ = _; rw [toPys_strs]; rfl
  obtain ⟨a, b⟩ := lay_strs h
  have s1 : SeqAt.shaped (.list (ys.map .str)) = true := by
    unfold SeqAt.shaped
    have d1 : PyData.canLay0 (.list (ys.map .str)) = true := a
    have d2 : PyData.depth (.list (ys.map .str)) = 1 := by show PyData.depthAll _ + 1 = 1; rw [b]
    rw [d1, d2]; rfl
  unfold eqD
  rw [e]
  show (if SeqAt.shaped (.list (ys.map .str)) = true ∧ SeqAt.shaped (.list []) = true then Pure.pure (D.bl (PyData.eqv (.list (ys.map .str)) (.list []))) else M.no) = _
  rw [if_pos ⟨s1, rfl⟩]
  cases ys <;> rfl

/-- a text of moderate length, its signs as they may be -/
structure Fine (x : Str) : Prop where
  sz : x.cps.size < 4000
  cp : ∀ c ∈ cl x, c < 1114112
theorem Fine.line {x : Str} (h : Fine x) : x.cps.size ≤ sizeLine := by
  have := h.sz
  rw [sizeLine_eq]; omega
theorem strOk_of {x : Str} (h : ∀ c ∈ cl x, c < 1114112) : PyData.canLay0 (.str x) = true := by
  have e : PyData.canLay0 (.str x) = x.cps.all (· < 1114112) := rfl
  rw [e, ← Array.all_toList, List.all_eq_true]
  exact fun c hc => decide_eq_true (h c hc)
theorem Fine.ok {x : Str} (h : Fine x) : PyData.canLay0 (.str x) = true := strOk_of h.cp
theorem one_ok {c : Nat} (h : c < 1114112) : PyData.canLay0 (.str ⟨#[c]⟩) = true := strOk_of fun d hd => by
  have e : d = c := List.mem_singleton.mp hd
  omega
theorem chrs_eq (x : Str) : chrs x = (cl x).map fun c => D.str ⟨#[c]⟩ := rfl
theorem inT (neg : Bool) (c : Nat) (y : Str) : inD neg (.str ⟨#[c]⟩) (.str y) = Pure.pure (.bl (if neg then !decide (c ∈ cl y) else decide (c ∈ cl y))) := Eq.trans rfl rfl
def abc : List Nat := List.range' 97 26
theorem cps_abc : cl (Str.ofString "abcdefghijklmnopqrstuvwxyz") = abc := by decide +kernel
theorem mem_abc {c : Nat} : decide (c ∈ abc) = (decide (97 ≤ c) && decide (c ≤ 122)) := by
  have : c ∈ abc ↔ 97 ≤ c ∧ c ≤ 122 := by
    unfold abc
    rw [List.mem_range'_1]
    omega
  by_cases h : 97 ≤ c
  · by_cases k : c ≤ 122
    · rw [decide_eq_true h, decide_eq_true k, decide_eq_true (this.mpr ⟨h, k⟩)]; rfl
    · rw [decide_eq_true h, decide_eq_false k, decide_eq_false fun z => k (this.mp z).2]; rfl
  · rw [decide_eq_false h, decide_eq_false fun z => h (this.mp z).1]; rfl
/-- [sign for sign in x if sign not in y] -/
theorem notIn_comp {x y : Str} (h : Fine x) : compF (fun d => inD true d (.str y) >>= boolD) (fun d => Pure.pure d) (chrs x) = Pure.pure (((cl x).filter fun c => !decide (c ∈ cl y)).map fun c => D.str ⟨#[c]⟩) := by
  rw [comp_pure (fun d => match d with | .str z => !(cl z).all fun c => decide (c ∈ cl y) | _ => false) (fun d => d) _ (fun d hd => ?_) fun d _ _ => rfl]
  · rw [chrs_eq, List.filter_map, List.map_map]
    congr 1
    have e : ((fun d => match d with | D.str z => !(cl z).all fun c => decide (c ∈ cl y) | _ => false) ∘ fun c => D.str ⟨#[c]⟩) = fun c => !decide (c ∈ cl y) := by
      funext c
      show (!([c].all fun c => decide (c ∈ cl y))) = _
      rw [List.all_cons, List.all_nil, Bool.and_true]
    rw [e]
    rfl
  · obtain ⟨c, _, rfl⟩ := List.mem_map.mp hd
    rw [inT, pb, bB]
    show Pure.pure (!decide (c ∈ cl y)) = Pure.pure (!([c].all fun c => decide (c ∈ cl y)))
    rw [List.all_cons, List.all_nil, Bool.and_true]
theorem filt_nil (l : List Nat) (p : Nat → Bool) : (l.filter fun c => !p c).isEmpty = l.all p := by
  induction l with
  | nil => rfl
  | cons a l ih =>
    rw [List.filter_cons, List.all_cons]
    cases p a
    · rfl
    · rw [← ih]; rfl
theorem notIn_e {β : Type} {x y : Str} (h : Fine x) (k : D → M β) : (noEx (compF (fun d => inD true d (.str y) >>= boolD) (fun d => Pure.pure d) (chrs x)) >>= fun ds => mkL ds >>= fun x => mkL [] >>= fun y => eqD x y >>= k) = k (.bl ((cl x).all fun c => decide (c ∈ cl y))) := by
  rw [notIn_comp h, noE, pb, mkLe (by
    rw [List.length_map]
    exact Nat.le_trans (List.length_filter_le _ _) (by rw [cl_len]; exact h.line)), pb, mkLe (Nat.zero_le _), pb]
  have e : (((cl x).filter fun c => !decide (c ∈ cl y)).map fun c => D.str ⟨#[c]⟩) = (((cl x).filter fun c => !decide (c ∈ cl y)).map SX.sgl).map D.str := by
    rw [List.map_map]; rfl
  rw [e, eq_nil fun s hs => ?_]
  · rw [List.isEmpty_map, filt_nil, pb]
  · obtain ⟨c, hc, rfl⟩ := List.mem_map.mp hs
    exact one_ok (h.cp c (List.mem_filter.mp hc).1)
theorem isin_e {x y : Str} (h : Fine x) : g_l_is_in [.v (.str y), .v (.str x)] = Pure.pure (.bl ((cl x).all fun c => decide (c ∈ cl y))) := by
  show m_l_is_in (.str y) (.str x) = _
  unfold m_l_is_in
  simp only [pb, asc, is_str, isB1, bB, ittr, itT, iter_str, v0]
  exact notIn_e h _
theorem all_abc (l : List Nat) : (l.all fun c => decide (c ∈ cl (Str.ofString "abcdefghijklmnopqrstuvwxyz"))) = plain l := by
  unfold plain
  rw [cps_abc]
  congr 1
  funext c
  exact mem_abc
def spellB (l : List Nat) : Bool := !((l.length : Int) == 0) && !decide (8 < (l.length : Int)) && plain l
theorem spell_e {x : Str} (h : Fine x) : g_l_spelled [.v (.str x)] = Pure.pure (.bl (spellB (cl x))) := by
  show m_l_spelled (.str x) = _
  unfold m_l_spelled
  unfold spellB
  simp only [pb, asc, thB, is_str, isB1, bB, ntn, itfa, itF, v0, v1, f1e, len_e h.line, eq_int, gt_int]
  cases (((cl x).length : Int) == 0)
  · simp only [itfa, itF, pb, bB, asc]
    cases decide (8 < ((cl x).length : Int))
    · simp only [itfa, itF, pb, thN, iter_str, asc, v0]
      rw [notIn_e h, all_abc]
      exact dR _
    · simp only [ittr, itT, pb, thR, dR]; rfl
  · simp only [ittr, itT, pb, thR, dR]; rfl
theorem spell_name (l : List Nat) : spellB l = nameB l := by
  unfold spellB nameB
  congr 1
  congr 1
  · by_cases h : l.length = 0
    · rw [h]; rfl
    · rw [decide_eq_true (show (1 : Int) ≤ l.length by omega), beq_eq_false_iff_ne.mpr (show (l.length : Int) ≠ 0 by omega)]; rfl
  · by_cases h : (l.length : Int) ≤ 8
    · rw [decide_eq_true h, decide_eq_false (by omega)]; rfl
    · rw [decide_eq_false h, decide_eq_true (by omega)]; rfl
end KX

namespace KX
open PySem PySem.Spec PyProof.Rows L2 DL
theorem ascB_iff : ∀ l : List Nat, ascB l = true ↔ l.Pairwise (· < ·)
  | [] => ⟨fun _ => List.Pairwise.nil, fun _ => rfl⟩
  | [a] => ⟨fun _ => List.pairwise_singleton _ _, fun _ => rfl⟩
  | a :: b :: l => by
    have e : ascB (a :: b :: l) = (decide (a < b) && ascB (b :: l)) := rfl
    rw [e, Bool.and_eq_true, decide_eq_true_eq, ascB_iff (b :: l)]
    constructor
    · rintro ⟨h, p⟩
      refine List.pairwise_cons.mpr ⟨fun x hx => ?_, p⟩
      rcases List.mem_cons.mp hx with z | z
      · omega
      · have := (List.pairwise_cons.mp p).1 x z; omega
    · intro p
      obtain ⟨p1, p2⟩ := List.pairwise_cons.mp p
      exact ⟨p1 b List.mem_cons_self, p2⟩
theorem txs_strs (ys : List Str) : txs (ys.map .str) = some ys := by
  induction ys with
  | nil => rfl
  | cons y ys ih => show (txs _).map _ = _; rw [ih]; rfl
theorem join_cl : ∀ ys : List Str, cl (Txt.join (Str.ofString "") ys) = (ys.map cl).flatten := by
  intro ys
  rw [TL.join_eq]
  have e0 : cl (Str.ofString "") = [] := by decide +kernel
  induction ys with
  | nil => rfl
  | cons a r ih =>
    cases r with
    | nil => show cl a = _; rw [List.map_cons, List.flatten_cons]; exact (List.append_nil _).symm
    | cons b r =>
      have : cl (Str.join (Str.ofString "") (a :: b :: r)) = cl a ++ cl (Str.ofString "") ++ cl (Str.join (Str.ofString "") (b :: r)) := by
        show (a.cps ++ (Str.ofString "").cps ++ (Str.join (Str.ofString "") (b :: r)).cps).toList = _
        rw [Array.toList_append, Array.toList_append]
      rw [this, ih, e0, List.append_nil]
      rfl
theorem join_e {ys : List Str} (h : (ys.map fun y => y.cps.size).sum ≤ 16777216) : joinD (.str "") [.lst (ys.map .str)] = Pure.pure (.str (Txt.join (Str.ofString "") ys)) := by
  show joinS _ _ = _
  unfold joinS
  rw [txs_strs]
  have e0 : (Str.ofString "").length = 0 := by decide +kernel
  show (if (ys.map (·.length)).sum + ys.length * (Str.ofString "").length ≤ 16777216 then Pure.pure (D.str (Txt.join _ ys)) else M.no) = _
  rw [e0, Nat.mul_zero, Nat.add_zero]
  exact if_pos h
theorem str_ext {x y : Str} (h : cl x = cl y) : x = y := PySem.W.str_of_cps h
theorem sgl_sum (l : List Nat) : ((l.map SX.sgl).map fun y => y.cps.size).sum = l.length := by
  induction l with
  | nil => rfl
  | cons a l ih => rw [List.map_cons, List.map_cons, List.sum_cons, ih, List.length_cons]; show 1 + l.length = _; omega
theorem sgl_flat (l : List Nat) : ((l.map SX.sgl).map cl).flatten = l := by
  induction l with
  | nil => rfl
  | cons a l ih => show [a] ++ _ = _; rw [ih]; rfl
theorem srt_join {x : Str} (h : Fine x) : joinD (.str "") [.lst ((SX.srt x).map .str)] = Pure.pure (.str (Txt.join (Str.ofString "") (SX.srt x))) ∧ cl (Txt.join (Str.ofString "") (SX.srt x)) = SX.srtN (cl x) := by
  refine ⟨join_e ?_, ?_⟩
  · unfold SX.srt
    rw [sgl_sum]
    have := SX.srt_length (x := x)
    unfold SX.srt at this
    rw [List.length_map] at this
    have := h.sz
    omega
  · rw [join_cl]
    unfold SX.srt
    exact sgl_flat _
theorem srt_e {x : Str} (h : Fine x) : sortSet (.str x) = Pure.pure (.lst ((SX.srt x).map .str)) := if_pos h.sz
theorem srt_fine {x y : Str} (h : Fine x) (e : cl y = SX.srtN (cl x)) : Fine y := by
  refine ⟨?_, fun c hc => h.cp c (SX.srtN_mem.mp (e ▸ hc))⟩
  have := SX.srt_length (x := x)
  unfold SX.srt at this
  rw [List.length_map, ← e, cl_len] at this
  have := h.sz
  omega
theorem eq_srt {x y : Str} (e : cl y = SX.srtN (cl x)) : (x == y) = ascB (cl x) := by
  by_cases h : ascB (cl x) = true
  · rw [h]
    have : x = y := str_ext (by rw [e, SX.srtN_self ((ascB_iff _).mp h)])
    rw [this]
    exact beq_self_eq_true _
  · rw [Bool.eq_false_iff.mpr h]
    refine beq_eq_false_iff_ne.mpr fun z => h ((ascB_iff _).mpr ?_)
    rw [z, e]
    exact SX.srtN_asc
theorem tyD_str (x : Str) : tyD "str" (.str x) = true := by show (("str" : String) == "str") = true; decide
theorem signs_e {x : Str} (h : Fine x) : g_l_are_signs [.v (.str x)] = Pure.pure (.bl (lettersB (cl x))) := by
  show m_l_are_signs (.str x) = _
  unfold m_l_are_signs
  obtain ⟨j1, j2⟩ := srt_join h
  have hy := srt_fine h j2
  simp only [pb, asc, thB, is_str, isB1, bB, ntn, itfa, itF, v0, v1, f1e, len_e h.line, chain_int, spell_e h, spell_name, tyD_str, ittr, itT, srt_e h, j1, eq_str h.ok hy.ok, eq_srt j2]
  unfold lettersB nameB
  by_cases k1 : 1 ≤ ((cl x).length : Int)
  · by_cases k2 : ((cl x).length : Int) ≤ 4
    · simp only [decide_eq_true k1, decide_eq_true k2, decide_eq_true (show ((cl x).length : Int) ≤ 8 by omega), Bool.and_true, ntn, Bool.true_and, itfa, itF, thN, pb, asc]
      cases plain (cl x)
      · simp only [itfa, itF, pb, dR, Bool.false_and]
      · simp only [ittr, itT, pb, asc, dR, Bool.true_and]
    · simp only [decide_eq_false k2, Bool.and_false, Bool.false_and, ntf, ittr, itT, thR, pb, dR]
  · simp only [decide_eq_false k1, Bool.false_and, ntf, ittr, itT, thR, pb, dR]
/-! is_text, refused -/
theorem check_e {s : Str} (h : Fine s) (hs : lettersB (cl s) = true) : g_check_letters [.v (.str s)] = Pure.pure .non := by
  show m_check_letters (.str s) = _
  unfold m_check_letters
  simp only [pb, asc, thB, letters_e h.line, hs, bB, ntn, itfa, itF, thN, dN]
theorem text_e {s x : Str} (h : Fine s) (hs : lettersB (cl s) = true) (k : Fine x) : g_is_text [.v (.str s), .v (.str x)] = Pure.pure (.bl ((cl x).all fun c => decide (c ∈ cl s))) := by
  show m_is_text (.str s) (.str x) = _
  unfold m_is_text
  have e1 : compF (fun _ => Pure.pure true) (fun d => inD false d (.str s)) (chrs x) = Pure.pure ((cl x).map fun c => .bl (decide (c ∈ cl s))) := by
    rw [comp_all (fun d => match d with | .str z => .bl ((cl z).all fun c => decide (c ∈ cl s)) | d => d) _ fun d hd => ?_]
    · rw [chrs_eq, List.map_map]
      congr 1
      refine List.map_congr_left fun c _ => ?_
      show D.bl ([c].all fun c => decide (c ∈ cl s)) = _
      rw [List.all_cons, List.all_nil, Bool.and_true]
    · obtain ⟨c, _, rfl⟩ := List.mem_map.mp hd
      rw [inT]
      show Pure.pure (D.bl (decide (c ∈ cl s))) = Pure.pure (D.bl ([c].all fun c => decide (c ∈ cl s)))
      rw [List.all_cons, List.all_nil, Bool.and_true]
  have e3 : allD (.lst ((cl x).map fun c => .bl (decide (c ∈ cl s)))) = Pure.pure (.bl ((cl x).all fun c => decide (c ∈ cl s))) := by
    unfold allD
    simp only [bls_map, Option.map_some, sB, List.all_map]
    rfl
  simp only [pb, asc, thB, check_e h hs, thN, is_str, isB1, bB, ittr, itT, iter_str, e1, noE, v0, v1, f1e]
  rw [mkLe (by rw [List.length_map, cl_len]; exact k.line)]
  simp only [pb, v0, v1, f1e, e3, dR]
theorem text_no {s : Str} {d : D} (h : Fine s) (hs : lettersB (cl s) = true) (k : isiD "str" d = Pure.pure (.bl false)) : g_is_text [.v (.str s), .v d] = Pure.pure (.bl false) := by
  show m_is_text (.str s) d = _
  unfold m_is_text
  simp only [pb, asc, thB, check_e h hs, thN, k, bB, itfa, itF, dR]
theorem refused_e {d : D} (h : g_is_letters [.v d] = Pure.pure (.bl false)) : g_l_refused [.v d] = Pure.pure (.bl true) := by
  show m_l_refused d = _
  have e1 : g_check_letters [.v d] = M.raise ⟨"InvalidLetters", none⟩ := by
    show m_check_letters d = _
    unfold m_check_letters
    simp only [pb, asc, thB, h, bB, ntf, ittr, itT, thX, xb]
  have e2 : g_is_text [.v d, .v (.str "a")] = M.raise ⟨"InvalidLetters", none⟩ := by
    show m_is_text d (.str "a") = _
    unfold m_is_text
    simp only [pb, asc, thB, e1, xb, thX]
  unfold m_l_refused
  have e3 : tryF (M.raise ⟨"InvalidLetters", none⟩ : M (Fl Unit)) [(is_InvalidLetters, fun _ => Pure.pure (.rt (.bl true)))] = Pure.pure (.rt (.bl true)) := by
    funext P
    exact Eq.trans rfl rfl
  simp only [pb, asc, e2, xb]
  rw [e3, thR, pb, dR]
end KX

namespace KX
open PySem PySem.Spec PyProof.Rows L2 DL
open Builtin.Int (intBits)
theorem is_int (i : Int) (T : String) : isiD T (.int i) = Pure.pure (.bl (isB "int" T)) := isi_is T rfl
theorem bits_e (i : Int) : bitsD (.int i) = Pure.pure (.int (intBits i : Nat)) := Eq.trans rfl rfl
theorem abs_e (i : Int) : absD (.int i) = Pure.pure (.int (if i < 0 then -i else i)) := Eq.trans rfl rfl
theorem abs_nat (i : Int) : (if i < 0 then -i else i) = (i.natAbs : Int) := by split <;> omega
theorem mul_ok {i j : Int} (h : CMulX i j) : mulD (.int i) (.int j) = Pure.pure (.int (i * j)) := if_pos h
theorem pow_ok {i j : Int} (h : CPowX i j) : powD (.int i) (.int j) = Pure.pure (.int (i ^ j.toNat)) := if_pos h
theorem mod_ok {i j : Int} (h : 0 < j) : modD (.int i) (.int j) = Pure.pure (.int (i % j)) := if_pos h
theorem add_ii (i j : Int) : addD (.int i) (.int j) = Pure.pure (.int (i + j)) := Eq.trans rfl rfl
theorem sub_ii (i j : Int) : subD (.int i) (.int j) = Pure.pure (.int (i - j)) := Eq.trans rfl rfl
theorem str_int {i : Int} (h : i.natAbs.log2 < 1920) : strD (.int i) = Pure.pure (.str (Str.ofString (toString i))) := if_pos h
theorem len_nat (n k : Nat) (h : 0 < k) : decide (((cl (Str.ofString (toString (n : Int)))).length : Int) ≤ (k : Int)) = decide (n < 10 ^ k) := by
  have e1 : (toString (n : Int)) = n.repr := rfl
  have e2 : (cl (Str.ofString (toString (n : Int)))).length = n.repr.length := by
    rw [cl_len, e1]
    exact PySem.ofString_length _
  rw [e2]
  by_cases q : n < 10 ^ k
  · rw [decide_eq_true q, decide_eq_true (by exact_mod_cast (Nat.length_repr_le_iff h).mpr q)]
  · rw [decide_eq_false q, decide_eq_false fun z => q ((Nat.length_repr_le_iff h).mp (by exact_mod_cast z))]
theorem c_mul : CMulX 4 200 := by
  unfold CMulX
  have h1 : intBits 4 = 3 := by decide +kernel
  have h2 : intBits 200 = 8 := by decide +kernel
  rw [h1, h2]; decide
theorem pw : (10 : Nat) ^ 200 < 2 ^ 800 := by decide +kernel
theorem int_e (i : Int) : g_is_integer [.v (.int i)] = Pure.pure (.bl (decide (i.natAbs < 10 ^ 200))) := by
  show m_is_integer (.int i) = _
  unfold m_is_integer
  have e2 : (4 * 200 : Int) = 800 := rfl
  simp only [pb, asc, thB, is_int, isB3, isB5, bB, ntn, itfa, itF, bits_e, mul_ok c_mul, le_int, thN, v0, v1, f1e, abs_e, e2]
  by_cases h : ((intBits i : Nat) : Int) ≤ 800
  · have hn : i.natAbs < 2 ^ 800 := PySem.intBits_le_iff.mp (by exact_mod_cast h)
    have hl : (((if i < 0 then -i else i)).natAbs).log2 < 1920 := by
      rw [abs_nat, Int.natAbs_natCast]
      by_cases z : i.natAbs = 0
      · rw [z]; decide
      · exact Nat.lt_trans ((Nat.log2_lt z).mpr hn) (by decide)
    rw [decide_eq_true h, ittr, str_int hl]
    simp only [pb, v0, v1, f1e, asc]
    rw [len_e]
    · simp only [pb, le_int, dR]
      rw [abs_nat, show (200 : Int) = ((200 : Nat) : Int) from rfl, len_nat _ 200 (by decide)]
    · have q : (cl (Str.ofString (toString (if i < 0 then -i else i)))).length ≤ 800 := by
        have := len_nat i.natAbs 800 (by decide)
        rw [abs_nat]
        have lt : i.natAbs < 10 ^ 800 := Nat.lt_of_lt_of_le hn (by decide +kernel)
        rw [decide_eq_true lt] at this
        have := of_decide_eq_true this
        exact_mod_cast this
      rw [← cl_len]
      exact Nat.le_trans q (by rw [sizeLine_eq]; decide)
  · rw [decide_eq_false h, itfa, pb, dR]
    congr 2
    refine (decide_eq_false fun z => h ?_).symm
    exact_mod_cast PySem.intBits_le_iff.mpr (Nat.lt_trans z pw)
theorem bits10 : intBits 10 = 4 := by decide +kernel
/-- 10 ** 50, 10 ** 200 -/
def P50 : Int := 10 ^ 50
def P200 : Int := 10 ^ 200
theorem pow_50 : powD (.int 10) (.int 50) = Pure.pure (.int P50) := pow_ok (i := 10) (j := 50) (by unfold CPowX; rw [bits10]; decide)
theorem P200_eq : P50 ^ (4 : Int).toNat = P200 := by
  show ((10 : Int) ^ 50) ^ 4 = 10 ^ 200
  rw [← Int.pow_mul]
theorem pow_200 : powD (.int P50) (.int 4) = Pure.pure (.int P200) := by
  have h : CPowX P50 4 := by
    unfold CPowX
    have : intBits P50 ≤ 167 := PySem.intBits_le_iff.mpr (by decide +kernel)
    omega
  rw [pow_ok h, P200_eq]
theorem P200_lt (n : Nat) : decide ((n : Int) < P200) = decide (n < 10 ^ 200) := by
  have e : P200 = ((10 ^ 200 : Nat) : Int) := by
    unfold P200
    rw [Int.natCast_pow]
    rfl
  rw [e]
  generalize (10 : Nat) ^ 200 = z
  by_cases h : n < z
  · rw [decide_eq_true h]; exact decide_eq_true (by omega)
  · rw [decide_eq_false h]; exact decide_eq_false (by omega)
theorem long_e (i : Int) : g_l_is_long [.v (.int i)] = Pure.pure (.bl (decide (i.natAbs < 10 ^ 200))) := by
  show m_l_is_long (.int i) = _
  rw [← P200_lt]
  unfold m_l_is_long
  simp only [pb, asc, thB, is_int, isB3, isB5, bB, ntn, itfa, itF, thN, v0, v1, f1e, abs_e, pow_50, pow_200, lt_int, dR]
  rw [abs_nat]
theorem not_int {d : D} (h : isiD "int" d = Pure.pure (.bl false) ∨ isiD "bool" d = Pure.pure (.bl true) ∧ isiD "int" d = Pure.pure (.bl true)) : g_is_integer [.v d] = Pure.pure (.bl false) ∧ g_l_is_long [.v d] = Pure.pure (.bl false) := by
  rcases h with h | ⟨h, k⟩
  · constructor
    · show m_is_integer d = _
      unfold m_is_integer
      simp only [pb, asc, thB, h, bB, ntf, ittr, itT, thR, dR]
    · show m_l_is_long d = _
      unfold m_l_is_long
      simp only [pb, asc, thB, h, bB, ntf, ittr, itT, thR, dR]
  · constructor
    · show m_is_integer d = _
      unfold m_is_integer
      simp only [pb, asc, thB, h, k, bB, ntn, itfa, itF, ittr, itT, thR, dR]
    · show m_l_is_long d = _
      unfold m_l_is_long
      simp only [pb, asc, thB, h, k, bB, ntn, itfa, itF, ittr, itT, thR, dR]
end KX

namespace KX
open PySem PySem.Spec PyProof.Rows L2 DL
open Builtin.Int (intBits)
theorem run_pure {α : Type} (a : α) (P : Pot) : (Pure.pure a : M α) P = .ok a P := Eq.trans rfl rfl
theorem run_bind {α β : Type} (m : M α) (k : α → M β) (P : Pot) : (m >>= k) P = match m P with
  | .ok a p' => k a p'
  | .ex e p' => .ex e p'
  | .no => .no := Eq.trans rfl rfl
theorem bits_small {i : Int} {n : Nat} (h : i.natAbs < 2 ^ n) : Builtin.Int.intBits i ≤ n := PyProof.Rows.intBits_le h
theorem bit_ok {n a x y : Int} (hn : 0 < n) (hn2 : n.natAbs.log2 < 9000) (ha : 0 ≤ a) (hx : 0 ≤ x ∧ x < 2 ^ 61) (hy : 0 ≤ y ∧ y < 2 ^ 40) :
    ∃ r a' y', m_l_bit (.int n) (some [.int a, .int x, .int y]) = .ok (.int r) (some [.int a', .int x, .int y']) ∧ 0 ≤ r ∧ r < n ∧ 0 ≤ a' ∧ a' ≤ a ∧ y ≤ y' ∧ y' ≤ y + 1 := by
  have g0 : ∀ (p q r : D), potGet (.int 0) (some [p, q, r]) = .ok p (some [p, q, r]) := fun _ _ _ => Eq.trans rfl rfl
  have g1 : ∀ (p q r : D), potGet (.int 1) (some [p, q, r]) = .ok q (some [p, q, r]) := fun _ _ _ => Eq.trans rfl rfl
  have g2 : ∀ (p q r : D), potGet (.int 2) (some [p, q, r]) = .ok r (some [p, q, r]) := fun _ _ _ => Eq.trans rfl rfl
  have s0 : ∀ (p q r d : D), potSet (.int 0) d (some [p, q, r]) = .ok () (some [d, q, r]) := fun _ _ _ _ => Eq.trans rfl rfl
  have s2 : ∀ (p q r d : D), potSet (.int 2) d (some [p, q, r]) = .ok () (some [p, q, d]) := fun _ _ _ _ => Eq.trans rfl rfl
  by_cases h : a > 0
  · have e : m_l_bit (.int n) (some [.int a, .int x, .int y]) = .ok (.int (a % n)) (some [.int (a / n), .int x, .int y]) := by
      unfold m_l_bit
      simp only [pure_bind, bind_assoc, run_bind, run_pure, thenR, g0, gtD, ordD, boolD, decide_eq_true h, if_true, vals, f1, intOf, modD, DL.intD, hn, fdivD, CDivW, hn2, and_self, s0, doneF]
    exact ⟨_, _, _, e, Int.emod_nonneg _ (by omega), Int.emod_lt_of_pos _ hn, Int.ediv_nonneg ha (by omega), Int.ediv_le_self _ ha, Int.le_refl _, by omega⟩
  · have mul1 : CMulX 1000453 (y + 1) := by
      unfold CMulX
      have h1 := bits_small (i := 1000453) (n := 20) (by decide)
      have h2 := bits_small (i := y + 1) (n := 41) (by omega)
      omega
    have mul2 : CMulX 9103 (y + 1) := by
      unfold CMulX
      have h1 := bits_small (i := 9103) (n := 20) (by decide)
      have h2 := bits_small (i := y + 1) (n := 41) (by omega)
      omega
    have small : ∀ i : Int, 0 ≤ i → i < 2305843009213693951 → Builtin.Int.intBits i ≤ 61 := fun i h1 h2 => bits_small (by omega)
    let f1' := (x + 1000453 * (y + 1)) % 2305843009213693951
    have f0 : 0 ≤ f1' := Int.emod_nonneg _ (by decide)
    have fl : f1' < 2305843009213693951 := Int.emod_lt_of_pos _ (by decide)
    have mul3 : CMulX f1' f1' := by
      unfold CMulX
      have := small _ f0 fl
      omega
    have g0' : 0 ≤ f1' * f1' % 2305843009213693921 := Int.emod_nonneg _ (by decide)
    have gl' : f1' * f1' % 2305843009213693921 < 2305843009213693921 := Int.emod_lt_of_pos _ (by decide)
    have mul4 : CMulX (f1' * f1' % 2305843009213693921) f1' := by
      unfold CMulX
      have h1 := small _ f0 fl
      have h2 := small _ g0' (by omega)
      omega
    have l2 : (16384 : Int).natAbs.log2 < 9000 := by decide
    have e : m_l_bit (.int n) (some [.int a, .int x, .int y]) = .ok (.int ((f1' * f1' % 2305843009213693921 * f1' + 9103 * (y + 1)) % 2305843009213693907 / 16384 % n)) (some [.int a, .int x, .int (y + 1)]) := by
      unfold m_l_bit
      have p1 : (0 : Int) < 2305843009213693951 := by decide
      have p2 : (0 : Int) < 2305843009213693921 := by decide
      have p3 : (0 : Int) < 2305843009213693907 := by decide
      have p4 : (0 : Int) < 16384 := by decide
      simp only [pure_bind, bind_assoc, run_bind, run_pure, thenR, g0, g1, g2, s2, gtD, ordD, boolD, decide_eq_false h, Bool.false_eq_true, if_false, vals, f1, intOf, addD, mulD, modD, DL.intD, hn, fdivD, CDivW, hn2, and_self, if_true, doneF, mul1, mul2, mul3, mul4, p1, p2, p3, p4, l2, f1']
    exact ⟨_, _, _, e, Int.emod_nonneg _ (by omega), Int.emod_lt_of_pos _ hn, ha, Int.le_refl _, by omega, by omega⟩

/-- a pot whose third number is at most n -/
def PO (n : Int) (P : Pot) : Prop := ∃ a x y, P = some [.int a, .int x, .int y] ∧ 0 ≤ a ∧ (0 ≤ x ∧ x < 2 ^ 61) ∧ 0 ≤ y ∧ y ≤ n
theorem PO.mono {n m : Int} {P : Pot} (h : PO n P) (k : n ≤ m) : PO m P := by
  obtain ⟨a, x, y, e, h1, h2, h3, h4⟩ := h
  exact ⟨a, x, y, e, h1, h2, h3, Int.le_trans h4 k⟩
theorem bit_w {n k : Int} {P : Pot} (h : PO n P) (hn : n < 2 ^ 39) (hk : 0 < k) (hl : k.natAbs.log2 < 9000) : wp (g_l_bit [.p, .v (.int k)]) P fun d P' => ∃ r, d = .int r ∧ 0 ≤ r ∧ r < k ∧ PO (n + 1) P' := by
  obtain ⟨a, x, y, rfl, ha, hx, h0, hy⟩ := h
  obtain ⟨r, a', y', e, h1, h2, h3, h4, h5, h6⟩ := bit_ok (n := k) (a := a) (x := x) (y := y) hk hl ha hx ⟨h0, by omega⟩
  exact ⟨.int r, _, e, r, rfl, h1, h2, a', x, y', rfl, h3, hx, by omega, by omega⟩
/-! the pot's making -/
theorem fB {α β : Type} (m : M α) (f : α → M (Fl β)) (k : β → M (List D)) : thenF (m >>= f) k = (m >>= fun x => thenF (f x) k) := bind_assoc m f _
theorem fN {α : Type} (a : α) (k : α → M (List D)) : thenF (Pure.pure (.nx a)) k = k a := Eq.trans rfl rfl
theorem fI {α : Type} {c : Prop} [Decidable c] (a b : M (Fl α)) (k : α → M (List D)) : thenF (if c then a else b) k = if c then thenF a k else thenF b k := by split <;> rfl
def P61 : Int := 10 ^ 61
def P671 : Int := P61 ^ (11 : Int).toNat
theorem P61_pos : 0 < P61 := by unfold P61; exact Int.pow_pos (by decide)
theorem P671_pos : 0 < P671 := by unfold P671; exact Int.pow_pos P61_pos
theorem pow_61 : powD (.int 10) (.int 61) = Pure.pure (.int P61) := pow_ok (i := 10) (j := 61) (by unfold CPowX; rw [bits10]; decide)
theorem pow_671 : powD (.int P61) (.int 11) = Pure.pure (.int P671) := by
  have h : CPowX P61 11 := by
    unfold CPowX
    have : intBits P61 ≤ 203 := PySem.intBits_le_iff.mpr (by decide +kernel)
    omega
  exact pow_ok h
def P18 : Int := 10 ^ 18
theorem pow_18 : powD (.int 10) (.int 18) = Pure.pure (.int P18) := pow_ok (i := 10) (j := 18) (by unfold CPowX; rw [bits10]; decide)
theorem int_of (i : Int) : intOf (.int i) = Pure.pure (.int i) := Eq.trans rfl rfl
theorem int_bl (b : Bool) : intOf (.bl b) = Pure.pure (.int (if b then 1 else 0)) := Eq.trans rfl rfl
theorem len_scr (ns : List Int) : lenD (.scr ns) = Pure.pure (.int (ns.length : Nat)) := Eq.trans rfl rfl
theorem ix_scr {ns : List Int} {i : Int} {z : Int} (h : atI ns i = some z) : ixD (.scr ns) (.int i) = Pure.pure (.int z) := by
  show M.some ((atI ns i).map D.int) = _
  rw [h]; exact Eq.trans rfl rfl
theorem atI_nat {α : Type} {xs : List α} {i : Int} (h0 : 0 ≤ i) (h : i < xs.length) : ∃ z, atI xs i = some z ∧ z ∈ xs := by
  have hi : i.toNat < xs.length := by omega
  refine ⟨xs[i.toNat], ?_, List.getElem_mem hi⟩
  unfold atI ixN
  rw [if_pos h0, if_pos h]
  exact List.getElem?_eq_getElem hi
theorem max_e (i j : Int) : maxD (.int i) (.int j) = Pure.pure (.int (if j > i then j else i)) := Eq.trans rfl rfl
theorem mkN_e {ds : List D} (h : ds.length ≤ sizeLine) : mkN ds = Pure.pure ds := if_pos h
theorem small_mul {i j : Int} {m n : Nat} (hi : i.natAbs < 2 ^ m) (hj : j.natAbs < 2 ^ n) (h : m + n ≤ 134217728) : CMulX i j := by
  unfold CMulX
  have h1 := PySem.intBits_le_iff.mpr hi
  have h2 := PySem.intBits_le_iff.mpr hj
  omega
/-- the cell that the law reads -/
theorem cell_e {ns : List Int} {i : Int} {β : Type} (h0 : 0 ≤ i) (z0 : Int) :
    ∃ c, ∀ k : D → M β, (ltD (.int i) (.int (ns.length : Nat)) >>= fun x => boolD x >>= fun x => (if x = true then ixD (.scr ns) (.int i) else Pure.pure (.int z0)) >>= k) = k (.int c) := by
  by_cases h : i < (ns.length : Int)
  · obtain ⟨z, e, _⟩ := atI_nat (xs := ns) h0 h
    exact ⟨z, fun k => by rw [lt_int, pb, bB, pb, decide_eq_true h, ittr, ix_scr e, pb]⟩
  · exact ⟨z0, fun k => by rw [lt_int, pb, bB, pb, decide_eq_false h, itfa, pb]⟩
theorem pot_e {ns : List Int} {i : Int} (h0 : 0 ≤ i) (hi : i < 64) : ∃ a x, g_l_pot [.v (.scr ns), .v (.int i)] = Pure.pure [.int a, .int x, .int 0] ∧ 0 ≤ a ∧ (0 ≤ x ∧ x < 2 ^ 61) := by
  show ∃ a x, m_l_pot (.scr ns) (.int i) = _ ∧ _
  unfold m_l_pot
  have m1 : CMulX 67 i := small_mul (m := 7) (n := 7) (by decide) (by omega) (by decide)
  have m2 : CMulX 9413 i := small_mul (m := 14) (n := 7) (by decide) (by omega) (by decide)
  simp only [pb, asc, fB, v0, v1, f1e, len_scr, mul_ok m1, add_ii]
  obtain ⟨c, e⟩ := cell_e (β := List D) (ns := ns) h0 (67 * i + 37)
  rw [e, fN]
  simp only [abs_e, abs_nat, pb, int_of, pow_61, pow_671, mod_ok P671_pos, fN]
  generalize hg : (c.natAbs : Int) % P671 = g
  have g0 : 0 ≤ g := hg ▸ Int.emod_nonneg _ (by have := P671_pos; omega)
  have p1 : (0 : Int) < 2147483249 := by decide
  have p2 : (0 : Int) < 2305843009213693907 := by decide
  simp only [mod_ok p1, pb]
  generalize hb : g % 2147483249 = b
  have b0 : 0 ≤ b := hb ▸ Int.emod_nonneg _ (by decide)
  have b1 : b < 2147483249 := hb ▸ Int.emod_lt_of_pos _ (by decide)
  have m3 : CMulX b 96293 := small_mul (m := 31) (n := 17) (by omega) (by decide) (by decide)
  simp only [mul_ok m3, mul_ok m2, pb, add_ii, lt_int, int_bl]
  generalize hk : (if decide (c < 0) = true then (1 : Int) else 0) = k
  have k0 : k = 0 ∨ k = 1 := by rw [← hk]; split <;> simp
  have m4 : CMulX 47 k := small_mul (m := 6) (n := 1) (by decide) (by omega) (by decide)
  simp only [mul_ok m4, pb, add_ii, fN, pow_18, sub_ii, f2e, max_e, int_of, mod_ok p2]
  generalize b * 96293 + 9413 * i + 47 * k + 73 = z
  refine ⟨_, _, mkN_e (by rw [sizeLine_eq]; simp), ?_, Int.emod_nonneg _ (by decide), ?_⟩
  · split <;> omega
  · have := Int.emod_lt_of_pos z p2
    omega
/-! drawn letters, picks -/
theorem fine_lit {s : Str} (h1 : s.cps.size < 4000) (h2 : (cl s).all (fun c => decide (c < 1114112)) = true) : Fine s := ⟨h1, fun c hc => of_decide_eq_true (List.all_eq_true.mp h2 c hc)⟩
theorem letter_w {n : Int} {P : Pot} (h : PO n P) (hn : n < 2 ^ 39) : wp (g_l_letter [.p]) P fun d P' => (∃ c, d = .str (SX.sgl c) ∧ 97 ≤ c ∧ c ≤ 122) ∧ PO (n + 1) P' := by
  show wp m_l_letter P _
  unfold m_l_letter
  simp only [pb, asc]
  refine wp_bind (wp_mono (bit_w h hn (by decide) (by decide)) fun d P' ⟨r, e, r0, r1, q⟩ => ?_)
  subst e
  have hl : r < (abc.length : Int) := r1
  obtain ⟨z, e1, e2⟩ := atI_nat (xs := abc) r0 hl
  have e3 : ixD (.str (Str.ofString "abcdefghijklmnopqrstuvwxyz")) (.int r) = Pure.pure (.str (SX.sgl z)) := by
    show (if (Str.ofString "abcdefghijklmnopqrstuvwxyz").length ≤ sizeLine then M.some ((atI (cl (Str.ofString "abcdefghijklmnopqrstuvwxyz")) r).map fun a => D.str ⟨#[a]⟩) else M.no) = _
    rw [cps_abc, e1, if_pos (by decide +kernel)]
    exact Eq.trans rfl rfl
  rw [e3]
  simp only [pb, dR]
  refine wp_pure ⟨⟨z, rfl, ?_⟩, q⟩
  have := of_decide_eq_true (show decide (z ∈ abc) = true from decide_eq_true e2)
  unfold abc at this
  rw [List.mem_range'_1] at this
  omega
theorem pick_w {n : Int} {P : Pot} {ds : List D} (h : PO n P) (hn : n < 2 ^ 39) (hl : 0 < ds.length) (hs : ds.length < 4000) : wp (g_l_pick [.p, .v (.lst ds)]) P fun d P' => d ∈ ds ∧ PO (n + 1) P' := by
  show wp (m_l_pick (.lst ds)) P _
  unfold m_l_pick
  have e1 : lenD (.lst ds) = Pure.pure (.int (ds.length : Nat)) := Eq.trans rfl rfl
  simp only [pb, asc, v0, v1, f1e, e1]
  have lg : ((ds.length : Nat) : Int).natAbs.log2 < 9000 := by
    rw [Int.natAbs_natCast]
    exact Nat.lt_trans ((Nat.log2_lt (by omega)).mpr (show ds.length < 2 ^ 12 by omega)) (by decide)
  refine wp_bind (wp_mono (bit_w h hn (by omega) lg) fun d P' ⟨r, e, r0, r1, q⟩ => ?_)
  subst e
  obtain ⟨z, e1, e2⟩ := atI_nat (xs := ds) r0 r1
  have e3 : ixD (.lst ds) (.int r) = Pure.pure z := by
    show M.some (atI ds r) = _
    rw [e1]; exact Eq.trans rfl rfl
  rw [e3]
  simp only [pb, dR]
  exact wp_pure ⟨e2, q⟩
end KX

namespace KX
open PySem PySem.Spec PyProof.Rows L2 DL
open Builtin.Int (intBits)
theorem comp_ints {e : D → M D} (g : Int → Int) (is : List Int) (he : ∀ i, e (.int i) = Pure.pure (.int (g i))) : compF (fun _ => Pure.pure true) e (is.map .int) = Pure.pure ((is.map g).map .int) := by
  rw [comp_all (fun d => match d with | .int i => .int (g i) | d => d) _ fun d hd => ?_]
  · rw [List.map_map, List.map_map]; rfl
  · obtain ⟨i, _, rfl⟩ := List.mem_map.mp hd
    exact he i
theorem add_ll {a b : List D} (h : a.length + b.length ≤ sizeLine) : addD (.lst a) (.lst b) = Pure.pure (.lst (a ++ b)) := if_pos h
theorem add_ss {a b : Str} (h : a.cps.size + b.cps.size ≤ sizeLine) : addD (.str a) (.str b) = Pure.pure (.str (a ++ b)) := if_pos h
def P10 : Int := 10 ^ 10
theorem pow_10 : powD (.int 10) (.int 10) = Pure.pure (.int P10) := pow_ok (i := 10) (j := 10) (by unfold CPowX; rw [bits10]; decide)
theorem P210_mul : CMulX P200 P10 := small_mul (m := 800) (n := 40) (by unfold P200; decide +kernel) (by unfold P10; decide +kernel) (by decide)
theorem P210_pos : 0 < P200 * P10 := Int.mul_pos (by unfold P200; exact Int.pow_pos (by decide)) (by unfold P10; exact Int.pow_pos (by decide))
theorem numbers_w {n c : Int} {P : Pot} (h : PO n P) (hn : n < 2 ^ 39) : wp (g_l_numbers [.p, .v (.int c)]) P fun d P' => (∃ is : List Int, d = .lst (is.map .int) ∧ is.length = 14) ∧ PO (n + 1) P' := by
  show wp (m_l_numbers (.int c)) P _
  unfold m_l_numbers
  have t2 : ∀ a b : D, mkT [a, b] = Pure.pure (.tup [a, b]) := fun a b => mkTe (by rw [sizeLine_eq]; simp)
  have t4 : ∀ a b c d : D, mkT [a, b, c, d] = Pure.pure (.tup [a, b, c, d]) := fun a b c d => mkTe (by rw [sizeLine_eq]; simp)
  have u2 : ∀ (a b : D) (k : D → D → M (Fl (D × D))), un2 k (.tup [a, b]) = k a b := fun _ _ _ => Eq.trans rfl rfl
  have it : iterA (.tup [.int (0 - 2), .int (0 - 1), .int 0, .int 1]) = Pure.pure (([0 - 2, 0 - 1, 0, 1] : List Int).map .int) := Eq.trans rfl rfl
  simp only [pb, asc, thB, v0, v1, f1e, int_of, pow_50, pow_200, pow_10, mul_ok P210_mul, mod_ok P210_pos, t2, u2, thN, sub_ii]
  simp only [t4, pb, it]
  rw [comp_ints (fun j => P200 + j) _ fun i => add_ii _ _]
  rw [noE]
  simp only [pb]
  rw [mkLe (by rw [sizeLine_eq]; simp)]
  simp only [pb]
  refine wp_bind (wp_mono (bit_w h hn (by decide) (by decide)) fun d P' ⟨r, e, r0, r1, q⟩ => ?_)
  subst e
  have l3 : ∀ a b c : D, mkL [a, b, c] = Pure.pure (.lst [a, b, c]) := fun a b c => mkLe (by rw [sizeLine_eq]; simp)
  simp only [pb, v0, v1, asc, l3]
  rw [add_ll (by rw [sizeLine_eq]; simp)]
  have e1 : (List.map D.int (List.map (fun j => P200 + j) [0 - 2, 0 - 1, 0, 1]) ++ [D.int (c % (P200 * P10)), D.int r, D.int 0]) = ((([0 - 2, 0 - 1, 0, 1] : List Int).map fun j => P200 + j) ++ [c % (P200 * P10), r, 0]).map D.int := by
    rw [List.map_append]; rfl
  rw [e1]
  generalize hf : (([0 - 2, 0 - 1, 0, 1] : List Int).map fun j => P200 + j) ++ [c % (P200 * P10), r, 0] = is
  have hl : is.length = 7 := by rw [← hf]; rfl
  have it2 : iterA (.lst (is.map .int)) = Pure.pure (is.map .int) := Eq.trans rfl rfl
  simp only [pb, thN, it2, asc]
  rw [comp_ints (fun j => 0 - j) _ fun i => sub_ii _ _]
  rw [noE]
  simp only [pb]
  rw [mkLe (by rw [List.length_map, List.length_map, hl, sizeLine_eq]; decide)]
  simp only [pb]
  rw [add_ll (by rw [List.length_map, List.length_map, List.length_map, hl, sizeLine_eq]; decide)]
  simp only [pb, dR]
  refine wp_pure ⟨⟨is ++ is.map fun j => 0 - j, ?_, ?_⟩, q⟩
  · rw [List.map_append]
  · rw [List.length_append, List.length_map, hl]
/-! texts that are drawn -/
structure FineN (k : Nat) (x : Str) : Prop where
  sz : x.cps.size ≤ k
  cp : ∀ c ∈ cl x, c < 1114112
theorem FineN.fine {k : Nat} {x : Str} (h : FineN k x) (hk : k < 4000) : Fine x := ⟨Nat.lt_of_le_of_lt h.sz hk, h.cp⟩
theorem FineN.cut {k : Nat} {x : Str} (h : FineN k x) (lo hi : Option Int) : FineN k (cutS x lo hi) := by
  have e : cl (cutS x lo hi) = ((cl x).drop (HT.sIx x.length 0 lo)).take (HT.sIx x.length x.length hi - HT.sIx x.length 0 lo) := rfl
  refine ⟨?_, fun c hc => h.cp c (List.mem_of_mem_drop (List.mem_of_mem_take (e ▸ hc)))⟩
  rw [← cl_len, e]
  have := h.sz
  rw [← cl_len] at this
  rw [List.length_take, List.length_drop]
  omega
theorem FineN.add {k m : Nat} {x y : Str} (h : FineN k x) (g : FineN m y) : FineN (k + m) (x ++ y) := by
  have e : cl (x ++ y) = cl x ++ cl y := Array.toList_append
  refine ⟨?_, fun c hc => ?_⟩
  · rw [← cl_len, e, List.length_append, cl_len, cl_len]
    exact Nat.add_le_add h.sz g.sz
  · rw [e] at hc
    rcases List.mem_append.mp hc with z | z
    · exact h.cp c z
    · exact g.cp c z
theorem sgls_of : ∀ {rs : List D}, (∀ r ∈ rs, ∃ c, r = .str (SX.sgl c) ∧ 97 ≤ c ∧ c ≤ 122) → ∃ cs : List Nat, rs = (cs.map SX.sgl).map .str ∧ ∀ c ∈ cs, c ≤ 122
  | [], _ => ⟨[], rfl, fun _ h => absurd h List.not_mem_nil⟩
  | r :: rs, h => by
    obtain ⟨c, e, _, hc⟩ := h r List.mem_cons_self
    obtain ⟨cs, e2, h2⟩ := sgls_of fun x hx => h x (List.mem_cons_of_mem _ hx)
    refine ⟨c :: cs, by rw [e, e2]; rfl, fun d hd => ?_⟩
    rcases List.mem_cons.mp hd with z | z
    · omega
    · exact h2 d z
end KX

namespace KX
open PySem PySem.Spec PyProof.Rows L2 DL
open Builtin.Int (intBits)
/-- the texts so far -/
def WS (n : Int) (k : Nat) (a : D) (P : Pot) : Prop := ∃ ws : List Str, a = .lst (ws.map .str) ∧ ws.length = 10 + 3 * k ∧ (∀ w ∈ ws, Fine w) ∧ Str.ofString "abcd" ∈ ws ∧ PO (n + 14 * k) P
theorem odd_fine : ∀ d ∈ ([.str (Str.ofString "A"), .str (Str.ofString "Z"), .str (Str.ofString "7"), .str (Str.ofString " "), .str (Str.ofString "_"), .str (Str.ofString "\n"), .str (Str.ofString "@"), .str (Str.ofString "{"), .str (Str.ofString ".")] : List D), ∃ x, d = .str x ∧ FineN 1 x := by
  have go : ∀ s : String, (Str.ofString s).cps.size ≤ 1 → (cl (Str.ofString s)).all (fun c => decide (c < 1114112)) = true → ∃ x, D.str (Str.ofString s) = .str x ∧ FineN 1 x := fun s h1 h2 =>
    ⟨_, rfl, h1, fun c hc => of_decide_eq_true (List.all_eq_true.mp h2 c hc)⟩
  intro d hd
  simp only [List.mem_cons, List.not_mem_nil, or_false] at hd
  rcases hd with h | h | h | h | h | h | h | h | h <;> subst h <;> exact go _ (by decide +kernel) (by decide +kernel)
theorem rng_e {j : Int} (h : 0 ≤ j ∧ j < 100) : rng1 [.v (.int j)] = Pure.pure (rngs 0 j) := if_pos (by omega)
theorem rngs_len {j : Int} (h : 0 ≤ j) : (rngs 0 j).length = j.toNat := by
  unfold rngs
  rw [List.length_map, List.length_range]
  omega
theorem part_e (i : Int) : partD (.int i) = Pure.pure (some i) := Eq.trans rfl rfl
theorem word_w {n : Int} {P : Pot} (h : PO n P) (hn : n < 2 ^ 38) {β : Type} (k : D → M β) (Q : β → Pot → Prop) (hk : ∀ x P', FineN 10 x → PO (n + 11) P' → wp (k (.str x)) P' Q) :
    wp (g_l_bit [.p, .v (.int 11)] >>= fun x => rng1 [.v x] >>= fun ds => noEx (compF (fun _ => Pure.pure true) (fun l_at29 => g_l_letter [.p]) ds) >>= fun x => mkL x >>= fun x => joinD (.str (Str.ofString "")) [x] >>= k) P Q := by
  refine wp_bind (wp_mono (bit_w h (by omega) (by decide) (by decide)) fun d P' ⟨r, e, r0, r1, q⟩ => ?_)
  subst e
  rw [rng_e ⟨r0, by omega⟩, pb]
  have hlen := rngs_len r0
  refine wp_bind (wp_noEx (wp_mono (wp_comp (fun i P => PO (n + 1 + i) P) (fun d => ∃ c, d = .str (SX.sgl c) ∧ 97 ≤ c ∧ c ≤ 122) 10 (rngs 0 r) 0 P' (by omega) (by simpa using q) fun i P hi d _ hP => ?_) fun rs P2 ⟨h1, h2, h3⟩ => ?_))
  · refine wp_mono (letter_w hP (by omega)) fun d P' ⟨hd, hq⟩ => ⟨hd, hq.mono (by omega)⟩
  · obtain ⟨cs, e, hc⟩ := sgls_of h2
    subst e
    have hcl : cs.length ≤ 10 := by
      rw [List.length_map, List.length_map] at h1
      omega
    rw [mkLe (by rw [List.length_map, List.length_map, sizeLine_eq]; omega), pb, join_e (by rw [sgl_sum]; omega), pb]
    have e2 : cl (Txt.join (Str.ofString "") (cs.map SX.sgl)) = cs := by rw [join_cl, sgl_flat]
    refine hk _ _ ⟨?_, fun c hcm => ?_⟩ (h3.mono ?_)
    · rw [← cl_len, e2]; exact hcl
    · rw [e2] at hcm
      have := hc c hcm
      omega
    · omega
theorem strings_w {n : Int} {P : Pot} (h : PO n P) (hn : n < 2 ^ 37) : wp (g_l_strings [.p]) P fun d P' => WS n 5 d P' := by
  show wp m_l_strings P _
  unfold m_l_strings
  have l10 : ∀ a b c d e f g h i j : D, mkL [a, b, c, d, e, f, g, h, i, j] = Pure.pure (.lst [a, b, c, d, e, f, g, h, i, j]) := fun a b c d e f g h i j => mkLe (by rw [sizeLine_eq]; simp)
  have l9 : ∀ a b c d e f g h i : D, mkL [a, b, c, d, e, f, g, h, i] = Pure.pure (.lst [a, b, c, d, e, f, g, h, i]) := fun a b c d e f g h i => mkLe (by rw [sizeLine_eq]; simp)
  have l3 : ∀ a b c : D, mkL [a, b, c] = Pure.pure (.lst [a, b, c]) := fun a b c => mkLe (by rw [sizeLine_eq]; simp)
  simp only [pb, asc, v0, v1, l10, thN, thB, rng_e (show (0 : Int) ≤ 5 ∧ (5 : Int) < 100 by decide), tyD_str, ittr, itT, l9, f1e]
  have first : WS n 0 (.lst [.str (Str.ofString ""), .str (Str.ofString "abcdefgh"), .str (Str.ofString "abcdefghi"), .str (Str.ofString "abcd"), .str (Str.ofString "abcde"), .str (Str.ofString "aa"), .str (Str.ofString "ba"), .str (Str.ofString "az"), .str (Str.ofString "A"), .str (Str.ofString "a b")]) P := by
    refine ⟨[Str.ofString "", Str.ofString "abcdefgh", Str.ofString "abcdefghi", Str.ofString "abcd", Str.ofString "abcde", Str.ofString "aa", Str.ofString "ba", Str.ofString "az", Str.ofString "A", Str.ofString "a b"], rfl, rfl, fun w hw => ?_, by simp, by simpa using h⟩
    simp only [List.mem_cons, List.not_mem_nil, or_false] at hw
    rcases hw with h | h | h | h | h | h | h | h | h | h <;> subst h <;> exact fine_lit (by decide +kernel) (by decide +kernel)
  refine wp_bind (wp_then (wp_mono (wp_for (fun i a P => WS n i a P) 5 (rngs 0 5) 0 _ P (by decide) first fun i a P hi d _ hI => ?_) fun f P' ⟨a', e, q⟩ => ⟨a', e, ?_⟩))
  · obtain ⟨ws, rfl, hl, hf, hm, hP⟩ := hI
    refine word_w hP (by omega) _ _ fun x P1 fx p1 => ?_
    have le := len_e (fx.fine (by decide)).line
    rw [le]
    simp only [pb, add_ii]
    have xl : (cl x).length ≤ 10 := by rw [cl_len]; exact fx.sz
    refine wp_bind (wp_mono (bit_w p1 (by omega) (by omega) ?_) fun d P2 ⟨r, e, r0, r1, p2⟩ => ?_)
    · have e : (((cl x).length : Int) + 1).natAbs = (cl x).length + 1 := by omega
      rw [e]
      exact Nat.lt_trans ((Nat.log2_lt (by omega)).mpr (show (cl x).length + 1 < 2 ^ 5 by omega)) (by decide)
    subst e
    refine wp_bind (wp_mono (pick_w p2 (by omega) (by simp) (by simp)) fun d P3 ⟨hd, p3⟩ => ?_)
    obtain ⟨o, rfl, fo⟩ := odd_fine d hd
    have fine2 := (fx.cut none (some r)).add fo
    have fine3 := fine2.add (fx.cut (some r) none)
    have xs := fx.fine (by decide)
    obtain ⟨j1, j2⟩ := srt_join xs
    have ce := cut_e xs.line
    simp only [pb, part_e, ce]
    rw [add_ss (by rw [sizeLine_eq]; have h1 := (fx.cut none (some r)).sz; have h2 := fo.sz; omega)]
    simp only [pb]
    rw [add_ss (by rw [sizeLine_eq]; have h1 := fine2.sz; have h2 := (fx.cut (some r) none).sz; omega)]
    simp only [pb, srt_e xs, j1]
    refine wp_bind (wp_mono (bit_w p3 (by omega) (by decide) (by decide)) fun d P4 ⟨r2, e, _, _, p4⟩ => ?_)
    subst e
    have fs : FineN 10 (Txt.join (Str.ofString "") (SX.srt x)) := by
      have f0 := srt_fine xs j2
      refine ⟨?_, f0.cp⟩
      have := SX.srt_length (x := x)
      unfold SX.srt at this
      rw [List.length_map] at this
      rw [← cl_len, j2]
      exact Nat.le_trans this fx.sz
    have ce2 := cut_e (fs.fine (by decide)).line
    simp only [part_e, pb, ce2, l3]
    rw [add_ll (by rw [List.length_map, hl, sizeLine_eq]; simp; omega)]
    simp only [pb, thN]
    refine wp_pure ⟨_, rfl, ⟨ws ++ [x, cutS x none (some r) ++ o ++ cutS x (some r) none, cutS (Txt.join (Str.ofString "") (SX.srt x)) none (some r2)], ?_, ?_, fun w hw => ?_, List.mem_append_left _ hm, p4.mono (by omega)⟩⟩
    · rw [List.map_append]; rfl
    · rw [List.length_append, hl]; simp; omega
    · rcases List.mem_append.mp hw with z | z
      · exact hf w z
      · simp only [List.mem_cons, List.not_mem_nil, or_false] at z
        rcases z with z | z | z <;> subst z
        · exact xs
        · exact fine3.fine (by decide)
        · exact (fs.cut none (some r2)).fine (by decide)
  · refine wp_pure ?_
    show wp (doneF (.rt a')) P' _
    rw [dR]
    have l5 : 0 + (rngs 0 5).length = 5 := by decide
    rw [l5] at q
    exact wp_pure q
end KX

namespace KX
open PySem PySem.Spec PyProof.Rows L2 DL
/-- a value that the law asks about -/
inductive Vl : D → Prop
  | int (i : Int) : Vl (.int i)
  | str (x : Str) (h : Fine x) : Vl (.str x)
  | no {d : D} (h : isiD "str" d = Pure.pure (.bl false)) (k : isiD "int" d = Pure.pure (.bl false) ∨ isiD "bool" d = Pure.pure (.bl true) ∧ isiD "int" d = Pure.pure (.bl true)) : Vl d
theorem four {d : D} {s : Str} (h : Vl d) (hs : Fine s) (hl : lettersB (cl s) = true) : ∃ b1 b2 b3 b4 : Bool, (g_is_integer [.v d] = Pure.pure (.bl b1) ∧ g_l_is_long [.v d] = Pure.pure (.bl b1)) ∧ (g_is_name [.v d] = Pure.pure (.bl b2) ∧ g_l_spelled [.v d] = Pure.pure (.bl b2)) ∧
    (g_is_letters [.v d] = Pure.pure (.bl b3) ∧ g_l_are_signs [.v d] = Pure.pure (.bl b3)) ∧ (g_is_text [.v (.str s), .v d] = Pure.pure (.bl b4) ∧ g_l_is_in [.v (.str s), .v d] = Pure.pure (.bl b4)) := by
  cases h with
  | int i =>
    have k : isiD "str" (.int i) = Pure.pure (.bl false) := by rw [is_int, isB4]
    obtain ⟨n1, n2, n3, n4, n5⟩ := not_str k
    exact ⟨_, _, _, _, ⟨int_e i, long_e i⟩, ⟨n1, n3⟩, ⟨n2, n4⟩, text_no hs hl k, n5 _⟩
  | str x h =>
    have k : isiD "int" (.str x) = Pure.pure (.bl false) := by rw [is_str, isB2]
    obtain ⟨i1, i2⟩ := not_int (.inl k)
    exact ⟨_, _, _, _, ⟨i1, i2⟩, ⟨name_e h.line, by rw [spell_e h, spell_name]⟩, ⟨letters_e h.line, signs_e h⟩, text_e hs hl h, isin_e h⟩
  | no h k =>
    obtain ⟨n1, n2, n3, n4, n5⟩ := not_str h
    exact ⟨_, _, _, _, not_int k, ⟨n1, n3⟩, ⟨n2, n4⟩, text_no hs hl h, n5 _⟩
theorem repr4 (b1 b2 b3 b4 : Bool) : ∃ t, reprD (.lst [.bl b1, .bl b2, .bl b3, .bl b4]) = Pure.pure (.str t) ∧ PyData.canLay0 (.str t) = true := by
  have all : ∀ b1 b2 b3 b4 : Bool, (((PyData.list [.bool b1, .bool b2, .bool b3, .bool b4]).showable = true ∧ (PyData.list [.bool b1, .bool b2, .bool b3, .bool b4]).hasDict = false ∧ (PyData.list [.bool b1, .bool b2, .bool b3, .bool b4]).depth ≤ 100 ∧
      (PyData.list [.bool b1, .bool b2, .bool b3, .bool b4]).shown.length ≤ sizeLine) ∧ PyData.canLay0 (.str (PyData.list [.bool b1, .bool b2, .bool b3, .bool b4]).shown) = true) := by decide +kernel
  obtain ⟨h1, h2⟩ := all b1 b2 b3 b4
  refine ⟨(PyData.list [.bool b1, .bool b2, .bool b3, .bool b4]).shown, ?_, h2⟩
  show (if _ then Pure.pure (D.str (PyData.list [.bool b1, .bool b2, .bool b3, .bool b4]).shown) else M.no) = _
  exact if_pos h1
theorem ne_same {t : Str} (h : PyData.canLay0 (.str t) = true) : neD (.str t) (.str t) = Pure.pure (.bl false) := by
  show (if SeqAt.shaped (.str t) = true ∧ SeqAt.shaped (.str t) = true then Pure.pure (D.bl (!PyData.eqv (.str t) (.str t))) else M.no) = _
  rw [if_pos ⟨shaped_str h, shaped_str h⟩]
  have e : PyData.eqv (.str t) (.str t) = true := by
    show (t == t) = true
    exact beq_self_eq_true t
  rw [e]
  rfl
theorem vl_others : ∀ d ∈ ([.bl true, .bl false, .non, .lst [], .dic [], .tup [], .tup [.str (Str.ofString "a")], .lst [.str (Str.ofString "a"), .str (Str.ofString "b")], .dic [(.str (Str.ofString "a"), .int 1)], .tup [.int 1]] : List D), Vl d := by
  have go : ∀ (d : D) (n : String), tyN d = some n → isB n "str" = false → (isB n "int" = false ∨ isB n "bool" = true ∧ isB n "int" = true) → Vl d := fun d n h a b => by
    refine .no (by rw [isi_is _ h, a]) ?_
    rcases b with b | ⟨b, c⟩
    · exact .inl (by rw [isi_is _ h, b])
    · exact .inr ⟨by rw [isi_is _ h, b], by rw [isi_is _ h, c]⟩
  intro d hd
  simp only [List.mem_cons, List.not_mem_nil, or_false] at hd
  rcases hd with h | h | h | h | h | h | h | h | h | h <;> subst h
  · exact go _ "bool" rfl (by decide) (.inr (by decide))
  · exact go _ "bool" rfl (by decide) (.inr (by decide))
  · exact go _ "NoneType" rfl (by decide) (.inl (by decide))
  · exact go _ "list" rfl (by decide) (.inl (by decide))
  · exact go _ "dict" rfl (by decide) (.inl (by decide))
  · exact go _ "tuple" rfl (by decide) (.inl (by decide))
  · exact go _ "tuple" rfl (by decide) (.inl (by decide))
  · exact go _ "list" rfl (by decide) (.inl (by decide))
  · exact go _ "dict" rfl (by decide) (.inl (by decide))
  · exact go _ "tuple" rfl (by decide) (.inl (by decide))
theorem dic1 : (dicM [(.inr (Str.ofString "a"), (Pure.pure (.int 1) : M D))] >>= mkDic) = Pure.pure (.dic [(.str (Str.ofString "a"), .int 1)]) := by
  unfold dicM dicM
  simp only [pb]
  exact if_pos (by decide)
theorem min_e (i j : Int) : minD (.int i) (.int j) = Pure.pure (.int (if j < i then j else i)) := Eq.trans rfl rfl
/-- what the law does with a value -/
def vbody (sg : D) (v : D) : M (Fl Unit) := rng1 [.v (.int 2)] >>= fun x => thenR (forF (fun (_ : Unit) _ => g_is_integer [.v v] >>= fun x => g_is_name [.v v] >>= fun y => g_is_letters [.v v] >>= fun z => g_is_text [.v sg, .v v] >>= fun u => mkL [x, y, z, u] >>= fun told =>
    g_l_is_long [.v v] >>= fun x => g_l_spelled [.v v] >>= fun y => g_l_are_signs [.v v] >>= fun z => g_l_is_in [.v sg, .v v] >>= fun u => mkL [x, y, z, u] >>= fun due => reprD told >>= fun x => reprD due >>= fun y => neD x y >>= fun x => boolD x >>= fun x =>
    thenR (if x = true then Pure.pure (Fl.rt (D.bl false)) else Pure.pure (Fl.nx ())) fun _ => Pure.pure (Fl.nx ())) x ()) fun _ => g_l_are_signs [.v v] >>= fun x => boolD x >>= fun x => (if (!x) = true then g_l_refused [.v v] >>= fun x => boolD x >>= fun b => Pure.pure (!b) else Pure.pure false) >>= fun x =>
    thenR (if x = true then Pure.pure (Fl.rt (D.bl false)) else Pure.pure (Fl.nx ())) fun _ => Pure.pure (Fl.nx ())
theorem vbody_e {s : Str} {v : D} (h : Vl v) (hs : Fine s) (hl : lettersB (cl s) = true) : vbody (.str s) v = Pure.pure (.nx ()) := by
  obtain ⟨b1, b2, b3, b4, ⟨i1, i2⟩, ⟨n1, n2⟩, ⟨l1, l2⟩, t1, t2⟩ := four h hs hl
  have l4 : ∀ a b c d : D, mkL [a, b, c, d] = Pure.pure (.lst [a, b, c, d]) := fun a b c d => mkLe (by rw [sizeLine_eq]; simp)
  obtain ⟨t, r1, r2⟩ := repr4 b1 b2 b3 b4
  unfold vbody
  rw [rng_e (show (0 : Int) ≤ 2 ∧ (2 : Int) < 100 by decide), pb]
  rw [for_pure (fun a _ => a) _ _ fun a d _ => ?_]
  · rw [thN, l2, pb, bB, pb]
    cases b3
    · have rf := refused_e l1
      simp only [ntf, ntn, ittr, itT, rf, pb, bB, itfa, itF, thN]
    · simp only [ntn, itfa, itF, pb, thN]
  · simp only [i1, i2, n1, n2, l1, l2, t1, t2, pb, l4, r1, ne_same r2, bB, itfa, itF, thN]
theorem filt_strs (p : Str → Bool) (ws : List Str) : ((ws.map D.str).filter fun d => match d with | .str w => p w | _ => false) = (ws.filter p).map D.str := by
  rw [List.filter_map]
  rfl
theorem math (ns : List Int) (h1 : ns.length ≤ 63) (h2 : ∀ z ∈ ns, Builtin.Int.intBits z ≤ 1048576) : g_law [.v (.scr ns)] none = .ok (.bl true) none := by
  suffices h : wp (m_law (.scr ns)) none fun d P => d = .bl true ∧ P = none by
    obtain ⟨d, P, e, rfl, rfl⟩ := h
    exact e
  unfold m_law
  simp only [pb, asc, v0, v1, f1e, f2e, len_scr, min_e, max_e, thB, thN]
  generalize hN : (if (if ((ns.length : Nat) : Int) < 8 then ((ns.length : Nat) : Int) else 8) > 1 then (if ((ns.length : Nat) : Int) < 8 then ((ns.length : Nat) : Int) else 8) else 1) = N
  have N0 : 1 ≤ N ∧ N ≤ 8 := by rw [← hN]; split <;> split <;> omega
  rw [rng_e ⟨by omega, by omega⟩, pb]
  refine wp_bind (wp_then (wp_mono (wp_for (fun _ _ P => P = none) (rngs 0 N).length (rngs 0 N) 0 () none (by omega) rfl fun i a P hi d hd hI => ?_) fun f P' ⟨a', e, q⟩ => ⟨a', e, ?_⟩))
  · subst hI
    obtain ⟨j, hj, rfl⟩ := List.mem_map.mp hd
    have hj2 : (0 : Int) ≤ 0 + (j : Nat) ∧ (0 : Int) + (j : Nat) < 8 := by
      have := List.mem_range.mp hj
      omega
    generalize hat : (0 : Int) + (j : Nat) = at' at hj2
    obtain ⟨pa, px, pe, ha, hx⟩ := pot_e (ns := ns) hj2.1 (by omega)
    rw [pe, pb]
    refine wp_withPot ?_
    have p0 : PO 0 (some [.int pa, .int px, .int 0]) := ⟨pa, px, 0, rfl, ha, hx, Int.le_refl _, Int.le_refl _⟩
    obtain ⟨c, ce⟩ := cell_e (β := Fl Unit) (ns := ns) hj2.1 7
    rw [ce]
    refine wp_bind (wp_mono (strings_w p0 (by decide)) fun d P1 ⟨ws, e, hl, hf, hm, p1⟩ => ?_)
    subst e
    refine wp_bind (wp_mono (numbers_w p1 (by decide)) fun d P2 ⟨⟨is, e, il⟩, p2⟩ => ?_)
    subst e
    have t0 : mkT [] = Pure.pure (.tup []) := mkTe (Nat.zero_le _)
    have t1 : ∀ a : D, mkT [a] = Pure.pure (.tup [a]) := fun a => mkTe (by rw [sizeLine_eq]; simp)
    have l0 : mkL [] = Pure.pure (.lst []) := mkLe (Nat.zero_le _)
    have l2 : ∀ a b : D, mkL [a, b] = Pure.pure (.lst [a, b]) := fun a b => mkLe (by rw [sizeLine_eq]; simp)
    have l10 : ∀ a b c d e f g h i j : D, mkL [a, b, c, d, e, f, g, h, i, j] = Pure.pure (.lst [a, b, c, d, e, f, g, h, i, j]) := fun a b c d e f g h i j => mkLe (by rw [sizeLine_eq]; simp)
    have dc : ∀ k : D → M (Fl Unit), (dicM [(.inr (Str.ofString "a"), (Pure.pure (.int 1) : M D))] >>= fun x => mkDic x >>= k) = k (.dic [(.str (Str.ofString "a"), .int 1)]) := fun k => by
      rw [← asc, dic1, pb]
    have itw : iterA (.lst (ws.map .str)) = Pure.pure (ws.map .str) := Eq.trans rfl rfl
    rw [add_ll (by rw [List.length_map, List.length_map, il, hl, sizeLine_eq]; decide)]
    simp only [pb, t0, t1, l0, l2]
    rw [dc]
    simp only [pb, t1, l10]
    rw [add_ll (by rw [List.length_append, List.length_map, List.length_map, il, hl, sizeLine_eq]; decide)]
    simp only [pb, itw]
    generalize hv : List.map D.int is ++ List.map D.str ws ++ [D.bl true, D.bl false, D.non, D.lst [], D.dic [], D.tup [], D.tup [D.str (Str.ofString "a")], D.lst [D.str (Str.ofString "a"), D.str (Str.ofString "b")], D.dic [(D.str (Str.ofString "a"), D.int 1)], D.tup [D.int 1]] = vs
    have vl : ∀ v ∈ vs, Vl v := fun v hm => by
      rw [← hv] at hm
      rcases List.mem_append.mp hm with hm | hm
      · rcases List.mem_append.mp hm with hm | hm
        · obtain ⟨z, _, rfl⟩ := List.mem_map.mp hm
          exact .int z
        · obtain ⟨z, hz, rfl⟩ := List.mem_map.mp hm
          exact .str z (hf z hz)
      · exact vl_others v hm
    have cp : compF (fun d => g_l_are_signs [.v d] >>= boolD) (fun d => Pure.pure d) (ws.map .str) = Pure.pure ((ws.filter fun w => lettersB (cl w)).map .str) := by
      rw [comp_pure (fun d => match d with | .str w => lettersB (cl w) | _ => false) (fun d => d) _ (fun d hd => ?_) fun d _ _ => rfl]
      · rw [filt_strs, List.map_id'']
        exact fun _ => rfl
      · obtain ⟨w, hw, rfl⟩ := List.mem_map.mp hd
        rw [signs_e (hf w hw), pb, bB]
    rw [cp, noE]
    simp only [pb]
    have fl : (ws.filter fun w => lettersB (cl w)).length ≤ 25 := Nat.le_trans (List.length_filter_le _ _) (by omega)
    have abcd : Str.ofString "abcd" ∈ ws.filter fun w => lettersB (cl w) := List.mem_filter.mpr ⟨hm, by decide +kernel⟩
    rw [mkLe (by rw [List.length_map, sizeLine_eq]; omega)]
    simp only [pb]
    refine wp_bind (wp_mono (pick_w p2 (by decide) (by rw [List.length_map]; exact List.length_pos_of_mem abcd) (by rw [List.length_map]; omega)) fun sg P3 ⟨hsg, p3⟩ => ?_)
    obtain ⟨s, hs, rfl⟩ := List.mem_map.mp hsg
    obtain ⟨hs1, hs2⟩ := List.mem_filter.mp hs
    have itv : iterA (.lst vs) = Pure.pure vs := Eq.trans rfl rfl
    rw [itv, pb]
    refine wp_eq (m' := Pure.pure (.nx ())) ?_ (wp_pure ⟨?_, (), rfl, True.intro⟩)
    · show thenR (forF (fun (_ : Unit) v => vbody (.str s) v) vs ()) (fun _ => Pure.pure (.nx ())) = _
      rw [for_pure (fun a _ => a) _ _ fun a d hd => vbody_e (vl d hd) (hf s hs1) hs2, thN]
    · obtain ⟨_, _, _, e, _⟩ := p3
      rw [e]
      exact fun z => nomatch z
  · subst q
    have l2 : ∀ a b : D, mkL [a, b] = Pure.pure (.lst [a, b]) := fun a b => mkLe (by rw [sizeLine_eq]; simp)
    have e2 : eqD (.lst [.int 8, .int 200]) (.lst [.int 8, .int 200]) = Pure.pure (.bl true) := by
      show (if SeqAt.shaped (.list [.int 8, .int 200]) = true ∧ SeqAt.shaped (.list [.int 8, .int 200]) = true then Pure.pure (D.bl (PyData.eqv (.list [.int 8, .int 200]) (.list [.int 8, .int 200]))) else M.no) = _
      exact if_pos ⟨by decide +kernel, by decide +kernel⟩
    simp only [l2, pb, e2]
    exact wp_pure (by rw [dR]; exact wp_pure ⟨rfl, rfl⟩)
end KX

namespace KX
open PySem PySem.Spec PyProof.Rows L2 DL
noncomputable section
theorem all_mk {K : PySem.W.Frag} {w : World} {h : Heap} {mg : Str → Option Value} {fa : Addr} (X : K.In h) (G : h.Ns mainGlobals mg) (hfa : mg "law" = some (.ref fa))
    {f0 f1 f2 f3 f4 f5 f6 f7 f8 f9 f10 f11 f12 f13 f14 f15 f16 f17 f18 C0 : Addr} {od0 an0 od1 an1 od2 an2 od3 an3 od4 an4 od5 an5 od6 an6 od7 an7 od8 an8 od9 an9 od10 an10 od11 an11 od12 an12 od13 an13 od14 an14 od15 an15 od16 an16 od17 an17 od18 an18 : Option Addr} {sl0 sl1 sl2 sl3 sl4 sl5 sl6 sl7 sl8 sl9 sl10 sl11 sl12 sl13 sl14 sl15 sl16 sl17 sl18 : Array (Option Value)} {oc0 kV0 dc0 pm0 cd0 ct0 oc1 kV1 dc1 pm1 cd1 ct1 oc2 kV2 dc2 pm2 cd2 ct2 oc3 kV3 dc3 pm3 cd3 ct3 oc4 kV4 dc4 pm4 cd4 ct4 oc5 kV5 dc5 pm5 cd5 ct5 oc6 kV6 dc6 pm6 cd6 ct6 oc7 kV7 dc7 pm7 cd7 ct7 oc8 kV8 dc8 pm8 cd8 ct8 oc9 kV9 dc9 pm9 cd9 ct9 oc10 kV10 dc10 pm10 cd10 ct10 oc11 kV11 dc11 pm11 cd11 ct11 oc12 kV12 dc12 pm12 cd12 ct12 oc13 kV13 dc13 pm13 cd13 ct13 oc14 kV14 dc14 pm14 cd14 ct14 oc15 kV15 dc15 pm15 cd15 ct15 oc16 kV16 dc16 pm16 cd16 ct16 oc17 kV17 dc17 pm17 cd17 ct17 oc18 kV18 dc18 pm18 cd18 ct18 : Value} {tk_MAX_DIGITS tk_MAX_LETTERS tk_MAX_ALPHABET : Tok}
    (a0 : PySem.W.nsIn K mainGlobals "is_integer" = some (some (.ref f0)))
    (l0 : K.lookup f0 = some ⟨oc0, od0, .func (PySem.W.fnOf "is_integer" "is_integer" (defArgs s_is_integer) (defBody s_is_integer) (defScope s_is_integer) .none kV0 dc0 pm0 an0 cd0 ct0), sl0⟩)
    (c0 : PySem.W.codeIn K cd0 "is_integer" = true)
    (k0 : PySem.W.keepIn K (.ref f0) = true)
    (a1 : PySem.W.nsIn K mainGlobals "is_plain" = some (some (.ref f1)))
    (l1 : K.lookup f1 = some ⟨oc1, od1, .func (PySem.W.fnOf "is_plain" "is_plain" (defArgs s_is_plain) (defBody s_is_plain) (defScope s_is_plain) .none kV1 dc1 pm1 an1 cd1 ct1), sl1⟩)
    (c1 : PySem.W.codeIn K cd1 "is_plain" = true)
    (k1 : PySem.W.keepIn K (.ref f1) = true)
    (a2 : PySem.W.nsIn K mainGlobals "is_name" = some (some (.ref f2)))
    (l2 : K.lookup f2 = some ⟨oc2, od2, .func (PySem.W.fnOf "is_name" "is_name" (defArgs s_is_name) (defBody s_is_name) (defScope s_is_name) .none kV2 dc2 pm2 an2 cd2 ct2), sl2⟩)
    (c2 : PySem.W.codeIn K cd2 "is_name" = true)
    (k2 : PySem.W.keepIn K (.ref f2) = true)
    (a3 : PySem.W.nsIn K mainGlobals "is_ascending" = some (some (.ref f3)))
    (l3 : K.lookup f3 = some ⟨oc3, od3, .func (PySem.W.fnOf "is_ascending" "is_ascending" (defArgs s_is_ascending) (defBody s_is_ascending) (defScope s_is_ascending) .none kV3 dc3 pm3 an3 cd3 ct3), sl3⟩)
    (c3 : PySem.W.codeIn K cd3 "is_ascending" = true)
    (k3 : PySem.W.keepIn K (.ref f3) = true)
    (a4 : PySem.W.nsIn K mainGlobals "is_letters" = some (some (.ref f4)))
    (l4 : K.lookup f4 = some ⟨oc4, od4, .func (PySem.W.fnOf "is_letters" "is_letters" (defArgs s_is_letters) (defBody s_is_letters) (defScope s_is_letters) .none kV4 dc4 pm4 an4 cd4 ct4), sl4⟩)
    (c4 : PySem.W.codeIn K cd4 "is_letters" = true)
    (k4 : PySem.W.keepIn K (.ref f4) = true)
    (a5 : PySem.W.nsIn K mainGlobals "check_letters" = some (some (.ref f5)))
    (l5 : K.lookup f5 = some ⟨oc5, od5, .func (PySem.W.fnOf "check_letters" "check_letters" (defArgs s_check_letters) (defBody s_check_letters) (defScope s_check_letters) .none kV5 dc5 pm5 an5 cd5 ct5), sl5⟩)
    (c5 : PySem.W.codeIn K cd5 "check_letters" = true)
    (k5 : PySem.W.keepIn K (.ref f5) = true)
    (a6 : PySem.W.nsIn K mainGlobals "is_text" = some (some (.ref f6)))
    (l6 : K.lookup f6 = some ⟨oc6, od6, .func (PySem.W.fnOf "is_text" "is_text" (defArgs s_is_text) (defBody s_is_text) (defScope s_is_text) .none kV6 dc6 pm6 an6 cd6 ct6), sl6⟩)
    (c6 : PySem.W.codeIn K cd6 "is_text" = true)
    (k6 : PySem.W.keepIn K (.ref f6) = true)
    (a7 : PySem.W.nsIn K mainGlobals "_law_pot" = some (some (.ref f7)))
    (l7 : K.lookup f7 = some ⟨oc7, od7, .func (PySem.W.fnOf "_law_pot" "_law_pot" (defArgs s_l_pot) (defBody s_l_pot) (defScope s_l_pot) .none kV7 dc7 pm7 an7 cd7 ct7), sl7⟩)
    (c7 : PySem.W.codeIn K cd7 "_law_pot" = true)
    (k7 : PySem.W.keepIn K (.ref f7) = true)
    (a8 : PySem.W.nsIn K mainGlobals "_law_bit" = some (some (.ref f8)))
    (l8 : K.lookup f8 = some ⟨oc8, od8, .func (PySem.W.fnOf "_law_bit" "_law_bit" (defArgs s_l_bit) (defBody s_l_bit) (defScope s_l_bit) .none kV8 dc8 pm8 an8 cd8 ct8), sl8⟩)
    (c8 : PySem.W.codeIn K cd8 "_law_bit" = true)
    (k8 : PySem.W.keepIn K (.ref f8) = true)
    (a9 : PySem.W.nsIn K mainGlobals "_law_pick" = some (some (.ref f9)))
    (l9 : K.lookup f9 = some ⟨oc9, od9, .func (PySem.W.fnOf "_law_pick" "_law_pick" (defArgs s_l_pick) (defBody s_l_pick) (defScope s_l_pick) .none kV9 dc9 pm9 an9 cd9 ct9), sl9⟩)
    (c9 : PySem.W.codeIn K cd9 "_law_pick" = true)
    (k9 : PySem.W.keepIn K (.ref f9) = true)
    (a10 : PySem.W.nsIn K mainGlobals "_law_letter" = some (some (.ref f10)))
    (l10 : K.lookup f10 = some ⟨oc10, od10, .func (PySem.W.fnOf "_law_letter" "_law_letter" (defArgs s_l_letter) (defBody s_l_letter) (defScope s_l_letter) .none kV10 dc10 pm10 an10 cd10 ct10), sl10⟩)
    (c10 : PySem.W.codeIn K cd10 "_law_letter" = true)
    (k10 : PySem.W.keepIn K (.ref f10) = true)
    (a11 : PySem.W.nsIn K mainGlobals "_law_spelled" = some (some (.ref f11)))
    (l11 : K.lookup f11 = some ⟨oc11, od11, .func (PySem.W.fnOf "_law_spelled" "_law_spelled" (defArgs s_l_spelled) (defBody s_l_spelled) (defScope s_l_spelled) .none kV11 dc11 pm11 an11 cd11 ct11), sl11⟩)
    (c11 : PySem.W.codeIn K cd11 "_law_spelled" = true)
    (k11 : PySem.W.keepIn K (.ref f11) = true)
    (a12 : PySem.W.nsIn K mainGlobals "_law_is_long" = some (some (.ref f12)))
    (l12 : K.lookup f12 = some ⟨oc12, od12, .func (PySem.W.fnOf "_law_is_long" "_law_is_long" (defArgs s_l_is_long) (defBody s_l_is_long) (defScope s_l_is_long) .none kV12 dc12 pm12 an12 cd12 ct12), sl12⟩)
    (c12 : PySem.W.codeIn K cd12 "_law_is_long" = true)
    (k12 : PySem.W.keepIn K (.ref f12) = true)
    (a13 : PySem.W.nsIn K mainGlobals "_law_are_signs" = some (some (.ref f13)))
    (l13 : K.lookup f13 = some ⟨oc13, od13, .func (PySem.W.fnOf "_law_are_signs" "_law_are_signs" (defArgs s_l_are_signs) (defBody s_l_are_signs) (defScope s_l_are_signs) .none kV13 dc13 pm13 an13 cd13 ct13), sl13⟩)
    (c13 : PySem.W.codeIn K cd13 "_law_are_signs" = true)
    (k13 : PySem.W.keepIn K (.ref f13) = true)
    (a14 : PySem.W.nsIn K mainGlobals "_law_is_in" = some (some (.ref f14)))
    (l14 : K.lookup f14 = some ⟨oc14, od14, .func (PySem.W.fnOf "_law_is_in" "_law_is_in" (defArgs s_l_is_in) (defBody s_l_is_in) (defScope s_l_is_in) .none kV14 dc14 pm14 an14 cd14 ct14), sl14⟩)
    (c14 : PySem.W.codeIn K cd14 "_law_is_in" = true)
    (k14 : PySem.W.keepIn K (.ref f14) = true)
    (a15 : PySem.W.nsIn K mainGlobals "_law_numbers" = some (some (.ref f15)))
    (l15 : K.lookup f15 = some ⟨oc15, od15, .func (PySem.W.fnOf "_law_numbers" "_law_numbers" (defArgs s_l_numbers) (defBody s_l_numbers) (defScope s_l_numbers) .none kV15 dc15 pm15 an15 cd15 ct15), sl15⟩)
    (c15 : PySem.W.codeIn K cd15 "_law_numbers" = true)
    (k15 : PySem.W.keepIn K (.ref f15) = true)
    (a16 : PySem.W.nsIn K mainGlobals "_law_strings" = some (some (.ref f16)))
    (l16 : K.lookup f16 = some ⟨oc16, od16, .func (PySem.W.fnOf "_law_strings" "_law_strings" (defArgs s_l_strings) (defBody s_l_strings) (defScope s_l_strings) .none kV16 dc16 pm16 an16 cd16 ct16), sl16⟩)
    (c16 : PySem.W.codeIn K cd16 "_law_strings" = true)
    (k16 : PySem.W.keepIn K (.ref f16) = true)
    (a17 : PySem.W.nsIn K mainGlobals "_law_refused" = some (some (.ref f17)))
    (l17 : K.lookup f17 = some ⟨oc17, od17, .func (PySem.W.fnOf "_law_refused" "_law_refused" (defArgs s_l_refused) (defBody s_l_refused) (defScope s_l_refused) .none kV17 dc17 pm17 an17 cd17 ct17), sl17⟩)
    (c17 : PySem.W.codeIn K cd17 "_law_refused" = true)
    (k17 : PySem.W.keepIn K (.ref f17) = true)
    (a18 : PySem.W.nsIn K mainGlobals "law" = some (some (.ref f18)))
    (l18 : K.lookup f18 = some ⟨oc18, od18, .func (PySem.W.fnOf "law" "law" (defArgs s_law) (defBody s_law) (defScope s_law) .none kV18 dc18 pm18 an18 cd18 ct18), sl18⟩)
    (c18 : PySem.W.codeIn K cd18 "law" = true)
    (k18 : PySem.W.keepIn K (.ref f18) = true)
    (z_abs : PySem.W.nsIn K mainGlobals "abs" = some (none))
    (z_all : PySem.W.nsIn K mainGlobals "all" = some (none))
    (z_bool : PySem.W.nsIn K mainGlobals "bool" = some (none))
    (z_int : PySem.W.nsIn K mainGlobals "int" = some (none))
    (z_isinstance : PySem.W.nsIn K mainGlobals "isinstance" = some (none))
    (z_len : PySem.W.nsIn K mainGlobals "len" = some (none))
    (z_max : PySem.W.nsIn K mainGlobals "max" = some (none))
    (z_min : PySem.W.nsIn K mainGlobals "min" = some (none))
    (z_range : PySem.W.nsIn K mainGlobals "range" = some (none))
    (z_repr : PySem.W.nsIn K mainGlobals "repr" = some (none))
    (z_set : PySem.W.nsIn K mainGlobals "set" = some (none))
    (z_sorted : PySem.W.nsIn K mainGlobals "sorted" = some (none))
    (z_str : PySem.W.nsIn K mainGlobals "str" = some (none))
    (z_zip : PySem.W.nsIn K mainGlobals "zip" = some (none))
    (v_MAX_DIGITS : PySem.W.nsIn K mainGlobals "MAX_DIGITS" = some (some (.int 200 tk_MAX_DIGITS)))
    (v_MAX_LETTERS : PySem.W.nsIn K mainGlobals "MAX_LETTERS" = some (some (.int 8 tk_MAX_LETTERS)))
    (v_MAX_ALPHABET : PySem.W.nsIn K mainGlobals "_MAX_ALPHABET" = some (some (.int 4 tk_MAX_ALPHABET)))
    (xa0 : PySem.W.nsIn K mainGlobals "InvalidLetters" = some (some (.ref C0)))
    (xs0 : PySem.W.subIn K (.ref C0) (.type "BaseException") = some true)
    (xt0 : PySem.W.typeIn K (.ref C0) = some (.type "type"))
    (xh0 : PySem.W.hasDictIn K C0 = true)
    (xq0 : PySem.W.excIn K C0 [.type "ValueError", .type "Exception", .type "BaseException", .type "object"] "ValueError.__new__" = true)
    (xk0 : PySem.W.keepIn K (.ref C0) = true)
    (xe0_0 : PySem.W.subIn K (.ref C0) (.ref C0) = some true) :
    ∃ fd : FuncData, (∀ (s : Shared) (v : Value), BindsTo s fd ⟨[v], []⟩ [("_law_script", v)]) ∧ ∀ base : Heap, K.In base → base.Ns mainGlobals mg → FnG PySem.Challenge.pw_loneguess_k00_integers_names_letters_and w K mg base 6 fa fd ["_law_script"] (spD ⟨mg, K, []⟩ g_law) := by
  have e := hfa.symm.trans (PySem.W.mg_of X G a18)
  cases e
  have x_InvalidLetters : Exc0 K mg "InvalidLetters" := ⟨_, _, _, _, _, F.excBase_ValueError, xq0, PySem.W.mg_of X G xa0, xk0, xs0, xt0⟩
  have e_InvalidLetters : Hand0 K mg "InvalidLetters" is_InvalidLetters := by
    refine ⟨.ref C0, PySem.W.mg_of X G xa0, ⟨fun cn b hb => ?_⟩⟩
    unfold is_InvalidLetters at hb
    split at hb
    · rename_i hn; cases hb; subst hn; exact hd_one (x := "InvalidLetters") (PySem.W.mg_of X G xa0) (PySem.W.exm_ref xs0 xh0 xt0 xe0_0)
    cases hb
  have F_is_integer := fun_mk (st := s_is_integer) l0 c0 k0
  have B_is_integer := F_is_integer.binds (ps := ["value"]) fun _ _ _ _ _ _ us hl => match us, hl with | [_], _ => rfl
  have D_is_integer : ∀ base, Cal PySem.Challenge.pw_loneguess_k00_integers_names_letters_and w K mg base 1 "is_integer" (spD ⟨mg, K, []⟩ g_is_integer) := fun base => ⟨_, _, _, ok_is_integer F_is_integer (PySem.W.mg_none_of X G z_abs) (PySem.W.mg_none_of X G z_bool) (PySem.W.mg_none_of X G z_int) (PySem.W.mg_none_of X G z_isinstance) (PySem.W.mg_none_of X G z_len) (PySem.W.mg_none_of X G z_str) ⟨_, PySem.W.mg_of X G v_MAX_DIGITS⟩, PySem.W.mg_of X G a0, k0, B_is_integer⟩
  have F_is_plain := fun_mk (st := s_is_plain) l1 c1 k1
  have B_is_plain := F_is_plain.binds (ps := ["text"]) fun _ _ _ _ _ _ us hl => match us, hl with | [_], _ => rfl
  have D_is_plain : ∀ base, Cal PySem.Challenge.pw_loneguess_k00_integers_names_letters_and w K mg base 1 "is_plain" (spD ⟨mg, K, []⟩ g_is_plain) := fun base => ⟨_, _, _, ok_is_plain F_is_plain (PySem.W.mg_none_of X G z_all), PySem.W.mg_of X G a1, k1, B_is_plain⟩
  have F_is_name := fun_mk (st := s_is_name) l2 c2 k2
  have B_is_name := F_is_name.binds (ps := ["value"]) fun _ _ _ _ _ _ us hl => match us, hl with | [_], _ => rfl
  have D_is_name : ∀ base, Cal PySem.Challenge.pw_loneguess_k00_integers_names_letters_and w K mg base 2 "is_name" (spD ⟨mg, K, []⟩ g_is_name) := fun base => ⟨_, _, _, ok_is_name F_is_name (PySem.W.mg_none_of X G z_isinstance) (PySem.W.mg_none_of X G z_len) (PySem.W.mg_none_of X G z_str) ⟨_, PySem.W.mg_of X G v_MAX_LETTERS⟩ (D_is_plain base), PySem.W.mg_of X G a2, k2, B_is_name⟩
  have F_is_ascending := fun_mk (st := s_is_ascending) l3 c3 k3
  have B_is_ascending := F_is_ascending.binds (ps := ["values"]) fun _ _ _ _ _ _ us hl => match us, hl with | [_], _ => rfl
  have D_is_ascending : ∀ base, Cal PySem.Challenge.pw_loneguess_k00_integers_names_letters_and w K mg base 1 "is_ascending" (spD ⟨mg, K, []⟩ g_is_ascending) := fun base => ⟨_, _, _, ok_is_ascending F_is_ascending (PySem.W.mg_none_of X G z_all) (PySem.W.mg_none_of X G z_zip), PySem.W.mg_of X G a3, k3, B_is_ascending⟩
  have F_is_letters := fun_mk (st := s_is_letters) l4 c4 k4
  have B_is_letters := F_is_letters.binds (ps := ["value"]) fun _ _ _ _ _ _ us hl => match us, hl with | [_], _ => rfl
  have D_is_letters : ∀ base, Cal PySem.Challenge.pw_loneguess_k00_integers_names_letters_and w K mg base 2 "is_letters" (spD ⟨mg, K, []⟩ g_is_letters) := fun base => ⟨_, _, _, ok_is_letters F_is_letters (PySem.W.mg_none_of X G z_isinstance) (PySem.W.mg_none_of X G z_len) (PySem.W.mg_none_of X G z_str) ⟨_, PySem.W.mg_of X G v_MAX_ALPHABET⟩ (D_is_ascending base) (D_is_plain base), PySem.W.mg_of X G a4, k4, B_is_letters⟩
  have F_check_letters := fun_mk (st := s_check_letters) l5 c5 k5
  have B_check_letters := F_check_letters.binds (ps := ["value"]) fun _ _ _ _ _ _ us hl => match us, hl with | [_], _ => rfl
  have D_check_letters : ∀ base, Cal PySem.Challenge.pw_loneguess_k00_integers_names_letters_and w K mg base 3 "check_letters" (spD ⟨mg, K, []⟩ g_check_letters) := fun base => ⟨_, _, _, ok_check_letters F_check_letters (D_is_letters base) x_InvalidLetters, PySem.W.mg_of X G a5, k5, B_check_letters⟩
  have F_is_text := fun_mk (st := s_is_text) l6 c6 k6
  have B_is_text := F_is_text.binds (ps := ["letters", "value"]) fun _ _ _ _ _ _ us hl => match us, hl with | [_, _], _ => rfl
  have D_is_text : ∀ base, Cal PySem.Challenge.pw_loneguess_k00_integers_names_letters_and w K mg base 4 "is_text" (spD ⟨mg, K, []⟩ g_is_text) := fun base => ⟨_, _, _, ok_is_text F_is_text (PySem.W.mg_none_of X G z_all) (PySem.W.mg_none_of X G z_isinstance) (PySem.W.mg_none_of X G z_str) (D_check_letters base), PySem.W.mg_of X G a6, k6, B_is_text⟩
  have F_l_pot := fun_mk (st := s_l_pot) l7 c7 k7
  have B_l_pot := F_l_pot.binds (ps := ["_law_script", "_law_at"]) fun _ _ _ _ _ _ us hl => match us, hl with | [_, _], _ => rfl
  have D_l_pot : ∀ base, Cal PySem.Challenge.pw_loneguess_k00_integers_names_letters_and w K mg base 1 "_law_pot" (spF ⟨mg, K, []⟩ g_l_pot) := fun base => ⟨_, _, _, ok_l_pot F_l_pot (PySem.W.mg_none_of X G z_abs) (PySem.W.mg_none_of X G z_int) (PySem.W.mg_none_of X G z_len) (PySem.W.mg_none_of X G z_max), PySem.W.mg_of X G a7, k7, B_l_pot⟩
  have F_l_bit := fun_mk (st := s_l_bit) l8 c8 k8
  have B_l_bit := F_l_bit.binds (ps := ["_law_pot_here", "_law_much"]) fun _ _ _ _ _ _ us hl => match us, hl with | [_, _], _ => rfl
  have D_l_bit : ∀ base, Cal PySem.Challenge.pw_loneguess_k00_integers_names_letters_and w K mg base 1 "_law_bit" (spD ⟨mg, K, []⟩ g_l_bit) := fun base => ⟨_, _, _, ok_l_bit F_l_bit (PySem.W.mg_none_of X G z_int), PySem.W.mg_of X G a8, k8, B_l_bit⟩
  have F_l_pick := fun_mk (st := s_l_pick) l9 c9 k9
  have B_l_pick := F_l_pick.binds (ps := ["_law_pot_here", "_law_items"]) fun _ _ _ _ _ _ us hl => match us, hl with | [_, _], _ => rfl
  have D_l_pick : ∀ base, Cal PySem.Challenge.pw_loneguess_k00_integers_names_letters_and w K mg base 2 "_law_pick" (spD ⟨mg, K, []⟩ g_l_pick) := fun base => ⟨_, _, _, ok_l_pick F_l_pick (PySem.W.mg_none_of X G z_len) (D_l_bit base), PySem.W.mg_of X G a9, k9, B_l_pick⟩
  have F_l_letter := fun_mk (st := s_l_letter) l10 c10 k10
  have B_l_letter := F_l_letter.binds (ps := ["_law_pot_here"]) fun _ _ _ _ _ _ us hl => match us, hl with | [_], _ => rfl
  have D_l_letter : ∀ base, Cal PySem.Challenge.pw_loneguess_k00_integers_names_letters_and w K mg base 2 "_law_letter" (spD ⟨mg, K, []⟩ g_l_letter) := fun base => ⟨_, _, _, ok_l_letter F_l_letter (D_l_bit base), PySem.W.mg_of X G a10, k10, B_l_letter⟩
  have F_l_spelled := fun_mk (st := s_l_spelled) l11 c11 k11
  have B_l_spelled := F_l_spelled.binds (ps := ["_law_value"]) fun _ _ _ _ _ _ us hl => match us, hl with | [_], _ => rfl
  have D_l_spelled : ∀ base, Cal PySem.Challenge.pw_loneguess_k00_integers_names_letters_and w K mg base 1 "_law_spelled" (spD ⟨mg, K, []⟩ g_l_spelled) := fun base => ⟨_, _, _, ok_l_spelled F_l_spelled (PySem.W.mg_none_of X G z_isinstance) (PySem.W.mg_none_of X G z_len) (PySem.W.mg_none_of X G z_str), PySem.W.mg_of X G a11, k11, B_l_spelled⟩
  have F_l_is_long := fun_mk (st := s_l_is_long) l12 c12 k12
  have B_l_is_long := F_l_is_long.binds (ps := ["_law_value"]) fun _ _ _ _ _ _ us hl => match us, hl with | [_], _ => rfl
  have D_l_is_long : ∀ base, Cal PySem.Challenge.pw_loneguess_k00_integers_names_letters_and w K mg base 1 "_law_is_long" (spD ⟨mg, K, []⟩ g_l_is_long) := fun base => ⟨_, _, _, ok_l_is_long F_l_is_long (PySem.W.mg_none_of X G z_abs) (PySem.W.mg_none_of X G z_bool) (PySem.W.mg_none_of X G z_int) (PySem.W.mg_none_of X G z_isinstance), PySem.W.mg_of X G a12, k12, B_l_is_long⟩
  have F_l_are_signs := fun_mk (st := s_l_are_signs) l13 c13 k13
  have B_l_are_signs := F_l_are_signs.binds (ps := ["_law_value"]) fun _ _ _ _ _ _ us hl => match us, hl with | [_], _ => rfl
  have D_l_are_signs : ∀ base, Cal PySem.Challenge.pw_loneguess_k00_integers_names_letters_and w K mg base 2 "_law_are_signs" (spD ⟨mg, K, []⟩ g_l_are_signs) := fun base => ⟨_, _, _, ok_l_are_signs F_l_are_signs (PySem.W.mg_none_of X G z_isinstance) (PySem.W.mg_none_of X G z_len) (PySem.W.mg_none_of X G z_set) (PySem.W.mg_none_of X G z_sorted) (PySem.W.mg_none_of X G z_str) (D_l_spelled base), PySem.W.mg_of X G a13, k13, B_l_are_signs⟩
  have F_l_is_in := fun_mk (st := s_l_is_in) l14 c14 k14
  have B_l_is_in := F_l_is_in.binds (ps := ["_law_signs", "_law_value"]) fun _ _ _ _ _ _ us hl => match us, hl with | [_, _], _ => rfl
  have D_l_is_in : ∀ base, Cal PySem.Challenge.pw_loneguess_k00_integers_names_letters_and w K mg base 1 "_law_is_in" (spD ⟨mg, K, []⟩ g_l_is_in) := fun base => ⟨_, _, _, ok_l_is_in F_l_is_in (PySem.W.mg_none_of X G z_isinstance) (PySem.W.mg_none_of X G z_str), PySem.W.mg_of X G a14, k14, B_l_is_in⟩
  have F_l_numbers := fun_mk (st := s_l_numbers) l15 c15 k15
  have B_l_numbers := F_l_numbers.binds (ps := ["_law_pot_here", "_law_cell"]) fun _ _ _ _ _ _ us hl => match us, hl with | [_, _], _ => rfl
  have D_l_numbers : ∀ base, Cal PySem.Challenge.pw_loneguess_k00_integers_names_letters_and w K mg base 2 "_law_numbers" (spD ⟨mg, K, []⟩ g_l_numbers) := fun base => ⟨_, _, _, ok_l_numbers F_l_numbers (PySem.W.mg_none_of X G z_int) (D_l_bit base), PySem.W.mg_of X G a15, k15, B_l_numbers⟩
  have F_l_strings := fun_mk (st := s_l_strings) l16 c16 k16
  have B_l_strings := F_l_strings.binds (ps := ["_law_pot_here"]) fun _ _ _ _ _ _ us hl => match us, hl with | [_], _ => rfl
  have D_l_strings : ∀ base, Cal PySem.Challenge.pw_loneguess_k00_integers_names_letters_and w K mg base 3 "_law_strings" (spD ⟨mg, K, []⟩ g_l_strings) := fun base => ⟨_, _, _, ok_l_strings F_l_strings (PySem.W.mg_none_of X G z_len) (PySem.W.mg_none_of X G z_range) (PySem.W.mg_none_of X G z_set) (PySem.W.mg_none_of X G z_sorted) (D_l_bit base) (D_l_letter base) (D_l_pick base), PySem.W.mg_of X G a16, k16, B_l_strings⟩
  have F_l_refused := fun_mk (st := s_l_refused) l17 c17 k17
  have B_l_refused := F_l_refused.binds (ps := ["_law_signs"]) fun _ _ _ _ _ _ us hl => match us, hl with | [_], _ => rfl
  have D_l_refused : ∀ base, Cal PySem.Challenge.pw_loneguess_k00_integers_names_letters_and w K mg base 5 "_law_refused" (spD ⟨mg, K, []⟩ g_l_refused) := fun base => ⟨_, _, _, ok_l_refused F_l_refused (D_is_text base) e_InvalidLetters, PySem.W.mg_of X G a17, k17, B_l_refused⟩
  have F_law := fun_mk (st := s_law) l18 c18 k18
  have B_law := F_law.binds (ps := ["_law_script"]) fun _ _ _ _ _ _ us hl => match us, hl with | [_], _ => rfl
  exact ⟨_, fun s v => .of_eq rfl, fun base _ _ => ok_law F_law (PySem.W.mg_none_of X G z_len) (PySem.W.mg_none_of X G z_max) (PySem.W.mg_none_of X G z_min) (PySem.W.mg_none_of X G z_range) (PySem.W.mg_none_of X G z_repr) ⟨_, PySem.W.mg_of X G v_MAX_DIGITS⟩ ⟨_, PySem.W.mg_of X G v_MAX_LETTERS⟩ (D_l_are_signs base) (D_l_is_in base) (D_l_is_long base) (D_l_numbers base) (D_l_pick base) (D_l_pot base) (D_l_refused base) (D_l_spelled base) (D_l_strings base) (D_is_integer base) (D_is_letters base) (D_is_name base) (D_is_text base)⟩
end
end KX
open PySem PySem.W PyProof.Rows in
set_option maxRecDepth 100000 in
set_option maxHeartbeats 0 in
theorem PySem.Challenge.cw_loneguess_k00_integers_names_letters_and_holds : PySem.Challenge.rw_loneguess_k00_integers_names_letters_and.Holds := by
  w_on; o_law; k_head; (case hw => w_witness2)
  k_fill
  refine DL.walkG (l := PySem.Challenge.rw_loneguess_k00_integers_names_letters_and) (n := 63) (k := 6) (x := "_law_script") (mf := KX.g_law) rfl (by decide) rfl ⟨rfl, by decide, by decide⟩ (fun w h Y => PySem.W.kIn_of Y) ?F ?Hm
  case F =>
    intro w mg fa h kx G hmg
    refine' KX.all_mk kx G hmg ?a0 ?l0 ?c0 ?k0 ?a1 ?l1 ?c1 ?k1 ?a2 ?l2 ?c2 ?k2 ?a3 ?l3 ?c3 ?k3 ?a4 ?l4 ?c4 ?k4 ?a5 ?l5 ?c5 ?k5 ?a6 ?l6 ?c6 ?k6 ?a7 ?l7 ?c7 ?k7 ?a8 ?l8 ?c8 ?k8 ?a9 ?l9 ?c9 ?k9 ?a10 ?l10 ?c10 ?k10 ?a11 ?l11 ?c11 ?k11 ?a12 ?l12 ?c12 ?k12 ?a13 ?l13 ?c13 ?k13 ?a14 ?l14 ?c14 ?k14 ?a15 ?l15 ?c15 ?k15 ?a16 ?l16 ?c16 ?k16 ?a17 ?l17 ?c17 ?k17 ?a18 ?l18 ?c18 ?k18 ?z_abs ?z_all ?z_bool ?z_int ?z_isinstance ?z_len ?z_max ?z_min ?z_range ?z_repr ?z_set ?z_sorted ?z_str ?z_zip ?v_MAX_DIGITS ?v_MAX_LETTERS ?v_MAX_ALPHABET ?xa0 ?xs0 ?xt0 ?xh0 ?xq0 ?xk0 ?xe0_0
    (case a0 => k_is)
    (case l0 => k_is)
    (case c0 => k_is)
    (case k0 => k_is)
    (case a1 => k_is)
    (case l1 => k_is)
    (case c1 => k_is)
    (case k1 => k_is)
    (case a2 => k_is)
    (case l2 => k_is)
    (case c2 => k_is)
    (case k2 => k_is)
    (case a3 => k_is)
    (case l3 => k_is)
    (case c3 => k_is)
    (case k3 => k_is)
    (case a4 => k_is)
    (case l4 => k_is)
    (case c4 => k_is)
    (case k4 => k_is)
    (case a5 => k_is)
    (case l5 => k_is)
    (case c5 => k_is)
    (case k5 => k_is)
    (case a6 => k_is)
    (case l6 => k_is)
    (case c6 => k_is)
    (case k6 => k_is)
    (case a7 => k_is)
    (case l7 => k_is)
    (case c7 => k_is)
    (case k7 => k_is)
    (case a8 => k_is)
    (case l8 => k_is)
    (case c8 => k_is)
    (case k8 => k_is)
    (case a9 => k_is)
    (case l9 => k_is)
    (case c9 => k_is)
    (case k9 => k_is)
    (case a10 => k_is)
    (case l10 => k_is)
    (case c10 => k_is)
    (case k10 => k_is)
    (case a11 => k_is)
    (case l11 => k_is)
    (case c11 => k_is)
    (case k11 => k_is)
    (case a12 => k_is)
    (case l12 => k_is)
    (case c12 => k_is)
    (case k12 => k_is)
    (case a13 => k_is)
    (case l13 => k_is)
    (case c13 => k_is)
    (case k13 => k_is)
    (case a14 => k_is)
    (case l14 => k_is)
    (case c14 => k_is)
    (case k14 => k_is)
    (case a15 => k_is)
    (case l15 => k_is)
    (case c15 => k_is)
    (case k15 => k_is)
    (case a16 => k_is)
    (case l16 => k_is)
    (case c16 => k_is)
    (case k16 => k_is)
    (case a17 => k_is)
    (case l17 => k_is)
    (case c17 => k_is)
    (case k17 => k_is)
    (case a18 => k_is)
    (case l18 => k_is)
    (case c18 => k_is)
    (case k18 => k_is)
    (case z_abs => k_is)
    (case z_all => k_is)
    (case z_bool => k_is)
    (case z_int => k_is)
    (case z_isinstance => k_is)
    (case z_len => k_is)
    (case z_max => k_is)
    (case z_min => k_is)
    (case z_range => k_is)
    (case z_repr => k_is)
    (case z_set => k_is)
    (case z_sorted => k_is)
    (case z_str => k_is)
    (case z_zip => k_is)
    (case v_MAX_DIGITS => k_is)
    (case v_MAX_LETTERS => k_is)
    (case v_MAX_ALPHABET => k_is)
    (case xa0 => k_is)
    (case xs0 => k_is)
    (case xt0 => k_is)
    (case xh0 => k_is)
    (case xq0 => k_exc)
    (case xk0 => k_is)
    (case xe0_0 => k_is)
  case Hm => exact fun ns h1 h2 => KX.math ns h1 h2
