import PyProof.Rows.All
import Wide.All
import OpenK.AllK
import Wide.FinOn
import KE.OsRunLaw
import HandS.ForMost
import HandS.ForExc
import HandS.Evl
import HandS.Flow
import HandS.Wide
import HandS.WideMore
import HandS.WideBits
import HandS.IsInst
import HandS.Strs
import HandS.SetKeys
import HandS.Conv
import HandS.StrMore
import HandS.ExcOwn
import HandS.TryMany
import HandS.RaiseMore
import HandS.Deep
import HandS.Zip
import HandS.Lambda
import HandS.TupAny
import HandS.TupLe
import KE.SortData
import PyProof.ReprReads
import PyProof.P3In
import HandS.WordsExc
import HandS.EndBits
import PyProof.ReprRoads
import HandS.Text
import HandS.TupLen
import HandS.WordsDict
import HandS.Style
import HandS.Iter
import KE.GoesZip
import KE.GoesMore
import HandS.Dict
import HandS.ExcIs
import HandS.Set
import HandS.SetFor
import HandS.Property
import HandS.More
import HandS.DictComp
import HandS.Star
import HandS.ClsMeth
import HandS.CallLocal
import HandS.FStr
import HandS.HeadHook3
import KE.KTupSum
import PyProof.EnumMake
import PyProof.EnumFor
import PyProof.Draws
import HandS.TryOnly
import OpenK.KMeth
import KE.KOpsOwn
import KE.DataAny
import HandS.OwnEq
import KE.DataMinMax
import KE.KDictList
import PyProof.SumAny
import HandS.Defaults
import HandS.DictEq
import HandS.DictTup
import KE.KItemsList
import HandS.TupSets
import HandS.EndTab
import KE.KNest
import PyProof.ExcBaseAll.IndexError
import PyProof.ExcBaseAll.OverflowError
import PyProof.ExcBaseAll.ArithmeticError
import PyProof.TupleCall
import KE.KExcInit
import HandS.ForSpec
import HandS.ExcInit
import HandS.ExcField
import PyProof.ListStr
import PyProof.StrBlock2
import HandS.TupMul
import KE.GoesComp
import HandS.GenList
import HandS.GenYield
import PyProof.EqKinds
import PyProof.FactsAll.dict_1
import KE.IntBitsLaws
import KE.BitLaws
import PySem.Challenge.RW_loneguess_k65_errors_of_first_ways
set_option Elab.async false
set_option linter.all false
set_option maxRecDepth 100000
set_option maxHeartbeats 4000000
noncomputable section
namespace KX
open PySem PySem.W PyProof.Rows HeadRun
theorem trioK {S α β γ : Type} {o : Option S} {f : S → α} {g : S → β} {h : S → γ} {a : α} {b : β} {c : γ} (h1 : o.map f = some a) (h2 : o.map g = some b) (h3 : o.map h = some c) : o.map (fun s => (f s, g s, h s)) = some (a, b, c) := by
  cases o with
  | none => cases h1
  | some s =>
    injection h1 with h1
    injection h2 with h2
    injection h3 with h3
    show some (f s, g s, h s) = _
    rw [h1, h2, h3]
theorem pairOK {S α β : Type} {o : Option S} {f : S → α × β} {a : α} {b : β} (h1 : o.map (fun s => (f s).1) = some a) (h2 : o.map (fun s => (f s).2) = some b) : o.map f = some (a, b) := by
  cases o with
  | none => cases h1
  | some s =>
    injection h1 with h1
    injection h2 with h2
    show some (f s) = _
    rw [← h1, ← h2]
abbrev pwK : Program := PySem.Challenge.pw_loneguess_k65_errors_of_first_ways
def qvK : Program := { pwK with main := { pwK.main with body := [0, 2, 3, 4, 5, 7, 8, 9, 10, 11, 12, 13, 15, 16, 17, 18, 19, 20, 21, 22, 23, 24, 26, 27, 28, 29, 30, 31, 32, 33, 35, 36, 37, 38, 39, 41, 42, 43, 44, 45, 46, 47, 48, 49, 50].map fun i => pwK.main.body.getD i (.Pass ⟨0, 0, 0, 0⟩) } }
def loK : List PySem.Str := [PySem.Str.ofString "Reader"]
def FsK (s : SharedT) := seenQ qvK loK (importedModules pwK.main.body) (fun s => xlAt qvK [] s && recOk [] s) s.abs
set_option maxHeartbeats 0 in
theorem looksK (w : World) (os : OsState) : (endF (stepQ (denQ tabQ) pwK w) 7720 pwK w os).map (fun s => looksF pwK (boot_heap w.params) s.abs) = some true := by kernel_rfl
set_option maxHeartbeats 0 in
theorem seen0K (w : World) (os : OsState) : (endF (stepQ (denQ tabQ) pwK w) 7720 pwK w os).map (fun s => (FsK s).1) = some (expectedOf qvK) := by kernel_rfl
set_option maxHeartbeats 0 in
theorem seen1K (w : World) (os : OsState) : (endF (stepQ (denQ tabQ) pwK w) 7720 pwK w os).map (fun s => (FsK s).2.1) = some (bltViewBooted) := by kernel_rfl
set_option maxHeartbeats 0 in
theorem seen2K (w : World) (os : OsState) : (endF (stepQ (denQ tabQ) pwK w) 7720 pwK w os).map (fun s => (FsK s).2.2.1) = some (true) := by kernel_rfl
set_option maxHeartbeats 0 in
theorem seen3K (w : World) (os : OsState) : (endF (stepQ (denQ tabQ) pwK w) 7720 pwK w os).map (fun s => (FsK s).2.2.2.1) = some (true) := by kernel_rfl
set_option maxHeartbeats 0 in
theorem seen4K (w : World) (os : OsState) : (endF (stepQ (denQ tabQ) pwK w) 7720 pwK w os).map (fun s => (FsK s).2.2.2.2.1) = some (pinGoodD (drecsOf qvK)) := by kernel_rfl
set_option maxHeartbeats 0 in
theorem seen5K (w : World) (os : OsState) : (endF (stepQ (denQ tabQ) pwK w) 7720 pwK w os).map (fun s => (FsK s).2.2.2.2.2.1) = some (plainGoodE qvK (looseW qvK loK)) := by kernel_rfl
set_option maxHeartbeats 0 in
theorem seen6K (w : World) (os : OsState) : (endF (stepQ (denQ tabQ) pwK w) 7720 pwK w os).map (fun s => (FsK s).2.2.2.2.2.2.1) = some (plainGoodD qvK loK) := by kernel_rfl
set_option maxHeartbeats 0 in
theorem seen7K (w : World) (os : OsState) : (endF (stepQ (denQ tabQ) pwK w) 7720 pwK w os).map (fun s => (FsK s).2.2.2.2.2.2.2.1) = some (wideGood qvK) := by kernel_rfl
set_option maxHeartbeats 0 in
theorem seen8K (w : World) (os : OsState) : (endF (stepQ (denQ tabQ) pwK w) 7720 pwK w os).map (fun s => (FsK s).2.2.2.2.2.2.2.2) = some (clsGoodW qvK loK) := by kernel_rfl
theorem seenK (w : World) (os : OsState) : (endF (stepQ (denQ tabQ) pwK w) 7720 pwK w os).map FsK = some (expectedOf qvK, bltViewBooted, true, true, pinGoodD (drecsOf qvK), plainGoodE qvK (looseW qvK loK), plainGoodD qvK loK, wideGood qvK, clsGoodW qvK loK) :=
  pairOK (seen0K w os) (pairOK (f := fun s => (FsK s).2) (seen1K w os) (pairOK (f := fun s => (FsK s).2.2) (seen2K w os) (pairOK (f := fun s => (FsK s).2.2.2) (seen3K w os) (pairOK (f := fun s => (FsK s).2.2.2.2) (seen4K w os) (pairOK (f := fun s => (FsK s).2.2.2.2.2) (seen5K w os) (pairOK (f := fun s => (FsK s).2.2.2.2.2.2) (seen6K w os) (pairOK (f := fun s => (FsK s).2.2.2.2.2.2.2) (seen7K w os) (seen8K w os))))))))
theorem useK {S α : Type} {F F' : S → α} {G G' : α} {o : Option S} (h : o.map F = some G) (e : (F', G') = (F, G)) : o.map F' = some G' := by
  injection e with e1 e2
  rw [e1, e2, h]
end KX
end
section
local macro_rules | `(tactic| k_head) => `(tactic| k_headL)
local macro_rules | `(tactic| kernel_rfl) => `(tactic| first | (guard_target =~ Option.map _ (HeadRun.endF _ _ _ _ _) = some _; (refine KX.trioK (KX.looksK _ _) (KX.useK (KX.seenK _ _) ?_) ?_; kernel_rfl!; kernel_rfl!)) | kernel_rfl!)
open PySem PySem.W PyProof.Rows in
set_option maxRecDepth 100000 in
set_option maxHeartbeats 0 in
open_top topK for PySem.Challenge.rw_loneguess_k65_errors_of_first_ways
end
namespace DL
open PySem PySem.Spec PyProof.Rows L2
inductive D where
  | non | bl (b : Bool) | int (i : Int) | str (x : Str)
  | lst (xs : List D) | tup (xs : List D)
  /-- a list that is only read (the script) -/
  | scr (ns : List Int)
  | dic (kvs : List (D × D))
  /-- a dict that is read only from now on -/
  | dcl (kvs : List (Key × D))
  | ins (c : Str) (fs : List (Str × D))
  /-- a class of one's own -/
  | cls (c : Str)
  /-- a tuple of keys, made here -/
  | tuk (ks : List Key)
  /-- a dict with tuples as keys, read only from now on: its keys -/
  | dct (kss : List (List Key))
/-- what a local name holds that the def itself changes -/
inductive Cel where
  | l (xs : List D)
  | dk (kvs : List (Key × D))
  | dt (kvs : List (List Key × D))
  | i (me : Addr) (c : Str) (fs : List (Str × D))
/-- a slot: nothing that is known; a value; an object of one's own; the pot -/
inductive Sl where
  | un | v (d : D) | o (c : Cel) | p
/-- an exception: its class, what it keeps -/
structure Ex where
  c : Str
  kept : Option (Str × D) := none
abbrev Pot := Option (List D)
inductive Res (α : Type) where
  | ok (a : α) (p : Pot)
  | ex (e : Ex) (p : Pot)
  | no
abbrev M (α : Type) := Pot → Res α
def M.pure {α : Type} (a : α) : M α := fun p => .ok a p
def M.bind {α β : Type} (m : M α) (k : α → M β) : M β := fun p => match m p with
  | .ok a p' => k a p'
  | .ex e p' => .ex e p'
  | .no => .no
instance : Monad M where
  pure := M.pure
  bind := M.bind
def M.no {α : Type} : M α := fun _ => .no
def M.raise {α : Type} (e : Ex) : M α := fun p => .ex e p
def M.some {α : Type} : Option α → M α
  | .some a => M.pure a
  | .none => M.no
theorem bind_ok {α β : Type} {m : M α} {k : α → M β} {p p' : Pot} {a : α} (h : m p = .ok a p') : (m >>= k) p = k a p' := by
  show M.bind m k p = _
  unfold M.bind; rw [h]
section
variable (mg : Str → Option Value) (K : PySem.W.Frag) (G : Hp)
def keyD : Key → D
  | .inl i => .int i
  | .inr x => .str x
inductive Rep : V → D → Prop
  | non : Rep .non .non
  | bl (b : Bool) : Rep (.bl b) (.bl b)
  | int (i : Int) : Rep (.int i) (.int i)
  | str (x : Str) : Rep (.str x) (.str x)
  | lst {a : Addr} {vs : List V} {ds : List D} (h : G a = .some (.lst vs)) (l : vs.length = ds.length) (r : ∀ (i : Nat) v d, vs[i]? = .some v → ds[i]? = .some d → Rep v d) : Rep (.ref a) (.lst ds)
  | tup {a : Addr} {vs : List V} {ds : List D} (h : SqT K G a vs) (l : vs.length = ds.length) (r : ∀ (i : Nat) v d, vs[i]? = .some v → ds[i]? = .some d → Rep v d) : Rep (.ref a) (.tup ds)
  | scr {a : Addr} {ns : List Int} (h : SqL K G a (ns.map V.int)) : Rep (.ref a) (.scr ns)
  | dicK {a : Addr} {kvs : List (Key × V)} {ds : List (D × D)} (h : G a = .some (.dK kvs)) (k : kvs.map (fun p => keyD p.1) = ds.map (·.1)) (r : ∀ (i : Nat) (p : Key × V) (q : D × D), kvs[i]? = .some p → ds[i]? = .some q → Rep p.2 q.2) : Rep (.ref a) (.dic ds)
  | dicT {a : Addr} {kvs : List (List Key × V)} {ds : List (D × D)} (h : G a = .some (.dT kvs)) (k : kvs.map (fun p => D.tup (p.1.map keyD)) = ds.map (·.1)) (r : ∀ (i : Nat) (p : List Key × V) (q : D × D), kvs[i]? = .some p → ds[i]? = .some q → Rep p.2 q.2) : Rep (.ref a) (.dic ds)
  | dcl {a : Addr} {od : Obj} {kvs : List (Key × V)} {ds : List (Key × D)} (h : G a = .some (.frz od (.dK kvs))) (k : kvs.map (·.1) = ds.map (·.1)) (r : ∀ (i : Nat) (p : Key × V) (q : Key × D), kvs[i]? = .some p → ds[i]? = .some q → Rep p.2 q.2) : Rep (.ref a) (.dcl ds)
  | ins {a C dx : Addr} {c : Str} {fs : List (Str × V)} {ds : List (Str × D)} (h : G a = .some (.ins C dx fs)) (hc : mg c = .some (.ref C)) (k : fs.map (·.1) = ds.map (·.1)) (r : ∀ (i : Nat) (p : Str × V) (q : Str × D), fs[i]? = .some p → ds[i]? = .some q → Rep p.2 q.2) : Rep (.ref a) (.ins c ds)
  | cls {C : Addr} {c : Str} (hc : mg c = .some (.ref C)) : Rep (.ref C) (.cls c)
  | tuk {a : Addr} {ks : List Key} (h : G a = .some (.tup (ks.map kV))) : Rep (.ref a) (.tuk ks)
  | dct {a : Addr} {od : Obj} {kvs : List (List Key × V)} {kss : List (List Key)} (h : G a = .some (.frz od (.dT kvs))) (k : kvs.map (·.1) = kss) : Rep (.ref a) (.dct kss)
end
/-- lists of such -/
def Reps (mg : Str → Option Value) (K : PySem.W.Frag) (G : Hp) (vs : List V) (ds : List D) : Prop :=
  vs.length = ds.length ∧ ∀ (i : Nat) v d, vs[i]? = .some v → ds[i]? = .some d → Rep mg K G v d
/-- G' knows what G knows -/
abbrev Ext (G G' : Hp) : Prop := ∀ a o, G a = .some o → G' a = .some o
section
variable {mg : Str → Option Value} {K : PySem.W.Frag} {G G' : Hp}
theorem Rep.mono (e : Ext G G') {v : V} {d : D} (h : Rep mg K G v d) : Rep mg K G' v d := by
  induction h with
  | non => exact .non
  | bl b => exact .bl b
  | int i => exact .int i
  | str x => exact .str x
  | lst h l _ ih => exact .lst (e _ _ h) l ih
  | tup h l _ ih => exact .tup (Evl.ex_t e h) l ih
  | scr h => exact .scr (Evl.ex_l e h)
  | dicK h k _ ih => exact .dicK (e _ _ h) k ih
  | dicT h k _ ih => exact .dicT (e _ _ h) k ih
  | dcl h k _ ih => exact .dcl (e _ _ h) k ih
  | ins h hc k _ ih => exact .ins (e _ _ h) hc k ih
  | cls hc => exact .cls hc
  | tuk h => exact .tuk (e _ _ h)
  | dct h k => exact .dct (e _ _ h) k
theorem Reps.mono (e : Ext G G') {vs : List V} {ds : List D} (h : Reps mg K G vs ds) : Reps mg K G' vs ds := ⟨h.1, fun i v d a b => (h.2 i v d a b).mono e⟩
theorem Reps.nil : Reps mg K G [] [] := ⟨rfl, fun _ _ _ h _ => by simp at h⟩
theorem Reps.cons {v : V} {d : D} {vs : List V} {ds : List D} (h : Rep mg K G v d) (t : Reps mg K G vs ds) : Reps mg K G (v :: vs) (d :: ds) := by
  refine ⟨by simp [t.1], fun i w e a b => ?_⟩
  cases i with
  | zero => simp at a b; subst a; subst b; exact h
  | succ i => exact t.2 i w e (by simpa using a) (by simpa using b)
theorem Reps.head {v : V} {d : D} {vs : List V} {ds : List D} (t : Reps mg K G (v :: vs) (d :: ds)) : Rep mg K G v d := t.2 0 v d rfl rfl
theorem Reps.tail {v : V} {d : D} {vs : List V} {ds : List D} (t : Reps mg K G (v :: vs) (d :: ds)) : Reps mg K G vs ds :=
  ⟨by simpa using t.1, fun i w e a b => t.2 (i + 1) w e (by simpa using a) (by simpa using b)⟩
theorem Reps.nil_of {ds : List D} (t : Reps mg K G [] ds) : ds = [] := by
  have := t.1
  cases ds with
  | nil => rfl
  | cons _ _ => simp at this
theorem Reps.nil_of' {vs : List V} (t : Reps mg K G vs []) : vs = [] := by
  have := t.1
  cases vs with
  | nil => rfl
  | cons _ _ => simp at this
theorem Reps.append : ∀ {vs ws : List V} {ds es : List D}, Reps mg K G vs ds → Reps mg K G ws es → Reps mg K G (vs ++ ws) (ds ++ es)
  | [], _, ds, _, h, k => by rw [h.nil_of]; exact k
  | v :: vs, _, [], _, h, k => by have := h.1; simp at this
  | v :: vs, _, d :: ds, _, h, k => Reps.cons h.head (Reps.append h.tail k)
theorem Reps.get {vs : List V} {ds : List D} (h : Reps mg K G vs ds) {i : Nat} {d : D} (e : ds[i]? = .some d) : ∃ v, vs[i]? = .some v ∧ Rep mg K G v d := by
  have hi : i < vs.length := by rw [h.1]; exact (List.getElem?_eq_some_iff.mp e).1
  exact ⟨vs[i], List.getElem?_eq_getElem hi, h.2 i _ d (List.getElem?_eq_getElem hi) e⟩
theorem Reps.take {vs : List V} {ds : List D} (h : Reps mg K G vs ds) (n : Nat) : Reps mg K G (vs.take n) (ds.take n) := by
  refine ⟨by simp [h.1], fun i v d a b => ?_⟩
  rw [List.getElem?_take] at a b
  split at a
  · rename_i hi
    rw [if_pos hi] at b
    exact h.2 i v d a b
  · cases a
theorem Reps.drop {vs : List V} {ds : List D} (h : Reps mg K G vs ds) (n : Nat) : Reps mg K G (vs.drop n) (ds.drop n) := by
  refine ⟨by simp [h.1], fun i v d a b => ?_⟩
  rw [List.getElem?_drop] at a b
  exact h.2 _ v d a b
end
/-- the module: its names, its written part, the tables of code objects -/
structure Cn where
  mg : Str → Option Value
  K : PySem.W.Frag
  T : List (Addr × Str) := []
abbrev Cn.rep (c : Cn) : Hp → V → D → Prop := Rep c.mg c.K
abbrev Cn.reps (c : Cn) : Hp → List V → List D → Prop := Reps c.mg c.K
/-- the entry of a def: what is frozen, the heap, the pot's place -/
structure Fr where
  G0 : Hp
  H0 : Hp
  ap : Option Addr
def PotOk (c : Cn) (G H : Hp) : Option Addr → Pot → Prop
  | none, none => True
  | some a, some ds => ∃ vs, H a = some (.lst vs) ∧ c.reps G vs ds ∧ G a = none
  | _, _ => False
def noTbl (o : HO) : Prop := ∀ ps, o ≠ .tbl ps
/-- nothing is there, or a table of code objects -/
def Fre (H : Hp) (a : Addr) : Prop := ∀ o, H a = some o → ∃ ps, o = .tbl ps
theorem Fre.no {H : Hp} {a : Addr} {o : HO} (f : Fre H a) (e : H a = some o) (t : noTbl o) : False := by
  obtain ⟨ps, z⟩ := f o e
  exact t ps z
theorem Fre.of {H : Hp} {a : Addr} (h : H a = none) : Fre H a := fun o e => by rw [h] at e; cases e
structure Post (c : Cn) (ap : Option Addr) (G0 H0 : Hp) (P : Pot) (G H : Hp) : Prop where
  ext : Ext G0 G
  le : Ext G H
  fr : ∀ b o, H0 b = some o → some b ≠ ap → noTbl o → H b = some o
  new : ∀ a, G a ≠ none → G0 a ≠ none ∨ Fre H0 a ∨ ∃ vs, G a = some (.tup vs)
  pot : PotOk c G H ap P
  tab : LamX.Tabs c.T H
  nt : ∀ a o, G a = some o → noTbl o
def CelOk (c : Cn) (G : Hp) (a : Addr) : HO → Cel → Prop
  | .lst vs, .l ds => c.reps G vs ds
  | .dK kvs, .dk ds => kvs.map (·.1) = ds.map (·.1) ∧ c.reps G (kvs.map (·.2)) (ds.map (·.2))
  | .dT kvs, .dt ds => kvs.map (·.1) = ds.map (·.1) ∧ c.reps G (kvs.map (·.2)) (ds.map (·.2))
  | .ins C _ fs, .i me n ds => me = a ∧ c.mg n = some (.ref C) ∧ fs.map (·.1) = ds.map (·.1) ∧ c.reps G (fs.map (·.2)) (ds.map (·.2))
  | _, _ => False
structure Own (c : Cn) (F : Fr) (G H : Hp) (a : Addr) (x : Cel) : Prop where
  ob : ∃ o, H a = some o ∧ CelOk c G a o x
  g : G a = none
  h : Fre F.H0 a
  p : some a ≠ F.ap
def SlOk (c : Cn) (F : Fr) (G H : Hp) : Sl → Option V → Prop
  | .un, _ => True
  | .v d, x => ∃ v, x = some v ∧ c.rep G v d
  | .p, x => ∃ a, F.ap = some a ∧ x = some (.ref a)
  | .o k, x => ∃ a, x = some (.ref a) ∧ Own c F G H a k
structure Rel (c : Cn) (F : Fr) (ρ : List Sl) (P : Pot) (σ : L2.St) (H G : Hp) : Prop where
  post : Post c F.ap F.G0 F.H0 P G H
  len : σ.length = ρ.length
  sl : ∀ (i : Nat) s x, ρ[i]? = some s → σ[i]? = some x → SlOk c F G H s x
  ap : ∀ (i j : Nat) k k' a, ρ[i]? = some (.o k) → ρ[j]? = some (.o k') → σ[i]? = some (some (V.ref a)) → σ[j]? = some (some (V.ref a)) → i = j
/-- an exception as it lies -/
def ExOk (c : Cn) (H G : Hp) (e : Ex) (cl : Value) (dd : Option Addr) : Prop :=
  c.mg e.c = some cl ∧ match e.kept with
    | none => True
    | some (f, d) => ∃ a v, dd = some a ∧ H a = some (.xd [(f, v)]) ∧ c.rep G v d
/-- how a computation ends -/
def out {α : Type} (m : M α) (P : Pot) (ok : α → Pot → Prop) (ex : Ex → Pot → Prop) : Prop :=
  match m P with
  | .ok a p => ok a p
  | .ex e p => ex e p
  | .no => False
theorem out_bind {α β : Type} {m : M α} {k : α → M β} {P : Pot} {ok : β → Pot → Prop} {ex : Ex → Pot → Prop} : out (m >>= k) P ok ex ↔ out m P (fun a p => out (k a) p ok ex) ex := by
  show out (M.bind m k) P ok ex ↔ _
  unfold out M.bind
  cases m P <;> rfl
theorem out_mono {α : Type} {m : M α} {P : Pot} {ok ok' : α → Pot → Prop} {ex ex' : Ex → Pot → Prop} (h : out m P ok ex) (h1 : ∀ a p, ok a p → ok' a p) (h2 : ∀ e p, ex e p → ex' e p) : out m P ok' ex' := by
  unfold out at h ⊢
  cases e : m P with
  | ok a p => rw [e] at h; exact h1 _ _ h
  | ex x p => rw [e] at h; exact h2 _ _ h
  | no => rw [e] at h; exact h
theorem out_some {α : Type} {o : Option α} {P : Pot} {ok : α → Pot → Prop} {ex : Ex → Pot → Prop} : out (M.some o) P ok ex ↔ ∃ a, o = some a ∧ ok a P := by
  cases o with
  | none => exact ⟨fun h => h.elim, fun ⟨_, h, _⟩ => nomatch h⟩
  | some a => exact ⟨fun h => ⟨a, rfl, h⟩, fun ⟨_, h, k⟩ => by cases h; exact k⟩
section
variable (c : Cn) (F : Fr) (W : WX) (ρ : List Sl)
def exW (P0 : Pot) (G : Hp) (σ : L2.St) : Ex → Pot → Prop := fun e P' => ∀ cl dd H' G' ρ', Ext G G' → Rel c F ρ' P' σ H' G' → ExOk c H' G' e cl dd → W cl dd σ H'
/-- of blocks: the slots may have changed -/
def exS (P0 : Pot) (G : Hp) (σ : L2.St) : Ex → Pot → Prop := fun e P' => ∀ cl dd H' G' ρ' σ', Ext G G' → Rel c F ρ' P' σ' H' G' → ExOk c H' G' e cl dd → W cl dd σ' H'
def rdE (m : M D) : TE := fun σ H Q => ∃ P G, Rel c F ρ P σ H G ∧ out m P (fun d P' => ∀ v H' G', Ext G G' → Rel c F ρ P' σ H' G' → c.rep G' v d → Q v H') (exW c F W P G σ)
def rdT (m : M Bool) : TT := fun σ H Q => ∃ P G, Rel c F ρ P σ H G ∧ out m P (fun b P' => ∀ H' G', Ext G G' → Rel c F ρ P' σ H' G' → Q b H') (exW c F W P G σ)
/-- an argument: a value, or the pot -/
inductive Ar where
  | v (d : D) | p
def ArOk (G : Hp) : V → Ar → Prop
  | x, .v d => c.rep G x d
  | x, .p => ∃ a, F.ap = some a ∧ x = .ref a
def ArsOk (G : Hp) : List V → List Ar → Prop
  | [], [] => True
  | v :: vs, a :: as => ArOk c F G v a ∧ ArsOk G vs as
  | _, _ => False
def rdA (m : M (List Ar)) : TA := fun σ H Q => ∃ P G, Rel c F ρ P σ H G ∧ out m P (fun as P' => ∀ vs H' G', Ext G G' → Rel c F ρ P' σ H' G' → ArsOk c F G' vs as → Q vs H') (exW c F W P G σ)
end
theorem exW_le {c : Cn} {F : Fr} {W : WX} {P P' : Pot} {G G' : Hp} {σ : L2.St} (e : Ext G G') {x : Ex} {p : Pot} (h : exW c F W P G σ x p) : exW c F W P' G' σ x p :=
  fun cl dd H' G2 ρ' e2 r k => h cl dd H' G2 ρ' (fun a o q => e2 a o (e a o q)) r k
theorem exS_le {c : Cn} {F : Fr} {W : WX} {P P' : Pot} {G G' : Hp} {σ σ' : L2.St} (e : Ext G G') {x : Ex} {p : Pot} (h : exS c F W P G σ x p) : exS c F W P' G' σ' x p :=
  fun cl dd H' G2 ρ' σ2 e2 r k => h cl dd H' G2 ρ' σ2 (fun a o q => e2 a o (e a o q)) r k
theorem exS.w {c : Cn} {F : Fr} {W : WX} {P P' : Pot} {G : Hp} {σ σ' : L2.St} {x : Ex} {p : Pot} (h : exS c F W P G σ x p) : exW c F W P' G σ' x p :=
  fun cl dd H' G2 ρ' e2 r k => h cl dd H' G2 ρ' σ' e2 r k
theorem Ext.refl (G : Hp) : Ext G G := fun _ _ h => h
theorem Ext.trans {G G1 G2 : Hp} (a : Ext G G1) (b : Ext G1 G2) : Ext G G2 := fun x o h => b x o (a x o h)
/-- another reading -/
theorem pe_by {X : Cx} {e : Expr} {t t' : TE} (h : PE X e t) (k : ∀ σ H Q, t' σ H Q → t σ H Q) : PE X e t' := ⟨fun pins s σ H Q I q => h.run pins s σ H Q I (k σ H Q q)⟩
theorem pt_by {X : Cx} {e : Expr} {t t' : TT} (h : PT X e t) (k : ∀ σ H Q, t' σ H Q → t σ H Q) : PT X e t' := ⟨fun pins s σ H Q I q => h.run pins s σ H Q I (k σ H Q q)⟩
theorem pa_by {X : Cx} {e : List Expr} {t t' : TA} (h : PA X e t) (k : ∀ σ H Q, t' σ H Q → t σ H Q) : PA X e t' := ⟨fun pos pins s σ H Q I q => h.run pos pins s σ H Q I (k σ H Q q)⟩
theorem ps_by {X : Cx} {e : Stmt} {t t' : TS} (h : PS X e t) (k : ∀ D σ H, t' D σ H → t D σ H) : PS X e t' := ⟨fun pins s σ H D I q => h.run pins s σ H D I (k D σ H q)⟩
theorem pss_by {X : Cx} {e : List Stmt} {t t' : TS} (h : PSs X e t) (k : ∀ D σ H, t' D σ H → t D σ H) : PSs X e t' := ⟨fun pins s σ H D I q => h.run pins s σ H D I (k D σ H q)⟩
section
variable {c : Cn} {F : Fr} {W : WX} {ρ : List Sl} {X : Cx}
/-- a value in a slot -/
theorem de_var {i : Nat} {x : Str} {pos : Pos} {d : D} (hi : ρ[i]? = some (.v d)) (h : PE X (.Name x pos) (tVar i)) : PE X (.Name x pos) (rdE c F W ρ (Pure.pure d)) := by
  refine pe_by h fun σ H Q ⟨P, G, R, q⟩ => ?_
  have hl : i < σ.length := by rw [R.len]; exact (List.getElem?_eq_some_iff.mp hi).1
  obtain ⟨v, e, r⟩ := R.sl i _ _ hi (List.getElem?_eq_getElem hl)
  exact ⟨v, by rw [List.getElem?_eq_getElem hl, e], q v H G (Ext.refl G) R r⟩
theorem de_int {i j pos} : PE X (.Constant (.int i) j pos) (rdE c F W ρ (Pure.pure (.int i))) := pe_by pe_int fun σ H Q ⟨P, G, R, q⟩ => q _ H G (Ext.refl G) R (.int i)
theorem de_bl {b j pos} : PE X (.Constant (.bool b) j pos) (rdE c F W ρ (Pure.pure (.bl b))) := pe_by pe_bl fun σ H Q ⟨P, G, R, q⟩ => q _ H G (Ext.refl G) R (.bl b)
theorem de_non {j pos} : PE X (.Constant .none j pos) (rdE c F W ρ (Pure.pure .non)) := pe_by pe_non fun σ H Q ⟨P, G, R, q⟩ => q _ H G (Ext.refl G) R .non
theorem de_str {x j pos} : PE X (.Constant (.str x) j pos) (rdE c F W ρ (Pure.pure (.str x))) := pe_by pe_str fun σ H Q ⟨P, G, R, q⟩ => q _ H G (Ext.refl G) R (.str x)
/-- a module's plain constant -/
theorem de_glob {x : Str} {v : V} {d : D} {u : Value} {pos : Pos} (hg : Gl X x) (hm : X.mg x = some u) (r : RelV v u) (hd : ∀ G, c.rep G v d) (hx : (x == ("__debug__" : Str)) = false := by decide) : PE X (.Name x pos) (rdE c F W ρ (Pure.pure d)) :=
  pe_by (pe_glob hg hm r hx) fun σ H Q ⟨P, G, R, q⟩ => q v H G (Ext.refl G) R (hd G)
/-- a two-place operation -/
def OpD (c : Cn) (r : R2) (f : D → D → M D) : Prop := ∀ F ρ W P σ H G x y dx dy Q, Rel c F ρ P σ H G → c.rep G x dx → c.rep G y dy →
  out (f dx dy) P (fun d P' => ∀ v H' G', Ext G G' → Rel c F ρ P' σ H' G' → c.rep G' v d → Q v H') (exW c F W P G σ) → r x y H Q
theorem de_op {a b : Expr} {op : Operator} {pos : Pos} {r : R2} {f : D → D → M D} {ma mb : M D} (ho : OpR X (binaryOp op) r) (hf : OpD c r f) (ha : PE X a (rdE c F W ρ ma)) (hb : PE X b (rdE c F W ρ mb)) :
    PE X (.BinOp a op b pos) (rdE c F W ρ (ma >>= fun x => mb >>= fun y => f x y)) := by
  refine pe_by (pe_op ho ha hb) fun σ H Q ⟨P, G, R, q⟩ => ?_
  refine ⟨P, G, R, out_mono (out_bind.mp q) (fun x P1 q1 v H1 G1 e1 R1 r1 => ?_) fun _ _ z => z⟩
  refine ⟨P1, G1, R1, out_mono (out_bind.mp q1) (fun y P2 q2 u H2 G2 e2 R2 r2 => ?_) fun _ _ z => exW_le e1 z⟩
  exact hf F ρ W P2 σ H2 G2 v u x y Q R2 (r1.mono e2) r2 (out_mono q2 (fun d P3 q3 v3 H3 G3 e3 R3 r3 => q3 v3 H3 G3 (fun a o h => e3 a o (e2 a o (e1 a o h))) R3 r3) fun _ _ z => exW_le (fun a o h => e2 a o (e1 a o h)) z)
end
section
variable {c : Cn} {F : Fr} {W : WX} {ρ : List Sl} {X : Cx}
theorem de_un {a : Expr} {op : UnaryOp} {pos : Pos} {r : V → Hp → VK → Prop} {f : D → M D} {ma : M D} (ho : UnR X (unaryOp op) r)
    (hf : ∀ F ρ W P σ H G x dx Q, Rel c F ρ P σ H G → c.rep G x dx → out (f dx) P (fun d P' => ∀ v H' G', Ext G G' → Rel c F ρ P' σ H' G' → c.rep G' v d → Q v H') (exW c F W P G σ) → r x H Q)
    (ha : PE X a (rdE c F W ρ ma)) : PE X (.UnaryOp op a pos) (rdE c F W ρ (ma >>= f)) := by
  refine pe_by (pe_un ho ha) fun σ H Q ⟨P, G, R, q⟩ => ?_
  refine ⟨P, G, R, out_mono (out_bind.mp q) (fun x P1 q1 v H1 G1 e1 R1 r1 => ?_) fun _ _ z => z⟩
  exact hf F ρ W P1 σ H1 G1 v x Q R1 r1 (out_mono q1 (fun d P3 q3 v3 H3 G3 e3 R3 r3 => q3 v3 H3 G3 (e1.trans e3) R3 r3) fun _ _ z => exW_le e1 z)
theorem de_cmp {a b : Expr} {op : CmpOp} {pos : Pos} {r : R2} {f : D → D → M D} {ma mb : M D} (ho : OpR X (compareOp op) r) (hf : OpD c r f) (ha : PE X a (rdE c F W ρ ma)) (hb : PE X b (rdE c F W ρ mb)) (hm : behindInMarks op b = false := by first | exact nomark _ | rfl) :
    PE X (.Compare a [op] [b] pos) (rdE c F W ρ (ma >>= fun x => mb >>= fun y => f x y)) := by
  refine pe_by (pe_cmpR ho ha hb hm) fun σ H Q ⟨P, G, R, q⟩ => ?_
  refine ⟨P, G, R, out_mono (out_bind.mp q) (fun x P1 q1 v H1 G1 e1 R1 r1 => ?_) fun _ _ z => z⟩
  refine ⟨P1, G1, R1, out_mono (out_bind.mp q1) (fun y P2 q2 u H2 G2 e2 R2 r2 => ?_) fun _ _ z => exW_le e1 z⟩
  exact hf F ρ W P2 σ H2 G2 v u x y Q R2 (r1.mono e2) r2 (out_mono q2 (fun d P3 q3 v3 H3 G3 e3 R3 r3 => q3 v3 H3 G3 (fun a o h => e3 a o (e2 a o (e1 a o h))) R3 r3) fun _ _ z => exW_le (fun a o h => e2 a o (e1 a o h)) z)
def boolD : D → M Bool
  | .bl b => Pure.pure b
  | _ => M.no
theorem Rep.bl_of {G : Hp} {v : V} {b : Bool} (h : c.rep G v (.bl b)) : v = .bl b := by cases h; rfl
theorem Rep.int_of {G : Hp} {v : V} {b : Int} (h : c.rep G v (.int b)) : v = .int b := by cases h; rfl
theorem Rep.str_of {G : Hp} {v : V} {b : Str} (h : c.rep G v (.str b)) : v = .str b := by cases h; rfl
theorem Rep.non_of {G : Hp} {v : V} (h : c.rep G v .non) : v = .non := by cases h; rfl
/-- an expression whose value is a bool, as a test -/
theorem dt_val {e : Expr} {m : M D} (h : PE X e (rdE c F W ρ m)) (he : ∀ whole, isTrue e X.env whole = (do let v ← whole; standAt e.pos; holding [v] (truthy v)) := by intro _; rfl) : PT X e (rdT c F W ρ (m >>= boolD)) := by
  refine pt_by (pt_val h he) fun σ H Q ⟨P, G, R, q⟩ => ?_
  refine ⟨P, G, R, out_mono (out_bind.mp q) (fun x P1 q1 v H1 G1 e1 R1 r1 => ?_) fun _ _ z => z⟩
  cases x with
  | bl b => exact ⟨b, r1.bl_of, q1 H1 G1 e1 R1⟩
  | _ => exact q1.elim
/-- a comparison as a test -/
theorem dt_cmp {a b : Expr} {op : CmpOp} {pos : Pos} {r : R2} {f : D → D → M D} {ma mb : M D} (ho : OpR X (compareOp op) r) (hf : OpD c r f) (ha : PE X a (rdE c F W ρ ma)) (hb : PE X b (rdE c F W ρ mb)) (hm : behindInMarks op b = false := by first | exact nomark _ | rfl) :
    PT X (.Compare a [op] [b] pos) (rdT c F W ρ ((ma >>= fun x => mb >>= fun y => f x y) >>= boolD)) := by
  refine pt_by (pt_cmpR ho ha hb hm) fun σ H Q ⟨P, G, R, q⟩ => ?_
  refine ⟨P, G, R, out_mono (out_bind.mp (out_bind.mp q)) (fun x P1 q1 v H1 G1 e1 R1 r1 => ?_) fun _ _ z => z⟩
  refine ⟨P1, G1, R1, out_mono (out_bind.mp q1) (fun y P2 q2 u H2 G2 e2 R2 r2 => ?_) fun _ _ z => exW_le e1 z⟩
  refine hf F ρ W P2 σ H2 G2 v u x y _ R2 (r1.mono e2) r2 (out_mono q2 (fun d P3 q3 v3 H3 G3 e3 R3 r3 => ?_) fun _ _ z => exW_le (e1.trans e2) z)
  cases d with
  | bl k => exact ⟨k, r3.bl_of, q3 H3 G3 ((e1.trans e2).trans e3) R3⟩
  | _ => exact q3.elim
theorem dt_not {a : Expr} {pos : Pos} {m : M Bool} (h : PT X a (rdT c F W ρ m)) : PT X (.UnaryOp .Not a pos) (rdT c F W ρ (m >>= fun b => Pure.pure (!b))) := by
  refine pt_by (pt_not h) fun σ H Q ⟨P, G, R, q⟩ => ?_
  exact ⟨P, G, R, out_mono (out_bind.mp q) (fun x P1 q1 H1 G1 e1 R1 => q1 H1 G1 e1 R1) fun _ _ z => z⟩
theorem dw_and1 {a : Expr} {pos : Pos} {m : M Bool} (h : PT X a (rdT c F W ρ m)) : PW X (.BoolOp .And [a] pos) (rdT c F W ρ m) := pw_and1 h
theorem dw_or1 {a : Expr} {pos : Pos} {m : M Bool} (h : PT X a (rdT c F W ρ m)) : PW X (.BoolOp .Or [a] pos) (rdT c F W ρ m) := pw_or1 h
theorem pw_by {X : Cx} {e : Expr} {t t' : TT} (h : PW X e t) (k : ∀ σ H Q, t' σ H Q → t σ H Q) : PW X e t' := ⟨fun wh pins s σ H Q I q => h.run wh pins s σ H Q I (k σ H Q q)⟩
theorem dw_and {a b : Expr} {rest : List Expr} {pos : Pos} {m m' : M Bool} (h : PT X a (rdT c F W ρ m)) (k : PW X (.BoolOp .And (b :: rest) pos) (rdT c F W ρ m')) :
    PW X (.BoolOp .And (a :: b :: rest) pos) (rdT c F W ρ (m >>= fun x => if x = true then m' else Pure.pure false)) := by
  refine pw_by (pw_and h k) fun σ H Q ⟨P, G, R, q⟩ => ?_
  refine ⟨P, G, R, out_mono (out_bind.mp q) (fun x P1 q1 H1 G1 e1 R1 => ?_) fun _ _ z => z⟩
  cases x with
  | true => exact ⟨P1, G1, R1, out_mono q1 (fun y P2 q2 H2 G2 e2 R2 => q2 H2 G2 (e1.trans e2) R2) fun _ _ z => exW_le e1 z⟩
  | false => exact q1 H1 G1 e1 R1
theorem dw_or {a b : Expr} {rest : List Expr} {pos : Pos} {m m' : M Bool} (h : PT X a (rdT c F W ρ m)) (k : PW X (.BoolOp .Or (b :: rest) pos) (rdT c F W ρ m')) :
    PW X (.BoolOp .Or (a :: b :: rest) pos) (rdT c F W ρ (m >>= fun x => if x = true then Pure.pure true else m')) := by
  refine pw_by (pw_or h k) fun σ H Q ⟨P, G, R, q⟩ => ?_
  refine ⟨P, G, R, out_mono (out_bind.mp q) (fun x P1 q1 H1 G1 e1 R1 => ?_) fun _ _ z => z⟩
  cases x with
  | false => exact ⟨P1, G1, R1, out_mono q1 (fun y P2 q2 H2 G2 e2 R2 => q2 H2 G2 (e1.trans e2) R2) fun _ _ z => exW_le e1 z⟩
  | true => exact q1 H1 G1 e1 R1
/-- and, or, not as values (of bools) -/
theorem de_one {op} {a : Expr} {pos : Pos} {m : M D} (h : PE X a (rdE c F W ρ m)) : PE X (.BoolOp op [a] pos) (rdE c F W ρ m) := pe_one h
theorem de_and {a b : Expr} {rest : List Expr} {pos : Pos} {m m' : M D} (h : PE X a (rdE c F W ρ m)) (k : PE X (.BoolOp .And (b :: rest) pos) (rdE c F W ρ m')) :
    PE X (.BoolOp .And (a :: b :: rest) pos) (rdE c F W ρ (m >>= fun x => boolD x >>= fun x => if x = true then m' else Pure.pure (.bl false))) := by
  refine pe_by (pe_and h k) fun σ H Q ⟨P, G, R, q⟩ => ?_
  refine ⟨P, G, R, out_mono (out_bind.mp q) (fun x P1 q1 v H1 G1 e1 R1 r1 => ?_) fun _ _ z => z⟩
  cases x with
  | bl b =>
    refine ⟨b, r1.bl_of, ?_⟩
    cases b with
    | true => exact ⟨P1, G1, R1, out_mono q1 (fun y P2 q2 v2 H2 G2 e2 R2 r2 => q2 v2 H2 G2 (e1.trans e2) R2 r2) fun _ _ z => exW_le e1 z⟩
    | false => exact q1 _ H1 G1 e1 R1 (.bl false)
  | _ => exact q1.elim
theorem de_if {t a b : Expr} {pos : Pos} {m : M Bool} {ma mb : M D} (h : PT X t (rdT c F W ρ m)) (ha : PE X a (rdE c F W ρ ma)) (hb : PE X b (rdE c F W ρ mb)) :
    PE X (.IfExp t a b pos) (rdE c F W ρ (m >>= fun x => if x = true then ma else mb)) := by
  refine pe_by (pe_ifExp h ha hb) fun σ H Q ⟨P, G, R, q⟩ => ?_
  refine ⟨P, G, R, out_mono (out_bind.mp q) (fun x P1 q1 H1 G1 e1 R1 => ?_) fun _ _ z => z⟩
  cases x with
  | true => exact ⟨P1, G1, R1, out_mono q1 (fun y P2 q2 v2 H2 G2 e2 R2 r2 => q2 v2 H2 G2 (e1.trans e2) R2 r2) fun _ _ z => exW_le e1 z⟩
  | false => exact ⟨P1, G1, R1, out_mono q1 (fun y P2 q2 v2 H2 G2 e2 R2 r2 => q2 v2 H2 G2 (e1.trans e2) R2 r2) fun _ _ z => exW_le e1 z⟩
theorem ArsOk.mono {G G' : Hp} (e : Ext G G') : ∀ {vs : List V} {as : List Ar}, ArsOk c F G vs as → ArsOk c F G' vs as
  | [], [], _ => True.intro
  | _ :: _, .v _ :: _, ⟨h, t⟩ => ⟨Rep.mono e h, ArsOk.mono e t⟩
  | _ :: _, .p :: _, ⟨h, t⟩ => ⟨h, ArsOk.mono e t⟩
theorem da_nil : PA X [] (rdA c F W ρ (Pure.pure [])) := pa_by pa_nil fun σ H Q ⟨P, G, R, q⟩ => q [] H G (Ext.refl G) R True.intro
theorem da_cons {e : Expr} {es : List Expr} {m : M D} {ms : M (List Ar)} (h : PE X e (rdE c F W ρ m)) (t : PA X es (rdA c F W ρ ms)) (hs : starEach (e :: es) X.env = (false, eval e X.env) :: starEach es X.env := by rfl) :
    PA X (e :: es) (rdA c F W ρ (m >>= fun x => ms >>= fun xs => Pure.pure (.v x :: xs))) := by
  refine pa_by (pa_cons h t hs) fun σ H Q ⟨P, G, R, q⟩ => ?_
  refine ⟨P, G, R, out_mono (out_bind.mp q) (fun x P1 q1 v H1 G1 e1 R1 r1 => ?_) fun _ _ z => z⟩
  refine ⟨P1, G1, R1, out_mono (out_bind.mp q1) (fun xs P2 q2 vs H2 G2 e2 R2 r2 => ?_) fun _ _ z => exW_le e1 z⟩
  exact q2 (v :: vs) H2 G2 (e1.trans e2) R2 ⟨r1.mono e2, r2⟩
/-- the pot, handed on -/
theorem da_pot {i : Nat} {x : Str} {pos : Pos} {es : List Expr} {ms : M (List Ar)} (hi : ρ[i]? = some .p) (h : PE X (.Name x pos) (tVar i)) (t : PA X es (rdA c F W ρ ms)) (hs : starEach (.Name x pos :: es) X.env = (false, eval (.Name x pos) X.env) :: starEach es X.env := by rfl) :
    PA X (.Name x pos :: es) (rdA c F W ρ (ms >>= fun xs => Pure.pure (.p :: xs))) := by
  refine pa_by (pa_cons h t hs) fun σ H Q ⟨P, G, R, q⟩ => ?_
  have hl : i < σ.length := by rw [R.len]; exact (List.getElem?_eq_some_iff.mp hi).1
  obtain ⟨a, ea, e⟩ := R.sl i _ _ hi (List.getElem?_eq_getElem hl)
  refine ⟨.ref a, by rw [List.getElem?_eq_getElem hl, e], ?_⟩
  refine ⟨P, G, R, out_mono (out_bind.mp q) (fun xs P2 q2 vs H2 G2 e2 R2 r2 => ?_) fun _ _ z => z⟩
  exact q2 (.ref a :: vs) H2 G2 e2 R2 ⟨⟨a, ea, rfl⟩, r2⟩
/-- values alone -/
def vals : List Ar → M (List D)
  | [] => Pure.pure []
  | .v d :: as => vals as >>= fun ds => Pure.pure (d :: ds)
  | .p :: _ => M.no
end
/-- nothing of repr is under way -/
def GA (A : Around) : Prop := A.guards = some []
/-- what a def does, told by data: mf -/
def spD (c : Cn) (mf : List Ar → M D) : Sp := fun vs H Q E => ∃ (ap : Option Addr) (G : Hp) (P : Pot) (as : List Ar),
  Post c ap G H P G H ∧ ArsOk c ⟨G, H, ap⟩ G vs as ∧
  out (mf as) P (fun d P' => ∀ v H' G', Post c ap G H P' G' H' → c.rep G' v d → Q v H') (fun e P' => ∀ cl dd H' G', Post c ap G H P' G' H' → ExOk c H' G' e cl dd → E cl dd H')
/-- a def that keeps a promise, where nothing of repr is under way -/
structure FnG (P : Program) (w : World) (K : PySem.W.Frag) (mg : Str → Option Value) (base : Heap) (k : Nat) (f : Addr) (fd : FuncData) (ps : List Str) (sp : Sp) : Prop where
  ln : ∀ vs H Q E, sp vs H Q E → vs.length = ps.length
  go : ∀ (A : Around) (fr : List Env) (s : Shared) (H : Hp) (us : List Value) (vs : List V) (args : Args) (Q : VK) (E : XK), GA A → Room k A → Env0 P w K mg base A fr s H → BindsTo s fd args (ps.zip us) → Vals vs us → sp vs H Q E →
    codeAny (model P w) A (.call (.ref f) args) (CR (L2.CX P w) fr P w H s Q E) s
theorem Post.refl' {c : Cn} {ap : Option Addr} {G0 H0 : Hp} {P : Pot} {G H : Hp} (p : Post c ap G0 H0 P G H) : Post c ap G H P G H :=
  ⟨Ext.refl _, p.le, fun _ _ h _ _ => h, fun _ h => .inl h, p.pot, p.tab, p.nt⟩
theorem Post.fre {c : Cn} {ap : Option Addr} {G0 H0 G H : Hp} {P : Pot} (p : Post c ap G0 H0 P G H) {a : Addr} (h : Fre H a) : Fre H0 a := fun o e => by
  by_cases t : noTbl o
  · exfalso
    by_cases n : some a ≠ ap
    · exact h.no (p.fr a o e n t) t
    · have n' : some a = ap := Classical.not_not.mp n
      subst n'
      have z := p.pot
      cases P with
      | none => exact z
      | some ds =>
        obtain ⟨vs, z, _⟩ := z
        obtain ⟨ps, z2⟩ := h _ z
        cases z2
  · exact Classical.not_forall_not.mp t
theorem Post.trans {c : Cn} {ap : Option Addr} {G0 H0 G H G' H' : Hp} {P P' : Pot} (p : Post c ap G0 H0 P G H) (q : Post c ap G H P' G' H') : Post c ap G0 H0 P' G' H' := by
  refine ⟨p.ext.trans q.ext, q.le, fun b o h n t => q.fr b o (p.fr b o h n t) n t, fun a h => ?_, q.pot, q.tab, q.nt⟩
  rcases q.new a h with h | h | h
  · rcases p.new a h with y | y | ⟨vs, y⟩
    · exact .inl y
    · exact .inr (.inl y)
    · exact .inr (.inr ⟨vs, q.ext _ _ y⟩)
  · exact .inr (.inl (p.fre h))
  · exact .inr (.inr h)
/-- behind a callee -/
theorem Rel.after {c : Cn} {F : Fr} {ρ : List Sl} {P P' : Pot} {σ : L2.St} {H G H' G' : Hp} (R : Rel c F ρ P σ H G) (q : Post c F.ap G H P' G' H') : Rel c F ρ P' σ H' G' := by
  refine ⟨R.post.trans q, R.len, fun i s x a b => ?_, R.ap⟩
  have z := R.sl i s x a b
  cases s with
  | un => exact True.intro
  | v d => obtain ⟨v, e, r⟩ := z; exact ⟨v, e, r.mono q.ext⟩
  | p => exact z
  | o k =>
    obtain ⟨a, e, ⟨o, ho, hk⟩, g, h, p⟩ := z
    have nt : noTbl o := by
      intro ps e2; subst e2
      cases k <;> exact hk
    refine ⟨a, e, ⟨o, q.fr a o ho p nt, ?_⟩, ?_, h, p⟩
    · have mono : ∀ {vs ds}, c.reps G vs ds → c.reps G' vs ds := fun h => h.mono q.ext
      cases o <;> cases k <;> first | exact hk.elim | exact mono hk | exact ⟨hk.1, mono hk.2⟩ | exact ⟨hk.1, hk.2.1, mono hk.2.2⟩ | exact ⟨hk.1, hk.2.1, hk.2.2.1, mono hk.2.2.2⟩
    · cases z : G' a with
      | none => rfl
      | some u =>
        rcases q.new a (by rw [z]; simp) with h | h | ⟨vs, h⟩
        · exact absurd g h
        · exact (h.no ho nt).elim
        · have y := q.le _ _ h
          rw [q.fr a o ho p nt] at y
          cases y
          exact hk.elim
/-- a body's context, whatever the def -/
structure Ctx (c : Cn) (X : Cx) (k : Nat) : Prop where
  mg : X.mg = c.mg
  K : X.K = c.K
  ga : GA X.A
  rm : Room k X.A
section
variable {c : Cn} {F : Fr} {W : WX} {ρ : List Sl} {X : Cx} {k n : Nat}
theorem Ctx.mono {j : Nat} (h : Ctx c X k) (l : j ≤ k) : Ctx c X j := ⟨h.mg, h.K, h.ga, h.rm.mono l⟩
theorem ArsOk.length {G : Hp} : ∀ {vs : List V} {as : List Ar}, ArsOk c F G vs as → vs.length = as.length
  | [], [], _ => rfl
  | _ :: _, _ :: _, h => by simp [ArsOk.length h.2]
theorem ArsOk.fr {F' : Fr} {G : Hp} (h : F.ap = F'.ap) : ∀ {vs : List V} {as : List Ar}, ArsOk c F G vs as → ArsOk c F' G vs as
  | [], [], _ => True.intro
  | _ :: _, .v _ :: _, ⟨a, t⟩ => ⟨a, ArsOk.fr h t⟩
  | _ :: _, .p :: _, ⟨⟨b, a, a'⟩, t⟩ => ⟨⟨b, h.symm.trans a, a'⟩, ArsOk.fr h t⟩
/-- the callee runs -/
theorem run_g {f : Addr} {fd : FuncData} {ps : List Str} {sp : Sp} {pins : List (Addr × Obj)} {s : Shared} {σ : L2.St} {H : Hp} {Q : VK} {us : List Value} {vs : List V} (ga : GA X.A) (rm : Room k X.A) (tk : Takes X W)
    (fn : FnG X.prog X.w X.K X.mg X.base k f fd ps sp) (hb : Binds X.K fd ps []) (I : Inv X pins σ H s) (r : Vals vs us) (h : sp vs H Q (WE W σ)) : wpAny (model X.prog X.w) X.A (call (.ref f) us) (EP X pins σ Q) X.xe s := by
  have hl : us.length = ps.length := r.length.symm.trans (fn.ln _ _ _ _ h)
  have b := hb s us I.kIn (by simpa using hl)
  rw [List.append_nil] at b
  refine wpAny_call (codeAny_mono (fn.go X.A X.stack s H us vs ⟨us, []⟩ Q (WE W σ) ga rm I.env0 b r h) fun res s2 z => ?_)
  match res, z with
  | .error e, z => exact passAt tk σ pins H s e s2 I z
  | .ok (.ret u), z => exact I.after z
  | .ok .next, z => exact z.elim
  | .ok .brk, z => exact z.elim
  | .ok .cont, z => exact z.elim
/-- from a reading of the call's end to the callee's promise -/
theorem sp_of {mf : List Ar → M D} {P : Pot} {σ : L2.St} {H G : Hp} {Q : VK} {as : List Ar} {vs : List V} (R : Rel c F ρ P σ H G) (r : ArsOk c F G vs as)
    (q : out (mf as) P (fun d P' => ∀ v H' G', Ext G G' → Rel c F ρ P' σ H' G' → c.rep G' v d → Q v H') (exW c F W P G σ)) : spD c mf vs H Q (WE W σ) := by
  refine ⟨F.ap, G, P, as, R.post.refl', ArsOk.fr (F := F) (F' := ⟨G, H, F.ap⟩) rfl r, out_mono q (fun d P' z v H' G' p k => z v H' G' p.ext (R.after p) k) fun e P' z cl dd H' G' p k => ?_⟩
  exact z cl dd H' G' ρ p.ext (R.after p) k
/-- f(e, ..), f an own def told by data -/
theorem de_call {f : Addr} {fd : FuncData} {mf : List Ar → M D} {ms : M (List Ar)} {x : Str} {p pos : Pos} {e : Expr} {es : List Expr} {ps : List Str} (C : Ctx c X k) (tk : Takes X W)
    (fn : FnG X.prog X.w X.K X.mg X.base k f fd ps (spD c mf)) (hg : Gl X x) (hm : c.mg x = some (.ref f)) (hk : PySem.W.keepIn c.K (.ref f) = true) (hb : Binds c.K fd ps [])
    (ha : PA X (e :: es) (rdA c F W ρ ms)) (hdb : (x == ("__debug__" : Str)) = false := by decide) (he : starEach (e :: es) X.env = (false, eval e X.env) :: starEach es X.env := by rfl) (hpl : (backTo pos (starEach es X.env)).any (·.1) = false := by rfl) :
    PE X (.Call (.Name x p) (e :: es) [] pos) (rdE c F W ρ (ms >>= mf)) := by
  refine ⟨fun pins s σ H Q I ⟨P, G, R, q⟩ => ?_⟩
  have hx : X.mg x = some (.ref f) := by rw [C.mg]; exact hm
  have kf : PySem.W.keepIn X.K (.ref f) = true := by rw [C.K]; exact hk
  have hb' : Binds X.K fd ps [] := by rw [C.K]; exact hb
  refine wpAny_Call_Name_kw (ld_glob I hg hx ?_ hdb)
  have step := ha.run pos pins s σ H (fun vs H1 => ∃ P1 G1 as, Ext G G1 ∧ Rel c F ρ P1 σ H1 G1 ∧ ArsOk c F G1 vs as ∧ out (mf as) P1 (fun d P' => ∀ v H' G', Ext G1 G' → Rel c F ρ P' σ H' G' → c.rep G' v d → Q v H') (exW c F W P1 G1 σ)) I
    ⟨P, G, R, out_mono (out_bind.mp q) (fun as P1 q1 vs H1 G1 e1 R1 r1 => ⟨P1, G1, as, e1, R1, r1, out_mono q1 (fun d P2 q2 v H2 G2 e2 R2 r2 => q2 v H2 G2 (e1.trans e2) R2 r2) fun _ _ z => exW_le e1 z⟩) fun _ _ z => z⟩
  refine PySem.W.callWith_K (h₀ := X.base) I.ok.mod.kin kf (thn step fun us s1 ⟨vs, H1, I1, rv, P1, G1, as, e1, R1, r1, q1⟩ => ⟨I1.kIn, ?_⟩) he hpl
  exact run_g C.ga C.rm tk fn hb' I1 rv (sp_of R1 r1 q1)
end
inductive Fl (α : Type) where
  | nx (a : α) | rt (d : D) | bk (a : α) | ct (a : α)
section
variable (c : Cn) (F : Fr) (W : WX)
/-- a block, from the slots ρ; E tells the slots behind it -/
def rdS {α : Type} (ρ : List Sl) (E : α → List Sl) (m : M (Fl α)) : TS := fun B σ H => ∃ P G, Rel c F ρ P σ H G ∧ out m P (fun f P' => match f with
    | .nx a => ∀ σ' H' G', Ext G G' → Rel c F (E a) P' σ' H' G' → B.nx σ' H'
    | .bk a => ∀ σ' H' G', Ext G G' → Rel c F (E a) P' σ' H' G' → B.bk σ' H'
    | .ct a => ∀ σ' H' G', Ext G G' → Rel c F (E a) P' σ' H' G' → B.ct σ' H'
    | .rt d => ∀ v H' G' ρ' σ', Ext G G' → Rel c F ρ' P' σ' H' G' → c.rep G' v d → B.rt v H') (exS c F W P G σ)
end
/-- a block that neither breaks nor goes on -/
def thenR {α β : Type} (m : M (Fl α)) (k : α → M (Fl β)) : M (Fl β) := m >>= fun f => match f with
  | .nx a => k a
  | .rt d => Pure.pure (.rt d)
  | _ => M.no
section
variable {c : Cn} {F : Fr} {W : WX} {ρ : List Sl} {X : Cx} {k n : Nat} {α β : Type} {E : α → List Sl} {E' : β → List Sl}
theorem ds_cons {st : Stmt} {rest : List Stmt} {m : M (Fl α)} {k : α → M (Fl β)} (h1 : PS X st (rdS c F W ρ E m)) (h2 : ∀ a, PSs X rest (rdS c F W (E a) E' (k a))) : PSs X (st :: rest) (rdS c F W ρ E' (thenR m k)) := by
  refine ⟨fun pins s σ H B I ⟨P, G, R, q⟩ => ?_⟩
  -- the first statement, then by what it hands on
  have q0 := out_bind.mp q
  have step := h1.run pins s σ H { nx := fun σ' H' => ∃ a P1 G1, Ext G G1 ∧ Rel c F (E a) P1 σ' H' G1 ∧ out (k a) P1 (fun f P' => match f with
    | .nx a => ∀ σ' H' G', Ext G1 G' → Rel c F (E' a) P' σ' H' G' → B.nx σ' H'
    | .bk a => ∀ σ' H' G', Ext G1 G' → Rel c F (E' a) P' σ' H' G' → B.bk σ' H'
    | .ct a => ∀ σ' H' G', Ext G1 G' → Rel c F (E' a) P' σ' H' G' → B.ct σ' H'
    | .rt d => ∀ v H' G' ρ' σ', Ext G1 G' → Rel c F ρ' P' σ' H' G' → c.rep G' v d → B.rt v H') (exS c F W P1 G1 σ'), rt := B.rt } I ⟨P, G, R, out_mono q0 (fun f P1 q1 => ?_) fun _ _ z => z⟩
  · refine wpAny_execs_cons (thn step fun fl s1 z => ?_)
    cases fl with
    | next =>
      obtain ⟨σ1, H1, I1, a, P1, G1, e1, R1, q1⟩ := z
      exact (h2 a).run pins s1 σ1 H1 B I1 ⟨P1, G1, R1, q1⟩
    | ret u => exact z
    | brk => obtain ⟨_, _, _, z⟩ := z; exact z.elim
    | cont => obtain ⟨_, _, _, z⟩ := z; exact z.elim
  · cases f with
    | nx a =>
      intro σ' H' G' e R'
      refine ⟨a, P1, G', e, R', out_mono (show out (k a) P1 _ _ from q1) (fun f P2 q2 => ?_) fun _ _ z => exS_le e z⟩
      cases f with
      | nx b => exact fun σ2 H2 G2 e2 R2 => q2 σ2 H2 G2 (e.trans e2) R2
      | bk b => exact fun σ2 H2 G2 e2 R2 => q2 σ2 H2 G2 (e.trans e2) R2
      | ct b => exact fun σ2 H2 G2 e2 R2 => q2 σ2 H2 G2 (e.trans e2) R2
      | rt d => exact fun v H2 G2 ρ2 σ2 e2 R2 r2 => q2 v H2 G2 ρ2 σ2 (e.trans e2) R2 r2
    | rt d => exact q1
    | bk a => exact (show False from q1).elim
    | ct a => exact (show False from q1).elim
/-- the last statement of a block -/
theorem ds_one {st : Stmt} {m : M (Fl α)} (h : PS X st (rdS c F W ρ E m)) : PSs X [st] (rdS c F W ρ E m) := pss_one h
theorem ds_ret {e : Expr} {pos : Pos} {m : M D} (h : PE X e (rdE c F W ρ m)) : PS X (.Return (some e) pos) (rdS c F W ρ E (m >>= fun d => Pure.pure (.rt d))) := by
  refine ps_by (ps_ret h) fun B σ H ⟨P, G, R, q⟩ => ?_
  exact ⟨P, G, R, out_mono (out_bind.mp q) (fun d P1 q1 v H1 G1 e1 R1 r1 => q1 v H1 G1 ρ σ e1 R1 r1) fun _ _ z => exS.w z⟩
theorem ds_expr {e : Expr} {pos : Pos} {m : M D} {a : α} (h : PE X e (rdE c F W ρ m)) (he : E a = ρ) (hs : swapsWith e none pos.line X.env = pure false := by rfl) : PS X (.Expr e pos) (rdS c F W ρ E (m >>= fun _ => Pure.pure (.nx a))) := by
  refine ps_by (ps_expr h hs) fun B σ H ⟨P, G, R, q⟩ => ?_
  refine ⟨P, G, R, out_mono (out_bind.mp q) (fun d P1 q1 v H1 G1 e1 R1 r1 => ?_) fun _ _ z => exS.w z⟩
  have q' : ∀ σ' H' G', Ext G G' → Rel c F (E a) P1 σ' H' G' → B.nx σ' H' := q1
  exact q' σ H1 G1 e1 (by rw [he]; exact R1)
theorem ds_if {t : Expr} {a b : List Stmt} {pos : Pos} {m : M Bool} {ma mb : M (Fl α)} (h : PT X t (rdT c F W ρ m)) (ha : PSs X a (rdS c F W ρ E ma)) (hb : PSs X b (rdS c F W ρ E mb)) :
    PS X (.If t a b pos) (rdS c F W ρ E (m >>= fun x => if x = true then ma else mb)) := by
  refine ps_by (ps_if h ha hb) fun B σ H ⟨P, G, R, q⟩ => ?_
  refine ⟨P, G, R, out_mono (out_bind.mp q) (fun x P1 q1 H1 G1 e1 R1 => ?_) fun _ _ z => exS.w z⟩
  have go : ∀ {mm : M (Fl α)}, out mm P1 (fun f P' => match f with
    | .nx a => ∀ σ' H' G', Ext G G' → Rel c F (E a) P' σ' H' G' → B.nx σ' H'
    | .bk a => ∀ σ' H' G', Ext G G' → Rel c F (E a) P' σ' H' G' → B.bk σ' H'
    | .ct a => ∀ σ' H' G', Ext G G' → Rel c F (E a) P' σ' H' G' → B.ct σ' H'
    | .rt d => ∀ v H' G' ρ' σ', Ext G G' → Rel c F ρ' P' σ' H' G' → c.rep G' v d → B.rt v H') (exS c F W P G σ) → rdS c F W ρ E mm B σ H1 := fun {mm} z => by
    refine ⟨P1, G1, R1, out_mono z (fun f P2 q2 => ?_) fun _ _ z => exS_le e1 z⟩
    cases f with
    | nx b => exact fun σ2 H2 G2 e2 R2 => q2 σ2 H2 G2 (e1.trans e2) R2
    | bk b => exact fun σ2 H2 G2 e2 R2 => q2 σ2 H2 G2 (e1.trans e2) R2
    | ct b => exact fun σ2 H2 G2 e2 R2 => q2 σ2 H2 G2 (e1.trans e2) R2
    | rt d => exact fun v H2 G2 ρ2 σ2 e2 R2 r2 => q2 v H2 G2 ρ2 σ2 (e1.trans e2) R2 r2
  cases x with
  | true => exact go q1
  | false => exact go q1
/-- a slot is set to a value -/
theorem Rel.set {P : Pot} {σ : L2.St} {H G : Hp} {i : Nat} {v : V} {d : D} (R : Rel c F ρ P σ H G) (r : c.rep G v d) : Rel c F (ρ.set i (.v d)) P (σ.set i (some v)) H G := by
  refine ⟨R.post, by simp [R.len], fun j s x a b => ?_, fun j j' k k' a h1 h2 h3 h4 => ?_⟩
  · rw [List.getElem?_set] at a b
    by_cases e : i = j
    · rw [if_pos e] at a b
      split at a
      · split at b
        · cases a; cases b; exact ⟨v, rfl, r⟩
        · cases b
      · cases a
    · rw [if_neg e] at a b
      exact R.sl j s x a b
  · have ne : ∀ {m : Nat} {kk : Cel}, (ρ.set i (Sl.v d))[m]? = some (.o kk) → i ≠ m := fun {m kk} h e => by
      rw [List.getElem?_set, if_pos e] at h
      split at h <;> cases h
    have n1 := ne h1
    have n2 := ne h2
    rw [List.getElem?_set_ne n1] at h1 h3
    rw [List.getElem?_set_ne n2] at h2 h4
    exact R.ap j j' k k' a h1 h2 h3 h4
/-- name = e -/
theorem ds_set {i : Nat} {x : Str} {e : Expr} {pos pos' : Pos} {m : M D} (hN : X.N.Nodup) (hi : X.N[i]? = some x) (hx : Loc X.env.scope x) (h : PE X e (rdE c F W ρ m)) (hs : swapsWith e (some (.Name x pos')) pos.line X.env = pure false := by rfl) (hf : X.fn x = true ∨ X.env.scope.names.lookup x = some .local := by first | exact .inl rfl | exact .inr rfl | assumption) :
    PS X (.Assign [.Name x pos'] e pos) (rdS c F W ρ (fun d => ρ.set i (.v d)) (m >>= fun d => Pure.pure (.nx d))) := by
  refine ps_by (ps_set hN hi hx h hs hf) fun B σ H ⟨P, G, R, q⟩ => ?_
  refine ⟨P, G, R, out_mono (out_bind.mp q) (fun d P1 q1 v H1 G1 e1 R1 r1 => ?_) fun _ _ z => exS.w z⟩
  have q' : ∀ σ' H' G', Ext G G' → Rel c F (ρ.set i (.v d)) P1 σ' H' G' → B.nx σ' H' := q1
  exact q' _ H1 G1 e1 (R1.set r1)
/-- what is forgotten -/
def Fog : Sl → Sl → Prop
  | _, .un => True
  | a, b => a = b
theorem Rel.fog {P : Pot} {σ : L2.St} {H G : Hp} {ρ' : List Sl} (R : Rel c F ρ P σ H G) (hl : ρ'.length = ρ.length) (h : ∀ (i : Nat) a b, ρ[i]? = some a → ρ'[i]? = some b → Fog a b) : Rel c F ρ' P σ H G := by
  have up : ∀ (i : Nat) s, ρ'[i]? = some s → s ≠ .un → ρ[i]? = some s := fun i s a ne => by
    have hi : i < ρ.length := by rw [← hl]; exact (List.getElem?_eq_some_iff.mp a).1
    have z := h i _ s (List.getElem?_eq_getElem hi) a
    rw [List.getElem?_eq_getElem hi]
    cases s with
    | un => exact absurd rfl ne
    | v d => cases q : ρ[i] <;> rw [q] at z <;> first | exact congrArg some z | cases z
    | o d => cases q : ρ[i] <;> rw [q] at z <;> first | exact congrArg some z | cases z
    | p => cases q : ρ[i] <;> rw [q] at z <;> first | exact congrArg some z | cases z
  refine ⟨R.post, R.len.trans hl.symm, fun i s x a b => ?_, fun i j k k' a h1 h2 h3 h4 => R.ap i j k k' a (up i _ h1 nofun) (up j _ h2 nofun) h3 h4⟩
  cases s with
  | un => exact True.intro
  | v d => exact R.sl i _ x (up i _ a nofun) b
  | o d => exact R.sl i _ x (up i _ a nofun) b
  | p => exact R.sl i _ x (up i _ a nofun) b
end
theorem tabs_upd {T : List (Addr × Str)} {H : Hp} {a : Addr} {o : HO} (t : LamX.Tabs T H) (ha : ∀ u, H a = some u → (∀ ps, u ≠ .tbl ps) ∧ ∀ φ, u ≠ .ext φ) : LamX.Tabs T (upd H a o) := by
  intro p hp
  obtain ⟨ps, h1, h2, h3⟩ := t p hp
  have ne : ∀ b u, H b = some u → (∃ ps, u = .tbl ps) ∨ (∃ φ, u = .ext φ) → b ≠ a := fun b u e k z => by
    subst z
    rcases k with ⟨q, k⟩ | ⟨q, k⟩
    · exact (ha u e).1 q k
    · exact (ha u e).2 q k
  refine ⟨ps, by rw [upd_ne (ne _ _ h1 (.inl ⟨_, rfl⟩))]; exact h1, h2, fun pos cv hc => ?_⟩
  obtain ⟨x, e1, e2⟩ := h3 pos cv hc
  exact ⟨x, e1, by rw [upd_ne (ne _ _ e2 (.inr ⟨_, rfl⟩))]; exact e2⟩
section
variable {c : Cn} {F : Fr} {ρ : List Sl} {P : Pot} {σ : L2.St} {H G : Hp}
theorem Rel.lt_ap (R : Rel c F ρ P σ H G) {a : Addr} (h : F.ap = some a) : ∃ vs, H a = some (.lst vs) := by
  have z := R.post.pot
  rw [h] at z
  cases P with
  | none => exact z.elim
  | some ds => obtain ⟨vs, z, _⟩ := z; exact ⟨vs, z⟩
theorem Rel.ne_ap (R : Rel c F ρ P σ H G) {a : Addr} (h : H a = none) : some a ≠ F.ap := fun z => by
  obtain ⟨vs, e⟩ := R.lt_ap z.symm
  rw [h] at e; cases e
theorem Post.h0 {ap : Option Addr} {G0 H0 : Hp} (p : Post c ap G0 H0 P G H) {a : Addr} (h : H a = none) : Fre H0 a := p.fre (.of h)
theorem PotOk.ext {G' H' : Hp} {ap : Option Addr} (h : PotOk c G H ap P) (e : Ext G G') (k : ∀ a, ap = some a → H' a = H a) (g : ∀ a, ap = some a → G' a = none) : PotOk c G' H' ap P := by
  cases ap with
  | none => cases P <;> exact h
  | some a =>
    cases P with
    | none => exact h
    | some ds => obtain ⟨vs, h1, h2, h3⟩ := h; exact ⟨vs, by rw [k a rfl]; exact h1, h2.mono e, g a rfl⟩
/-- H changes at p alone, where no one looks; G gets what it may -/
theorem Rel.at (R : Rel c F ρ P σ H G) {p : Addr} {o : HO} (hg : G p = none) (h0 : Fre F.H0 p) (na : some p ≠ F.ap) (ht : ∀ u, H p = some u → (∀ ps, u ≠ .tbl ps) ∧ ∀ φ, u ≠ .ext φ)
    (ow : ∀ (i : Nat) k, ρ[i]? = some (.o k) → σ[i]? ≠ some (some (V.ref p))) : Rel c F ρ P σ (upd H p o) G := by
  have ne : ∀ b u, G b = some u → b ≠ p := fun b u e z => by rw [z, hg] at e; cases e
  refine ⟨⟨R.post.ext, fun a u e => ?_, fun b u e n t => ?_, R.post.new, R.post.pot.ext (Ext.refl _) (fun a e => ?_) (fun a e => ?_), tabs_upd R.post.tab ht, R.post.nt⟩, R.len, fun i s x a b => ?_, R.ap⟩
  · rw [upd_ne (ne a u e)]; exact R.post.le a u e
  · rw [upd_ne (fun z => by rw [z] at e; exact h0.no e t)]; exact R.post.fr b u e n t
  · exact upd_ne (fun z => na (by rw [← z, e]))
  · have z := R.post.pot
    rw [e] at z
    cases P with
    | none => exact z.elim
    | some ds => obtain ⟨_, _, _, z⟩ := z; exact z
  · have z := R.sl i s x a b
    cases s with
    | un => exact True.intro
    | v d => exact z
    | p => exact z
    | o k =>
      obtain ⟨ad, e, ⟨u, hu, hk⟩, g, h, q⟩ := z
      subst e
      exact ⟨ad, rfl, ⟨u, by rw [upd_ne (fun w => ow i k a (by rw [b, w]))]; exact hu, hk⟩, g, h, q⟩
/-- an object that no one has is frozen -/
theorem Rel.freeze (R : Rel c F ρ P σ H G) {p : Addr} {o : HO} (hp : H p = some o) (nt : noTbl o) (h0 : Fre F.H0 p) (na : some p ≠ F.ap)
    (ow : ∀ (i : Nat) k, ρ[i]? = some (.o k) → σ[i]? ≠ some (some (V.ref p))) (hg : G p = none) : Rel c F ρ P σ H (upd G p o) ∧ Ext G (upd G p o) := by
  have ne : ∀ b u, G b = some u → b ≠ p := fun b u e z => by rw [z, hg] at e; cases e
  have ex : Ext G (upd G p o) := fun a u e => by rw [upd_ne (ne a u e)]; exact e
  refine ⟨⟨⟨R.post.ext.trans ex, fun a u e => ?_, R.post.fr, fun a e => ?_, R.post.pot.ext ex (fun _ _ => rfl) (fun a e => ?_), R.post.tab, fun a u e => ?_⟩, R.len, fun i s x a b => ?_, R.ap⟩, ex⟩
  · by_cases z : a = p
    · subst z; rw [upd_same] at e; cases e; exact hp
    · rw [upd_ne z] at e; exact R.post.le a u e
  · by_cases z : a = p
    · subst z; exact .inr (.inl h0)
    · rw [upd_ne z] at e
      rcases R.post.new a e with y | y | ⟨vs, y⟩
      · exact .inl y
      · exact .inr (.inl y)
      · exact .inr (.inr ⟨vs, ex _ _ y⟩)
  · rw [upd_ne (fun z => na (by rw [← z, e]))]
    have z := R.post.pot
    rw [e] at z
    cases P with
    | none => exact z.elim
    | some ds => obtain ⟨_, _, _, z⟩ := z; exact z
  · by_cases z : a = p
    · subst z; rw [upd_same] at e; cases e; exact nt
    · rw [upd_ne z] at e; exact R.post.nt a u e
  · have z := R.sl i s x a b
    cases s with
    | un => exact True.intro
    | v d => obtain ⟨v, e, r⟩ := z; exact ⟨v, e, r.mono ex⟩
    | p => exact z
    | o k =>
      obtain ⟨ad, e, ⟨u, hu, hk⟩, g, h, q⟩ := z
      subst e
      have mono : ∀ {vs ds}, c.reps G vs ds → c.reps (upd G p o) vs ds := fun h => h.mono ex
      refine ⟨ad, rfl, ⟨u, hu, ?_⟩, by rw [upd_ne (fun w => ow i k a (by rw [b, w]))]; exact g, h, q⟩
      cases u <;> cases k <;> first | exact hk.elim | exact mono hk | exact ⟨hk.1, mono hk.2⟩ | exact ⟨hk.1, hk.2.1, mono hk.2.2⟩ | exact ⟨hk.1, hk.2.1, hk.2.2.1, mono hk.2.2.2⟩
theorem Rel.own_at (R : Rel c F ρ P σ H G) {p : Addr} (hp : H p = none) (i : Nat) (k : Cel) (h : ρ[i]? = some (.o k)) : σ[i]? ≠ some (some (V.ref p)) := fun z => by
  obtain ⟨a, e, ⟨u, hu, _⟩, _⟩ := R.sl i _ _ h z
  cases e
  rw [hp] at hu; cases hu
theorem Rel.own_fre (R : Rel c F ρ P σ H G) {p : Addr} (hp : Fre H p) (i : Nat) (k : Cel) (h : ρ[i]? = some (.o k)) : σ[i]? ≠ some (some (V.ref p)) := fun z => by
  obtain ⟨a, e, ⟨u, hu, hk⟩, _⟩ := R.sl i _ _ h z
  cases e
  refine hp.no hu fun ps e2 => ?_
  subst e2
  cases k <;> exact hk
theorem Post.g_none {ap : Option Addr} {G0 H0 : Hp} (p : Post c ap G0 H0 P G H) {a : Addr} (h : H a = none) : G a = none := by
  cases e : G a with
  | none => rfl
  | some o => rw [p.le a o e] at h; cases h
/-- a new object, frozen at once -/
theorem Rel.new (R : Rel c F ρ P σ H G) {p : Addr} {o : HO} (hp : H p = none) (nt : noTbl o) : Rel c F ρ P σ (upd H p o) (upd G p o) ∧ Ext G (upd G p o) := by
  have R1 := R.at (p := p) (o := o) (R.post.g_none hp) (R.post.h0 hp) (R.ne_ap hp) (fun u e => by rw [hp] at e; cases e) (R.own_at hp)
  exact R1.freeze upd_same nt (R.post.h0 hp) (R.ne_ap hp) (R.own_at hp) (R.post.g_none hp)
/-- a new object that nobody has yet -/
theorem Rel.newM (R : Rel c F ρ P σ H G) {p : Addr} {o : HO} (hp : H p = none) : Rel c F ρ P σ (upd H p o) G :=
  R.at (p := p) (o := o) (R.post.g_none hp) (R.post.h0 hp) (R.ne_ap hp) (fun u e => by rw [hp] at e; cases e) (R.own_at hp)
theorem nt_lst {xs : List V} : noTbl (.lst xs) := fun _ h => nomatch h
theorem nt_tup {xs : List V} : noTbl (.tup xs) := fun _ h => nomatch h
theorem nt_dK {xs : List (Key × V)} : noTbl (.dK xs) := fun _ h => nomatch h
theorem nt_ins {C dx : Addr} {fs : List (Str × V)} : noTbl (.ins C dx fs) := fun _ h => nomatch h
end
section
variable {c : Cn} {F : Fr} {W : WX} {ρ : List Sl} {X : Cx} {P : Pot} {σ : L2.St} {H G : Hp}
def mkL (ds : List D) : M D := if ds.length ≤ sizeLine then Pure.pure (.lst ds) else M.no
def mkT (ds : List D) : M D := if ds.length ≤ sizeLine then Pure.pure (.tup ds) else M.no
theorem ArsOk.reps {G : Hp} : ∀ {vs : List V} {as : List Ar} {P : Pot} {ok : List D → Pot → Prop} {ex : Ex → Pot → Prop}, ArsOk c F G vs as → out (DL.vals as) P ok ex → ∃ ds, c.reps G vs ds ∧ ok ds P
  | [], [], _, _, _, _, q => ⟨[], Reps.nil, q⟩
  | v :: vs, .v d :: as, P, ok, ex, ⟨h, t⟩, q => by
    obtain ⟨ds, r, q⟩ := ArsOk.reps t (out_bind.mp q)
    exact ⟨d :: ds, Reps.cons h r, q⟩
  | _ :: _, .p :: _, _, _, _, _, q => q.elim
theorem de_lst {es : List Expr} {pos : Pos} {ms : M (List Ar)} (h : PA X es (rdA c F W ρ ms)) : PE X (.List es pos) (rdE c F W ρ (ms >>= fun as => DL.vals as >>= mkL)) := by
  refine pe_by (pe_lst h) fun σ H Q ⟨P, G, R, q⟩ => ?_
  refine ⟨P, G, R, out_mono (out_bind.mp q) (fun as P1 q1 vs H1 G1 e1 R1 r1 => ?_) fun _ _ z => z⟩
  obtain ⟨ds, r, q2⟩ := r1.reps (out_bind.mp q1)
  unfold mkL at q2
  by_cases hz : ds.length ≤ sizeLine
  · rw [if_pos hz] at q2
    refine ⟨by rw [r.1]; exact hz, fun p hp => ?_⟩
    obtain ⟨R2, e2⟩ := R1.new hp (o := .lst vs) nt_lst
    exact q2 (.ref p) _ _ (e1.trans e2) R2 (.lst upd_same r.1 fun i v d a b => (r.2 i v d a b).mono e2)
  · rw [if_neg hz] at q2; exact q2.elim
theorem de_tup {es : List Expr} {k : Nat} {pos : Pos} {ms : M (List Ar)} (h : PA X es (rdA c F W ρ ms)) : PE X (.Tuple es k pos) (rdE c F W ρ (ms >>= fun as => DL.vals as >>= mkT)) := by
  refine pe_by (pe_tup h) fun σ H Q ⟨P, G, R, q⟩ => ?_
  refine ⟨P, G, R, out_mono (out_bind.mp q) (fun as P1 q1 vs H1 G1 e1 R1 r1 => ?_) fun _ _ z => z⟩
  obtain ⟨ds, r, q2⟩ := r1.reps (out_bind.mp q1)
  unfold mkT at q2
  by_cases hz : ds.length ≤ sizeLine
  · rw [if_pos hz] at q2
    refine ⟨by rw [r.1]; exact hz, fun p hp => ?_⟩
    obtain ⟨R2, e2⟩ := R1.new hp (o := .tup vs) nt_tup
    exact q2 (.ref p) _ _ (e1.trans e2) R2 (.tup (SqT.of upd_same) r.1 fun i v d a b => (r.2 i v d a b).mono e2)
  · rw [if_neg hz] at q2; exact q2.elim
/-- a built-in by its values: r what it asks, f what it gives -/
def CallD (c : Cn) (r : List V → Hp → VK → Prop) (f : List D → M D) : Prop := ∀ F ρ W P σ H G vs ds Q, Rel c F ρ P σ H G → c.reps G vs ds →
  out (f ds) P (fun d P' => ∀ v H' G', Ext G G' → Rel c F ρ P' σ H' G' → c.rep G' v d → Q v H') (exW c F W P G σ) → r vs H Q
theorem call_rd {r : List V → Hp → VK → Prop} {f : List D → M D} {ms : M (List Ar)} (hf : CallD c r f) {Q : VK} (h : rdE c F W ρ (ms >>= fun as => DL.vals as >>= f) σ H Q) : tCB r (rdA c F W ρ ms) σ H Q := by
  obtain ⟨P, G, R, q⟩ := h
  refine ⟨P, G, R, out_mono (out_bind.mp q) (fun as P1 q1 vs H1 G1 e1 R1 r1 => ?_) fun _ _ z => z⟩
  obtain ⟨ds, rr, q2⟩ := r1.reps (out_bind.mp q1)
  exact hf F ρ W P1 σ H1 G1 vs ds Q R1 rr (out_mono q2 (fun d P3 q3 v3 H3 G3 e3 R3 r3 => q3 v3 H3 G3 (e1.trans e3) R3 r3) fun _ _ z => exW_le e1 z)
theorem de_blt {id : String} {r : List V → Hp → VK → Prop} {f : List D → M D} {ms : M (List Ar)} {x : Str} {p pos : Pos} {e : Expr} {es : List Expr} (hc : CallR X (.builtin id) r) (hf : CallD c r f) (hg : Gl X x) (hm : X.mg x = none) (hv : bootBuiltins x = some (.builtin id)) (ha : PA X (e :: es) (rdA c F W ρ ms))
    (hn : x ≠ "__name__" := by decide) (hdb : (x == ("__debug__" : Str)) = false := by decide) (he : starEach (e :: es) X.env = (false, eval e X.env) :: starEach es X.env := by rfl) (hpl : (backTo pos (starEach es X.env)).any (·.1) = false := by rfl) :
    PE X (.Call (.Name x p) (e :: es) [] pos) (rdE c F W ρ (ms >>= fun as => DL.vals as >>= f)) := pe_by (pe_callB hc hg hm hv ha hn hdb he hpl) fun _ _ _ => call_rd hf
theorem de_ty {T : String} {r : List V → Hp → VK → Prop} {f : List D → M D} {ms : M (List Ar)} {x : Str} {p pos : Pos} {e : Expr} {es : List Expr} (hc : CallR X (.type T) r) (hf : CallD c r f) (hg : Gl X x) (hm : X.mg x = none) (hv : bootBuiltins x = some (.type T)) (ha : PA X (e :: es) (rdA c F W ρ ms))
    (hn : x ≠ "__name__" := by decide) (hdb : (x == ("__debug__" : Str)) = false := by decide) (he : starEach (e :: es) X.env = (false, eval e X.env) :: starEach es X.env := by rfl) (hpl : (backTo pos (starEach es X.env)).any (·.1) = false := by rfl) :
    PE X (.Call (.Name x p) (e :: es) [] pos) (rdE c F W ρ (ms >>= fun as => DL.vals as >>= f)) := pe_by (pe_callTy hc hg hm hv ha hn hdb he hpl) fun _ _ _ => call_rd hf
end
/-- what the iterator yields: ds, one by one -/
def Goes (c : Cn) (J : It) (ds : List D) (G1 : Hp) : Prop := ∀ (F : Fr) (ρ : List Sl) (i : Nat) (P : Pot) (σ : L2.St) (H G : Hp), Ext G1 G → Rel c F ρ P σ H G →
  (ds.length = i → J.stop i H) ∧ ∀ d, ds[i]? = some d → J.go i H ∧ ∀ x H', J.yld i H x H' → ∃ G', Ext G G' ∧ Rel c F ρ P σ H' G' ∧ c.rep G' x d
section
variable (c : Cn) (F : Fr) (W : WX) (ρ : List Sl)
def rdI (m : M (List D)) : TI := fun σ H R => ∃ P G, Rel c F ρ P σ H G ∧ out m P (fun ds P' => ∀ J H' G', Ext G G' → Rel c F ρ P' σ H' G' → Goes c J ds G' → R J H') (exW c F W P G σ)
/-- a target: which slots come of the value -/
def rdG (t : D → Option (List Sl)) : TG := fun v σ H Q => ∃ P G d ρ', Rel c F ρ P σ H G ∧ c.rep G v d ∧ t d = some ρ' ∧ ∀ σ' H' G', Ext G G' → Rel c F ρ' P σ' H' G' → Q σ' H'
end
section
variable {c : Cn} {F : Fr} {W : WX} {ρ : List Sl} {X : Cx} {tg : Expr}
theorem pi_or {iter : Expr} {w w' : TI} (h : PI X tg iter w) (h' : PI X tg iter w') : PI X tg iter (fun σ H R => w σ H R ∨ w' σ H R) :=
  ⟨fun pins s σ H R I q => q.elim (h.run pins s σ H R I) (h'.run pins s σ H R I)⟩
theorem pi_by {iter : Expr} {w w' : TI} (h : PI X tg iter w) (k : ∀ σ H R, w' σ H R → w σ H R) : PI X tg iter w' := ⟨fun pins s σ H R I q => h.run pins s σ H R I (k σ H R q)⟩
theorem pg_by {t t' : TG} (h : PG X tg t) (k : ∀ v σ H Q, t' v σ H Q → t v σ H Q) : PG X tg t' := ⟨fun pins s σ H v u Q I r q => h.run pins s σ H v u Q I r (k v σ H Q q)⟩
/-- what a for walks, by the value -/
def iterD : D → M (List D)
  | .lst ds => Pure.pure ds
  | .tup ds => Pure.pure ds
  | .scr ns => Pure.pure (ns.map .int)
  | _ => M.no
theorem goes_lst {a : Addr} {vs : List V} {ds : List D} {G : Hp} {K : PySem.W.Frag} (h : SqL K G a vs) (r : c.reps G vs ds) (hK : K = c.K) : Goes c (Itl K a) ds G := by
  intro F ρ i P σ H G1 e R
  have hL : SqL K H a vs := Evl.ex_l (e.trans R.post.le) h
  refine ⟨fun hi => ⟨vs, hL, by rw [r.1]; exact Nat.le_of_eq hi⟩, fun d hd => ?_⟩
  obtain ⟨v, hv, rv⟩ := r.get hd
  refine ⟨⟨vs, v, hL, hv⟩, fun x H' y => ?_⟩
  obtain ⟨rfl, y⟩ := y
  have := y vs hL
  rw [hv] at this
  cases this
  exact ⟨G1, Ext.refl _, R, rv.mono e⟩
theorem goes_tup {a : Addr} {vs : List V} {ds : List D} {G : Hp} {K : PySem.W.Frag} (h : SqT K G a vs) (r : c.reps G vs ds) (hK : K = c.K) : Goes c (Itt K a) ds G := by
  intro F ρ i P σ H G1 e R
  have hL : SqT K H a vs := Evl.ex_t (e.trans R.post.le) h
  refine ⟨fun hi => ⟨vs, hL, by rw [r.1]; exact Nat.le_of_eq hi⟩, fun d hd => ?_⟩
  obtain ⟨v, hv, rv⟩ := r.get hd
  refine ⟨⟨vs, v, hL, hv⟩, fun x H' y => ?_⟩
  obtain ⟨rfl, y⟩ := y
  have := y vs hL
  rw [hv] at this
  cases this
  exact ⟨G1, Ext.refl _, R, rv.mono e⟩
theorem reps_ints {G : Hp} : ∀ ns : List Int, c.reps G (ns.map V.int) (ns.map D.int)
  | [] => Reps.nil
  | n :: ns => Reps.cons (.int n) (reps_ints ns)
/-- over a list, a tuple, the script -/
theorem di_seq {e : Expr} {m : M D} (hK : X.K = c.K) (h : PE X e (rdE c F W ρ m)) : PI X tg e (rdI c F W ρ (m >>= iterD)) := by
  refine pi_by (pi_or (pi_list h) (pi_tup h)) fun σ H R q => ?_
  obtain ⟨P, G, Rl, q⟩ := q
  have q' := out_bind.mp q
  cases e : m P with
  | no => unfold out at q'; rw [e] at q'; exact q'.elim
  | ex x p =>
    refine .inl ⟨P, G, Rl, ?_⟩
    unfold out at q' ⊢
    rw [e] at q' ⊢
    exact q'
  | ok d p =>
    unfold out at q'
    rw [e] at q'
    cases d with
    | lst ds =>
      refine .inl ⟨P, G, Rl, ?_⟩
      unfold out
      rw [e]
      intro v H1 G1 e1 R1 r1
      cases r1 with
      | lst ha hl hr => exact ⟨_, rfl, ⟨_, SqL.of (R1.post.le _ _ ha)⟩, q' _ H1 G1 e1 R1 (goes_lst (SqL.of ha) ⟨hl, hr⟩ hK)⟩
    | tup ds =>
      refine .inr ⟨P, G, Rl, ?_⟩
      unfold out
      rw [e]
      intro v H1 G1 e1 R1 r1
      cases r1 with
      | tup ha hl hr => rw [← hK] at ha; exact ⟨_, rfl, ⟨_, Evl.ex_t R1.post.le ha⟩, q' _ H1 G1 e1 R1 (goes_tup ha ⟨hl, hr⟩ hK)⟩
    | scr ns =>
      refine .inl ⟨P, G, Rl, ?_⟩
      unfold out
      rw [e]
      intro v H1 G1 e1 R1 r1
      cases r1 with
      | scr ha => rw [← hK] at ha; exact ⟨_, rfl, ⟨_, Evl.ex_l R1.post.le ha⟩, q' _ H1 G1 e1 R1 (goes_lst ha (reps_ints ns) hK)⟩
    | _ => exact q'.elim
theorem goes_rng (lo : Int) (n : Nat) (G : Hp) : Goes c (Itr lo n) ((List.range n).map fun i => .int (lo + (i : Nat))) G := by
  intro F ρ i P σ H G1 e R
  refine ⟨fun hi => (show n ≤ i by simpa using Nat.le_of_eq hi), fun d hd => ?_⟩
  have hi : i < n := by
    have := (List.getElem?_eq_some_iff.mp hd).1
    simpa using this
  refine ⟨hi, fun x H' y => ?_⟩
  obtain ⟨rfl, rfl⟩ := y
  rw [List.getElem?_map, List.getElem?_range hi] at hd
  cases hd
  exact ⟨G1, Ext.refl _, R, .int _⟩
def rngs (lo hi : Int) : List D := (List.range (hi - lo).toNat).map fun i => .int (lo + (i : Nat))
def rng1 : List Ar → M (List D)
  | [.v (.int j)] => if -(2 ^ 62) ≤ j ∧ j < 2 ^ 62 then Pure.pure (rngs 0 j) else M.no
  | _ => M.no
theorem di_rng1 {a : Expr} {ms : M (List Ar)} {p pos : Pos} (hg : Gl X "range") (hm : X.mg "range" = none) (ha : PA X [a] (rdA c F W ρ ms)) (hs : starEach [a] X.env = [(false, eval a X.env)] := by rfl) : PI X tg (.Call (.Name "range" p) [a] [] pos) (rdI c F W ρ (ms >>= rng1)) := by
  refine pi_by (pi_range1 hg hm ha hs) fun σ H R ⟨P, G, Rl, q⟩ => ?_
  refine ⟨P, G, Rl, out_mono (out_bind.mp q) (fun as P1 q1 vs H1 G1 e1 R1 r1 => ?_) fun _ _ z => z⟩
  unfold rng1 at q1
  split at q1
  · rename_i j
    split at q1
    · rename_i hb
      obtain ⟨v, rfl⟩ : ∃ v, vs = [v] := by
        match vs, r1 with
        | [v], _ => exact ⟨v, rfl⟩
      have rv : c.rep G1 v (.int j) := r1.1
      rw [rv.int_of]
      refine ⟨j, rfl, hb.1, hb.2, q1 _ H1 G1 e1 R1 ?_⟩
      have := goes_rng (c := c) 0 j.toNat G1
      show Goes c (Itr 0 j.toNat) (rngs 0 j) G1
      unfold rngs
      rw [Int.sub_zero]
      exact this
    · exact q1.elim
  · exact q1.elim
theorem dg_name {i : Nat} {x : Str} {pos : Pos} (hN : X.N.Nodup) (hi : X.N[i]? = some x) (hx : Loc X.env.scope x) (hf : X.fn x = true ∨ X.env.scope.names.lookup x = some .local := by first | exact .inl rfl | exact .inr rfl | assumption) :
    PG X (.Name x pos) (rdG c F ρ fun d => some (ρ.set i (.v d))) := by
  refine pg_by (pg_name hN hi hx hf) fun v σ H Q ⟨P, G, d, ρ', R, r, e, q⟩ => ?_
  cases e
  exact q _ H G (Ext.refl _) (R.set r)
def setAll : List Sl → List Nat → List D → Option (List Sl)
  | ρ, [], [] => some ρ
  | ρ, i :: is, d :: ds => setAll (ρ.set i (.v d)) is ds
  | _, _, _ => none
def tupS (ρ : List Sl) (is : List Nat) : D → Option (List Sl)
  | .tup ds => setAll ρ is ds
  | _ => none
/-- the slots of several names -/
def gNames : List Nat → TGs
  | [] => gNil
  | i :: is => gCons (gName i) (gNames is)
theorem names_rd {P : Pot} : ∀ {is : List Nat} {ρ ρ' : List Sl} {σ : L2.St} {H G : Hp} {vs : List V} {ds : List D} {Q : L2.St → Hp → Prop}, Rel c F ρ P σ H G → c.reps G vs ds → setAll ρ is ds = some ρ' →
    (∀ σ' H' G', Ext G G' → Rel c F ρ' P σ' H' G' → Q σ' H') → gNames is vs σ H Q
  | [], ρ, ρ', σ, H, G, vs, [], Q, R, r, e, q => by
    cases e
    exact ⟨r.nil_of', q σ H G (Ext.refl _) R⟩
  | i :: is, ρ, ρ', σ, H, G, [], d :: ds, Q, R, r, e, q => by have := r.1; simp at this
  | i :: is, ρ, ρ', σ, H, G, v :: vs, d :: ds, Q, R, r, e, q => ⟨v, vs, rfl, names_rd (R.set r.head) r.tail e q⟩
  | [], _, _, _, _, _, _, _ :: _, _, _, _, e, _ => nomatch e
  | _ :: _, _, _, _, _, _, _, [], _, _, _, e, _ => nomatch e
theorem setAll_len : ∀ {is : List Nat} {ρ ρ' : List Sl} {ds : List D}, setAll ρ is ds = some ρ' → ds.length = is.length
  | [], _, _, [], _ => rfl
  | _ :: is, ρ, ρ', _ :: ds, e => by simp [setAll_len (is := is) (ds := ds) e]
  | [], _, _, _ :: _, e => nomatch e
  | _ :: _, _, _, [], e => nomatch e
theorem dg_tup {es : List Expr} {k : Nat} {pos : Pos} {is : List Nat} (hK : X.K = c.K) (hc : X.calm = true) (h : PGs X es (gNames is)) (hn : (assignEach es X.env).length = is.length := by rfl) (hst : (assignEach es X.env).findIdx? (·.1) = none := by rfl) :
    PG X (.Tuple es k pos) (rdG c F ρ (tupS ρ is)) := by
  refine pg_by (pg_tup hc h hn hst) fun v σ H Q ⟨P, G, d, ρ', R, r, e, q⟩ => ?_
  cases d with
  | tup ds =>
    cases r with
    | tup ha hl hr =>
      rw [← hK] at ha
      exact ⟨_, _, rfl, Evl.ex_t R.post.le ha, hl.trans (setAll_len e), names_rd R ⟨hl, hr⟩ e q⟩
  | _ => exact nomatch e
end
/-- a for: b is its body, a what it carries -/
def forF {α : Type} (b : α → D → M (Fl α)) : List D → α → M (Fl α)
  | [], a => Pure.pure (.nx a)
  | d :: ds, a => b a d >>= fun f => match f with
    | .nx a => forF b ds a
    | .ct a => forF b ds a
    | .bk a => Pure.pure (.nx a)
    | .rt d => Pure.pure (.rt d)
section
variable {c : Cn} {F : Fr} {W : WX} {ρ : List Sl} {X : Cx} {α : Type} {E : α → List Sl}
/-- what is wanted behind a block, from the base G -/
def ends (c : Cn) (F : Fr) (E : α → List Sl) (B : Ends) (G : Hp) : Fl α → Pot → Prop := fun f P' => match f with
    | .nx a => ∀ σ' H' G', Ext G G' → Rel c F (E a) P' σ' H' G' → B.nx σ' H'
    | .bk a => ∀ σ' H' G', Ext G G' → Rel c F (E a) P' σ' H' G' → B.bk σ' H'
    | .ct a => ∀ σ' H' G', Ext G G' → Rel c F (E a) P' σ' H' G' → B.ct σ' H'
    | .rt d => ∀ v H' G' ρ' σ', Ext G G' → Rel c F ρ' P' σ' H' G' → c.rep G' v d → B.rt v H'
theorem ends_le {B : Ends} {G G' : Hp} (e : Ext G G') {f : Fl α} {P : Pot} (h : ends c F E B G f P) : ends c F E B G' f P := by
  cases f with
  | nx b => exact fun σ2 H2 G2 e2 R2 => h σ2 H2 G2 (e.trans e2) R2
  | bk b => exact fun σ2 H2 G2 e2 R2 => h σ2 H2 G2 (e.trans e2) R2
  | ct b => exact fun σ2 H2 G2 e2 R2 => h σ2 H2 G2 (e.trans e2) R2
  | rt d => exact fun v H2 G2 ρ2 σ2 e2 R2 r2 => h v H2 G2 ρ2 σ2 (e.trans e2) R2 r2
theorem ds_for {tg iter : Expr} {body : List Stmt} {pos : Pos} {mi : M (List D)} {a₀ : α} {b : α → D → M (Fl α)} {t : α → D → Option (List Sl)} (hp : PassesOwn (model X.prog X.w) X.A X.env X.xe) (hc : X.calm = true)
    (hρ : ∀ {P σ H G}, Rel c F ρ P σ H G → Rel c F (E a₀) P σ H G)
    (hi : PI X tg iter (rdI c F W ρ mi)) (hg : PG X tg (fun v σ H Q => ∃ a, rdG c F (E a) (t a) v σ H Q)) (ht : ∀ a d, t a d = none → b a d = M.no) (hb : PSs X body (fun B σ H => ∃ a d ρ', t a d = some ρ' ∧ rdS c F W ρ' E (b a d) B σ H))
    (hs : ∀ x, foldedSetIterable iter X.env x = pure x := by intro _; rfl) :
    PS X (.For tg iter body [] pos) (rdS c F W ρ E (mi >>= fun ds => forF b ds a₀)) := by
  refine ps_by (ps_for hp hc hi hg hb hs) fun B σ H ⟨P, G, R, q⟩ => ?_
  refine ⟨P, G, R, out_mono (out_bind.mp q) (fun ds P1 q1 J H1 G1 e1 R1 go => ?_) fun _ _ z => exS.w z⟩
  refine ⟨fun i m σ H => m = ds.length - i ∧ i ≤ ds.length ∧ ∃ a P' G', Ext G1 G' ∧ Rel c F (E a) P' σ H G' ∧ out (forF b (ds.drop i) a) P' (ends c F E B G') (exS c F W P' G' σ),
    ⟨ds.length, by simp, Nat.zero_le _, a₀, P1, G1, Ext.refl _, hρ R1, out_mono q1 (fun f p z => ends_le e1 z) fun _ _ z => exS_le e1 z⟩, ?_⟩
  rintro i m σ2 H2 ⟨rfl, hi2, a, P2, G2, e2, R2, q2⟩
  by_cases hl : i < ds.length
  · have hd : ds[i]? = some ds[i] := List.getElem?_eq_getElem hl
    obtain ⟨g1, g2⟩ := (go F (E a) i P2 σ2 H2 G2 e2 R2).2 _ hd
    rw [List.drop_eq_getElem_cons hl] at q2
    have q3 := out_bind.mp q2
    refine .inr ⟨g1, fun σ' H' => ∃ a P' G', Ext G2 G' ∧ Rel c F (E a) P' σ' H' G' ∧ out (forF b (ds.drop (i + 1)) a) P' (ends c F E B G') (exS c F W P' G' σ'),
      fun σ' H' ⟨a', P', G', e', R', q'⟩ => ⟨ds.length - (i + 1), by omega, rfl, hl, a', P', G', e2.trans e', R', q'⟩, fun x H3 y => ?_⟩
    obtain ⟨G3, e3, R3, r3⟩ := g2 x H3 y
    refine ⟨a, ?_⟩
    cases hh : t a ds[i] with
    | none => rw [ht _ _ hh] at q3; exact q3.elim
    | some ρ' =>
      refine ⟨P2, G3, ds[i], ρ', R3, r3, hh, fun σ4 H4 G4 e4 R4 => ?_⟩
      refine ⟨a, ds[i], ρ', hh, P2, G4, R4, out_mono q3 (fun f P5 q5 => ?_) fun _ _ z => exS_le (e3.trans e4) z⟩
      have e24 := e3.trans e4
      cases f with
      | nx a' => exact fun σ6 H6 G6 e6 R6 => ⟨a', P5, G6, e24.trans e6, R6, out_mono q5 (fun f p z => ends_le (e24.trans e6) z) fun _ _ z => exS_le (e24.trans e6) z⟩
      | ct a' => exact fun σ6 H6 G6 e6 R6 => ⟨a', P5, G6, e24.trans e6, R6, out_mono q5 (fun f p z => ends_le (e24.trans e6) z) fun _ _ z => exS_le (e24.trans e6) z⟩
      | bk a' => exact fun σ6 H6 G6 e6 R6 => (show ∀ σ' H' G', Ext G2 G' → Rel c F (E a') P5 σ' H' G' → B.nx σ' H' from q5) σ6 H6 G6 (e24.trans e6) R6
      | rt d => exact fun v H6 G6 ρ6 σ6 e6 R6 r6 => (show ∀ v H' G' ρ' σ', Ext G2 G' → Rel c F ρ' P5 σ' H' G' → c.rep G' v d → B.rt v H' from q5) v H6 G6 ρ6 σ6 (e24.trans e6) R6 r6
  · have ei : i = ds.length := by omega
    subst ei
    rw [List.drop_eq_nil_of_le (Nat.le_refl _)] at q2
    exact .inl ⟨(go F (E a) _ P2 σ2 H2 G2 e2 R2).1 rfl, (show ∀ σ' H' G', Ext G2 G' → Rel c F (E a) P2 σ' H' G' → B.nx σ' H' from q2) σ2 H2 G2 (Ext.refl _) R2⟩
/-- a while, at most n turns -/
def whileF (t : α → M Bool) (b : α → M (Fl α)) : Nat → α → M (Fl α)
  | 0, _ => M.no
  | n + 1, a => t a >>= fun x => if x = true then b a >>= fun f => match f with
    | .nx a => whileF t b n a
    | .ct a => whileF t b n a
    | .bk a => Pure.pure (.nx a)
    | .rt d => Pure.pure (.rt d)
    else Pure.pure (.nx a)
theorem ds_while {te : Expr} {body : List Stmt} {pos : Pos} {a₀ : α} {b : α → M (Fl α)} {t : α → M Bool} {n : Nat} (hp : PassesOwn (model X.prog X.w) X.A X.env X.xe)
    (hρ : ∀ {P σ H G}, Rel c F ρ P σ H G → Rel c F (E a₀) P σ H G)
    (ht : PT X te (fun σ H Q => ∃ a, rdT c F W (E a) (t a) σ H Q)) (hb : PSs X body (fun B σ H => ∃ a, rdS c F W (E a) E (b a) B σ H)) :
    PS X (.While te body [] pos) (rdS c F W ρ E (whileF t b n a₀)) := by
  refine ps_by (ps_while hp ht hb) fun B σ H ⟨P, G, R, q⟩ => ?_
  refine ⟨fun m σ H => ∃ a P' G', Rel c F (E a) P' σ H G' ∧ out (whileF t b m a) P' (ends c F E B G') (exS c F W P' G' σ), ⟨n, a₀, P, G, hρ R, q⟩, ?_⟩
  rintro m σ2 H2 ⟨a, P2, G2, R2, q2⟩
  cases m with
  | zero => exact q2.elim
  | succ m =>
    refine ⟨a, P2, G2, R2, out_mono (out_bind.mp q2) (fun x P3 q3 H3 G3 e3 R3 => ?_) fun _ _ z => exS.w z⟩
    cases x with
    | false => exact (show ∀ σ' H' G', Ext G2 G' → Rel c F (E a) P3 σ' H' G' → B.nx σ' H' from q3) σ2 H3 G3 e3 R3
    | true =>
      refine ⟨fun σ' H' => ∃ a P' G', Rel c F (E a) P' σ' H' G' ∧ out (whileF t b m a) P' (ends c F E B G') (exS c F W P' G' σ'), fun σ' H' z => ⟨m, Nat.lt_succ_self m, z⟩, ?_⟩
      have q4 := out_bind.mp (show out (b a >>= fun f => match f with
        | .nx a => whileF t b m a
        | .ct a => whileF t b m a
        | .bk a => Pure.pure (.nx a)
        | .rt d => Pure.pure (.rt d)) P3 (ends c F E B G2) (exS c F W P2 G2 σ2) from q3)
      refine ⟨a, P3, G3, R3, out_mono q4 (fun f P5 q5 => ?_) fun _ _ z => exS_le e3 z⟩
      cases f with
      | nx a' => exact fun σ6 H6 G6 e6 R6 => ⟨a', P5, G6, R6, out_mono q5 (fun f p z => ends_le (e3.trans e6) z) fun _ _ z => exS_le (e3.trans e6) z⟩
      | ct a' => exact fun σ6 H6 G6 e6 R6 => ⟨a', P5, G6, R6, out_mono q5 (fun f p z => ends_le (e3.trans e6) z) fun _ _ z => exS_le (e3.trans e6) z⟩
      | bk a' => exact fun σ6 H6 G6 e6 R6 => (show ∀ σ' H' G', Ext G2 G' → Rel c F (E a') P5 σ' H' G' → B.nx σ' H' from q5) σ6 H6 G6 (e3.trans e6) R6
      | rt d => exact fun v H6 G6 ρ6 σ6 e6 R6 r6 => (show ∀ v H' G' ρ' σ', Ext G2 G' → Rel c F ρ' P5 σ' H' G' → c.rep G' v d → B.rt v H' from q5) v H6 G6 ρ6 σ6 (e3.trans e6) R6 r6
end
/-- from derivations for every a to one reading -/
theorem pss_ex {X : Cx} {b : List Stmt} {ι : Sort _} {t : ι → TS} (h : ∀ a, PSs X b (t a)) : PSs X b (fun B σ H => ∃ a, t a B σ H) := ⟨fun pins s σ H D I ⟨a, q⟩ => (h a).run pins s σ H D I q⟩
theorem pt_ex {X : Cx} {e : Expr} {ι : Sort _} {t : ι → TT} (h : ∀ a, PT X e (t a)) : PT X e (fun σ H Q => ∃ a, t a σ H Q) := ⟨fun pins s σ H Q I ⟨a, q⟩ => (h a).run pins s σ H Q I q⟩
theorem pg_ex {X : Cx} {e : Expr} {ι : Sort _} {t : ι → TG} (h : ∀ a, PG X e (t a)) : PG X e (fun v σ H Q => ∃ a, t a v σ H Q) := ⟨fun pins s σ H v u Q I r ⟨a, q⟩ => (h a).run pins s σ H v u Q I r q⟩
theorem pss_for {c : Cn} {F : Fr} {W : WX} {X : Cx} {α : Type} {E : α → List Sl} {body : List Stmt} {t : α → D → Option (List Sl)} {b : α → D → M (Fl α)} (h : ∀ a d ρ', t a d = some ρ' → PSs X body (rdS c F W ρ' E (b a d))) :
    PSs X body (fun B σ H => ∃ a d ρ', t a d = some ρ' ∧ rdS c F W ρ' E (b a d) B σ H) := ⟨fun pins s σ H D I ⟨a, d, ρ', e, q⟩ => (h a d ρ' e).run pins s σ H D I q⟩
/-- the parts of a value that a target takes -/
def un2 {β : Type} (k : D → D → M β) : D → M β
  | .tup [x, y] => k x y
  | _ => M.no
def un3 {β : Type} (k : D → D → D → M β) : D → M β
  | .tup [x, y, z] => k x y z
  | _ => M.no
theorem un2_no {β : Type} {k : D → D → M β} {ρ : List Sl} {i j : Nat} {d : D} (h : tupS ρ [i, j] d = none) : un2 k d = M.no := by
  cases d with
  | tup ds => match ds, h with
    | [], _ => rfl
    | [_], _ => rfl
    | [_, _], h => exact nomatch h
    | _ :: _ :: _ :: _, _ => rfl
  | _ => rfl
theorem un3_no {β : Type} {k : D → D → D → M β} {ρ : List Sl} {i j l : Nat} {d : D} (h : tupS ρ [i, j, l] d = none) : un3 k d = M.no := by
  cases d with
  | tup ds => match ds, h with
    | [], _ => rfl
    | [_], _ => rfl
    | [_, _], _ => rfl
    | [_, _, _], h => exact nomatch h
    | _ :: _ :: _ :: _ :: _, _ => rfl
  | _ => rfl
theorem tupS2 {ρ ρ' : List Sl} {i j : Nat} {d : D} (h : tupS ρ [i, j] d = some ρ') : ∃ x y, d = .tup [x, y] ∧ ρ' = (ρ.set i (.v x)).set j (.v y) := by
  cases d with
  | tup ds => match ds, h with
    | [], h => exact nomatch h
    | [_], h => exact nomatch h
    | [x, y], h => cases h; exact ⟨x, y, rfl, rfl⟩
    | _ :: _ :: _ :: _, h => exact nomatch h
  | _ => exact nomatch h
theorem tupS3 {ρ ρ' : List Sl} {i j l : Nat} {d : D} (h : tupS ρ [i, j, l] d = some ρ') : ∃ x y z, d = .tup [x, y, z] ∧ ρ' = ((ρ.set i (.v x)).set j (.v y)).set l (.v z) := by
  cases d with
  | tup ds => match ds, h with
    | [], h => exact nomatch h
    | [_], h => exact nomatch h
    | [_, _], h => exact nomatch h
    | [x, y, z], h => cases h; exact ⟨x, y, z, rfl, rfl⟩
    | _ :: _ :: _ :: _ :: _, h => exact nomatch h
  | _ => exact nomatch h
/-- nothing may be raised -/
def noEx {α : Type} (m : M α) : M α := fun P => match m P with
  | .ok a p => .ok a p
  | _ => .no
theorem out_noEx {α : Type} {m : M α} {P : Pot} {ok : α → Pot → Prop} {ex : Ex → Pot → Prop} (h : out (noEx m) P ok ex) : out m P ok (fun _ _ => False) := by
  unfold out noEx at *
  cases e : m P <;> rw [e] at h <;> exact h
theorem noEx_ok {α : Type} {m : M α} {P P' : Pot} {a : α} (h : m P = .ok a P') : noEx m P = .ok a P' := by unfold noEx; rw [h]
def compF (t : D → M Bool) (e : D → M D) : List D → M (List D)
  | [] => Pure.pure []
  | d :: ds => noEx (t d) >>= fun x => if x = true then noEx (e d) >>= fun y => noEx (compF t e ds) >>= fun ys => Pure.pure (y :: ys) else compF t e ds
def wipeS (ρ : List Sl) : List Nat → List Sl
  | [] => ρ
  | i :: is => (wipeS ρ is).set i .un
/-- a comprehension's target by its reading -/
def Tgt (c : Cn) (g : TG) (t : List Sl → D → Option (List Sl)) (vs : List Nat) : Prop := ∀ (F : Fr) (ρ ρ' : List Sl) (P : Pot) (σ : L2.St) (H G : Hp) (v : V) (d : D) (Q : L2.St → Hp → Prop), Rel c F ρ P σ H G → c.rep G v d → t ρ d = some ρ' →
  (∀ σ', Rel c F ρ' P σ' H G → wipe σ' vs = wipe σ vs → Q σ' H) → g v σ H Q
section
variable {c : Cn} {F : Fr} {W : WX} {ρ : List Sl} {X : Cx}
theorem Rel.un {P : Pot} {σ : L2.St} {H G : Hp} {i : Nat} {x : Option V} (R : Rel c F ρ P σ H G) : Rel c F (ρ.set i .un) P (σ.set i x) H G := by
  refine ⟨R.post, by simp [R.len], fun j s y a b => ?_, fun j j' k k' a h1 h2 h3 h4 => ?_⟩
  · rw [List.getElem?_set] at a b
    by_cases e : i = j
    · rw [if_pos e] at a
      split at a
      · cases a; exact True.intro
      · cases a
    · rw [if_neg e] at a b
      exact R.sl j s y a b
  · have ne : ∀ {m : Nat} {kk : Cel}, (ρ.set i Sl.un)[m]? = some (.o kk) → i ≠ m := fun {m kk} h e => by
      rw [List.getElem?_set, if_pos e] at h
      split at h <;> cases h
    have n1 := ne h1
    have n2 := ne h2
    rw [List.getElem?_set_ne n1] at h1 h3
    rw [List.getElem?_set_ne n2] at h2 h4
    exact R.ap j j' k k' a h1 h2 h3 h4
end
/-- own objects are not seen within -/
def unO : Sl → Sl
  | .o _ => .un
  | s => s
theorem wipe_set {σ : L2.St} {i : Nat} {x : Option V} : ∀ {vs : List Nat}, i ∈ vs → wipe (σ.set i x) vs = wipe σ vs
  | [], h => absurd h (by simp)
  | v :: vs, h => by
    show (wipe (σ.set i x) vs).set v none = (wipe σ vs).set v none
    by_cases hm : i ∈ vs
    · rw [wipe_set hm]
    · have e : v = i := by
        rcases List.mem_cons.mp h with e | e
        · exact e.symm
        · exact absurd e hm
      subst e
      have out : ∀ {us : List Nat}, v ∉ us → wipe (σ.set v x) us = (wipe σ us).set v x := by
        intro us
        induction us with
        | nil => intro _; rfl
        | cons u us ih =>
          intro hu
          have h1 : u ≠ v := fun e => hu (by rw [e]; exact List.mem_cons_self)
          show (wipe (σ.set v x) us).set u none = ((wipe σ us).set u none).set v x
          rw [ih fun m => hu (List.mem_cons_of_mem _ m), List.set_comm _ _ (Ne.symm h1)]
      rw [out hm, List.set_set]
theorem wipe_idem {σ : L2.St} (vs : List Nat) : wipe (wipe σ vs) vs = wipe σ vs := by
  have key : ∀ us : List Nat, (∀ i ∈ us, i ∈ vs) → wipe (wipe σ us) vs = wipe σ vs := by
    intro us
    induction us with
    | nil => intro _; rfl
    | cons u us ih =>
      intro h
      show wipe ((wipe σ us).set u none) vs = _
      rw [wipe_set (h u List.mem_cons_self)]
      exact ih fun i hi => h i (List.mem_cons_of_mem _ hi)
  exact key vs fun _ h => h
abbrev W0 : WX := fun _ _ _ _ => False
/-- the tests of a comprehension -/
def TestOk (c : Cn) (tt : TT) (t : D → Option (List Sl)) (mt : D → M Bool) : Prop := ∀ (F : Fr) (d : D) (ρ' : List Sl) (P : Pot) (σ : L2.St) (H G : Hp) (Q : Bool → Hp → Prop), Rel c F ρ' P σ H G → t d = some ρ' →
  out (mt d) P (fun b P' => ∀ H' G', Ext G G' → Rel c F ρ' P' σ H' G' → Q b H') (fun _ _ => False) → tt σ H Q
section
variable {c : Cn} {F : Fr} {W : WX} {ρ : List Sl} {X : Cx}
theorem Rel.sub {P : Pot} {σ : L2.St} {H G : Hp} (R : Rel c F ρ P σ H G) : Rel c ⟨G, H, F.ap⟩ (ρ.map unO) P σ H G := by
  have no : ∀ (i : Nat) k, (ρ.map unO)[i]? ≠ some (.o k) := fun i k e => by
    rw [List.getElem?_map] at e
    cases h : ρ[i]? with
    | none => rw [h] at e; cases e
    | some s => rw [h] at e; cases s <;> cases e
  refine ⟨R.post.refl', by simpa using R.len, fun i s x a b => ?_, fun i j k k' a h1 _ _ _ => absurd h1 (no i k)⟩
  rw [List.getElem?_map] at a
  cases h : ρ[i]? with
  | none => rw [h] at a; cases a
  | some s' =>
    rw [h] at a
    have z := R.sl i s' x h b
    cases s' <;> cases a
    · exact True.intro
    · exact z
    · exact True.intro
    · exact z
theorem Rel.wipe {P : Pot} {σ : L2.St} {H G : Hp} (R : Rel c F ρ P σ H G) : ∀ vs : List Nat, Rel c F (wipeS ρ vs) P (L2.wipe σ vs) H G
  | [] => R
  | v :: vs => (Rel.wipe R vs).un
theorem tgt_name {i : Nat} {vs : List Nat} (h : i ∈ vs) : Tgt c (gName i) (fun ρ d => some (ρ.set i (.v d))) vs := by
  intro F ρ ρ' P σ H G v d Q R r e q
  cases e
  exact q _ (R.set r) (wipe_set h)
theorem names_tgt {P : Pot} {vs : List Nat} : ∀ {is : List Nat} {ρ ρ' : List Sl} {σ : L2.St} {H G : Hp} {xs : List V} {ds : List D} {Q : L2.St → Hp → Prop}, (∀ i ∈ is, i ∈ vs) → Rel c F ρ P σ H G → c.reps G xs ds → setAll ρ is ds = some ρ' →
    (∀ σ', Rel c F ρ' P σ' H G → wipe σ' vs = wipe σ vs → Q σ' H) → gNames is xs σ H Q
  | [], ρ, ρ', σ, H, G, xs, [], Q, _, R, r, e, q => by cases e; exact ⟨r.nil_of', q σ R rfl⟩
  | i :: is, ρ, ρ', σ, H, G, [], d :: ds, Q, _, R, r, e, q => by have := r.1; simp at this
  | i :: is, ρ, ρ', σ, H, G, v :: xs, d :: ds, Q, hm, R, r, e, q => ⟨v, xs, rfl, names_tgt (fun j hj => hm j (List.mem_cons_of_mem _ hj)) (R.set r.head) r.tail e fun σ' R' w => q σ' R' (w.trans (wipe_set (hm i List.mem_cons_self)))⟩
  | [], _, _, _, _, _, _, _ :: _, _, _, _, _, e, _ => nomatch e
  | _ :: _, _, _, _, _, _, _, [], _, _, _, _, e, _ => nomatch e
theorem tgt_tup {is : List Nat} {vs : List Nat} {K : PySem.W.Frag} (hK : K = c.K) (h : ∀ i ∈ is, i ∈ vs) : Tgt c (gTup K is.length (gNames is)) (fun ρ d => tupS ρ is d) vs := by
  intro F ρ ρ' P σ H G v d Q R r e q
  cases d with
  | tup ds =>
    cases r with
    | tup ha hl hr => rw [← hK] at ha; exact ⟨_, _, rfl, Evl.ex_t R.post.le ha, hl.trans (setAll_len e), names_tgt h R ⟨hl, hr⟩ e q⟩
  | _ => exact nomatch e
theorem test_yes {t : D → Option (List Sl)} : TestOk c tYes t (fun _ => Pure.pure true) := fun F d ρ' P σ H G Q R e q => q H G (Ext.refl _) R
theorem test_rd {t : D → Option (List Sl)} {mt : D → M Bool} : TestOk c (fun σ H Q => ∃ F d ρ', t d = some ρ' ∧ rdT c F W0 ρ' (mt d) σ H Q) t mt := fun F d ρ' P σ H G Q R e q =>
  ⟨F, d, ρ', e, P, G, R, out_mono q (fun _ _ z => z) fun _ _ z => z.elim⟩
theorem out_noEx_bind {α β : Type} {m : M α} {k : α → M β} {P : Pot} {ok : β → Pot → Prop} {ex : Ex → Pot → Prop} (h : out (noEx m >>= k) P ok ex) : ∃ a p, m P = .ok a p ∧ out (k a) p ok ex := by
  have h := out_bind.mp h
  unfold out noEx at h
  cases e : m P with
  | ok a p => rw [e] at h; exact ⟨a, p, rfl, h⟩
  | ex x p => rw [e] at h; exact h.elim
  | no => rw [e] at h; exact h.elim
theorem out_eq {α : Type} {m : M α} {P p : Pot} {a : α} {ok : α → Pot → Prop} {ex : Ex → Pot → Prop} (h : m P = .ok a p) : out m P ok ex ↔ ok a p := by unfold out; rw [h]
theorem lc_rd {wi : TI} {g : TG} {tt : TT} {vs : List Nat} {mi : M (List D)} {t : List Sl → D → Option (List Sl)} {mt : D → M Bool} {me : D → M D} (hw : ∀ σ H R, rdI c F W ρ mi σ H R → wi σ H R) (tg : Tgt c g t vs)
    (hno : ∀ ρ d, t ρ d = none → mt d = M.no) (htt : TestOk c tt (t (wipeS (ρ.map unO) vs)) mt) {σ : L2.St} {H : Hp} {Q : VK} (q : rdE c F W ρ (mi >>= fun ds => noEx (compF mt me ds) >>= mkL) σ H Q) :
    tLc wi g tt (fun σ H Q => ∃ F d ρ', t (wipeS (ρ.map unO) vs) d = some ρ' ∧ rdE c F W0 ρ' (me d) σ H Q) vs σ H Q := by
  obtain ⟨P, G, R, q⟩ := q
  refine hw _ _ _ ⟨P, G, R, out_mono (out_bind.mp q) (fun ds P1 q1 J H1 G1 e1 R1 go D hD => ?_) fun _ _ z => z⟩
  have ow := R1.own_at hD
  have h0 := R1.post.h0 hD
  have na := R1.ne_ap hD
  refine ⟨fun i m Hx => m = ds.length - i ∧ i ≤ ds.length ∧ ∃ (acc : List V) (ad : List DL.D) (P' : Pot) (G' : Hp), Ext G1 G' ∧ Rel c F ρ P' σ Hx G' ∧ Hx D = some (.lst acc) ∧ G' D = none ∧ c.reps G' acc ad ∧
    out (noEx (compF mt me (ds.drop i)) >>= fun ys => mkL (ad ++ ys)) P' (fun d P' => ∀ v H' G'', Ext G' G'' → Rel c F ρ P' σ H' G'' → c.rep G'' v d → Q v H') (exW c F W P' G' σ),
    ⟨ds.length, by simp, Nat.zero_le _, [], [], P1, G1, Ext.refl _, R1.newM hD, upd_same, R1.post.g_none hD, Reps.nil, out_mono q1 (fun d p z v H' G'' e => z v H' G'' (e1.trans e)) fun _ _ z => exW_le e1 z⟩, ?_⟩
  rintro i m Hx ⟨rfl, hi, acc, ad, P2, G2, e2, R2, hx, gx, ra, q2⟩
  by_cases hl : i < ds.length
  · have hd : ds[i]? = some ds[i] := List.getElem?_eq_getElem hl
    have S2 := R2.sub
    obtain ⟨g1, g2⟩ := (go _ _ i P2 σ Hx G2 e2 S2).2 _ hd
    rw [List.drop_eq_getElem_cons hl] at q2
    obtain ⟨ys, p, hy, q3⟩ := out_noEx_bind q2
    refine .inr ⟨g1, fun H' => ∃ (acc : List V) (ad : List DL.D) (P' : Pot) (G' : Hp), Ext G1 G' ∧ Rel c F ρ P' σ H' G' ∧ H' D = some (.lst acc) ∧ G' D = none ∧ c.reps G' acc ad ∧
      out (noEx (compF mt me (ds.drop (i + 1))) >>= fun ys => mkL (ad ++ ys)) P' (fun d P' => ∀ v H' G'', Ext G' G'' → Rel c F ρ P' σ H' G'' → c.rep G'' v d → Q v H') (exW c F W P' G' σ), fun H' z => ⟨ds.length - (i + 1), by omega, rfl, hl, z⟩, fun x H3 y => ?_⟩
    obtain ⟨G3, e3, R3, r3⟩ := g2 x H3 y
    -- what one turn gives
    have hy' : (noEx (mt ds[i]) >>= fun x => if x = true then noEx (me ds[i]) >>= fun y => noEx (compF mt me (ds.drop (i + 1))) >>= fun ys => Pure.pure (y :: ys) else compF mt me (ds.drop (i + 1))) P2 = .ok ys p := hy
    have o1 : out (noEx (mt ds[i]) >>= fun x => if x = true then noEx (me ds[i]) >>= fun y => noEx (compF mt me (ds.drop (i + 1))) >>= fun ys => Pure.pure (y :: ys) else compF mt me (ds.drop (i + 1))) P2 (fun z zp => z = ys ∧ zp = p) (fun _ _ => False) := (out_eq hy').mpr ⟨rfl, rfl⟩
    obtain ⟨b, P3, hb, o2⟩ := out_noEx_bind o1
    cases ht : t (wipeS (ρ.map unO) vs) ds[i] with
    | none =>
      rw [hno _ _ ht] at hb
      cases hb
    | some ρ' =>
      refine tg _ _ ρ' P2 _ H3 G3 x ds[i] _ (R3.wipe vs) r3 ht fun σ4 R4 w4 => ⟨w4.trans (wipe_idem vs), ?_⟩
      refine htt _ _ ρ' P2 σ4 H3 G3 _ R4 ht ((out_eq hb).mpr fun H5 G5 e5 R5 => ?_)
      cases b with
      | false =>
        have hz : compF mt me (ds.drop (i + 1)) P3 = .ok ys p := by
          have : out (compF mt me (ds.drop (i + 1))) P3 (fun z zp => z = ys ∧ zp = p) (fun _ _ => False) := o2
          unfold out at this
          cases k : compF mt me (ds.drop (i + 1)) P3 with
          | ok a b => rw [k] at this; rw [this.1, this.2]
          | ex _ _ => rw [k] at this; exact this.elim
          | no => rw [k] at this; exact this.elim
        have A5 := R2.after R5.post
        have e25 : Ext G2 G5 := R5.post.ext
        have g5 : G5 D = none := by
          cases z : G5 D with
          | none => rfl
          | some u =>
            rcases R5.post.new D (by rw [z]; simp) with h | h | ⟨_, h⟩
            · exact absurd gx h
            · exact (Fre.no (H := Hx) h hx (fun _ q => nomatch q)).elim
            · have y := R5.post.le _ _ h
              rw [R5.post.fr D _ hx na nt_lst] at y
              cases y
        exact ⟨acc, ad, P3, G5, e2.trans e25, A5, R5.post.fr D _ hx na nt_lst, g5, ra.mono e25, out_bind.mpr ((out_eq (noEx_ok hz)).mpr (out_mono q3 (fun d p z v H' G'' e => z v H' G'' (e25.trans e)) fun _ _ z => exW_le e25 z))⟩
      | true =>
        have o3 := out_noEx_bind (show out (noEx (me ds[i]) >>= fun y => noEx (compF mt me (ds.drop (i + 1))) >>= fun ys => Pure.pure (y :: ys)) P3 (fun z zp => z = ys ∧ zp = p) (fun _ _ => False) from o2)
        obtain ⟨yd, P4, hyd, o4⟩ := o3
        obtain ⟨ys', p', hys, o5⟩ := out_noEx_bind o4
        have o5' : yd :: ys' = ys ∧ p' = p := o5
        obtain ⟨e6, e7⟩ := o5'
        subst e6 e7
        refine ⟨_, ds[i], ρ', ht, P3, G5, R5, (out_eq hyd).mpr fun v H6 G6 e6 R6 r6 => ?_⟩
        have A6 := R2.after R6.post
        have e26 : Ext G2 G6 := R6.post.ext
        have g6 : G6 D = none := by
          cases z : G6 D with
          | none => rfl
          | some u =>
            rcases R6.post.new D (by rw [z]; simp) with h | h | ⟨_, h⟩
            · exact absurd gx h
            · exact (Fre.no (H := Hx) h hx (fun _ q => nomatch q)).elim
            · have y := R6.post.le _ _ h
              rw [R6.post.fr D _ hx na nt_lst] at y
              cases y
        have hx6 := R6.post.fr D _ hx na nt_lst
        have lenq : ad.length + (ys'.length + 1) ≤ sizeLine := by
          unfold mkL at q3
          by_cases z : (ad ++ yd :: ys').length ≤ sizeLine
          · simpa using z
          · rw [if_neg z] at q3; exact q3.elim
        refine ⟨acc, hx6, by rw [ra.1]; omega, acc ++ [v], ad ++ [yd], P4, G6, e2.trans e26, A6.at g6 h0 na (fun u e => by rw [hx6] at e; cases e; exact ⟨nofun, nofun⟩) ow, upd_same, g6, (ra.mono e26).append (Reps.cons r6 Reps.nil), ?_⟩
        refine out_bind.mpr ((out_eq (noEx_ok hys)).mpr ?_)
        have ea : ad ++ [yd] ++ ys' = ad ++ yd :: ys' := by simp
        rw [ea]
        exact out_mono q3 (fun d p z v H' G'' e => z v H' G'' (e26.trans e)) fun _ _ z => exW_le e26 z
  · have ei : i = ds.length := by omega
    subst ei
    refine .inl ⟨(go _ _ _ P2 σ Hx G2 e2 R2.sub).1 rfl, ?_⟩
    rw [List.drop_eq_nil_of_le (Nat.le_refl _)] at q2
    obtain ⟨ys, p, hy, q3⟩ := out_noEx_bind q2
    cases hy
    rw [List.append_nil] at q3
    unfold mkL at q3
    by_cases z : ad.length ≤ sizeLine
    · rw [if_pos z] at q3
      obtain ⟨R3, e3⟩ := R2.freeze hx nt_lst h0 na ow gx
      exact q3 (.ref D) Hx _ e3 R3 (.lst upd_same ra.1 fun i v d a b => (ra.2 i v d a b).mono e3)
    · rw [if_neg z] at q3; exact q3.elim
end
section
variable {c : Cn} {F : Fr} {W : WX} {ρ : List Sl} {X : Cx}
/-- the reading of an element, whatever the target took -/
abbrev rdElt (c : Cn) (t : D → Option (List Sl)) (me : D → M D) : TE := fun σ H Q => ∃ F d ρ', t d = some ρ' ∧ rdE c F W0 ρ' (me d) σ H Q
abbrev rdTst (c : Cn) (t : D → Option (List Sl)) (mt : D → M Bool) : TT := fun σ H Q => ∃ F d ρ', t d = some ρ' ∧ rdT c F W0 ρ' (mt d) σ H Q
theorem pe_elt {X : Cx} {e : Expr} {t : D → Option (List Sl)} {me : D → M D} (h : ∀ F d ρ', t d = some ρ' → PE X e (rdE c F W0 ρ' (me d))) : PE X e (rdElt c t me) := ⟨fun pins s σ H Q I ⟨F, d, ρ', e, q⟩ => (h F d ρ' e).run pins s σ H Q I q⟩
theorem pt_tst {X : Cx} {e : Expr} {t : D → Option (List Sl)} {mt : D → M Bool} (h : ∀ F d ρ', t d = some ρ' → PT X e (rdT c F W0 ρ' (mt d))) : PT X e (rdTst c t mt) := ⟨fun pins s σ H Q I ⟨F, d, ρ', e, q⟩ => (h F d ρ' e).run pins s σ H Q I q⟩
/-- [e for tg in it] -/
theorem de_lc {elt tg iter : Expr} {ifs : List Expr} {scope : Scope} {own : List (Str × Nat)} {pos : Pos} {g : TG} {tt : TT} {mi : M (List D)} {t : List Sl → D → Option (List Sl)} {mt : D → M Bool} {me : D → M D} (hc : X.calm = true) (hN : X.N.Nodup) (ok : BlkOk X.N X.env.scope scope own)
    (hi : PI X tg iter (rdI c F W ρ mi)) (tgt : Tgt c g t (own.map (·.2))) (hno : ∀ ρ d, t ρ d = none → mt d = M.no) (htt : TestOk c tt (t (wipeS (ρ.map unO) (own.map (·.2)))) mt)
    (hg : ∀ (s : Shared) (H : Hp) (C : Addr) (cl : List (Str × Addr)) (fp : List Addr), PG (X.blk s H scope (compEnvC scope cl C X.env) fp) tg g) (ht : ∀ (s : Shared) (H : Hp) (C : Addr) (cl : List (Str × Addr)) (fp : List Addr), PTs (X.blk s H scope (compEnvC scope cl C X.env) fp) ifs tt)
    (he : ∀ (s : Shared) (H : Hp) (C : Addr) (cl : List (Str × Addr)) (fp : List Addr), PE (X.blk s H scope (compEnvC scope cl C X.env) fp) elt (rdElt c (t (wipeS (ρ.map unO) (own.map (·.2)))) me)) (hs : ∀ x, foldedSetIterable iter X.env x = pure x := by intro _; rfl) :
    PE X (.ListComp elt [⟨tg, iter, ifs, 0⟩] scope pos) (rdE c F W ρ (mi >>= fun ds => noEx (compF mt me ds) >>= mkL)) :=
  pe_by (pe_lc hc hN hi ok hg ht he hs) fun σ H Q q => lc_rd (fun _ _ _ z => z) tgt hno htt q
/-- name = [e for tg in it], on one line -/
theorem ds_setLc {i : Nat} {y : Str} {py : Pos} {elt tg iter : Expr} {ifs : List Expr} {scope : Scope} {own : List (Str × Nat)} {pos spos : Pos} {g : TG} {tt : TT} {mi : M (List D)} {t : List Sl → D → Option (List Sl)} {mt : D → M Bool} {me : D → M D} (hc : X.calm = true) (hN : X.N.Nodup)
    (hy : X.N[i]? = some y) (hyl : X.env.scope.names.lookup y = some .local) (hsw : swapsWith (.ListComp elt [⟨tg, iter, ifs, 0⟩] scope pos) (some (.Name y py)) spos.line X.env = pure true) (ok : BlkOk X.N X.env.scope scope own)
    (hi : PI X tg iter (rdI c F W ρ mi)) (tgt : Tgt c g t (own.map (·.2))) (hno : ∀ ρ d, t ρ d = none → mt d = M.no) (htt : TestOk c tt (t (wipeS (ρ.map unO) (own.map (·.2)))) mt)
    (hg : ∀ (s : Shared) (H : Hp) (C : Addr) (cl : List (Str × Addr)) (fp : List Addr), PG (X.blk s H scope (compEnvC scope cl C X.env) fp) tg g) (ht : ∀ (s : Shared) (H : Hp) (C : Addr) (cl : List (Str × Addr)) (fp : List Addr), PTs (X.blk s H scope (compEnvC scope cl C X.env) fp) ifs tt)
    (he : ∀ (s : Shared) (H : Hp) (C : Addr) (cl : List (Str × Addr)) (fp : List Addr), PE (X.blk s H scope (compEnvC scope cl C X.env) fp) elt (rdElt c (t (wipeS (ρ.map unO) (own.map (·.2)))) me)) (hs : ∀ x, foldedSetIterable iter X.env x = pure x := by intro _; rfl) :
    PS X (.Assign [.Name y py] (.ListComp elt [⟨tg, iter, ifs, 0⟩] scope pos) spos) (rdS c F W ρ (fun d => ρ.set i (.v d)) ((mi >>= fun ds => noEx (compF mt me ds) >>= mkL) >>= fun d => Pure.pure (.nx d))) := by
  refine ps_by (ps_setLc hc hN hy hyl hsw hi ok hg ht he hs) fun B σ H ⟨P, G, R, q⟩ => ?_
  refine lc_rd (W := W) (fun _ _ _ z => z) tgt hno htt ⟨P, G, R, out_mono (out_bind.mp q) (fun d P1 q1 v H1 G1 e1 R1 r1 => ?_) fun _ _ z => exS.w z⟩
  have q' : ∀ σ' H' G', Ext G G' → Rel c F (ρ.set i (.v d)) P1 σ' H' G' → B.nx σ' H' := q1
  exact q' _ H1 G1 e1 (R1.set r1)
end
end DL
namespace DL
open PySem PySem.Spec PyProof.Rows L2
mutual
def toPy : D → Option PyData
  | .non => some .none
  | .bl b => some (.bool b)
  | .int i => some (.int i)
  | .str x => some (.str x)
  | .lst xs => (toPys xs).map .list
  | .tup xs => (toPys xs).map .tuple
  | _ => none
def toPys : List D → Option (List PyData)
  | [] => some []
  | x :: xs => match toPy x, toPys xs with
    | some d, some ds => some (d :: ds)
    | _, _ => none
end
section
variable {c : Cn} {G H : Hp}
mutual
theorem dp_of (e : Ext G H) : ∀ (d : D) (v : V) (p : PyData), c.rep G v d → toPy d = some p → Dp c.K H v p
  | .non, v, p, r, h => by cases r; simp [toPy] at h; subst h; exact .non
  | .bl b, v, p, r, h => by cases r; simp [toPy] at h; subst h; exact .bl b
  | .int b, v, p, r, h => by cases r; simp [toPy] at h; subst h; exact .int b
  | .str b, v, p, r, h => by cases r; simp [toPy] at h; subst h; exact .str b
  | .lst ds, v, p, r, h => by
    simp only [toPy, Option.map_eq_some_iff] at h
    obtain ⟨ps, h, rfl⟩ := h
    cases r with
    | lst ha hl hr => exact .lst (SqL.of (e _ _ ha)) (dps_of e ds _ ps ⟨hl, hr⟩ h)
  | .tup ds, v, p, r, h => by
    simp only [toPy, Option.map_eq_some_iff] at h
    obtain ⟨ps, h, rfl⟩ := h
    cases r with
    | tup ha hl hr => exact .tup (Evl.ex_t e ha) (dps_of e ds _ ps ⟨hl, hr⟩ h)
  | .scr _, v, p, r, h => by simp [toPy] at h
  | .dic _, v, p, r, h => by simp [toPy] at h
  | .ins _ _, v, p, r, h => by simp [toPy] at h
  | .cls _, v, p, r, h => by simp [toPy] at h
theorem dps_of (e : Ext G H) : ∀ (ds : List D) (vs : List V) (ps : List PyData), c.reps G vs ds → toPys ds = some ps → DpAll c.K H vs ps
  | [], vs, ps, r, h => by
    simp [toPys] at h
    subst h
    rw [r.nil_of']
    exact .nil
  | d :: ds, [], ps, r, h => by have := r.1; simp at this
  | d :: ds, v :: vs, ps, r, h => by
    unfold toPys at h
    cases h1 : toPy d with
    | none => rw [h1] at h; cases h
    | some q =>
      cases h2 : toPys ds with
      | none => rw [h1, h2] at h; cases h
      | some qs =>
        rw [h1, h2] at h
        cases h
        exact .cons (dp_of e d v q r.head h1) (dps_of e ds vs qs r.tail h2)
end
end
section
variable {c : Cn} {X : Cx}
def addD : D → D → M D
  | .int i, .int j => Pure.pure (.int (i + j))
  | .str a, .str b => if a.length + b.length ≤ sizeLine then Pure.pure (.str (a ++ b)) else M.no
  | .lst a, .lst b => if a.length + b.length ≤ sizeLine then Pure.pure (.lst (a ++ b)) else M.no
  | .tup a, .tup b => if a.length + b.length ≤ sizeLine then Pure.pure (.tup (a ++ b)) else M.no
  | _, _ => M.no
def rAddD (K : PySem.W.Frag) : R2 := fun x y H Q => (rI0 (fun i j => .int (i + j)) x y H Q ∨ (∃ i j, x = .str i ∧ y = .str j ∧ i.length + j.length ≤ sizeLine ∧ Q (.str (i ++ j)) H)) ∨ (rCat x y H Q ∨ rCatA K x y H Q)
theorem opr_add : OpR X (binaryOp .Add) (rAddD X.K) := (op_add.or op_add_str).or (op_cat.or op_catA)
theorem opd_add : OpD c (rAddD c.K) addD := by
  intro F ρ W P σ H G x y dx dy Q R rx ry q
  cases dx <;> cases dy <;> try exact q.elim
  · rw [rx.int_of, ry.int_of]
    exact .inl (.inl ⟨_, _, rfl, rfl, q _ H G (Ext.refl _) R (.int _)⟩)
  · rename_i a b
    unfold addD at q
    by_cases z : a.length + b.length ≤ sizeLine
    · simp only [if_pos z] at q
      rw [rx.str_of, ry.str_of]
      exact .inl (.inr ⟨_, _, rfl, rfl, z, q _ H G (Ext.refl _) R (.str _)⟩)
    · simp only [if_neg z] at q; exact q.elim
  · rename_i a b
    unfold addD at q
    by_cases z : a.length + b.length ≤ sizeLine
    · simp only [if_pos z] at q
      cases rx with
      | lst ha hl hr =>
        cases ry with
        | lst hb hl2 hr2 =>
          refine .inr (.inl ⟨_, _, _, _, rfl, rfl, R.post.le _ _ ha, R.post.le _ _ hb, by rw [hl, hl2]; exact z, fun p hp => ?_⟩)
          obtain ⟨R2, e2⟩ := R.new hp nt_lst
          have rr : c.reps G _ (a ++ b) := Reps.append ⟨hl, hr⟩ ⟨hl2, hr2⟩
          exact q _ _ _ e2 R2 (.lst upd_same rr.1 fun i v d a b => (rr.2 i v d a b).mono e2)
    · simp only [if_neg z] at q; exact q.elim
  · rename_i a b
    unfold addD at q
    by_cases z : a.length + b.length ≤ sizeLine
    · simp only [if_pos z] at q
      cases rx with
      | tup ha hl hr =>
        rename_i aa va
        cases ry with
        | tup hb hl2 hr2 =>
          rename_i ab vb
          refine .inr (.inr ⟨_, _, _, _, rfl, rfl, Evl.ex_t R.post.le ha, Evl.ex_t R.post.le hb, by rw [hl, hl2]; exact z, fun e => ?_, fun _ e => ?_, fun _ _ p hp => ?_⟩)
          · subst e
            have : a = [] := by cases a with
              | nil => rfl
              | cons _ _ => simp at hl
            subst this
            exact q _ H G (Ext.refl _) R (.tup hb hl2 hr2)
          · subst e
            have : b = [] := by cases b with
              | nil => rfl
              | cons _ _ => simp at hl2
            subst this
            exact q _ H G (Ext.refl _) R (by rw [List.append_nil]; exact .tup ha hl hr)
          · obtain ⟨R2, e2⟩ := R.new hp nt_tup
            have rr : c.reps G _ (a ++ b) := Reps.append ⟨hl, hr⟩ ⟨hl2, hr2⟩
            exact q _ _ _ e2 R2 (.tup (SqT.of upd_same) rr.1 fun i v d a b => (rr.2 i v d a b).mono e2)
    · simp only [if_neg z] at q; exact q.elim
/-- ints alone -/
def intD (C : Int → Int → Prop) [∀ i j, Decidable (C i j)] (g : Int → Int → D) : D → D → M D
  | .int i, .int j => if C i j then Pure.pure (g i j) else M.no
  | _, _ => M.no
theorem opd_int {C : Int → Int → Prop} [∀ i j, Decidable (C i j)] {g : Int → Int → D} {gv : Int → Int → V} (hg : ∀ G i j, c.rep G (gv i j) (g i j)) : OpD c (rI C gv) (intD C g) := by
  intro F ρ W P σ H G x y dx dy Q R rx ry q
  cases dx <;> cases dy <;> try exact q.elim
  rename_i i j
  unfold intD at q
  by_cases z : C i j
  · simp only [if_pos z] at q
    rw [rx.int_of, ry.int_of]
    exact ⟨i, j, rfl, rfl, z, q _ H G (Ext.refl _) R (hg G i j)⟩
  · simp only [if_neg z] at q; exact q.elim
def intD0 (g : Int → Int → D) : D → D → M D
  | .int i, .int j => Pure.pure (g i j)
  | _, _ => M.no
theorem opd_int0 {g : Int → Int → D} {gv : Int → Int → V} (hg : ∀ G i j, c.rep G (gv i j) (g i j)) : OpD c (rI0 gv) (intD0 g) := by
  intro F ρ W P σ H G x y dx dy Q R rx ry q
  cases dx <;> cases dy <;> try exact q.elim
  rename_i i j
  rw [rx.int_of, ry.int_of]
  exact ⟨i, j, rfl, rfl, q _ H G (Ext.refl _) R (hg G i j)⟩
def subD : D → D → M D := intD0 fun i j => .int (i - j)
theorem opd_sub : OpD c (rI0 fun i j => .int (i - j)) subD := opd_int0 fun _ _ _ => .int _
instance {i j : Int} : Decidable (CMulX i j) := by unfold CMulX; infer_instance
instance {i j : Int} : Decidable (CDivW i j) := by unfold CDivW; infer_instance
def mulD : D → D → M D
  | .int i, .int j => if CMulX i j then Pure.pure (.int (i * j)) else M.no
  | .lst xs, .int k => if -(2 ^ 63) ≤ k ∧ k < 2 ^ 63 ∧ xs.length * k.toNat ≤ sizeLine then Pure.pure (.lst (List.replicate k.toNat xs).flatten) else M.no
  | _, _ => M.no
theorem Reps.rep {G : Hp} {vs : List V} {ds : List D} (h : c.reps G vs ds) : ∀ k : Nat, c.reps G (List.replicate k vs).flatten (List.replicate k ds).flatten
  | 0 => Reps.nil
  | k + 1 => by
    rw [List.replicate_succ, List.replicate_succ, List.flatten_cons, List.flatten_cons]
    exact h.append (Reps.rep h k)
theorem opr_mul : OpR X (binaryOp .Mult) (fun x y H Q => rI CMulX (fun i j => .int (i * j)) x y H Q ∨ rRep x y H Q) := op_mulX.or op_rep
theorem opd_mul : OpD c (fun x y H Q => rI CMulX (fun i j => .int (i * j)) x y H Q ∨ rRep x y H Q) mulD := by
  intro F ρ W P σ H G x y dx dy Q R rx ry q
  cases dx <;> cases dy <;> try exact q.elim
  · rename_i i j
    unfold mulD at q
    by_cases z : CMulX i j
    · simp only [if_pos z] at q
      rw [rx.int_of, ry.int_of]
      exact .inl ⟨i, j, rfl, rfl, z, q _ H G (Ext.refl _) R (.int _)⟩
    · simp only [if_neg z] at q; exact q.elim
  · rename_i xs k
    unfold mulD at q
    by_cases z : -(2 ^ 63) ≤ k ∧ k < 2 ^ 63 ∧ xs.length * k.toNat ≤ sizeLine
    · simp only [if_pos z] at q
      rw [ry.int_of]
      cases rx with
      | lst ha hl hr =>
        refine .inr ⟨_, k, _, rfl, rfl, R.post.le _ _ ha, z.1, z.2.1, by rw [hl]; exact z.2.2, fun p hp => ?_⟩
        obtain ⟨R2, e2⟩ := R.new hp nt_lst
        have rr : c.reps G _ (List.replicate k.toNat xs).flatten := Reps.rep ⟨hl, hr⟩ k.toNat
        exact q _ _ _ e2 R2 (.lst upd_same rr.1 fun i v d a b => (rr.2 i v d a b).mono e2)
    · simp only [if_neg z] at q; exact q.elim
def modD : D → D → M D := intD (fun _ j => 0 < j) fun i j => .int (i % j)
theorem opd_mod : OpD c (rI (fun _ j => 0 < j) fun i j => .int (i % j)) modD := opd_int fun _ _ _ => .int _
def fdivD : D → D → M D := intD CDivW fun i j => .int (i / j)
theorem opd_fdiv : OpD c (rI CDivW fun i j => .int (i / j)) fdivD := opd_int fun _ _ _ => .int _
/-- ** : the base's bits times the exponent within the line -/
def CPowX (i j : Int) : Prop := 0 ≤ j ∧ (Builtin.Int.intBits i : Int) * j ≤ 2 ^ 27
instance {i j : Int} : Decidable (CPowX i j) := by unfold CPowX; infer_instance
theorem op_powX : OpR X (binaryOp .Pow) (rI CPowX fun i j => .int (i ^ j.toNat)) := opI fun _ _ _ _ _ _ _ hc q => pow_int hc.1 hc.2 q
def powD : D → D → M D := intD CPowX fun i j => .int (i ^ j.toNat)
theorem opd_pow : OpD c (rI CPowX fun i j => .int (i ^ j.toNat)) powD := opd_int fun _ _ _ => .int _
def andD : D → D → M D := intD0 fun i j => .int (Builtin.bitAnd i j)
theorem opd_and : OpD c (rI0 fun i j => .int (Builtin.bitAnd i j)) andD := opd_int0 fun _ _ _ => .int _
def orD : D → D → M D := intD0 fun i j => .int (Builtin.bitOr i j)
theorem opd_or : OpD c (rI0 fun i j => .int (Builtin.bitOr i j)) orD := opd_int0 fun _ _ _ => .int _
instance {i j : Int} : Decidable (CShl i j) := by unfold CShl; infer_instance
def shlD : D → D → M D := intD CShl fun i j => .int (i * 2 ^ j.toNat)
theorem opd_shl : OpD c (rI CShl fun i j => .int (i * 2 ^ j.toNat)) shlD := opd_int fun _ _ _ => .int _
def shrD : D → D → M D := intD (fun _ j => 0 ≤ j) fun i j => .int (i / 2 ^ j.toNat)
theorem opd_shr : OpD c (rI (fun _ j => 0 ≤ j) fun i j => .int (i / 2 ^ j.toNat)) shrD := opd_int fun _ _ _ => .int _
def invD : D → M D
  | .int i => Pure.pure (.int (Builtin.bitNot i))
  | _ => M.no
theorem und_inv : ∀ F ρ W P σ H G x dx Q, Rel c F ρ P σ H G → c.rep G x dx → out (invD dx) P (fun d P' => ∀ v H' G', Ext G G' → Rel c F ρ P' σ H' G' → c.rep G' v d → Q v H') (exW c F W P G σ) → rU (fun i => .int (Builtin.bitNot i)) x H Q := by
  intro F ρ W P σ H G x dx Q R rx q
  cases dx <;> try exact q.elim
  rw [rx.int_of]
  exact ⟨_, rfl, q _ H G (Ext.refl _) R (.int _)⟩
def ordD (p : Int → Int → Bool) (s : Str → Str → Bool) : D → D → M D
  | .int i, .int j => Pure.pure (.bl (p i j))
  | .str i, .str j => Pure.pure (.bl (s i j))
  | _, _ => M.no
def rOrd (p : Int → Int → Bool) (s : Str → Str → Bool) : R2 := fun x y H Q => rI0 (fun i j => .bl (p i j)) x y H Q ∨ ∃ i j, x = .str i ∧ y = .str j ∧ Q (.bl (s i j)) H
theorem opd_ord {p : Int → Int → Bool} {s : Str → Str → Bool} : OpD c (rOrd p s) (ordD p s) := by
  intro F ρ W P σ H G x y dx dy Q R rx ry q
  cases dx <;> cases dy <;> try exact q.elim
  · rw [rx.int_of, ry.int_of]
    exact .inl ⟨_, _, rfl, rfl, q _ H G (Ext.refl _) R (.bl _)⟩
  · rw [rx.str_of, ry.str_of]
    exact .inr ⟨_, _, rfl, rfl, q _ H G (Ext.refl _) R (.bl _)⟩
def ltS (i j : Str) : Bool := decide (i.cps.toList < j.cps.toList)
def ltD := ordD (fun i j => decide (i < j)) ltS
def leD := ordD (fun i j => decide (i ≤ j)) (fun i j => !ltS j i)
def gtD := ordD (fun i j => decide (j < i)) (fun i j => ltS j i)
theorem opr_lt : OpR X (compareOp .Lt) (rOrd (fun i j => decide (i < j)) ltS) := op_lt.or op_lt_str
theorem opr_le : OpR X (compareOp .LtE) (rOrd (fun i j => decide (i ≤ j)) (fun i j => !ltS j i)) := op_le.or op_le_str
theorem opr_gt : OpR X (compareOp .Gt) (rOrd (fun i j => decide (j < i)) (fun i j => ltS j i)) := op_gt.or op_gt_str
def eqD : D → D → M D := fun x y => match toPy x, toPy y with
  | some d, some e => if SeqAt.shaped d = true ∧ SeqAt.shaped e = true then Pure.pure (.bl (PyData.eqv d e)) else M.no
  | _, _ => M.no
def neD : D → D → M D := fun x y => match toPy x, toPy y with
  | some d, some e => if SeqAt.shaped d = true ∧ SeqAt.shaped e = true then Pure.pure (.bl (!PyData.eqv d e)) else M.no
  | _, _ => M.no
theorem opd_eq : OpD c (rEqD c.K) eqD := by
  intro F ρ W P σ H G x y dx dy Q R rx ry q
  unfold eqD at q
  cases h1 : toPy dx with
  | none => rw [h1] at q; exact q.elim
  | some d =>
    cases h2 : toPy dy with
    | none => rw [h1, h2] at q; exact q.elim
    | some e =>
      rw [h1, h2] at q
      by_cases z : SeqAt.shaped d = true ∧ SeqAt.shaped e = true
      · simp only [if_pos z] at q
        exact ⟨d, e, dp_of R.post.le _ _ _ rx h1, dp_of R.post.le _ _ _ ry h2, z.1, z.2, q _ H G (Ext.refl _) R (.bl _)⟩
      · simp only [if_neg z] at q; exact q.elim
theorem opd_ne : OpD c (rNeD c.K) neD := by
  intro F ρ W P σ H G x y dx dy Q R rx ry q
  unfold neD at q
  cases h1 : toPy dx with
  | none => rw [h1] at q; exact q.elim
  | some d =>
    cases h2 : toPy dy with
    | none => rw [h1, h2] at q; exact q.elim
    | some e =>
      rw [h1, h2] at q
      by_cases z : SeqAt.shaped d = true ∧ SeqAt.shaped e = true
      · simp only [if_pos z] at q
        exact ⟨d, e, dp_of R.post.le _ _ _ rx h1, dp_of R.post.le _ _ _ ry h2, z.1, z.2, q _ H G (Ext.refl _) R (.bl _)⟩
      · simp only [if_neg z] at q; exact q.elim
end
section
variable {c : Cn} {X : Cx} {F : Fr} {W : WX} {ρ : List Sl}
/-- a < b < c -/
def chainM (ma mb mc : M D) (f g : D → D → M D) : M D := ma >>= fun x => mb >>= fun y => f x y >>= fun z => boolD z >>= fun k => if k = true then mc >>= fun w => g y w else Pure.pure (.bl false)
theorem chain_rd {r r' : R2} {f g : D → D → M D} {ma mb mc : M D} (hf : OpD c r f) (hg : OpD c r' g) {σ : L2.St} {H : Hp} {Q : VK} (h : rdE c F W ρ (chainM ma mb mc f g) σ H Q) : tChain r r' (rdE c F W ρ ma) (rdE c F W ρ mb) (rdE c F W ρ mc) σ H Q := by
  obtain ⟨P, G, R, q⟩ := h
  refine ⟨P, G, R, out_mono (out_bind.mp q) (fun x P1 q1 v H1 G1 e1 R1 r1 => ?_) fun _ _ z => z⟩
  refine ⟨P1, G1, R1, out_mono (out_bind.mp q1) (fun y P2 q2 u H2 G2 e2 R2 r2 => ?_) fun _ _ z => exW_le e1 z⟩
  refine hf F ρ W P2 σ H2 G2 v u x y _ R2 (r1.mono e2) r2 (out_mono (out_bind.mp q2) (fun d P3 q3 v3 H3 G3 e3 R3 r3 => ?_) fun _ _ z => exW_le (e1.trans e2) z)
  have e13 := (e1.trans e2).trans e3
  cases d with
  | bl k =>
    refine ⟨k, r3.bl_of, ?_⟩
    cases k with
    | false => exact q3 _ H3 G3 e13 R3 (.bl false)
    | true =>
      refine ⟨P3, G3, R3, out_mono (out_bind.mp (show out (mc >>= fun w => g y w) P3 _ _ from q3)) (fun w P4 q4 v4 H4 G4 e4 R4 r4 => ?_) fun _ _ z => exW_le e13 z⟩
      exact hg F ρ W P4 σ H4 G4 u v4 y w Q R4 (r2.mono (e3.trans e4)) r4 (out_mono q4 (fun d P5 q5 v5 H5 G5 e5 R5 r5 => q5 v5 H5 G5 ((e13.trans e4).trans e5) R5 r5) fun _ _ z => exW_le (e13.trans e4) z)
  | _ => exact q3.elim
theorem de_chain {a b d : Expr} {op op' : CmpOp} {pos : Pos} {r r' : R2} {f g : D → D → M D} {ma mb mc : M D} (ho : OpR X (compareOp op) r) (ho' : OpR X (compareOp op') r') (hf : OpD c r f) (hg : OpD c r' g)
    (ha : PE X a (rdE c F W ρ ma)) (hb : PE X b (rdE c F W ρ mb)) (hc : PE X d (rdE c F W ρ mc)) (hm : lastMarks [op, op'] [b, d] = false := by with_unfolding_all rfl) :
    PE X (.Compare a [op, op'] [b, d] pos) (rdE c F W ρ (chainM ma mb mc f g)) := pe_by (pe_chain ho ho' ha hb hc hm) fun _ _ _ => chain_rd hf hg
theorem dt_chain {a b d : Expr} {op op' : CmpOp} {pos : Pos} {r r' : R2} {f g : D → D → M D} {ma mb mc : M D} (ho : OpR X (compareOp op) r) (ho' : OpR X (compareOp op') r') (hf : OpD c r f) (hg : OpD c r' g)
    (ha : PE X a (rdE c F W ρ ma)) (hb : PE X b (rdE c F W ρ mb)) (hc : PE X d (rdE c F W ρ mc)) (hm : lastMarks [op, op'] [b, d] = false := by with_unfolding_all rfl) :
    PT X (.Compare a [op, op'] [b, d] pos) (rdT c F W ρ (chainM ma mb mc f g >>= boolD)) := by
  refine pt_by (pt_chain ho ho' ha hb hc hm) fun σ H Q ⟨P, G, R, q⟩ => ?_
  refine chain_rd (W := W) hf hg ⟨P, G, R, out_mono (out_bind.mp q) (fun x P1 q1 v H1 G1 e1 R1 r1 => ?_) fun _ _ z => z⟩
  cases x with
  | bl b => exact ⟨b, r1.bl_of, q1 H1 G1 e1 R1⟩
  | _ => exact q1.elim
def inS (x y : Str) : Bool := match x.cps.toList with
  | [a] => decide (a ∈ y.cps.toList)
  | _ => !(Builtin.Str.occurrences y x 0 y.length 1).isEmpty
def inSeq (neg : Bool) (mk : List PyData → PyData) (x : D) (ys : List D) : M D := match toPy x, toPys ys with
  | some d, some ds => if SeqAt.shaped d = true ∧ SeqAt.shaped (mk ds) = true then Pure.pure (.bl (if neg then !(ds.any fun z => PyData.eqv z d) else ds.any fun z => PyData.eqv z d)) else M.no
  | _, _ => M.no
def inTxt (neg : Bool) (y : Str) : D → M D
  | .str x => Pure.pure (.bl (if neg then !inS x y else inS x y))
  | _ => M.no
def inD (neg : Bool) (x y : D) : M D := match y with
  | .str y => inTxt neg y x
  | .lst ys => inSeq neg .list x ys
  | .tup ys => inSeq neg .tuple x ys
  | _ => M.no
def rInX (K : PySem.W.Frag) (neg : Bool) : R2 := fun x y H Q =>
  (∃ (a : Nat) (z : Str), x = .str ⟨#[a]⟩ ∧ y = .str z ∧ Q (.bl (if neg then !decide (a ∈ z.cps.toList) else decide (a ∈ z.cps.toList))) H) ∨
  (∃ i j, x = .str i ∧ y = .str j ∧ Q (.bl (if neg then !(!(Builtin.Str.occurrences j i 0 j.length 1).isEmpty) else !(Builtin.Str.occurrences j i 0 j.length 1).isEmpty)) H) ∨
  (∃ d ds, Dp K H x d ∧ Dp K H y (.list ds) ∧ SeqAt.shaped d = true ∧ SeqAt.shaped (.list ds) = true ∧ Q (.bl (if neg then !(ds.any fun z => PyData.eqv z d) else ds.any fun z => PyData.eqv z d)) H) ∨
  (∃ d ds, Dp K H x d ∧ Dp K H y (.tuple ds) ∧ SeqAt.shaped d = true ∧ SeqAt.shaped (.tuple ds) = true ∧ Q (.bl (if neg then !(ds.any fun z => PyData.eqv z d) else ds.any fun z => PyData.eqv z d)) H)
end
section
variable {c : Cn} {X : Cx} {F : Fr} {W : WX} {ρ : List Sl}
theorem shaped_room {n : Nat} {d : PyData} {ds : List PyData} (h : SeqAt.shaped d = true) (hu : n + 65 < cLine) : n + 1 + min (PyData.depthAll ds) d.depth < cLine := by
  have h2 : (d.canLay0 && decide (d.depth ≤ 64)) = true := h
  rw [Bool.and_eq_true] at h2
  have h3 := of_decide_eq_true h2.2
  omega
theorem opr_in (hu : X.A.units + 65 < cLine) : OpR X (compareOp .In) (rInX X.K false) := by
  intro pins s σ H x y v u Q I rx ry h
  rcases h with h | h | h | h
  · exact op_in_sign pins s σ H x y v u Q I rx ry h
  · exact op_in_str pins s σ H x y v u Q I rx ry h
  · exact op_inD hu pins s σ H x y v u Q I rx ry h
  · obtain ⟨d, ds, hd, he, sd, se, q⟩ := h
    obtain ⟨as, r1⟩ := Dp.reads I d x v hd rx
    obtain ⟨bs, r2⟩ := Dp.reads I (.tuple ds) y u he ry
    have lay : PyData.canLayAll0 ds = true := by
      have z := SeqAt.canLay_of_shaped se
      simpa only [PyData.canLay0] using z
    exact SeqAt.in_tuple_reads r2 r1 lay (SeqAt.canLay_of_shaped sd) (shaped_room sd hu) ⟨.bl _, H, I, rfl, q⟩
theorem str_one {x : Str} {a : Nat} (h : x.cps.toList = [a]) : x = ⟨#[a]⟩ := by
  obtain ⟨⟨l⟩⟩ := x
  exact congrArg (fun l => (⟨⟨l⟩⟩ : Str)) h
theorem inSeq_rd {neg : Bool} {mk : List PyData → PyData} {x : D} {ys : List D} {P : Pot} {ok : D → Pot → Prop} {ex : Ex → Pot → Prop} (h : out (inSeq neg mk x ys) P ok ex) :
    ∃ d ds, toPy x = some d ∧ toPys ys = some ds ∧ SeqAt.shaped d = true ∧ SeqAt.shaped (mk ds) = true ∧ ok (.bl (if neg then !(ds.any fun z => PyData.eqv z d) else ds.any fun z => PyData.eqv z d)) P := by
  unfold inSeq at h
  cases h1 : toPy x with
  | none => rw [h1] at h; exact h.elim
  | some d =>
    cases h2 : toPys ys with
    | none => rw [h1, h2] at h; exact h.elim
    | some ds =>
      rw [h1, h2] at h
      by_cases z : SeqAt.shaped d = true ∧ SeqAt.shaped (mk ds) = true
      · simp only [if_pos z] at h
        exact ⟨d, ds, rfl, rfl, z.1, z.2, h⟩
      · simp only [if_neg z] at h; exact h.elim
theorem opd_in (neg : Bool) : OpD c (rInX c.K neg) (inD neg) := by
  intro F ρ W P σ H G x y dx dy Q R rx ry q
  cases dy with
  | str y' =>
    cases dx with
    | str x' =>
      rw [rx.str_of, ry.str_of]
      have q' := q _ H G (Ext.refl _) R (.bl _)
      unfold inS at q'
      cases h : x'.cps.toList with
      | nil => rw [h] at q'; exact .inr (.inl ⟨x', y', rfl, rfl, q'⟩)
      | cons a r =>
        cases r with
        | nil => rw [h] at q'; exact .inl ⟨a, y', congrArg V.str (str_one h), rfl, q'⟩
        | cons b r => rw [h] at q'; exact .inr (.inl ⟨x', y', rfl, rfl, q'⟩)
    | _ => exact q.elim
  | lst ys =>
    obtain ⟨d, ds, h1, h2, s1, s2, k⟩ := inSeq_rd q
    exact .inr (.inr (.inl ⟨d, ds, dp_of R.post.le _ _ _ rx h1, dp_of R.post.le _ _ _ ry (by simp only [toPy]; rw [h2]; rfl), s1, s2, k _ H G (Ext.refl _) R (.bl _)⟩))
  | tup ys =>
    obtain ⟨d, ds, h1, h2, s1, s2, k⟩ := inSeq_rd q
    exact .inr (.inr (.inr ⟨d, ds, dp_of R.post.le _ _ _ rx h1, dp_of R.post.le _ _ _ ry (by simp only [toPy]; rw [h2]; rfl), s1, s2, k _ H G (Ext.refl _) R (.bl _)⟩))
  | _ => exact q.elim
def ixD : D → D → M D
  | .lst xs, .int i => M.some (atI xs i)
  | .tup xs, .int i => M.some (atI xs i)
  | .scr ns, .int i => M.some ((atI ns i).map .int)
  | .str z, .int i => if z.length ≤ sizeLine then M.some ((atI z.cps.toList i).map fun a => .str ⟨#[a]⟩) else M.no
  | _, _ => M.no
theorem atI_rep {G : Hp} {vs : List V} {ds : List D} {i : Int} {d : D} (r : c.reps G vs ds) (h : atI ds i = some d) : ∃ v, atI vs i = some v ∧ c.rep G v d := by
  unfold atI at h ⊢
  rw [r.1]
  cases e : ixN ds.length i with
  | none => rw [e] at h; cases h
  | some j =>
    rw [e] at h
    obtain ⟨v, h1, h2⟩ := r.get (show ds[j]? = some d from h)
    exact ⟨v, h1, h2⟩
theorem atI_map {α β : Type} {f : α → β} {xs : List α} {i : Int} : atI (xs.map f) i = (atI xs i).map f := by
  unfold atI
  rw [List.length_map]
  cases ixN xs.length i with
  | none => rfl
  | some j => simp
theorem opd_ix : OpD c (rIx c.K) ixD := by
  intro F ρ W P σ H G x y dx dy Q R rx ry q
  cases dx <;> cases dy <;> try exact q.elim
  · rename_i z i
    unfold ixD at q
    by_cases hz : z.length ≤ sizeLine
    · simp only [if_pos hz] at q
      obtain ⟨d, h, q⟩ := out_some.mp q
      rw [Option.map_eq_some_iff] at h
      obtain ⟨a, h, rfl⟩ := h
      rw [rx.str_of, ry.int_of]
      exact .inr (.inr ⟨z, i, a, rfl, rfl, hz, h, q _ H G (Ext.refl _) R (.str _)⟩)
    · simp only [if_neg hz] at q; exact q.elim
  · rename_i xs i
    obtain ⟨d, h, q⟩ := out_some.mp q
    rw [ry.int_of]
    cases rx with
    | lst ha hl hr =>
      obtain ⟨v, h1, h2⟩ := atI_rep ⟨hl, hr⟩ h
      exact .inl ⟨_, _, i, v, rfl, rfl, SqL.of (R.post.le _ _ ha), h1, q v H G (Ext.refl _) R h2⟩
  · rename_i xs i
    obtain ⟨d, h, q⟩ := out_some.mp q
    rw [ry.int_of]
    cases rx with
    | tup ha hl hr =>
      obtain ⟨v, h1, h2⟩ := atI_rep ⟨hl, hr⟩ h
      exact .inr (.inl ⟨_, _, i, v, rfl, rfl, Evl.ex_t R.post.le ha, h1, q v H G (Ext.refl _) R h2⟩)
  · rename_i ns i
    obtain ⟨d, h, q⟩ := out_some.mp q
    rw [Option.map_eq_some_iff] at h
    obtain ⟨n, h, rfl⟩ := h
    rw [ry.int_of]
    cases rx with
    | scr ha =>
      exact .inl ⟨_, _, i, .int n, rfl, rfl, Evl.ex_l R.post.le ha, by rw [atI_map, h]; rfl, q _ H G (Ext.refl _) R (.int n)⟩
theorem de_ix {a b : Expr} {pos : Pos} {ma mb : M D} (hK : X.K = c.K) (ha : PE X a (rdE c F W ρ ma)) (hb : PE X b (rdE c F W ρ mb)) (hs : PlainIx b) :
    PE X (.Subscript a b pos) (rdE c F W ρ (ma >>= fun x => mb >>= fun y => ixD x y)) := by
  have h := pe_ix (X := X) ix_seq ha hb hs (pos := pos)
  refine pe_by h fun σ H Q ⟨P, G, R, q⟩ => ?_
  refine ⟨P, G, R, out_mono (out_bind.mp q) (fun x P1 q1 v H1 G1 e1 R1 r1 => ?_) fun _ _ z => z⟩
  refine ⟨P1, G1, R1, out_mono (out_bind.mp q1) (fun y P2 q2 u H2 G2 e2 R2 r2 => ?_) fun _ _ z => exW_le e1 z⟩
  rw [hK]
  exact opd_ix F ρ W P2 σ H2 G2 v u x y Q R2 (r1.mono e2) r2 (out_mono q2 (fun d P3 q3 v3 H3 G3 e3 R3 r3 => q3 v3 H3 G3 (fun a o h => e3 a o (e2 a o (e1 a o h))) R3 r3) fun _ _ z => exW_le (fun a o h => e2 a o (e1 a o h)) z)
def rdO (c : Cn) (F : Fr) (W : WX) (ρ : List Sl) (m : M (Option Int)) : TO := fun σ H Q => ∃ P G, Rel c F ρ P σ H G ∧ out m P (fun o P' => ∀ H' G', Ext G G' → Rel c F ρ P' σ H' G' → Q o H') (exW c F W P G σ)
theorem po_by {e : Option Expr} {t t' : TO} (h : PO X e t) (k : ∀ σ H Q, t' σ H Q → t σ H Q) : PO X e t' := ⟨fun pins s σ H Q I q => h.run pins s σ H Q I (k σ H Q q)⟩
theorem do_none : PO X none (rdO c F W ρ (Pure.pure none)) := po_by po_none fun σ H Q ⟨P, G, R, q⟩ => q H G (Ext.refl _) R
def partD : D → M (Option Int)
  | .int i => Pure.pure (some i)
  | _ => M.no
theorem do_some {e : Expr} {m : M D} (h : PE X e (rdE c F W ρ m)) : PO X (some e) (rdO c F W ρ (m >>= partD)) := by
  refine po_by (po_some h) fun σ H Q ⟨P, G, R, q⟩ => ?_
  refine ⟨P, G, R, out_mono (out_bind.mp q) (fun x P1 q1 v H1 G1 e1 R1 r1 => ?_) fun _ _ z => z⟩
  cases x with
  | int i => exact ⟨i, r1.int_of, q1 H1 G1 e1 R1⟩
  | _ => exact q1.elim
def cutL {α : Type} (xs : List α) (lo hi : Option Int) : List α := (xs.drop (HT.sIx xs.length 0 lo)).take (HT.sIx xs.length xs.length hi - HT.sIx xs.length 0 lo)
theorem cut_rep {G : Hp} {vs : List V} {ds : List D} {lo hi : Option Int} (r : c.reps G vs ds) : c.reps G (cutV vs lo hi) (cutL ds lo hi) := by
  unfold cutV cutL
  rw [r.1]
  exact (r.drop _).take _
end
end DL
namespace DL
open PySem PySem.Spec PyProof.Rows L2
def arS : Ar → Sl
  | .v d => .v d
  | .p => .p
def slots (as : List Ar) (n : Nat) : List Sl := as.map arS ++ List.replicate (n - as.length) .un
def doneF {α : Type} : Fl α → M D
  | .nx _ => Pure.pure .non
  | .rt d => Pure.pure d
  | _ => M.no
section
variable {c : Cn}
theorem slots_ok {G H : Hp} {ap : Option Addr} : ∀ {vs : List V} {as : List Ar}, ArsOk c ⟨G, H, ap⟩ G vs as → ∀ (i : Nat) s x, (as.map arS)[i]? = some s → (vs.map some)[i]? = some x → SlOk c ⟨G, H, ap⟩ G H s x
  | [], [], _, i, s, x, h, _ => by simp at h
  | v :: vs, a :: as, ⟨h, t⟩, 0, s, x, h1, h2 => by
    simp at h1 h2
    subst h1; subst h2
    cases a with
    | v d => exact ⟨v, rfl, h⟩
    | p =>
      obtain ⟨b, h3, h4⟩ := h
      exact ⟨b, h3, by rw [h4]⟩
  | v :: vs, a :: as, ⟨h, t⟩, i + 1, s, x, h1, h2 => slots_ok t i s x (by simpa using h1) (by simpa using h2)
  | [], _ :: _, h, _, _, _, _, _ => h.elim
  | _ :: _, [], h, _, _, _, _, _ => h.elim
theorem rel_start {G H : Hp} {ap : Option Addr} {P : Pot} {vs : List V} {as : List Ar} {N : List Str} (p : Post c ap G H P G H) (r : ArsOk c ⟨G, H, ap⟩ G vs as) : Rel c ⟨G, H, ap⟩ (slots as N.length) P (L2.start N vs) H G := by
  have hl : vs.length = as.length := ArsOk.length r
  have nop : ∀ (i : Nat) k, (slots as N.length)[i]? ≠ some (.o k) := fun i k e => by
    unfold slots at e
    by_cases hi : i < (as.map arS).length
    · rw [List.getElem?_append_left hi, List.getElem?_map] at e
      cases q : as[i]? with
      | none => rw [q] at e; cases e
      | some a => rw [q] at e; cases a <;> cases e
    · rw [List.getElem?_append_right (Nat.le_of_not_lt hi), List.getElem?_replicate] at e
      split at e <;> cases e
  refine ⟨p, by unfold slots L2.start; simp [hl], fun i s x a b => ?_, fun i j k k' u h1 _ _ _ => absurd h1 (nop i k)⟩
  unfold slots at a
  unfold L2.start at b
  by_cases hi : i < as.length
  · rw [List.getElem?_append_left (by simpa using hi)] at a
    rw [List.getElem?_append_left (by simpa [hl] using hi)] at b
    exact slots_ok r i s x a b
  · rw [List.getElem?_append_right (by simpa using Nat.le_of_not_lt hi), List.getElem?_replicate] at a
    split at a
    · cases a; exact True.intro
    · cases a
end
section
variable {P : Program} {w : World} {K : PySem.W.Frag} {mg : Str → Option Value} {base : Heap} {c : Cn}
theorem GA.deeper {A : Around} (h : GA A) (env : Env) : GA (A.deeper env) := h
/-- what a body is given -/
structure BodyX (c : Cn) (X : Cx) (k : Nat) (W : WX) : Prop where
  cx : Ctx c X k
  tk : Takes X W
  own : PassesOwn (model X.prog X.w) X.A X.env X.xe
/-- the context of a body -/
abbrev bX (P : Program) (w : World) (K : PySem.W.Frag) (mg : Str → Option Value) (base : Heap) (N : List Str) (qual : Str) (st : Stmt) (f : Addr) (cd : Value) (A : Around) (fr : List Env) (s : Shared) (H : Hp) (E : XK) : Cx :=
  cxOf (L2.CX P w) P w K mg base N qual (defScope st) f cd A fr s H E
/-- a def by a reading of its body -/
theorem fn_coreC {x qual : Str} {st : Stmt} {f : Addr} {fd : FuncData} {N ps : List Str} {k : Nat} {sp : Sp} (Fn : Fun K x qual st f fd) (hK : c.K = K) (hm : c.mg = mg) (S : FnScope N ps (defScope st)) (ln : ∀ vs H Q E, sp vs H Q E → vs.length = ps.length)
    (hbody : ∀ (cd : Value) (A : Around) (fr : List Env) (s : Shared) (H : Hp) (vs : List V) (Q : VK) (E : XK), cd = fd.code → BodyX c (bX P w K mg base N qual st f cd A fr s H E) k (fun cl dd _ H => E cl dd H) → sp vs H Q E →
      ∃ t, PSs (bX P w K mg base N qual st f cd A fr s H E) (defBody st) t ∧ t { nx := fun _ H' => Q .non H', bk := fun _ _ => False, ct := fun _ _ => False, rt := Q } (L2.start N vs) H) :
    FnG P w K mg base (k + 1) f fd ps sp := by
  refine ⟨ln, fun A fr s H us vs args Q E ga hr e0 hb r hsp => ?_⟩
  obtain ⟨oc, od, kV, doc, pm, an, cdv, ct, osl, rfl, lk, hcd⟩ := Fn.ex
  have lv := ln _ _ _ _ hsp
  have kx : K.In s.heap := e0.mod.kin.keeps fun b o q => (e0.bs b o q).1
  have nl : s.heap.NoLimit := e0.mod.nolimit.keeps fun b o q => (e0.bs b o q).1
  refine codeAny_call_function hr.depth (kx _ _ lk) rfl S.co S.gen rfl (PySem.W.codeRec_of kx hcd) (hb _ _ _ _ ?_)
  refine wpAny_newFunctionEnv_cells S.kind (fun y hy => ?_) fun env he s1 ic => ?_
  · rcases S.par y.1 (List.of_mem_zip (show (y.1, y.2) ∈ ps.zip us from hy)).1 with z | z
    · exact .inl z
    · exact .inr ⟨z, PySem.W.cellsFrom_some _ _ _ (.inl z)⟩
  subst he
  refine ⟨nl.keeps ic.toInCall.keep, codeAny_func ?_⟩
  have I := inv_start (CX := L2.CX P w) (E := E) (base := base) S hr.hd e0 lv r ic
  have bx : BodyX c (bX P w K mg base N qual st f cdv A fr s H E) k (fun cl dd _ H => E cl dd H) := ⟨⟨hm.symm, hK.symm, ga, hr.deeper _⟩, takes_of rfl rfl rfl rfl, passes_of rfl⟩
  obtain ⟨t, ht, hq⟩ := hbody cdv A fr s H vs Q E rfl bx hsp
  refine wpAny_mono (ht.run [] s1 (L2.start N vs) H _ I hq) (fun fl s' hs => ?_) fun e s' hs => hs
  have fin : ∀ {σ' : L2.St} {H' : Hp} {v : V} {u : Value}, Inv (bX P w K mg base N qual st f cdv A fr s H E) [] σ' H' s' → RelV v u → Q v H' → CE fr P w H s Q u s' :=
    fun {σ' H' v u} J rv z => ⟨v, H', J.os, J.bare, J.base, J.hok, rv, z⟩
  cases fl with
  | next =>
    obtain ⟨σ', H', J, z⟩ := hs
    exact fin (v := .non) (u := .none) J rfl z
  | ret u =>
    obtain ⟨v, σ', H', J, rv, z⟩ := hs
    exact fin J rv z
  | brk => obtain ⟨_, _, _, z⟩ := hs; exact z.elim
  | cont => obtain ⟨_, _, _, z⟩ := hs; exact z.elim
theorem fn_core {x qual : Str} {st : Stmt} {f : Addr} {fd : FuncData} {N ps : List Str} {k : Nat} {sp : Sp} (Fn : Fun K x qual st f fd) (hK : c.K = K) (hm : c.mg = mg) (S : FnScope N ps (defScope st)) (ln : ∀ vs H Q E, sp vs H Q E → vs.length = ps.length)
    (hbody : ∀ (cd : Value) (A : Around) (fr : List Env) (s : Shared) (H : Hp) (vs : List V) (Q : VK) (E : XK), BodyX c (bX P w K mg base N qual st f cd A fr s H E) k (fun cl dd _ H => E cl dd H) → sp vs H Q E →
      ∃ t, PSs (bX P w K mg base N qual st f cd A fr s H E) (defBody st) t ∧ t { nx := fun _ H' => Q .non H', bk := fun _ _ => False, ct := fun _ _ => False, rt := Q } (L2.start N vs) H) :
    FnG P w K mg base (k + 1) f fd ps sp :=
  fn_coreC Fn hK hm S ln fun cd A fr s H vs Q E _ bx hsp => hbody cd A fr s H vs Q E bx hsp
theorem fnG_of {x qual : Str} {st : Stmt} {f : Addr} {fd : FuncData} {N ps : List Str} {k : Nat} {mf : List Ar → M D} (Fn : Fun K x qual st f fd) (hK : c.K = K) (hm : c.mg = mg) (S : FnScope N ps (defScope st)) (len : ∀ as P ok ex, out (mf as) P ok ex → as.length = ps.length)
    (hbody : ∀ (cd : Value) (A : Around) (fr : List Env) (s : Shared) (H0 G0 : Hp) (ap : Option Addr) (E : XK) (as : List Ar) (P0 : Pot) (ok : D → Pot → Prop) (ex : Ex → Pot → Prop), out (mf as) P0 ok ex → BodyX c (bX P w K mg base N qual st f cd A fr s H0 E) k (fun cl dd _ H => E cl dd H) →
      ∃ (α : Type) (En : α → List Sl) (mb : M (Fl α)), PSs (bX P w K mg base N qual st f cd A fr s H0 E) (defBody st) (rdS c ⟨G0, H0, ap⟩ (fun cl dd _ H => E cl dd H) (slots as N.length) En mb) ∧ mf as = mb >>= doneF) :
    FnG P w K mg base (k + 1) f fd ps (spD c mf) := by
  refine fn_core Fn hK hm S (fun vs H Q E ⟨ap, G, P0, as, p, r, q⟩ => (ArsOk.length r).trans (len _ _ _ _ q)) fun cd A fr s H vs Q E bx ⟨ap, G, P0, as, p0, ra, q0⟩ => ?_
  obtain ⟨α, En, mb, hps, em⟩ := hbody cd A fr s H G ap E as P0 _ _ q0 bx
  rw [em] at q0
  refine ⟨_, hps, P0, G, rel_start p0 ra, out_mono (out_bind.mp q0) (fun fl P' z => ?_) fun e P' z cl dd H' G' ρ' σ' _ R' k' => z cl dd H' G' R'.post k'⟩
  cases fl with
  | nx a => exact fun σ' H' G' e R' => z .non H' G' R'.post .non
  | rt d => exact fun v H' G' ρ' σ' e R' k' => z v H' G' R'.post k'
  | bk a => exact z.elim
  | ct a => exact z.elim
/-- a def that returns a new list of its own -/
def spF (c : Cn) (mf : List Ar → M (List D)) : Sp := fun vs H Q E => ∃ (ap : Option Addr) (G : Hp) (P : Pot) (as : List Ar),
  Post c ap G H P G H ∧ ArsOk c ⟨G, H, ap⟩ G vs as ∧
  out (mf as) P (fun ds P' => ∀ p vs H' G', Post c ap G H P' G' H' → H' p = some (.lst vs) → G' p = none → Fre H p → some p ≠ ap → c.reps G' vs ds → Q (.ref p) H') (fun e P' => ∀ cl dd H' G', Post c ap G H P' G' H' → ExOk c H' G' e cl dd → E cl dd H')
/-- a block that ends by the return of a new list -/
def rdF (c : Cn) (F : Fr) (W : WX) (ρ : List Sl) (m : M (List D)) : TS := fun B σ H => ∃ P G, Rel c F ρ P σ H G ∧ out m P (fun ds P' => ∀ p vs H' G' ρ' σ', Ext G G' → Rel c F ρ' P' σ' H' G' → H' p = some (.lst vs) → G' p = none → Fre F.H0 p → some p ≠ F.ap → c.reps G' vs ds → B.rt (.ref p) H') (exS c F W P G σ)
theorem fnF_of {x qual : Str} {st : Stmt} {f : Addr} {fd : FuncData} {N ps : List Str} {k : Nat} {mf : List Ar → M (List D)} (Fn : Fun K x qual st f fd) (hK : c.K = K) (hm : c.mg = mg) (S : FnScope N ps (defScope st)) (len : ∀ as P ok ex, out (mf as) P ok ex → as.length = ps.length)
    (hbody : ∀ (cd : Value) (A : Around) (fr : List Env) (s : Shared) (H0 G0 : Hp) (ap : Option Addr) (E : XK) (as : List Ar) (P0 : Pot) (ok : List D → Pot → Prop) (ex : Ex → Pot → Prop), out (mf as) P0 ok ex → BodyX c (bX P w K mg base N qual st f cd A fr s H0 E) k (fun cl dd _ H => E cl dd H) →
      PSs (bX P w K mg base N qual st f cd A fr s H0 E) (defBody st) (rdF c ⟨G0, H0, ap⟩ (fun cl dd _ H => E cl dd H) (slots as N.length) (mf as))) :
    FnG P w K mg base (k + 1) f fd ps (spF c mf) := by
  refine fn_core Fn hK hm S (fun vs H Q E ⟨ap, G, P0, as, p, r, q⟩ => (ArsOk.length r).trans (len _ _ _ _ q)) fun cd A fr s H vs Q E bx ⟨ap, G, P0, as, p0, ra, q0⟩ => ?_
  exact ⟨_, hbody cd A fr s H G ap E as P0 _ _ q0 bx, P0, G, rel_start p0 ra, out_mono q0 (fun ds P' z p vs H' G' ρ' σ' _ R' h1 h2 h3 h4 h5 => z p vs H' G' R'.post h1 h2 h3 h4 h5) fun e P' z cl dd H' G' ρ' σ' _ R' k' => z cl dd H' G' R'.post k'⟩
end
end DL
namespace DL
open PySem PySem.Spec PyProof.Rows L2
section
variable {c : Cn} {X : Cx}
theorem Reps.one {G : Hp} {vs : List V} {d : D} (h : c.reps G vs [d]) : ∃ v, vs = [v] ∧ c.rep G v d := by
  have l := h.1
  match vs, h, l with
  | [v], h, _ => exact ⟨v, rfl, h.head⟩
theorem Reps.two {G : Hp} {vs : List V} {d e : D} (h : c.reps G vs [d, e]) : ∃ v u, vs = [v, u] ∧ c.rep G v d ∧ c.rep G u e := by
  have l := h.1
  match vs, h, l with
  | [v, u], h, _ => exact ⟨v, u, rfl, h.head, h.tail.head⟩
/-- of one argument -/
def f1 (f : D → M D) : List D → M D
  | [d] => f d
  | _ => M.no
/-- of two -/
def f2 (f : D → D → M D) : List D → M D
  | [d, e] => f d e
  | _ => M.no
def Call1 (c : Cn) (r : V → Hp → VK → Prop) (f : D → M D) : Prop := ∀ F ρ W P σ H G v d Q, Rel c F ρ P σ H G → c.rep G v d → out (f d) P (fun d P' => ∀ v H' G', Ext G G' → Rel c F ρ P' σ H' G' → c.rep G' v d → Q v H') (exW c F W P G σ) → r v H Q
theorem callD1 {r : V → Hp → VK → Prop} {f : D → M D} (h : Call1 c r f) : CallD c (fun xs H Q => ∃ v, xs = [v] ∧ r v H Q) (f1 f) := by
  intro F ρ W P σ H G vs ds Q R rs q
  match ds, q with
  | [d], q =>
    obtain ⟨v, rfl, rv⟩ := rs.one
    exact ⟨v, rfl, h F ρ W P σ H G v d Q R rv q⟩
  | [], q => exact q.elim
  | _ :: _ :: _, q => exact q.elim
theorem callD2 {r : V → V → Hp → VK → Prop} {f : D → D → M D} (h : ∀ F ρ W P σ H G x y dx dy Q, Rel c F ρ P σ H G → c.rep G x dx → c.rep G y dy → out (f dx dy) P (fun d P' => ∀ v H' G', Ext G G' → Rel c F ρ P' σ H' G' → c.rep G' v d → Q v H') (exW c F W P G σ) → r x y H Q) :
    CallD c (fun xs H Q => ∃ v u, xs = [v, u] ∧ r v u H Q) (f2 f) := by
  intro F ρ W P σ H G vs ds Q R rs q
  match ds, q with
  | [d, e], q =>
    obtain ⟨v, u, rfl, rv, ru⟩ := rs.two
    exact ⟨v, u, rfl, h F ρ W P σ H G v u d e Q R rv ru q⟩
  | [], q => exact q.elim
  | [_], q => exact q.elim
  | _ :: _ :: _ :: _, q => exact q.elim
theorem CallR.by {f : Value} {r r' : List V → Hp → VK → Prop} (h : CallR X f r) (k : ∀ xs H Q, r' xs H Q → r xs H Q) : CallR X f r' := fun pins s σ H xs us Q I v z => h pins s σ H xs us Q I v (k _ _ _ z)
def lenD : D → M D
  | .str x => if x.length ≤ sizeLine then Pure.pure (.int (x.length : Nat)) else M.no
  | .lst xs => Pure.pure (.int (xs.length : Nat))
  | .tup xs => Pure.pure (.int (xs.length : Nat))
  | .scr xs => Pure.pure (.int (xs.length : Nat))
  | .dic xs => Pure.pure (.int (xs.length : Nat))
  | _ => M.no
def rLen (K : PySem.W.Frag) : V → Hp → VK → Prop := fun v H Q => (∃ n, LenV K v H n ∧ Q (.int n) H) ∨ (∃ a kvs, v = .ref a ∧ H a = some (.dK kvs) ∧ Q (.int kvs.length) H) ∨ (∃ a kvs, v = .ref a ∧ H a = some (.dT kvs) ∧ Q (.int ((kvs.length : Nat) : Int)) H)
theorem cr_len : CallR X (.builtin "len") (fun xs H Q => ∃ v, xs = [v] ∧ rLen X.K v H Q) :=
  CallR.by (CallR.or call_len (CallR.or call_lenD call_len_dT)) fun xs H Q ⟨v, e, h⟩ => by
    subst e
    rcases h with ⟨n, h, q⟩ | ⟨a, kvs, rfl, h, q⟩ | ⟨a, kvs, rfl, h, q⟩
    · exact .inl ⟨v, n, rfl, h, q⟩
    · exact .inr (.inl ⟨a, kvs, rfl, h, q⟩)
    · exact .inr (.inr ⟨a, kvs, rfl, h, q⟩)
theorem cd_len : CallD c (fun xs H Q => ∃ v, xs = [v] ∧ rLen c.K v H Q) (f1 lenD) := callD1 fun F ρ W P σ H G v d Q R r q => by
  have go : ∀ n : Nat, out (Pure.pure (.int n) : M D) P (fun d P' => ∀ v H' G', Ext G G' → Rel c F ρ P' σ H' G' → c.rep G' v d → Q v H') (exW c F W P G σ) → Q (.int n) H := fun n q => q _ H G (Ext.refl _) R (.int _)
  cases d with
  | str x =>
    unfold lenD at q
    by_cases z : x.length ≤ sizeLine
    · simp only [if_pos z] at q
      rw [r.str_of]
      exact .inl ⟨x.length, ⟨z, rfl⟩, go _ q⟩
    · simp only [if_neg z] at q; exact q.elim
  | lst xs => cases r with | lst ha hl hr => exact .inl ⟨_, .inl ⟨_, SqL.of (R.post.le _ _ ha), rfl⟩, by rw [hl]; exact go _ q⟩
  | tup xs => cases r with | tup ha hl hr => exact .inl ⟨_, .inr ⟨_, Evl.ex_t R.post.le ha, rfl⟩, by rw [hl]; exact go _ q⟩
  | scr xs => cases r with | scr ha => exact .inl ⟨_, .inl ⟨_, Evl.ex_l R.post.le ha, rfl⟩, by rw [List.length_map]; exact go _ q⟩
  | dic xs =>
    cases r with
    | dicK h k hr => exact .inr (.inl ⟨_, _, rfl, R.post.le _ _ h, by have e := congrArg List.length k; rw [List.length_map, List.length_map] at e; rw [e]; exact go _ q⟩)
    | dicT h k hr => exact .inr (.inr ⟨_, _, rfl, R.post.le _ _ h, by have e := congrArg List.length k; rw [List.length_map, List.length_map] at e; rw [e]; exact go _ q⟩)
  | _ => exact q.elim
def strD : D → M D
  | .int i => if i.natAbs.log2 < 1920 then Pure.pure (.str (toString i)) else M.no
  | .str x => Pure.pure (.str x)
  | _ => M.no
def rStr : V → Hp → VK → Prop := fun v H Q => (∃ i, v = .int i ∧ i.natAbs.log2 < 1920 ∧ Q (.str (toString i)) H) ∨ ∃ a, v = .str a ∧ Q (.str a) H
theorem cr_str : CallR X (.type "str") (fun xs H Q => ∃ v, xs = [v] ∧ rStr v H Q) := CallR.by (CallR.or call_str_int SkE.call_str_str) fun xs H Q ⟨v, e, h⟩ => by
  subst e
  rcases h with ⟨i, rfl, h⟩ | ⟨a, rfl, h⟩
  · exact .inl ⟨i, rfl, h⟩
  · exact .inr ⟨a, rfl, h⟩
theorem cd_str : CallD c (fun xs H Q => ∃ v, xs = [v] ∧ rStr v H Q) (f1 strD) := callD1 fun F ρ W P σ H G v d Q R r q => by
  cases d with
  | int i =>
    unfold strD at q
    by_cases z : i.natAbs.log2 < 1920
    · simp only [if_pos z] at q
      exact .inl ⟨i, r.int_of, z, q _ H G (Ext.refl _) R (.str _)⟩
    · simp only [if_neg z] at q; exact q.elim
  | str x => exact .inr ⟨x, r.str_of, q _ H G (Ext.refl _) R (.str _)⟩
  | _ => exact q.elim
def intOf : D → M D
  | .int i => Pure.pure (.int i)
  | .bl k => Pure.pure (.int (if k then 1 else 0))
  | _ => M.no
def rInt : V → Hp → VK → Prop := fun v H Q => (∃ i, v = .int i ∧ Q (.int i) H) ∨ ∃ k, v = .bl k ∧ Q (.int (if k then 1 else 0)) H
theorem cr_int : CallR X (.type "int") (fun xs H Q => ∃ v, xs = [v] ∧ rInt v H Q) := CallR.by call_int1 fun xs H Q ⟨v, e, h⟩ => by
  subst e
  rcases h with ⟨i, rfl, h⟩ | ⟨a, rfl, h⟩
  · exact .inl ⟨i, rfl, h⟩
  · exact .inr ⟨a, rfl, h⟩
theorem cd_int : CallD c (fun xs H Q => ∃ v, xs = [v] ∧ rInt v H Q) (f1 intOf) := callD1 fun F ρ W P σ H G v d Q R r q => by
  cases d with
  | int i => exact .inl ⟨i, r.int_of, q _ H G (Ext.refl _) R (.int _)⟩
  | bl x => exact .inr ⟨x, r.bl_of, q _ H G (Ext.refl _) R (.int _)⟩
  | _ => exact q.elim
def absD : D → M D
  | .int i => Pure.pure (.int (if i < 0 then -i else i))
  | _ => M.no
theorem cd_abs : CallD c (fun xs H Q => ∃ v, xs = [v] ∧ ∃ i, v = .int i ∧ Q (.int (if i < 0 then -i else i)) H) (f1 absD) := callD1 fun F ρ W P σ H G v d Q R r q => by
  cases d with
  | int i => exact ⟨i, r.int_of, q _ H G (Ext.refl _) R (.int _)⟩
  | _ => exact q.elim
theorem cr_abs : CallR X (.builtin "abs") (fun xs H Q => ∃ v, xs = [v] ∧ ∃ i, v = .int i ∧ Q (.int (if i < 0 then -i else i)) H) := CallR.by call_abs fun xs H Q ⟨v, e, i, e2, q⟩ => ⟨i, by rw [e, e2], q⟩
def maxD : D → D → M D
  | .int i, .int j => Pure.pure (.int (if j > i then j else i))
  | _, _ => M.no
def minD : D → D → M D
  | .int i, .int j => Pure.pure (.int (if j < i then j else i))
  | _, _ => M.no
theorem cr_max (hc : X.calm = true) : CallR X (.builtin "max") (fun xs H Q => ∃ v u, xs = [v, u] ∧ ∃ i j, v = .int i ∧ u = .int j ∧ Q (.int (if j > i then j else i)) H) := CallR.by (call_max2 hc) fun xs H Q ⟨v, u, e, i, j, e1, e2, q⟩ => ⟨i, j, by rw [e, e1, e2], q⟩
theorem cr_min (hc : X.calm = true) : CallR X (.builtin "min") (fun xs H Q => ∃ v u, xs = [v, u] ∧ ∃ i j, v = .int i ∧ u = .int j ∧ Q (.int (if j < i then j else i)) H) := CallR.by (call_min2 hc) fun xs H Q ⟨v, u, e, i, j, e1, e2, q⟩ => ⟨i, j, by rw [e, e1, e2], q⟩
theorem cd_max : CallD c (fun xs H Q => ∃ v u, xs = [v, u] ∧ ∃ i j, v = .int i ∧ u = .int j ∧ Q (.int (if j > i then j else i)) H) (f2 maxD) := callD2 fun F ρ W P σ H G x y dx dy Q R rx ry q => by
  cases dx <;> cases dy <;> try exact q.elim
  exact ⟨_, _, rx.int_of, ry.int_of, q _ H G (Ext.refl _) R (.int _)⟩
theorem cd_min : CallD c (fun xs H Q => ∃ v u, xs = [v, u] ∧ ∃ i j, v = .int i ∧ u = .int j ∧ Q (.int (if j < i then j else i)) H) (f2 minD) := callD2 fun F ρ W P σ H G x y dx dy Q R rx ry q => by
  cases dx <;> cases dy <;> try exact q.elim
  exact ⟨_, _, rx.int_of, ry.int_of, q _ H G (Ext.refl _) R (.int _)⟩
def tupleD : D → M D
  | .lst xs => Pure.pure (.tup xs)
  | .tup xs => Pure.pure (.tup xs)
  | .scr ns => Pure.pure (.tup (ns.map .int))
  | _ => M.no
def rTupleOf (K : PySem.W.Frag) : V → Hp → VK → Prop := fun v H Q => ∃ p ys, v = .ref p ∧ ((SqL K H p ys ∧ ∀ l, H l = none → Q (.ref l) (upd H l (.tup ys))) ∨ (SqT K H p ys ∧ Q (.ref p) H))
theorem cr_tuple : CallR X (.type "tuple") (fun xs H Q => ∃ v, xs = [v] ∧ rTupleOf X.K v H Q) := CallR.by call_tuple_of fun xs H Q ⟨v, e, p, ys, e2, q⟩ => ⟨p, ys, by rw [e, e2], q⟩
theorem new_lst {F : Fr} {ρ : List Sl} {P : Pot} {σ : L2.St} {H G : Hp} {p : Addr} {ys : List V} {ds : List D} {Q : VK} (R : Rel c F ρ P σ H G) (hp : H p = none) (r : c.reps G ys ds) (q : ∀ v H' G', Ext G G' → Rel c F ρ P σ H' G' → c.rep G' v (.lst ds) → Q v H') : Q (.ref p) (upd H p (.lst ys)) := by
  obtain ⟨R2, e2⟩ := R.new hp nt_lst
  exact q _ _ _ e2 R2 (.lst upd_same r.1 fun i v d a b => (r.2 i v d a b).mono e2)
theorem new_tup {F : Fr} {ρ : List Sl} {P : Pot} {σ : L2.St} {H G : Hp} {p : Addr} {ys : List V} {ds : List D} {Q : VK} (R : Rel c F ρ P σ H G) (hp : H p = none) (r : c.reps G ys ds) (q : ∀ v H' G', Ext G G' → Rel c F ρ P σ H' G' → c.rep G' v (.tup ds) → Q v H') : Q (.ref p) (upd H p (.tup ys)) := by
  obtain ⟨R2, e2⟩ := R.new hp nt_tup
  exact q _ _ _ e2 R2 (.tup (SqT.of upd_same) r.1 fun i v d a b => (r.2 i v d a b).mono e2)
theorem cd_tuple : CallD c (fun xs H Q => ∃ v, xs = [v] ∧ rTupleOf c.K v H Q) (f1 tupleD) := callD1 fun F ρ W P σ H G v d Q R r q => by
  cases d with
  | lst xs => cases r with | lst ha hl hr => exact ⟨_, _, rfl, .inl ⟨SqL.of (R.post.le _ _ ha), fun l h => new_tup R h ⟨hl, hr⟩ q⟩⟩
  | tup xs => cases r with | tup ha hl hr => exact ⟨_, _, rfl, .inr ⟨Evl.ex_t R.post.le ha, q _ H G (Ext.refl _) R (.tup ha hl hr)⟩⟩
  | scr xs => cases r with | scr ha => exact ⟨_, _, rfl, .inl ⟨Evl.ex_l R.post.le ha, fun l h => new_tup R h (reps_ints xs) q⟩⟩
  | _ => exact q.elim
def bls : List D → Option (List Bool)
  | [] => some []
  | .bl b :: ds => (bls ds).map (b :: ·)
  | _ => none
theorem bls_of {G : Hp} : ∀ {vs : List V} {ds : List D} {bs : List Bool}, c.reps G vs ds → bls ds = some bs → vs = bs.map V.bl
  | vs, [], bs, r, h => by cases h; rw [r.nil_of']; rfl
  | [], _ :: _, _, r, _ => by have := r.1; simp at this
  | v :: vs, d :: ds, bs, r, h => by
    cases d with
    | bl b =>
      simp only [bls, Option.map_eq_some_iff] at h
      obtain ⟨bs', h, rfl⟩ := h
      rw [r.head.bl_of, bls_of r.tail h]
      rfl
    | _ => exact nomatch h
def allD : D → M D
  | .lst xs => M.some ((bls xs).map fun bs => .bl (bs.all id))
  | _ => M.no
def rBls (K : PySem.W.Frag) (f : List Bool → Bool) : V → Hp → VK → Prop := fun v H Q => ∃ (a : Addr) (bs : List Bool), v = V.ref a ∧ SqL K H a (bs.map V.bl) ∧ Q (.bl (f bs)) H
theorem cr_allD (hc : X.calm = true) : CallR X (.builtin "all") (fun xs H Q => ∃ v, xs = [v] ∧ rBls X.K (fun bs => bs.all id) v H Q) := CallR.by (cr_all hc) fun xs H Q ⟨v, e, a, bs, e2, h⟩ => ⟨a, bs, by rw [e, e2], h⟩
theorem bls_rd {f : List Bool → Bool} {F : Fr} {ρ : List Sl} {W : WX} {P : Pot} {σ : L2.St} {H G : Hp} {v : V} {xs : List D} {Q : VK} (R : Rel c F ρ P σ H G) (r : c.rep G v (.lst xs))
    (q : out (M.some ((bls xs).map fun bs => D.bl (f bs))) P (fun d P' => ∀ v H' G', Ext G G' → Rel c F ρ P' σ H' G' → c.rep G' v d → Q v H') (exW c F W P G σ)) : rBls c.K f v H Q := by
  obtain ⟨d, h, q⟩ := out_some.mp q
  rw [Option.map_eq_some_iff] at h
  obtain ⟨bs, h, rfl⟩ := h
  cases r with
  | lst ha hl hr =>
    have e := bls_of ⟨hl, hr⟩ h
    subst e
    exact ⟨_, bs, rfl, SqL.of (R.post.le _ _ ha), q _ H G (Ext.refl _) R (.bl _)⟩
theorem cd_all : CallD c (fun xs H Q => ∃ v, xs = [v] ∧ rBls c.K (fun bs => bs.all id) v H Q) (f1 allD) := callD1 fun F ρ W P σ H G v d Q R r q => by
  cases d with
  | lst xs => exact bls_rd R r q
  | _ => exact q.elim
def reprD (d : D) : M D := match toPy d with
  | some (.list xs) => rp (.list xs)
  | some (.tuple xs) => rp (.tuple xs)
  | _ => M.no
where rp (p : PyData) : M D := if p.showable = true ∧ p.hasDict = false ∧ p.depth ≤ 100 ∧ p.shown.length ≤ sizeLine then Pure.pure (.str p.shown) else M.no
def rRepr (K : PySem.W.Frag) : V → Hp → VK → Prop := fun v H Q => ∃ a p, v = .ref a ∧ Dp K H v p ∧ p.showable = true ∧ p.hasDict = false ∧ p.depth ≤ 100 ∧ p.shown.length ≤ sizeLine ∧ Q (.str p.shown) H
theorem cr_repr (hg : X.A.guards = some []) (hu : X.A.units + 102 < cLine) : CallR X (.builtin "repr") (fun xs H Q => ∃ v, xs = [v] ∧ rRepr X.K v H Q) := by
  intro pins s σ H xs us Q I r h
  obtain ⟨v, rfl, a, p, rfl, hp, h1, h2, h3, h4, q⟩ := h
  obtain ⟨u, rfl, ru⟩ := vals1 r
  obtain ⟨as, rd⟩ := Dp.reads I p _ u hp ru
  cases ru
  exact PySem.repr_of_reads' rd h1 (fun z => by rw [h2] at z; cases z) hg (by omega) (fun _ _ e => e) (fun h' t tk k => ⟨.str _, H, I.kept k, ⟨t, rfl⟩, q⟩) h4
theorem rp_rd {p : PyData} {P : Pot} {ok : D → Pot → Prop} {ex : Ex → Pot → Prop} (h : out (reprD.rp p) P ok ex) : p.showable = true ∧ p.hasDict = false ∧ p.depth ≤ 100 ∧ p.shown.length ≤ sizeLine ∧ ok (.str p.shown) P := by
  unfold reprD.rp at h
  by_cases z : p.showable = true ∧ p.hasDict = false ∧ p.depth ≤ 100 ∧ p.shown.length ≤ sizeLine
  · rw [if_pos z] at h
    exact ⟨z.1, z.2.1, z.2.2.1, z.2.2.2, h⟩
  · rw [if_neg z] at h; exact h.elim
theorem cd_repr : CallD c (fun xs H Q => ∃ v, xs = [v] ∧ rRepr c.K v H Q) (f1 reprD) := callD1 fun F ρ W P σ H G v d Q R r q => by
  unfold reprD at q
  cases h : toPy d with
  | none => rw [h] at q; exact q.elim
  | some p =>
    rw [h] at q
    have dp := dp_of R.post.le d v p r h
    cases p with
    | list xs =>
      obtain ⟨h1, h2, h3, h4, q⟩ := rp_rd q
      cases d <;> simp [toPy] at h
      cases r with | lst ha hl hr => exact ⟨_, _, rfl, dp, h1, h2, h3, h4, q _ H G (Ext.refl _) R (.str _)⟩
    | tuple xs =>
      obtain ⟨h1, h2, h3, h4, q⟩ := rp_rd q
      cases d <;> simp [toPy] at h
      cases r with | tup ha hl hr => exact ⟨_, _, rfl, dp, h1, h2, h3, h4, q _ H G (Ext.refl _) R (.str _)⟩
    | _ => exact q.elim
end
end DL
namespace DL
open PySem PySem.Spec PyProof.Rows L2
section
variable {c : Cn} {X : Cx} {F : Fr} {W : WX} {ρ : List Sl}
def sliceD : D → Option Int → Option Int → M D
  | .lst xs, lo, hi => Pure.pure (.lst (cutL xs lo hi))
  | .tup xs, lo, hi => Pure.pure (.tup (cutL xs lo hi))
  | .scr ns, lo, hi => Pure.pure (.lst ((cutL ns lo hi).map .int))
  | .str z, lo, hi => if z.length ≤ sizeLine then Pure.pure (.str (cutS z lo hi)) else M.no
  | _, _, _ => M.no
def rSlD (K : PySem.W.Frag) : V → Option Int → Option Int → Hp → VK → Prop := fun x lo hi H Q => rSlL K x lo hi H Q ∨ (rSlA K x lo hi H Q ∨ rSlS x lo hi H Q)
theorem sl_D : SlR X (rSlD X.K) := SlR.or sl_list (SlR.or sl_tupA sl_str)
theorem cut_all {α : Type} {xs : List α} {lo hi : Option Int} (h : HT.sIx xs.length 0 lo = 0 ∧ HT.sIx xs.length xs.length hi = xs.length) : cutL xs lo hi = xs := by
  unfold cutL
  rw [h.1, h.2]
  simp
theorem cut_map {α β : Type} {f : α → β} {xs : List α} {lo hi : Option Int} : cutL (xs.map f) lo hi = (cutL xs lo hi).map f := by
  unfold cutL
  rw [List.length_map, List.map_take, List.map_drop]
theorem slice_rd {P : Pot} {σ : L2.St} {H G : Hp} {x : V} {d : D} {lo hi : Option Int} {Q : VK} (R : Rel c F ρ P σ H G) (r : c.rep G x d)
    (q : out (sliceD d lo hi) P (fun d P' => ∀ v H' G', Ext G G' → Rel c F ρ P' σ H' G' → c.rep G' v d → Q v H') (exW c F W P G σ)) : rSlD c.K x lo hi H Q := by
  cases d with
  | lst xs => cases r with | lst ha hl hr => exact .inl ⟨_, _, rfl, SqL.of (R.post.le _ _ ha), fun p hp => new_lst R hp (cut_rep ⟨hl, hr⟩) q⟩
  | tup xs =>
    cases r with
    | tup ha hl hr =>
      refine .inr (.inl ⟨_, _, rfl, Evl.ex_t R.post.le ha, fun w => ?_, fun w p hp => new_tup R hp (cut_rep ⟨hl, hr⟩) q⟩)
      rw [hl] at w
      have q' : ∀ v H' G', Ext G G' → Rel c F ρ P σ H' G' → c.rep G' v (.tup (cutL xs lo hi)) → Q v H' := q
      rw [cut_all w] at q'
      exact q' _ H G (Ext.refl _) R (.tup ha hl hr)
  | scr ns =>
    cases r with
    | scr ha =>
      refine .inl ⟨_, _, rfl, Evl.ex_l R.post.le ha, fun p hp => new_lst R hp ?_ q⟩
      show c.reps G (cutL (ns.map V.int) lo hi) _
      rw [cut_map]
      exact reps_ints _
  | str z =>
    unfold sliceD at q
    by_cases hz : z.length ≤ sizeLine
    · simp only [if_pos hz] at q
      exact .inr (.inr ⟨z, r.str_of, hz, q _ H G (Ext.refl _) R (.str _)⟩)
    · simp only [if_neg hz] at q; exact q.elim
  | _ => exact q.elim
theorem de_slice {e : Expr} {lo hi : Option Expr} {p2 pos : Pos} {me : M D} {ml mh : M (Option Int)} (hK : X.K = c.K) (he : PE X e (rdE c F W ρ me)) (hl : PO X lo (rdO c F W ρ ml)) (hh : PO X hi (rdO c F W ρ mh)) :
    PE X (.Subscript e (.Slice lo hi none p2) pos) (rdE c F W ρ (me >>= fun x => ml >>= fun l => mh >>= fun u => sliceD x l u)) := by
  refine pe_by (pe_slice (sl_D (X := X)) he hl hh) fun σ H Q ⟨P, G, R, q⟩ => ?_
  refine ⟨P, G, R, out_mono (out_bind.mp q) (fun x P1 q1 v H1 G1 e1 R1 r1 => ?_) fun _ _ z => z⟩
  refine ⟨P1, G1, R1, out_mono (out_bind.mp q1) (fun l P2 q2 H2 G2 e2 R2 => ?_) fun _ _ z => exW_le e1 z⟩
  refine ⟨P2, G2, R2, out_mono (out_bind.mp q2) (fun u P3 q3 H3 G3 e3 R3 => ?_) fun _ _ z => exW_le (e1.trans e2) z⟩
  rw [hK]
  have e13 := (e1.trans e2).trans e3
  exact slice_rd (W := W) R3 (r1.mono (e2.trans e3)) (out_mono q3 (fun d P4 q4 v4 H4 G4 e4 R4 r4 => q4 v4 H4 G4 (e13.trans e4) R4 r4) fun _ _ z => exW_le e13 z)
def bitsD : D → M D
  | .int i => Pure.pure (.int (Builtin.Int.intBits i : Nat))
  | _ => M.no
theorem de_bits {o : Expr} {apos pos : Pos} {m : M D} (h : PE X o (rdE c F W ρ m)) (hbase : attributeBase o "bit_length" X.env (eval o X.env) = eval o X.env := by rfl) (hline : (apos.endLine == pos.line) = true := by rfl) :
    PE X (.Call (.Attribute o "bit_length" apos) [] [] pos) (rdE c F W ρ (m >>= bitsD)) := by
  refine pe_by (pe_bits h hbase hline) fun σ H Q ⟨P, G, R, q⟩ => ?_
  refine ⟨P, G, R, out_mono (out_bind.mp q) (fun x P1 q1 v H1 G1 e1 R1 r1 => ?_) fun _ _ z => z⟩
  cases x with
  | int i => exact ⟨i, r1.int_of, q1 _ H1 G1 e1 R1 (.int _)⟩
  | _ => exact q1.elim
def tyN : D → Option String
  | .non => some "NoneType"
  | .bl _ => some "bool"
  | .int _ => some "int"
  | .str _ => some "str"
  | .lst _ => some "list"
  | .scr _ => some "list"
  | .tup _ => some "tuple"
  | .dic _ => some "dict"
  | .dcl _ => none
  | .ins _ _ => none
  | .cls _ => none
  | .tuk _ => none
  | .dct _ => none
def isB (n T : String) : Bool := n == T || (n == "bool" && T == "int")
theorem kit_isB {n T : String} (hn : n ∈ ["NoneType", "bool", "int", "str", "list", "tuple", "dict"]) (hT : T ∈ ["bool", "int", "str", "list", "tuple", "dict"]) : kitB n T = some (isB n T) := by
  have all : ∀ n ∈ ["NoneType", "bool", "int", "str", "list", "tuple", "dict"], ∀ T ∈ ["bool", "int", "str", "list", "tuple", "dict"], kitB n T = some (isB n T) := by decide +kernel
  exact all n hn T hT
theorem tyX_of {P : Pot} {σ : L2.St} {H G : Hp} {x : V} {d : D} {n : String} (R : Rel c F ρ P σ H G) (r : c.rep G x d) (h : tyN d = some n) : TyX c.K H x (.type n) ∧ n ∈ ["NoneType", "bool", "int", "str", "list", "tuple", "dict"] := by
  cases d with
  | non => cases h; rw [r.non_of]; exact ⟨.base .non, by decide⟩
  | bl b => cases h; rw [r.bl_of]; exact ⟨.base (.bl b), by decide⟩
  | int b => cases h; rw [r.int_of]; exact ⟨.base (.int b), by decide⟩
  | str b => cases h; rw [r.str_of]; exact ⟨.base (.str b), by decide⟩
  | lst xs => cases h; cases r with | lst ha hl hr => exact ⟨.base (.lst (R.post.le _ _ ha)), by decide⟩
  | scr xs =>
    cases h
    cases r with
    | scr ha =>
      refine ⟨?_, by decide⟩
      have := Evl.ex_l R.post.le ha
      rcases this with (h | ⟨o, h⟩) | ⟨o, its, n, h1, h2, h3⟩
      · exact .base (.lst h)
      · exact .base (.frz h)
      · exact .kList h1 h2
  | tup xs =>
    cases h
    cases r with
    | tup ha hl hr =>
      refine ⟨?_, by decide⟩
      have := Evl.ex_t R.post.le ha
      rcases this with (h | ⟨o, h⟩) | ⟨o, its, n, h1, h2, h3⟩
      · exact .base (.tup h)
      · exact .fTuple h
      · exact .kTuple h1 h2
  | dic xs =>
    cases h
    cases r with
    | dicK ha k hr => exact ⟨.base (.dK (R.post.le _ _ ha)), by decide⟩
    | dicT ha k hr => exact ⟨.base (.dT (R.post.le _ _ ha)), by decide⟩
  | dcl _ => cases h
  | ins _ _ => cases h
  | cls _ => cases h
  | tuk _ => cases h
  | dct _ => cases h
end
end DL
namespace DL
open PySem PySem.Spec PyProof.Rows L2
section
variable {c : Cn} {X : Cx} {F : Fr} {W : WX} {ρ : List Sl}
/-- what the written part says of instances of the class cn, asked about u -/
def InsIs (c : Cn) (cn : Str) (u : Value) (b : Bool) : Prop := ∀ C, c.mg cn = some (.ref C) → Cls c.K C ∧ PySem.W.findIn c.K (.ref C) "__class__" = some (some (.builtin "object.__class__")) ∧
  PySem.W.specialIn c.K (.builtin "object.__class__") "__get__" = some (some (.builtin "getset_descriptor.__get__")) ∧ PySem.W.takesIn c.K (.builtin "object.__class__") = some true ∧ PySem.W.mroIn c.K C (.type "object") = some true ∧
  PySem.W.kitOne c.K (.ref C) u = some b
def isiM (bt : String → Option Bool) (own : Str → Option Bool) (d : D) : M D := match d with
  | .ins cn _ => M.some ((own cn).map .bl)
  | d => match tyN d with
    | some n => M.some ((bt n).map .bl)
    | none => M.no
theorem isi_rd {bt : String → Option Bool} {own : Str → Option Bool} {u : Value} {cv : V} (hk : ClsV cv u) (hbt : ∀ n b, n ∈ ["NoneType", "bool", "int", "str", "list", "tuple", "dict"] → bt n = some b → PySem.W.kitOne c.K (.type n) u = some b) (ho : ∀ cn b, own cn = some b → InsIs c cn u b)
    {P : Pot} {σ : L2.St} {H G : Hp} {x : V} {d : D} {Q : VK} (R : Rel c F ρ P σ H G) (r : c.rep G x d)
    (q : out (isiM bt own d) P (fun d P' => ∀ v H' G', Ext G G' → Rel c F ρ P' σ H' G' → c.rep G' v d → Q v H') (exW c F W P G σ)) : rIsi c.K [x, cv] H Q := by
  have base : ∀ n, tyN d = some n → out (M.some ((bt n).map D.bl)) P (fun d P' => ∀ v H' G', Ext G G' → Rel c F ρ P' σ H' G' → c.rep G' v d → Q v H') (exW c F W P G σ) → rIsi c.K [x, cv] H Q := fun n hn q => by
    obtain ⟨d', h, q⟩ := out_some.mp q
    rw [Option.map_eq_some_iff] at h
    obtain ⟨b, h, rfl⟩ := h
    obtain ⟨t, m⟩ := tyX_of R r hn
    exact ⟨x, cv, _, u, b, rfl, hk, t, hbt n b m h, q _ H G (Ext.refl _) R (.bl _)⟩
  cases d with
  | ins cn fs =>
    obtain ⟨d', h, q⟩ := out_some.mp q
    rw [Option.map_eq_some_iff] at h
    obtain ⟨b, h, rfl⟩ := h
    cases r with
    | ins ha hc k hr =>
      obtain ⟨h1, h2, h3, h4, h5, h6⟩ := ho cn b h _ hc
      exact ⟨_, cv, _, u, b, rfl, hk, .base (.ins (R.post.le _ _ ha) h1 h2 h3 h4 h5), h6, q _ H G (Ext.refl _) R (.bl _)⟩
  | non => exact base "NoneType" rfl q
  | bl b => exact base "bool" rfl q
  | int b => exact base "int" rfl q
  | str b => exact base "str" rfl q
  | lst b => exact base "list" rfl q
  | scr b => exact base "list" rfl q
  | tup b => exact base "tuple" rfl q
  | dic b => exact base "dict" rfl q
  | dcl _ => exact q.elim
  | cls _ => exact q.elim
  | tuk _ => exact q.elim
  | dct _ => exact q.elim
theorem de_isiX {bt : String → Option Bool} {own : Str → Option Bool} {u : Value} {cv : V} {a e : Expr} {p pos : Pos} {m : M D} (hK : X.K = c.K) (hk : ClsV cv u) (hbt : ∀ n b, n ∈ ["NoneType", "bool", "int", "str", "list", "tuple", "dict"] → bt n = some b → PySem.W.kitOne c.K (.type n) u = some b) (ho : ∀ cn b, own cn = some b → InsIs c cn u b)
    (hg : Gl X "isinstance") (hm : X.mg "isinstance" = none) (ha : PE X a (rdE c F W ρ m)) (he : PE X e (tC cv)) (h1 : starEach (a :: [e]) X.env = (false, eval a X.env) :: starEach [e] X.env := by rfl) (h2 : starEach (e :: []) X.env = (false, eval e X.env) :: starEach [] X.env := by rfl)
    (hpl : (backTo pos (starEach [e] X.env)).any (·.1) = false := by rfl) : PE X (.Call (.Name "isinstance" p) [a, e] [] pos) (rdE c F W ρ (m >>= isiM bt own)) := by
  have hargs : PA X [a, e] (tCons (rdE c F W ρ m) (tCons (tC cv) tNil)) := pa_cons ha (pa_cons he pa_nil h2) h1
  refine pe_by (pe_callB call_isi hg hm PyProof.Rows.boot_isinstance hargs (by decide) (by decide) h1 hpl) fun σ H Q ⟨P, G, R, q⟩ => ?_
  refine ⟨P, G, R, out_mono (out_bind.mp q) (fun x P1 q1 v H1 G1 e1 R1 r1 => ?_) fun _ _ z => z⟩
  show rIsi X.K [v, cv] H1 Q
  rw [hK]
  exact isi_rd (W := W) hk hbt ho R1 r1 (out_mono q1 (fun d P3 q3 v3 H3 G3 e3 R3 r3 => q3 v3 H3 G3 (e1.trans e3) R3 r3) fun _ _ z => exW_le e1 z)
def isiD (T : String) : D → M D := isiM (fun n => some (isB n T)) fun _ => none
theorem de_isi {T : String} {y : Str} {a : Expr} {p py pos : Pos} {m : M D} (hK : X.K = c.K) (hT : T ∈ ["bool", "int", "str", "list", "tuple", "dict"]) (hg : Gl X "isinstance") (hm : X.mg "isinstance" = none) (ha : PE X a (rdE c F W ρ m)) (hgy : Gl X y) (hmy : X.mg y = none) (hv : bootBuiltins y = some (.type T))
    (h1 : starEach (a :: [.Name y py]) X.env = (false, eval a X.env) :: starEach [.Name y py] X.env := by rfl) (h2 : starEach (.Name y py :: []) X.env = (false, eval (.Name y py) X.env) :: starEach [] X.env := by rfl)
    (hpl : (backTo pos (starEach [.Name y py] X.env)).any (·.1) = false := by rfl) (hn : y ≠ "__name__" := by decide) (hd : (y == ("__debug__" : Str)) = false := by decide) : PE X (.Call (.Name "isinstance" p) [a, .Name y py] [] pos) (rdE c F W ρ (m >>= isiD T)) :=
  de_isiX (cv := .ty T) hK (.ty T) (fun n b hn h => by cases h; exact kit_ty (kit_isB hn hT)) (fun _ _ h => nomatch h) hg hm ha (pe_bltn hgy hmy hv rfl hn hd) h1 h2 hpl
def potGet (y : D) : M D := fun P => match P, y with
  | some ds, .int i => match atI ds i with
    | some d => .ok d (some ds)
    | none => .no
  | _, _ => .no
def potSet (y d : D) : M Unit := fun P => match P, y with
  | some ds, .int i => match ixN ds.length i with
    | some j => .ok () (some (ds.set j d))
    | none => .no
  | _, _ => .no
theorem Rel.pot_at {P : Pot} {σ : L2.St} {H G : Hp} {a : Addr} (R : Rel c F ρ P σ H G) (h : F.ap = some a) : ∃ ds vs, P = some ds ∧ H a = some (.lst vs) ∧ c.reps G vs ds ∧ G a = none := by
  have z := R.post.pot
  rw [h] at z
  cases P with
  | none => exact z.elim
  | some ds => obtain ⟨vs, z⟩ := z; exact ⟨ds, vs, rfl, z⟩
theorem de_potIx {i : Nat} {x : Str} {p pos : Pos} {b : Expr} {mb : M D} (hK : X.K = c.K) (hi : ρ[i]? = some .p) (hx : PE X (.Name x p) (tVar i)) (hb : PE X b (rdE c F W ρ mb)) (hs : PlainIx b) : PE X (.Subscript (.Name x p) b pos) (rdE c F W ρ (mb >>= potGet)) := by
  refine pe_by (pe_ix (X := X) ix_seq hx hb hs (pos := pos)) fun σ H Q ⟨P, G, R, q⟩ => ?_
  have hl : i < σ.length := by rw [R.len]; exact (List.getElem?_eq_some_iff.mp hi).1
  obtain ⟨a, ea, e⟩ := R.sl i _ _ hi (List.getElem?_eq_getElem hl)
  refine ⟨.ref a, by rw [List.getElem?_eq_getElem hl, e], P, G, R, out_mono (out_bind.mp q) (fun y P1 q1 u H1 G1 e1 R1 r1 => ?_) fun _ _ z => z⟩
  obtain ⟨ds, vs, rfl, h1, h2, h3⟩ := R1.pot_at ea
  cases y with
  | int k =>
    cases hd : atI ds k with
    | none =>
      have : (potGet (.int k)) (some ds) = .no := by unfold potGet; simp only [hd]
      unfold out at q1
      rw [this] at q1
      exact q1.elim
    | some d =>
      have : (potGet (.int k)) (some ds) = .ok d (some ds) := by unfold potGet; simp only [hd]
      have q2 := (out_eq this).mp q1
      obtain ⟨v, h4, h5⟩ := atI_rep h2 hd
      rw [hK]
      exact .inl ⟨a, vs, k, v, rfl, r1.int_of, SqL.of h1, h4, q2 v H1 G1 e1 R1 h5⟩
  | _ => exact q1.elim
theorem Reps.set {G : Hp} {vs : List V} {ds : List D} {v : V} {d : D} (h : c.reps G vs ds) (r : c.rep G v d) (j : Nat) : c.reps G (vs.set j v) (ds.set j d) := by
  refine ⟨by simp [h.1], fun i w e a b => ?_⟩
  rw [List.getElem?_set] at a b
  by_cases z : j = i
  · rw [if_pos z] at a b
    split at a
    · split at b
      · cases a; cases b; exact r
      · cases b
    · cases a
  · rw [if_neg z] at a b
    exact h.2 i w e a b
theorem Rel.potSet {ds ds' : List D} {vs' : List V} {σ : L2.St} {H G : Hp} {a : Addr} (R : Rel c F ρ (some ds) σ H G) (ha : F.ap = some a) (r : c.reps G vs' ds') : Rel c F ρ (some ds') σ (upd H a (.lst vs')) G := by
  obtain ⟨_, vs, _, h1, h2, h3⟩ := R.pot_at ha
  have ne : ∀ b u, G b = some u → b ≠ a := fun b u e z => by rw [z, h3] at e; cases e
  refine ⟨⟨R.post.ext, fun b u e => ?_, fun b u e n t => ?_, R.post.new, ?_, tabs_upd R.post.tab (fun u e => ?_), R.post.nt⟩, R.len, fun i s x p q => ?_, R.ap⟩
  · rw [upd_ne (ne b u e)]; exact R.post.le b u e
  · rw [upd_ne (fun z => n (by rw [z, ha]))]; exact R.post.fr b u e n t
  · rw [ha]; exact ⟨vs', upd_same, r, h3⟩
  · rw [h1] at e; cases e; exact ⟨nofun, nofun⟩
  · have z := R.sl i s x p q
    cases s with
    | un => exact True.intro
    | v d => exact z
    | p => exact z
    | o k =>
      obtain ⟨ad, e, ⟨u, hu, hk⟩, g, h, n⟩ := z
      exact ⟨ad, e, ⟨u, by rw [upd_ne (fun w => n (by rw [w, ha]))]; exact hu, hk⟩, g, h, n⟩
theorem ds_potSet {α : Type} {E : α → List Sl} {i : Nat} {x : Str} {p p2 pos : Pos} {b e : Expr} {mb me : M D} {a : α} (hi : ρ[i]? = some .p) (hx : PE X (.Name x p) (tVar i)) (hb : PE X b (rdE c F W ρ mb)) (he : PE X e (rdE c F W ρ me)) (hE : E a = ρ)
    (ha : ∀ v, assign (.Subscript (.Name x p) b p2) X.env v = (do
      let ov ← holding [v] (eval (.Name x p) X.env)
      let iv ← holding [v, ov] (eval b X.env)
      standAt p2
      holding [v, ov, iv] (setItem ov iv v)
      release [v, ov, iv] []) := by intro _; rfl)
    (hs : swapsWithSole [.Subscript (.Name x p) b p2] e pos.line X.env = pure false := by rfl) (hw : swappedStores [.Subscript (.Name x p) b p2] e X.env = pure none := by rfl)
    (h1 : (assignEach [.Subscript (.Name x p) b p2] X.env).map (·.2) = [assign (.Subscript (.Name x p) b p2) X.env] := by rfl) :
    PS X (.Assign [.Subscript (.Name x p) b p2] e pos) (rdS c F W ρ E (me >>= fun d => mb >>= fun y => potSet y d >>= fun _ => Pure.pure (.nx a))) := by
  refine ps_by (ps_asg he (pg_sub hx hb set_list ha) hs hw h1) fun B σ H ⟨P, G, R, q⟩ => ?_
  refine ⟨P, G, R, out_mono (out_bind.mp q) (fun d P1 q1 v H1 G1 e1 R1 r1 => ?_) fun _ _ z => exS.w z⟩
  have hl : i < σ.length := by rw [R.len]; exact (List.getElem?_eq_some_iff.mp hi).1
  obtain ⟨ad, ea, e⟩ := R1.sl i _ _ hi (List.getElem?_eq_getElem hl)
  refine ⟨.ref ad, by rw [List.getElem?_eq_getElem hl, e], P1, G1, R1, out_mono (out_bind.mp q1) (fun y P2 q2 u H2 G2 e2 R2 r2 => ?_) fun _ _ z => exW_le (P := P) e1 (exS.w z)⟩
  obtain ⟨ds, vs, rfl, g1, g2, g3⟩ := R2.pot_at ea
  have q3 := out_bind.mp q2
  cases y with
  | int k =>
    cases hd : ixN ds.length k with
    | none =>
      have : (potSet (.int k) d) (some ds) = .no := by unfold potSet; simp only [hd]
      unfold out at q3
      rw [this] at q3
      exact q3.elim
    | some j =>
      have : (potSet (.int k) d) (some ds) = .ok () (some (ds.set j d)) := by unfold potSet; simp only [hd]
      have q4 := (out_eq this).mp q3
      have q5 : ∀ σ' H' G', Ext G G' → Rel c F (E a) (some (ds.set j d)) σ' H' G' → B.nx σ' H' := q4
      refine ⟨ad, vs, k, j, rfl, r2.int_of, g1, by rw [g2.1]; exact hd, q5 σ _ G2 (e1.trans e2) ?_⟩
      rw [hE]
      exact R2.potSet ea (g2.set (r1.mono e2) j)
  | _ => exact q3.elim
def two (k : D → D → M (Fl (D × D))) : List D → M (Fl (D × D))
  | [x, y] => k x y
  | _ => M.no
end
end DL
namespace DL
open PySem PySem.Spec PyProof.Rows L2
section
variable {c : Cn} {X : Cx} {F : Fr} {W : WX} {ρ : List Sl} {α β : Type} {k : Nat}
theorem ds_raise0 {E : α → List Sl} {C : Addr} {bmB : List Value} {B newId initId : String} {x m : Str} {j : Nat} {p p2 pos pos2 : Pos} (hm : X.mg = c.mg) (hK : X.K = c.K) (hc : X.calm = true) (tk : Takes X W) (Fb : ExcBaseFacts B newId initId bmB) (q : PySem.W.excIn c.K C bmB newId = true) (gC : c.mg x = some (.ref C)) (kC : PySem.W.keepIn c.K (.ref C) = true)
    (h1 : PySem.W.subIn c.K (.ref C) (.type "BaseException") = some true) (h2 : PySem.W.typeIn c.K (.ref C) = some (.type "type")) (hg : Gl X x) (hdb : (x == ("__debug__" : Str)) = false := by decide) :
    PS X (.Raise (some (.Call (.Name x p) [.Constant (.str m) j p2] [] pos)) none pos2) (rdS c F W ρ E (M.raise ⟨x, none⟩)) := by
  refine ps_by (ps_raise hc tk (pmk_own (X := X) Fb (by rw [hK]; exact q) (by rw [hm]; exact gC) (by rw [hK]; exact kC) (raises_own (by rw [hK]; exact h1) (by rw [hK]; exact h2)) hg hdb)) fun D σ H ⟨P, G, R, z⟩ => ?_
  exact z (.ref C) none H G ρ σ (Ext.refl _) R ⟨gC, True.intro⟩
/-- the clauses: of which exceptions they are, what the suite does -/
abbrev Hd (β : Type) := (Str → Option Bool) × (Ex → M (Fl β))
def pick : List (Hd β) → Ex → M (Fl β)
  | [], e => M.raise e
  | (is, ms) :: r, e => match is e.c with
    | some true => noEx (ms e)
    | some false => pick r e
    | none => M.no
/-- what a suite is given -/
def tSuite (c : Cn) (F : Fr) (ρ : List Sl) (E : β → List Sl) (h : Hd β) : Addr → Value → Option Addr → TS := fun _ cl dd B σ H => ∃ e G, h.1 e.c = some true ∧ ExOk c H G e cl dd ∧ rdS c F W0 ρ E (h.2 e) B σ H
structure HdOk (c : Cn) (is : Str → Option Bool) (cv : Value) : Prop where
  ok : ∀ cn b, is cn = some b → ∀ cl, c.mg cn = some cl → PySem.W.exmOne c.K cl cv = some b
inductive HdsD (c : Cn) (X : Cx) (F : Fr) (ρ : List Sl) (E : β → List Sl) : List ExceptHandler → List (Value × (Addr → Value → Option Addr → TS)) → List (Hd β) → Prop
  | nil : HdsD c X F ρ E [] [] []
  | cons {x : Str} {cv : Value} {b₀ : Stmt} {suite : List Stmt} {np pos' : Pos} {h : Hd β} {hds : List ExceptHandler} {l : List (Value × (Addr → Value → Option Addr → TS))} {r : List (Hd β)} (hc : Names X x cv) (ok : HdOk c h.1 cv)
      (hsu : ∀ (a : Addr) (oe : Obj) (pn : List (Addr × Obj)) (e : Ex), h.1 e.c = some true → PSs (X.suite a ((a, oe) :: pn)) (b₀ :: suite) (rdS c F W0 ρ E (h.2 e))) (t : HdsD c X F ρ E hds l r) :
      HdsD c X F ρ E (.ExceptHandler (some (.Name x np)) none (b₀ :: suite) pos' :: hds) ((cv, tSuite c F ρ E h) :: l) (h :: r)
theorem HdsD.hds {E : β → List Sl} {hds : List ExceptHandler} {l : List (Value × (Addr → Value → Option Addr → TS))} {r : List (Hd β)} (h : HdsD c X F ρ E hds l r) : HdsOk X hds l := by
  induction h with
  | nil => exact .nil
  | cons hc ok hsu t ih =>
    refine .cons hc (fun a oe cls d pn hz hf => ⟨fun pins s σ H D I ⟨e, G, he, _, q⟩ => ?_⟩) ih
    exact (hsu a oe pn e he).run pins s σ H D I q
theorem HdsD.want {E : β → List Sl} {hds : List ExceptHandler} {l : List (Value × (Addr → Value → Option Addr → TS))} {r : List (Hd β)} (h : HdsD c X F ρ E hds l r) (hK : X.K = c.K) {D : Ends} {e : Ex} {cl : Value} {dd : Option Addr} {σ : L2.St} {H G : Hp} {P : Pot} (R : Rel c F ρ P σ H G) (x : ExOk c H G e cl dd)
    (q : out (pick r e) P (ends c F E D G) (exS c F W P G σ)) : wMany X.K W D l cl dd σ H := by
  induction h with
  | nil => exact q cl dd H G ρ σ (Ext.refl _) R x
  | @cons y cv b₀ suite np pos' h hds l r hc ok hsu t ih =>
    unfold pick at q
    cases hi : h.1 e.c with
    | none => simp only [hi] at q; exact q.elim
    | some b =>
      have hb : PySem.W.exmOne X.K cl cv = some b := by rw [hK]; exact ok.ok _ _ hi _ x.1
      cases b with
      | true =>
        simp only [hi] at q
        refine ⟨true, hb, fun _ a na => ⟨e, G, hi, x, P, G, R, ?_⟩, fun z => nomatch z⟩
        exact out_mono (out_noEx q) (fun f p z => z) fun _ _ z => z.elim
      | false =>
        simp only [hi] at q
        exact ⟨false, hb, fun z => (nomatch z), fun _ => ih q⟩
def mkN (ds : List D) : M (List D) := if ds.length ≤ sizeLine then Pure.pure ds else M.no
def thenF (m : M (Fl α)) (k : α → M (List D)) : M (List D) := m >>= fun f => match f with
  | .nx a => k a
  | _ => M.no
theorem df_ret {es : List Expr} {p pos : Pos} {ms : M (List Ar)} (h : PA X es (rdA c F W ρ ms)) : PSs X [.Return (some (.List es p)) pos] (rdF c F W ρ (ms >>= fun as => DL.vals as >>= mkN)) := by
  refine pss_by (pss_one (ps_ret (pe_lst h))) fun B σ H ⟨P, G, R, q⟩ => ?_
  refine ⟨P, G, R, out_mono (out_bind.mp q) (fun as P1 q1 vs H1 G1 e1 R1 r1 => ?_) fun _ _ z => exS.w z⟩
  obtain ⟨ds, rs, q2⟩ := ArsOk.reps r1 (out_bind.mp q1)
  unfold mkN at q2
  by_cases z : ds.length ≤ sizeLine
  · simp only [if_pos z] at q2
    refine ⟨by rw [rs.1]; exact z, fun p hp => ?_⟩
    have q3 : ∀ p vs H' G' ρ' σ', Ext G G' → Rel c F ρ' P1 σ' H' G' → H' p = some (.lst vs) → G' p = none → Fre F.H0 p → some p ≠ F.ap → c.reps G' vs ds → B.rt (.ref p) H' := q2
    exact q3 p vs _ G1 ρ σ e1 (R1.newM hp) upd_same (R1.post.g_none hp) (R1.post.h0 hp) (R1.ne_ap hp) rs
  · simp only [if_neg z] at q2; exact q2.elim
theorem df_cons {E : α → List Sl} {st : Stmt} {rest : List Stmt} {m : M (Fl α)} {g : α → M (List D)} (h1 : PS X st (rdS c F W ρ E m)) (h2 : ∀ a, PSs X rest (rdF c F W (E a) (g a))) : PSs X (st :: rest) (rdF c F W ρ (thenF m g)) := by
  refine ⟨fun pins s σ H B I ⟨P, G, R, q⟩ => ?_⟩
  have step := h1.run pins s σ H { nx := fun σ' H' => ∃ a, rdF c F W (E a) (g a) B σ' H', bk := fun _ _ => False, ct := fun _ _ => False, rt := fun _ _ => False } I ⟨P, G, R, out_mono (out_bind.mp q) (fun f P1 q1 => ?_) fun _ _ z => z⟩
  · refine wpAny_execs_cons (thn step fun fl s1 z => ?_)
    cases fl with
    | next =>
      obtain ⟨σ1, H1, I1, a, z⟩ := z
      exact (h2 a).run pins s1 σ1 H1 B I1 z
    | ret u => obtain ⟨_, _, _, _, _, z⟩ := z; exact z.elim
    | brk => obtain ⟨_, _, _, z⟩ := z; exact z.elim
    | cont => obtain ⟨_, _, _, z⟩ := z; exact z.elim
  · cases f with
    | nx a => exact fun σ' H' G' e R' => ⟨a, P1, G', R', out_mono (show out (g a) P1 _ _ from q1) (fun ds P2 z p vs H2 G2 ρ2 σ2 e2 R2 => z p vs H2 G2 ρ2 σ2 (e.trans e2) R2) fun _ _ z => exS_le e z⟩
    | rt d => exact (show False from q1).elim
    | bk a => exact (show False from q1).elim
    | ct a => exact (show False from q1).elim
def unP : Sl → Sl
  | .p => .un
  | s => s
theorem Rel.ofPot {σ : L2.St} {H G : Hp} {p : Addr} {ds : List D} (R : Rel c ⟨F.G0, F.H0, some p⟩ ρ (some ds) σ H G) (hF : F.ap = none) (h0 : Fre F.H0 p) : Rel c F (ρ.map unP) none σ H G := by
  have back : ∀ (i : Nat) k, (ρ.map unP)[i]? = some (.o k) → ρ[i]? = some (.o k) := fun i k e => by
    rw [List.getElem?_map] at e
    cases h : ρ[i]? with
    | none => rw [h] at e; cases e
    | some s => rw [h] at e; cases s <;> simp [unP] at e; rw [e]
  refine ⟨⟨R.post.ext, R.post.le, fun b o e n t => R.post.fr b o e (fun z => by cases z; exact h0.no e t) t, R.post.new, by rw [hF]; exact True.intro, R.post.tab, R.post.nt⟩, by simpa using R.len, fun j s x a b => ?_, fun j j' k k' a h1 h2 h3 h4 => R.ap j j' k k' a (back _ _ h1) (back _ _ h2) h3 h4⟩
  rw [List.getElem?_map] at a
  cases h : ρ[j]? with
  | none => rw [h] at a; cases a
  | some s' =>
    rw [h] at a
    have z := R.sl j s' x h b
    cases s' <;> cases a
    · exact True.intro
    · exact z
    · obtain ⟨ad, e, u, g, h, n⟩ := z
      exact ⟨ad, e, u, g, h, by rw [hF]; exact nofun⟩
    · exact True.intro
/-- a call of a def that returns a new list -/
def rdN (c : Cn) (F : Fr) (W : WX) (ρ : List Sl) (m : M (List D)) : TE := fun σ H Q => ∃ P G, Rel c F ρ P σ H G ∧ out m P (fun ds P' => ∀ p vs H' G', Ext G G' → Rel c F ρ P' σ H' G' → H' p = some (.lst vs) → G' p = none → Fre F.H0 p → some p ≠ F.ap → (∀ (i : Nat) k, ρ[i]? = some (.o k) → σ[i]? ≠ some (some (V.ref p))) → c.reps G' vs ds → Q (.ref p) H') (exW c F W P G σ)
theorem de_callF {f : Addr} {fd : FuncData} {mf : List Ar → M (List D)} {ms : M (List Ar)} {x : Str} {p pos : Pos} {e : Expr} {es : List Expr} {ps : List Str} (C : Ctx c X k) (tk : Takes X W)
    (fn : FnG X.prog X.w X.K X.mg X.base k f fd ps (spF c mf)) (hg : Gl X x) (hm : c.mg x = some (.ref f)) (hk : PySem.W.keepIn c.K (.ref f) = true) (hb : Binds c.K fd ps [])
    (ha : PA X (e :: es) (rdA c F W ρ ms)) (hdb : (x == ("__debug__" : Str)) = false := by decide) (he : starEach (e :: es) X.env = (false, eval e X.env) :: starEach es X.env := by rfl) (hpl : (backTo pos (starEach es X.env)).any (·.1) = false := by rfl) :
    PE X (.Call (.Name x p) (e :: es) [] pos) (rdN c F W ρ (ms >>= mf)) := by
  refine ⟨fun pins s σ H Q I ⟨P, G, R, q⟩ => ?_⟩
  have hx : X.mg x = some (.ref f) := by rw [C.mg]; exact hm
  have kf : PySem.W.keepIn X.K (.ref f) = true := by rw [C.K]; exact hk
  have hb' : Binds X.K fd ps [] := by rw [C.K]; exact hb
  refine wpAny_Call_Name_kw (ld_glob I hg hx ?_ hdb)
  have step := ha.run pos pins s σ H (fun vs H1 => spF c mf vs H1 Q (WE W σ)) I
    ⟨P, G, R, out_mono (out_bind.mp q) (fun as P1 q1 vs H1 G1 e1 R1 r1 => ?_) fun _ _ z => z⟩
  · exact PySem.W.callWith_K (h₀ := X.base) I.ok.mod.kin kf (thn step fun us s1 ⟨vs, H1, I1, rv, z⟩ => ⟨I1.kIn, run_g C.ga C.rm tk fn hb' I1 rv z⟩) he hpl
  · exact ⟨F.ap, G1, P1, as, R1.post.refl', ArsOk.fr (F := F) (F' := ⟨G1, H1, F.ap⟩) rfl r1, out_mono q1 (fun ds P2 z p ws H' G' po h1 h2 h3 h4 r' => z p ws H' G' (e1.trans po.ext) (R1.after po) h1 h2 (R1.post.fre h3) h4 (R1.own_fre h3) r') fun e P2 z cl dd H' G' po k => z cl dd H' G' ρ (e1.trans po.ext) (R1.after po) k⟩
end
end DL
namespace DL
open PySem PySem.Spec PyProof.Rows L2
section
variable {c : Cn} {F : Fr} {W : WX} {ρ : List Sl} {X : Cx} {tg : Expr}
def chrs (x : Str) : List D := x.cps.toList.map fun a => .str ⟨#[a]⟩
def iterA : D → M (List D)
  | .str x => Pure.pure (chrs x)
  | d => iterD d
theorem goes_str {x : Str} {G : Hp} : Goes c (Its x) (chrs x) G := by
  intro F ρ i P σ H G1 e R
  refine ⟨fun hi => (show x.cps.size ≤ i by simpa [chrs] using Nat.le_of_eq hi), fun d hd => ?_⟩
  unfold chrs at hd
  rw [List.getElem?_map, Option.map_eq_some_iff] at hd
  obtain ⟨a, ha, rfl⟩ := hd
  rw [Array.getElem?_toList] at ha
  refine ⟨(Array.getElem?_eq_some_iff.mp ha).1, fun v H' y => ?_⟩
  obtain ⟨rfl, b, hb, rfl⟩ := y
  rw [ha] at hb
  cases hb
  exact ⟨G1, Ext.refl _, R, .str _⟩
theorem di_any {e : Expr} {m : M D} (hK : X.K = c.K) (h : PE X e (rdE c F W ρ m)) : PI X tg e (rdI c F W ρ (m >>= iterA)) := by
  refine pi_by (pi_or (di_seq hK h) (pi_str h)) fun σ H R q => ?_
  obtain ⟨P, G, Rl, q⟩ := q
  have q' := out_bind.mp q
  cases e : m P with
  | no => unfold out at q'; rw [e] at q'; exact q'.elim
  | ex x p =>
    refine .inr ⟨P, G, Rl, ?_⟩
    unfold out at q' ⊢
    rw [e] at q' ⊢
    exact q'
  | ok d p =>
    unfold out at q'
    rw [e] at q'
    have seq : out (iterD d) p (fun ds P' => ∀ J H' G', Ext G G' → Rel c F ρ P' σ H' G' → Goes c J ds G' → R J H') (exW c F W P G σ) → rdI c F W ρ (m >>= iterD) σ H R := fun q => ⟨P, G, Rl, out_bind.mpr ((out_eq e).mpr q)⟩
    cases d with
    | str x => exact .inr ⟨P, G, Rl, (out_eq e).mpr fun v H1 G1 e1 R1 r1 => ⟨x, r1.str_of, q' _ H1 G1 e1 R1 goes_str⟩⟩
    | lst ds => exact .inl (seq q')
    | tup ds => exact .inl (seq q')
    | scr ds => exact .inl (seq q')
    | _ => exact q'.elim
end
inductive SV where
  | l (a : Addr) | t (a : Addr) | s (x : Str) (u : Tok)
namespace SV
def at' (K : PySem.W.Frag) (H : Hp) (i : Nat) (v : V) : SV → Prop
  | .l a => ∃ xs, SqL K H a xs ∧ xs[i]? = some v
  | .t a => ∃ xs, SqT K H a xs ∧ xs[i]? = some v
  | .s x _ => ∃ b, x.cps[i]? = some b ∧ v = .str ⟨#[b]⟩
def len (K : PySem.W.Frag) (H : Hp) (n : Nat) : SV → Prop
  | .l a => ∃ xs, SqL K H a xs ∧ n = xs.length
  | .t a => ∃ xs, SqT K H a xs ∧ n = xs.length
  | .s x _ => n = x.cps.size
def it (h : Heap) (i : Addr) (k : Nat) : SV → Prop
  | .l a => h.IsListIter i a k
  | .t a => h.IsTupleIter i a k
  | .s x u => h.IsStrIter i (strIterType x) x u k
def fp (i : Addr) : SV → List Addr
  | .l a => [i, a]
  | .t a => [i, a]
  | .s _ _ => [i]
theorem it_at {h h' : Heap} {i : Addr} {k : Nat} : ∀ {S : SV}, S.it h i k → (∀ o, h.get? i = some o → h'.get? i = some o) → S.it h' i k
  | .l _, x, f => x.at f
  | .t _, x, f => x.at f
  | .s _ _, ⟨o, ho, r⟩, f => ⟨o, f o ho, r⟩
theorem it_obj {h : Heap} {i : Addr} {k : Nat} : ∀ {S : SV}, S.it h i k → ∃ o, h.get? i = some o ∧ ∀ v, o.data ≠ .cell v
  | .l _, ⟨o, ho, _, d⟩ => ⟨o, ho, fun v q => by rw [d] at q; cases q⟩
  | .t _, ⟨o, ho, _, d⟩ => ⟨o, ho, fun v q => by rw [d] at q; cases q⟩
  | .s _ _, ⟨o, ho, _, d⟩ => ⟨o, ho, fun v q => by rw [d] at q; cases q⟩
theorem mem {S : SV} {i : Addr} : i ∈ S.fp i := by cases S <;> simp [fp]
section
variable {X : Cx} {pins : List (Addr × Obj)} {σ : L2.St} {H : Hp} {s : Shared} {A : Around}
/-- what the iterator draws -/
structure Dr (P : Program) (w : World) (A : Around) (i : Addr) (S : SV) (n : Nat) (R : Nat → Value → Prop) (T : Nat → Heap → Prop) : Prop where
  dr : Draws P w A i (S.fp i) n R T
  of : ∀ k h, T k h → S.it h i k
theorem draws (I : Inv X pins σ H s) (hh : A.handled = none) {n : Nat} {i : Addr} {S : SV} (hl : S.len X.K H n) (hi : ∀ a, (S = .l a ∨ S = .t a) → a ≠ i) : ∃ R T, Dr X.prog X.w A i S n R T ∧ (∀ k, S.it s.heap i k → T k s.heap) ∧ (∀ k v u, S.at' X.K H k v → R k u → RelV v u) ∧ ∀ k v v', S.at' X.K H k v → S.at' X.K H k v' → v' = v := by
  cases S with
  | l a =>
    obtain ⟨xs, hq, rfl⟩ := hl
    obtain ⟨its, rv, p, _⟩ := I.list hq
    have d := Draws.list (prog := X.prog) (w := X.w) hh i a (hi a (.inl rfl)) its.toArray
    rw [List.size_toArray, ← rv.length] at d
    refine ⟨_, _, ⟨d, fun k h q => q.1⟩, fun k q => ⟨q, p.isList⟩, fun k v u ⟨ys, hy, hk⟩ e => ?_, fun k v v' ⟨ys, hy, hk⟩ ⟨zs, hz, hk'⟩ => by rw [I.list_inj hy hz, hk'] at hk; cases hk; rfl⟩
    obtain ⟨z, hz, rz⟩ := rv.get (by rw [← I.list_inj hy hq]; exact hk)
    have e' : its[k]? = some u := by simpa using e
    rw [hz] at e'
    cases e'
    exact rz
  | t a =>
    obtain ⟨xs, hq, rfl⟩ := hl
    obtain ⟨its, rv, p, _⟩ := I.tuple hq
    have d := Draws.tuple (prog := X.prog) (w := X.w) hh i a (hi a (.inr rfl)) its.toArray
    rw [List.size_toArray, ← rv.length] at d
    refine ⟨_, _, ⟨d, fun k h q => q.1⟩, fun k q => ⟨q, p⟩, fun k v u ⟨ys, hy, hk⟩ e => ?_, fun k v v' ⟨ys, hy, hk⟩ ⟨zs, hz, hk'⟩ => by rw [I.tuple_inj hy hz, hk'] at hk; cases hk; rfl⟩
    obtain ⟨z, hz, rz⟩ := rv.get (by rw [← I.tuple_inj hy hq]; exact hk)
    have e' : its[k]? = some u := by simpa using e
    rw [hz] at e'
    cases e'
    exact rz
  | s x t =>
    have hl : n = x.cps.size := hl
    subst hl
    refine ⟨_, _, ⟨Draws.text hh i x t, fun k h q => q⟩, fun k q => q, fun k v u ⟨b, h1, h2⟩ ⟨b', t', h3, h4⟩ => ?_, fun k v v' ⟨b, h1, h2⟩ ⟨b', h3, h4⟩ => by rw [h1] at h3; cases h3; rw [h2, h4]⟩
    rw [h1] at h3
    cases h3
    rw [h2, h4]
    exact ⟨_, rfl⟩
end
end SV
def ItZ (K : PySem.W.Frag) (A B : SV) : It :=
  ⟨fun i H => ∃ n m v u, A.len K H n ∧ B.len K H m ∧ A.at' K H i v ∧ B.at' K H i u ∧ i < n ∧ i < m,
    fun i H v H' => ∃ T x y, v = .ref T ∧ H T = none ∧ H' = upd H T (.tup [x, y]) ∧ (∀ x', A.at' K H i x' → x' = x) ∧ ∀ y', B.at' K H i y' → y' = y,
    fun i H => ∃ n m, A.len K H n ∧ B.len K H m ∧ i ≤ n ∧ i ≤ m ∧ (i = n ∨ i = m)⟩
theorem turn_Z {P : Program} {w : World} {K : PySem.W.Frag} {elts : List Expr} {kk : Nat} {tpos : Pos} {A B : SV} {z TI TO i1 i2 : Addr} (S : ZipSep2 z TI TO i1 i2 (A.fp i1) (B.fp i2)) (n1 : ∀ a, (A = .l a ∨ A = .t a) → a ≠ i1) (n2 : ∀ a, (B = .l a ∨ B = .t a) → a ≠ i2) :
    Turn P w K (.Tuple elts kk tpos) (ItZ K A B) [z, TI, TO, i1, i2] z (fun i h => IsZip h z TI TO .none ∧ IsTupOf2 h TI (.ref i1) (.ref i2) ∧ (∃ x y, IsTupOf2 h TO x y) ∧ A.it h i1 i ∧ B.it h i2 i) where
  mem := by simp
  obj := fun i h ⟨hz, hTI, ⟨x, y, hTO⟩, h1, h2⟩ b hb => by
    have hb : b = z ∨ b = TI ∨ b = TO ∨ b = i1 ∨ b = i2 := by simpa using hb
    rcases hb with rfl | rfl | rfl | rfl | rfl
    · exact ⟨_, hz, fun v q => nomatch q⟩
    · exact ⟨_, hTI, fun v q => nomatch q⟩
    · exact ⟨_, hTO, fun v q => nomatch q⟩
    · exact SV.it_obj h1
    · exact SV.it_obj h2
  keep := fun i h h' ⟨hz, hTI, ⟨x, y, hTO⟩, h1, h2⟩ f => ⟨f z (by simp) _ hz, f TI (by simp) _ hTI, ⟨x, y, f TO (by simp) _ hTO⟩, SV.it_at h1 (f i1 (by simp)), SV.it_at h2 (f i2 (by simp))⟩
  item := by
    intro X hP hw hK hc i pins s σ H E I hf ⟨hz, hTI, ⟨x0, y0, hTO⟩, h1, h2⟩ ⟨n, m, v, u, ln, lm, av, bu, hn, hm⟩
    subst hP hw hK
    have hh : X.A.in1.handled = none := I.ok.hd hc
    obtain ⟨R1, T1, d1, t1, r1, q1⟩ := SV.draws (A := X.A.in1) I hh ln n1
    obtain ⟨R2, T2, d2, t2, r2, q2⟩ := SV.draws (A := X.A.in1) I hh lm n2
    have hzl : z < s.heap.objs.size := Heap.lt_size hz
    refine wpAny_pyNext_zipD2_item S d1.dr d2.dr hz hTI hTO (t1 i h1) (t2 i h2) hn hm fun x1 x2 h' tk p1 p2 z' TO' g1 g2 hT hsz hk => ?_
    refine ⟨_, rfl, wpAny_letOwnedTupleGo_zip (s := { s with heap := h', toks := tk }) z' fun h'' z'' sb => ?_⟩
    have hT2 : h''.get? s.heap.objs.size = some { cls := .type "tuple", data := .seq #[x1, x2] } := (sb.2 _ (Nat.ne_of_gt hzl)).trans hT
    have new : ObjOk X.prog X.w (upd H s.heap.objs.size (.tup [v, u])) h'' s.heap.objs.size (.tup [v, u]) := ⟨by show 2 ≤ sizeLine; decide, [x1, x2], .cons (r1 _ _ _ av p1) (.cons (r2 _ _ _ bu p2) .nil), ⟨_, hT2, rfl, _, rfl⟩⟩
    have kk : ∀ b o, b ∉ [z, TI, TO, i1, i2] → s.heap.get? b = some o → h''.get? b = some o := fun b o hb q =>
      (sb.2 b fun e => hb (by simp [e])).trans (hk b o (fun e => hb (by simp [e])) (fun e => hb (by simp [e])) (fun e => hb (by simp [e])) (fun e => hb (by simp [e])) q)
    have I1 : Inv X pins σ (upd H s.heap.objs.size (.tup [v, u])) { s with heap := h'', toks := tk } := I.turnedNew kk hf (Nat.le_refl _) new
    refine ⟨.ref s.heap.objs.size, _, I1, rfl, ⟨_, v, u, rfl, I.hok.fresh (Nat.le_refl _), rfl, fun x' hx => q1 _ _ _ av hx, fun y' hy => q2 _ _ _ bu hy⟩, ⟨z'', ?_, ⟨x1, x2, ?_⟩, ?_, ?_⟩, fun b hb => ?_⟩
    · exact (sb.2 _ S.TIz).trans (hk _ _ S.TIz S.TITO S.TIi1 S.TIi2 hTI)
    · exact (sb.2 _ S.TOz).trans TO'
    · exact SV.it_at (d1.of _ _ g1) fun o q => (sb.2 _ S.zi1.symm).trans q
    · exact SV.it_at (d2.of _ _ g2) fun o q => (sb.2 _ S.zi2.symm).trans q
    · have hlt : b < s.heap.objs.size := by
        have hb' : b = z ∨ b = TI ∨ b = TO ∨ b = i1 ∨ b = i2 := by simpa using hb
        rcases hb' with rfl | rfl | rfl | rfl | rfl
        · exact hzl
        · exact Heap.lt_size hTI
        · exact Heap.lt_size hTO
        · obtain ⟨o, e, _⟩ := SV.it_obj h1; exact Heap.lt_size e
        · obtain ⟨o, e, _⟩ := SV.it_obj h2; exact Heap.lt_size e
      rw [upd_ne (Nat.ne_of_lt hlt)]
      exact (hf b hb).1
  done := by
    intro X hP hw hK hc i pins s σ H E I hf ⟨hz, hTI, ⟨x0, y0, hTO⟩, h1, h2⟩ ⟨n, m, ln, lm, hn, hm, he⟩
    subst hP hw hK
    have hh : X.A.in1.handled = none := I.ok.hd hc
    obtain ⟨R1, T1, d1, t1, r1, q1⟩ := SV.draws (A := X.A.in1) I hh ln n1
    obtain ⟨R2, T2, d2, t2, r2, q2⟩ := SV.draws (A := X.A.in1) I hh lm n2
    exact wpAny_pyNext_zipD2_end S d1.dr d2.dr hz hTI hTO (t1 i h1) (t2 i h2) hn hm he fun h' tk hk => ⟨rfl, I.turnedL (ch := [z, TI, TO, i1, i2]) (fun b o hb q =>
      hk b o (fun e => hb (by simp [e])) (fun e => hb (by simp [e])) (fun e => hb (by simp [e])) (fun e => hb (by simp [e])) q) hf⟩
  self := fun A i s Q E st h => wpAny_pyIter_zip st.1 h
section
variable {c : Cn} {F : Fr} {W : WX} {ρ : List Sl} {X : Cx}
/-- a source as data -/
structure Src (c : Cn) (G : Hp) (S : SV) (ds : List D) : Prop where
  len : ∀ H G', Ext G G' → Ext G' H → S.len c.K H ds.length
  at' : ∀ H G' i d, Ext G G' → Ext G' H → ds[i]? = some d → ∃ v, S.at' c.K H i v ∧ c.rep G' v d
theorem src_of {P : Pot} {σ : L2.St} {H G : Hp} {pins : List (Addr × Obj)} {s : Shared} {v : V} {u : Value} {d : D} {ds : List D} (hK : X.K = c.K) (I : Inv X pins σ H s) (R : Rel c F ρ P σ H G) (r : c.rep G v d) (ru : RelV v u) (h : iterA d P = .ok ds P) :
    ∃ S o HB, Begins u o HB ∧ HB s.heap ∧ (∀ hp i, hp.get? i = some o → S.it hp i 0) ∧ (∀ a, (S = .l a ∨ S = .t a) → a < s.heap.objs.size) ∧ Src c G S ds := by
  have lst : ∀ {a : Addr} {vs : List V}, SqL c.K G a vs → c.reps G vs ds → u = .ref a → ∃ S o HB, Begins u o HB ∧ HB s.heap ∧ (∀ hp i, hp.get? i = some o → S.it hp i 0) ∧ (∀ a, (S = SV.l a ∨ S = SV.t a) → a < s.heap.objs.size) ∧ Src c G S ds := fun {a vs} sq rs e => by
    subst e
    obtain ⟨its, rv, p, _⟩ := I.list (by rw [hK]; exact Evl.ex_l R.post.le sq)
    refine ⟨.l a, _, _, begins_list a its.toArray, p.isList, fun hp i e => ⟨_, e, rfl, rfl⟩, fun b hb => ?_, ⟨fun H' G' e1 e2 => ⟨vs, Evl.ex_l (e1.trans e2) sq, rs.1.symm⟩, fun H' G' i d e1 e2 hd => ?_⟩⟩
    · rcases hb with hb | hb <;> cases hb
      exact p.lt
    · obtain ⟨w, hw, rw'⟩ := rs.get hd
      exact ⟨w, ⟨vs, Evl.ex_l (e1.trans e2) sq, hw⟩, rw'.mono e1⟩
  cases d with
  | lst xs =>
    cases h
    cases r with
    | lst ha hl hr => exact lst (SqL.of ha) ⟨hl, hr⟩ ru
  | scr ns =>
    cases h
    cases r with
    | scr ha => exact lst ha (reps_ints ns) ru
  | tup xs =>
    cases h
    cases r with
    | @tup a vs _ ha hl hr =>
      have ru : u = .ref a := ru
      subst ru
      obtain ⟨its, rv, p, _⟩ := I.tuple (by rw [hK]; exact Evl.ex_t R.post.le ha)
      refine ⟨.t a, _, _, begins_tuple a its.toArray, p, fun hp i e => ⟨_, e, rfl, rfl⟩, fun b hb => ?_, ⟨fun H' G' e1 e2 => ⟨vs, Evl.ex_t (e1.trans e2) ha, hl.symm⟩, fun H' G' i d e1 e2 hd => ?_⟩⟩
      · rcases hb with hb | hb <;> cases hb
        obtain ⟨o, ho, _⟩ := p
        exact Heap.lt_size ho
      · obtain ⟨w, hw, rw'⟩ := Reps.get (mg := c.mg) (K := c.K) ⟨hl, hr⟩ hd
        exact ⟨w, ⟨vs, Evl.ex_t (e1.trans e2) ha, hw⟩, rw'.mono e1⟩
  | str x =>
    cases h
    have ev := r.str_of
    subst ev
    obtain ⟨t, rfl⟩ := ru
    refine ⟨.s x t, _, _, begins_text x t, trivial, fun hp i e => ⟨_, e, rfl, rfl⟩, fun b hb => (hb.elim (fun z => nomatch z) fun z => nomatch z), ⟨fun H' G' e1 e2 => by show (chrs x).length = x.cps.size; simp [chrs], fun H' G' i d e1 e2 hd => ?_⟩⟩
    unfold chrs at hd
    rw [List.getElem?_map, Option.map_eq_some_iff] at hd
    obtain ⟨a, ha, rfl⟩ := hd
    rw [Array.getElem?_toList] at ha
    exact ⟨_, ⟨a, ha, rfl⟩, .str _⟩
  | _ => cases h
def zip2 (xs ys : List D) : List D := List.zipWith (fun a b => .tup [a, b]) xs ys
def zipD : List D → M (List D)
  | [x, y] => iterA x >>= fun xs => iterA y >>= fun ys => Pure.pure (zip2 xs ys)
  | _ => M.no
theorem goes_zip {A B : SV} {xs ys : List D} {G : Hp} {K : PySem.W.Frag} (hK : K = c.K) (a : Src c G A xs) (b : Src c G B ys) : Goes c (ItZ K A B) (zip2 xs ys) G := by
  subst hK
  intro F ρ i P σ H G1 e R
  have la := a.len H G1 e R.post.le
  have lb := b.len H G1 e R.post.le
  have lz : (zip2 xs ys).length = min xs.length ys.length := by unfold zip2; rw [List.length_zipWith]
  refine ⟨fun hi => ⟨_, _, la, lb, by omega, by omega, by omega⟩, fun d hd => ?_⟩
  unfold zip2 at hd
  rw [List.getElem?_zipWith] at hd
  cases hx : xs[i]? with
  | none => rw [hx] at hd; cases hd
  | some x =>
    cases hy : ys[i]? with
    | none => rw [hx, hy] at hd; cases hd
    | some y =>
      rw [hx, hy] at hd
      cases hd
      obtain ⟨v, h1, r1⟩ := a.at' H G1 i x e R.post.le hx
      obtain ⟨u, h2, r2⟩ := b.at' H G1 i y e R.post.le hy
      refine ⟨⟨_, _, v, u, la, lb, h1, h2, (List.getElem?_eq_some_iff.mp hx).1, (List.getElem?_eq_some_iff.mp hy).1⟩, fun z H' q => ?_⟩
      obtain ⟨T, v', u', rfl, hT, rfl, q1, q2⟩ := q
      obtain rfl := q1 _ h1
      obtain rfl := q2 _ h2
      obtain ⟨R2, e2⟩ := R.new hT nt_tup
      have rr : c.reps G1 [v, u] [x, y] := .cons r1 (.cons r2 .nil)
      exact ⟨_, e2, R2, .tup (SqT.of upd_same) rr.1 fun i v d a b => (rr.2 i v d a b).mono e2⟩
theorem iter_ok {d : D} {P p : Pot} {ds : List D} (h : iterA d P = .ok ds p) : p = P ∧ iterA d P = .ok ds P := by
  cases d <;> first | (cases h; exact ⟨rfl, rfl⟩) | cases h
theorem zsep (n : Nat) {f1 f2 : List Addr} (m1 : n ∈ f1) (m2 : n + 1 ∈ f2) (h1 : ∀ b, b ∈ f1 → b ≤ n) (h2 : ∀ b, b ∈ f2 → b = n + 1 ∨ b < n) : ZipSep2 (n + 4) (n + 2) (n + 3) n (n + 1) f1 f2 where
  TIz := show (n + 2 : Nat) ≠ n + 4 by omega
  TOz := show (n + 3 : Nat) ≠ n + 4 by omega
  TITO := show (n + 2 : Nat) ≠ n + 3 by omega
  TIi1 := show (n + 2 : Nat) ≠ n by omega
  mem1 := m1
  zf1 := fun z => by have q : (n + 4 : Nat) ≤ n := h1 _ z; omega
  Tf1 := fun z => by have q : (n + 3 : Nat) ≤ n := h1 _ z; omega
  TIi2 := show (n + 2 : Nat) ≠ n + 1 by omega
  mem2 := m2
  zf2 := fun z => by have q : (n + 4 : Nat) = n + 1 ∨ (n + 4 : Nat) < n := h2 _ z; omega
  Tf2 := fun z => by have q : (n + 3 : Nat) = n + 1 ∨ (n + 3 : Nat) < n := h2 _ z; omega
  sep1_2 := fun z => by have q : (n : Nat) = n + 1 ∨ (n : Nat) < n := h2 _ z; omega
  sep2_1 := fun z => by have q : (n + 1 : Nat) ≤ n := h1 _ z; omega
theorem zle (n b : Nat) (hb : b ∈ [n + 4, n + 2, n + 3, n, n + 1]) : n ≤ b := by
  have hb' : b = n + 4 ∨ b = n + 2 ∨ b = n + 3 ∨ b = n ∨ b = n + 1 := by simpa using hb
  omega
/-- over zip(a, b) -/
theorem di_zip {e e2 : Expr} {ms : M (List Ar)} {p pos tpos : Pos} {elts : List Expr} {kk : Nat} (hK : X.K = c.K) (hg : Gl X "zip") (hm : X.mg "zip" = none) (ha : PA X [e, e2] (rdA c F W ρ ms))
    (hs : starEach [e, e2] X.env = (false, eval e X.env) :: starEach [e2] X.env := by rfl) (hpl : (backTo pos (starEach [e2] X.env)).any (·.1) = false := by rfl) :
    PI X (.Tuple elts kk tpos) (.Call (.Name "zip" p) [e, e2] [] pos) (rdI c F W ρ (ms >>= fun as => DL.vals as >>= zipD)) := by
  refine ⟨fun pins s σ H R I ⟨P, G, Rl, q⟩ => ?_⟩
  have step := ha.run pos pins s σ H (fun vs H1 => ∃ P1 G1 x y xs ys, Rel c F ρ P1 σ H1 G1 ∧ c.reps G1 vs [x, y] ∧ iterA x P1 = .ok xs P1 ∧ iterA y P1 = .ok ys P1 ∧ ∀ J H' G', Ext G1 G' → Rel c F ρ P1 σ H' G' → Goes c J (zip2 xs ys) G' → R J H') I
    ⟨P, G, Rl, out_mono (out_bind.mp q) (fun as P1 q1 vs H1 G1 e1 R1 r1 => ?_) fun _ _ z => z⟩
  · refine Call_ (ld_blt I hg hm PyProof.Rows.boot_zip (PyProof.Rows.callWith_type1 (thn step fun us s1 ⟨vs, H1, I1, rv, P1, G1, x, y, xs, ys, R1, rs, hx, hy, go⟩ => ?_) hs hpl))
    obtain ⟨v, u, rfl, r1, r2⟩ := rs.two
    obtain ⟨v', u', rfl, w1, w2⟩ := vals2 rv
    obtain ⟨A, o1, H1', b1, hb1, i1, f1, s1'⟩ := src_of hK I1 R1 r1 w1 hx
    obtain ⟨B, o2, H2', b2, hb2, i2, f2, s2'⟩ := src_of hK I1 R1 r2 w2 hy
    have mA : ∀ b, b ∈ A.fp s1.heap.objs.size → b ≤ s1.heap.objs.size := fun b hb => by
      cases A with
      | l a => rcases List.mem_cons.mp hb with z | z; exact Nat.le_of_eq z; rw [List.mem_singleton.mp z]; exact Nat.le_of_lt (f1 a (.inl rfl))
      | t a => rcases List.mem_cons.mp hb with z | z; exact Nat.le_of_eq z; rw [List.mem_singleton.mp z]; exact Nat.le_of_lt (f1 a (.inr rfl))
      | s x t => rw [List.mem_singleton.mp hb]; exact Nat.le_refl _
    have mB : ∀ b, b ∈ B.fp (s1.heap.objs.size + 1) → b = s1.heap.objs.size + 1 ∨ b < s1.heap.objs.size := fun b hb => by
      cases B with
      | l a => rcases List.mem_cons.mp hb with z | z; exact .inl z; rw [List.mem_singleton.mp z]; exact .inr (f2 a (.inl rfl))
      | t a => rcases List.mem_cons.mp hb with z | z; exact .inl z; rw [List.mem_singleton.mp z]; exact .inr (f2 a (.inr rfl))
      | s x t => rw [List.mem_singleton.mp hb]; exact .inl rfl
    refine zip_begins2 b1 b2 hb1 hb2 fun h' hz hTI hTO g1 g2 hsz hk => wpAny_pyIter_zip hz ?_
    have I2 : Inv X pins σ H1 { s1 with heap := h' } := I1.kept (t' := s1.toks) hk
    have S : ZipSep2 (s1.heap.objs.size + 4) (s1.heap.objs.size + 2) (s1.heap.objs.size + 3) s1.heap.objs.size (s1.heap.objs.size + 1) (A.fp s1.heap.objs.size) (B.fp (s1.heap.objs.size + 1)) :=
      zsep _ SV.mem SV.mem mA mB
    refine ⟨s1.heap.objs.size + 4, [s1.heap.objs.size + 4, s1.heap.objs.size + 2, s1.heap.objs.size + 3, s1.heap.objs.size, s1.heap.objs.size + 1], _, ItZ X.K A B, H1, rfl, I2, turn_Z S (fun a h => Nat.ne_of_lt (f1 a h)) (fun a h => Nat.ne_of_lt (Nat.lt_succ_of_lt (f2 a h))), ⟨hz, hTI, ⟨_, _, hTO⟩, i1 _ _ g1, i2 _ _ g2⟩, fun b hb => ?_, go _ _ G1 (Ext.refl _) R1 (goes_zip hK s1' s2')⟩
    have hle : s1.heap.objs.size ≤ b := zle _ _ hb
    exact I1.fpOk hle (I1.hok.fresh hle)
  · obtain ⟨ds, rs, q2⟩ := ArsOk.reps r1 (out_bind.mp q1)
    match ds, q2 with
    | [x, y], q2 =>
      unfold zipD at q2
      have q3 := out_bind.mp q2
      unfold out at q3
      cases hx : iterA x P1 with
      | no => rw [hx] at q3; exact q3.elim
      | ex e p => cases x <;> cases hx
      | ok xs p1 =>
        rw [hx] at q3
        obtain ⟨rfl, hx'⟩ := iter_ok hx
        have q4 := out_bind.mp (show out (iterA y >>= fun ys => Pure.pure (zip2 xs ys)) p1 _ _ from q3)
        unfold out at q4
        cases hy : iterA y p1 with
        | no => rw [hy] at q4; exact q4.elim
        | ex e p => cases y <;> cases hy
        | ok ys p2 =>
          rw [hy] at q4
          obtain ⟨rfl, hy'⟩ := iter_ok hy
          exact ⟨_, G1, x, y, xs, ys, R1, rs, hx', hy', fun J H' G' e R' go => q4 J H' G' (e1.trans e) R' go⟩
    | [], q2 => exact q2.elim
    | [_], q2 => exact q2.elim
    | _ :: _ :: _ :: _, q2 => exact q2.elim
end
end DL
namespace DL
open PySem PySem.Spec PyProof.Rows L2
section
variable {c : Cn} {X : Cx} {F : Fr} {W : WX} {ρ : List Sl} {α β : Type}
inductive FogL : List Sl → List Sl → Prop
  | n : FogL [] []
  | k {a : Sl} {r r' : List Sl} (t : FogL r r') : FogL (a :: r) (a :: r')
  | u {a : Sl} {r r' : List Sl} (t : FogL r r') : FogL (a :: r) (.un :: r')
theorem FogL.len {r r' : List Sl} (h : FogL r r') : r'.length = r.length := by
  induction h with
  | n => rfl
  | k _ ih => simp [ih]
  | u _ ih => simp [ih]
theorem FogL.at' {r r' : List Sl} (h : FogL r r') : ∀ (i : Nat) a b, r[i]? = some a → r'[i]? = some b → Fog a b := by
  induction h with
  | n => intro i a b h; simp at h
  | @k a r r' t ih =>
    intro i x y h1 h2
    cases i with
    | zero => simp at h1 h2; subst h1; subst h2; cases a <;> first | exact True.intro | rfl
    | succ i => exact ih i x y (by simpa using h1) (by simpa using h2)
  | @u a r r' t ih =>
    intro i x y h1 h2
    cases i with
    | zero => simp at h1 h2; subst h2; exact True.intro
    | succ i => exact ih i x y (by simpa using h1) (by simpa using h2)
theorem Rel.fogL {P : Pot} {σ : L2.St} {H G : Hp} {ρ' : List Sl} (h : FogL ρ ρ') (R : Rel c F ρ P σ H G) : Rel c F ρ' P σ H G := R.fog h.len h.at'
theorem ds_end {E : α → List Sl} {a : α} (h : FogL ρ (E a)) : PSs X [] (rdS c F W ρ E (Pure.pure (.nx a))) := by
  refine pss_by pss_nil fun B σ H ⟨P, G, R, q⟩ => ?_
  have q' : ∀ σ' H' G', Ext G G' → Rel c F (E a) P σ' H' G' → B.nx σ' H' := q
  exact q' σ H G (Ext.refl G) (R.fogL h)
/-- a def that may be called by its name -/
structure Cal (P : Program) (w : World) (K : PySem.W.Frag) (mg : Str → Option Value) (base : Heap) (k : Nat) (x : Str) (sp : Sp) : Prop where
  ex : ∃ (f : Addr) (fd : FuncData) (ps : List Str), FnG P w K mg base k f fd ps sp ∧ mg x = some (.ref f) ∧ PySem.W.keepIn K (.ref f) = true ∧ Binds K fd ps []
theorem de_callC {k j : Nat} {mf : List Ar → M D} {ms : M (List Ar)} {x : Str} {p pos : Pos} {e : Expr} {es : List Expr} (fn : Cal X.prog X.w c.K c.mg X.base k x (spD c mf)) (C : Ctx c X j) (hj : k ≤ j) (tk : Takes X W) (hg : Gl X x)
    (ha : PA X (e :: es) (rdA c F W ρ ms)) (hdb : (x == ("__debug__" : Str)) = false := by decide) (he : starEach (e :: es) X.env = (false, eval e X.env) :: starEach es X.env := by rfl) (hpl : (backTo pos (starEach es X.env)).any (·.1) = false := by rfl) :
    PE X (.Call (.Name x p) (e :: es) [] pos) (rdE c F W ρ (ms >>= mf)) := by
  obtain ⟨f, fd, ps, h, hm, hk, hb⟩ := fn.ex
  have h' : FnG X.prog X.w X.K X.mg X.base k f fd ps (spD c mf) := by rw [C.K, C.mg]; exact h
  exact de_call (C.mono hj) tk h' hg hm hk hb ha hdb he hpl
theorem de_callCF {k j : Nat} {mf : List Ar → M (List D)} {ms : M (List Ar)} {x : Str} {p pos : Pos} {e : Expr} {es : List Expr} (fn : Cal X.prog X.w c.K c.mg X.base k x (spF c mf)) (C : Ctx c X j) (hj : k ≤ j) (tk : Takes X W) (hg : Gl X x)
    (ha : PA X (e :: es) (rdA c F W ρ ms)) (hdb : (x == ("__debug__" : Str)) = false := by decide) (he : starEach (e :: es) X.env = (false, eval e X.env) :: starEach es X.env := by rfl) (hpl : (backTo pos (starEach es X.env)).any (·.1) = false := by rfl) :
    PE X (.Call (.Name x p) (e :: es) [] pos) (rdN c F W ρ (ms >>= mf)) := by
  obtain ⟨f, fd, ps, h, hm, hk, hb⟩ := fn.ex
  have h' : FnG X.prog X.w X.K X.mg X.base k f fd ps (spF c mf) := by rw [C.K, C.mg]; exact h
  exact de_callF (C.mono hj) tk h' hg hm hk hb ha hdb he hpl
def dicM : List (Key × M D) → M (List (Key × D))
  | [] => Pure.pure []
  | (k, m) :: r => m >>= fun d => dicM r >>= fun ps => Pure.pure ((k, d) :: ps)
theorem de_dic0 {pos : Pos} : PE X (.Dict [] [] pos) (rdE c F W ρ (Pure.pure (.dic []))) := pe_by pe_dnewK fun σ H Q ⟨P, G, R, q⟩ p hp => by
  obtain ⟨R2, e2⟩ := R.new hp (nt_dK (xs := []))
  exact q _ _ _ e2 R2 (.dicK upd_same rfl fun i p q h => by simp at h)
theorem mergeK_nodup : ∀ (more kvs : List (Key × V)), (kvs.map (·.1) ++ more.map (·.1)).Nodup → mergeK kvs more = kvs ++ more
  | [], kvs, _ => by show kvs = kvs ++ []; simp
  | p :: r, kvs, h => by
    have hn : (kvs.any fun kv => decide (kv.1 = p.1)) = false := by
      rw [List.any_eq_false]
      intro kv hk e
      have e : kv.1 = p.1 := by simpa using e
      have := (List.nodup_append.mp h).2.2 kv.1 (List.mem_map.mpr ⟨kv, hk, rfl⟩) p.1 (List.mem_map.mpr ⟨p, List.mem_cons_self, rfl⟩)
      exact this e
    have hp : putK kvs p.1 p.2 = kvs ++ [p] := by
      unfold putK
      rw [hn]
      rfl
    show mergeK (putK kvs p.1 p.2) r = _
    rw [hp, mergeK_nodup r (kvs ++ [p]) (by simpa [List.append_assoc] using h)]
    simp
/-- a value that is made while an object of one's own waits -/
def rdX (c : Cn) (ap : Option Addr) (W : WX) (ρ : List Sl) (m : M D) : TE := fun σ H Q => ∃ G0 H0, rdE c ⟨G0, H0, ap⟩ W (ρ.map unO) m σ H Q
theorem pe_X {e : Expr} {ap : Option Addr} {m : M D} (h : ∀ G0 H0, PE X e (rdE c ⟨G0, H0, ap⟩ W (ρ.map unO) m)) : PE X e (rdX c ap W ρ m) := ⟨fun pins s σ H Q I ⟨G0, H0, q⟩ => (h G0 H0).run pins s σ H Q I q⟩
/-- the readings of the pairs -/
def prs (c : Cn) (ap : Option Addr) (W : WX) (ρ : List Sl) : List (Key × M D) → List (TE × TE)
  | [] => []
  | (k, m) :: r => (tC (kV k), rdX c ap W ρ m) :: prs c ap W ρ r
theorem pairs_rd {G0 H0 : Hp} {ap : Option Addr} {ls : List (Key × M D)} : ∀ {P : Pot} {σ : L2.St} {H G : Hp} {Q : List (V × V) → Hp → Prop}, Rel c ⟨G0, H0, ap⟩ (ρ.map unO) P σ H G →
    out (dicM ls) P (fun ps P' => ∀ (kvs : List (Key × V)) H' G', Ext G G' → Rel c ⟨G0, H0, ap⟩ (ρ.map unO) P' σ H' G' → kvs.map (·.1) = ps.map (·.1) → c.reps G' (kvs.map (·.2)) (ps.map (·.2)) → Q (kvs.map fun kv => (kV kv.1, kv.2)) H') (exW c ⟨G0, H0, ap⟩ W P G σ) → tPairs (prs c ap W ρ ls) σ H Q := by
  induction ls with
  | nil => exact fun R q => q [] _ _ (Ext.refl _) R rfl Reps.nil
  | cons km r ih =>
    obtain ⟨k, m⟩ := km
    intro P σ H G Q R q
    refine ⟨G0, H0, P, G, R, out_mono (out_bind.mp q) (fun d P1 q1 v H1 G1 e1 R1 r1 => ?_) fun _ _ z => z⟩
    refine ih R1 (out_mono (out_bind.mp q1) (fun ps P2 q2 kvs H2 G2 e2 R2 hk hr => ?_) fun _ _ z => exW_le e1 z)
    exact q2 ((k, v) :: kvs) H2 G2 (e1.trans e2) R2 (by simp [hk]) (Reps.cons (r1.mono e2) hr)
end
end DL
namespace DL
open PySem PySem.Spec PyProof.Rows L2
theorem hu_64 {k : Nat} {A : Around} (r : Room k A) : A.units + 64 < cLine := by have := r.un; omega
theorem hu_65 {k : Nat} {A : Around} (r : Room k A) : A.units + 65 < cLine := by have := r.un; omega
theorem hu_102 {k : Nat} {A : Around} (r : Room k A) : A.units + 102 < cLine := by have := r.un; omega
/-- an own exception class without an __init__ of its own -/
structure Exc0 (K : PySem.W.Frag) (mg : Str → Option Value) (x : Str) : Prop where
  ex : ∃ (C : Addr) (bmB : List Value) (B newId initId : String), ExcBaseFacts B newId initId bmB ∧ PySem.W.excIn K C bmB newId = true ∧ mg x = some (.ref C) ∧ PySem.W.keepIn K (.ref C) = true ∧ PySem.W.subIn K (.ref C) (.type "BaseException") = some true ∧ PySem.W.typeIn K (.ref C) = some (.type "type")
/-- a class that an except clause names; is: of which own classes it is a base -/
structure Hand0 (K : PySem.W.Frag) (mg : Str → Option Value) (x : Str) (is : Str → Option Bool) : Prop where
  ex : ∃ cv, mg x = some cv ∧ HdOk ⟨mg, K, []⟩ is cv
section
variable {c : Cn} {X : Cx} {F : Fr} {W : WX} {ρ : List Sl} {α β : Type}
theorem ds_raiseC {E : α → List Sl} {x m : Str} {j : Nat} {p p2 pos pos2 : Pos} (e : Exc0 c.K c.mg x) (hm : X.mg = c.mg) (hK : X.K = c.K) (hc : X.calm = true) (tk : Takes X W) (hg : Gl X x) (hdb : (x == ("__debug__" : Str)) = false := by decide) :
    PS X (.Raise (some (.Call (.Name x p) [.Constant (.str m) j p2] [] pos)) none pos2) (rdS c F W ρ E (M.raise ⟨x, none⟩)) := by
  obtain ⟨C, bmB, B, newId, initId, f, q, g, k, s, t⟩ := e.ex
  exact ds_raise0 hm hK hc tk f q g k s t hg hdb
theorem test_yes2 {ρ : List Sl} {i j : Nat} : TestOk c tYes (fun d => tupS ρ [i, j] d) (un2 fun _ _ => Pure.pure true) := fun F d ρ' P σ H G Q R e q => by
  obtain ⟨x, y, rfl, rfl⟩ := tupS2 e
  exact q H G (Ext.refl _) R
theorem test_yes3 {ρ : List Sl} {i j l : Nat} : TestOk c tYes (fun d => tupS ρ [i, j, l] d) (un3 fun _ _ _ => Pure.pure true) := fun F d ρ' P σ H G Q R e q => by
  obtain ⟨x, y, z, rfl, rfl⟩ := tupS3 e
  exact q H G (Ext.refl _) R
/-- a, b = e, the pair as it is made -/
theorem ds_asg2 {i j : Nat} {es : List Expr} {k : Nat} {e : Expr} {tpos pos : Pos} {m : M D} (hK : X.K = c.K) (hc : X.calm = true) (hg : PGs X es (gNames [i, j])) (he : PE X e (rdE c F W ρ m)) (hs : swapsWithSole [.Tuple es k tpos] e pos.line X.env = pure false := by rfl) (hw : swappedStores [.Tuple es k tpos] e X.env = pure none := by rfl)
    (h1 : (assignEach [.Tuple es k tpos] X.env).map (·.2) = [assign (.Tuple es k tpos) X.env] := by rfl) (hn : (assignEach es X.env).length = [i, j].length := by rfl) (hst : (assignEach es X.env).findIdx? (·.1) = none := by rfl) :
    PS X (.Assign [.Tuple es k tpos] e pos) (rdS c F W ρ (fun d => (ρ.set i (.v d.1)).set j (.v d.2)) (m >>= un2 fun x y => Pure.pure (.nx (x, y)))) := by
  have hg' : PG X (.Tuple es k tpos) (rdG c F ρ (tupS ρ [i, j])) := dg_tup hK hc hg hn hst
  refine ps_by (ps_asg he hg' hs hw h1) fun B σ H ⟨P, G, R, q⟩ => ?_
  refine ⟨P, G, R, out_mono (out_bind.mp q) (fun d P1 q1 v H1 G1 e1 R1 r1 => ?_) fun _ _ z => exS.w z⟩
  cases ht : tupS ρ [i, j] d with
  | none => rw [un2_no ht] at q1; exact q1.elim
  | some ρ' =>
    obtain ⟨x, y, rfl, rfl⟩ := tupS2 ht
    have q2 : ∀ σ' H' G', Ext G G' → Rel c F ((ρ.set i (.v x)).set j (.v y)) P1 σ' H' G' → B.nx σ' H' := q1
    exact ⟨P1, G1, _, _, R1, r1, ht, fun σ' H' G' e R' => q2 σ' H' G' (e1.trans e) R'⟩
end
end DL
namespace DL
open PySem PySem.Spec PyProof.Rows L2
section
variable {c : Cn}
theorem opd_lt : OpD c (rOrd (fun i j => decide (i < j)) ltS) ltD := opd_ord
theorem opd_le : OpD c (rOrd (fun i j => decide (i ≤ j)) (fun i j => !ltS j i)) leD := opd_ord
theorem opd_gt : OpD c (rOrd (fun i j => decide (j < i)) (fun i j => ltS j i)) gtD := opd_ord
end
end DL
namespace DL
open PySem PySem.Spec PyProof.Rows L2
section
variable {c : Cn} {X : Cx} {F : Fr} {W : WX} {ρ ρ' : List Sl} {α : Type}
theorem de_at {e : Expr} {m : M D} (h : ρ = ρ') (k : PE X e (rdE c F W ρ' m)) : PE X e (rdE c F W ρ m) := by rw [h]; exact k
theorem dt_at {e : Expr} {m : M Bool} (h : ρ = ρ') (k : PT X e (rdT c F W ρ' m)) : PT X e (rdT c F W ρ m) := by rw [h]; exact k
theorem ds_at {ss : List Stmt} {E : α → List Sl} {m : M (Fl α)} (h : ρ = ρ') (k : PSs X ss (rdS c F W ρ' E m)) : PSs X ss (rdS c F W ρ E m) := by rw [h]; exact k
theorem df_at {ss : List Stmt} {m : M (List D)} (h : ρ = ρ') (k : PSs X ss (rdF c F W ρ' m)) : PSs X ss (rdF c F W ρ m) := by rw [h]; exact k
end
end DL
namespace DL
open PySem PySem.Spec PyProof.Rows L2
section
variable {P : Program} {w : World} {K : PySem.W.Frag} {mg : Str → Option Value} {base : Heap} {x : Str} {sp : Sp}
theorem FnG.mono {j k : Nat} {f : Addr} {fd : FuncData} {ps : List Str} (h : FnG P w K mg base j f fd ps sp) (l : j ≤ k) : FnG P w K mg base k f fd ps sp :=
  ⟨h.ln, fun A fr s H us vs args Q E ga r => h.go A fr s H us vs args Q E ga (r.mono l)⟩
theorem Cal.mono {j k : Nat} (h : Cal P w K mg base j x sp) (l : j ≤ k) : Cal P w K mg base k x sp := by
  obtain ⟨f, fd, ps, a, b⟩ := h.ex
  exact ⟨f, fd, ps, a.mono l, b⟩
end
/-- one own class caught by a class -/
theorem hd_one {K : PySem.W.Frag} {mg : Str → Option Value} {x y : Str} {C D : Addr} {b : Bool} (hy : mg y = some (.ref D)) (h : PySem.W.exmOne K (.ref D) (.ref C) = some b) : ∀ cl, mg y = some cl → PySem.W.exmOne K cl (.ref C) = some b := fun cl e => by
  rw [hy] at e
  cases e
  exact h
end DL
namespace SX
open PySem PySem.Spec PyProof.Rows L2
def kvl : Key → Tok → Value
  | .inl i, t => .int i t
  | .inr x, t => .str x t
def ko (v : Value) : Key := match v with
  | .int k _ => .inl k
  | .str x _ => .inr x
  | _ => .inl 0
def Gd (P : Program) (w : World) (e : Int × Value) : Prop := ∃ k t, e.2 = kvl k t ∧ e.1 = (mixKind P w).hash k
abbrev keysE (es : Array (Int × Value)) : List Key := es.toList.map fun e => ko e.2
/-- the set of keys at a, with a table that can be walked -/
def SetS (P : Program) (w : World) (h : Heap) (a : Addr) (S : Key → Bool) (n : Nat) : Prop := ∃ (o : Obj) (es : Array (Int × Value)) (ep : Nat) (t : SetTable),
  h.get? a = some o ∧ o.ExactSet ∧ o.data = .set es ep t ∧ (∀ e ∈ es.toList, Gd P w e) ∧ (keysE es).Nodup ∧ (∀ k, S k = true ↔ k ∈ keysE es) ∧
  es.size < scanBound ∧ t.fits es.size = true ∧ es.size = n ∧ Ris t.place.toList ∧ (w.params.followText "set-order" = true ∨ t.led = true)
section
variable {P : Program} {w : World} {h h' : Heap} {a : Addr} {S : Key → Bool} {n : Nat}
theorem SetS.at (R : SetS P w h a S n) (k : ∀ o, h.get? a = some o → h'.get? a = some o) : SetS P w h' a S n := by
  obtain ⟨o, es, ep, t, ho, r⟩ := R; exact ⟨o, es, ep, t, k o ho, r⟩
end
end SX
namespace SX
open PySem PySem.Spec PyProof.Rows L2
open PySem.W (EachIs alike list_sort_data dataLe)
theorem asc_uniq {α : Type} {r : α → α → Prop} (as : ∀ a b, r a b → ¬ r b a) (ir : ∀ a, ¬ r a a) : ∀ {l m : List α}, l.Pairwise r → m.Pairwise r → (∀ x, x ∈ l ↔ x ∈ m) → l = m
  | [], [], _, _, _ => rfl
  | [], b :: m, _, _, h => absurd ((h b).mpr List.mem_cons_self) List.not_mem_nil
  | a :: l, [], _, _, h => absurd ((h a).mp List.mem_cons_self) List.not_mem_nil
  | a :: l, b :: m, p, q, h => by
    obtain ⟨p1, p2⟩ := List.pairwise_cons.mp p
    obtain ⟨q1, q2⟩ := List.pairwise_cons.mp q
    have e : a = b := by
      rcases List.mem_cons.mp ((h a).mp List.mem_cons_self) with z | z
      · exact z
      · rcases List.mem_cons.mp ((h b).mpr List.mem_cons_self) with y | y
        · exact y.symm
        · exact absurd (p1 b y) (as _ _ (q1 a z))
    subst e
    rw [asc_uniq as ir p2 q2 fun x => ⟨fun hx => ?_, fun hx => ?_⟩]
    · rcases List.mem_cons.mp ((h x).mp (List.mem_cons_of_mem _ hx)) with z | z
      · subst z; exact absurd (p1 x hx) (ir x)
      · exact z
    · rcases List.mem_cons.mp ((h x).mpr (List.mem_cons_of_mem _ hx)) with z | z
      · subst z; exact absurd (q1 x hx) (ir x)
      · exact z
def insU (a : Nat) : List Nat → List Nat
  | [] => [a]
  | b :: l => if a < b then a :: b :: l else if a = b then b :: l else b :: insU a l
theorem insU_mem {a x : Nat} : ∀ {l : List Nat}, x ∈ insU a l ↔ x = a ∨ x ∈ l
  | [] => by simp [insU]
  | b :: l => by
    unfold insU
    split
    · simp
    · split
      · rename_i e; subst e; simp
      · rw [List.mem_cons, insU_mem, List.mem_cons]
        constructor
        · rintro (h | h | h)
          · exact .inr (.inl h)
          · exact .inl h
          · exact .inr (.inr h)
        · rintro (h | h | h)
          · exact .inr (.inl h)
          · exact .inl h
          · exact .inr (.inr h)
theorem insU_asc {a : Nat} : ∀ {l : List Nat}, l.Pairwise (· < ·) → (insU a l).Pairwise (· < ·)
  | [], _ => by simp [insU]
  | b :: l, h => by
    obtain ⟨h1, h2⟩ := List.pairwise_cons.mp h
    unfold insU
    split
    · rename_i q
      refine List.pairwise_cons.mpr ⟨fun x hx => ?_, h⟩
      rcases List.mem_cons.mp hx with z | z
      · omega
      · have := h1 x z; omega
    · split
      · exact h
      · refine List.pairwise_cons.mpr ⟨fun x hx => ?_, insU_asc h2⟩
        rcases insU_mem.mp hx with z | z
        · omega
        · exact h1 x z
def srtN (l : List Nat) : List Nat := l.foldr insU []
theorem srtN_mem {x : Nat} : ∀ {l : List Nat}, x ∈ srtN l ↔ x ∈ l
  | [] => Iff.rfl
  | a :: l => by
    show x ∈ insU a (srtN l) ↔ _
    rw [insU_mem, srtN_mem, List.mem_cons]
theorem srtN_asc : ∀ {l : List Nat}, (srtN l).Pairwise (· < ·)
  | [] => List.Pairwise.nil
  | a :: l => insU_asc (srtN_asc (l := l))
theorem srtN_self {l : List Nat} (h : l.Pairwise (· < ·)) : srtN l = l := asc_uniq (fun a b p q => by omega) (fun a => Nat.lt_irrefl a) srtN_asc h fun x => srtN_mem
def sgl (c : Nat) : Str := ⟨#[c]⟩
/-- Python's order of texts -/
def ltT (a b : Str) : Prop := a.cps.toList < b.cps.toList
theorem ltT_sgl {c d : Nat} : ltT (sgl c) (sgl d) ↔ c < d := by
  refine ⟨fun h => ?_, fun h => List.Lex.rel h⟩
  have h : List.Lex (· < ·) [c] [d] := h
  cases h with
  | rel h => exact h
  | cons h => cases h
end SX
namespace DL
open PySem PySem.Spec PyProof.Rows L2
end DL
namespace DL
open PySem PySem.Spec PyProof.Rows L2
/-- fields, by name: put in the place of the one that is there, or behind all -/
def putA {β : Type} (f : Str) (v : β) : List (Str × β) → List (Str × β)
  | [] => [(f, v)]
  | (g, x) :: r => if g = f then (g, v) :: r else (g, x) :: putA f v r
section
variable {c : Cn} {X : Cx} {F : Fr} {W : WX} {ρ : List Sl} {k : Nat}
theorem putF_rep {G : Hp} {f : Str} {v : V} {d : D} (r : c.rep G v d) : ∀ {fs : List (Str × V)} {ds : List (Str × D)}, fs.map (·.1) = ds.map (·.1) → c.reps G (fs.map (·.2)) (ds.map (·.2)) → (putF f v fs).map (·.1) = (putA f d ds).map (·.1) ∧ c.reps G ((putF f v fs).map (·.2)) ((putA f d ds).map (·.2))
  | [], [], _, _ => ⟨rfl, Reps.cons r Reps.nil⟩
  | [], _ :: _, h, _ => by simp at h
  | _ :: _, [], h, _ => by simp at h
  | (g, x) :: fs, (g', y) :: ds, h, rs => by
    simp only [List.map_cons, List.cons.injEq] at h
    obtain ⟨h1, h2⟩ := h
    have e1 : g = g' := h1
    subst e1
    have rh : c.rep G x y := rs.head
    have rt : c.reps G (fs.map (·.2)) (ds.map (·.2)) := rs.tail
    unfold putF putA
    by_cases z : g = f
    · rw [if_pos z, if_pos z]
      exact ⟨by simp only [List.map_cons]; rw [h2], by simp only [List.map_cons]; exact Reps.cons r rt⟩
    · rw [if_neg z, if_neg z]
      obtain ⟨a, b⟩ := putF_rep (f := f) r h2 rt
      exact ⟨by simp only [List.map_cons]; rw [a], by simp only [List.map_cons]; exact Reps.cons rh b⟩
theorem lookup_rep {G : Hp} {f : Str} {d : D} : ∀ {fs : List (Str × V)} {ds : List (Str × D)}, fs.map (·.1) = ds.map (·.1) → c.reps G (fs.map (·.2)) (ds.map (·.2)) → ds.lookup f = some d → ∃ v, fs.lookup f = some v ∧ c.rep G v d
  | [], [], _, _, h => by simp at h
  | [], _ :: _, h, _, _ => by simp at h
  | _ :: _, [], h, _, _ => by simp at h
  | (g, x) :: fs, (g', y) :: ds, h, rs, l => by
    simp only [List.map_cons, List.cons.injEq] at h
    obtain ⟨h1, h2⟩ := h
    have e1 : g = g' := h1
    subst e1
    have rh : c.rep G x y := rs.head
    have rt : c.reps G (fs.map (·.2)) (ds.map (·.2)) := rs.tail
    simp only [List.lookup] at l ⊢
    split at l
    · cases l; exact ⟨x, rfl, rh⟩
    · exact lookup_rep h2 rt l
theorem lookup_no {β γ : Type} {f : Str} : ∀ {fs : List (Str × β)} {ds : List (Str × γ)}, fs.map (·.1) = ds.map (·.1) → ds.lookup f = none → fs.lookup f = none
  | [], [], _, _ => rfl
  | [], _ :: _, h, _ => by simp at h
  | _ :: _, [], h, _ => by simp at h
  | (g, x) :: fs, (g', y) :: ds, h, l => by
    simp only [List.map_cons, List.cons.injEq] at h
    obtain ⟨h1, h2⟩ := h
    have e1 : g = g' := h1
    subst e1
    simp only [List.lookup] at l ⊢
    split at l
    · cases l
    · exact lookup_no h2 l
/-- the class cn of one's own, at C -/
def AtC (c : Cn) (cn : Str) (p : Addr → Prop) : Prop := ∃ C, c.mg cn = some (.ref C) ∧ p C
theorem AtC.get {cn : Str} {p : Addr → Prop} (h : AtC c cn p) {C : Addr} (e : c.mg cn = some (.ref C)) : p C := by
  obtain ⟨C', e', q⟩ := h
  rw [e] at e'
  cases e'
  exact q
def fldD (cns : List Str) (f : Str) : D → M D
  | .ins cn fs => if cn ∈ cns then M.some (fs.lookup f) else M.no
  | _ => M.no
theorem de_fld {e : Expr} {f : Str} {pos : Pos} {m : M D} {cns : List Str} (hK : X.K = c.K) (hc : ∀ cn ∈ cns, AtC c cn fun C => Cls c.K C ∧ NoAttr c.K C f) (he : PE X e (rdE c F W ρ m)) (hb : attributeBase e f X.env (eval e X.env) = eval e X.env := by rfl) :
    PE X (.Attribute e f pos) (rdE c F W ρ (m >>= fldD cns f)) := by
  refine pe_by (pe_fld he hb) fun σ H Q ⟨P, G, R, q⟩ => ?_
  refine ⟨P, G, R, out_mono (out_bind.mp q) (fun d P1 q1 v H1 G1 e1 R1 r1 => ?_) fun _ _ z => z⟩
  cases d with
  | ins cn fs =>
    have q2 : out (if cn ∈ cns then M.some (fs.lookup f) else M.no) P1 _ _ := q1
    by_cases hm : cn ∈ cns
    · rw [if_pos hm] at q2
      obtain ⟨d, l, q3⟩ := out_some.mp q2
      cases r1 with
      | ins ha hmc hk hr =>
        rename_i a C dx fvs
        obtain ⟨k1, k2⟩ := (hc cn hm).get hmc
        obtain ⟨v, l2, rv⟩ := lookup_rep hk ⟨by rw [List.length_map, List.length_map]; have := congrArg List.length hk; rwa [List.length_map, List.length_map] at this, fun i x y h1 h2 => by
          rw [List.getElem?_map, Option.map_eq_some_iff] at h1 h2
          obtain ⟨p, h1, rfl⟩ := h1
          obtain ⟨q, h2, rfl⟩ := h2
          exact hr i p q h1 h2⟩ l
        exact ⟨a, C, dx, fvs, v, rfl, R1.post.le _ _ ha, hK ▸ k1, hK ▸ k2, l2, q3 v H1 G1 e1 R1 rv⟩
    · rw [if_neg hm] at q2; exact q2.elim
  | _ => exact q1.elim
theorem Rel.upd_own {P : Pot} {σ : L2.St} {H G : Hp} {i : Nat} {a : Addr} {k k' : Cel} {o : HO} (R : Rel c F ρ P σ H G) (hi : ρ[i]? = some (.o k)) (ha : σ[i]? = some (some (.ref a))) (hk : CelOk c G a o k') : Rel c F (ρ.set i (.o k')) P σ (upd H a o) G := by
  have hlt : i < ρ.length := (List.getElem?_eq_some_iff.mp hi).1
  obtain ⟨a', e, ⟨u, hu, hk0⟩, g, h, n⟩ := R.sl i _ _ hi ha
  cases e
  have nt : ∀ u, H a = some u → (∀ ps, u ≠ .tbl ps) ∧ ∀ φ, u ≠ .ext φ := fun v e => by
    rw [hu] at e; cases e
    cases u <;> cases k <;> first | exact hk0.elim | exact ⟨nofun, nofun⟩
  have R1 : Rel c F (ρ.set i .un) P σ (upd H a o) G := by
    have R0 : Rel c F (ρ.set i .un) P σ H G := by
      have := R.un (i := i) (x := some (.ref a))
      have e2 : σ.set i (some (V.ref a)) = σ := by
        apply List.ext_getElem?
        intro j
        rw [List.getElem?_set]
        split
        · rename_i z; subst z
          split
          · exact ha.symm
          · rename_i hl; exact absurd (by rw [R.len]; exact hlt) hl
        · rfl
      rwa [e2] at this
    refine R0.at g h n nt fun j kk hj hs => ?_
    by_cases z : i = j
    · subst z; rw [List.getElem?_set] at hj; simp at hj
    · rw [List.getElem?_set_ne z] at hj
      exact z (R.ap i j k kk a hi hj ha hs)
  refine ⟨R1.post, by simpa using R.len, fun j s x h1 h2 => ?_, fun j j' kk kk' b h1 h2 h3 h4 => ?_⟩
  · by_cases z : i = j
    · subst z
      rw [List.getElem?_set, if_pos rfl, if_pos hlt] at h1
      cases h1
      rw [ha] at h2; cases h2
      exact ⟨a, rfl, ⟨o, upd_same, hk⟩, g, h, n⟩
    · rw [List.getElem?_set_ne z] at h1
      exact R1.sl j s x (by rw [List.getElem?_set_ne z]; exact h1) h2
  · have back : ∀ {m : Nat} {kk : Cel}, (ρ.set i (.o k'))[m]? = some (.o kk) → ∃ k2, ρ[m]? = some (.o k2) := fun {m kk} h => by
      by_cases z : i = m
      · subst z; exact ⟨k, hi⟩
      · rw [List.getElem?_set_ne z] at h; exact ⟨kk, h⟩
    obtain ⟨k1, b1⟩ := back h1
    obtain ⟨k2, b2⟩ := back h2
    exact R.ap j j' k1 k2 b b1 b2 h3 h4
theorem ds_fld {i : Nat} {x f : Str} {p p2 pos : Pos} {e : Expr} {cn : Str} {sf : Addr} {fs : List (Str × D)} {me : M D} (hi : ρ[i]? = some (.o (.i sf cn fs))) (hK : X.K = c.K) (hc : AtC c cn fun C => Cls c.K C ∧ NoAttr c.K C f) (hn : fs.length < 900) (hx : PE X (.Name x p) (tVar i)) (he : PE X e (rdE c F W ρ me))
    (hs : swapsWith e (some (.Attribute (.Name x p) f p2)) pos.line X.env = pure false := by rfl) :
    PS X (.Assign [.Attribute (.Name x p) f p2] e pos) (rdS c F W ρ (fun d => ρ.set i (.o (.i sf cn (putA f d fs)))) (me >>= fun d => Pure.pure (.nx d))) := by
  refine ps_by (ps_fld hx he hs) fun B σ H ⟨P, G, R, q⟩ => ?_
  refine ⟨P, G, R, out_mono (out_bind.mp q) (fun d P1 q1 v H1 G1 e1 R1 r1 => ?_) fun _ _ z => exS.w z⟩
  have hl : i < σ.length := by rw [R1.len]; exact (List.getElem?_eq_some_iff.mp hi).1
  obtain ⟨a, ea, ⟨o, ho, hk⟩, g, h, n⟩ := R1.sl i _ _ hi (List.getElem?_eq_getElem hl)
  have hat : σ[i]? = some (some (V.ref a)) := by rw [List.getElem?_eq_getElem hl, ea]
  cases o with
  | ins C dx fvs =>
    obtain ⟨k0, k1, k2, k3⟩ := hk
    obtain ⟨c1, c2⟩ := hc.get k1
    obtain ⟨z1, z2⟩ := putF_rep (f := f) r1 k2 k3
    have len : fvs.length < 1000 := by
      have := congrArg List.length k2
      rw [List.length_map, List.length_map] at this
      omega
    have q2 : ∀ σ' H' G', Ext G G' → Rel c F (ρ.set i (.o (.i sf cn (putA f d fs)))) P1 σ' H' G' → B.nx σ' H' := q1
    refine ⟨.ref a, hat, a, C, dx, fvs, rfl, ho, hK ▸ c1, hK ▸ c2, len, q2 σ _ G1 e1 (R1.upd_own hi hat ⟨k0, k1, z1, z2⟩)⟩
  | _ => exact hk.elim
/-- what __init__ does, told by data: what the new instance keeps -/
def spI (c : Cn) (cn : Str) (mf : List Ar → M (List (Str × D))) : Sp := fun vs H Q E => ∃ (x dx C : Addr) (H1 G : Hp) (ap : Option Addr) (P : Pot) (as : List Ar) (ws : List V),
  vs = .ref x :: ws ∧ H = upd (upd H1 dx (.own x)) x (.ins C dx []) ∧ c.mg cn = some (.ref C) ∧ H1 x = none ∧ H1 dx = none ∧ dx ≠ x ∧ Post c ap G H1 P G H1 ∧ ArsOk c ⟨G, H1, ap⟩ G ws as ∧
  out (mf as) P (fun fs P' => ∀ H' G' dx2 fvs, Post c ap G H1 P' G' H' → H' x = some (.ins C dx2 fvs) → fvs.map (·.1) = fs.map (·.1) → c.reps G' (fvs.map (·.2)) (fs.map (·.2)) → G' x = none → Q .non H') (fun e P' => ∀ cl dd H' G', Post c ap G H1 P' G' H' → ExOk c H' G' e cl dd → E cl dd H')
theorem Post.more {ap : Option Addr} {G H1 H : Hp} {P : Pot} {p : Addr} {o : HO} (h : Post c ap G H1 P G H) (hp : H p = none) : Post c ap G H1 P G (upd H p o) := by
  have ne : ∀ b u, H b = some u → b ≠ p := fun b u e z => by rw [z, hp] at e; cases e
  refine ⟨h.ext, fun b u e => ?_, fun b u e n t => ?_, h.new, h.pot.ext (Ext.refl _) (fun a e => ?_) (fun a e => ?_), tabs_upd h.tab (fun u e => ?_), h.nt⟩
  · rw [upd_ne (ne b u (h.le b u e))]; exact h.le b u e
  · rw [upd_ne (ne b u (h.fr b u e n t))]; exact h.fr b u e n t
  · have z := h.pot
    rw [e] at z
    cases P with
    | none => exact z.elim
    | some ds => obtain ⟨vs, z, _⟩ := z; exact upd_ne (ne a _ z)
  · have z := h.pot
    rw [e] at z
    cases P with
    | none => exact z.elim
    | some ds => obtain ⟨_, _, _, z⟩ := z; exact z
  · rw [hp] at e; cases e
/-- the slots at the start of __init__ -/
def slotsI (me : Addr) (cn : Str) (as : List Ar) (n : Nat) : List Sl := .o (.i me cn []) :: slots as (n - 1)
theorem rel_startI {G H1 : Hp} {ap : Option Addr} {P : Pot} {ws : List V} {as : List Ar} {x0 : Str} {N : List Str} {x dx C : Addr} {cn : Str} (p : Post c ap G H1 P G H1) (r : ArsOk c ⟨G, H1, ap⟩ G ws as) (hC : c.mg cn = some (.ref C)) (hx : H1 x = none) (hd : H1 dx = none) (hne : dx ≠ x) :
    Rel c ⟨G, H1, ap⟩ (slotsI x cn as (x0 :: N).length) P (L2.start (x0 :: N) (.ref x :: ws)) (upd (upd H1 dx (.own x)) x (.ins C dx [])) G := by
  have R0 := rel_start (N := N) p r
  have p1 : Post c ap G H1 P G (upd H1 dx (.own x)) := p.more hd
  have hx1 : upd H1 dx (.own x) x = none := by rw [upd_ne (fun e => hne e.symm)]; exact hx
  have p2 := p1.more (o := .ins C dx []) hx1
  have nop : ∀ (i : Nat) k, (slots as N.length)[i]? ≠ some (.o k) := fun i k e => by
    unfold slots at e
    by_cases hi : i < (as.map arS).length
    · rw [List.getElem?_append_left hi, List.getElem?_map] at e
      cases q : as[i]? with
      | none => rw [q] at e; cases e
      | some a => rw [q] at e; cases a <;> cases e
    · rw [List.getElem?_append_right (Nat.le_of_not_lt hi), List.getElem?_replicate] at e
      split at e <;> cases e
  have es : L2.start (x0 :: N) (.ref x :: ws) = some (.ref x) :: L2.start N ws := by
    unfold L2.start
    simp
  rw [es]
  refine ⟨p2, by unfold slotsI; simpa using R0.len, fun i s v h1 h2 => ?_, fun i j k k' u h1 h2 _ _ => ?_⟩
  · cases i with
    | zero =>
      cases h1; cases h2
      refine ⟨x, rfl, ⟨_, upd_same, rfl, hC, rfl, Reps.nil⟩, p.g_none hx, .of hx, fun z => ?_⟩
      have z2 := p.pot
      have z : some x = ap := z
      rw [← z] at z2
      cases P with
      | none => exact z2.elim
      | some ds => obtain ⟨vs, z2, _⟩ := z2; rw [hx] at z2; cases z2
    | succ i =>
      have h1 : (slots as N.length)[i]? = some s := by simpa [slotsI] using h1
      have h2 : (L2.start N ws)[i]? = some v := by simpa using h2
      have z := R0.sl i s v h1 h2
      cases s with
      | un => exact True.intro
      | v d => exact z
      | p => exact z
      | o k => exact absurd h1 (nop i k)
  · have h0 : ∀ {m : Nat} {kk : Cel}, (slotsI x cn as (x0 :: N).length)[m]? = some (.o kk) → m = 0 := fun {m kk} h => by
      cases m with
      | zero => rfl
      | succ m => exact absurd (by simpa [slotsI] using h) (nop m kk)
    rw [h0 h1, h0 h2]
end
section
variable {P : Program} {w : World} {K : PySem.W.Frag} {mg : Str → Option Value} {base : Heap} {c : Cn}
theorem fnI_of {x qual x0 cn : Str} {st : Stmt} {f : Addr} {fd : FuncData} {N ps : List Str} {k : Nat} {mf : List Ar → M (List (Str × D))} (Fn : Fun K x qual st f fd) (hK : c.K = K) (hm : c.mg = mg) (S : FnScope (x0 :: N) ps (defScope st)) (len : ∀ as P ok ex, out (mf as) P ok ex → as.length + 1 = ps.length)
    (hbody : ∀ (cd : Value) (A : Around) (fr : List Env) (s : Shared) (H0 H1 G0 : Hp) (ap : Option Addr) (E : XK) (as : List Ar) (P0 : Pot) (ok : List (Str × D) → Pot → Prop) (ex : Ex → Pot → Prop), out (mf as) P0 ok ex → BodyX c (bX P w K mg base (x0 :: N) qual st f cd A fr s H0 E) k (fun cl dd _ H => E cl dd H) →
      ∃ (α : Type) (En : Addr → α → List Sl) (fsOf : α → List (Str × D)) (mb : M (Fl α)), (∀ me a, (En me a)[0]? = some (.o (.i me cn (fsOf a)))) ∧ (∀ me, PSs (bX P w K mg base (x0 :: N) qual st f cd A fr s H0 E) (defBody st) (rdS c ⟨G0, H1, ap⟩ (fun cl dd _ H => E cl dd H) (slotsI me cn as (x0 :: N).length) (En me) mb)) ∧
        mf as = mb >>= fun fl => match fl with | .nx a => Pure.pure (fsOf a) | _ => M.no) :
    FnG P w K mg base (k + 1) f fd ps (spI c cn mf) := by
  refine fn_core Fn hK hm S (fun vs H Q E ⟨a, dx, C, H1, G, ap, P0, as, ws, e1, _, _, _, _, _, _, r, q⟩ => by rw [e1, List.length_cons, ArsOk.length r]; exact len _ _ _ _ q) fun cd A fr s H vs Q E bx ⟨a, dx, C, H1, G, ap, P0, as, ws, e1, e2, hC, hx, hd, hne, p0, ra, q0⟩ => ?_
  obtain ⟨α, En, fsOf, mb, hEn, hps, em⟩ := hbody cd A fr s H H1 G ap E as P0 _ _ q0 bx
  rw [em] at q0
  subst e1
  have R0 := rel_startI (x0 := x0) (N := N) p0 ra hC hx hd hne
  rw [← e2] at R0
  refine ⟨_, hps a, P0, G, R0, out_mono (out_bind.mp q0) (fun fl P' z => ?_) fun e P' z cl dd H' G' ρ' σ' _ R' k' => z cl dd H' G' R'.post k'⟩
  cases fl with
  | nx b =>
    intro σ' H' G' _ R'
    have z : ∀ H' G' dx2 fvs, Post c ap G H1 P' G' H' → H' a = some (.ins C dx2 fvs) → fvs.map (·.1) = (fsOf b).map (·.1) → c.reps G' (fvs.map (·.2)) ((fsOf b).map (·.2)) → G' a = none → Q .non H' := z
    have hi := hEn a b
    have hl : 0 < σ'.length := by rw [R'.len]; exact (List.getElem?_eq_some_iff.mp hi).1
    obtain ⟨a', ea, ⟨o, ho, hk⟩, g, _, _⟩ := R'.sl 0 _ _ hi (List.getElem?_eq_getElem hl)
    cases o with
    | ins C' dx' fvs =>
      obtain ⟨k0, k1, k2, k3⟩ := hk
      subst k0
      rw [hC] at k1
      cases k1
      exact z H' G' dx' fvs R'.post ho k2 k3 g
    | _ => exact hk.elim
  | rt d => exact z.elim
  | bk b => exact z.elim
  | ct b => exact z.elim
end
section
variable {c : Cn} {X : Cx} {F : Fr} {W : WX} {ρ : List Sl} {k : Nat}
theorem run_makeG {f C : Addr} {fd : FuncData} {ps : List Str} {sp : Sp} {pins : List (Addr × Obj)} {s : Shared} {σ : L2.St} {H : Hp} {Q : VK} {us : List Value} {vs : List V} (M : Mk X.K C f) (ga : GA X.A) (rm : Room (k + 1) X.A) (tk : Takes X W)
    (fn : FnG X.prog X.w X.K X.mg X.base k f fd ps sp) (hb : Binds X.K fd ps []) (I : Inv X pins σ H s) (r : Vals vs us)
    (h : ∀ x dx, H x = none → H dx = none → dx ≠ x → sp (.ref x :: vs) (upd (upd H dx (.own x)) x (.ins C dx [])) (fun v H2 => v = .non ∧ Q (.ref x) H2) (WE W σ)) :
    wpAny (model X.prog X.w) X.A (call (.ref C) us) (EP X pins σ Q) X.xe s := by
  have hq := h (s.heap.objs.size + 1) s.heap.objs.size (I.hok.fresh (Nat.le_succ _)) (I.hok.fresh (Nat.le_refl _)) (Nat.ne_of_lt (Nat.lt_succ_self _))
  have J := Inv.made (C := C) I
  have r2 : Vals (V.ref (s.heap.objs.size + 1) :: vs) (Value.ref (s.heap.objs.size + 1) :: us) := .cons rfl r
  have hl : (Value.ref (s.heap.objs.size + 1) :: us).length = ps.length := r2.length.symm.trans (fn.ln _ _ _ _ hq)
  have b := hb _ (Value.ref (s.heap.objs.size + 1) :: us) J.kIn (by simpa using hl)
  rw [List.append_nil] at b
  refine wpAny_call (make_map (f := f) I.kIn M.makes M.init (beq_iff_eq.mp M.fn) (codeAny_mono (fn.go _ X.stack _ _ _ _ ⟨Value.ref (s.heap.objs.size + 1) :: us, []⟩ _ _ (by exact ga) (rm.make C us []) (J.env0.make C us []) b r2 hq) fun res s2 z => ?_))
  match res, z with
  | .error e, z => exact passAt tk σ pins _ _ e s2 J z
  | .ok (.ret u), z =>
    obtain ⟨v, H', I3, rv, ev, q3⟩ := J.after z
    subst ev
    exact ⟨rv, ⟨V.ref (s.heap.objs.size + 1), H', I3, rfl, q3⟩⟩
  | .ok .next, z => exact z.elim
  | .ok .brk, z => exact z.elim
  | .ok .cont, z => exact z.elim
theorem de_make {f : Addr} {fd : FuncData} {cn : Str} {mf : List Ar → M (List (Str × D))} {ms : M (List Ar)} {x : Str} {p pos : Pos} {e : Expr} {es : List Expr} {ps : List Str} (Cc : Ctx c X (k + 1)) (tk : Takes X W)
    (hM : AtC c cn fun C => Mk c.K C f) (fn : FnG X.prog X.w X.K X.mg X.base k f fd ps (spI c cn mf)) (hg : Gl X x) (hx : x = cn) (hb : Binds c.K fd ps [])
    (ha : PA X (e :: es) (rdA c F W ρ ms)) (hdb : (x == ("__debug__" : Str)) = false := by decide) (he : starEach (e :: es) X.env = (false, eval e X.env) :: starEach es X.env := by rfl) (hpl : (backTo pos (starEach es X.env)).any (·.1) = false := by rfl) :
    PE X (.Call (.Name x p) (e :: es) [] pos) (rdE c F W ρ (ms >>= fun as => mf as >>= fun fs => Pure.pure (.ins cn fs))) := by
  subst hx
  obtain ⟨C, hC, M0⟩ := hM
  have M : Mk X.K C f := by rw [Cc.K]; exact M0
  have hb' : Binds X.K fd ps [] := by rw [Cc.K]; exact hb
  refine ⟨fun pins s σ H Q I ⟨P, G, R, q⟩ => ?_⟩
  have hm : X.mg x = some (.ref C) := by rw [Cc.mg]; exact hC
  refine wpAny_Call_Name_kw (ld_glob I hg hm ?_ hdb)
  have step := ha.run pos pins s σ H (fun vs H1 => ∃ P1 G1 as, Ext G G1 ∧ Rel c F ρ P1 σ H1 G1 ∧ ArsOk c F G1 vs as ∧ out (mf as >>= fun fs => Pure.pure (D.ins x fs)) P1 (fun d P' => ∀ v H' G', Ext G1 G' → Rel c F ρ P' σ H' G' → c.rep G' v d → Q v H') (exW c F W P1 G1 σ)) I
    ⟨P, G, R, out_mono (out_bind.mp q) (fun as P1 q1 vs H1 G1 e1 R1 r1 => ⟨P1, G1, as, e1, R1, r1, out_mono q1 (fun d P2 q2 v H2 G2 e2 R2 r2 => q2 v H2 G2 (e1.trans e2) R2 r2) fun _ _ z => exW_le e1 z⟩) fun _ _ z => z⟩
  refine PySem.W.callWith_K (h₀ := X.base) I.ok.mod.kin M.kp (thn step fun us s1 ⟨vs, H1, I1, rv, P1, G1, as, e1, R1, r1, q1⟩ => ⟨I1.kIn, ?_⟩) he hpl
  refine run_makeG M Cc.ga Cc.rm tk fn hb' I1 rv fun a dx ha hd hne => ?_
  refine ⟨a, dx, C, H1, G1, F.ap, P1, as, vs, rfl, rfl, hC, ha, hd, hne, R1.post.refl', ArsOk.fr (F := F) (F' := ⟨G1, H1, F.ap⟩) rfl r1, out_mono (out_bind.mp q1) (fun fs P' z H' G' dx2 fvs po hat hk hr hg' => ⟨rfl, ?_⟩) fun e P' z cl dd H' G' po k' => z cl dd H' G' ρ po.ext (R1.after po) k'⟩
  have R2 := R1.after po
  obtain ⟨R3, e3⟩ := R2.freeze hat nt_ins (R1.post.h0 ha) (R1.ne_ap ha) (R1.own_at ha) hg'
  have z : ∀ v H' G', Ext G1 G' → Rel c F ρ P' σ H' G' → c.rep G' v (.ins x fs) → Q v H' := z
  refine z (.ref a) H' _ (po.ext.trans e3) R3 (.ins upd_same hC hk fun i p q h1 h2 => ?_)
  have h1' : (fvs.map (·.2))[i]? = some p.2 := by rw [List.getElem?_map, h1]; rfl
  have h2' : (fs.map (·.2))[i]? = some q.2 := by rw [List.getElem?_map, h2]; rfl
  exact (hr.2 i _ _ h1' h2').mono e3
/-- an instance of the class cn, with no field m of its own -/
def insG (cn m : Str) : D → M Unit
  | .ins n fs => if n = cn ∧ fs.lookup m = none then Pure.pure () else M.no
  | _ => M.no
theorem insG_out {cn m : Str} {d : D} {P : Pot} {ok : Unit → Pot → Prop} {ex : Ex → Pot → Prop} (h : out (insG cn m d) P ok ex) : ∃ fs, d = .ins cn fs ∧ fs.lookup m = none ∧ ok () P := by
  cases d with
  | ins n fs =>
    have h2 : out (if n = cn ∧ fs.lookup m = none then Pure.pure () else M.no) P ok ex := h
    by_cases z : n = cn ∧ fs.lookup m = none
    · rw [if_pos z] at h2
      exact ⟨fs, by rw [z.1], z.2, h2⟩
    · rw [if_neg z] at h2; exact h2.elim
  | _ => exact h.elim
structure MthC (c : Cn) (X : Cx) (k : Nat) (cn m : Str) (f : Addr) (fd : FuncData) (ps : List Str) (mf : List Ar → M D) : Prop where
  at_ : AtC c cn fun C => Cls c.K C ∧ Meth c.K C m f
  fn : FnG X.prog X.w X.K X.mg X.base k f fd ps (spD c mf)
  bi : Binds c.K fd ps []
theorem run_mth {j : Nat} {f : Addr} {fd : FuncData} {cn m : Str} {mf : List Ar → M D} {ps : List Str} {P : Pot} {σ : L2.St} {H G : Hp} {Q : VK} {pins : List (Addr × Obj)} {s : Shared} {a : Addr} {fs : List (Str × D)} {us : List Value} {vs : List V} {as : List Ar} (Cc : Ctx c X k) (hj : j ≤ k) (tk : Takes X W) (hM : MthC c X j cn m f fd ps mf)
    (I : Inv X pins σ H s) (r : Vals vs us) (R : Rel c F ρ P σ H G) (ra : c.rep G (.ref a) (.ins cn fs)) (rs : ArsOk c F G vs as)
    (q : out (mf (.v (.ins cn fs) :: as)) P (fun d P' => ∀ v H' G', Ext G G' → Rel c F ρ P' σ H' G' → c.rep G' v d → Q v H') (exW c F W P G σ)) : wpAny (model X.prog X.w) X.A (call (.ref f) (.ref a :: us)) (EP X pins σ Q) X.xe s := by
  have rr : ArsOk c F G (.ref a :: vs) (.v (.ins cn fs) :: as) := ⟨ra, rs⟩
  have rv : Vals (.ref a :: vs) (.ref a :: us) := .cons rfl r
  exact run_g Cc.ga (Cc.rm.mono hj) tk hM.fn (by rw [Cc.K]; exact hM.bi) I rv (sp_of R rr q)
theorem de_mth {j : Nat} {f : Addr} {fd : FuncData} {cn m : Str} {mf : List Ar → M D} {mo : M D} {ms : M (List Ar)} {apos pos : Pos} {o e : Expr} {es : List Expr} {ps : List Str} {pl : Sem Bool} (Cc : Ctx c X k) (hj : j ≤ k) (tk : Takes X W) (hM : MthC c X j cn m f fd ps mf)
    (ho : PE X o (rdE c F W ρ mo)) (ha : PA X (e :: es) (rdA c F W ρ ms)) (hst : starEach (e :: es) X.env = (false, eval e X.env) :: starEach es X.env := by rfl) (hpl : (backTo pos (starEach es X.env)).any (·.1) = false := by rfl)
    (ht : eval (.Call (.Attribute o m apos) (e :: es) [] pos) X.env = (do
      let v ← eval o X.env
      standAt apos.atName
      let (f, a) ← holding [v] (getMethod v m pl)
      callWith pos f a (backTo pos (starEach (e :: es) X.env)) (backToKw pos (keywordEach [] X.env))) := by rfl) :
    PE X (.Call (.Attribute o m apos) (e :: es) [] pos) (rdE c F W ρ (mo >>= fun d => insG cn m d >>= fun _ => ms >>= fun as => mf (.v d :: as))) := by
  refine ⟨fun pins s σ H Q I ⟨P, G, R, q⟩ => ?_⟩
  have so := ho.run pins s σ H (fun x H1 => ∃ P1 G1 fs, Ext G G1 ∧ Rel c F ρ P1 σ H1 G1 ∧ c.rep G1 x (.ins cn fs) ∧ fs.lookup m = none ∧ out (ms >>= fun as => mf (.v (.ins cn fs) :: as)) P1 (fun d P' => ∀ v H' G', Ext G1 G' → Rel c F ρ P' σ H' G' → c.rep G' v d → Q v H') (exW c F W P1 G1 σ)) I
    ⟨P, G, R, out_mono (out_bind.mp q) (fun d P1 q1 v H1 G1 e1 R1 r1 => by
      obtain ⟨fs, rfl, l, q2⟩ := insG_out (out_bind.mp q1)
      exact ⟨P1, G1, fs, e1, R1, r1, l, out_mono q2 (fun d P2 q2 v H2 G2 e2 R2 r2 => q2 v H2 G2 (e1.trans e2) R2 r2) fun _ _ z => exW_le e1 z⟩) fun _ _ z => z⟩
  refine PySem.W.methodCall_KW (pl := pl) (thn so fun u s1 ⟨x, H1, I1, rx, P1, G1, fs, e1, R1, r1, hl, q1⟩ => ?_) ht
  cases r1 with
  | ins hg hC hk hr =>
    rename_i a C dx fvs
    obtain rfl : u = Value.ref a := rx
    obtain ⟨c1, c2⟩ := hM.at_.get hC
    have c1' : Cls X.K C := by rw [Cc.K]; exact c1
    have c2' : Meth X.K C m f := by rw [Cc.K]; exact c2
    refine getmeth_ok I1 (R1.post.le _ _ hg) c1' c2' (lookup_no hk hl) ?_
    have sa := ha.run pos pins s1 σ H1 (fun vs H2 => ∃ P2 G2 as, Ext G1 G2 ∧ Rel c F ρ P2 σ H2 G2 ∧ ArsOk c F G2 vs as ∧ out (mf (.v (.ins cn fs) :: as)) P2 (fun d P' => ∀ v H' G', Ext G2 G' → Rel c F ρ P' σ H' G' → c.rep G' v d → Q v H') (exW c F W P2 G2 σ)) I1
      ⟨P1, G1, R1, out_mono (out_bind.mp q1) (fun as P2 q2 vs H2 G2 e2 R2 r2 => ⟨P2, G2, as, e2, R2, r2, out_mono q2 (fun d P3 q3 v H3 G3 e3 R3 r3 => q3 v H3 G3 (e2.trans e3) R3 r3) fun _ _ z => exW_le e2 z⟩) fun _ _ z => z⟩
    refine PySem.W.callWith_K (first := [.ref a]) (h₀ := X.base) I.ok.mod.kin c2'.kp (thn sa fun us s2 ⟨vs, H2, I2, r, P2, G2, as, e2, R2, r2, q2⟩ => ⟨I2.kIn, ?_⟩) hst hpl
    exact run_mth Cc hj tk hM I2 r R2 ((Rep.ins hg hC hk hr : c.rep G1 (.ref a) (.ins cn fs)).mono e2) r2 q2
structure PrpC (c : Cn) (X : Cx) (k : Nat) (cn f : Str) (g : Addr) (fd : FuncData) (ps : List Str) (mf : List Ar → M D) : Prop where
  at_ : AtC c cn fun C => Cls c.K C ∧ ∃ p, PropOf c.K C f p g
  fn : FnG X.prog X.w X.K X.mg X.base k g fd ps (spD c mf)
  bi : Binds c.K fd ps []
def insP (cn : Str) : D → M Unit
  | .ins n _ => if n = cn then Pure.pure () else M.no
  | _ => M.no
theorem insP_out {cn : Str} {d : D} {P : Pot} {ok : Unit → Pot → Prop} {ex : Ex → Pot → Prop} (h : out (insP cn d) P ok ex) : ∃ fs, d = .ins cn fs ∧ ok () P := by
  cases d with
  | ins n fs =>
    have h2 : out (if n = cn then Pure.pure () else M.no) P ok ex := h
    by_cases z : n = cn
    · rw [if_pos z] at h2
      exact ⟨fs, by rw [z], h2⟩
    · rw [if_neg z] at h2; exact h2.elim
  | _ => exact h.elim
theorem getpropG {j : Nat} {p g a dx C : Addr} {fs : List (Str × V)} {f : Str} {fd : FuncData} {ps : List Str} {sp : Sp} {σ : L2.St} {pins : List (Addr × Obj)} {H : Hp} {s : Shared} {Q : VK} {b : Bool} {E' : Value → Shared → Prop} (I : Inv X pins σ H s) (ea : H a = some (.ins C dx fs)) (cl : Cls X.K C) (hp : PropOf X.K C f p g)
    (ga : GA X.A) (rm : Room (j + 1) X.A) (fn : FnG X.prog X.w X.K X.mg X.base j g fd ps sp) (hb : Binds X.K fd ps []) (h : sp [.ref a] H Q fun _ _ _ => False) :
    wpAny (model X.prog X.w) X.A (getAttr (.ref a) f b) (EP X pins σ Q) E' s := by
  obtain ⟨mA, O, _, _, _, _⟩ := ins_get I.hok ea
  obtain ⟨od, J, _⟩ := O.look
  obtain ⟨rest, hrec⟩ := hp.rec_
  have I1 := I.tok (s.toks + 1)
  have hl : [Value.ref a].length = ps.length := fn.ln _ _ _ _ h
  have bb := hb { s with toks := s.toks + 1 } [.ref a] I1.kIn (by simpa using hl)
  rw [List.append_nil] at bb
  have hc : (PySem.W.clsIn X.K C).isSome = true := by
    obtain ⟨cd, hc, _⟩ := PySem.W.any_some cl.hd
    rw [hc]; rfl
  refine PySem.W.get_bind I.kIn J (PySem.W.plainGet_of (cl.get f)).1 (PySem.W.findObj_data hc hp.at_ hp.get hp.tak) (PySem.W.plainGet_of (cl.get f)).2 (wpAny_call (PySem.W.prop_get (s := { s with toks := s.toks + 1 }) I.kIn hrec ?_))
  refine codeAny_mono (fn.go X.A.in1 X.stack { s with toks := s.toks + 1 } H [.ref a] [.ref a] ⟨[.ref a], []⟩ Q _ (by exact ga) rm.in1 I1.env0.in1 bb (.cons rfl .nil) h) fun r s' hq => ?_
  match r, hq with
  | .error e, hq =>
    obtain ⟨_, _, _, _, _, _, _, _, _, _, _, _, z⟩ := hq
    exact z.elim
  | .ok (.ret u), hq =>
    obtain ⟨v, H', I3, rv, q3⟩ := I1.after hq
    show wpAny _ _ (handedOut u) _ _ _
    rw [PySem.W.handedOut_of (handed_of rv)]
    exact wpAny_pure ⟨v, H', I3, rv, q3⟩
  | .ok .next, hq => exact hq.elim
  | .ok .brk, hq => exact hq.elim
  | .ok .cont, hq => exact hq.elim
theorem de_prop {j : Nat} {g : Addr} {fd : FuncData} {cn f : Str} {mf : List Ar → M D} {mo : M D} {pos : Pos} {o : Expr} {ps : List Str} (Cc : Ctx c X k) (hj : j + 1 ≤ k) (hM : PrpC c X j cn f g fd ps mf) (ho : PE X o (rdE c F W ρ mo)) (hab : attributeBase o f X.env (eval o X.env) = eval o X.env := by rfl) :
    PE X (.Attribute o f pos) (rdE c F W ρ (mo >>= fun d => insP cn d >>= fun _ => noEx (mf [.v d]))) := by
  refine ⟨fun pins s σ H Q I ⟨P, G, R, q⟩ => ?_⟩
  have so := ho.run pins s σ H (fun x H1 => ∃ P1 G1 fs, Ext G G1 ∧ Rel c F ρ P1 σ H1 G1 ∧ c.rep G1 x (.ins cn fs) ∧ out (noEx (mf [.v (.ins cn fs)])) P1 (fun d P' => ∀ v H' G', Ext G1 G' → Rel c F ρ P' σ H' G' → c.rep G' v d → Q v H') (exW c F W P1 G1 σ)) I
    ⟨P, G, R, out_mono (out_bind.mp q) (fun d P1 q1 v H1 G1 e1 R1 r1 => by
      obtain ⟨fs, rfl, q2⟩ := insP_out (out_bind.mp q1)
      exact ⟨P1, G1, fs, e1, R1, r1, out_mono q2 (fun d P2 q2 v H2 G2 e2 R2 r2 => q2 v H2 G2 (e1.trans e2) R2 r2) fun _ _ z => exW_le e1 z⟩) fun _ _ z => z⟩
  refine attr_of hab (thn so fun u s1 ⟨x, H1, I1, rx, P1, G1, fs, e1, R1, r1, q1⟩ => ?_)
  cases r1 with
  | ins hg hC hk hr =>
    rename_i a C dx fvs
    obtain rfl : u = Value.ref a := rx
    obtain ⟨c1, p, c2⟩ := hM.at_.get hC
    have rr : ArsOk c F G1 [.ref a] [.v (.ins cn fs)] := ⟨.ins hg hC hk hr, True.intro⟩
    refine getpropG (p := p) (g := g) I1 (R1.post.le _ _ hg) (by rw [Cc.K]; exact c1) (by rw [Cc.K]; exact c2) Cc.ga (Cc.rm.mono hj) hM.fn (by rw [Cc.K]; exact hM.bi) ?_
    exact ⟨F.ap, G1, P1, _, R1.post.refl', ArsOk.fr (F := F) (F' := ⟨G1, H1, F.ap⟩) rfl rr, out_mono (out_noEx q1) (fun d P' z v H' G' p k => z v H' G' p.ext (R1.after p) k) fun e P' z => z.elim⟩
end
end DL
namespace DL
open PySem PySem.Spec PyProof.Rows L2
section
variable {c : Cn} {X : Cx} {F : Fr} {W : WX} {ρ : List Sl} {α β : Type}
theorem Rel.ownNew {P : Pot} {σ : L2.St} {H G : Hp} {i : Nat} {p : Addr} {vs : List V} {ds : List D} (R : Rel c F ρ P σ H G) (hp : H p = none) (r : c.reps G vs ds) : Rel c F (ρ.set i (.o (.l ds))) P (σ.set i (some (.ref p))) (upd H p (.lst vs)) G := by
  have R1 : Rel c F ρ P σ (upd H p (.lst vs)) G := R.newM hp
  have R2 := R1.un (i := i) (x := some (.ref p))
  have ow := R.own_at hp
  refine ⟨R2.post, by simpa using R2.len, fun j s x h1 h2 => ?_, fun j j' kk kk' b h1 h2 h3 h4 => ?_⟩
  · by_cases z : i = j
    · subst z
      rw [List.getElem?_set, if_pos rfl] at h1 h2
      split at h1
      · split at h2
        · cases h1; cases h2
          exact ⟨p, rfl, ⟨_, upd_same, r⟩, R.post.g_none hp, R.post.h0 hp, R.ne_ap hp⟩
        · cases h2
      · cases h1
    · rw [List.getElem?_set_ne z] at h1
      exact R2.sl j s x (by rw [List.getElem?_set_ne z]; exact h1) h2
  · by_cases z : i = j
    · by_cases z' : i = j'
      · rw [← z, ← z']
      · subst z
        rw [List.getElem?_set_ne z'] at h2 h4
        have e3 : b = p := by
          rw [List.getElem?_set, if_pos rfl] at h3
          split at h3
          · cases h3; rfl
          · cases h3
        subst e3
        exact absurd h4 (ow j' kk' h2)
    · rw [List.getElem?_set_ne z] at h1 h3
      by_cases z' : i = j'
      · subst z'
        have e4 : b = p := by
          rw [List.getElem?_set, if_pos rfl] at h4
          split at h4
          · cases h4; rfl
          · cases h4
        subst e4
        exact absurd h3 (ow j kk h1)
      · rw [List.getElem?_set_ne z'] at h2 h4
        exact R.ap j j' kk kk' b h1 h2 h3 h4
/-- x = list(..) | [..]: a list of one's own -/
theorem ds_ownCall {i : Nat} {y : Str} {py spos : Pos} {e : Expr} {te : TE} {m : M (List D)} (hN : X.N.Nodup) (hi : X.N[i]? = some y) (hx : Loc X.env.scope y) (he : PE X e te)
    (hr : ∀ σ H Q, (∃ P G, Rel c F ρ P σ H G ∧ out m P (fun ds P' => ∀ H' G' p vs, Ext G G' → Rel c F ρ P' σ H' G' → H' p = none → c.reps G' vs ds → Q (.ref p) (upd H' p (.lst vs))) (exW c F W P G σ)) → te σ H Q)
    (hs : swapsWith e (some (.Name y py)) spos.line X.env = pure false := by rfl) (hf : X.fn y = true ∨ X.env.scope.names.lookup y = some .local := by first | exact .inl rfl | exact .inr rfl | assumption) :
    PS X (.Assign [.Name y py] e spos) (rdS c F W ρ (fun ds => ρ.set i (.o (.l ds))) (m >>= fun ds => Pure.pure (.nx ds))) := by
  refine ps_by (ps_set hN hi hx he hs hf) fun B σ H ⟨P, G, R, q⟩ => ?_
  refine hr _ _ _ ⟨P, G, R, out_mono (out_bind.mp q) (fun ds P1 q1 H1 G1 p vs e1 R1 hp rs => ?_) fun _ _ z => exS.w z⟩
  have q2 : ∀ σ' H' G', Ext G G' → Rel c F (ρ.set i (.o (.l ds))) P1 σ' H' G' → B.nx σ' H' := q1
  exact q2 _ _ G1 e1 (R1.ownNew hp rs)
def itemsD : D → M (List D)
  | .lst xs => Pure.pure xs
  | .tup xs => Pure.pure xs
  | .scr ns => Pure.pure (ns.map .int)
  | _ => M.no
/-- x = list(e) -/
theorem ds_ownList {i : Nat} {y x : Str} {py spos p pos : Pos} {a : Expr} {ma : M D} (hK : X.K = c.K) (hN : X.N.Nodup) (hi : X.N[i]? = some y) (hx : Loc X.env.scope y) (hg : Gl X x) (hm : X.mg x = none) (hv : bootBuiltins x = some (.type "list")) (ha : PE X a (rdE c F W ρ ma))
    (hn : x ≠ "__name__" := by decide) (hdb : (x == ("__debug__" : Str)) = false := by decide) (he1 : starEach [a] X.env = [(false, eval a X.env)] := by rfl)
    (hs : swapsWith (.Call (.Name x p) [a] [] pos) (some (.Name y py)) spos.line X.env = pure false := by rfl) (hf : X.fn y = true ∨ X.env.scope.names.lookup y = some .local := by first | exact .inl rfl | exact .inr rfl | assumption) :
    PS X (.Assign [.Name y py] (.Call (.Name x p) [a] [] pos) spos) (rdS c F W ρ (fun ds => ρ.set i (.o (.l ds))) ((ma >>= itemsD) >>= fun ds => Pure.pure (.nx ds))) := by
  refine ds_ownCall hN hi hx (pe_callTy call_list_of hg hm hv (pa_cons ha pa_nil he1) hn hdb he1 rfl) (fun σ H Q ⟨P, G, R, q⟩ => ?_) hs hf
  refine ⟨P, G, R, out_mono (out_bind.mp q) (fun d P1 q1 v H1 G1 e1 R1 r1 => ?_) fun _ _ z => z⟩
  rw [hK]
  cases d with
  | lst xs => cases r1 with | lst h hl hr => exact ⟨_, _, rfl, .inl (SqL.of (R1.post.le _ _ h)), fun l hn => q1 H1 G1 l _ e1 R1 hn ⟨hl, hr⟩⟩
  | tup xs => cases r1 with | tup h hl hr => exact ⟨_, _, rfl, .inr (Evl.ex_t R1.post.le h), fun l hn => q1 H1 G1 l _ e1 R1 hn ⟨hl, hr⟩⟩
  | scr xs => cases r1 with | scr h => exact ⟨_, _, rfl, .inl (Evl.ex_l R1.post.le h), fun l hn => q1 H1 G1 l _ e1 R1 hn (reps_ints xs)⟩
  | _ => exact q1.elim
/-- x = [e, ..] -/
theorem ds_ownLst {i : Nat} {y : Str} {py spos pos : Pos} {es : List Expr} {ms : M (List Ar)} (hN : X.N.Nodup) (hi : X.N[i]? = some y) (hx : Loc X.env.scope y) (ha : PA X es (rdA c F W ρ ms))
    (hs : swapsWith (.List es pos) (some (.Name y py)) spos.line X.env = pure false := by rfl) (hf : X.fn y = true ∨ X.env.scope.names.lookup y = some .local := by first | exact .inl rfl | exact .inr rfl | assumption) :
    PS X (.Assign [.Name y py] (.List es pos) spos) (rdS c F W ρ (fun ds => ρ.set i (.o (.l ds))) ((ms >>= fun as => DL.vals as >>= mkN) >>= fun ds => Pure.pure (.nx ds))) := by
  refine ds_ownCall hN hi hx (pe_lst ha) (fun σ H Q ⟨P, G, R, q⟩ => ?_) hs hf
  refine ⟨P, G, R, out_mono (out_bind.mp q) (fun as P1 q1 vs H1 G1 e1 R1 r1 => ?_) fun _ _ z => z⟩
  obtain ⟨ds, rs, q2⟩ := ArsOk.reps r1 (out_bind.mp q1)
  unfold mkN at q2
  by_cases z : ds.length ≤ sizeLine
  · rw [if_pos z] at q2
    refine ⟨by rw [rs.1]; exact z, fun p hp => ?_⟩
    exact (show ∀ H' G' p vs, Ext G G' → Rel c F ρ P1 σ H' G' → H' p = none → c.reps G' vs ds → Q (.ref p) (upd H' p (.lst vs)) from q2) H1 G1 p vs e1 R1 hp rs
  · rw [if_neg z] at q2; exact q2.elim
/-- len(x), x a list of one's own -/
theorem de_lenO {i : Nat} {ds : List D} {x y : Str} {p p2 pos : Pos} (hK : X.K = c.K) (hi : ρ[i]? = some (.o (.l ds))) (hx : PE X (.Name x p2) (tVar i)) (hg : Gl X y) (hm : X.mg y = none) (hv : bootBuiltins y = some (.builtin "len"))
    (hn : y ≠ "__name__" := by decide) (hdb : (y == ("__debug__" : Str)) = false := by decide) (he1 : starEach [.Name x p2] X.env = [(false, eval (.Name x p2) X.env)] := by rfl) :
    PE X (.Call (.Name y p) [.Name x p2] [] pos) (rdE c F W ρ (Pure.pure (.int (ds.length : Nat)))) := by
  refine pe_by (pe_callB call_len hg hm hv (pa_cons hx pa_nil he1) hn hdb he1 rfl) fun σ H Q ⟨P, G, R, q⟩ => ?_
  have hl : i < σ.length := by rw [R.len]; exact (List.getElem?_eq_some_iff.mp hi).1
  obtain ⟨a, ea, ⟨o, ho, hk⟩, g, h, n⟩ := R.sl i _ _ hi (List.getElem?_eq_getElem hl)
  cases o with
  | lst vs =>
    have hk : c.reps G vs ds := hk
    refine ⟨.ref a, by rw [List.getElem?_eq_getElem hl, ea], ?_⟩
    refine ⟨.ref a, vs.length, rfl, .inl ⟨vs, SqL.of ho, rfl⟩, ?_⟩
    have q2 : ∀ v H' G', Ext G G' → Rel c F ρ P σ H' G' → c.rep G' v (.int (ds.length : Nat)) → Q v H' := q
    rw [hk.1]
    exact q2 _ H G (Ext.refl _) R (.int _)
  | _ => exact hk.elim
/-- x.append(e) -/
theorem ds_append {i : Nat} {ds : List D} {x : Str} {p apos cpos pos : Pos} {e : Expr} {me : M D} (hi : ρ[i]? = some (.o (.l ds))) (hK : X.K = c.K) (hx : PE X (.Name x p) (tVar i)) (he : PE X e (rdE c F W ρ me))
    (hbase : attributeBase (.Name x p) "append" X.env (eval (.Name x p) X.env) = eval (.Name x p) X.env := by rfl)
    (hfew : ((backTo cpos (starEach [e] X.env)).all (fun x => !x.1) && (backToKw cpos (keywordEach [] X.env)).all (fun x => x.1.isSome) && decide ([e].length + ([] : List Keyword).length + (if ([] : List Keyword).isEmpty then 0 else 1) < 30)) = true := by rfl)
    (hline : (apos.endLine == cpos.line) = true := by rfl) (hs1 : starEach [e] X.env = [(false, eval e X.env)] := by rfl) (hs : swapsWith (.Call (.Attribute (.Name x p) "append" apos) [e] [] cpos) none pos.line X.env = pure false := by rfl) :
    PS X (.Expr (.Call (.Attribute (.Name x p) "append" apos) [e] [] cpos) pos) (rdS c F W ρ (fun d => ρ.set i (.o (.l (ds ++ [d])))) (me >>= fun d => if ds.length < sizeLine then Pure.pure (.nx d) else M.no)) := by
  refine ps_by (ps_expr (pe_bm PySem.F.plainAttrs_list PySem.F.slot_list_append PySem.F.type_list_append mt_append hx (pa_cons he pa_nil hs1) hbase hfew hline hs1 rfl) hs) fun B σ H ⟨P, G, R, q⟩ => ?_
  have hl : i < σ.length := by rw [R.len]; exact (List.getElem?_eq_some_iff.mp hi).1
  obtain ⟨a, ea, ⟨o, ho, hk⟩, g, h, n⟩ := R.sl i _ _ hi (List.getElem?_eq_getElem hl)
  cases o with
  | lst vs =>
    refine ⟨.ref a, by rw [List.getElem?_eq_getElem hl, ea], .inl ⟨rfl, vs, SqL.of ho⟩, P, G, R, out_mono (out_bind.mp q) (fun d P1 q1 v H1 G1 e1 R1 r1 => ?_) fun _ _ z => exS.w z⟩
    obtain ⟨a', ea', ⟨o', ho', hk'⟩, g', h', n'⟩ := R1.sl i _ _ hi (List.getElem?_eq_getElem hl)
    rw [ea] at ea'
    cases ea'
    have hat : σ[i]? = some (some (V.ref a)) := by rw [List.getElem?_eq_getElem hl, ea]
    cases o' with
    | lst vs' =>
      have hk' : c.reps G1 vs' ds := hk'
      by_cases z : ds.length < sizeLine
      · rw [if_pos z] at q1
        have q2 : ∀ σ' H' G', Ext G G' → Rel c F (ρ.set i (.o (.l (ds ++ [d])))) P1 σ' H' G' → B.nx σ' H' := q1
        exact ⟨a, vs', v, rfl, rfl, ho', by rw [hk'.1]; exact z, q2 σ _ G1 e1 (R1.upd_own hi hat (show CelOk c G1 a (.lst (vs' ++ [v])) (.l (ds ++ [d])) from hk'.append (Reps.cons r1 Reps.nil)))⟩
      · rw [if_neg z] at q1; exact q1.elim
    | _ => exact hk'.elim
  | _ => exact hk.elim
/-- a list of one's own is let go: from here on a value -/
theorem Rel.letgo {P : Pot} {σ : L2.St} {H G : Hp} {i : Nat} {ds : List D} (R : Rel c F ρ P σ H G) (hi : ρ[i]? = some (.o (.l ds))) : ∃ G', Ext G G' ∧ Rel c F (ρ.set i (.v (.lst ds))) P σ H G' := by
  have hlt : i < ρ.length := (List.getElem?_eq_some_iff.mp hi).1
  have hl : i < σ.length := by rw [R.len]; exact hlt
  obtain ⟨a, ea, ⟨o, ho, hk⟩, g, h, n⟩ := R.sl i _ _ hi (List.getElem?_eq_getElem hl)
  have hat : σ[i]? = some (some (V.ref a)) := by rw [List.getElem?_eq_getElem hl, ea]
  cases o with
  | lst vs =>
    have hk : c.reps G vs ds := hk
    have eσ : σ.set i (some (.ref a)) = σ := by
      apply List.ext_getElem?
      intro j
      rw [List.getElem?_set]
      by_cases z : i = j
      · subst z
        rw [if_pos rfl, if_pos hl]; exact hat.symm
      · rw [if_neg z]
    have R0 := R.un (i := i) (x := some (.ref a))
    rw [eσ] at R0
    obtain ⟨R1, e1⟩ := R0.freeze ho nt_lst h n (fun j kk hj hs => by
      by_cases z : i = j
      · subst z; rw [List.getElem?_set] at hj; simp at hj
      · rw [List.getElem?_set_ne z] at hj
        exact z (R.ap i j _ kk a hi hj hat hs)) g
    refine ⟨_, e1, ?_⟩
    have R2 := R1.set (i := i) (v := .ref a) (d := .lst ds) (.lst upd_same hk.1 fun i v d a b => (hk.2 i v d a b).mono e1)
    rw [List.set_set, eσ] at R2
    exact R2
  | _ => exact hk.elim
theorem ds_letgo {ss : List Stmt} {E : α → List Sl} {i : Nat} {ds : List D} {m : M (Fl α)} (hi : ρ[i]? = some (.o (.l ds))) (h : PSs X ss (rdS c F W (ρ.set i (.v (.lst ds))) E m)) : PSs X ss (rdS c F W ρ E m) :=
  pss_by h fun B σ H ⟨P, G, R, q⟩ => by
    obtain ⟨G', e, R'⟩ := R.letgo hi
    refine ⟨P, G', R', out_mono q (fun f P' z => ?_) fun x p z => exS_le e z⟩
    cases f with
    | nx a => exact fun σ' H' G2 e2 R2 => z σ' H' G2 (e.trans e2) R2
    | bk a => exact fun σ' H' G2 e2 R2 => z σ' H' G2 (e.trans e2) R2
    | ct a => exact fun σ' H' G2 e2 R2 => z σ' H' G2 (e.trans e2) R2
    | rt d => exact fun v H' G2 ρ' σ' e2 R2 k => z v H' G2 ρ' σ' (e.trans e2) R2 k
end
end DL
namespace DL
open PySem PySem.Spec PyProof.Rows L2
def gone (H : Hp) (a : Addr) : Hp := fun b => if b = a then none else H b
theorem gone_ne {H : Hp} {a b : Addr} (h : b ≠ a) : gone H a b = H b := if_neg h
theorem gone_at {H : Hp} {a : Addr} : gone H a a = none := if_pos rfl
section
variable {c : Cn} {X : Cx} {F : Fr} {W : WX} {ρ : List Sl} {α β : Type}
theorem Rel.afterO {P P' : Pot} {σ : L2.St} {H G H' G' : Hp} {i : Nat} {a : Addr} {ws ws' : List D} {vs' : List V} (R : Rel c F ρ P σ H G) (hi : ρ[i]? = some (.o (.l ws))) (ha : σ[i]? = some (some (.ref a))) (q : Post c F.ap G (gone H a) P' G' H') (h1 : H' a = some (.lst vs')) (h2 : c.reps G' vs' ws') (h3 : G' a = none) :
    Rel c F (ρ.set i (.o (.l ws'))) P' σ H' G' := by
  have hlt : i < ρ.length := (List.getElem?_eq_some_iff.mp hi).1
  obtain ⟨a', e, ⟨u, hu, hk0⟩, g, h, n⟩ := R.sl i _ _ hi ha
  cases e
  have p := R.post
  have post : Post c F.ap F.G0 F.H0 P' G' H' := by
    refine ⟨p.ext.trans q.ext, q.le, fun b o hb hn ht => ?_, fun b hb => ?_, q.pot, q.tab, q.nt⟩
    · exact q.fr b o (by rw [gone_ne (fun z => by rw [z] at hb; exact h.no hb ht)]; exact p.fr b o hb hn ht) hn ht
    · rcases q.new b hb with z | z | z
      · rcases p.new b z with y | y | ⟨vs, y⟩
        · exact .inl y
        · exact .inr (.inl y)
        · exact .inr (.inr ⟨vs, q.ext _ _ y⟩)
      · by_cases y : b = a
        · subst y; exact absurd h3 hb
        · exact .inr (.inl (p.fre fun o e => z o (by rw [gone_ne y]; exact e)))
      · exact .inr (.inr z)
  refine ⟨post, by simpa using R.len, fun j s x k1 k2 => ?_, fun j j' kk kk' b k1 k2 k3 k4 => ?_⟩
  · by_cases z : i = j
    · subst z
      rw [List.getElem?_set, if_pos rfl, if_pos hlt] at k1
      cases k1
      rw [ha] at k2; cases k2
      exact ⟨a, rfl, ⟨_, h1, h2⟩, h3, h, n⟩
    · rw [List.getElem?_set_ne z] at k1
      have y := R.sl j s x k1 k2
      cases s with
      | un => exact True.intro
      | v d => obtain ⟨v, e, r⟩ := y; exact ⟨v, e, r.mono q.ext⟩
      | p => exact y
      | o k =>
        obtain ⟨ad, e, ⟨o, ho, hk⟩, g', h', n'⟩ := y
        subst e
        have ne : ad ≠ a := fun w => z (R.ap i j _ k a hi k1 ha (by rw [k2, w]))
        have nt : noTbl o := by
          intro ps e2; subst e2
          cases k <;> exact hk
        refine ⟨ad, rfl, ⟨o, q.fr ad o (by rw [gone_ne ne]; exact ho) n' nt, ?_⟩, ?_, h', n'⟩
        · have mono : ∀ {vs ds}, c.reps G vs ds → c.reps G' vs ds := fun h => h.mono q.ext
          cases o <;> cases k <;> first | exact hk.elim | exact mono hk | exact ⟨hk.1, mono hk.2⟩ | exact ⟨hk.1, hk.2.1, hk.2.2.1, mono hk.2.2.2⟩
        · cases w : G' ad with
          | none => rfl
          | some u =>
            rcases q.new ad (by rw [w]; simp) with y | y | ⟨vs, y⟩
            · exact absurd g' y
            · exact (y.no (show gone H a ad = some o by rw [gone_ne ne]; exact ho) nt).elim
            · have z := q.le _ _ y
              rw [q.fr ad o (by rw [gone_ne ne]; exact ho) n' nt] at z
              cases z
              exact hk.elim
  · have back : ∀ {m : Nat} {kk : Cel}, (ρ.set i (.o (.l ws')))[m]? = some (.o kk) → ∃ k2, ρ[m]? = some (.o k2) := fun {m kk} h => by
      by_cases z : i = m
      · subst z; exact ⟨_, hi⟩
      · rw [List.getElem?_set_ne z] at h; exact ⟨kk, h⟩
    obtain ⟨k1', b1⟩ := back k1
    obtain ⟨k2', b2⟩ := back k2
    exact R.ap j j' k1' k2' b b1 b2 k3 k4
/-- as an entry of its own, one list of one's own kept -/
theorem Rel.subO {P : Pot} {σ : L2.St} {H G : Hp} {i : Nat} {a : Addr} {ws : List D} (R : Rel c F ρ P σ H G) (hi : ρ[i]? = some (.o (.l ws))) (ha : σ[i]? = some (some (.ref a))) : Rel c ⟨G, gone H a, F.ap⟩ ((ρ.map unO).set i (.o (.l ws))) P σ H G := by
  have hlt : i < ρ.length := (List.getElem?_eq_some_iff.mp hi).1
  obtain ⟨a', e, ⟨u, hu, hk0⟩, g, h, n⟩ := R.sl i _ _ hi ha
  cases e
  have S := R.sub
  have no : ∀ (i : Nat) k, (ρ.map unO)[i]? ≠ some (.o k) := fun i k e => by
    rw [List.getElem?_map] at e
    cases h : ρ[i]? with
    | none => rw [h] at e; cases e
    | some s => rw [h] at e; cases s <;> cases e
  have p := R.post.refl'
  refine ⟨⟨p.ext, p.le, fun b o hb hn ht => ?_, (fun b hb => .inl hb), p.pot, p.tab, p.nt⟩, by simpa using R.len, fun j s x k1 k2 => ?_, fun j j' kk kk' b k1 k2 _ _ => ?_⟩
  · have hb : gone H a b = some o := hb
    by_cases z : b = a
    · subst z; rw [gone_at] at hb; cases hb
    · rw [gone_ne z] at hb; exact hb
  · by_cases z : i = j
    · subst z
      rw [List.getElem?_set, if_pos rfl, if_pos (by simpa using hlt)] at k1
      cases k1
      rw [ha] at k2; cases k2
      exact ⟨a, rfl, ⟨u, hu, hk0⟩, g, .of gone_at, n⟩
    · rw [List.getElem?_set_ne z] at k1
      have y := S.sl j s x k1 k2
      cases s with
      | un => exact True.intro
      | v d => exact y
      | p => exact y
      | o k => exact absurd k1 (no j k)
  · have at' : ∀ {m : Nat} {kk : Cel}, ((ρ.map unO).set i (.o (.l ws)))[m]? = some (.o kk) → m = i := fun {m kk} h => by
      by_cases z : i = m
      · exact z.symm
      · rw [List.getElem?_set_ne z] at h; exact absurd h (no m kk)
    rw [at' k1, at' k2]
/-- an expression that changes the list of one's own in slot i -/
def rdEO (c : Cn) (F : Fr) (W : WX) (ρ : List Sl) (i : Nat) (m : M (D × List D)) : TE := fun σ H Q => ∃ P G, Rel c F ρ P σ H G ∧ out m P (fun r P' => ∀ v H' G', Ext G G' → Rel c F (ρ.set i (.o (.l r.2))) P' σ H' G' → c.rep G' v r.1 → Q v H') (exW c F W P G σ)
def popD (ds : List D) : D → M (D × List D)
  | .int k => if -(2 ^ 63) ≤ k ∧ k < 2 ^ 63 then M.some ((seqIndex? k ds.length).bind fun j => (ds[j]?).map fun d => (d, ds.eraseIdx j)) else M.no
  | _ => M.no
theorem Reps.erase {G : Hp} {vs : List V} {ds : List D} (h : c.reps G vs ds) (j : Nat) : c.reps G (vs.eraseIdx j) (ds.eraseIdx j) := by
  refine ⟨by rw [List.length_eraseIdx, List.length_eraseIdx, h.1], fun i v d a b => ?_⟩
  rw [List.getElem?_eraseIdx] at a b
  by_cases z : i < j
  · rw [if_pos z] at a b; exact h.2 _ v d a b
  · rw [if_neg z] at a b; exact h.2 _ v d a b
/-- x.pop(e), x a list of one's own -/
theorem de_popO {i : Nat} {ds : List D} {x : Str} {p apos cpos : Pos} {e : Expr} {me : M D} (hi : ρ[i]? = some (.o (.l ds))) (hx : PE X (.Name x p) (tVar i)) (he : PE X e (rdE c F W ρ me))
    (hbase : attributeBase (.Name x p) "pop" X.env (eval (.Name x p) X.env) = eval (.Name x p) X.env := by rfl)
    (hfew : ((backTo cpos (starEach [e] X.env)).all (fun x => !x.1) && (backToKw cpos (keywordEach [] X.env)).all (fun x => x.1.isSome) && decide ([e].length + ([] : List Keyword).length + (if ([] : List Keyword).isEmpty then 0 else 1) < 30)) = true := by rfl)
    (hline : (apos.endLine == cpos.line) = true := by rfl) (hs1 : starEach [e] X.env = [(false, eval e X.env)] := by rfl) :
    PE X (.Call (.Attribute (.Name x p) "pop" apos) [e] [] cpos) (rdEO c F W ρ i (me >>= popD ds)) := by
  refine pe_by (pe_bm PySem.F.plainAttrs_list PySem.F.slot_list_pop PySem.F.type_list_pop mt_popAt hx (pa_cons he pa_nil hs1) hbase hfew hline hs1 rfl) fun σ H Q ⟨P, G, R, q⟩ => ?_
  have hl : i < σ.length := by rw [R.len]; exact (List.getElem?_eq_some_iff.mp hi).1
  obtain ⟨a, ea, ⟨o, ho, hk⟩, g, h, n⟩ := R.sl i _ _ hi (List.getElem?_eq_getElem hl)
  cases o with
  | lst vs =>
    refine ⟨.ref a, by rw [List.getElem?_eq_getElem hl, ea], .inl ⟨rfl, vs, SqL.of ho⟩, P, G, R, out_mono (out_bind.mp q) (fun d P1 q1 v H1 G1 e1 R1 r1 => ?_) fun _ _ z => z⟩
    obtain ⟨a', ea', ⟨o', ho', hk'⟩, g', h', n'⟩ := R1.sl i _ _ hi (List.getElem?_eq_getElem hl)
    rw [ea] at ea'
    cases ea'
    have hat : σ[i]? = some (some (V.ref a)) := by rw [List.getElem?_eq_getElem hl, ea]
    cases o' with
    | lst vs' =>
      have hk' : c.reps G1 vs' ds := hk'
      cases d with
      | int k =>
        have q2 : out (if -(2 ^ 63) ≤ k ∧ k < 2 ^ 63 then M.some ((seqIndex? k ds.length).bind fun j => (ds[j]?).map fun d => (d, ds.eraseIdx j)) else M.no) P1 _ _ := q1
        by_cases z : -(2 ^ 63) ≤ k ∧ k < 2 ^ 63
        · rw [if_pos z] at q2
          obtain ⟨r, hr, q3⟩ := out_some.mp q2
          rw [Option.bind_eq_some_iff] at hr
          obtain ⟨j, hj, hr⟩ := hr
          rw [Option.map_eq_some_iff] at hr
          obtain ⟨d, hd, rfl⟩ := hr
          obtain ⟨y, hy, ry⟩ := hk'.get hd
          have q4 : ∀ v H' G', Ext G G' → Rel c F (ρ.set i (.o (.l (ds.eraseIdx j)))) P1 σ H' G' → c.rep G' v d → Q v H' := q3
          refine ⟨a, vs', k, j, y, rfl, by rw [r1.int_of], ho', z.1, z.2, by rw [hk'.1]; exact hj, hy, q4 y _ G1 e1 (R1.upd_own hi hat (show CelOk c G1 a (.lst (vs'.eraseIdx j)) (.l (ds.eraseIdx j)) from Reps.erase hk' j)) ry⟩
        · rw [if_neg z] at q2; exact q2.elim
      | _ => exact q1.elim
    | _ => exact hk'.elim
  | _ => exact hk.elim
def compO (me : List D → D → M (D × List D)) : List D → List D → M (List D)
  | _, [] => Pure.pure []
  | ws, d :: ds => noEx (me ws d) >>= fun r => noEx (compO me r.2 ds) >>= fun ys => Pure.pure (r.1 :: ys)
theorem wipe_get {σ : L2.St} {i : Nat} : ∀ {vs : List Nat}, i ∉ vs → (wipe σ vs)[i]? = σ[i]?
  | [], _ => rfl
  | v :: vs, h => by
    show ((wipe σ vs).set v none)[i]? = _
    rw [List.getElem?_set_ne (fun e => h (by rw [e]; exact List.mem_cons_self)), wipe_get fun m => h (List.mem_cons_of_mem _ m)]
theorem wipeS_get {ρ : List Sl} {i : Nat} : ∀ {vs : List Nat}, i ∉ vs → (wipeS ρ vs)[i]? = ρ[i]?
  | [], _ => rfl
  | v :: vs, h => by
    show ((wipeS ρ vs).set v .un)[i]? = _
    rw [List.getElem?_set_ne (fun e => h (by rw [e]; exact List.mem_cons_self)), wipeS_get fun m => h (List.mem_cons_of_mem _ m)]
/-- the reading of such an element -/
abbrev rdEltO (c : Cn) (i : Nat) (t : List D → D → Option (List Sl)) (me : List D → D → M (D × List D)) : TE := fun σ H Q => ∃ F ws d ρ', t ws d = some ρ' ∧ rdEO c F W0 ρ' i (me ws d) σ H Q
theorem pe_eltO {X : Cx} {e : Expr} {i : Nat} {t : List D → D → Option (List Sl)} {me : List D → D → M (D × List D)} (h : ∀ F ws d ρ', t ws d = some ρ' → PE X e (rdEO c F W0 ρ' i (me ws d))) : PE X e (rdEltO c i t me) := ⟨fun pins s σ H Q I ⟨F, ws, d, ρ', e, q⟩ => (h F ws d ρ' e).run pins s σ H Q I q⟩
/-- what such a comprehension leaves: the list, whatever is left of the one of one's own -/
def rdLO (c : Cn) (F : Fr) (W : WX) (ρ : List Sl) (i : Nat) (m : M D) : TE := fun σ H Q => ∃ P G, Rel c F ρ P σ H G ∧ out m P (fun d P' => ∀ ws' v H' G', Ext G G' → Rel c F (ρ.set i (.o (.l ws'))) P' σ H' G' → c.rep G' v d → Q v H') (exW c F W P G σ)
theorem lc_rdO {wi : TI} {g : TG} {vs : List Nat} {i : Nat} {ws0 : List D} {mi : M (List D)} {t : List Sl → D → Option (List Sl)} {me : List D → D → M (D × List D)} (hi : ρ[i]? = some (.o (.l ws0))) (hv : i ∉ vs) (hw : ∀ σ H R, rdI c F W ρ mi σ H R → wi σ H R) (tg : Tgt c g t vs)
    (hno : ∀ ρ d ws, t ρ d = none → me ws d = M.no) (hkp : ∀ ρ d ρ', t ρ d = some ρ' → ρ'[i]? = ρ[i]?) {σ : L2.St} {H : Hp} {Q : VK} (q : rdLO c F W ρ i (mi >>= fun ds => noEx (compO me ws0 ds) >>= mkL) σ H Q) :
    tLc wi g tYes (rdEltO c i (fun ws d => t (wipeS ((ρ.map unO).set i (.o (.l ws))) vs) d) me) vs σ H Q := by
  have hlt : i < ρ.length := (List.getElem?_eq_some_iff.mp hi).1
  have ρ0 : ρ.set i (.o (.l ws0)) = ρ := by
    apply List.ext_getElem?
    intro j
    rw [List.getElem?_set]
    by_cases z : i = j
    · subst z; rw [if_pos rfl, if_pos hlt]; exact hi.symm
    · rw [if_neg z]
  obtain ⟨P, G, R, q⟩ := q
  refine hw _ _ _ ⟨P, G, R, out_mono (out_bind.mp q) (fun ds P1 q1 J H1 G1 e1 R1 go D hD => ?_) fun _ _ z => z⟩
  have ow := R1.own_at hD
  have h0 := R1.post.h0 hD
  have na := R1.ne_ap hD
  have hlσ : i < σ.length := by rw [R1.len]; exact hlt
  obtain ⟨a, ea, _⟩ := R1.sl i _ _ hi (List.getElem?_eq_getElem hlσ)
  have hat : σ[i]? = some (some (V.ref a)) := by rw [List.getElem?_eq_getElem hlσ, ea]
  have Da : D ≠ a := fun z => ow i _ hi (by rw [hat, z])
  refine ⟨fun k m Hx => m = ds.length - k ∧ k ≤ ds.length ∧ ∃ (ws : List DL.D) (acc : List V) (ad : List DL.D) (P' : Pot) (G' : Hp), Ext G1 G' ∧ Rel c F (ρ.set i (.o (.l ws))) P' σ Hx G' ∧ Hx D = some (.lst acc) ∧ G' D = none ∧ c.reps G' acc ad ∧
    out (noEx (compO me ws (ds.drop k)) >>= fun ys => mkL (ad ++ ys)) P' (fun d P' => ∀ ws' v H' G'', Ext G' G'' → Rel c F (ρ.set i (.o (.l ws'))) P' σ H' G'' → c.rep G'' v d → Q v H') (exW c F W P' G' σ),
    ⟨ds.length, by simp, Nat.zero_le _, ws0, [], [], P1, G1, Ext.refl _, by rw [ρ0]; exact R1.newM hD, upd_same, R1.post.g_none hD, Reps.nil, out_mono q1 (fun d p z ws' v H' G'' e => z ws' v H' G'' (e1.trans e)) fun _ _ z => exW_le e1 z⟩, ?_⟩
  rintro k m Hx ⟨rfl, hk, ws, acc, ad, P2, G2, e2, R2, hx, gx, ra, q2⟩
  have hiS : (ρ.set i (Sl.o (.l ws)))[i]? = some (.o (.l ws)) := by rw [List.getElem?_set, if_pos rfl, if_pos hlt]
  have eS : ((ρ.set i (Sl.o (.l ws))).map unO).set i (Sl.o (.l ws)) = (ρ.map unO).set i (Sl.o (.l ws)) := by
    apply List.ext_getElem?
    intro j
    by_cases z : i = j
    · subst z; simp
    · rw [List.getElem?_set_ne z, List.getElem?_set_ne z, List.getElem?_map, List.getElem?_map, List.getElem?_set_ne z]
  have S2 := R2.subO hiS hat
  rw [eS] at S2
  by_cases hl : k < ds.length
  · have hd : ds[k]? = some ds[k] := List.getElem?_eq_getElem hl
    obtain ⟨g1, g2⟩ := (go _ _ k P2 σ Hx G2 e2 S2).2 _ hd
    rw [List.drop_eq_getElem_cons hl] at q2
    obtain ⟨ys, p, hy, q3⟩ := out_noEx_bind q2
    refine .inr ⟨g1, fun H' => ∃ (ws : List DL.D) (acc : List V) (ad : List DL.D) (P' : Pot) (G' : Hp), Ext G1 G' ∧ Rel c F (ρ.set i (.o (.l ws))) P' σ H' G' ∧ H' D = some (.lst acc) ∧ G' D = none ∧ c.reps G' acc ad ∧
      out (noEx (compO me ws (ds.drop (k + 1))) >>= fun ys => mkL (ad ++ ys)) P' (fun d P' => ∀ ws' v H' G'', Ext G' G'' → Rel c F (ρ.set i (.o (.l ws'))) P' σ H' G'' → c.rep G'' v d → Q v H') (exW c F W P' G' σ), fun H' z => ⟨ds.length - (k + 1), by omega, rfl, hl, z⟩, fun x H3 y => ?_⟩
    obtain ⟨G3, e3, R3, r3⟩ := g2 x H3 y
    have hy' : (noEx (me ws ds[k]) >>= fun r => noEx (compO me r.2 (ds.drop (k + 1))) >>= fun ys => Pure.pure (r.1 :: ys)) P2 = .ok ys p := hy
    have o1 : out (noEx (me ws ds[k]) >>= fun r => noEx (compO me r.2 (ds.drop (k + 1))) >>= fun ys => Pure.pure (r.1 :: ys)) P2 (fun z zp => z = ys ∧ zp = p) (fun _ _ => False) := (out_eq hy').mpr ⟨rfl, rfl⟩
    obtain ⟨r, P4, hyd, o4⟩ := out_noEx_bind o1
    obtain ⟨ys', p', hys, o5⟩ := out_noEx_bind o4
    have o5' : r.1 :: ys' = ys ∧ p' = p := o5
    obtain ⟨e6, e7⟩ := o5'
    subst e6 e7
    cases ht : t (wipeS ((ρ.map unO).set i (.o (.l ws))) vs) ds[k] with
    | none =>
      rw [hno _ _ ws ht] at hyd
      cases hyd
    | some ρ' =>
      refine tg _ _ ρ' P2 _ H3 G3 x ds[k] _ (R3.wipe vs) r3 ht fun σ4 R4 w4 => ⟨w4.trans (wipe_idem vs), ?_⟩
      have hρ' : ρ'[i]? = some (.o (.l ws)) := by
        rw [hkp _ _ _ ht, wipeS_get hv, List.getElem?_set, if_pos rfl, if_pos (by simpa using hlt)]
      have h4 : σ4[i]? = some (some (V.ref a)) := by
        have z : (wipe σ4 vs)[i]? = (wipe σ vs)[i]? := by rw [w4.trans (wipe_idem vs)]
        rw [wipe_get hv, wipe_get hv] at z
        rw [z, hat]
      refine ⟨_, ws, ds[k], ρ', ht, P2, G3, R4, (out_eq hyd).mpr fun v H6 G6 e6 R6 r6 => ?_⟩
      have hlρ : i < ρ'.length := (List.getElem?_eq_some_iff.mp hρ').1
      obtain ⟨a', ea', ⟨u, hu, hk6⟩, g6a, _, _⟩ := R6.sl i _ _ (by rw [List.getElem?_set, if_pos rfl, if_pos hlρ]) h4
      cases ea'
      cases u with
      | lst vs6 =>
        have hk6 : c.reps G6 vs6 r.2 := hk6
        have A6 := R2.afterO hiS hat R6.post hu hk6 g6a
        rw [List.set_set] at A6
        have e26 : Ext G2 G6 := R6.post.ext
        have hx6 : H6 D = some (.lst acc) := R6.post.fr D _ (by show gone Hx a D = _; rw [gone_ne Da]; exact hx) na nt_lst
        have g6 : G6 D = none := by
          cases z : G6 D with
          | none => rfl
          | some u =>
            rcases R6.post.new D (by rw [z]; simp) with h | h | ⟨_, h⟩
            · exact absurd gx h
            · exact (Fre.no (H := gone Hx a) h (show gone Hx a D = some (.lst acc) by rw [gone_ne Da]; exact hx) nt_lst).elim
            · have y := R6.post.le _ _ h
              rw [hx6] at y
              cases y
        have lenq : ad.length + (ys'.length + 1) ≤ sizeLine := by
          unfold mkL at q3
          by_cases z : (ad ++ r.1 :: ys').length ≤ sizeLine
          · simpa using z
          · rw [if_neg z] at q3; exact q3.elim
        have ow6 : ∀ (j : Nat) kk, (ρ.set i (.o (.l r.2)))[j]? = some (.o kk) → σ[j]? ≠ some (some (V.ref D)) := fun j kk hj hs => by
          by_cases z : i = j
          · subst z; rw [hat] at hs; cases hs; exact Da rfl
          · rw [List.getElem?_set_ne z] at hj; exact ow j kk hj hs
        refine ⟨acc, hx6, by rw [ra.1]; omega, r.2, acc ++ [v], ad ++ [r.1], P4, G6, e2.trans e26, A6.at g6 h0 na (fun u e => by rw [hx6] at e; cases e; exact ⟨nofun, nofun⟩) ow6, upd_same, g6, (ra.mono e26).append (Reps.cons r6 Reps.nil), ?_⟩
        refine out_bind.mpr ((out_eq (noEx_ok hys)).mpr ?_)
        have ea : ad ++ [r.1] ++ ys' = ad ++ r.1 :: ys' := by simp
        rw [ea]
        exact out_mono q3 (fun d p z ws' v H' G'' e => z ws' v H' G'' (e26.trans e)) fun _ _ z => exW_le e26 z
      | _ => exact hk6.elim
  · have ei : k = ds.length := by omega
    subst ei
    refine .inl ⟨(go _ _ _ P2 σ Hx G2 e2 S2).1 rfl, ?_⟩
    rw [List.drop_eq_nil_of_le (Nat.le_refl _)] at q2
    obtain ⟨ys, p, hy, q3⟩ := out_noEx_bind q2
    cases hy
    rw [List.append_nil] at q3
    unfold mkL at q3
    have ow2 : ∀ (j : Nat) kk, (ρ.set i (.o (.l ws)))[j]? = some (.o kk) → σ[j]? ≠ some (some (V.ref D)) := fun j kk hj hs => by
      by_cases z : i = j
      · subst z; rw [hat] at hs; cases hs; exact Da rfl
      · rw [List.getElem?_set_ne z] at hj; exact ow j kk hj hs
    by_cases z : ad.length ≤ sizeLine
    · rw [if_pos z] at q3
      obtain ⟨R3, e3⟩ := R2.freeze hx nt_lst h0 na ow2 gx
      exact q3 ws (.ref D) Hx _ e3 R3 (.lst upd_same ra.1 fun i v d a b => (ra.2 i v d a b).mono e3)
    · rw [if_neg z] at q3; exact q3.elim
/-- return [.. for .. in ..], its element popping -/
theorem ds_retLcO {E : α → List Sl} {i : Nat} {ws0 : List D} {elt tg iter : Expr} {scope : Scope} {own : List (Str × Nat)} {pos spos : Pos} {g : TG} {mi : M (List D)} {t : List Sl → D → Option (List Sl)} {me : List D → D → M (D × List D)} (hi : ρ[i]? = some (.o (.l ws0))) (hv : i ∉ own.map (·.2)) (hc : X.calm = true) (hN : X.N.Nodup) (ok : BlkOk X.N X.env.scope scope own)
    (hit : PI X tg iter (rdI c F W ρ mi)) (tgt : Tgt c g t (own.map (·.2))) (hno : ∀ ρ d ws, t ρ d = none → me ws d = M.no) (hkp : ∀ ρ d ρ', t ρ d = some ρ' → ρ'[i]? = ρ[i]?)
    (hg : ∀ (s : Shared) (H : Hp) (C : Addr) (cl : List (Str × Addr)) (fp : List Addr), PG (X.blk s H scope (compEnvC scope cl C X.env) fp) tg g)
    (he : ∀ (s : Shared) (H : Hp) (C : Addr) (cl : List (Str × Addr)) (fp : List Addr), PE (X.blk s H scope (compEnvC scope cl C X.env) fp) elt (rdEltO c i (fun ws d => t (wipeS ((ρ.map unO).set i (.o (.l ws))) (own.map (·.2))) d) me)) (hs : ∀ x, foldedSetIterable iter X.env x = pure x := by intro _; rfl) :
    PS X (.Return (some (.ListComp elt [⟨tg, iter, [], 0⟩] scope pos)) spos) (rdS c F W ρ E ((mi >>= fun ds => noEx (compO me ws0 ds) >>= mkL) >>= fun d => Pure.pure (.rt d))) := by
  refine ps_by (ps_ret (pe_lc hc hN hit ok hg (fun _ _ _ _ _ => pts_nil) he hs)) fun B σ H ⟨P, G, R, q⟩ => ?_
  refine lc_rdO (W := W) hi hv (fun _ _ _ z => z) tgt hno hkp ⟨P, G, R, out_mono (out_bind.mp q) (fun d P1 q1 ws' v H1 G1 e1 R1 r1 => ?_) fun _ _ z => exS.w z⟩
  exact (show ∀ v H' G' ρ' σ', Ext G G' → Rel c F ρ' P1 σ' H' G' → c.rep G' v d → B.rt v H' from q1) v H1 G1 _ σ e1 R1 r1
end
end DL
namespace DL
open PySem PySem.Spec PyProof.Rows L2
section
variable {c : Cn} {X : Cx} {F : Fr} {W : WX} {ρ : List Sl} {k : Nat}
/-- a def that a built-in calls; no exception leaves it -/
theorem run_dun {j : Nat} {A : Around} {f : Addr} {fd : FuncData} {ps : List Str} {sp : Sp} {pins : List (Addr × Obj)} {s : Shared} {σ : L2.St} {H : Hp} {Q : VK} {us : List Value} {vs : List V} {E' : Value → Shared → Prop} (ga : GA A) (rm : Room j A) (e0 : Env0 X.prog X.w X.K X.mg X.base A X.stack s H)
    (fn : FnG X.prog X.w X.K X.mg X.base j f fd ps sp) (hb : Binds X.K fd ps []) (I : Inv X pins σ H s) (r : Vals vs us) (h : sp vs H Q fun _ _ _ => False) : wpAny (model X.prog X.w) A (call (.ref f) us) (EP X pins σ Q) E' s := by
  have hl : us.length = ps.length := r.length.symm.trans (fn.ln _ _ _ _ h)
  have b := hb s us I.kIn (by simpa using hl)
  rw [List.append_nil] at b
  refine wpAny_call (codeAny_mono (fn.go A X.stack s H us vs ⟨us, []⟩ Q _ ga rm e0 b r h) fun res s2 z => ?_)
  match res, z with
  | .error e, z =>
    obtain ⟨_, _, _, _, _, _, _, _, _, _, _, _, z⟩ := z
    exact z.elim
  | .ok (.ret u), z => exact I.after z
  | .ok .next, z => exact z.elim
  | .ok .brk, z => exact z.elim
  | .ok .cont, z => exact z.elim
/-- what the callee asks: an instance of cn, and the method's promise -/
def rDun (c : Cn) (cn : Str) (mf : List Ar → M D) (ok : V → Prop) : List V → Hp → VK → Prop := fun xs H Q => ∃ (a C dx : Addr) (fs : List (Str × V)), xs = [.ref a] ∧ H a = some (.ins C dx fs) ∧ c.mg cn = some (.ref C) ∧
  spD c mf [.ref a] H (fun v H' => ok v ∧ Q v H') (fun _ _ _ => False)
def okLen : V → Prop := fun v => ∃ n : Int, v = .int n ∧ 0 ≤ n ∧ n < 2 ^ 63
theorem Vals.one {v : V} {us : List Value} (r : Vals [v] us) : ∃ u, us = [u] ∧ RelV v u := by
  cases r with
  | cons h t => cases t; exact ⟨_, rfl, h⟩
theorem cr_lenI {j : Nat} {f : Addr} {fd : FuncData} {cn : Str} {ps : List Str} {mf : List Ar → M D} (Cc : Ctx c X k) (hj : j + 1 ≤ k) (hM : MthC c X j cn "__len__" f fd ps mf) : CallR X (.builtin "len") (rDun c cn mf okLen) := by
  intro pins s σ H xs us Q I rv ⟨a, C, dx, fs, e, ea, hC, h⟩
  subst e
  obtain ⟨u, rfl, ru⟩ := Vals.one rv
  obtain rfl : u = Value.ref a := ru
  obtain ⟨mA, J, _⟩ := ins_get I.hok ea
  obtain ⟨od, J, _⟩ := J.look
  obtain ⟨m, hF⟩ := I.fr
  obtain ⟨c1, c2⟩ := hM.at_.get hC
  have c2' : Meth X.K C "__len__" f := by rw [Cc.K]; exact c2
  refine PySem.W.len_K hF I.ok.mod.kin J c2'.at_ c2'.fn (wpAny_mono (run_dun (A := X.A.in1) (by exact Cc.ga) (Cc.rm.mono hj).in1 I.env0.in1 hM.fn (by rw [Cc.K]; exact hM.bi) I rv h) (fun r s' q => ?_) fun _ _ z => z)
  obtain ⟨v, H', I', rv', ⟨n, en, h0, h1⟩, q⟩ := q
  subst en
  obtain ⟨t, rfl⟩ := (show ∃ t, r = Value.int n t from rv')
  exact ⟨⟨h0, h1⟩, .int n, H', I'.tok _, ⟨_, rfl⟩, q⟩
def natD : D → M D
  | .int n => if 0 ≤ n ∧ n < 2 ^ 63 then Pure.pure (.int n) else M.no
  | _ => M.no
/-- of an instance of cn by its method mf -/
def dunD (cn : Str) (mf : List Ar → M D) (k : D → M D) : D → M D
  | .ins n fs => if n = cn then noEx (mf [.v (.ins n fs)]) >>= k else M.no
  | _ => M.no
theorem sp_noEx {mf : List Ar → M D} {P : Pot} {σ : L2.St} {H G : Hp} {Q : VK} {as : List Ar} {vs : List V} {kk : D → M D} {ok : V → Prop} (R : Rel c F ρ P σ H G) (r : ArsOk c F G vs as)
    (q : out (noEx (mf as) >>= kk) P (fun d P' => ∀ v H' G', Ext G G' → Rel c F ρ P' σ H' G' → c.rep G' v d → Q v H') (exW c F W P G σ))
    (hk : ∀ d P' G' v H' Q2, out (kk d) P' (fun d P' => ∀ v H' G2, Ext G G2 → Rel c F ρ P' σ H' G2 → c.rep G2 v d → Q v H') Q2 → Ext G G' → Rel c F ρ P' σ H' G' → c.rep G' v d → ok v ∧ Q v H') :
    spD c mf vs H (fun v H' => ok v ∧ Q v H') (fun _ _ _ => False) := by
  have q := out_noEx (out_bind.mp q)
  refine ⟨F.ap, G, P, as, R.post.refl', ArsOk.fr (F := F) (F' := ⟨G, H, F.ap⟩) rfl r, out_mono q (fun d P' z v H' G' p k => ?_) fun e P' z => z.elim⟩
  exact hk d P' G' v H' _ z p.ext (R.after p) k
end
end DL
namespace DL
open PySem PySem.Spec PyProof.Rows L2
section
variable {c : Cn} {X : Cx} {F : Fr} {W : WX} {ρ : List Sl} {k : Nat}
theorem sub_ty {K : PySem.W.Frag} {C : Addr} {n : String} (h : n ∈ ["NoneType", "bool", "int", "str", "list", "tuple", "dict"]) : PySem.W.subIn K (.type n) (.ref C) = some false := by
  have all : ∀ n ∈ ["NoneType", "bool", "int", "str", "list", "tuple", "dict"], (PySem.fastFind? n).isSome = true := by decide +kernel
  obtain ⟨m, e⟩ := Option.isSome_iff_exists.mp (all n h)
  show ((PySem.fastFind? n).map (·.mro.map Value.type)).map (fun x => x.contains (Value.ref C)) = some false
  rw [e]
  show some ((m.mro.map Value.type).contains (.ref C)) = some false
  congr 1
  cases hh : (m.mro.map Value.type).contains (Value.ref C) with
  | false => rfl
  | true =>
    rw [List.contains_iff_mem, List.mem_map] at hh
    obtain ⟨_, _, z⟩ := hh
    cases z
/-- what must be known of a class, that its instances' type is told -/
def InsTy (c : Cn) (cn : Str) : Prop := AtC c cn fun C => Cls c.K C ∧ PySem.W.findIn c.K (.ref C) "__class__" = some (some (.builtin "object.__class__")) ∧
  PySem.W.specialIn c.K (.builtin "object.__class__") "__get__" = some (some (.builtin "getset_descriptor.__get__")) ∧ PySem.W.takesIn c.K (.builtin "object.__class__") = some true ∧ PySem.W.mroIn c.K C (.type "object") = some true
theorem cd_lenI {cn : Str} {mf : List Ar → M D} : CallD c (rDun c cn mf okLen) (f1 (dunD cn mf natD)) := by
  intro F ρ W P σ H G vs ds Q R rs q
  match ds, q with
  | [d], q =>
    obtain ⟨v, rfl, rv⟩ := rs.one
    cases d with
    | ins n fs =>
      have q2 : out (if n = cn then noEx (mf [.v (.ins n fs)]) >>= natD else M.no) P _ _ := q
      by_cases z : n = cn
      · rw [if_pos z] at q2
        subst z
        cases rv with
        | ins ha hc hk hr =>
          refine ⟨_, _, _, _, rfl, R.post.le _ _ ha, hc, sp_noEx (ok := okLen) R (as := [.v (.ins n fs)]) ⟨.ins ha hc hk hr, True.intro⟩ q2 fun d P' G' v H' Q2 z e R' r' => ?_⟩
          cases d with
          | int i =>
            have z : out (if 0 ≤ i ∧ i < 2 ^ 63 then Pure.pure (D.int i) else M.no) P' _ _ := z
            by_cases hi : 0 ≤ i ∧ i < 2 ^ 63
            · rw [if_pos hi] at z
              exact ⟨⟨i, r'.int_of, hi.1, hi.2⟩, z v H' G' e R' r'⟩
            · rw [if_neg hi] at z; exact z.elim
          | _ => exact z.elim
      · rw [if_neg z] at q2; exact q2.elim
    | _ => exact q.elim
  | [], q => exact q.elim
  | _ :: _ :: _, q => exact q.elim
end
end DL
namespace DL
open PySem PySem.Spec PyProof.Rows L2
def keyM : D → M Key
  | .int i => Pure.pure (.inl i)
  | .str x => Pure.pure (.inr x)
  | _ => M.no
def putD (kvs : List (Key × D)) (k : Key) (v : D) : List (Key × D) :=
  if (kvs.any fun kv => decide (kv.1 = k)) = true then kvs.map (fun kv => if kv.1 = k then (kv.1, v) else kv) else kvs ++ [(k, v)]
def dcF (t : D → M Bool) (ke ve : D → M D) : List D → List (Key × D) → M (List (Key × D))
  | [], acc => Pure.pure acc
  | d :: ds, acc => noEx (t d) >>= fun x => if x = true then noEx (ke d) >>= fun y => noEx (ve d) >>= fun z => keyM y >>= fun k => if acc.length < sizeLine then dcF t ke ve ds (putD acc k z) else M.no else dcF t ke ve ds acc
def dicD (kvs : List (Key × D)) : D := .dic (kvs.map fun p => (keyD p.1, p.2))
section
variable {c : Cn} {F : Fr} {W : WX} {ρ : List Sl} {X : Cx}
def RepK (c : Cn) (G : Hp) (kvs : List (Key × V)) (ds : List (Key × D)) : Prop := kvs.map (·.1) = ds.map (·.1) ∧ c.reps G (kvs.map (·.2)) (ds.map (·.2))
theorem RepK.nil {G : Hp} : RepK c G [] [] := ⟨rfl, Reps.nil⟩
theorem RepK.len {G : Hp} {kvs : List (Key × V)} {ds : List (Key × D)} (h : RepK c G kvs ds) : kvs.length = ds.length := by
  have := congrArg List.length h.1
  simpa using this
theorem RepK.mono {G G' : Hp} (e : Ext G G') {kvs : List (Key × V)} {ds : List (Key × D)} (h : RepK c G kvs ds) : RepK c G' kvs ds := ⟨h.1, h.2.mono e⟩
theorem any_keys {β γ : Type} (k : Key) : ∀ {kvs : List (Key × β)} {ds : List (Key × γ)}, kvs.map (·.1) = ds.map (·.1) → (kvs.any fun kv => decide (kv.1 = k)) = ds.any fun kv => decide (kv.1 = k)
  | [], [], _ => rfl
  | [], _ :: _, h => by simp at h
  | _ :: _, [], h => by simp at h
  | p :: r, q :: s, h => by
    simp only [List.map_cons, List.cons.injEq] at h
    rw [List.any_cons, List.any_cons, h.1, any_keys k h.2]
theorem put_map {G : Hp} {k : Key} {v : V} {d : D} (r : c.rep G v d) : ∀ {kvs : List (Key × V)} {ds : List (Key × D)}, RepK c G kvs ds → RepK c G (kvs.map fun kv => if kv.1 = k then (kv.1, v) else kv) (ds.map fun kv => if kv.1 = k then (kv.1, d) else kv)
  | [], [], _ => RepK.nil
  | [], _ :: _, h => by have := h.1; simp at this
  | _ :: _, [], h => by have := h.1; simp at this
  | p :: kvs, q :: ds, h => by
    obtain ⟨h1, h2⟩ := h
    simp only [List.map_cons, List.cons.injEq] at h1
    have ih := put_map (k := k) r (kvs := kvs) (ds := ds) ⟨h1.2, Reps.tail h2⟩
    have hd : c.rep G p.2 q.2 := Reps.head h2
    refine ⟨?_, ?_⟩
    · simp only [List.map_cons, List.cons.injEq]
      refine ⟨?_, ih.1⟩
      rw [h1.1]
      split <;> simp [h1.1]
    · simp only [List.map_cons]
      refine Reps.cons ?_ ih.2
      rw [h1.1]
      split
      · exact r
      · exact hd
theorem RepK.put {G : Hp} {k : Key} {v : V} {d : D} (r : c.rep G v d) {kvs : List (Key × V)} {ds : List (Key × D)} (h : RepK c G kvs ds) : RepK c G (putK kvs k v) (putD ds k d) := by
  unfold putK putD
  rw [any_keys k h.1]
  split
  · exact put_map r h
  · refine ⟨by simp [h.1], ?_⟩
    rw [List.map_append, List.map_append]
    exact h.2.append (Reps.cons r Reps.nil)
theorem keyM_out {y : D} {P : Pot} {ok : Key → Pot → Prop} {ex : Ex → Pot → Prop} (h : out (keyM y) P ok ex) : ∃ k, y = keyD k ∧ ok k P := by
  cases y with
  | int i => exact ⟨.inl i, rfl, h⟩
  | str x => exact ⟨.inr x, rfl, h⟩
  | _ => exact h.elim
theorem rep_key {G : Hp} {v : V} {k : Key} (r : c.rep G v (keyD k)) : v = kV k := by
  cases k with
  | inl i => exact r.int_of
  | inr x => exact r.str_of
theorem dc_rd {wi : TI} {g : TG} {tt : TT} {vs : List Nat} {mi : M (List D)} {t : List Sl → D → Option (List Sl)} {mt : D → M Bool} {mk mv : D → M D} (hw : ∀ σ H R, rdI c F W ρ mi σ H R → wi σ H R) (tg : Tgt c g t vs)
    (hno : ∀ ρ d, t ρ d = none → mt d = M.no) (htt : TestOk c tt (t (wipeS (ρ.map unO) vs)) mt) {σ : L2.St} {H : Hp} {Q : VK} (q : rdE c F W ρ (mi >>= fun ds => noEx (dcF mt mk mv ds []) >>= fun kvs => Pure.pure (dicD kvs)) σ H Q) :
    tDc wi g tt (fun σ H Q => ∃ F d ρ', t (wipeS (ρ.map unO) vs) d = some ρ' ∧ rdE c F W0 ρ' (mk d) σ H Q) (fun σ H Q => ∃ F d ρ', t (wipeS (ρ.map unO) vs) d = some ρ' ∧ rdE c F W0 ρ' (mv d) σ H Q) vs σ H Q := by
  obtain ⟨P, G, R, q⟩ := q
  refine hw _ _ _ ⟨P, G, R, out_mono (out_bind.mp q) (fun ds P1 q1 J H1 G1 e1 R1 go D hD => ?_) fun _ _ z => z⟩
  have ow := R1.own_at hD
  have h0 := R1.post.h0 hD
  have na := R1.ne_ap hD
  refine ⟨fun i m Hx => m = ds.length - i ∧ i ≤ ds.length ∧ ∃ (acc : List (Key × V)) (ad : List (Key × DL.D)) (P' : Pot) (G' : Hp), Ext G1 G' ∧ Rel c F ρ P' σ Hx G' ∧ Hx D = some (.dK acc) ∧ G' D = none ∧ RepK c G' acc ad ∧
    out (noEx (dcF mt mk mv (ds.drop i) ad) >>= fun kvs => (Pure.pure (dicD kvs) : M DL.D)) P' (fun d P' => ∀ v H' G'', Ext G' G'' → Rel c F ρ P' σ H' G'' → c.rep G'' v d → Q v H') (exW c F W P' G' σ),
    ⟨ds.length, by simp, Nat.zero_le _, [], [], P1, G1, Ext.refl _, R1.newM hD, upd_same, R1.post.g_none hD, RepK.nil, out_mono q1 (fun d p z v H' G'' e => z v H' G'' (e1.trans e)) fun _ _ z => exW_le e1 z⟩, ?_⟩
  rintro i m Hx ⟨rfl, hi, acc, ad, P2, G2, e2, R2, hx, gx, ra, q2⟩
  by_cases hl : i < ds.length
  · have hd : ds[i]? = some ds[i] := List.getElem?_eq_getElem hl
    have S2 := R2.sub
    obtain ⟨g1, g2⟩ := (go _ _ i P2 σ Hx G2 e2 S2).2 _ hd
    rw [List.drop_eq_getElem_cons hl] at q2
    obtain ⟨ys, p, hy, q3⟩ := out_noEx_bind q2
    refine .inr ⟨g1, fun H' => ∃ (acc : List (Key × V)) (ad : List (Key × DL.D)) (P' : Pot) (G' : Hp), Ext G1 G' ∧ Rel c F ρ P' σ H' G' ∧ H' D = some (.dK acc) ∧ G' D = none ∧ RepK c G' acc ad ∧
      out (noEx (dcF mt mk mv (ds.drop (i + 1)) ad) >>= fun kvs => (Pure.pure (dicD kvs) : M DL.D)) P' (fun d P' => ∀ v H' G'', Ext G' G'' → Rel c F ρ P' σ H' G'' → c.rep G'' v d → Q v H') (exW c F W P' G' σ), fun H' z => ⟨ds.length - (i + 1), by omega, rfl, hl, z⟩, fun x H3 y => ?_⟩
    obtain ⟨G3, e3, R3, r3⟩ := g2 x H3 y
    have hy' : (noEx (mt ds[i]) >>= fun x => if x = true then noEx (mk ds[i]) >>= fun y => noEx (mv ds[i]) >>= fun z => keyM y >>= fun k => if ad.length < sizeLine then dcF mt mk mv (ds.drop (i + 1)) (putD ad k z) else M.no else dcF mt mk mv (ds.drop (i + 1)) ad) P2 = .ok ys p := hy
    have o1 : out (noEx (mt ds[i]) >>= fun x => if x = true then noEx (mk ds[i]) >>= fun y => noEx (mv ds[i]) >>= fun z => keyM y >>= fun k => if ad.length < sizeLine then dcF mt mk mv (ds.drop (i + 1)) (putD ad k z) else M.no else dcF mt mk mv (ds.drop (i + 1)) ad) P2 (fun z zp => z = ys ∧ zp = p) (fun _ _ => False) := (out_eq hy').mpr ⟨rfl, rfl⟩
    obtain ⟨b, P3, hb, o2⟩ := out_noEx_bind o1
    have back : ∀ {m : M (List (Key × DL.D))} {P : Pot}, out m P (fun z zp => z = ys ∧ zp = p) (fun _ _ => False) → m P = .ok ys p := fun {m P} this => by
      unfold out at this
      cases k : m P with
      | ok a b => rw [k] at this; rw [this.1, this.2]
      | ex _ _ => rw [k] at this; exact this.elim
      | no => rw [k] at this; exact this.elim
    cases ht : t (wipeS (ρ.map unO) vs) ds[i] with
    | none =>
      rw [hno _ _ ht] at hb
      cases hb
    | some ρ' =>
      refine tg _ _ ρ' P2 _ H3 G3 x ds[i] _ (R3.wipe vs) r3 ht fun σ4 R4 w4 => ⟨w4.trans (wipe_idem vs), ?_⟩
      refine htt _ _ ρ' P2 σ4 H3 G3 _ R4 ht ((out_eq hb).mpr fun H5 G5 e5 R5 => ?_)
      have gone : ∀ {F' : Fr} {ρ2 : List Sl} {P' : Pot} {σ' : L2.St} {H' G' : Hp}, Rel c ⟨G2, Hx, F.ap⟩ ρ2 P' σ' H' G' → G' D = none := fun {F' ρ2 P' σ' H' G'} R5 => by
        cases z : G' D with
        | none => rfl
        | some u =>
          rcases R5.post.new D (by rw [z]; simp) with h | h | ⟨_, h⟩
          · exact absurd gx h
          · exact (Fre.no (H := Hx) h hx (fun _ q => nomatch q)).elim
          · have y := R5.post.le _ _ h
            rw [R5.post.fr D _ hx na nt_dK] at y
            cases y
      cases b with
      | false =>
        have hz := back (show out (dcF mt mk mv (ds.drop (i + 1)) ad) P3 (fun z zp => z = ys ∧ zp = p) (fun _ _ => False) from o2)
        have A5 := R2.after R5.post
        have e25 : Ext G2 G5 := R5.post.ext
        exact ⟨acc, ad, P3, G5, e2.trans e25, A5, R5.post.fr D _ hx na nt_dK, gone (F' := F) R5, ra.mono e25, out_bind.mpr ((out_eq (noEx_ok hz)).mpr (out_mono q3 (fun d p z v H' G'' e => z v H' G'' (e25.trans e)) fun _ _ z => exW_le e25 z))⟩
      | true =>
        obtain ⟨kd, P4, hkd, o4⟩ := out_noEx_bind (show out (noEx (mk ds[i]) >>= fun y => noEx (mv ds[i]) >>= fun z => keyM y >>= fun k => if ad.length < sizeLine then dcF mt mk mv (ds.drop (i + 1)) (putD ad k z) else M.no) P3 (fun z zp => z = ys ∧ zp = p) (fun _ _ => False) from o2)
        obtain ⟨vd, P5, hvd, o5⟩ := out_noEx_bind o4
        obtain ⟨k, ek, o6⟩ := keyM_out (out_bind.mp o5)
        have hlen : ad.length < sizeLine := by
          by_cases z : ad.length < sizeLine
          · exact z
          · rw [if_neg z] at o6; exact o6.elim
        rw [if_pos hlen] at o6
        have hz := back o6
        refine ⟨_, ds[i], ρ', ht, P3, G5, R5, (out_eq hkd).mpr fun kv H6 G6 e6 R6 r6 => ?_⟩
        refine ⟨_, ds[i], ρ', ht, P4, G6, R6, (out_eq hvd).mpr fun v H7 G7 e7 R7 r7 => ?_⟩
        have A7 := R2.after R7.post
        have e27 : Ext G2 G7 := R7.post.ext
        have hx7 := R7.post.fr D _ hx na nt_dK
        have g7 := gone (F' := F) R7
        rw [ek] at r6
        refine ⟨acc, k, rep_key r6, hx7, by rw [ra.len]; exact hlen, putK acc k v, putD ad k vd, P5, G7, e2.trans e27, A7.at g7 h0 na (fun u e => by rw [hx7] at e; cases e; exact ⟨nofun, nofun⟩) ow, upd_same, g7, (ra.mono e27).put r7, ?_⟩
        exact out_bind.mpr ((out_eq (noEx_ok hz)).mpr (out_mono q3 (fun d p z v H' G'' e => z v H' G'' (e27.trans e)) fun _ _ z => exW_le e27 z))
  · have ei : i = ds.length := by omega
    subst ei
    refine .inl ⟨(go _ _ _ P2 σ Hx G2 e2 R2.sub).1 rfl, ?_⟩
    rw [List.drop_eq_nil_of_le (Nat.le_refl _)] at q2
    obtain ⟨ys, p, hy, q3⟩ := out_noEx_bind q2
    cases hy
    obtain ⟨R3, e3⟩ := R2.freeze hx nt_dK h0 na ow gx
    have q4 : ∀ v H' G'', Ext G2 G'' → Rel c F ρ P2 σ H' G'' → c.rep G'' v (dicD ad) → Q v H' := q3
    refine q4 (.ref D) Hx _ e3 R3 (.dicK upd_same ?_ fun i kv dv h1 h2 => ?_)
    · rw [List.map_map]
      have : (List.map (fun p => keyD p.1) acc) = (acc.map (·.1)).map keyD := by rw [List.map_map]; rfl
      rw [this, ra.1, List.map_map]
      rfl
    · rw [List.getElem?_map, Option.map_eq_some_iff] at h2
      obtain ⟨q, h2, rfl⟩ := h2
      exact (ra.2.2 i kv.2 q.2 (by rw [List.getElem?_map, h1]; rfl) (by rw [List.getElem?_map, h2]; rfl)).mono e3
theorem de_dc {kx vx tg iter : Expr} {ifs : List Expr} {scope : Scope} {own : List (Str × Nat)} {pos : Pos} {g : TG} {tt : TT} {mi : M (List D)} {t : List Sl → D → Option (List Sl)} {mt : D → M Bool} {mk mv : D → M D} (hc : X.calm = true) (hN : X.N.Nodup) (ok : BlkOk X.N X.env.scope scope own)
    (hi : PI X tg iter (rdI c F W ρ mi)) (tgt : Tgt c g t (own.map (·.2))) (hno : ∀ ρ d, t ρ d = none → mt d = M.no) (htt : TestOk c tt (t (wipeS (ρ.map unO) (own.map (·.2)))) mt)
    (hg : ∀ (s : Shared) (H : Hp) (C : Addr) (cl : List (Str × Addr)) (fp : List Addr), PG (X.blk s H scope (compEnvC scope cl C X.env) fp) tg g) (ht : ∀ (s : Shared) (H : Hp) (C : Addr) (cl : List (Str × Addr)) (fp : List Addr), PTs (X.blk s H scope (compEnvC scope cl C X.env) fp) ifs tt)
    (hk : ∀ (s : Shared) (H : Hp) (C : Addr) (cl : List (Str × Addr)) (fp : List Addr), PE (X.blk s H scope (compEnvC scope cl C X.env) fp) kx (rdElt c (t (wipeS (ρ.map unO) (own.map (·.2)))) mk))
    (he : ∀ (s : Shared) (H : Hp) (C : Addr) (cl : List (Str × Addr)) (fp : List Addr), PE (X.blk s H scope (compEnvC scope cl C X.env) fp) vx (rdElt c (t (wipeS (ρ.map unO) (own.map (·.2)))) mv)) (hs : ∀ x, foldedSetIterable iter X.env x = pure x := by intro _; rfl) :
    PE X (.DictComp kx vx [⟨tg, iter, ifs, 0⟩] scope pos) (rdE c F W ρ (mi >>= fun ds => noEx (dcF mt mk mv ds []) >>= fun kvs => Pure.pure (dicD kvs))) :=
  pe_by (pe_dc hc hN hi ok hg ht hk he hs) fun σ H Q q => dc_rd (fun _ _ _ z => z) tgt hno htt q
end
end DL
namespace SX
open PySem PySem.Spec PyProof.Rows L2
open PySem.W (EachIs alike list_sort_data dataLe)
instance (a b : Str) : Decidable (ltT a b) := inferInstanceAs (Decidable (a.cps.toList < b.cps.toList))
end SX
namespace SX
open PySem PySem.Spec PyProof.Rows L2
open PySem.W (EachIs alike list_sort_data dataLe)
theorem vals_ix : ∀ {vs : List V} {us : List Value}, Vals vs us → ∀ {i : Nat} {u : Value}, us[i]? = some u → ∃ v, vs[i]? = some v ∧ RelV v u
  | _, _, .nil, _, _, h => by simp at h
  | _, _, .cons h t, 0, u, e => by
    simp at e; subst e; exact ⟨_, rfl, h⟩
  | _, _, .cons h t, i + 1, u, e => by
    obtain ⟨v, a, b⟩ := vals_ix t (i := i) (u := u) (by simpa using e)
    exact ⟨v, by simpa using a, b⟩
end SX
namespace SX
open PySem PySem.Spec PyProof.Rows L2
open PySem.W (EachIs alike dataLe AllAlike Sortable SortsAt dataKind dataKind_inv dataKind_some sortingHeap copyHeap sorting_copy_old)
section
variable {prog : Program} {w : World} {A : Around} {s : Shared}
theorem sortsAt_one {vs : List Value} {ds : List PyData} (e : EachIs (fun v d => ∃ as, Reads s.heap v d as) vs ds) (hal : AllAlike ds) (hn : ∀ d ∈ ds, d ≠ .none) (h1 : ds.length ≤ 1) (hu : ∀ d, d ∈ ds → A.units + d.depth < cLine) : SortsAt prog w A s (dataKind s.heap ds) vs := by
  refine ⟨fun v hv => ?_, ?_⟩
  · obtain ⟨d, hd, as, r⟩ := e.left v hv
    exact ⟨_, dataKind_some hal hd r⟩
  · refine ⟨general', ?_, fun h2 => absurd h2 (by have := e.length; omega)⟩
    intro E x y a b Q ha hb hq
    obtain ⟨d, as, hd, ra, rfl⟩ := dataKind_inv ha
    obtain ⟨d', as', hd', rb, rfl⟩ := dataKind_inv hb
    show wpAny (model prog w) A (oneLt' false x y) Q E s
    exact PySem.W.oneLt_alike (fun z => (nomatch z)) ra rb (hal d hd d' hd') (hn d hd) (Nat.lt_of_le_of_lt (Nat.add_le_add_left (Nat.min_le_left _ _) _) (hu d hd)) hq
end
def SortOk (ps : List PyData) : Prop := AllAlike ps ∧ (∀ p ∈ ps, p ≠ .none) ∧ (Sortable ps ∨ ps.length ≤ 1) ∧ ∀ p ∈ ps, p.depth ≤ 30
def rSortD (K : PySem.W.Frag) : List V → Hp → VK → Prop := fun vs H Q => ∃ (a : Addr) (ws : List V) (ps : List PyData), vs = [.ref a] ∧ SqL K H a ws ∧ DpAll K H ws ps ∧ ws.length = ps.length ∧ ws.length ≤ sizeLine ∧ SortOk ps ∧
  ∀ p, H p = none → Q (.ref p) (upd H p (.lst (((ws.zip ps).mergeSort (dataLe false (·.2))).map (·.1))))
theorem each_zip {h : Heap} : ∀ {us : List Value} {ws : List V} {ps : List PyData} {as : List Addr}, Vals ws us → ReadsAll h us ps as → EachIs (fun (u : Value) (b : V × PyData) => RelV b.1 u) us (ws.zip ps) ∧ EachIs (fun (u : Value) (b : V × PyData) => ∃ as, Reads h u b.2 as) us (ws.zip ps)
  | _, _, _, _, .nil, .nil => ⟨.nil, .nil⟩
  | _, _, _, _, .cons h t, .cons r1 r2 => ⟨.cons h (each_zip t r2).1, .cons ⟨_, r1⟩ (each_zip t r2).2⟩
theorem vals_zip : ∀ {us : List Value} {bs : List (V × PyData)}, EachIs (fun (u : Value) (b : V × PyData) => RelV b.1 u) us bs → Vals (bs.map (·.1)) us
  | _, _, .nil => .nil
  | _, _, .cons h t => .cons h (vals_zip t)
section
variable {X : Cx}
theorem cr_sortD (hu : X.A.units + 64 < cLine) : CallR X (.builtin "sorted") (rSortD X.K) := by
  intro pins s σ H vs us Q I r h
  obtain ⟨a, ws, ps, rfl, hs, hp, hlen, hz, ⟨hal, hnn, hk, hd⟩, q⟩ := h
  rw [Vals.ref1 r]
  obtain ⟨its, rv, hl, _⟩ := I.list hs
  obtain ⟨as, ra⟩ := Dp.readsAll I ps ws its hp rv
  obtain ⟨e1, e2⟩ := each_zip rv ra
  have em : (ws.zip ps).map (·.2) = ps := List.map_snd_zip (by omega)
  have hiz : its.length = ws.length := rv.length.symm
  have fin : ∀ out : List Value, out.length = (ws.zip ps).length → EachIs (fun (u : Value) (b : V × PyData) => RelV b.1 u) out ((ws.zip ps).mergeSort (dataLe false (·.2))) → EP X pins σ Q (.ref (s.heap.objs.size + 1)) { s with heap := sortedAll s.heap its out.toArray } := fun out ho eo => by
    obtain ⟨c, hc⟩ := sortedAll_at s.heap its out.toArray
    have hnp : H (s.heap.objs.size + 1) = none := I.hok.fresh (Nat.le_succ _)
    have k : ∀ b o, s.heap.get? b = some o → (sortedAll s.heap its out.toArray).get? b = some o := fun _ _ => sortedAll_old
    have hl2 : (((ws.zip ps).mergeSort (dataLe false (·.2))).map (·.1)).length ≤ sizeLine := by
      rw [List.length_map, List.length_mergeSort, List.length_zip]; omega
    exact ⟨.ref (s.heap.objs.size + 1), upd H (s.heap.objs.size + 1) (.lst (((ws.zip ps).mergeSort (dataLe false (·.2))).map (·.1))), I.call (ch := []) (Un.laid k (Nat.le_succ _) hnp) (I.hok.laid k (Nat.le_succ _) ⟨hl2, out, c, vals_zip eo, by simpa using hc⟩) I.bare fun _ z => (nomatch z), rfl, q _ hnp⟩
  have hub : ∀ b, b ∈ ws.zip ps → X.A.units + 2 + (b.2 : PyData).depth < cLine := fun b hb => by
    have := hd b.2 (by rw [← em]; exact List.mem_map.mpr ⟨b, hb, rfl⟩)
    omega
  have hl' : s.heap.IsList a its.toArray := hl.isList
  rcases hk with hk | hk
  · exact PySem.W.sorted_data (enc := fun b : V × PyData => b.2) (R := fun u b => RelV b.1 u) hl' e1 e2 (by rw [em]; exact hal) (by rw [em]; exact hk) (by rw [List.length_zip]; omega) hub fun out ho eo => fin out ho eo
  · have er' : EachIs (fun (u : Value) (b : V × PyData) => ∃ as, Reads (sortingHeap (copyHeap s.heap its) (s.heap.objs.size + 1) its) u b.2 as) its (ws.zip ps) := e2.mono fun _ _ ⟨as, r⟩ => ⟨as, PyProof.Rows.Reads.keeps (fun _ _ => sorting_copy_old) r⟩
    have hub2 : ∀ d, d ∈ (ws.zip ps).map (·.2) → X.A.in1.in1.units + d.depth < cLine := fun d hd2 => by
      rw [em] at hd2
      have := hd d hd2
      have u : X.A.in1.in1.units ≤ X.A.units + 2 := by simp [Around.in1]
      omega
    refine PySem.W.sorted_vals hl' (sortsAt_one (s := { s with heap := sortingHeap (copyHeap s.heap its) (s.heap.objs.size + 1) its }) (PySem.W.each_map (R := fun v d => ∃ as, Reads (sortingHeap (copyHeap s.heap its) (s.heap.objs.size + 1) its) v d as) (fun b : V × PyData => b.2) er') (by rw [em]; exact hal) (by rw [em]; exact hnn) (by rw [em]; exact hk) hub2) (by omega) ?_
    exact fin _ (by rw [PySem.W.sortVals_length false rfl, hiz, List.length_zip]; omega) (PySem.W.sortVals_data (enc := fun b : V × PyData => b.2) false e1 er' (by rw [em]; exact hal))
end
end SX
namespace DL
open PySem PySem.Spec PyProof.Rows L2
section
variable {c : Cn} {X : Cx} {F : Fr} {W : WX} {ρ : List Sl} {k : Nat}
def isiC (cn : Str) : D → M D := isiM (fun _ => some false) fun n => if n = cn then some true else none
def isCls (c : Cn) (cn : Str) : Prop := AtC c cn fun C => PySem.W.isClsIn c.K C = true ∧ PySem.W.typeIn c.K (.ref C) = some (.type "type")
theorem de_isiO {cn y : Str} {a : Expr} {p py pos : Pos} {m : M D} (Cc : Ctx c X k) (hT : InsTy c cn) (hC : isCls c cn) (hy : y = cn) (hg : Gl X "isinstance") (hm : X.mg "isinstance" = none) (ha : PE X a (rdE c F W ρ m)) (hgy : Gl X y)
    (h1 : starEach (a :: [.Name y py]) X.env = (false, eval a X.env) :: starEach [.Name y py] X.env := by rfl) (h2 : starEach (.Name y py :: []) X.env = (false, eval (.Name y py) X.env) :: starEach [] X.env := by rfl)
    (hpl : (backTo pos (starEach [.Name y py] X.env)).any (·.1) = false := by rfl) (hd : (y == ("__debug__" : Str)) = false := by decide) : PE X (.Call (.Name "isinstance" p) [a, .Name y py] [] pos) (rdE c F W ρ (m >>= isiC cn)) := by
  subst hy
  obtain ⟨C, hm0, i1, i2⟩ := hC
  have hmy : X.mg y = some (.ref C) := by rw [Cc.mg]; exact hm0
  obtain ⟨t1, t2, t3, t4, t5⟩ := hT.get hm0
  refine de_isiX (cv := .ref C) (u := .ref C) Cc.K (.own C) (fun n b hn h => ?_) (fun n b h => ?_) hg hm ha (pe_glob hgy hmy rfl hd) h1 h2 hpl
  · cases h
    have e : ¬ ((Value.type n == Value.ref C) = true) := by simp
    show (if (Value.type n == Value.ref C) = true then some true else PySem.W.kitCls c.K (.type n) (.ref C)) = some false
    rw [if_neg e]
    show (if ((PySem.W.clsIn c.K C).isSome && PySem.W.typeIn c.K (.ref C) == some (.type "type")) = true then PySem.W.subIn c.K (.type n) (.ref C) else none) = some false
    have i1 : (PySem.W.clsIn c.K C).isSome = true := i1
    rw [if_pos (by rw [i1, i2]; rfl)]
    exact sub_ty hn
  · by_cases z : n = y
    · rw [if_pos z] at h
      cases h
      subst z
      intro C2 hC2
      rw [hm0] at hC2
      cases hC2
      refine ⟨t1, t2, t3, t4, t5, ?_⟩
      show (if (Value.ref C == Value.ref C) = true then some true else _) = some true
      rw [if_pos (by simp)]
    · rw [if_neg z] at h; cases h
end
end DL
namespace DL
open PySem PySem.Spec PyProof.Rows L2
open PySem.W (dataLe)
section
variable {c : Cn} {X : Cx} {F : Fr} {W : WX} {ρ : List Sl} {k : Nat}
def pyLe (x y : D) : Bool := match toPy x, toPy y with
  | some p, some q => dataLe false (fun p : PyData => p) p q
  | _, _ => false
open Classical in
noncomputable def sortD : D → M D
  | .lst ds => match toPys ds with
    | some ps => if SX.SortOk ps ∧ ds.length ≤ sizeLine then Pure.pure (.lst (ds.mergeSort pyLe)) else M.no
    | none => M.no
  | _ => M.no
theorem toPys_get : ∀ {ds : List D} {ps : List PyData}, toPys ds = some ps → ds.length = ps.length ∧ ∀ t ∈ ds.zip ps, toPy t.1 = some t.2
  | [], ps, h => by
    simp [toPys] at h; subst h; exact ⟨rfl, fun t ht => by simp at ht⟩
  | d :: ds, ps, h => by
    unfold toPys at h
    cases h1 : toPy d with
    | none => rw [h1] at h; simp at h
    | some p =>
      cases h2 : toPys ds with
      | none => rw [h1, h2] at h; simp at h
      | some qs =>
        rw [h1, h2] at h
        cases h
        obtain ⟨e1, e2⟩ := toPys_get h2
        refine ⟨by simp [e1], fun t ht => ?_⟩
        rcases List.mem_cons.mp ht with z | z
        · subst z; exact h1
        · exact e2 t z
theorem reps_mem {G : Hp} {T : List (V × D)} (h : ∀ t ∈ T, c.rep G t.1 t.2) : c.reps G (T.map (·.1)) (T.map (·.2)) := by
  induction T with
  | nil => exact Reps.nil
  | cons t T ih => exact Reps.cons (h t List.mem_cons_self) (ih fun u hu => h u (List.mem_cons_of_mem _ hu))
theorem zip3_a {α β γ : Type} : ∀ (vs : List α) (ds : List β) (ps : List γ), vs.length = ds.length → ds.length = ps.length → (vs.zip (ds.zip ps)).map (fun t => (t.1, t.2.2)) = vs.zip ps
  | [], _, _, _, _ => by simp
  | _ :: _, [], _, h, _ => by simp at h
  | _ :: _, _ :: _, [], _, h => by simp at h
  | v :: vs, d :: ds, p :: ps, h, k => by
    simp only [List.zip_cons_cons, List.map_cons]
    rw [zip3_a vs ds ps (by simpa using h) (by simpa using k)]
theorem zip3_b {α β γ : Type} : ∀ (vs : List α) (ds : List β) (ps : List γ), vs.length = ds.length → ds.length = ps.length → (vs.zip (ds.zip ps)).map (fun t => t.2.1) = ds
  | [], [], _, _, _ => by simp
  | [], _ :: _, _, h, _ => by simp at h
  | _ :: _, [], _, h, _ => by simp at h
  | _ :: _, _ :: _, [], _, h => by simp at h
  | v :: vs, d :: ds, p :: ps, h, k => by
    simp only [List.zip_cons_cons, List.map_cons]
    rw [zip3_b vs ds ps (by simpa using h) (by simpa using k)]
theorem sort_reps {G : Hp} {vs : List V} {ds : List D} {ps : List PyData} (r : c.reps G vs ds) (h : toPys ds = some ps) : c.reps G (((vs.zip ps).mergeSort (dataLe false (·.2))).map (·.1)) (ds.mergeSort pyLe) := by
  obtain ⟨e1, e2⟩ := toPys_get h
  have l1 := r.1
  let T : List (V × D × PyData) := vs.zip (ds.zip ps)
  have hT : ∀ t ∈ T, c.rep G t.1 t.2.1 ∧ toPy t.2.1 = some t.2.2 := fun t ht => by
    obtain ⟨i, hi, e⟩ := List.getElem_of_mem ht
    have e : (vs.zip (ds.zip ps))[i]'hi = t := e
    rw [List.getElem_zip, List.getElem_zip] at e
    have hi1 : i < vs.length := by simp [T] at hi; omega
    have hi2 : i < ds.length := by omega
    have hi3 : i < ps.length := by omega
    subst e
    refine ⟨r.2 i _ _ (List.getElem?_eq_getElem hi1) (List.getElem?_eq_getElem hi2), ?_⟩
    refine e2 (ds[i], ps[i]) ?_
    have : (ds.zip ps)[i]'(by simp; omega) = (ds[i], ps[i]) := List.getElem_zip
    rw [← this]
    exact List.getElem_mem _
  have m1 : T.map (fun t => (t.1, t.2.2)) = vs.zip ps := zip3_a vs ds ps (by omega) (by omega)
  have m2 : T.map (fun t => t.2.1) = ds := zip3_b vs ds ps (by omega) (by omega)
  have s1 := List.map_mergeSort (r := fun a b : V × D × PyData => dataLe false (fun b : V × PyData => b.2) (a.1, a.2.2) (b.1, b.2.2)) (s := dataLe false (fun b : V × PyData => b.2)) (f := fun t => (t.1, t.2.2)) (l := T) (fun a _ b _ => rfl)
  have s2 := List.map_mergeSort (r := fun a b : V × D × PyData => dataLe false (fun b : V × PyData => b.2) (a.1, a.2.2) (b.1, b.2.2)) (s := pyLe) (f := fun t => t.2.1) (l := T) (fun a ha b hb => by
    unfold pyLe
    rw [(hT a ha).2, (hT b hb).2]
    rfl)
  rw [m1] at s1
  rw [m2] at s2
  rw [← s1, ← s2, List.map_map]
  have := reps_mem (c := c) (G := G) (T := (T.mergeSort fun a b => dataLe false (fun b : V × PyData => b.2) (a.1, a.2.2) (b.1, b.2.2)).map fun t => (t.1, t.2.1)) (fun t ht => by
    obtain ⟨u, hu, rfl⟩ := List.mem_map.mp ht
    exact (hT u (List.mem_mergeSort.mp hu)).1)
  rw [List.map_map, List.map_map] at this
  exact this
open Classical in
theorem cd_sortD : CallD c (SX.rSortD c.K) (f1 sortD) := by
  intro F ρ W P σ H G vs ds Q R rs q
  match ds, q with
  | [d], q =>
    obtain ⟨v, rfl, rv⟩ := rs.one
    cases d with
    | lst xs =>
      have q : out (match toPys xs with
        | some ps => if SX.SortOk ps ∧ xs.length ≤ sizeLine then Pure.pure (D.lst (xs.mergeSort pyLe)) else M.no
        | none => M.no) P _ _ := q
      cases hp : toPys xs with
      | none => rw [hp] at q; exact q.elim
      | some ps =>
        rw [hp] at q
        by_cases z : SX.SortOk ps ∧ xs.length ≤ sizeLine
        · have q : out (if SX.SortOk ps ∧ xs.length ≤ sizeLine then Pure.pure (D.lst (xs.mergeSort pyLe)) else M.no) P _ _ := q
          rw [if_pos z] at q
          cases rv with
          | lst ha hl hr =>
            refine ⟨_, _, ps, rfl, SqL.of (R.post.le _ _ ha), dps_of R.post.le xs _ ps ⟨hl, hr⟩ hp, hl.trans (toPys_get hp).1, by rw [hl]; exact z.2, z.1, fun p hpn => ?_⟩
            exact new_lst R hpn (sort_reps ⟨hl, hr⟩ hp) q
        · have q : out (if SX.SortOk ps ∧ xs.length ≤ sizeLine then Pure.pure (D.lst (xs.mergeSort pyLe)) else M.no) P _ _ := q
          rw [if_neg z] at q; exact q.elim
    | _ => exact q.elim
  | [], q => exact q.elim
  | _ :: _ :: _, q => exact q.elim
end
end DL
namespace DL
open PySem PySem.Spec PyProof.Rows L2
section
variable {c : Cn} {X : Cx} {F : Fr} {W : WX} {ρ : List Sl} {k : Nat}
def nums : List D → Option (List Int)
  | [] => some []
  | .int b :: ds => (nums ds).map (b :: ·)
  | _ => none
theorem nums_of {G : Hp} : ∀ {vs : List V} {ds : List D} {bs : List Int}, c.reps G vs ds → nums ds = some bs → vs = bs.map V.int
  | vs, [], bs, r, h => by cases h; rw [r.nil_of']; rfl
  | [], _ :: _, _, r, _ => by have := r.1; simp at this
  | v :: vs, d :: ds, bs, r, h => by
    cases d with
    | int b =>
      simp only [nums, Option.map_eq_some_iff] at h
      obtain ⟨bs', h, rfl⟩ := h
      rw [nums_of r.tail h, r.head.int_of]; rfl
    | _ => simp [nums] at h
def sumD : D → M D
  | .lst ds => M.some ((nums ds).map fun ns => .int ns.sum)
  | .tup ds => M.some ((nums ds).map fun ns => .int ns.sum)
  | _ => M.no
/-- of a tuple too -/
def rSum2 (K : PySem.W.Frag) : List V → Hp → VK → Prop := fun vs H Q => ∃ (a : Addr) (ns : List Int), vs = [V.ref a] ∧ (SqL K H a (ns.map V.int) ∨ SqT K H a (ns.map V.int)) ∧ Q (.int ns.sum) H
theorem cr_sum2 (hc : X.calm = true) : CallR X (.builtin "sum") (rSum2 X.K) := by
  intro pins s σ H vs us Q I r ⟨a, ns, e, hs, q⟩
  rcases hs with hs | hs
  · exact L2.cr_sum hc pins s σ H vs us Q I r ⟨a, ns, e, hs, q⟩
  · subst e
    obtain ⟨its, rv, hl, _⟩ := I.tuple hs
    rw [Vals.ref1 r]
    obtain ⟨xs, hx⟩ := rv.ints.allInts.items
    have hn : numsOf (intItems xs).toList = ns := by rw [← hx]; exact rv.ints.numsOf
    rw [nums_intItems] at hn
    have hl : s.heap.IsTuple a its.toArray := hl
    rw [hx] at hl
    refine PySem.W.ktm_sumG (I.ok.hd hc) hl fun h' tk t' hk => ?_
    rw [preSum_eq, List.take_of_length_le (by simp), hn]
    exact ⟨.int _, H, I.kept hk, ⟨_, rfl⟩, q⟩
theorem cd_sum : CallD c (rSum2 c.K) (f1 sumD) := by
  intro F ρ W P σ H G vs ds Q R rs q
  match ds, q with
  | [d], q =>
    obtain ⟨v, rfl, rv⟩ := rs.one
    cases d with
    | lst xs =>
      obtain ⟨d, h, q⟩ := out_some.mp (show out (M.some ((nums xs).map fun ns => D.int ns.sum)) P _ _ from q)
      obtain ⟨ns, hns, rfl⟩ := Option.map_eq_some_iff.mp h
      cases rv with
      | lst ha hl hr =>
        have e := nums_of ⟨hl, hr⟩ hns
        subst e
        exact ⟨_, ns, rfl, .inl (SqL.of (R.post.le _ _ ha)), q _ H G (Ext.refl _) R (.int _)⟩
    | tup xs =>
      obtain ⟨d, h, q⟩ := out_some.mp (show out (M.some ((nums xs).map fun ns => D.int ns.sum)) P _ _ from q)
      obtain ⟨ns, hns, rfl⟩ := Option.map_eq_some_iff.mp h
      cases rv with
      | tup ha hl hr =>
        have e := nums_of ⟨hl, hr⟩ hns
        subst e
        exact ⟨_, ns, rfl, .inr (Evl.ex_t R.post.le ha), q _ H G (Ext.refl _) R (.int _)⟩
    | _ => exact q.elim
  | [], q => exact q.elim
  | _ :: _ :: _, q => exact q.elim
end
end DL
namespace DL
open PySem PySem.Spec PyProof.Rows L2
section
variable {c : Cn} {X : Cx} {F : Fr} {W : WX} {ρ : List Sl} {k : Nat}
theorem emp_len {α β : Type} {vs : List α} {ds : List β} (h : vs.length = ds.length) : (!ds.isEmpty) = (!vs.isEmpty) := by
  cases vs <;> cases ds <;> simp_all
end
end DL
namespace DL
open PySem PySem.Spec PyProof.Rows L2
/-- a method of the class cn -/
structure CalM (P : Program) (w : World) (c : Cn) (base : Heap) (k : Nat) (cn m : Str) (mf : List Ar → M D) : Prop where
  ex : ∃ (f : Addr) (fd : FuncData) (ps : List Str), AtC c cn (fun C => Cls c.K C ∧ Meth c.K C m f) ∧ FnG P w c.K c.mg base k f fd ps (spD c mf) ∧ Binds c.K fd ps [] ∧ PySem.W.fnIn c.K f = true
/-- a property -/
structure CalP (P : Program) (w : World) (c : Cn) (base : Heap) (k : Nat) (cn m : Str) (mf : List Ar → M D) : Prop where
  ex : ∃ (f : Addr) (fd : FuncData) (ps : List Str), AtC c cn (fun C => Cls c.K C ∧ ∃ p, PropOf c.K C m p f) ∧ FnG P w c.K c.mg base k f fd ps (spD c mf) ∧ Binds c.K fd ps []
/-- a classmethod -/
structure CalK (P : Program) (w : World) (c : Cn) (base : Heap) (k : Nat) (cn m : Str) (mf : List Ar → M D) : Prop where
  ex : ∃ (f : Addr) (fd : FuncData) (ps : List Str), AtC c cn (fun C => ∃ mc p0, ClX.CRead c.K C mc ∧ ClX.CMet c.K C mc m p0 f) ∧ FnG P w c.K c.mg base k f fd ps (spD c mf) ∧ Binds c.K fd ps []
/-- the making of an instance -/
structure CalI (P : Program) (w : World) (c : Cn) (base : Heap) (k : Nat) (cn : Str) (mf : List Ar → M (List (Str × D))) : Prop where
  ex : ∃ (f : Addr) (fd : FuncData) (ps : List Str), AtC c cn (fun C => Mk c.K C f) ∧ FnG P w c.K c.mg base k f fd ps (spI c cn mf) ∧ Binds c.K fd ps []
section
variable {P : Program} {w : World} {c : Cn} {base : Heap} {k j : Nat} {cn m : Str} {mf : List Ar → M D}
theorem CalM.mono (h : CalM P w c base j cn m mf) (l : j ≤ k) : CalM P w c base k cn m mf := by
  obtain ⟨f, fd, ps, a, b, d, e⟩ := h.ex
  exact ⟨f, fd, ps, a, ⟨b.ln, fun A fr s H us vs args Q E ga rm => b.go A fr s H us vs args Q E ga (rm.mono l)⟩, d, e⟩
theorem CalP.mono (h : CalP P w c base j cn m mf) (l : j ≤ k) : CalP P w c base k cn m mf := by
  obtain ⟨f, fd, ps, a, b, d⟩ := h.ex
  exact ⟨f, fd, ps, a, ⟨b.ln, fun A fr s H us vs args Q E ga rm => b.go A fr s H us vs args Q E ga (rm.mono l)⟩, d⟩
theorem CalK.mono (h : CalK P w c base j cn m mf) (l : j ≤ k) : CalK P w c base k cn m mf := by
  obtain ⟨f, fd, ps, a, b, d⟩ := h.ex
  exact ⟨f, fd, ps, a, ⟨b.ln, fun A fr s H us vs args Q E ga rm => b.go A fr s H us vs args Q E ga (rm.mono l)⟩, d⟩
theorem CalI.mono {mf : List Ar → M (List (Str × D))} (h : CalI P w c base j cn mf) (l : j ≤ k) : CalI P w c base k cn mf := by
  obtain ⟨f, fd, ps, a, b, d⟩ := h.ex
  exact ⟨f, fd, ps, a, ⟨b.ln, fun A fr s H us vs args Q E ga rm => b.go A fr s H us vs args Q E ga (rm.mono l)⟩, d⟩
end
section
variable {c : Cn} {X : Cx} {F : Fr} {W : WX} {ρ : List Sl} {k j : Nat} {cn m : Str} {mf : List Ar → M D}
theorem fnG_X {f : Addr} {fd : FuncData} {ps : List Str} {sp : Sp} (C : Ctx c X k) (h : FnG X.prog X.w c.K c.mg X.base j f fd ps sp) : FnG X.prog X.w X.K X.mg X.base j f fd ps sp := by rw [C.K, C.mg]; exact h
theorem de_mthC {mo : M D} {ms : M (List Ar)} {apos pos : Pos} {o e : Expr} {es : List Expr} {pl : Sem Bool} (fn : CalM X.prog X.w c X.base j cn m mf) (C : Ctx c X k) (hj : j ≤ k) (tk : Takes X W)
    (ho : PE X o (rdE c F W ρ mo)) (ha : PA X (e :: es) (rdA c F W ρ ms)) (hst : starEach (e :: es) X.env = (false, eval e X.env) :: starEach es X.env := by rfl) (hpl : (backTo pos (starEach es X.env)).any (·.1) = false := by rfl)
    (ht : eval (.Call (.Attribute o m apos) (e :: es) [] pos) X.env = (do
      let v ← eval o X.env
      standAt apos.atName
      let (f, a) ← holding [v] (getMethod v m pl)
      callWith pos f a (backTo pos (starEach (e :: es) X.env)) (backToKw pos (keywordEach [] X.env))) := by rfl) :
    PE X (.Call (.Attribute o m apos) (e :: es) [] pos) (rdE c F W ρ (mo >>= fun d => insG cn m d >>= fun _ => ms >>= fun as => mf (.v d :: as))) := by
  obtain ⟨f, fd, ps, a, b, d, _⟩ := fn.ex
  exact de_mth (pl := pl) C hj tk ⟨a, fnG_X C b, d⟩ ho ha hst hpl ht
theorem de_propC {mo : M D} {pos : Pos} {o : Expr} (fn : CalP X.prog X.w c X.base j cn m mf) (C : Ctx c X k) (hj : j + 1 ≤ k) (ho : PE X o (rdE c F W ρ mo)) (hab : attributeBase o m X.env (eval o X.env) = eval o X.env := by rfl) :
    PE X (.Attribute o m pos) (rdE c F W ρ (mo >>= fun d => insP cn d >>= fun _ => noEx (mf [.v d]))) := by
  obtain ⟨f, fd, ps, a, b, d⟩ := fn.ex
  exact de_prop C hj ⟨a, fnG_X C b, d⟩ ho hab
theorem de_makeC {mi : List Ar → M (List (Str × D))} {ms : M (List Ar)} {x : Str} {p pos : Pos} {e : Expr} {es : List Expr} (fn : CalI X.prog X.w c X.base j cn mi) (C : Ctx c X k) (hj : j + 1 ≤ k) (tk : Takes X W) (hx : x = cn) (hg : Gl X x)
    (ha : PA X (e :: es) (rdA c F W ρ ms)) (hdb : (x == ("__debug__" : Str)) = false := by decide) (he : starEach (e :: es) X.env = (false, eval e X.env) :: starEach es X.env := by rfl) (hpl : (backTo pos (starEach es X.env)).any (·.1) = false := by rfl) :
    PE X (.Call (.Name x p) (e :: es) [] pos) (rdE c F W ρ (ms >>= fun as => mi as >>= fun fs => Pure.pure (.ins cn fs))) := by
  obtain ⟨f, fd, ps, a, b, d⟩ := fn.ex
  exact de_make (C.mono hj) tk a (fnG_X C b) hg hx d ha hdb he hpl
theorem de_lenIC {ms : M (List Ar)} {x : Str} {p pos : Pos} {e : Expr} (fn : CalM X.prog X.w c X.base j cn "__len__" mf) (C : Ctx c X k) (hj : j + 1 ≤ k) (hg : Gl X x) (hm : X.mg x = none) (hv : bootBuiltins x = some (.builtin "len")) (ha : PA X [e] (rdA c F W ρ ms))
    (hn : x ≠ "__name__" := by decide) (hdb : (x == ("__debug__" : Str)) = false := by decide) (he : starEach [e] X.env = (false, eval e X.env) :: starEach [] X.env := by rfl) :
    PE X (.Call (.Name x p) [e] [] pos) (rdE c F W ρ (ms >>= fun as => DL.vals as >>= f1 (dunD cn mf natD))) := by
  obtain ⟨f, fd, ps, a, b, d, _⟩ := fn.ex
  exact de_blt (cr_lenI C hj ⟨a, fnG_X C b, d⟩) cd_lenI hg hm hv ha hn hdb he rfl
theorem eo_at {ρ' : List Sl} {i : Nat} {e : Expr} {m : M (D × List D)} (h : ρ = ρ') (k : PE X e (rdEO c F W ρ' i m)) : PE X e (rdEO c F W ρ i m) := by rw [h]; exact k
theorem l9z : ([] : List (Str × D)).length ≤ 0 := Nat.le_refl 0
theorem l9s {n : Nat} {f : Str} {v : D} : ∀ {fs : List (Str × D)}, fs.length ≤ n → (putA f v fs).length ≤ n + 1 := by
  have key : ∀ fs : List (Str × D), (putA f v fs).length ≤ fs.length + 1 := fun fs => by
    induction fs with
    | nil => exact Nat.le_refl _
    | cons p r ih =>
      obtain ⟨a, b⟩ := p
      unfold putA
      split
      · simp
      · simpa using ih
  exact fun {fs} h => Nat.le_trans (key fs) (Nat.succ_le_succ h)
theorem l9 {n : Nat} {fs : List (Str × D)} (h : fs.length ≤ n) (hn : n < 900 := by decide) : fs.length < 900 := Nat.lt_of_le_of_lt h hn
end
def doneI : Fl (List (Str × D)) → M (List (Str × D))
  | .nx a => Pure.pure a
  | _ => M.no
section
variable {P : Program} {w : World} {K : PySem.W.Frag} {mg : Str → Option Value} {base : Heap} {c : Cn}
theorem fnI_of2 {x qual x0 cn : Str} {st : Stmt} {f : Addr} {fd : FuncData} {N ps : List Str} {k : Nat} {mf : List Ar → M (List (Str × D))} (Fn : Fun K x qual st f fd) (hK : c.K = K) (hm : c.mg = mg) (S : FnScope (x0 :: N) ps (defScope st)) (len : ∀ as P ok ex, out (mf as) P ok ex → as.length + 1 = ps.length)
    (hbody : ∀ (cd : Value) (A : Around) (fr : List Env) (s : Shared) (H0 H1 G0 : Hp) (ap : Option Addr) (E : XK) (as : List Ar) (P0 : Pot) (ok : List (Str × D) → Pot → Prop) (ex : Ex → Pot → Prop), out (mf as) P0 ok ex → BodyX c (bX P w K mg base (x0 :: N) qual st f cd A fr s H0 E) k (fun cl dd _ H => E cl dd H) →
      ∃ (En : Addr → List (Str × D) → List Sl) (mb : M (Fl (List (Str × D)))), (∀ me a, (En me a)[0]? = some (.o (.i me cn a))) ∧ (∀ me, PSs (bX P w K mg base (x0 :: N) qual st f cd A fr s H0 E) (defBody st) (rdS c ⟨G0, H1, ap⟩ (fun cl dd _ H => E cl dd H) (slotsI me cn as (x0 :: N).length) (En me) mb)) ∧
        mf as = mb >>= doneI) :
    FnG P w K mg base (k + 1) f fd ps (spI c cn mf) := by
  refine fnI_of Fn hK hm S len fun cd A fr s H0 H1 G0 ap E as P0 ok ex h bx => ?_
  obtain ⟨En, mb, h1, h2, h3⟩ := hbody cd A fr s H0 H1 G0 ap E as P0 ok ex h bx
  refine ⟨_, En, fun a => a, mb, h1, h2, ?_⟩
  rw [h3]
  congr 1
  funext fl
  cases fl <;> rfl
end
end DL
namespace DL
open PySem PySem.Spec PyProof.Rows L2
section
variable {c : Cn} {X : Cx} {F : Fr} {W : WX} {ρ : List Sl} {k j : Nat}
def withPotE {α : Type} (ds : List D) (m : M α) : M α := fun P => match P with
  | none => match m (some ds) with
    | .ok f (some _) => .ok f none
    | .ex e (some _) => .ex e none
    | _ => .no
  | some _ => .no
theorem Rel.toPot0 {σ : L2.St} {H G : Hp} {p : Addr} {vs : List V} {ds : List D} (R : Rel c F ρ none σ H G) (hF : F.ap = none) (hp : H p = some (.lst vs)) (hg : G p = none) (h0 : Fre F.H0 p) (r : c.reps G vs ds)
    (ow : ∀ (i : Nat) k, ρ[i]? = some (.o k) → σ[i]? ≠ some (some (V.ref p))) : Rel c ⟨F.G0, F.H0, some p⟩ ρ (some ds) σ H G := by
  refine ⟨⟨R.post.ext, R.post.le, fun b o e n t => R.post.fr b o e (by rw [hF]; exact nofun) t, R.post.new, ⟨vs, hp, r, hg⟩, R.post.tab, R.post.nt⟩, R.len, fun j s x a b => ?_, R.ap⟩
  have z := R.sl j s x a b
  cases s with
  | un => exact True.intro
  | v d => exact z
  | p => obtain ⟨_, z, _⟩ := z; rw [hF] at z; cases z
  | o k =>
    obtain ⟨ad, e, u, g, h, n⟩ := z
    exact ⟨ad, e, u, g, h, fun z => ow j k a (by rw [b, e]; cases z; rfl)⟩
theorem Rel.noP {P : Pot} {σ : L2.St} {H G : Hp} (R : Rel c F ρ P σ H G) (hF : F.ap = none) : ρ.map unP = ρ := by
  apply List.ext_getElem?
  intro i
  rw [List.getElem?_map]
  cases h : ρ[i]? with
  | none => rfl
  | some s =>
    have hl : i < σ.length := by rw [R.len]; exact (List.getElem?_eq_some_iff.mp h).1
    have z := R.sl i s _ h (List.getElem?_eq_getElem hl)
    cases s with
    | p => obtain ⟨_, z, _⟩ := z; rw [hF] at z; cases z
    | _ => rfl
theorem de_callPot {mf : List Ar → M D} {m : M (List D)} {x : Str} {p pos : Pos} {e : Expr} (fn : Cal X.prog X.w c.K c.mg X.base k x (spD c mf)) (C : Ctx c X j) (hj : k ≤ j) (tk : Takes X W) (hg : Gl X x)
    (ha : PE X e (rdN c F W ρ m)) (hdb : (x == ("__debug__" : Str)) = false := by decide) (he : starEach [e] X.env = (false, eval e X.env) :: starEach [] X.env := by rfl) :
    PE X (.Call (.Name x p) [e] [] pos) (rdE c F W ρ (m >>= fun ds => withPotE ds (mf [.p]))) := by
  obtain ⟨f, fd, ps, h, hm, hk, hb⟩ := fn.ex
  have h' : FnG X.prog X.w X.K X.mg X.base k f fd ps (spD c mf) := by rw [C.K, C.mg]; exact h
  refine ⟨fun pins s σ H Q I ⟨P, G, R, q⟩ => ?_⟩
  have hx : X.mg x = some (.ref f) := by rw [C.mg]; exact hm
  have kf : PySem.W.keepIn X.K (.ref f) = true := by rw [C.K]; exact hk
  have hb' : Binds X.K fd ps [] := by rw [C.K]; exact hb
  refine wpAny_Call_Name_kw (ld_glob I hg hx ?_ hdb)
  have step := (pa_cons ha pa_nil he).run pos pins s σ H (fun vs H1 => spD c mf vs H1 Q (WE W σ)) I
    ⟨P, G, R, out_mono (out_bind.mp q) (fun ds P1 q1 p vs H1 G1 e1 R1 h1 h2 h3 h4 h5 r1 => ?_) fun _ _ z => z⟩
  · exact PySem.W.callWith_K (h₀ := X.base) I.ok.mod.kin kf (thn step fun us s1 ⟨vs, H1, I1, rv, z⟩ => ⟨I1.kIn, run_g C.ga (C.rm.mono hj) tk h' hb' I1 rv z⟩) he rfl
  · cases P1 with
    | some _ => exact q1.elim
    | none =>
      have hF : F.ap = none := by
        have z := R1.post.pot
        cases e : F.ap with
        | none => rfl
        | some a => rw [e] at z; exact z.elim
      have R2 := R1.toPot0 hF h1 h2 h3 r1 h5
      show spD c mf [.ref p] H1 Q (WE W σ)
      refine ⟨some p, G1, some ds, [.p], R2.post.refl', ⟨⟨p, rfl, rfl⟩, True.intro⟩, ?_⟩
      unfold out withPotE at q1
      unfold out
      cases hm : mf [.p] (some ds) with
      | no => simp only [hm] at q1
      | ok d P2 =>
        cases P2 with
        | none => simp only [hm] at q1
        | some ds2 =>
          simp only [hm] at q1
          intro v H' G' po r'
          have R3 := (R2.after po).ofPot hF h3
          rw [R1.noP hF] at R3
          exact q1 v H' G' (e1.trans po.ext) R3 r'
      | ex x P2 =>
        cases P2 with
        | none => simp only [hm] at q1
        | some ds2 =>
          simp only [hm] at q1
          intro cl dd H' G' po k'
          exact q1 cl dd H' G' _ (e1.trans po.ext) ((R2.after po).ofPot hF h3) k'
end
end DL
namespace DL
open PySem PySem.Spec PyProof.Rows L2
section
variable {c : Cn} {X : Cx} {F : Fr} {W : WX} {ρ : List Sl} {α β : Type}
theorem Rel.ownX {P : Pot} {σ : L2.St} {H G : Hp} {i : Nat} {p : Addr} {o : HO} {k : Cel} (R : Rel c F ρ P σ H G) (hp : H p = none) (r : CelOk c G p o k) : Rel c F (ρ.set i (.o k)) P (σ.set i (some (.ref p))) (upd H p o) G := by
  have R1 : Rel c F ρ P σ (upd H p o) G := R.newM hp
  have R2 := R1.un (i := i) (x := some (.ref p))
  have ow := R.own_at hp
  refine ⟨R2.post, by simpa using R2.len, fun j s x h1 h2 => ?_, fun j j' kk kk' b h1 h2 h3 h4 => ?_⟩
  · by_cases z : i = j
    · subst z
      rw [List.getElem?_set, if_pos rfl] at h1 h2
      split at h1
      · split at h2
        · cases h1; cases h2
          exact ⟨p, rfl, ⟨_, upd_same, r⟩, R.post.g_none hp, R.post.h0 hp, R.ne_ap hp⟩
        · cases h2
      · cases h1
    · rw [List.getElem?_set_ne z] at h1
      exact R2.sl j s x (by rw [List.getElem?_set_ne z]; exact h1) h2
  · have hit : ∀ {m : Nat}, i = m → ∀ {x : Option V}, (σ.set i (some (V.ref p)))[m]? = some x → x = some (.ref p) := fun {m} z {x} h => by
      subst z
      rw [List.getElem?_set, if_pos rfl] at h
      split at h
      · cases h; rfl
      · cases h
    by_cases z : i = j
    · by_cases z' : i = j'
      · rw [← z, ← z']
      · have e := hit z h3
        cases e
        rw [List.getElem?_set_ne z'] at h2 h4
        exact absurd h4 (ow j' kk' h2)
    · by_cases z' : i = j'
      · have e := hit z' h4
        cases e
        rw [List.getElem?_set_ne z] at h1 h3
        exact absurd h3 (ow j kk h1)
      · rw [List.getElem?_set_ne z] at h1 h3
        rw [List.getElem?_set_ne z'] at h2 h4
        exact R.ap j j' kk kk' b h1 h2 h3 h4
theorem ds_ownDT {i : Nat} {y : Str} {py dpos spos : Pos} (hN : X.N.Nodup) (hi : X.N[i]? = some y) (hx : Loc X.env.scope y)
    (hs : swapsWith (.Dict [] [] dpos) (some (.Name y py)) spos.line X.env = pure false := by rfl) (hf : X.fn y = true ∨ X.env.scope.names.lookup y = some .local := by first | exact .inl rfl | exact .inr rfl | assumption) :
    PS X (.Assign [.Name y py] (.Dict [] [] dpos) spos) (rdS c F W ρ (fun ds : List (List Key × D) => ρ.set i (.o (.dt ds))) (Pure.pure (.nx []))) := by
  refine ps_by (ps_set hN hi hx pe_dnewT hs hf) fun B σ H ⟨P, G, R, q⟩ p hp => ?_
  have q2 : ∀ σ' H' G', Ext G G' → Rel c F (ρ.set i (.o (.dt []))) P σ' H' G' → B.nx σ' H' := q
  exact q2 _ _ G (Ext.refl _) (R.ownX hp ⟨rfl, Reps.nil⟩)
theorem own_dk {P : Pot} {σ : L2.St} {H G : Hp} {i : Nat} {ds : List (Key × D)} (R : Rel c F ρ P σ H G) (hi : ρ[i]? = some (.o (.dk ds))) : ∃ a kvs, σ[i]? = some (some (.ref a)) ∧ H a = some (.dK kvs) ∧ RepK c G kvs ds ∧ G a = none ∧ Fre F.H0 a ∧ some a ≠ F.ap := by
  have hl : i < σ.length := by rw [R.len]; exact (List.getElem?_eq_some_iff.mp hi).1
  obtain ⟨a, ea, ⟨o, ho, hk⟩, g, h, n⟩ := R.sl i _ _ hi (List.getElem?_eq_getElem hl)
  cases o with
  | dK kvs => exact ⟨a, kvs, by rw [List.getElem?_eq_getElem hl, ea], ho, hk, g, h, n⟩
  | _ => exact hk.elim
/-- the same of tuples of keys -/
def RepT (c : Cn) (G : Hp) (kvs : List (List Key × V)) (ds : List (List Key × D)) : Prop := kvs.map (·.1) = ds.map (·.1) ∧ c.reps G (kvs.map (·.2)) (ds.map (·.2))
theorem own_dt {P : Pot} {σ : L2.St} {H G : Hp} {i : Nat} {ds : List (List Key × D)} (R : Rel c F ρ P σ H G) (hi : ρ[i]? = some (.o (.dt ds))) : ∃ a kvs, σ[i]? = some (some (.ref a)) ∧ H a = some (.dT kvs) ∧ RepT c G kvs ds ∧ G a = none ∧ Fre F.H0 a ∧ some a ≠ F.ap := by
  have hl : i < σ.length := by rw [R.len]; exact (List.getElem?_eq_some_iff.mp hi).1
  obtain ⟨a, ea, ⟨o, ho, hk⟩, g, h, n⟩ := R.sl i _ _ hi (List.getElem?_eq_getElem hl)
  cases o with
  | dT kvs => exact ⟨a, kvs, by rw [List.getElem?_eq_getElem hl, ea], ho, hk, g, h, n⟩
  | _ => exact hk.elim
/-- d[k] = v as data -/
def putX {κ : Type} [DecidableEq κ] (ds : List (κ × D)) (k : κ) (v : D) : List (κ × D) :=
  if (ds.any fun kv => decide (kv.1 = k)) = true then ds.map (fun kv => if kv.1 = k then (kv.1, v) else kv) else ds ++ [(k, v)]
def getX {κ : Type} [DecidableEq κ] (ds : List (κ × D)) (k : κ) : Option D := (ds.find? fun kv => decide (kv.1 = k)).map (·.2)
section
variable {κ : Type} [DecidableEq κ]
def RepX (c : Cn) (G : Hp) (kvs : List (κ × V)) (ds : List (κ × D)) : Prop := kvs.map (·.1) = ds.map (·.1) ∧ c.reps G (kvs.map (·.2)) (ds.map (·.2))
theorem any_keysX {β γ : Type} (k : κ) : ∀ {kvs : List (κ × β)} {ds : List (κ × γ)}, kvs.map (·.1) = ds.map (·.1) → (kvs.any fun kv => decide (kv.1 = k)) = ds.any fun kv => decide (kv.1 = k)
  | [], [], _ => rfl
  | [], _ :: _, h => by simp at h
  | _ :: _, [], h => by simp at h
  | p :: r, q :: s, h => by
    simp only [List.map_cons, List.cons.injEq] at h
    rw [List.any_cons, List.any_cons, h.1, any_keysX k h.2]
theorem put_mapX {G : Hp} {k : κ} {v : V} {d : D} (r : c.rep G v d) : ∀ {kvs : List (κ × V)} {ds : List (κ × D)}, RepX c G kvs ds → RepX c G (kvs.map fun kv => if kv.1 = k then (kv.1, v) else kv) (ds.map fun kv => if kv.1 = k then (kv.1, d) else kv)
  | [], [], _ => ⟨rfl, Reps.nil⟩
  | [], _ :: _, h => by have := h.1; simp at this
  | _ :: _, [], h => by have := h.1; simp at this
  | p :: kvs, q :: ds, h => by
    obtain ⟨h1, h2⟩ := h
    simp only [List.map_cons, List.cons.injEq] at h1
    have ih := put_mapX (k := k) r (kvs := kvs) (ds := ds) ⟨h1.2, Reps.tail h2⟩
    have hd : c.rep G p.2 q.2 := Reps.head h2
    refine ⟨?_, ?_⟩
    · simp only [List.map_cons, List.cons.injEq]
      refine ⟨?_, ih.1⟩
      rw [h1.1]
      split <;> simp [h1.1]
    · simp only [List.map_cons]
      refine Reps.cons ?_ ih.2
      rw [h1.1]
      split
      · exact r
      · exact hd
theorem RepX.put {G : Hp} {k : κ} {v : V} {d : D} (r : c.rep G v d) {kvs : List (κ × V)} {ds : List (κ × D)} (h : RepX c G kvs ds) : RepX c G (if (kvs.any fun kv => decide (kv.1 = k)) = true then kvs.map (fun kv => if kv.1 = k then (kv.1, v) else kv) else kvs ++ [(k, v)]) (putX ds k d) := by
  unfold putX
  rw [any_keysX k h.1]
  split
  · exact put_mapX r h
  · refine ⟨by simp [h.1], ?_⟩
    rw [List.map_append, List.map_append]
    exact h.2.append (Reps.cons r Reps.nil)
theorem RepX.get {G : Hp} {k : κ} {d : D} : ∀ {kvs : List (κ × V)} {ds : List (κ × D)}, RepX c G kvs ds → getX ds k = some d → ∃ v, ((kvs.find? fun kv => decide (kv.1 = k)).map (·.2)) = some v ∧ c.rep G v d
  | [], [], _, h => by cases h
  | [], _ :: _, h, _ => by have := h.1; simp at this
  | _ :: _, [], h, _ => by have := h.1; simp at this
  | p :: kvs, q :: ds, ⟨h1, h2⟩, h => by
    simp only [List.map_cons, List.cons.injEq] at h1
    unfold getX at h
    rw [List.find?_cons] at h ⊢
    rw [h1.1]
    by_cases z : q.1 = k
    · rw [decide_eq_true z] at h ⊢
      simp only [Option.map_some, Option.some.injEq] at h
      subst h
      exact ⟨_, rfl, Reps.head h2⟩
    · rw [decide_eq_false z] at h ⊢
      exact RepX.get (kvs := kvs) (ds := ds) ⟨h1.2, Reps.tail h2⟩ h
theorem RepX.len {G : Hp} {kvs : List (κ × V)} {ds : List (κ × D)} (h : RepX c G kvs ds) : kvs.length = ds.length := by
  have := congrArg List.length h.1
  simpa using this
theorem RepX.mono {G G' : Hp} (e : Ext G G') {kvs : List (κ × V)} {ds : List (κ × D)} (h : RepX c G kvs ds) : RepX c G' kvs ds := ⟨h.1, h.2.mono e⟩
end
/-- x[k] = e, k an int or a text -/
theorem ds_putK {i : Nat} {ds : List (Key × D)} {x : Str} {p p2 pos : Pos} {ke e : Expr} {me mk : M D} (hu : X.A.units + 1 < cLine) (hi : ρ[i]? = some (.o (.dk ds))) (hx : PE X (.Name x p) (tVar i)) (he : PE X e (rdE c F W ρ me)) (hk : PE X ke (rdE c F W ρ mk))
    (hs : swapsWith e (some (.Subscript (.Name x p) ke p2)) pos.line X.env = pure false := by rfl) :
    PS X (.Assign [.Subscript (.Name x p) ke p2] e pos) (rdS c F W ρ (fun ds => ρ.set i (.o (.dk ds))) (me >>= fun d => mk >>= fun y => keyM y >>= fun k => if ds.length < sizeLine then Pure.pure (.nx (putX ds k d)) else M.no)) := by
  refine ps_by (ps_dput hu hx hk he hs) fun B σ H ⟨P, G, R, q⟩ => ?_
  refine ⟨P, G, R, out_mono (out_bind.mp q) (fun d P1 q1 v H1 G1 e1 R1 r1 => ?_) fun _ _ z => exS.w z⟩
  obtain ⟨a, kvs, ea, -⟩ := own_dk R1 hi
  refine ⟨.ref a, ea, P1, G1, R1, out_mono (out_bind.mp q1) (fun y P2 q2 w H2 G2 e2 R2 r2 => ?_) fun _ _ z => exW_le (P := P) e1 (exS.w z)⟩
  obtain ⟨k, rfl, q3⟩ := keyM_out (out_bind.mp q2)
  obtain ⟨a', kvs2, ea', h2, rk, -⟩ := own_dk R2 hi
  rw [ea] at ea'
  cases ea'
  by_cases z : ds.length < sizeLine
  · rw [if_pos z] at q3
    have q4 : ∀ σ' H' G', Ext G G' → Rel c F (ρ.set i (.o (.dk (putX ds k d)))) P2 σ' H' G' → B.nx σ' H' := q3
    have rp : RepX c G2 (putK kvs2 k v) (putX ds k d) := RepX.put (r1.mono e2) rk
    exact ⟨a, _, rfl, .inl ⟨kvs2, k, h2, rep_key r2, by rw [RepX.len rk]; exact z, rfl⟩, q4 σ _ G2 (e1.trans e2) (R2.upd_own hi ea rp)⟩
  · rw [if_neg z] at q3; exact q3.elim
def keyL : List D → M (List Key)
  | [] => Pure.pure []
  | d :: ds => keyM d >>= fun k => keyL ds >>= fun ks => Pure.pure (k :: ks)
theorem keyL_out : ∀ {ys : List D} {P : Pot} {ok : List Key → Pot → Prop} {ex : Ex → Pot → Prop}, out (keyL ys) P ok ex → ∃ ks : List Key, ys = ks.map keyD ∧ ok ks P
  | [], _, _, _, h => ⟨[], rfl, h⟩
  | y :: ys, P, ok, ex, h => by
    obtain ⟨k, rfl, h2⟩ := keyM_out (out_bind.mp h)
    obtain ⟨ks, rfl, h3⟩ := keyL_out (out_bind.mp h2)
    exact ⟨k :: ks, rfl, h3⟩
theorem keys_of {G : Hp} : ∀ {vs : List V} {ks : List Key}, c.reps G vs (ks.map keyD) → vs = ks.map kV
  | [], [], _ => rfl
  | [], _ :: _, h => by have := h.1; simp at this
  | _ :: _, [], h => by have := h.1; simp at this
  | v :: vs, k :: ks, h => by
    rw [List.map_cons, ← keys_of (vs := vs) (ks := ks) (Reps.tail h), rep_key (Reps.head h)]
theorem keysV_of {G : Hp} : ∀ ks : List Key, c.reps G (ks.map kV) (ks.map keyD)
  | [] => Reps.nil
  | .inl i :: ks => Reps.cons (.int i) (keysV_of ks)
  | .inr x :: ks => Reps.cons (.str x) (keysV_of ks)
/-- x[k, ..] = e -/
theorem ds_putT {i : Nat} {ds : List (List Key × D)} {x : Str} {kk : Nat} {p p2 p3 pos : Pos} {es : List Expr} {e : Expr} {me : M D} {ms : M (List Ar)} (hu : X.A.units + 1 < cLine) (hi : ρ[i]? = some (.o (.dt ds))) (hx : PE X (.Name x p) (tVar i)) (he : PE X e (rdE c F W ρ me)) (hk : PA X es (rdA c F W ρ ms))
    (hs : swapsWith e (some (.Subscript (.Name x p) (.Tuple es kk p3) p2)) pos.line X.env = pure false := by rfl) :
    PS X (.Assign [.Subscript (.Name x p) (.Tuple es kk p3) p2] e pos) (rdS c F W ρ (fun ds => ρ.set i (.o (.dt ds))) (me >>= fun d => ms >>= fun as => DL.vals as >>= fun ys => keyL ys >>= fun k => if ds.length < sizeLine ∧ k.length ≤ sizeLine then Pure.pure (.nx (putX ds k d)) else M.no)) := by
  refine ps_by (ps_dput hu hx (pe_tup hk) he hs) fun B σ H ⟨P, G, R, q⟩ => ?_
  refine ⟨P, G, R, out_mono (out_bind.mp q) (fun d P1 q1 v H1 G1 e1 R1 r1 => ?_) fun _ _ z => exS.w z⟩
  obtain ⟨a, kvs, ea, -⟩ := own_dt R1 hi
  refine ⟨.ref a, ea, P1, G1, R1, out_mono (out_bind.mp q1) (fun as P2 q2 ws H2 G2 e2 R2 r2 => ?_) fun _ _ z => exW_le (P := P) e1 (exS.w z)⟩
  obtain ⟨ys, r3, q3⟩ := r2.reps (out_bind.mp q2)
  obtain ⟨k, rfl, q4⟩ := keyL_out (out_bind.mp q3)
  have ew := keys_of r3
  subst ew
  by_cases z : ds.length < sizeLine ∧ k.length ≤ sizeLine
  · rw [if_pos z] at q4
    have q5 : ∀ σ' H' G', Ext G G' → Rel c F (ρ.set i (.o (.dt (putX ds k d)))) P2 σ' H' G' → B.nx σ' H' := q4
    refine ⟨by rw [List.length_map]; exact z.2, fun b hb => ?_⟩
    obtain ⟨R3, e3⟩ := R2.new hb (o := .tup (k.map kV)) nt_tup
    obtain ⟨a', kvs2, ea', h2, rk, -⟩ := own_dt R3 hi
    rw [ea] at ea'
    cases ea'
    have rp : RepX c _ (putK kvs2 k v) (putX ds k d) := RepX.put ((r1.mono e2).mono e3) rk
    exact ⟨a, _, rfl, .inr ⟨kvs2, k, b, h2, rfl, upd_same, by rw [RepX.len rk]; exact z.1, rfl⟩, q5 σ _ _ (e1.trans (e2.trans e3)) (R3.upd_own hi ea rp)⟩
  · rw [if_neg z] at q4; exact q4.elim
end
end DL
namespace DL
open PySem PySem.Spec PyProof.Rows L2
section
variable {c : Cn} {X : Cx} {F : Fr} {W : WX} {ρ : List Sl} {α β : Type}
/-- what one has made is let go: from here on a value -/
theorem Rel.letgoX {P : Pot} {σ : L2.St} {H G : Hp} {i : Nat} {k : Cel} {d : D} (R : Rel c F ρ P σ H G) (hi : ρ[i]? = some (.o k))
    (hd : ∀ a o, H a = some o → CelOk c G a o k → noTbl o ∧ (Ext G (upd G a o) → c.rep (upd G a o) (.ref a) d)) : ∃ G', Ext G G' ∧ Rel c F (ρ.set i (.v d)) P σ H G' := by
  have hlt : i < ρ.length := (List.getElem?_eq_some_iff.mp hi).1
  have hl : i < σ.length := by rw [R.len]; exact hlt
  obtain ⟨a, ea, ⟨o, ho, hk⟩, g, h, n⟩ := R.sl i _ _ hi (List.getElem?_eq_getElem hl)
  have hat : σ[i]? = some (some (V.ref a)) := by rw [List.getElem?_eq_getElem hl, ea]
  obtain ⟨nt, hr⟩ := hd a o ho hk
  have eσ : σ.set i (some (.ref a)) = σ := by
    apply List.ext_getElem?
    intro j
    rw [List.getElem?_set]
    by_cases z : i = j
    · subst z
      rw [if_pos rfl, if_pos hl]; exact hat.symm
    · rw [if_neg z]
  have R0 := R.un (i := i) (x := some (.ref a))
  rw [eσ] at R0
  obtain ⟨R1, e1⟩ := R0.freeze ho nt h n (fun j kk hj hs => by
    by_cases z : i = j
    · subst z; rw [List.getElem?_set] at hj; simp at hj
    · rw [List.getElem?_set_ne z] at hj
      exact z (R.ap i j _ kk a hi hj hat hs)) g
  refine ⟨_, e1, ?_⟩
  have R2 := R1.set (i := i) (v := .ref a) (d := d) (hr e1)
  rw [List.set_set, eσ] at R2
  exact R2
theorem ds_letgoX {ss : List Stmt} {E : α → List Sl} {i : Nat} {k : Cel} {d : D} {m : M (Fl α)} (hi : ρ[i]? = some (.o k)) (hd : ∀ (G H : Hp) a o, H a = some o → CelOk c G a o k → noTbl o ∧ (Ext G (upd G a o) → c.rep (upd G a o) (.ref a) d)) (h : PSs X ss (rdS c F W (ρ.set i (.v d)) E m)) : PSs X ss (rdS c F W ρ E m) :=
  pss_by h fun B σ H ⟨P, G, R, q⟩ => by
    obtain ⟨G', e, R'⟩ := R.letgoX hi (hd G H)
    refine ⟨P, G', R', out_mono q (fun f P' z => ?_) fun x p z => exS_le e z⟩
    cases f with
    | nx a => exact fun σ' H' G2 e2 R2 => z σ' H' G2 (e.trans e2) R2
    | bk a => exact fun σ' H' G2 e2 R2 => z σ' H' G2 (e.trans e2) R2
    | ct a => exact fun σ' H' G2 e2 R2 => z σ' H' G2 (e.trans e2) R2
    | rt d => exact fun v H' G2 ρ' σ' e2 R2 k => z v H' G2 ρ' σ' (e.trans e2) R2 k
theorem celK {G H : Hp} {ds : List (Key × D)} (a : Addr) (o : HO) (ho : H a = some o) (hk : CelOk c G a o (.dk ds)) : noTbl o ∧ (Ext G (upd G a o) → c.rep (upd G a o) (.ref a) (dicD ds)) := by
  cases o with
  | dK kvs =>
    have hk : RepX c G kvs ds := hk
    refine ⟨nt_dK, fun e => .dicK upd_same ?_ fun i kv dv h1 h2 => ?_⟩
    · rw [List.map_map]
      have : (List.map (fun p => keyD p.1) kvs) = (kvs.map (·.1)).map keyD := by rw [List.map_map]; rfl
      rw [this, hk.1, List.map_map]
      rfl
    · rw [List.getElem?_map, Option.map_eq_some_iff] at h2
      obtain ⟨pd, h2, rfl⟩ := h2
      exact (hk.2.2 i kv.2 pd.2 (by rw [List.getElem?_map, h1]; rfl) (by rw [List.getElem?_map, h2]; rfl)).mono e
  | _ => exact hk.elim
def dicT (ds : List (List Key × D)) : D := .dic (ds.map fun p => (.tup (p.1.map keyD), p.2))
theorem ds_letgoK {ss : List Stmt} {E : α → List Sl} {i : Nat} {ds : List (Key × D)} {m : M (Fl α)} (hi : ρ[i]? = some (.o (.dk ds))) (h : PSs X ss (rdS c F W (ρ.set i (.v (dicD ds))) E m)) : PSs X ss (rdS c F W ρ E m) := ds_letgoX hi (fun _ _ => celK) h
/-- a tuple that lies there may be known -/
theorem Rel.freezeT {P : Pot} {σ : L2.St} {H G : Hp} {b : Addr} {vs : List V} (R : Rel c F ρ P σ H G) (hb : H b = some (.tup vs)) : ∃ G', Rel c F ρ P σ H G' ∧ Ext G G' ∧ G' b = some (.tup vs) := by
  cases hg : G b with
  | some o =>
    have := R.post.le b o hg
    rw [hb] at this
    cases this
    exact ⟨G, R, Ext.refl _, hg⟩
  | none =>
    have ne : ∀ a u, G a = some u → a ≠ b := fun a u e z => by rw [z, hg] at e; cases e
    have ex : Ext G (upd G b (.tup vs)) := fun a u e => by rw [upd_ne (ne a u e)]; exact e
    have apne : ∀ a, F.ap = some a → a ≠ b := fun a e z => by
      have y := R.post.pot
      rw [e] at y
      cases P with
      | none => exact y.elim
      | some ds =>
        obtain ⟨ws, y, _⟩ := y
        rw [z, hb] at y
        cases y
    refine ⟨upd G b (.tup vs), ⟨⟨R.post.ext.trans ex, fun a u e => ?_, R.post.fr, fun a e => ?_, R.post.pot.ext ex (fun _ _ => rfl) (fun a e => ?_), R.post.tab, fun a u e => ?_⟩, R.len, fun i s x h1 h2 => ?_, R.ap⟩, ex, upd_same⟩
    · by_cases z : a = b
      · subst z; rw [upd_same] at e; cases e; exact hb
      · rw [upd_ne z] at e; exact R.post.le a u e
    · by_cases z : a = b
      · subst z; exact .inr (.inr ⟨vs, upd_same⟩)
      · rw [upd_ne z] at e
        rcases R.post.new a e with y | y | ⟨ws, y⟩
        · exact .inl y
        · exact .inr (.inl y)
        · exact .inr (.inr ⟨ws, ex _ _ y⟩)
    · rw [upd_ne (apne a e)]
      have z := R.post.pot
      rw [e] at z
      cases P with
      | none => exact z.elim
      | some ds => obtain ⟨_, _, _, z⟩ := z; exact z
    · by_cases z : a = b
      · subst z; rw [upd_same] at e; cases e; exact nt_tup
      · rw [upd_ne z] at e; exact R.post.nt a u e
    · have z := R.sl i s x h1 h2
      cases s with
      | un => exact True.intro
      | v d => obtain ⟨v, e, r⟩ := z; exact ⟨v, e, r.mono ex⟩
      | p => exact z
      | o k =>
        obtain ⟨ad, e, ⟨u, hu, hk⟩, g, h, q⟩ := z
        subst e
        have mono : ∀ {vs' ds}, c.reps G vs' ds → c.reps (upd G b (.tup vs)) vs' ds := fun h => h.mono ex
        have nab : ad ≠ b := fun z => by
          rw [z, hb] at hu
          cases hu
          exact hk.elim
        refine ⟨ad, rfl, ⟨u, hu, ?_⟩, by rw [upd_ne nab]; exact g, h, q⟩
        cases u <;> cases k <;> first | exact hk.elim | exact mono hk | exact ⟨hk.1, mono hk.2⟩ | exact ⟨hk.1, hk.2.1, mono hk.2.2⟩ | exact ⟨hk.1, hk.2.1, hk.2.2.1, mono hk.2.2.2⟩
theorem freezeTs {P : Pot} {σ : L2.St} {H : Hp} {kvs : List (List Key × V)} {bs : List Addr} (h : IsKeys H kvs bs) : ∀ {G : Hp}, Rel c F ρ P σ H G → ∃ G', Rel c F ρ P σ H G' ∧ Ext G G' ∧ c.reps G' (bs.map V.ref) (kvs.map fun p => .tup (p.1.map keyD)) := by
  unfold IsKeys at h
  induction h with
  | nil => exact fun R => ⟨_, R, Ext.refl _, Reps.nil⟩
  | @cons p b kvs bs hb t ih =>
    intro G R
    obtain ⟨G1, R1, e1, h1⟩ := R.freezeT hb
    obtain ⟨G2, R2, e2, h2⟩ := ih R1
    have r := keysV_of (c := c) (G := G2) p.1
    exact ⟨G2, R2, e1.trans e2, Reps.cons (.tup (SqT.of (e2 _ _ h1)) r.1 r.2) h2⟩
/-- list(x), x a dict of one's own with tuples as keys -/
theorem de_listT {i : Nat} {ds : List (List Key × D)} {x y : Str} {p p2 pos : Pos} (hc : X.calm = true) (hi : ρ[i]? = some (.o (.dt ds))) (hx : PE X (.Name x p2) (tVar i)) (hg : Gl X y) (hm : X.mg y = none) (hv : bootBuiltins y = some (.type "list"))
    (hn : y ≠ "__name__" := by decide) (hdb : (y == ("__debug__" : Str)) = false := by decide) (he1 : starEach [.Name x p2] X.env = [(false, eval (.Name x p2) X.env)] := by rfl) :
    PE X (.Call (.Name y p) [.Name x p2] [] pos) (rdE c F W ρ (Pure.pure (.lst (ds.map fun p => .tup (p.1.map keyD))))) := by
  refine pe_by (pe_callTy (call_list_dT hc) hg hm hv (pa_cons hx pa_nil he1) hn hdb he1 rfl) fun σ H Q ⟨P, G, R, q⟩ => ?_
  obtain ⟨a, kvs, ea, ha, rk, -⟩ := own_dt R hi
  refine ⟨.ref a, ea, a, kvs, rfl, .of ha, fun p bs hp hk => ?_⟩
  obtain ⟨G1, R1, e1, r1⟩ := freezeTs hk R
  obtain ⟨R2, e2⟩ := R1.new hp (o := .lst (bs.map V.ref)) nt_lst
  have q2 : ∀ v H' G', Ext G G' → Rel c F ρ P σ H' G' → c.rep G' v (.lst (ds.map fun p => .tup (p.1.map keyD))) → Q v H' := q
  have ed : (kvs.map fun p => D.tup (p.1.map keyD)) = ds.map fun p => D.tup (p.1.map keyD) := by
    have := congrArg (List.map fun k : List Key => D.tup (k.map keyD)) rk.1
    rw [List.map_map, List.map_map] at this
    exact this
  rw [ed] at r1
  exact q2 _ _ _ (e1.trans e2) R2 (.lst upd_same r1.1 fun i v d a b => (r1.2 i v d a b).mono e2)
end
end DL
namespace DL
open PySem PySem.Spec PyProof.Rows L2
section
variable {c : Cn} {X : Cx} {F : Fr} {W : WX} {ρ : List Sl} {α β : Type}
/-- an object that nobody has becomes one's own -/
theorem Rel.ownAt {P : Pot} {σ : L2.St} {H G : Hp} {i : Nat} {p : Addr} {o : HO} {k : Cel} (R : Rel c F ρ P σ H G) (ho : H p = some o) (r : CelOk c G p o k) (hg : G p = none) (h0 : Fre F.H0 p) (na : some p ≠ F.ap)
    (ow : ∀ (i : Nat) k, ρ[i]? = some (.o k) → σ[i]? ≠ some (some (V.ref p))) : Rel c F (ρ.set i (.o k)) P (σ.set i (some (.ref p))) H G := by
  have R2 := R.un (i := i) (x := some (.ref p))
  refine ⟨R2.post, by simpa using R2.len, fun j s x h1 h2 => ?_, fun j j' kk kk' b h1 h2 h3 h4 => ?_⟩
  · by_cases z : i = j
    · subst z
      rw [List.getElem?_set, if_pos rfl] at h1 h2
      split at h1
      · split at h2
        · cases h1; cases h2
          exact ⟨p, rfl, ⟨_, ho, r⟩, hg, h0, na⟩
        · cases h2
      · cases h1
    · rw [List.getElem?_set_ne z] at h1
      exact R2.sl j s x (by rw [List.getElem?_set_ne z]; exact h1) h2
  · have hit : ∀ {m : Nat}, i = m → ∀ {x : Option V}, (σ.set i (some (V.ref p)))[m]? = some x → x = some (.ref p) := fun {m} z {x} h => by
      subst z
      rw [List.getElem?_set, if_pos rfl] at h
      split at h
      · cases h; rfl
      · cases h
    by_cases z : i = j
    · by_cases z' : i = j'
      · rw [← z, ← z']
      · have e := hit z h3
        cases e
        rw [List.getElem?_set_ne z'] at h2 h4
        exact absurd h4 (ow j' kk' h2)
    · by_cases z' : i = j'
      · have e := hit z' h4
        cases e
        rw [List.getElem?_set_ne z] at h1 h3
        exact absurd h3 (ow j kk h1)
      · rw [List.getElem?_set_ne z] at h1 h3
        rw [List.getElem?_set_ne z'] at h2 h4
        exact R.ap j j' kk kk' b h1 h2 h3 h4
def mkDicL (ps : List (Key × D)) : M (List (Key × D)) := if (ps.map (·.1)).Nodup ∧ ps.length ≤ 15 then Pure.pure ps else M.no
/-- x = {k: v, ..} -/
theorem ds_ownDisp {i : Nat} {y : Str} {py dpos spos : Pos} {keys : List (Option Expr)} {values : List Expr} {ls : List (Key × M D)} (hN : X.N.Nodup) (hi : X.N[i]? = some y) (hx : Loc X.env.scope y) (h : PPs X dpos keys values (prs c F.ap W ρ ls))
    (hall : keys.all (·.isSome) = true := by rfl) (hl : keys.length = values.length := by rfl) (h0 : keys ≠ [] := by simp) (h15 : keys.length ≤ 15 := by decide)
    (hs : swapsWith (.Dict keys values dpos) (some (.Name y py)) spos.line X.env = pure false := by rfl) (hf : X.fn y = true ∨ X.env.scope.names.lookup y = some .local := by first | exact .inl rfl | exact .inr rfl | assumption) :
    PS X (.Assign [.Name y py] (.Dict keys values dpos) spos) (rdS c F W ρ (fun ds : List (Key × D) => ρ.set i (.o (.dk ds))) (dicM ls >>= fun ps => mkDicL ps >>= fun ps => Pure.pure (.nx ps))) := by
  refine ps_by (ps_set hN hi hx (pe_disp h hall hl h0 h15) hs hf) fun B σ H ⟨P, G, R, q⟩ p hp => ?_
  have R1 : Rel c F ρ P σ (upd H p (.dK [])) G := R.newM hp
  have gp := R.post.g_none hp
  have h0 := R.post.h0 hp
  have na := R.ne_ap hp
  have ow := R.own_at hp
  refine pairs_rd (G0 := G) (H0 := upd H p (.dK [])) R1.sub (out_mono (out_bind.mp q) (fun ps P2 q2 kvs H2 G2 e2 R2 hk hr => ?_) fun e P' z cl dd H' G' ρ' e' R' x => z cl dd H' G' ρ σ e' (R1.after R'.post) x)
  have A2 := R1.after R2.post
  have hp2 : H2 p = some (.dK []) := R2.post.fr p _ upd_same na nt_dK
  have gp2 : G2 p = none := by
    cases z : G2 p with
    | none => rfl
    | some u =>
      rcases R2.post.new p (by rw [z]; simp) with y | y | ⟨_, y⟩
      · exact absurd gp y
      · exact (Fre.no (H := upd H p (.dK [])) y upd_same (fun _ q => nomatch q)).elim
      · have z := R2.post.le _ _ y
        rw [hp2] at z
        cases z
  have q2 := out_bind.mp q2
  unfold mkDicL at q2
  by_cases hn : (ps.map (·.1)).Nodup ∧ ps.length ≤ 15
  · simp only [if_pos hn] at q2
    have lk : kvs.length = ps.length := by have := congrArg List.length hk; simpa using this
    refine ⟨hp2, kvs, rfl, by omega, ?_⟩
    rw [mergeK_nodup kvs [] (by rw [List.map_nil, List.nil_append, hk]; exact hn.1), List.nil_append]
    have B1 : Rel c F ρ P2 σ (upd H2 p (.dK kvs)) G2 := A2.at gp2 h0 na (fun u e => by rw [hp2] at e; cases e; exact ⟨nofun, nofun⟩) ow
    have q3 : ∀ σ' H' G', Ext G G' → Rel c F (ρ.set i (.o (.dk ps))) P2 σ' H' G' → B.nx σ' H' := q2
    exact q3 _ _ G2 e2 (B1.ownAt upd_same (show CelOk c G2 p (.dK kvs) (.dk ps) from ⟨hk, hr⟩) gp2 h0 na ow)
  · simp only [if_neg hn] at q2
    exact q2.elim
end
end DL
namespace DL
open PySem PySem.Spec PyProof.Rows L2
end DL
namespace DL
open PySem PySem.Spec PyProof.Rows L2
section
variable {c : Cn} {X : Cx} {F : Fr} {W : WX} {ρ : List Sl}
def rngOk (a b : Int) : Prop := 0 ≤ a ∧ a ≤ 16777216 ∧ 0 ≤ b ∧ b ≤ 16777216
instance {a b : Int} : Decidable (rngOk a b) := by unfold rngOk; infer_instance
def rngL : D → M D
  | .int j => if rngOk 0 j then Pure.pure (.lst (rngs 0 j)) else M.no
  | _ => M.no
def rngT : D → M D
  | .int j => if rngOk 0 j then Pure.pure (.tup (rngs 0 j)) else M.no
  | _ => M.no
theorem reps_rg {G : Hp} (a b : Int) : c.reps G (rgV a b) (rngs a b) := by
  unfold rgV rngs
  refine ⟨by rw [List.length_map, List.length_map], fun i v d h1 h2 => ?_⟩
  rw [List.getElem?_map, Option.map_eq_some_iff] at h1 h2
  obtain ⟨x, hx, rfl⟩ := h1
  obtain ⟨y, hy, rfl⟩ := h2
  rw [hx] at hy
  cases hy
  exact .int _
theorem rng_fin {P : Pot} {σ : L2.St} {H G : Hp} {Q : VK} (R : Rel c F ρ P σ H G) {a b : Int} (q : ∀ v H' G', Ext G G' → Rel c F ρ P σ H' G' → c.rep G' v (.lst (rngs a b)) → Q v H') : ∀ p, H p = none → Q (.ref p) (upd H p (.lst (rgV a b))) := fun p hp => by
  obtain ⟨R2, e2⟩ := R.new hp (o := .lst (rgV a b)) nt_lst
  have r := reps_rg (c := c) (G := upd G p (.lst (rgV a b))) a b
  exact q _ _ _ e2 R2 (.lst upd_same r.1 r.2)
theorem rng_finT {P : Pot} {σ : L2.St} {H G : Hp} {Q : VK} (R : Rel c F ρ P σ H G) {a b : Int} (q : ∀ v H' G', Ext G G' → Rel c F ρ P σ H' G' → c.rep G' v (.tup (rngs a b)) → Q v H') : ∀ p, H p = none → Q (.ref p) (upd H p (.tup (rgV a b))) := fun p hp => by
  obtain ⟨R2, e2⟩ := R.new hp (o := .tup (rgV a b)) nt_tup
  have r := reps_rg (c := c) (G := upd G p (.tup (rgV a b))) a b
  exact q _ _ _ e2 R2 (.tup (SqT.of upd_same) r.1 r.2)
theorem rg_ok {a b : Int} (h : rngOk a b) : RgOk a b := .of_le h.1 h.2.2.2 h.2.1 h.2.2.1
/-- list(range(n)) -/
theorem de_listRg {a : Expr} {p p2 pos pos2 : Pos} {ma : M D} (hc : X.calm = true) (hg : Gl X "list") (hm : X.mg "list" = none) (hg2 : Gl X "range") (hm2 : X.mg "range" = none) (ha : PE X a (rdE c F W ρ ma))
    (na : starEach [a] X.env = (false, eval a X.env) :: starEach [] X.env := by rfl) (nb : starEach [.Call (.Name "range" p2) [a] [] pos2] X.env = (false, eval (.Call (.Name "range" p2) [a] [] pos2) X.env) :: starEach [] X.env := by rfl) :
    PE X (.Call (.Name "list" p) [.Call (.Name "range" p2) [a] [] pos2] [] pos) (rdE c F W ρ (ma >>= rngL)) := by
  refine pe_by (pe_listRg hc hg hm (prg_1 hg2 hm2 ha na) nb) fun σ H Q ⟨P, G, R, q⟩ => ?_
  refine ⟨P, G, R, out_mono (out_bind.mp q) (fun x P1 q1 v H1 G1 e1 R1 r1 => ?_) fun _ _ z => z⟩
  cases x with
  | int j =>
    unfold rngL at q1
    by_cases z : rngOk 0 j
    · simp only [if_pos z] at q1
      have q2 : ∀ v H' G', Ext G G' → Rel c F ρ P1 σ H' G' → c.rep G' v (.lst (rngs 0 j)) → Q v H' := q1
      exact ⟨j, r1.int_of, rg_ok z, rng_fin R1 fun v H' G' e => q2 v H' G' (e1.trans e)⟩
    · simp only [if_neg z] at q1; exact q1.elim
  | _ => exact q1.elim
/-- tuple(range(n)) -/
theorem de_tupRg {a : Expr} {p p2 pos pos2 : Pos} {ma : M D} (hc : X.calm = true) (hg : Gl X "tuple") (hm : X.mg "tuple" = none) (hg2 : Gl X "range") (hm2 : X.mg "range" = none) (ha : PE X a (rdE c F W ρ ma))
    (na : starEach [a] X.env = (false, eval a X.env) :: starEach [] X.env := by rfl) (nb : starEach [.Call (.Name "range" p2) [a] [] pos2] X.env = (false, eval (.Call (.Name "range" p2) [a] [] pos2) X.env) :: starEach [] X.env := by rfl) :
    PE X (.Call (.Name "tuple" p) [.Call (.Name "range" p2) [a] [] pos2] [] pos) (rdE c F W ρ (ma >>= rngT)) := by
  refine pe_by (pe_tupRg hc hg hm (prg_1 hg2 hm2 ha na) nb) fun σ H Q ⟨P, G, R, q⟩ => ?_
  refine ⟨P, G, R, out_mono (out_bind.mp q) (fun x P1 q1 v H1 G1 e1 R1 r1 => ?_) fun _ _ z => z⟩
  cases x with
  | int j =>
    unfold rngT at q1
    by_cases z : rngOk 0 j
    · simp only [if_pos z] at q1
      have q2 : ∀ v H' G', Ext G G' → Rel c F ρ P1 σ H' G' → c.rep G' v (.tup (rngs 0 j)) → Q v H' := q1
      exact ⟨j, r1.int_of, rg_ok z, rng_finT R1 fun v H' G' e => q2 v H' G' (e1.trans e)⟩
    · simp only [if_neg z] at q1; exact q1.elim
  | _ => exact q1.elim
end
end DL
namespace DL
open PySem PySem.Spec PyProof.Rows L2
section
variable {c : Cn} {X : Cx} {F : Fr} {W : WX} {ρ : List Sl}
def mulL : D → D → M (List D)
  | .lst xs, .int k => if -(2 ^ 63) ≤ k ∧ k < 2 ^ 63 ∧ xs.length * k.toNat ≤ sizeLine then Pure.pure (List.replicate k.toNat xs).flatten else M.no
  | _, _ => M.no
end
end DL
namespace DL
open PySem PySem.Spec PyProof.Rows L2
section
variable {c : Cn} {X : Cx} {F : Fr} {W : WX} {ρ : List Sl}
theorem own_l {P : Pot} {σ : L2.St} {H G : Hp} {i : Nat} {ds : List D} (R : Rel c F ρ P σ H G) (hi : ρ[i]? = some (.o (.l ds))) : ∃ a vs, σ[i]? = some (some (.ref a)) ∧ H a = some (.lst vs) ∧ c.reps G vs ds := by
  have hl : i < σ.length := by rw [R.len]; exact (List.getElem?_eq_some_iff.mp hi).1
  obtain ⟨a, ea, ⟨o, ho, hk⟩, g, h, n⟩ := R.sl i _ _ hi (List.getElem?_eq_getElem hl)
  cases o with
  | lst vs => exact ⟨a, vs, by rw [List.getElem?_eq_getElem hl, ea], ho, hk⟩
  | _ => exact hk.elim
def ixL (ds : List D) : D → M D
  | .int k => M.some (atI ds k)
  | _ => M.no
def setL (ds : List D) (d : D) : D → M (List D)
  | .int k => M.some ((ixN ds.length k).map fun j => ds.set j d)
  | _ => M.no
theorem reps_atI {G : Hp} {vs : List V} {ds : List D} {k : Int} {d : D} (r : c.reps G vs ds) (h : atI ds k = some d) : ∃ v, atI vs k = some v ∧ c.rep G v d := by
  unfold atI at h ⊢
  rw [r.1]
  cases hj : ixN ds.length k with
  | none => rw [hj] at h; cases h
  | some j =>
    rw [hj] at h
    exact r.get h
/-- x[e] -/
theorem de_ixO {i : Nat} {ds : List D} {x : Str} {p pos : Pos} {b : Expr} {mb : M D} (hK : X.K = c.K) (hi : ρ[i]? = some (.o (.l ds))) (hx : PE X (.Name x p) (tVar i)) (hb : PE X b (rdE c F W ρ mb)) (hs : PlainIx b) : PE X (.Subscript (.Name x p) b pos) (rdE c F W ρ (mb >>= ixL ds)) := by
  refine pe_by (pe_ix (X := X) ix_seq hx hb hs (pos := pos)) fun σ H Q ⟨P, G, R, q⟩ => ?_
  obtain ⟨a, vs, ea, -⟩ := own_l R hi
  refine ⟨.ref a, ea, P, G, R, out_mono (out_bind.mp q) (fun y P1 q1 u H1 G1 e1 R1 r1 => ?_) fun _ _ z => z⟩
  obtain ⟨a', vs1, ea', h1, rv⟩ := own_l R1 hi
  rw [ea] at ea'
  cases ea'
  cases y with
  | int k =>
    obtain ⟨d, hd, q2⟩ := out_some.mp (show out (M.some (atI ds k)) P1 _ _ from q1)
    obtain ⟨v, hv, r2⟩ := reps_atI rv hd
    rw [hK]
    exact .inl ⟨a, vs1, k, v, rfl, r1.int_of, SqL.of h1, hv, q2 v H1 G1 e1 R1 r2⟩
  | _ => exact q1.elim
end
end DL
namespace DL
open PySem PySem.Spec PyProof.Rows L2
end DL
namespace DL
open PySem PySem.Spec PyProof.Rows L2
theorem meets_enum1 {v : Value} {o : Obj} {H : Heap → Prop} (B : Begins v o H) :
    Meets (Builtin.«enumerate.__new__» ⟨[.type "enumerate", v], []⟩) (fun _ R s => H s.heap ∧
      R (.ok (.ret (.ref (s.heap.push o).objs.size))) { s with heap := (s.heap.push o).push { cls := .type "enumerate", data := .fields #[.none, .bool false, .ref s.heap.objs.size, rawInt 0, .none, .none] } }) :=
  .of_wp fun prog w A R s h => by
    obtain ⟨hp, g, d, tk, os⟩ := s
    obtain ⟨h1, h⟩ := h
    have hsub := sub_enumerate
    have q1 : ∀ {A' : Around} {E : Value → Shared → Prop} {Q : Value → Shared → Prop}, Q (.ref hp.objs.size) ⟨hp.push o, g, d, tk, os⟩ → wpAny (model prog w) A' (pyIter v) Q E ⟨hp, g, d, tk, os⟩ :=
      fun q => B.iter prog w _ _ ⟨hp, g, d, tk, os⟩ _ h1 q
    wp_walk using q1
    refine wpAny_stack_any fun st => wpAny_pure ?_
    split
    · rename_i c _ _ _ _ _
      cases (c == Value.type "enumerate") <;> (wp_walk using q1; exact ⟨_, rfl, h⟩)
    · wp_walk using q1
      exact ⟨_, rfl, h⟩
theorem enum_begins1 {prog : Program} {w : World} {A : Around} {E : Value → Shared → Prop} {s : Shared} {v : Value} {o : Obj} {H : Heap → Prop} {Q : Value → Shared → Prop} (B : Begins v o H) (h1 : H s.heap)
    (h : ∀ h', IsEnum h' (s.heap.objs.size + 1) s.heap.objs.size 0 .none → h'.get? s.heap.objs.size = some o → h'.objs.size = s.heap.objs.size + 2 →
      (∀ b o, s.heap.get? b = some o → h'.get? b = some o) → Q (.ref (s.heap.objs.size + 1)) { s with heap := h' }) :
    wpAny (model prog w) A (call (.type "enumerate") [v]) Q E s := by
  refine callType_new F.called_enumerate (by decide) (F.typeCall_enumerate_1 _) (F.newCall_enumerate_1 _) (fun obj => F.args_object_init_2 obj _) F.entry_enumerate_new
    (meets_enum1 B) ⟨h1, ?_⟩
  have hz : (s.heap.push o).objs.size = s.heap.objs.size + 1 := Heap.size_push ..
  show _ ∧ _
  rw [hz]
  have he : IsEnum ((s.heap.push o).push { cls := .type "enumerate", data := .fields #[.none, .bool false, .ref s.heap.objs.size, rawInt 0, .none, .none] }) (s.heap.objs.size + 1) s.heap.objs.size 0 .none := by
    have := Heap.get?_push_size (s.heap.push o) (o := { cls := .type "enumerate", data := .fields #[.none, .bool false, .ref s.heap.objs.size, rawInt 0, .none, .none] }) rfl
    rw [hz] at this; exact this
  exact ⟨⟨_, he, rfl⟩, h _ he (Heap.get?_push_of_some _ (Heap.get?_push_size _ B.free)) (by rw [Heap.size_push, hz]) fun b o x => Heap.get?_push_of_some _ (Heap.get?_push_of_some _ x)⟩
def ItE (K : PySem.W.Frag) (A : SV) : It :=
  ⟨fun i H => ∃ n v, A.len K H n ∧ A.at' K H i v ∧ i < n,
    fun i H v H' => ∃ T x, v = .ref T ∧ H T = none ∧ H' = upd H T (.tup [.int (i : Nat), x]) ∧ ∀ x', A.at' K H i x' → x' = x,
    fun i H => A.len K H i⟩
theorem turn_E {P : Program} {w : World} {K : PySem.W.Frag} {elts : List Expr} {kk : Nat} {tpos : Pos} {A : SV} {e it : Addr} (n1 : ∀ a, (A = .l a ∨ A = .t a) → a ≠ it) (hne : e ≠ it) (hef : e ∉ A.fp it) :
    Turn P w K (.Tuple elts kk tpos) (ItE K A) [e, it] e (fun i h => (∃ old, IsEnum h e it ((i : Nat) : Int) old) ∧ A.it h it i) where
  mem := by simp
  obj := fun i h ⟨⟨old, he⟩, h1⟩ b hb => by
    have hb : b = e ∨ b = it := by simpa using hb
    rcases hb with rfl | rfl
    · exact ⟨_, he, fun v q => nomatch q⟩
    · exact SV.it_obj h1
  keep := fun i h h' ⟨⟨old, he⟩, h1⟩ f => ⟨⟨old, f e (by simp) _ he⟩, SV.it_at h1 (f it (by simp))⟩
  item := by
    intro X hP hw hK hc i pins s σ H E I hf ⟨⟨old, he⟩, h1⟩ ⟨n, v, ln, av, hn⟩
    subst hP hw hK
    have hh : X.A.in1.handled = none := I.ok.hd hc
    obtain ⟨R1, T1, d1, t1, r1, q1⟩ := SV.draws (A := X.A.in1) I hh ln n1
    have hel : e < s.heap.objs.size := Heap.lt_size he
    refine wpAny_pyNext_enum_itemD d1.dr he (t1 i h1) hn hne hef fun x h' tk px ho g1 hT hsz hk => ?_
    refine ⟨_, rfl, wpAny_letOwnedTupleGo_enum (s := { s with heap := h', toks := tk + 1 }) ho fun h'' he' sb => ?_⟩
    have hT2 : h''.get? s.heap.objs.size = some { cls := .type "tuple", data := .seq #[.int i tk, x] } := (sb.2 _ (Nat.ne_of_gt hel)).trans hT
    have new : ObjOk X.prog X.w (upd H s.heap.objs.size (.tup [.int (i : Nat), v])) h'' s.heap.objs.size (.tup [.int (i : Nat), v]) :=
      ⟨by show 2 ≤ sizeLine; decide, [.int i tk, x], .cons ⟨_, rfl⟩ (.cons (r1 _ _ _ av px) .nil), ⟨_, hT2, rfl, _, rfl⟩⟩
    have I1 : Inv X pins σ (upd H s.heap.objs.size (.tup [.int (i : Nat), v])) { s with heap := h'', toks := tk + 1 } :=
      I.turnedNew (ch := [e, it]) (fun b ob hb q => (sb.2 b (fun z => hb (by simp [z]))).trans (hk b ob (fun z => hb (by simp [z])) (fun z => hb (by simp [z])) q)) hf (Nat.le_refl _) new
    refine ⟨.ref s.heap.objs.size, _, I1, rfl, ⟨_, v, rfl, I.hok.fresh (Nat.le_refl _), rfl, fun x' hx => q1 _ _ _ av hx⟩, ⟨⟨x, ?_⟩, ?_⟩, fun b hb => ?_⟩
    · have e1 : ((i + 1 : Nat) : Int) = (i : Int) + 1 := by omega
      rw [e1]; exact he'
    · exact SV.it_at (d1.of _ _ g1) fun o q => (sb.2 _ (Ne.symm hne)).trans q
    · have hlt : b < s.heap.objs.size := by
        have hb' : b = e ∨ b = it := by simpa using hb
        rcases hb' with rfl | rfl
        · exact hel
        · obtain ⟨o, e, _⟩ := SV.it_obj h1; exact Heap.lt_size e
      rw [upd_ne (Nat.ne_of_lt hlt)]
      exact (hf b hb).1
  done := by
    intro X hP hw hK hc i pins s σ H E I hf ⟨⟨old, he⟩, h1⟩ ln
    subst hP hw hK
    have hh : X.A.in1.handled = none := I.ok.hd hc
    obtain ⟨R1, T1, d1, t1, r1, q1⟩ := SV.draws (A := X.A.in1) I hh ln n1
    obtain ⟨f0, f1, f2, f3, f4, f5⟩ := hf it (by simp)
    exact wpAny_pyNext_enum_endD d1.dr he (t1 i h1) fun h' eb => ⟨rfl, I.turned (t' := s.toks) (fun b o hb q => eb b o hb q) f0 f1 f3 f4 f5⟩
  self := fun A i s Q E st h => let ⟨⟨_, he⟩, _⟩ := st; wpAny_pyIter_enum he h
def enumL (xs : List D) : List D := xs.mapIdx fun i d => .tup [.int (i : Nat), d]
def enumD (d : D) : M (List D) := iterA d >>= fun xs => Pure.pure (enumL xs)
section
variable {c : Cn} {F : Fr} {W : WX} {ρ : List Sl} {X : Cx}
theorem goes_enum {A : SV} {xs : List D} {G : Hp} {K : PySem.W.Frag} (hK : K = c.K) (a : Src c G A xs) : Goes c (ItE K A) (enumL xs) G := by
  subst hK
  intro F ρ i P σ H G1 e R
  have la := a.len H G1 e R.post.le
  have lz : (enumL xs).length = xs.length := by unfold enumL; rw [List.length_mapIdx]
  refine ⟨fun hi => ?_, fun d hd => ?_⟩
  · show A.len c.K H i
    rw [← hi, lz]; exact la
  unfold enumL at hd
  rw [List.getElem?_mapIdx, Option.map_eq_some_iff] at hd
  obtain ⟨x, hx, rfl⟩ := hd
  obtain ⟨v, h1, r1⟩ := a.at' H G1 i x e R.post.le hx
  refine ⟨⟨_, v, la, h1, (List.getElem?_eq_some_iff.mp hx).1⟩, fun z H' q => ?_⟩
  obtain ⟨T, v', rfl, hT, rfl, q1⟩ := q
  obtain rfl := q1 _ h1
  obtain ⟨R2, e2⟩ := R.new hT nt_tup
  have rr : c.reps G1 [.int (i : Nat), v] [.int (i : Nat), x] := .cons (.int _) (.cons r1 .nil)
  exact ⟨_, e2, R2, .tup (SqT.of upd_same) rr.1 fun i v d a b => (rr.2 i v d a b).mono e2⟩
/-- over enumerate(e) -/
theorem di_enum {e : Expr} {m : M D} {p pos tpos : Pos} {elts : List Expr} {kk : Nat} (hK : X.K = c.K) (hg : Gl X "enumerate") (hm : X.mg "enumerate" = none) (ha : PE X e (rdE c F W ρ m))
    (hs : starEach [e] X.env = [(false, eval e X.env)] := by rfl) :
    PI X (.Tuple elts kk tpos) (.Call (.Name "enumerate" p) [e] [] pos) (rdI c F W ρ (m >>= enumD)) := by
  refine ⟨fun pins s σ H R I ⟨P, G, Rl, q⟩ => ?_⟩
  have step := (pa_cons ha pa_nil hs).run pos pins s σ H (fun vs H1 => ∃ P1 G1 v x xs, vs = [v] ∧ Rel c F ρ P1 σ H1 G1 ∧ c.rep G1 v x ∧ iterA x P1 = .ok xs P1 ∧ ∀ J H' G', Ext G1 G' → Rel c F ρ P1 σ H' G' → Goes c J (enumL xs) G' → R J H') I
    ⟨P, G, Rl, out_mono (out_bind.mp q) (fun x P1 q1 v H1 G1 e1 R1 r1 => ?_) fun _ _ z => z⟩
  · refine Call_ (ld_blt I hg hm boot_enumerate (PyProof.Rows.callWith_type1 (thn step fun us s1 ⟨vs, H1, I1, rv, P1, G1, v, x, xs, hv, R1, rs, hx, go⟩ => ?_) hs rfl))
    subst hv
    cases rv with
    | cons w1 rr =>
    cases rr
    obtain ⟨A, o1, H1', b1, hb1, i1, f1, s1'⟩ := src_of hK I1 R1 rs w1 hx
    have mA : s1.heap.objs.size + 1 ∉ A.fp s1.heap.objs.size := fun hb => by
      cases A with
      | l a => rcases List.mem_cons.mp hb with z | z; exact absurd z (Nat.succ_ne_self _); rw [List.mem_singleton] at z; have := f1 a (.inl rfl); rw [← z] at this; exact absurd this (by show ¬ (s1.heap.objs.size + 1 < s1.heap.objs.size); omega)
      | t a => rcases List.mem_cons.mp hb with z | z; exact absurd z (Nat.succ_ne_self _); rw [List.mem_singleton] at z; have := f1 a (.inr rfl); rw [← z] at this; exact absurd this (by show ¬ (s1.heap.objs.size + 1 < s1.heap.objs.size); omega)
      | s x t => exact absurd (List.mem_singleton.mp hb) (Nat.succ_ne_self _)
    refine enum_begins1 b1 hb1 fun h' he g1 hsz hk => wpAny_pyIter_enum he ?_
    have I2 : Inv X pins σ H1 { s1 with heap := h' } := I1.kept (t' := s1.toks) hk
    refine ⟨s1.heap.objs.size + 1, [s1.heap.objs.size + 1, s1.heap.objs.size], _, ItE X.K A, H1, rfl, I2, turn_E (fun a h => Nat.ne_of_lt (f1 a h)) (Nat.succ_ne_self _) mA, ⟨⟨.none, he⟩, i1 _ _ g1⟩, fun b hb => ?_, go _ _ G1 (Ext.refl _) R1 (goes_enum hK s1')⟩
    have e' : b = s1.heap.objs.size + 1 ∨ b = s1.heap.objs.size := by simpa using hb
    have hle : s1.heap.objs.size ≤ b := by
      rcases e' with z | z
      · rw [z]; exact Nat.le_add_right _ _
      · rw [z]; exact Nat.le_refl _
    exact I1.fpOk hle (I1.hok.fresh hle)
  · have q3 := out_bind.mp (show out (iterA x >>= fun xs => Pure.pure (enumL xs)) P1 _ _ from q1)
    unfold out at q3
    cases hx : iterA x P1 with
    | no => rw [hx] at q3; exact q3.elim
    | ex e p => cases x <;> cases hx
    | ok xs p1 =>
      rw [hx] at q3
      obtain ⟨rfl, hx'⟩ := iter_ok hx
      exact ⟨_, G1, v, x, xs, rfl, R1, r1, hx', fun J H' G' e R' go => q3 J H' G' (e1.trans e) R' go⟩
end
end DL
namespace DL
open PySem PySem.Spec PyProof.Rows L2
abbrev zipR {β : Type} (kvs : List (Key × β)) (bs : List Addr) : List (Key × V) := List.zipWith (fun kv b => (kv.1, V.ref b)) kvs bs
structure Deep (c : Cn) (F : Fr) (G H : Hp) (a : Addr) (kvs : List (Key × List D)) : Prop where
  ex : ∃ bs : List Addr, bs.length = kvs.length ∧ bs.Nodup ∧ H a = some (.dK (zipR kvs bs)) ∧
    ∀ (i : Nat) (kv : Key × List D) (b : Addr), kvs[i]? = some kv → bs[i]? = some b → (∃ vs, H b = some (.lst vs) ∧ c.reps G vs kv.2) ∧ G b = none ∧ Fre F.H0 b ∧ some b ≠ F.ap
  nd : (kvs.map (·.1)).Nodup
  g : G a = none
  h : Fre F.H0 a
  p : some a ≠ F.ap
section
variable {c : Cn} {X : Cx} {F : Fr} {W : WX} {ρ : List Sl}
theorem Post.still {ap : Option Addr} {G H G' H' : Hp} {P : Pot} {a : Addr} {o : HO} (q : Post c ap G H P G' H') (ha : H a = some o) (nt : noTbl o) (ntp : ∀ vs, o ≠ .tup vs) (hg : G a = none) (na : some a ≠ ap) : H' a = some o ∧ G' a = none := by
  have hh := q.fr a o ha na nt
  refine ⟨hh, ?_⟩
  cases z : G' a with
  | none => rfl
  | some u =>
    rcases q.new a (by rw [z]; simp) with h | h | ⟨vs, h⟩
    · exact absurd hg h
    · exact (h.no ha nt).elim
    · have y := q.le _ _ h
      rw [hh] at y
      cases y
      exact absurd rfl (ntp vs)
theorem Deep.after {P : Pot} {G H G' H' : Hp} {a : Addr} {kvs : List (Key × List D)} (d : Deep c F G H a kvs) (q : Post c F.ap G H P G' H') : Deep c F G' H' a kvs := by
  obtain ⟨⟨bs, hl, hn, ha, hb⟩, nd, g, h, p⟩ := d
  obtain ⟨ha', g'⟩ := q.still ha nt_dK nofun g p
  refine ⟨⟨bs, hl, hn, ha', fun i kv b h1 h2 => ?_⟩, nd, g', h, p⟩
  obtain ⟨⟨vs, k1, k2⟩, k3, k4, k5⟩ := hb i kv b h1 h2
  obtain ⟨k1', k3'⟩ := q.still k1 nt_lst nofun k3 k5
  exact ⟨⟨vs, k1', k2.mono q.ext⟩, k3', k4, k5⟩
theorem find_of {β : Type} : ∀ {ws : List (Key × β)} {j : Nat} {k : Key} {v : β}, (ws.map (·.1)).Nodup → ws[j]? = some (k, v) → (ws.find? fun kv => decide (kv.1 = k)).map (·.2) = some v
  | [], _, _, _, _, h => by simp at h
  | p :: ws, 0, k, v, _, h => by
    simp only [List.getElem?_cons_zero, Option.some.injEq] at h
    subst h
    simp
  | p :: ws, j + 1, k, v, nd, h => by
    rw [List.getElem?_cons_succ] at h
    rw [List.map_cons, List.nodup_cons] at nd
    have ne : p.1 ≠ k := fun z => nd.1 (by rw [z]; exact List.mem_map.mpr ⟨(k, v), List.mem_of_getElem? h, rfl⟩)
    rw [List.find?_cons, decide_eq_false ne]
    exact find_of nd.2 h
theorem find_at {β : Type} {ws : List (Key × β)} {k : Key} {v : β} (h : (ws.find? fun kv => decide (kv.1 = k)).map (·.2) = some v) : ∃ j : Nat, ws[j]? = some (k, v) := by
  rw [Option.map_eq_some_iff] at h
  obtain ⟨kv, h, rfl⟩ := h
  have hk := List.find?_some h
  obtain ⟨j, hj⟩ := List.mem_iff_getElem?.mp (List.mem_of_find?_eq_some h)
  exact ⟨j, by rw [hj]; have : kv.1 = k := by simpa using hk
               rw [← this]⟩
theorem zipR_keys {β : Type} : ∀ {kvs : List (Key × β)} {bs : List Addr}, bs.length = kvs.length → (zipR kvs bs).map (·.1) = kvs.map (·.1)
  | [], [], _ => rfl
  | [], _ :: _, h => by simp at h
  | _ :: _, [], h => by simp at h
  | p :: kvs, b :: bs, h => by
    have := zipR_keys (kvs := kvs) (bs := bs) (by simpa using h)
    simp only [zipR, List.zipWith_cons_cons, List.map_cons] at this ⊢
    rw [this]
theorem zipR_at {β : Type} {kvs : List (Key × β)} {bs : List Addr} {i : Nat} {kv : Key × β} {b : Addr} (h1 : kvs[i]? = some kv) (h2 : bs[i]? = some b) : (zipR kvs bs)[i]? = some (kv.1, .ref b) := by
  unfold zipR
  rw [List.getElem?_zipWith, h1, h2]
theorem nodup_at {α : Type} {xs : List α} (h : xs.Nodup) {i j : Nat} {x : α} (h1 : xs[i]? = some x) (h2 : xs[j]? = some x) : i = j := by
  exact (List.getElem?_inj (List.getElem?_eq_some_iff.mp h1).1 h).mp (h1.trans h2.symm)
/-- d[k] -/
theorem Deep.get {G H : Hp} {a : Addr} {kvs : List (Key × List D)} (d : Deep c F G H a kvs) {k : Key} {ds : List D} (h : (kvs.find? fun kv => decide (kv.1 = k)).map (·.2) = some ds) :
    ∃ b vs, DGet H a (kV k) (some (.ref b)) ∧ H b = some (.lst vs) ∧ c.reps G vs ds ∧
      ∀ vs' ds', c.reps G vs' ds' → Deep c F G (upd H b (.lst vs')) a (kvs.map fun kv => if kv.1 = k then (kv.1, ds') else kv) ∧ (∀ {P σ}, (∀ (i : Nat) k, ρ[i]? ≠ some (.o k)) → Rel c F ρ P σ H G → Rel c F ρ P σ (upd H b (.lst vs')) G) := by
  obtain ⟨⟨bs, hl, hn, ha, hb⟩, nd, g, h0, p⟩ := d
  obtain ⟨j, hj⟩ := find_at h
  have jl : j < bs.length := by rw [hl]; exact (List.getElem?_eq_some_iff.mp hj).1
  have ej : bs[j]? = some bs[j] := List.getElem?_eq_getElem jl
  obtain ⟨⟨vs, k1, k2⟩, k3, k4, k5⟩ := hb j _ _ hj ej
  have nab : a ≠ bs[j] := fun z => by rw [z, k1] at ha; cases ha
  refine ⟨bs[j], vs, .inl ⟨_, k, .of ha, rfl, (find_of (by rw [zipR_keys hl]; exact nd) (zipR_at hj ej)).symm⟩, k1, k2, fun vs' ds' r => ⟨⟨⟨bs, by simpa using hl, hn, ?_, fun i kv b h1 h2 => ?_⟩, ?_, g, h0, p⟩, fun {P σ} no R => ?_⟩⟩
  · rw [upd_ne nab, ha]
    congr 2
    unfold zipR
    rw [List.zipWith_map_left]
    congr 1
    funext kv b
    split <;> rfl
  · rw [List.getElem?_map, Option.map_eq_some_iff] at h1
    obtain ⟨kv0, h1, rfl⟩ := h1
    obtain ⟨⟨ws, m1, m2⟩, m3, m4, m5⟩ := hb i kv0 b h1 h2
    by_cases z : i = j
    · subst z
      rw [hj] at h1
      cases h1
      rw [ej] at h2
      cases h2
      refine ⟨⟨vs', upd_same, ?_⟩, k3, k4, k5⟩
      simpa using r
    · have nb : b ≠ bs[j] := fun q => z (nodup_at hn h2 (by rw [q]; exact ej))
      have nk : kv0.1 ≠ k := fun q => z (nodup_at nd (by rw [List.getElem?_map, h1]; exact congrArg some q) (by rw [List.getElem?_map, hj]; rfl))
      rw [if_neg nk]
      exact ⟨⟨ws, by rw [upd_ne nb]; exact m1, m2⟩, m3, m4, m5⟩
  · have : (kvs.map fun kv => if kv.1 = k then (kv.1, ds') else kv).map (·.1) = kvs.map (·.1) := by
      rw [List.map_map]
      apply List.map_congr_left
      intro kv _
      show (if kv.1 = k then (kv.1, ds') else kv).1 = kv.1
      split <;> rfl
    rw [this]; exact nd
  · exact R.at k3 k4 k5 (fun u e => by rw [k1] at e; cases e; exact ⟨nofun, nofun⟩) fun i kk hi => absurd hi (no i kk)
/-- a new list more -/
theorem Deep.push {G H : Hp} {P : Pot} {σ : L2.St} {a q : Addr} {kvs : List (Key × List D)} {k : Key} {vs : List V} {ds : List D} (R : Rel c F ρ P σ H G) (d : Deep c F G H a kvs) (hq : H q = none) (r : c.reps G vs ds) (hk : k ∉ kvs.map (·.1)) :
    ∃ ws, upd H q (.lst vs) a = some (.dK ws) ∧ ws.length = kvs.length ∧ Deep c F G (upd (upd H q (.lst vs)) a (.dK (putK ws k (.ref q)))) a (kvs ++ [(k, ds)]) := by
  obtain ⟨⟨bs, hl, hn, ha, hb⟩, nd, g, h0, p⟩ := d
  have nqa : a ≠ q := fun z => by rw [z, hq] at ha; cases ha
  have nin : ∀ b, b ∈ bs → b ≠ q ∧ b ≠ a := fun b hb' => by
    obtain ⟨i, hi⟩ := List.mem_iff_getElem?.mp hb'
    have il : i < kvs.length := by rw [← hl]; exact (List.getElem?_eq_some_iff.mp hi).1
    obtain ⟨⟨ws, m1, _⟩, _⟩ := hb i _ b (List.getElem?_eq_getElem il) hi
    exact ⟨fun z => (by rw [z, hq] at m1; cases m1), fun z => (by rw [z, ha] at m1; cases m1)⟩
  have lz : (zipR kvs bs).length = kvs.length := by unfold zipR; rw [List.length_zipWith, hl, Nat.min_self]
  refine ⟨_, by rw [upd_ne nqa]; exact ha, lz, ⟨bs ++ [q], by simp [hl], ?_, ?_, fun i kv b h1 h2 => ?_⟩, ?_, g, h0, p⟩
  · rw [List.nodup_append]
    refine ⟨hn, by simp, fun x hx y hy => ?_⟩
    rw [List.mem_singleton.mp hy]
    exact (nin x hx).1
  · rw [upd_same]
    have hz : ((zipR kvs bs).any fun kv => decide (kv.1 = k)) = false := by
      rw [List.any_eq_false]
      intro kv hkv z
      have : kv.1 = k := by simpa using z
      refine hk ?_
      rw [← zipR_keys hl, ← this]
      exact List.mem_map.mpr ⟨kv, hkv, rfl⟩
    unfold putK
    rw [hz, if_neg (by simp)]
    congr 2
    unfold zipR
    rw [List.zipWith_append hl.symm]
    rfl
  · by_cases z : i < kvs.length
    · rw [List.getElem?_append_left z] at h1
      rw [List.getElem?_append_left (by rw [hl]; exact z)] at h2
      obtain ⟨⟨ws, m1, m2⟩, m3⟩ := hb i kv b h1 h2
      obtain ⟨n1, n2⟩ := nin b (List.mem_of_getElem? h2)
      exact ⟨⟨ws, by rw [upd_ne n2, upd_ne n1]; exact m1, m2⟩, m3⟩
    · have e : i = kvs.length := by
        have := (List.getElem?_eq_some_iff.mp h1).1
        simp at this
        omega
      subst e
      rw [List.getElem?_append_right (Nat.le_refl _), Nat.sub_self] at h1
      rw [List.getElem?_append_right (Nat.le_of_eq hl), hl, Nat.sub_self] at h2
      cases h1
      cases h2
      exact ⟨⟨vs, by rw [upd_ne (Ne.symm nqa), upd_same], r⟩, R.post.g_none hq, R.post.h0 hq, R.ne_ap hq⟩
  · rw [List.map_append, List.nodup_append]
    refine ⟨nd, by simp, fun x hx y hy => ?_⟩
    have : y = k := by simpa using hy
    rw [this]
    exact fun z => hk (by rw [← z]; exact hx)
/-- all of them are let go -/
theorem freezeL {P : Pot} {σ : L2.St} {H : Hp} (no : ∀ (i : Nat) k, ρ[i]? ≠ some (.o k)) : ∀ (bs : List Addr) {G : Hp}, Rel c F ρ P σ H G → bs.Nodup → (∀ b, b ∈ bs → (∃ vs, H b = some (.lst vs)) ∧ G b = none ∧ Fre F.H0 b ∧ some b ≠ F.ap) →
    ∃ G', Ext G G' ∧ Rel c F ρ P σ H G' ∧ (∀ b, b ∈ bs → G' b = H b) ∧ ∀ b, b ∉ bs → G' b = G b
  | [], G, R, _, _ => ⟨G, Ext.refl _, R, fun _ h => by simp at h, fun _ _ => rfl⟩
  | b :: bs, G, R, nd, h => by
    obtain ⟨⟨vs, h1⟩, h2, h3, h4⟩ := h b List.mem_cons_self
    rw [List.nodup_cons] at nd
    obtain ⟨R1, e1⟩ := R.freeze h1 nt_lst h3 h4 (fun i kk hi => absurd hi (no i kk)) h2
    obtain ⟨G', e2, R2, k1, k2⟩ := freezeL no bs R1 nd.2 fun x hx => by
      obtain ⟨a1, a2, a3⟩ := h x (List.mem_cons_of_mem _ hx)
      exact ⟨a1, by rw [upd_ne (fun z => nd.1 (by rw [← z]; exact hx))]; exact a2, a3⟩
    refine ⟨G', e1.trans e2, R2, fun x hx => ?_, fun x hx => ?_⟩
    · rcases List.mem_cons.mp hx with z | z
      · rw [z, k2 b nd.1, upd_same, h1]
      · exact k1 x z
    · rw [k2 x fun z => hx (List.mem_cons_of_mem _ z), upd_ne fun z => hx (by rw [z]; exact List.mem_cons_self)]
def dicL (kvs : List (Key × List D)) : D := dicD (kvs.map fun kv => (kv.1, .lst kv.2))
theorem Deep.letgo {P : Pot} {σ : L2.St} {G H : Hp} {a : Addr} {kvs : List (Key × List D)} (no : ∀ (i : Nat) k, ρ[i]? ≠ some (.o k)) (R : Rel c F ρ P σ H G) (d : Deep c F G H a kvs) : ∃ G', Ext G G' ∧ Rel c F ρ P σ H G' ∧ c.rep G' (.ref a) (dicL kvs) := by
  obtain ⟨⟨bs, hl, hn, ha, hb⟩, nd, g, h0, p⟩ := d
  have at' : ∀ b, b ∈ bs → ∃ i kv, kvs[i]? = some kv ∧ bs[i]? = some b := fun b hb' => by
    obtain ⟨i, hi⟩ := List.mem_iff_getElem?.mp hb'
    have il : i < kvs.length := by rw [← hl]; exact (List.getElem?_eq_some_iff.mp hi).1
    exact ⟨i, _, List.getElem?_eq_getElem il, hi⟩
  obtain ⟨G1, e1, R1, k1, k2⟩ := freezeL no bs R hn fun b hb' => by
    obtain ⟨i, kv, h1, h2⟩ := at' b hb'
    obtain ⟨⟨vs, m1, _⟩, m2⟩ := hb i kv b h1 h2
    exact ⟨⟨vs, m1⟩, m2⟩
  have na : a ∉ bs := fun z => by
    obtain ⟨i, kv, h1, h2⟩ := at' a z
    obtain ⟨⟨vs, m1, _⟩, m2⟩ := hb i kv a h1 h2
    rw [ha] at m1; cases m1
  obtain ⟨R2, e2⟩ := R1.freeze ha nt_dK h0 p (fun i kk hi => absurd hi (no i kk)) (by rw [k2 a na]; exact g)
  refine ⟨_, e1.trans e2, R2, .dicK upd_same ?_ fun i kv dv h1 h2 => ?_⟩
  · have : (zipR kvs bs).map (fun p => keyD p.1) = ((zipR kvs bs).map (·.1)).map keyD := by rw [List.map_map]; rfl
    rw [this, zipR_keys hl, List.map_map, List.map_map, List.map_map]
    rfl
  · rw [List.map_map, List.getElem?_map, Option.map_eq_some_iff] at h2
    obtain ⟨q, h2, rfl⟩ := h2
    have il : i < bs.length := by rw [hl]; exact (List.getElem?_eq_some_iff.mp h2).1
    have hi : bs[i]? = some bs[i] := List.getElem?_eq_getElem il
    rw [zipR_at h2 hi] at h1
    cases h1
    obtain ⟨⟨vs, m1, m2⟩, _⟩ := hb i q _ h2 hi
    have mem : bs[i] ∈ bs := List.mem_of_getElem? hi
    refine .lst (vs := vs) (e2 _ _ (by rw [k1 _ mem]; exact m1)) m2.1 fun j v d x y => (m2.2 j v d x y).mono (e1.trans e2)
end
end DL
namespace DL
open PySem PySem.Spec PyProof.Rows L2
section
variable (c : Cn) (F : Fr) (W : WX) (ρ : List Sl)
/-- a new list that nobody has yet -/
def rdNew (m : M (List D)) : TE := fun σ H Q => ∃ P G, Rel c F ρ P σ H G ∧ out m P (fun ds P' => ∀ H' G' p vs, Ext G G' → Rel c F ρ P' σ H' G' → H' p = none → c.reps G' vs ds → Q (.ref p) (upd H' p (.lst vs))) (exW c F W P G σ)
def RelQ (i : Nat) (kvs : List (Key × List D)) (P : Pot) (σ : L2.St) (H G : Hp) : Prop := Rel c F ρ P σ H G ∧ ∃ a, σ[i]? = some (some (V.ref a)) ∧ Deep c F G H a kvs
def rdQ0 (i : Nat) (m : M (List (Key × List D))) : TS := fun B σ H => ∃ P G, Rel c F ρ P σ H G ∧ out m P (fun kvs P' => ∀ σ' H' G', Ext G G' → RelQ c F ρ i kvs P' σ' H' G' → B.nx σ' H') (exS c F W P G σ)
def rdQ (i : Nat) (m : List (Key × List D) → M (List (Key × List D))) : TS := fun B σ H => ∃ P G kvs, RelQ c F ρ i kvs P σ H G ∧ out (m kvs) P (fun kvs' P' => ∀ σ' H' G', Ext G G' → RelQ c F ρ i kvs' P' σ' H' G' → B.nx σ' H') (exS c F W P G σ)
end
section
variable {c : Cn} {X : Cx} {F : Fr} {W : WX} {ρ : List Sl}
theorem pe_newMul {a b : Expr} {pos : Pos} {ma mb : M D} (ha : PE X a (rdE c F W ρ ma)) (hb : PE X b (rdE c F W ρ mb)) : PE X (.BinOp a .Mult b pos) (rdNew c F W ρ (ma >>= fun x => mb >>= fun y => mulL x y)) := by
  refine pe_by (pe_op opr_mul ha hb) fun σ H Q ⟨P, G, R, q⟩ => ?_
  refine ⟨P, G, R, out_mono (out_bind.mp q) (fun x P1 q1 v H1 G1 e1 R1 r1 => ?_) fun _ _ z => z⟩
  refine ⟨P1, G1, R1, out_mono (out_bind.mp q1) (fun y P2 q2 u H2 G2 e2 R2 r2 => ?_) fun _ _ z => exW_le e1 z⟩
  replace r1 := r1.mono e2
  cases x <;> cases y <;> try exact q2.elim
  rename_i xs k
  unfold mulL at q2
  by_cases z : -(2 ^ 63) ≤ k ∧ k < 2 ^ 63 ∧ xs.length * k.toNat ≤ sizeLine
  · simp only [if_pos z] at q2
    have q3 : ∀ H' G' p vs, Ext G G' → Rel c F ρ P2 σ H' G' → H' p = none → c.reps G' vs (List.replicate k.toNat xs).flatten → Q (.ref p) (upd H' p (.lst vs)) := q2
    rw [r2.int_of]
    cases r1 with
    | lst ha hl hr =>
      have rr : c.reps G2 _ (List.replicate k.toNat xs).flatten := Reps.rep ⟨hl, hr⟩ k.toNat
      exact .inr ⟨_, k, _, rfl, rfl, R2.post.le _ _ ha, z.1, z.2.1, by rw [hl]; exact z.2.2, fun p hp => q3 _ _ _ _ (e1.trans e2) R2 hp rr⟩
  · simp only [if_neg z] at q2; exact q2.elim
def dcL (mk : D → M D) (mv : D → M (List D)) : List D → List (Key × List D) → M (List (Key × List D))
  | [], acc => Pure.pure acc
  | d :: ds, acc => noEx (mk d) >>= fun y => noEx (mv d) >>= fun z => keyM y >>= fun k => if acc.length < sizeLine ∧ (acc.any fun kv => decide (kv.1 = k)) = false then dcL mk mv ds (acc ++ [(k, z)]) else M.no
theorem out_noEx' {α : Type} {m : M α} {P : Pot} {ok : α → Pot → Prop} {ex : Ex → Pot → Prop} (h : out (noEx m) P ok ex) : ∃ a p, m P = .ok a p ∧ ok a p := by
  unfold out noEx at h
  cases e : m P with
  | ok a p => rw [e] at h; exact ⟨a, p, rfl, h⟩
  | ex x p => rw [e] at h; exact h.elim
  | no => rw [e] at h; exact h.elim
theorem back_eq {α : Type} {m : M α} {P p : Pot} {y : α} (h : out m P (fun z zp => z = y ∧ zp = p) (fun _ _ => False)) : m P = .ok y p := by
  unfold out at h
  cases k : m P with
  | ok a b => rw [k] at h; rw [h.1, h.2]
  | ex _ _ => rw [k] at h; exact h.elim
  | no => rw [k] at h; exact h.elim
theorem not_mem_of {β : Type} {kvs : List (Key × β)} {k : Key} (h : (kvs.any fun kv => decide (kv.1 = k)) = false) : k ∉ kvs.map (·.1) := fun z => by
  obtain ⟨kv, h1, h2⟩ := List.mem_map.mp z
  rw [List.any_eq_false] at h
  exact h kv h1 (by simpa using h2)
theorem dcL_rd {wi : TI} {g : TG} {vs : List Nat} {mi : M (List D)} {t : List Sl → D → Option (List Sl)} {mk : D → M D} {mv : D → M (List D)} (hw : ∀ σ H R, rdI c F W ρ mi σ H R → wi σ H R) (tg : Tgt c g t vs) (no : ∀ (i : Nat) k, ρ[i]? ≠ some (.o k))
    (hno : ∀ ρ d, t ρ d = none → mk d = M.no) {σ : L2.St} {H : Hp} {Q : VK} (q : ∃ P G, Rel c F ρ P σ H G ∧ out (mi >>= fun ds => noEx (dcL mk mv ds [])) P (fun kvs P' => ∀ a H' G', Ext G G' → Rel c F ρ P' σ H' G' → Deep c F G' H' a kvs → Q (.ref a) H') (exW c F W P G σ)) :
    tDc wi g tYes (fun σ H Q => ∃ F d ρ', t (wipeS (ρ.map unO) vs) d = some ρ' ∧ rdE c F W0 ρ' (mk d) σ H Q) (fun σ H Q => ∃ F d ρ', t (wipeS (ρ.map unO) vs) d = some ρ' ∧ rdNew c F W0 ρ' (mv d) σ H Q) vs σ H Q := by
  obtain ⟨P, G, R, q⟩ := q
  refine hw _ _ _ ⟨P, G, R, out_mono (out_bind.mp q) (fun ds P1 q1 J H1 G1 e1 R1 go E hE => ?_) fun _ _ z => z⟩
  refine ⟨fun i m Hx => m = ds.length - i ∧ i ≤ ds.length ∧ ∃ (acc : List (Key × List D)) (P' : Pot) (G' : Hp), Ext G1 G' ∧ Rel c F ρ P' σ Hx G' ∧ Deep c F G' Hx E acc ∧
    out (noEx (dcL mk mv (ds.drop i) acc)) P' (fun kvs P' => ∀ a H' G'', Ext G' G'' → Rel c F ρ P' σ H' G'' → Deep c F G'' H' a kvs → Q (.ref a) H') (fun _ _ => True),
    ⟨ds.length, by simp, Nat.zero_le _, [], P1, G1, Ext.refl _, R1.newM hE, ⟨⟨[], rfl, List.nodup_nil, upd_same, fun i kv b h => by simp at h⟩, List.nodup_nil, R1.post.g_none hE, R1.post.h0 hE, R1.ne_ap hE⟩,
      out_mono q1 (fun d p z a H' G'' e => z a H' G'' (e1.trans e)) fun _ _ _ => trivial⟩, ?_⟩
  rintro i m Hx ⟨rfl, hi, acc, P2, G2, e2, R2, dp, q2⟩
  by_cases hl : i < ds.length
  · have hd : ds[i]? = some ds[i] := List.getElem?_eq_getElem hl
    have S2 := R2.sub
    obtain ⟨g1, g2⟩ := (go _ _ i P2 σ Hx G2 e2 S2).2 _ hd
    rw [List.drop_eq_getElem_cons hl] at q2
    obtain ⟨ys, p, hy, q3⟩ := out_noEx' q2
    refine .inr ⟨g1, fun H' => ∃ (acc : List (Key × List D)) (P' : Pot) (G' : Hp), Ext G1 G' ∧ Rel c F ρ P' σ H' G' ∧ Deep c F G' H' E acc ∧
      out (noEx (dcL mk mv (ds.drop (i + 1)) acc)) P' (fun kvs P' => ∀ a H' G'', Ext G' G'' → Rel c F ρ P' σ H' G'' → Deep c F G'' H' a kvs → Q (.ref a) H') (fun _ _ => True), fun H' z => ⟨ds.length - (i + 1), by omega, rfl, hl, z⟩, fun x H3 y => ?_⟩
    obtain ⟨G3, e3, R3, r3⟩ := g2 x H3 y
    have hy' : (noEx (mk ds[i]) >>= fun y => noEx (mv ds[i]) >>= fun z => keyM y >>= fun k => if acc.length < sizeLine ∧ (acc.any fun kv => decide (kv.1 = k)) = false then dcL mk mv (ds.drop (i + 1)) (acc ++ [(k, z)]) else M.no) P2 = .ok ys p := hy
    have o1 : out (noEx (mk ds[i]) >>= fun y => noEx (mv ds[i]) >>= fun z => keyM y >>= fun k => if acc.length < sizeLine ∧ (acc.any fun kv => decide (kv.1 = k)) = false then dcL mk mv (ds.drop (i + 1)) (acc ++ [(k, z)]) else M.no) P2 (fun z zp => z = ys ∧ zp = p) (fun _ _ => False) := (out_eq hy').mpr ⟨rfl, rfl⟩
    obtain ⟨kd, P4, hkd, o4⟩ := out_noEx_bind o1
    obtain ⟨vd, P5, hvd, o5⟩ := out_noEx_bind o4
    obtain ⟨k, ek, o6⟩ := keyM_out (out_bind.mp o5)
    have hlen : acc.length < sizeLine ∧ (acc.any fun kv => decide (kv.1 = k)) = false := by
      by_cases z : acc.length < sizeLine ∧ (acc.any fun kv => decide (kv.1 = k)) = false
      · exact z
      · rw [if_neg z] at o6; exact o6.elim
    rw [if_pos hlen] at o6
    have hz := back_eq o6
    cases ht : t (wipeS (ρ.map unO) vs) ds[i] with
    | none =>
      rw [hno _ _ ht] at hkd
      cases hkd
    | some ρ' =>
      refine tg _ _ ρ' P2 _ H3 G3 x ds[i] _ (R3.wipe vs) r3 ht fun σ4 R4 w4 => ⟨w4.trans (wipe_idem vs), ?_⟩
      refine ⟨_, ds[i], ρ', ht, P2, G3, R4, (out_eq hkd).mpr fun kv H6 G6 e6 R6 r6 => ?_⟩
      refine ⟨_, ds[i], ρ', ht, P4, G6, R6, (out_eq hvd).mpr fun H7 G7 pn vs7 e7 R7 hp7 r7 => ?_⟩
      have A7 := R2.after R7.post
      have e27 : Ext G2 G7 := R7.post.ext
      have d7 := dp.after R7.post
      obtain ⟨ws, w1, w2, d8⟩ := d7.push A7 hp7 r7 (not_mem_of hlen.2)
      have A8 : Rel c F ρ P5 σ (upd H7 pn (.lst vs7)) G7 := A7.newM hp7
      rw [ek] at r6
      exact ⟨ws, k, rep_key r6, w1, by rw [w2]; exact hlen.1, acc ++ [(k, vd)], P5, G7, e2.trans e27, A8.at d7.g d7.h d7.p (fun u e => by rw [w1] at e; cases e; exact ⟨nofun, nofun⟩) (fun j kk hj => absurd hj (no j kk)), d8,
        (out_eq (noEx_ok hz)).mpr fun a H' G'' e => q3 a H' G'' (e27.trans e)⟩
  · have ei : i = ds.length := by omega
    subst ei
    refine .inl ⟨(go _ _ _ P2 σ Hx G2 e2 R2.sub).1 rfl, ?_⟩
    rw [List.drop_eq_nil_of_le (Nat.le_refl _)] at q2
    obtain ⟨ys, p, hy, q3⟩ := out_noEx' q2
    cases hy
    exact q3 E Hx G2 (Ext.refl _) R2 dp
/-- x = {k: [..] * n for ..} -/
theorem ds_tab {i : Nat} {y : Str} {py spos : Pos} {kx vx tg iter : Expr} {scope : Scope} {own : List (Str × Nat)} {pos : Pos} {g : TG} {mi : M (List D)} {t : List Sl → D → Option (List Sl)} {mk : D → M D} {mv : D → M (List D)} (hc : X.calm = true) (hN : X.N.Nodup) (hy : X.N[i]? = some y) (hx : Loc X.env.scope y)
    (hun : ρ[i]? = some .un) (no : ∀ (i : Nat) k, ρ[i]? ≠ some (.o k)) (ok : BlkOk X.N X.env.scope scope own)
    (hi : PI X tg iter (rdI c F W ρ mi)) (tgt : Tgt c g t (own.map (·.2))) (hno : ∀ ρ d, t ρ d = none → mk d = M.no)
    (hg : ∀ (s : Shared) (H : Hp) (C : Addr) (cl : List (Str × Addr)) (fp : List Addr), PG (X.blk s H scope (compEnvC scope cl C X.env) fp) tg g)
    (hk : ∀ (s : Shared) (H : Hp) (C : Addr) (cl : List (Str × Addr)) (fp : List Addr), PE (X.blk s H scope (compEnvC scope cl C X.env) fp) kx (rdElt c (t (wipeS (ρ.map unO) (own.map (·.2)))) mk))
    (he : ∀ (s : Shared) (H : Hp) (C : Addr) (cl : List (Str × Addr)) (fp : List Addr) (F' : Fr) (d : D) (ρ' : List Sl), t (wipeS (ρ.map unO) (own.map (·.2))) d = some ρ' → PE (X.blk s H scope (compEnvC scope cl C X.env) fp) vx (rdNew c F' W0 ρ' (mv d)))
    (hfs : ∀ x, foldedSetIterable iter X.env x = pure x := by intro _; rfl)
    (hs : swapsWith (.DictComp kx vx [⟨tg, iter, [], 0⟩] scope pos) (some (.Name y py)) spos.line X.env = pure false := by rfl) (hf : X.fn y = true ∨ X.env.scope.names.lookup y = some .local := by first | exact .inl rfl | exact .inr rfl | assumption) :
    PS X (.Assign [.Name y py] (.DictComp kx vx [⟨tg, iter, [], 0⟩] scope pos) spos) (rdQ0 c F W ρ i (mi >>= fun ds => noEx (dcL mk mv ds []))) := by
  refine ps_by (ps_set hN hy hx (pe_dc hc hN hi ok hg (fun _ _ _ _ _ => pts_nil) hk (fun s H C cl fp => (⟨fun pins s' σ H Q I ⟨F', d, ρ', e, q⟩ => (he _ _ C cl fp F' d ρ' e).run pins s' σ H Q I q⟩ : PE _ vx (fun σ H Q => ∃ F d ρ', t (wipeS (ρ.map unO) (own.map (·.2))) d = some ρ' ∧ rdNew c F W0 ρ' (mv d) σ H Q))) hfs) hs hf) fun B σ H ⟨P, G, R, q⟩ => ?_
  refine dcL_rd (fun _ _ _ z => z) tgt no hno ⟨P, G, R, out_mono q (fun kvs P' z a H' G' e R' d => ?_) fun _ _ z => exS.w z⟩
  have hl : i < σ.length := by rw [R.len]; exact (List.getElem?_eq_some_iff.mp hun).1
  refine z _ _ _ e ⟨?_, a, by rw [List.getElem?_set, if_pos rfl, if_pos hl], d⟩
  have R2 := R'.un (i := i) (x := some (.ref a))
  have : ρ.set i .un = ρ := by
    apply List.ext_getElem?
    intro j
    rw [List.getElem?_set]
    by_cases z : i = j
    · subst z
      rw [if_pos rfl, hun]
      split
      · rfl
      · rename_i h; exact absurd (List.getElem?_eq_some_iff.mp hun).1 h
    · rw [if_neg z]
  rw [this] at R2
  exact R2
def forQ (b : List (Key × List D) → D → M (List (Key × List D))) : List D → List (Key × List D) → M (List (Key × List D))
  | [], kvs => Pure.pure kvs
  | d :: ds, kvs => noEx (b kvs d) >>= fun kvs => forQ b ds kvs
theorem unO_id : ∀ {ρ : List Sl}, (∀ (i : Nat) k, ρ[i]? ≠ some (.o k)) → ρ.map unO = ρ
  | [], _ => rfl
  | s :: ρ, h => by
    rw [List.map_cons, unO_id fun i k e => h (i + 1) k (by simpa using e)]
    cases s with
    | o k => exact absurd rfl (h 0 k)
    | _ => rfl
/-- a loop whose body changes such a dict -/
theorem ds_forQ {i : Nat} {tg iter : Expr} {body : List Stmt} {pos : Pos} {g : TG} {vs : List Nat} {mi : M (List D)} {b : List (Key × List D) → D → M (List (Key × List D))} {t : List Sl → D → Option (List Sl)} (hp : PassesOwn (model X.prog X.w) X.A X.env X.xe) (hc : X.calm = true)
    (no : ∀ (i : Nat) k, ρ[i]? ≠ some (.o k)) (hi : ∀ F', PI X tg iter (rdI c F' W0 ρ mi)) (hg : PG X tg g) (tgt : Tgt c g t vs) (hiv : i ∉ vs) (hno : ∀ kvs d, t ρ d = none → b kvs d = M.no) (hfog : ∀ d ρ', t ρ d = some ρ' → ∀ {P σ H G}, Rel c F ρ' P σ H G → Rel c F ρ P σ H G)
    (hb : PSs X body (fun B σ H => ∃ d ρ', t ρ d = some ρ' ∧ ∃ P G kvs, RelQ c F ρ' i kvs P σ H G ∧ out (noEx (b kvs d)) P (fun kvs' P' => ∀ σ' H' G', Ext G G' → RelQ c F ρ' i kvs' P' σ' H' G' → B.nx σ' H') (fun _ _ => True)))
    (hs : ∀ x, foldedSetIterable iter X.env x = pure x := by intro _; rfl) :
    PS X (.For tg iter body [] pos) (rdQ c F W ρ i (fun kvs => noEx mi >>= fun ds => noEx (forQ b ds kvs))) := by
  refine ps_by (ps_for hp hc (⟨fun pins s σ H R I ⟨F', q⟩ => (hi F').run pins s σ H R I q⟩ : PI X tg iter (fun σ H R => ∃ F', rdI c F' W0 ρ mi σ H R)) hg hb hs) fun B σ H ⟨P, G, kvs0, ⟨R, a0, ha0, d0⟩, q⟩ => ?_
  obtain ⟨ds, P1, hmi, q⟩ := out_noEx_bind q
  obtain ⟨kvs9, P9, h9, q9⟩ := out_noEx' q
  have S := R.sub
  rw [unO_id no] at S
  refine ⟨_, P, G, S, (out_eq hmi).mpr fun J H1 G1 e1 S1 go => ?_⟩
  have R1 := R.after S1.post
  have d1 := d0.after S1.post
  refine ⟨fun n m σ H => m = ds.length - n ∧ n ≤ ds.length ∧ ∃ P' G' kvs, Ext G1 G' ∧ RelQ c F ρ i kvs P' σ H G' ∧ forQ b (ds.drop n) kvs P' = .ok kvs9 P9,
    ⟨ds.length, by simp, Nat.zero_le _, P1, G1, kvs0, Ext.refl _, ⟨R1, a0, ha0, d1⟩, h9⟩, ?_⟩
  rintro n m σ2 H2 ⟨rfl, hi2, P2, G2, kvs, e2, ⟨R2, a, ha, d2⟩, q2⟩
  by_cases hl : n < ds.length
  · have hd : ds[n]? = some ds[n] := List.getElem?_eq_getElem hl
    have S2 := R2.sub
    rw [unO_id no] at S2
    obtain ⟨g1, g2⟩ := (go _ ρ n P2 σ2 H2 G2 e2 S2).2 _ hd
    rw [List.drop_eq_getElem_cons hl] at q2
    obtain ⟨kvs3, P3, hb3, o3⟩ := out_noEx_bind (show out (noEx (b kvs ds[n]) >>= fun kvs => forQ b (ds.drop (n + 1)) kvs) P2 (fun z zp => z = kvs9 ∧ zp = P9) (fun _ _ => False) from (out_eq q2).mpr ⟨rfl, rfl⟩)
    have q3 := back_eq o3
    refine .inr ⟨g1, fun σ' H' => ∃ P' G' kvs, Ext G1 G' ∧ RelQ c F ρ i kvs P' σ' H' G' ∧ forQ b (ds.drop (n + 1)) kvs P' = .ok kvs9 P9,
      fun σ' H' z => ⟨ds.length - (n + 1), by omega, rfl, hl, z⟩, fun x H3 y => ?_⟩
    obtain ⟨G3, e3, S3, r3⟩ := g2 x H3 y
    have R3 := R2.after S3.post
    have d3 := d2.after S3.post
    cases ht : t ρ ds[n] with
    | none => rw [hno _ _ ht] at hb3; cases hb3
    | some ρ' =>
      refine tgt F ρ ρ' P2 σ2 H3 G3 x ds[n] _ R3 r3 ht fun σ4 R4 w4 => ?_
      have ha4 : σ4[i]? = some (some (V.ref a)) := by rw [← wipe_get (σ := σ4) hiv, w4, wipe_get hiv]; exact ha
      refine ⟨ds[n], ρ', ht, P2, G3, kvs, ⟨R4, a, ha4, d3⟩, (out_eq (noEx_ok hb3)).mpr fun σ' H' G' e' ⟨R5, z5⟩ => ?_⟩
      exact ⟨P3, G', kvs3, (e2.trans e3).trans e', ⟨hfog _ _ ht R5, z5⟩, q3⟩
  · have ei : n = ds.length := by omega
    subst ei
    rw [List.drop_eq_nil_of_le (Nat.le_refl _)] at q2
    cases q2
    exact .inl ⟨(go _ ρ _ _ σ2 H2 G2 e2 (by have S2 := R2.sub; rw [unO_id no] at S2; exact S2)).1 rfl, q9 σ2 H2 G2 (S1.post.ext.trans e2) ⟨R2, a, ha, d2⟩⟩
def put2 (kvs : List (Key × List D)) (s l o : D) : M (List (Key × List D)) := keyM l >>= fun k => M.some ((kvs.find? fun kv => decide (kv.1 = k)).map (·.2)) >>= fun xs => ixL xs s >>= fun x => noEx (shlD (.int 1) o) >>= fun y => noEx (orD x y) >>= fun z => setL xs z s >>= fun xs' => Pure.pure (kvs.map fun kv => if kv.1 = k then (kv.1, xs') else kv)
/-- d[k][s] = d[k][s] | 1 << o -/
theorem ds_put2 {i js jk jo : Nat} {x : Str} {p1 p3 p5 p6 p8 p10 p11 p13 p14 pos : Pos} {j11 : Nat} {ek es ek' es' eo : Expr} {kd sd od : D} (hu : X.A.units + 1 < cLine) (hK : X.K = c.K) (no : ∀ (i : Nat) k, ρ[i]? ≠ some (.o k)) (hx1 : PE X (.Name x p1) (tVar i)) (hx6 : PE X (.Name x p6) (tVar i))
    (hk : PE X ek (tVar jk)) (hk' : PE X ek' (tVar jk)) (hs : PE X es (tVar js)) (hs' : PE X es' (tVar js)) (ho : PE X eo (tVar jo)) (ik : ρ[jk]? = some (.v kd)) (is : ρ[js]? = some (.v sd)) (io : ρ[jo]? = some (.v od))
    (n1 : NoSl ek) (n2 : NoSl ek') (n3 : PlainIx es')
    (ha : ∀ v, assign (.Subscript (.Subscript (.Name x p1) ek p3) es p5) X.env v = (do
      let ov ← holding [v] (eval (.Subscript (.Name x p1) ek p3) X.env)
      let iv ← holding [v, ov] (eval es X.env)
      standAt p5
      holding [v, ov, iv] (setItem ov iv v)
      release [v, ov, iv] []) := by intro _; rfl)
    (hsw : swapsWithSole [.Subscript (.Subscript (.Name x p1) ek p3) es p5] (.BinOp (.Subscript (.Subscript (.Name x p6) ek' p8) es' p10) .BitOr (.BinOp (.Constant (.int 1) j11 p11) .LShift eo p13) p14) pos.line X.env = pure false := by rfl)
    (hw : swappedStores [.Subscript (.Subscript (.Name x p1) ek p3) es p5] (.BinOp (.Subscript (.Subscript (.Name x p6) ek' p8) es' p10) .BitOr (.BinOp (.Constant (.int 1) j11 p11) .LShift eo p13) p14) X.env = pure none := by rfl)
    (h1 : (assignEach [.Subscript (.Subscript (.Name x p1) ek p3) es p5] X.env).map (·.2) = [assign (.Subscript (.Subscript (.Name x p1) ek p3) es p5) X.env] := by rfl) :
    PS X (.Assign [.Subscript (.Subscript (.Name x p1) ek p3) es p5] (.BinOp (.Subscript (.Subscript (.Name x p6) ek' p8) es' p10) .BitOr (.BinOp (.Constant (.int 1) j11 p11) .LShift eo p13) p14) pos)
      (fun B σ H => ∃ P G kvs, RelQ c F ρ i kvs P σ H G ∧ out (noEx (put2 kvs sd kd od)) P (fun kvs' P' => ∀ σ' H' G', Ext G G' → RelQ c F ρ i kvs' P' σ' H' G' → B.nx σ' H') (fun _ _ => True)) := by
  refine ps_by (ps_asg (pe_op op_or (pe_ix (X := X) ix_seq (pe_dget hu hx6 hk' n2) hs' n3 (pos := p10)) (pe_op op_shlW pe_int ho)) (pg_sub (pe_dget hu hx1 hk n1) hs set_list ha) hsw hw h1) fun B σ H ⟨P, G, kvs, ⟨R, a, hat, d⟩, q⟩ => ?_
  obtain ⟨kvs9, P9, h9, q9⟩ := out_noEx' q
  have val : ∀ {j : Nat} {e : D}, ρ[j]? = some (.v e) → ∃ v, σ[j]? = some (some v) ∧ c.rep G v e := fun {j e} h => by
    have hl : j < σ.length := by rw [R.len]; exact (List.getElem?_eq_some_iff.mp h).1
    obtain ⟨v, e, r⟩ := R.sl j _ _ h (List.getElem?_eq_getElem hl)
    exact ⟨v, by rw [List.getElem?_eq_getElem hl, e], r⟩
  obtain ⟨kv, k1, k2⟩ := val ik
  obtain ⟨sv, s1, s2⟩ := val is
  obtain ⟨ov, o1, o2⟩ := val io
  have z1 : out (put2 kvs sd kd od) P (fun z zp => z = kvs9 ∧ zp = P9) (fun _ _ => False) := (out_eq h9).mpr ⟨rfl, rfl⟩
  unfold put2 at z1
  obtain ⟨k, rfl, z2⟩ := keyM_out (out_bind.mp z1)
  obtain ⟨xs, hxs, z3⟩ := out_some.mp (out_bind.mp z2)
  have ek := rep_key k2
  subst ek
  cases sd with
  | int si =>
    have es := s2.int_of
    subst es
    obtain ⟨xd, hxd, z4⟩ := out_some.mp (out_bind.mp (show out (M.some (atI xs si) >>= _) P _ _ from z3))
    obtain ⟨yd, P5, hyd, z5⟩ := out_noEx_bind z4
    obtain ⟨zd, P6, hzd, z6⟩ := out_noEx_bind z5
    cases od with
    | int oi =>
      have eo := o2.int_of
      subst eo
      by_cases cs : CShl 1 oi
      · have : (shlD (.int 1) (.int oi) P : Res D) = .ok (.int (1 * 2 ^ oi.toNat)) P := by
          show (if CShl 1 oi then (Pure.pure (D.int (1 * 2 ^ oi.toNat)) : M D) else M.no) P = _
          rw [if_pos cs]; rfl
        rw [this] at hyd
        cases hyd
        obtain ⟨b, vs, g1, g2, g3, g4⟩ := d.get (ρ := ρ) hxs
        obtain ⟨xv, hxv, rx⟩ := reps_atI g3 hxd
        cases xd with
        | int xi =>
          have ex := rx.int_of
          subst ex
          have : (orD (.int xi) (.int (1 * 2 ^ oi.toNat)) P : Res D) = .ok (.int (Builtin.bitOr xi (1 * 2 ^ oi.toNat))) P := rfl
          rw [this] at hzd
          cases hzd
          obtain ⟨xs', hset, z7⟩ := out_some.mp (out_bind.mp (show out (M.some ((ixN xs.length si).map fun j => xs.set j (D.int (Builtin.bitOr xi (1 * 2 ^ oi.toNat)))) >>= _) P _ _ from z6))
          rw [Option.map_eq_some_iff] at hset
          obtain ⟨j, hj, rfl⟩ := hset
          obtain ⟨rfl, rfl⟩ := (show _ = kvs9 ∧ P = P9 from z7)
          obtain ⟨d5, R5⟩ := g4 _ _ (g3.set (v := .int (Builtin.bitOr xi (1 * 2 ^ oi.toNat))) (.int _) j)
          refine ⟨.ref a, hat, kV k, k1, a, .ref b, rfl, g1, .int si, s1, ?_⟩
          rw [hK]
          refine .inl ⟨b, vs, si, .int xi, rfl, rfl, SqL.of g2, hxv, ?_⟩
          refine ⟨.int oi, o1, 1, oi, rfl, rfl, cs, xi, _, rfl, rfl, ?_⟩
          refine ⟨.ref a, hat, kV k, k1, a, .ref b, rfl, g1, .int si, s1, b, vs, si, j, rfl, rfl, g2, by rw [g3.1]; exact hj, ?_⟩
          exact q9 σ _ G (Ext.refl _) ⟨R5 no R, a, hat, d5⟩
        | _ => cases hzd
      · have : (shlD (.int 1) (.int oi) P : Res D) = .no := by
          show (if CShl 1 oi then (Pure.pure (D.int (1 * 2 ^ oi.toNat)) : M D) else M.no) P = _
          rw [if_neg cs]; rfl
        rw [this] at hyd
        cases hyd
    | _ => cases hyd
  | _ => exact z3.elim
/-- the three parts together, then a block over the dict as a value -/
theorem ds_tabRest {i : Nat} {α : Type} {E : α → List Sl} {s1 s2 : Stmt} {rest : List Stmt} {m0 : M (List (Key × List D))} {m1 : List (Key × List D) → M (List (Key × List D))} {m2 : D → M (Fl α)} (hun : ρ[i]? = some .un) (no : ∀ (i : Nat) k, ρ[i]? ≠ some (.o k))
    (h1 : PS X s1 (rdQ0 c F W ρ i m0)) (h2 : PS X s2 (rdQ c F W ρ i m1)) (h3 : ∀ d, PSs X rest (rdS c F W (ρ.set i (.v d)) E (m2 d))) : PSs X (s1 :: s2 :: rest) (rdS c F W ρ E (m0 >>= fun kvs => m1 kvs >>= fun kvs => m2 (dicL kvs))) := by
  refine pss_by (pss_cons h1 (pss_cons h2 (pss_ex h3))) fun B σ H ⟨P, G, R, q⟩ => ?_
  refine ⟨P, G, R, out_mono (out_bind.mp q) (fun kvs P1 q1 σ1 H1 G1 e1 R1 => ?_) fun _ _ z => z⟩
  refine ⟨P1, G1, kvs, R1, out_mono (out_bind.mp q1) (fun kvs2 P2 q2 σ2 H2 G2 e2 R2 => ?_) fun _ _ z => exS_le e1 z⟩
  obtain ⟨R2, a, ha, d2⟩ := R2
  obtain ⟨G3, e3, R3, r3⟩ := d2.letgo no R2
  have hl : i < σ2.length := by rw [R2.len]; exact (List.getElem?_eq_some_iff.mp hun).1
  have R4 := R3.set (i := i) (v := .ref a) (d := dicL kvs2) r3
  have eσ : σ2.set i (some (.ref a)) = σ2 := by
    apply List.ext_getElem?
    intro j
    rw [List.getElem?_set]
    by_cases z : i = j
    · subst z
      rw [if_pos rfl, if_pos hl]; exact ha.symm
    · rw [if_neg z]
  rw [eσ] at R4
  have e := (e1.trans e2).trans e3
  refine ⟨dicL kvs2, P2, G3, R4, out_mono q2 (fun f P' z => ?_) fun x p z => exS_le e z⟩
  cases f with
  | nx a => exact fun σ' H' G2 e2 R2 => z σ' H' G2 (e.trans e2) R2
  | bk a => exact fun σ' H' G2 e2 R2 => z σ' H' G2 (e.trans e2) R2
  | ct a => exact fun σ' H' G2 e2 R2 => z σ' H' G2 (e.trans e2) R2
  | rt d => exact fun v H' G2 ρ' σ' e2 R2 k => z v H' G2 ρ' σ' (e.trans e2) R2 k
end
end DL
namespace DL
open PySem PySem.Spec PyProof.Rows L2
def noO : List Sl → Bool
  | [] => true
  | .o _ :: _ => false
  | _ :: r => noO r
theorem noO_by : ∀ {ρ : List Sl}, noO ρ = true → ∀ (i : Nat) k, ρ[i]? ≠ some (.o k)
  | [], _, i, k, e => by simp at e
  | s :: ρ, h, 0, k, e => by
    simp only [List.getElem?_cons_zero, Option.some.injEq] at e
    subst e
    cases h
  | s :: ρ, h, i + 1, k, e => by
    rw [List.getElem?_cons_succ] at e
    refine noO_by (ρ := ρ) ?_ i k e
    cases s <;> first | exact h | cases h
section
variable {c : Cn} {X : Cx} {F : Fr} {W : WX} {ρ : List Sl}
theorem dn_at {ρ' : List Sl} {e : Expr} {m : M (List D)} (h : ρ = ρ') (k : PE X e (rdNew c F W ρ' m)) : PE X e (rdNew c F W ρ m) := by rw [h]; exact k
theorem pss_q {body : List Stmt} {t : D → Option (List Sl)} {r : D → List Sl → TS} (h : ∀ d ρ', t d = some ρ' → PSs X body (r d ρ')) : PSs X body (fun B σ H => ∃ d ρ', t d = some ρ' ∧ r d ρ' B σ H) := ⟨fun pins s σ H B I ⟨d, ρ', e, q⟩ => (h d ρ' e).run pins s σ H B I q⟩
end
end DL
namespace DL
open PySem PySem.Spec PyProof.Rows L2
section
variable {c : Cn} {X : Cx} {F : Fr} {W : WX} {ρ : List Sl}
def truI : D → M Bool
  | .tup xs => Pure.pure (!xs.isEmpty)
  | .lst xs => Pure.pure (!xs.isEmpty)
  | .bl b => Pure.pure b
  | .int i => Pure.pure (i != 0)
  | .non => Pure.pure false
  | _ => M.no
theorem dt_tri {e : Expr} {m : M D} (hK : X.K = c.K) (h : PE X e (rdE c F W ρ m)) (he : ∀ whole, isTrue e X.env whole = (do let v ← whole; standAt e.pos; holding [v] (truthy v)) := by intro _; rfl) : PT X e (rdT c F W ρ (m >>= truI)) := by
  refine pt_by (pt_truth h he) fun σ H Q ⟨P, G, R, q⟩ => ?_
  refine ⟨P, G, R, out_mono (out_bind.mp q) (fun x P1 q1 v H1 G1 e1 R1 r1 => ?_) fun _ _ z => z⟩
  rw [hK]
  cases x with
  | bl b => exact ⟨b, by rw [r1.bl_of]; rfl, q1 H1 G1 e1 R1⟩
  | int i => exact ⟨i != 0, by rw [r1.int_of]; rfl, (show ∀ H' G', Ext G G' → Rel c F ρ P1 σ H' G' → Q (i != 0) H' from q1) H1 G1 e1 R1⟩
  | non => exact ⟨false, by rw [r1.non_of]; rfl, (show ∀ H' G', Ext G G' → Rel c F ρ P1 σ H' G' → Q false H' from q1) H1 G1 e1 R1⟩
  | tup xs =>
    cases r1 with
    | tup ha hl hr => exact ⟨!xs.isEmpty, .inr (.inl ⟨_, Evl.ex_t R1.post.le ha, emp_len hl⟩), (show ∀ H' G', Ext G G' → Rel c F ρ P1 σ H' G' → Q (!xs.isEmpty) H' from q1) H1 G1 e1 R1⟩
  | lst xs =>
    cases r1 with
    | lst ha hl hr => exact ⟨!xs.isEmpty, .inl ⟨_, SqL.of (R1.post.le _ _ ha), emp_len hl⟩, (show ∀ H' G', Ext G G' → Rel c F ρ P1 σ H' G' → Q (!xs.isEmpty) H' from q1) H1 G1 e1 R1⟩
  | _ => exact q1.elim
end
end DL
namespace DL
open PySem PySem.Spec PyProof.Rows L2
end DL
namespace DL
open PySem PySem.Spec PyProof.Rows L2
end DL
namespace DL
open PySem PySem.Spec PyProof.Rows L2
def keyIs : D → Key → Bool
  | .int i, .inl j => decide (i = j)
  | .str x, .inr y => decide (x = y)
  | _, _ => false
theorem keyIs_keyD (k j : Key) : keyIs (keyD k) j = decide (k = j) := by
  cases k <;> cases j <;> simp [keyIs, keyD]
def keyV : D → Option Key
  | .int i => some (.inl i)
  | .str x => some (.inr x)
  | _ => none
def getD (kvs : List (D × D)) (k : Key) : Option D := (kvs.find? fun p => keyIs p.1 k).map (·.2)
def ixA (x y : D) : M D := match x with
  | .dic kvs => match keyV y with
    | some k => M.some (getD kvs k)
    | none => M.no
  | x => ixD x y
section
variable {c : Cn} {X : Cx} {F : Fr} {W : WX} {ρ : List Sl}
theorem getD_rep {G : Hp} {k : Key} {d : D} : ∀ {kvs : List (Key × V)} {ds : List (D × D)}, kvs.map (fun p => keyD p.1) = ds.map (·.1) → c.reps G (kvs.map (·.2)) (ds.map (·.2)) → getD ds k = some d → ∃ v, valV kvs k = some v ∧ c.rep G v d
  | [], [], _, _, h => by cases h
  | [], _ :: _, h, _, _ => by simp at h
  | _ :: _, [], h, _, _ => by simp at h
  | p :: kvs, q :: ds, h1, h2, h => by
    simp only [List.map_cons, List.cons.injEq] at h1
    unfold getD at h
    unfold valV
    rw [List.find?_cons] at h ⊢
    rw [← h1.1, keyIs_keyD] at h
    by_cases z : p.1 = k
    · rw [decide_eq_true z] at h ⊢
      simp only [Option.map_some, Option.some.injEq] at h
      subst h
      exact ⟨_, rfl, Reps.head h2⟩
    · rw [decide_eq_false z] at h ⊢
      exact getD_rep (kvs := kvs) (ds := ds) h1.2 (Reps.tail h2) h
theorem getD_tups {ks : List (List D)} {k : Key} : ∀ {ds : List (D × D)}, ds.map (·.1) = ks.map D.tup → getD ds k = none := by
  induction ks with
  | nil => intro ds h; cases ds with
    | nil => rfl
    | cons _ _ => simp at h
  | cons a ks ih =>
    intro ds h
    cases ds with
    | nil => simp at h
    | cons p ds =>
      simp only [List.map_cons, List.cons.injEq] at h
      have e : keyIs p.1 k = false := by rw [h.1]; cases k <;> rfl
      show ((p :: ds).find? fun p => keyIs p.1 k).map (·.2) = none
      rw [List.find?_cons, e]
      exact ih h.2
theorem keyV_rep {G : Hp} {y : D} {k : Key} {u : V} (h : keyV y = some k) (r : c.rep G u y) : u = kV k := by
  cases y with
  | int i => cases h; exact r.int_of
  | str x => cases h; exact r.str_of
  | _ => cases h
theorem de_ixA {a b : Expr} {pos : Pos} {ma mb : M D} (hu : X.A.units + 1 < cLine) (hK : X.K = c.K) (ha : PE X a (rdE c F W ρ ma)) (hb : PE X b (rdE c F W ρ mb)) (hs : PlainIx b) (hn : NoSl b) : PE X (.Subscript a b pos) (rdE c F W ρ (ma >>= fun x => mb >>= fun y => ixA x y)) := by
  refine ⟨fun pins s σ H Q I ⟨P, G, R, q⟩ => ?_⟩
  have q' := out_bind.mp q
  cases e1 : ma P with
  | no => unfold out at q'; rw [e1] at q'; exact q'.elim
  | ex x p =>
    refine (de_ix (c := c) (F := F) (W := W) (ρ := ρ) (pos := pos) hK ha hb hs).run pins s σ H Q I ⟨P, G, R, ?_⟩
    refine out_bind.mpr ?_
    unfold out at q' ⊢
    rw [e1] at q' ⊢
    exact q'
  | ok d p =>
    unfold out at q'
    rw [e1] at q'
    have old : (∀ y, ixA d y = ixD d y) → wpAny (model X.prog X.w) X.A (eval (.Subscript a b pos) X.env) (EP X pins σ Q) X.xe s := fun h => by
      have q'' : out (mb >>= fun y => ixA d y) p _ _ := q'
      rw [funext h] at q''
      exact (de_ix (c := c) (F := F) (W := W) (ρ := ρ) (pos := pos) hK ha hb hs).run pins s σ H Q I ⟨P, G, R, out_bind.mpr ((out_eq e1).mpr q'')⟩
    cases d with
    | dic kvs =>
      refine (pe_dget hu ha hb hn (pos := pos)).run pins s σ H Q I ⟨P, G, R, (out_eq e1).mpr fun v H1 G1 e2 R1 r1 => ?_⟩
      refine ⟨p, G1, R1, out_mono (out_bind.mp (show out (mb >>= fun y => ixA (.dic kvs) y) p _ _ from q')) (fun y P2 q2 u H2 G2 e3 R2 r2 => ?_) fun _ _ z => exW_le e2 z⟩
      have q3 : out (match keyV y with
        | some k => M.some (getD kvs k)
        | none => M.no) P2 _ _ := q2
      cases hk : keyV y with
      | none => rw [hk] at q3; exact q3.elim
      | some k =>
        rw [hk] at q3
        obtain ⟨d, hd, q4⟩ := out_some.mp q3
        have eu := keyV_rep hk r2
        cases r1 with
        | @dicK a kvs' _ hG hkk hr =>
          obtain ⟨v', hv, rv⟩ := getD_rep (c := c) (G := G1) hkk ⟨by rw [List.length_map, List.length_map]; have := congrArg List.length hkk; simpa using this, fun i v d h1 h2 => by
            rw [List.getElem?_map, Option.map_eq_some_iff] at h1 h2
            obtain ⟨p, h1, rfl⟩ := h1
            obtain ⟨q, h2, rfl⟩ := h2
            exact hr i p q h1 h2⟩ hd
          exact ⟨a, v', rfl, .inl ⟨kvs', k, .of (R2.post.le _ _ (e3 _ _ hG)), eu, hv.symm⟩, q4 v' H2 G2 (e2.trans e3) R2 (rv.mono e3)⟩
        | @dicT a kvs' _ hG hkk hr =>
          have : getD kvs k = none := getD_tups (ks := kvs'.map fun p => p.1.map keyD) (by rw [List.map_map]; exact hkk.symm)
          rw [this] at hd
          cases hd
    | _ => exact old fun _ => rfl
end
end DL
namespace DL
open PySem PySem.Spec PyProof.Rows L2
theorem hu_1 {n : Nat} (h : n + 64 < cLine) : n + 1 < cLine := by omega
end DL
namespace DL
open PySem PySem.Spec PyProof.Rows L2
def kAt (ks : List Key) (j : Nat) : Key := ks.getD j (.inl 0)
def ltK : Key → Key → Bool
  | .inl i, .inl j => decide (i < j)
  | .inr x, .inr y => ltS x y
  | _, _ => false
def sameK : Key → Key → Bool
  | .inl _, .inl _ => true
  | .inr _, .inr _ => true
  | _, _ => false
def alikeK : List Key → List Key → Bool
  | k :: ks, j :: js => sameK k j && alikeK ks js
  | _, _ => true
theorem alikeK_at : ∀ {ks js : List Key}, alikeK ks js = true → ∀ {i : Nat}, i < ks.length → i < js.length → sameK (kAt ks i) (kAt js i) = true
  | [], _, _, i, h, _ => by simp at h
  | _ :: _, [], _, i, _, h => by simp at h
  | k :: ks, j :: js, h, 0, _, _ => by
    have h : (sameK k j && alikeK ks js) = true := h
    rw [Bool.and_eq_true] at h
    exact h.1
  | k :: ks, j :: js, h, i + 1, h1, h2 => by
    have h : (sameK k j && alikeK ks js) = true := h
    rw [Bool.and_eq_true] at h
    exact alikeK_at h.2 (i := i) (by simpa using h1) (by simpa using h2)
def ltKs (ks js : List Key) : Bool := Ob.lexAt (fun i => decide (kAt ks i = kAt js i)) (fun i => ltK (kAt ks i) (kAt js i)) (decide (ks.length < js.length)) 0 (min ks.length js.length)
def rLtT (K : PySem.W.Frag) : R2 := fun x y H Q => ∃ (a b : Addr) (ks js : List Key), x = .ref a ∧ y = .ref b ∧ SqT K H a (ks.map kV) ∧ SqT K H b (js.map kV) ∧ alikeK ks js = true ∧ Q (.bl (ltKs ks js)) H
section
variable {X : Cx}
theorem key_at {ks : List Key} {its : List Value} (r : Vals (ks.map kV) its) (i : Nat) (h : i < its.length) : RelV (kV (kAt ks i)) its[i] := by
  obtain ⟨v, e1, e2⟩ := SX.vals_ix r (List.getElem?_eq_getElem h)
  rw [List.getElem?_map, Option.map_eq_some_iff] at e1
  obtain ⟨k, e1, rfl⟩ := e1
  have : kAt ks i = k := by unfold kAt; rw [List.getD_eq_getElem?_getD, e1]; rfl
  rw [this]
  exact e2
theorem op_ltT (hu : X.A.units < cLine) : OpR X (compareOp .Lt) (rLtT X.K) := by
  intro pins s σ H x y v u Q I rx ry h
  obtain ⟨a, b, ks, js, rfl, rfl, ha, hb, al, q⟩ := h
  cases rx
  cases ry
  obtain ⟨its, r1, p1, _⟩ := I.tuple ha
  obtain ⟨its2, r2, p2, _⟩ := I.tuple hb
  have l1 : its.length = ks.length := by have := r1.length; rw [List.length_map] at this; exact this.symm
  have l2 : its2.length = js.length := by have := r2.length; rw [List.length_map] at this; exact this.symm
  have R := Ob.RcOp.tuples_lt (A := X.A) (s := s) (e := fun i => decide (kAt ks i = kAt js i)) (r := fun i => ltK (kAt ks i) (kAt js i)) p1 p2 hu (fun j h1 h2 => ?_) (fun j h1 h2 _ => ?_)
  · rw [List.size_toArray, List.size_toArray, l1, l2] at R
    have z : wpAny (model X.prog X.w) X.A (compareOp .Lt (.ref a) (.ref b)) (EP X pins σ Q) X.xe s := R X.prog X.w X.xe (EP X pins σ Q) ⟨.bl _, H, I, rfl, q⟩
    exact z
  all_goals
    have g1 : j < its.length := by simpa using h1
    have g2 : j < its2.length := by simpa using h2
    have w1 := key_at r1 j g1
    have w2 := key_at r2 j g2
    have sm := alikeK_at al (i := j) (by omega) (by omega)
    show _ 
    rw [List.getElem_toArray, List.getElem_toArray]
    revert w1 w2 sm
    cases kAt ks j <;> cases kAt js j <;> intro w1 w2 sm <;> try (exact absurd sm Bool.false_ne_true)
  · rename_i m n
    obtain ⟨t, w1⟩ := w1
    obtain ⟨t', w2⟩ := w2
    rw [w1, w2]
    have z : (m == n) = decide ((Sum.inl m : Key) = Sum.inl n) := by
      by_cases q : m = n
      · rw [decide_eq_true (by rw [q])]; exact beq_iff_eq.mpr q
      · rw [decide_eq_false (fun z => q (Sum.inl.inj z))]; exact beq_eq_false_iff_ne.mpr q
    rw [← z]
    exact SeqAt.EqAt.int_int _ _ _ _
  · rename_i m n
    obtain ⟨t, w1⟩ := w1
    obtain ⟨t', w2⟩ := w2
    rw [w1, w2]
    have z : (m == n) = decide ((Sum.inr m : Key) = Sum.inr n) := by
      by_cases q : m = n
      · rw [decide_eq_true (by rw [q])]; exact beq_iff_eq.mpr q
      · rw [decide_eq_false (fun z => q (Sum.inr.inj z))]; exact beq_eq_false_iff_ne.mpr q
    rw [← z]
    exact SeqAt.EqAt.str_str _ _ _ _
  · obtain ⟨t, w1⟩ := w1
    obtain ⟨t', w2⟩ := w2
    rw [w1, w2]
    exact Ob.RcOp.lt_int _ _ _ _
  · obtain ⟨t, w1⟩ := w1
    obtain ⟨t', w2⟩ := w2
    rw [w1, w2]
    exact fun _ _ _ _ h => PyProof.Rows.lt_str h
theorem opr_ltA (hu : X.A.units < cLine) : OpR X (compareOp .Lt) (fun x y H Q => rOrd (fun i j => decide (i < j)) ltS x y H Q ∨ rLtT X.K x y H Q) := opr_lt.or (op_ltT hu)
end
def keysD : List D → Option (List Key)
  | [] => some []
  | d :: ds => match keyV d, keysD ds with
    | some k, some ks => some (k :: ks)
    | _, _ => none
def ltA (x y : D) : M D := match x, y with
  | .tup xs, .tup ys => match keysD xs, keysD ys with
    | some ks, some js => if alikeK ks js = true then Pure.pure (.bl (ltKs ks js)) else M.no
    | _, _ => M.no
  | x, y => ltD x y
section
variable {c : Cn}
theorem keysD_of {G : Hp} : ∀ {vs : List V} {ds : List D} {ks : List Key}, c.reps G vs ds → keysD ds = some ks → vs = ks.map kV
  | [], [], ks, _, h => by cases h; rfl
  | [], _ :: _, _, r, _ => by have := r.1; simp at this
  | _ :: _, [], _, r, _ => by have := r.1; simp at this
  | v :: vs, d :: ds, ks, r, h => by
    have h : (match keyV d, keysD ds with
      | some k, some ks => some (k :: ks)
      | _, _ => none) = some ks := h
    cases h1 : keyV d with
    | none => rw [h1] at h; cases h
    | some k =>
      cases h2 : keysD ds with
      | none => rw [h1, h2] at h; cases h
      | some ks' =>
        rw [h1, h2] at h
        cases h
        rw [keyV_rep h1 r.head, keysD_of r.tail h2]
        rfl
theorem opd_ltA : OpD c (fun x y H Q => rOrd (fun i j => decide (i < j)) ltS x y H Q ∨ rLtT c.K x y H Q) ltA := by
  intro F ρ W P σ H G x y dx dy Q R rx ry q
  have old : (ltA dx dy = ltD dx dy) → rOrd (fun i j => decide (i < j)) ltS x y H Q ∨ rLtT c.K x y H Q := fun h => by
    rw [h] at q
    exact .inl (opd_ord F ρ W P σ H G x y dx dy Q R rx ry q)
  cases dx with
  | tup xs =>
    cases dy with
    | tup ys =>
      have q : out (match keysD xs, keysD ys with
        | some ks, some js => if alikeK ks js = true then Pure.pure (D.bl (ltKs ks js)) else M.no
        | _, _ => M.no) P _ _ := q
      cases h1 : keysD xs with
      | none => rw [h1] at q; exact q.elim
      | some ks =>
        cases h2 : keysD ys with
        | none => rw [h1, h2] at q; exact q.elim
        | some js =>
          rw [h1, h2] at q
          have q : out (if alikeK ks js = true then Pure.pure (D.bl (ltKs ks js)) else M.no) P _ _ := q
          by_cases al : alikeK ks js = true
          · rw [if_pos al] at q
            cases rx with
            | tup ha la ra =>
              cases ry with
              | tup hb lb rb =>
                have e1 := keysD_of (c := c) ⟨la, ra⟩ h1
                have e2 := keysD_of (c := c) ⟨lb, rb⟩ h2
                subst e1 e2
                exact .inr ⟨_, _, ks, js, rfl, rfl, Evl.ex_t R.post.le ha, Evl.ex_t R.post.le hb, al, q _ H G (Ext.refl _) R (.bl _)⟩
          · rw [if_neg al] at q; exact q.elim
    | _ => exact old rfl
  | _ => exact old rfl
theorem hu_0 {n : Nat} (h : n + 64 < cLine) : n < cLine := by omega
end
end DL
namespace DL
open PySem PySem.Spec PyProof.Rows L2
end DL
namespace DL
open PySem PySem.Spec PyProof.Rows L2
end DL
namespace SX
open PySem PySem.Spec PyProof.Rows L2
open PySem.W (EachIs alike dataLe AllAlike Sortable SortsAt dataKind dataKind_inv dataKind_some sortingHeap copyHeap sorting_copy_old)
section
variable {prog : Program} {w : World} {A : Around} {E : Value → Shared → Prop} {s : Shared}
theorem collect_tup {l : Addr} {vs : List Value} {Q : List Value → Shared → Prop} (hl : s.heap.IsTuple l vs.toArray) (hsz : vs.length ≤ sizeLine)
    (h : Q vs { s with heap := (s.heap.push (seqObj "list" #[] 0)).update s.heap.objs.size (Obj.mapSeq (· ++ vs.toArray)) }) : wpAny (model prog w) A (collect (.ref l)) Q E s := by
  obtain ⟨o, ho, hc, n, hd⟩ := id hl
  unfold collect
  refine wpAny_bind (wpAny_runValue (codeAny_builtin entry_proto_collect' ?_))
  show wpAny _ _ (newList [] >>= fun x => again (.builtin "list.__iadd__" ⟨[x, .ref l], []⟩)) _ _ s
  refine wpAny_bind (wpAny_newList (wpAny_pure ⟨Code.quiet_builtin _ (by decide +kernel), codeAny_builtin entry_list_iadd' ?_⟩))
  show wpAny _ _ (Builtin.List.listExtendWith (.ref s.heap.objs.size) (.ref l) (.ref s.heap.objs.size)) _ _ { s with heap := s.heap.push (seqObj "list" #[] 0) }
  unfold Builtin.List.listExtendWith
  have g1 : (s.heap.push (seqObj "list" #[] 0)).get? l = some o := Heap.get?_push_of_some _ ho
  have g2 : (s.heap.push (seqObj "list" #[] 0)).get? s.heap.objs.size = some (seqObj "list" #[] 0) := Heap.get?_push_size _ rfl
  refine wpAny_bind (wpAny_typeOf (T := "tuple") ⟨o, g1, hc⟩ ?_)
  have ht : (Value.type "tuple" == Value.type "tuple") = true := by rfl
  rw [if_pos (by rw [ht, Bool.or_true])]
  refine wpAny_bind (listItems_at g1 hd ?_)
  refine wpAny_bind (listItems_at (xs := #[]) (n := 0) g2 rfl ?_)
  rw [if_neg (by simp)]
  refine wpAny_bind (listUpdate_at (xs := #[]) (n := 0) g2 rfl ?_ (Nat.zero_le _) (by show (#[] ++ vs.toArray).size ≤ sizeLine + 1; simp only [Array.size_append, List.size_toArray, List.length_nil]; omega))
  refine wpAny_pure ?_
  show wpAny (model prog w) A (load s.heap.objs.size >>= fun o => match o.data with
      | .seq xs _ => pure xs.toList
      | _ => unsupported "internal:collect") Q E _
  refine wpAny_bind (wpAny_load (get?_update_seq g2 _) ?_)
  show wpAny _ _ (pure ((#[] : Array Value) ++ vs.toArray).toList) Q E _
  rw [show ((#[] : Array Value) ++ vs.toArray).toList = vs by simp]
  exact wpAny_pure h
theorem sorted_sort_t {l : Addr} {vs : List Value} {Q : Value → Shared → Prop} (hl : s.heap.IsTuple l vs.toArray) (hL : vs.length ≤ sizeLine)
    (body : ∀ E' : Value → Shared → Prop, wpAny (model prog w) A.in1.in1 (Builtin.«list.sort» ⟨[.ref (s.heap.objs.size + 1)], []⟩) (fun f s' => f = .done (.ret .none) ∧ Q (.ref (s.heap.objs.size + 1)) s') E' { s with heap := copyHeap s.heap vs }) :
    wpAny (model prog w) A (call (.builtin "sorted") [.ref l]) Q E s := by
  refine Calls.call_function_entry kind_sorted plain_sorted entry_sorted (args_sorted1 _) ?_
  unfold Builtin.«sorted»
  refine wpAny_bind (m := checkCount "sorted" 1 1 _) (wpAny_pure (wpAny_bind (collect_tup hl hL ?_)))
  refine wpAny_bind (wpAny_newList ?_ hL)
  have hsz : ((s.heap.push (seqObj "list" #[] 0)).update s.heap.objs.size (Obj.mapSeq (· ++ vs.toArray))).objs.size = s.heap.objs.size + 1 := by
    rw [Heap.size_update, size_push']
  show wpAny _ _ _ _ _ { s with heap := copyHeap s.heap vs }
  rw [hsz]
  refine wpAny_bind (wpAny_holding (wpAny_call_entry_kw slot_list_sort ⟨_, PySem.W.copyHeap_at s.heap vs, rfl⟩ entry_list_sort ?body (args_list_sort _)))
  case body =>
    show wpAny (model prog w) A.in1.in1 (Builtin.«list.sort» ⟨[.ref (s.heap.objs.size + 1)], []⟩) _ _ _
    refine wpAny_mono (body _) (fun f s' hf => ?_) fun _ _ e => e
    obtain ⟨rfl, hq⟩ := hf
    exact ⟨_, rfl, wpAny_pure ⟨_, rfl, hq⟩⟩
theorem sorted_data_t {β : Type} {vs : List Value} {bs : List β} {enc : β → PyData} {R : Value → β → Prop} {l : Addr} {Q : Value → Shared → Prop} (hl : s.heap.IsTuple l vs.toArray) (e : EachIs R vs bs) (er : EachIs (fun v b => ∃ as, Reads s.heap v (enc b) as) vs bs) (hal : AllAlike (bs.map enc)) (hk : Sortable (bs.map enc)) (hL : bs.length ≤ sizeLine)
    (hu : ∀ b, b ∈ bs → A.units + 2 + (enc b).depth < cLine) (h : ∀ out, out.length = bs.length → EachIs R out (bs.mergeSort (dataLe false enc)) → Q (.ref (s.heap.objs.size + 1)) { s with heap := sortedAll s.heap vs (List.toArray out) }) :
    wpAny (model prog w) A (call (.builtin "sorted") [.ref l]) Q E s := by
  have er' : EachIs (fun v b => ∃ as, Reads (sortingHeap (copyHeap s.heap vs) (s.heap.objs.size + 1) vs) v (enc b) as) vs bs := er.mono fun _ _ ⟨as, r⟩ => ⟨as, PyProof.Rows.Reads.keeps (fun _ _ => sorting_copy_old) r⟩
  refine sorted_sort_t hl (by rw [e.length]; exact hL) fun _ => PySem.W.list_sort_vals (s := { s with heap := copyHeap s.heap vs }) (PySem.W.copyHeap_at s.heap vs) (PySem.W.SortsAt.data (s := { s with heap := sortingHeap (copyHeap s.heap vs) (s.heap.objs.size + 1) vs }) (PySem.W.each_map (R := fun v d => ∃ as, Reads (sortingHeap (copyHeap s.heap vs) (s.heap.objs.size + 1) vs) v d as) enc er') hal hk (PySem.W.bound_map hu)) (by rw [e.length]; exact hL) ⟨rfl, ?_⟩
  exact h _ (by rw [PySem.W.sortVals_length false rfl]; exact e.length) (PySem.W.sortVals_data false e er' hal)
theorem sorted_vals_t {l : Addr} {vs : List Value} {Q : Value → Shared → Prop} {κ : PyProof.Rows.KeyKind} (hl : s.heap.IsTuple l vs.toArray) (S : SortsAt prog w A.in1.in1 { s with heap := sortingHeap (copyHeap s.heap vs) (s.heap.objs.size + 1) vs } κ vs) (hL : vs.length ≤ sizeLine)
    (h : Q (.ref (s.heap.objs.size + 1)) { s with heap := sortedAll s.heap vs (PySem.W.sortVals κ false vs vs).toArray }) : wpAny (model prog w) A (call (.builtin "sorted") [.ref l]) Q E s :=
  sorted_sort_t hl hL fun _ => PySem.W.list_sort_vals (s := { s with heap := copyHeap s.heap vs }) (PySem.W.copyHeap_at s.heap vs) S hL ⟨rfl, h⟩
end
def rSortT (K : PySem.W.Frag) : List V → Hp → VK → Prop := fun vs H Q => ∃ (a : Addr) (ws : List V) (ps : List PyData), vs = [.ref a] ∧ SqT K H a ws ∧ DpAll K H ws ps ∧ ws.length = ps.length ∧ ws.length ≤ sizeLine ∧ SortOk ps ∧
  ∀ p, H p = none → Q (.ref p) (upd H p (.lst (((ws.zip ps).mergeSort (dataLe false (·.2))).map (·.1))))
section
variable {X : Cx}
theorem cr_sortT (hu : X.A.units + 64 < cLine) : CallR X (.builtin "sorted") (rSortT X.K) := by
  intro pins s σ H vs us Q I r h
  obtain ⟨a, ws, ps, rfl, hs, hp, hlen, hz, ⟨hal, hnn, hk, hd⟩, q⟩ := h
  rw [Vals.ref1 r]
  obtain ⟨its, rv, hl, _⟩ := I.tuple hs
  obtain ⟨as, ra⟩ := Dp.readsAll I ps ws its hp rv
  obtain ⟨e1, e2⟩ := each_zip rv ra
  have em : (ws.zip ps).map (·.2) = ps := List.map_snd_zip (by omega)
  have hiz : its.length = ws.length := rv.length.symm
  have fin : ∀ out : List Value, out.length = (ws.zip ps).length → EachIs (fun (u : Value) (b : V × PyData) => RelV b.1 u) out ((ws.zip ps).mergeSort (dataLe false (·.2))) → EP X pins σ Q (.ref (s.heap.objs.size + 1)) { s with heap := sortedAll s.heap its out.toArray } := fun out ho eo => by
    obtain ⟨c, hc⟩ := sortedAll_at s.heap its out.toArray
    have hnp : H (s.heap.objs.size + 1) = none := I.hok.fresh (Nat.le_succ _)
    have k : ∀ b o, s.heap.get? b = some o → (sortedAll s.heap its out.toArray).get? b = some o := fun _ _ => sortedAll_old
    have hl2 : (((ws.zip ps).mergeSort (dataLe false (·.2))).map (·.1)).length ≤ sizeLine := by
      rw [List.length_map, List.length_mergeSort, List.length_zip]; omega
    exact ⟨.ref (s.heap.objs.size + 1), upd H (s.heap.objs.size + 1) (.lst (((ws.zip ps).mergeSort (dataLe false (·.2))).map (·.1))), I.call (ch := []) (Un.laid k (Nat.le_succ _) hnp) (I.hok.laid k (Nat.le_succ _) ⟨hl2, out, c, vals_zip eo, by simpa using hc⟩) I.bare fun _ z => (nomatch z), rfl, q _ hnp⟩
  have hub : ∀ b, b ∈ ws.zip ps → X.A.units + 2 + (b.2 : PyData).depth < cLine := fun b hb => by
    have := hd b.2 (by rw [← em]; exact List.mem_map.mpr ⟨b, hb, rfl⟩)
    omega
  rcases hk with hk | hk
  · exact sorted_data_t (enc := fun b : V × PyData => b.2) (R := fun u b => RelV b.1 u) hl e1 e2 (by rw [em]; exact hal) (by rw [em]; exact hk) (by rw [List.length_zip]; omega) hub fun out ho eo => fin out ho eo
  · have er' : EachIs (fun (u : Value) (b : V × PyData) => ∃ as, Reads (sortingHeap (copyHeap s.heap its) (s.heap.objs.size + 1) its) u b.2 as) its (ws.zip ps) := e2.mono fun _ _ ⟨as, r⟩ => ⟨as, PyProof.Rows.Reads.keeps (fun _ _ => sorting_copy_old) r⟩
    have hub2 : ∀ d, d ∈ (ws.zip ps).map (·.2) → X.A.in1.in1.units + d.depth < cLine := fun d hd2 => by
      rw [em] at hd2
      have := hd d hd2
      have u : X.A.in1.in1.units ≤ X.A.units + 2 := by simp [Around.in1]
      omega
    refine sorted_vals_t hl (sortsAt_one (s := { s with heap := sortingHeap (copyHeap s.heap its) (s.heap.objs.size + 1) its }) (PySem.W.each_map (R := fun v d => ∃ as, Reads (sortingHeap (copyHeap s.heap its) (s.heap.objs.size + 1) its) v d as) (fun b : V × PyData => b.2) er') (by rw [em]; exact hal) (by rw [em]; exact hnn) (by rw [em]; exact hk) hub2) (by omega) ?_
    exact fin _ (by rw [PySem.W.sortVals_length false rfl, hiz, List.length_zip]; omega) (PySem.W.sortVals_data (enc := fun b : V × PyData => b.2) false e1 er' (by rw [em]; exact hal))
end
end SX
namespace DL
open PySem PySem.Spec PyProof.Rows L2
section
variable {c : Cn} {X : Cx} {F : Fr} {W : WX} {ρ : List Sl}
open Classical in
noncomputable def sortA : D → M D
  | .tup ds => sortD (.lst ds)
  | d => sortD d
open Classical in
theorem cr_sortA (hu : X.A.units + 64 < cLine) : CallR X (.builtin "sorted") (fun vs H Q => SX.rSortD X.K vs H Q ∨ SX.rSortT X.K vs H Q) := by
  intro pins s σ H vs us Q I r h
  rcases h with h | h
  · exact SX.cr_sortD hu pins s σ H vs us Q I r h
  · exact SX.cr_sortT hu pins s σ H vs us Q I r h
open Classical in
theorem cd_sortA : CallD c (fun vs H Q => SX.rSortD c.K vs H Q ∨ SX.rSortT c.K vs H Q) (f1 sortA) := by
  intro F ρ W P σ H G vs ds Q R rs q
  match ds, q with
  | [d], q =>
    cases d with
    | tup xs =>
      obtain ⟨v, rfl, rv⟩ := rs.one
      right
      have q : out (match toPys xs with
        | some ps => if SX.SortOk ps ∧ xs.length ≤ sizeLine then Pure.pure (D.lst (xs.mergeSort pyLe)) else M.no
        | none => M.no) P _ _ := q
      cases hp : toPys xs with
      | none => rw [hp] at q; exact q.elim
      | some ps =>
        rw [hp] at q
        by_cases z : SX.SortOk ps ∧ xs.length ≤ sizeLine
        · have q : out (if SX.SortOk ps ∧ xs.length ≤ sizeLine then Pure.pure (D.lst (xs.mergeSort pyLe)) else M.no) P _ _ := q
          rw [if_pos z] at q
          cases rv with
          | tup ha hl hr =>
            refine ⟨_, _, ps, rfl, Evl.ex_t R.post.le ha, dps_of R.post.le xs _ ps ⟨hl, hr⟩ hp, hl.trans (toPys_get hp).1, by rw [hl]; exact z.2, z.1, fun p hpn => ?_⟩
            exact new_lst R hpn (sort_reps ⟨hl, hr⟩ hp) q
        · have q : out (if SX.SortOk ps ∧ xs.length ≤ sizeLine then Pure.pure (D.lst (xs.mergeSort pyLe)) else M.no) P _ _ := q
          rw [if_neg z] at q; exact q.elim
    | lst xs => exact .inl (cd_sortD F ρ W P σ H G vs [.lst xs] Q R rs q)
    | _ => exact q.elim
  | [], q => exact q.elim
  | _ :: _ :: _, q => exact q.elim
end
end DL
namespace DL
open PySem PySem.Spec PyProof.Rows L2
section
variable {c : Cn} {X : Cx} {F : Fr} {W : WX} {ρ : List Sl} {α β : Type} {tg : Expr}
theorem nt_frz {od : Obj} {o : HO} : noTbl (.frz od o) := fun _ h => nomatch h
end
end DL
namespace DL
open PySem PySem.Spec PyProof.Rows L2
end DL
namespace DL
open PySem PySem.Spec PyProof.Rows L2
end DL
namespace DL
open PySem PySem.Spec PyProof.Rows L2
end DL
namespace DL
open PySem PySem.Spec PyProof.Rows L2
end DL
namespace DL
open PySem PySem.Spec PyProof.Rows L2
section
variable {X : Cx}
theorem sw_trueD {kx vx : Expr} {gs : List Comprehension} {scope : Scope} {pos py : Pos} {y : Str} {l : Nat} {env : Env} (hk : env.scope.kind = .function) (hy : env.scope.names.lookup y = some .local) (hl : (py.line == pos.line) = true)
    (ha : (scope.names.any fun (n, k) => n == y && (k == .local || k == .cell)) = false) : swapsWith (.DictComp kx vx gs scope pos) (some (.Name y py)) l env = pure true := by
  have ky : env.kindOf y = some .local := hy
  have hb : env.blockKind = .function := by unfold Env.blockKind; rw [hk]; rfl
  unfold swapsWith
  simp only [hb, ky, ha, Expr.pos, hl]
  rfl
variable {c : Cn} {F : Fr} {W : WX} {ρ : List Sl}
end
end DL
namespace DL
open PySem PySem.Spec PyProof.Rows L2
section
variable {c : Cn} {F : Fr} {W : WX} {ρ : List Sl} {X : Cx}
theorem Rel.up {G2 H2 : Hp} {ρ1 : List Sl} {P : Pot} {σ : L2.St} {H G : Hp} (R : Rel c ⟨G2, H2, F.ap⟩ ρ1 P σ H G) (p : Post c F.ap F.G0 F.H0 P G H) : Rel c F (ρ1.map unO) P σ H G := by
  have no : ∀ (i : Nat) k, (ρ1.map unO)[i]? ≠ some (.o k) := fun i k e => by
    rw [List.getElem?_map] at e
    cases h : ρ1[i]? with
    | none => rw [h] at e; cases e
    | some s => rw [h] at e; cases s <;> cases e
  refine ⟨p, by simpa using R.len, fun i s x a b => ?_, fun i j k k' a h1 _ _ _ => absurd h1 (no i k)⟩
  rw [List.getElem?_map] at a
  cases h : ρ1[i]? with
  | none => rw [h] at a; cases a
  | some s' =>
    rw [h] at a
    have z := R.sl i s' x h b
    cases s' <;> cases a
    · exact True.intro
    · exact z
    · exact True.intro
    · exact z
end
end DL
namespace DL
open PySem PySem.Spec PyProof.Rows L2
end DL
namespace DL
open PySem PySem.Spec PyProof.Rows L2
/-- as any tuple -/
def untuk : D → D
  | .tuk ks => .tup (ks.map keyD)
  | d => d
section
variable {c : Cn} {X : Cx} {F : Fr} {W : WX} {ρ : List Sl} {α β : Type} {tg : Expr}
theorem Rep.untuk {G : Hp} {v : V} {d : D} (h : c.rep G v d) : c.rep G v (DL.untuk d) := by
  cases d with
  | tuk ks =>
    cases h with
    | tuk ha =>
      obtain ⟨l, r⟩ := keysV_of (c := c) (G := G) ks
      exact .tup (SqT.of ha) l r
  | _ => exact h
theorem Reps.untuk {G : Hp} {vs : List V} {ds : List D} (h : c.reps G vs ds) : c.reps G vs (ds.map DL.untuk) := by
  refine ⟨by rw [List.length_map]; exact h.1, fun i v d a b => ?_⟩
  rw [List.getElem?_map, Option.map_eq_some_iff] at b
  obtain ⟨d', b, rfl⟩ := b
  exact (h.2 i v d' a b).untuk
theorem de_untuk {e : Expr} {m : M D} (h : PE X e (rdE c F W ρ m)) : PE X e (rdE c F W ρ (m >>= fun d => Pure.pure (untuk d))) :=
  pe_by h fun σ H Q ⟨P, G, R, q⟩ => ⟨P, G, R, out_mono (out_bind.mp q) (fun d P1 q1 v H1 G1 e1 R1 r1 =>
    (show ∀ v H' G', Ext G G' → Rel c F ρ P1 σ H' G' → c.rep G' v (untuk d) → Q v H' from q1) v H1 G1 e1 R1 r1.untuk) fun _ _ z => z⟩
def mkK (ks : List Key) : M D := if ks.length ≤ sizeLine then Pure.pure (.tuk ks) else M.no
/-- (k, ..), its items keys -/
theorem de_tuk {es : List Expr} {k : Nat} {pos : Pos} {ms : M (List Ar)} (h : PA X es (rdA c F W ρ ms)) : PE X (.Tuple es k pos) (rdE c F W ρ (ms >>= fun as => DL.vals as >>= fun ds => keyL ds >>= mkK)) := by
  refine pe_by (pe_tup h) fun σ H Q ⟨P, G, R, q⟩ => ?_
  refine ⟨P, G, R, out_mono (out_bind.mp q) (fun as P1 q1 vs H1 G1 e1 R1 r1 => ?_) fun _ _ z => z⟩
  obtain ⟨ds, r, q2⟩ := r1.reps (out_bind.mp q1)
  obtain ⟨ks, rfl, q3⟩ := keyL_out (out_bind.mp q2)
  have ev := keys_of r
  subst ev
  unfold mkK at q3
  by_cases hz : ks.length ≤ sizeLine
  · rw [if_pos hz] at q3
    refine ⟨by rw [List.length_map]; exact hz, fun p hp => ?_⟩
    obtain ⟨R2, e2⟩ := R1.new hp (o := .tup (ks.map kV)) nt_tup
    exact q3 (.ref p) _ _ (e1.trans e2) R2 (.tuk upd_same)
  · rw [if_neg hz] at q3; exact q3.elim
/-- a tuple of keys as a key -/
def keyT : D → M (List Key)
  | .tuk ks => Pure.pure ks
  | _ => M.no
theorem keyT_out {d : D} {P : Pot} {ok : List Key → Pot → Prop} {ex : Ex → Pot → Prop} (h : out (keyT d) P ok ex) : ∃ ks, d = .tuk ks ∧ ok ks P := by
  cases d with
  | tuk ks => exact ⟨ks, rfl, h⟩
  | _ => exact h.elim
/-- how often a while may turn -/
noncomputable def WF : Nat := Classical.choose (⟨2 ^ 60, rfl⟩ : ∃ n : Nat, n = 2 ^ 60)
theorem WF_eq : WF = 2 ^ 60 := Classical.choose_spec (⟨2 ^ 60, rfl⟩ : ∃ n : Nat, n = 2 ^ 60)
/-- x != e, x a list of one's own -/
theorem dt_neO {i : Nat} {ds : List D} {x : Str} {p pos : Pos} {b : Expr} {mb : M D} (hu : X.A.units + 64 < cLine) (hK : X.K = c.K) (hi : ρ[i]? = some (.o (.l ds))) (hx : PE X (.Name x p) (tVar i)) (hb : PE X b (rdE c F W ρ mb)) (hm : behindInMarks .NotEq b = false := by first | exact nomark _ | rfl) :
    PT X (.Compare (.Name x p) [.NotEq] [b] pos) (rdT c F W ρ (mb >>= fun y => neD (.lst (ds.map untuk)) y >>= boolD)) := by
  refine pt_by (pt_cmpR (op_neD hu) hx hb hm) fun σ H Q ⟨P, G, R, q⟩ => ?_
  have hl : i < σ.length := by rw [R.len]; exact (List.getElem?_eq_some_iff.mp hi).1
  obtain ⟨a, ea, ⟨o, ho, hk⟩, g, h, n⟩ := R.sl i _ _ hi (List.getElem?_eq_getElem hl)
  refine ⟨.ref a, by rw [List.getElem?_eq_getElem hl, ea], P, G, R, out_mono (out_bind.mp q) (fun y P1 q1 v H1 G1 e1 R1 r1 => ?_) fun _ _ z => z⟩
  obtain ⟨a', ea', ⟨o', ho', hk'⟩, g', h', n'⟩ := R1.sl i _ _ hi (List.getElem?_eq_getElem hl)
  rw [ea] at ea'
  cases ea'
  cases o' with
  | lst vs =>
    have hk' : c.reps G1 vs ds := hk'
    have ru := Reps.untuk hk'
    have q1 := out_bind.mp q1
    unfold neD at q1
    cases h1 : toPy (.lst (ds.map untuk)) with
    | none => rw [h1] at q1; exact q1.elim
    | some d =>
      cases h2 : toPy y with
      | none => rw [h1, h2] at q1; exact q1.elim
      | some e =>
        rw [h1, h2] at q1
        by_cases z : SeqAt.shaped d = true ∧ SeqAt.shaped e = true
        · simp only [if_pos z] at q1
          have h3 : (toPys (ds.map untuk)).map PyData.list = some d := h1
          rw [Option.map_eq_some_iff] at h3
          obtain ⟨ps, h3, rfl⟩ := h3
          rw [hK]
          exact ⟨.list ps, e, .lst (SqL.of ho') (dps_of R1.post.le _ _ _ ru h3), dp_of R1.post.le _ _ _ r1 h2, z.1, z.2, _, rfl, (show ∀ H' G', Ext G G' → Rel c F ρ P1 σ H' G' → Q (!PyData.eqv (.list ps) e) H' from q1) H1 G1 e1 R1⟩
        · simp only [if_neg z] at q1; exact q1.elim
  | _ => exact hk'.elim
theorem isSome_getX {κ : Type} [DecidableEq κ] {k : κ} : ∀ {kvs : List (κ × V)} {ds : List (κ × D)}, kvs.map (·.1) = ds.map (·.1) → (valV kvs k).isSome = (getX ds k).isSome
  | [], [], _ => rfl
  | [], _ :: _, h => by simp at h
  | _ :: _, [], h => by simp at h
  | p :: r, q :: s, h => by
    simp only [List.map_cons, List.cons.injEq] at h
    have ih := isSome_getX (k := k) h.2
    unfold valV getX at ih ⊢
    rw [List.find?_cons, List.find?_cons, h.1]
    by_cases z : q.1 = k
    · rw [decide_eq_true z]; rfl
    · rw [decide_eq_false z]; exact ih
theorem dt_notinT {i : Nat} {ds : List (List Key × D)} {x : Str} {p pos : Pos} {e : Expr} {me : M D} (hu : X.A.units + 1 < cLine) (hi : ρ[i]? = some (.o (.dt ds))) (hx : PE X (.Name x p) (tVar i)) (he : PE X e (rdE c F W ρ me)) :
    PT X (.Compare e [.NotIn] [.Name x p] pos) (rdT c F W ρ (me >>= keyT >>= fun k => Pure.pure (!(getX ds k).isSome))) := by
  refine pt_by (pt_cmp (pc_dnotin hu he hx)) fun σ H Q ⟨P, G, R, q⟩ => ?_
  refine ⟨P, G, R, out_mono (out_bind.mp (out_bind.mp q)) (fun d P1 q1 v H1 G1 e1 R1 r1 => ?_) fun _ _ z => z⟩
  obtain ⟨k, rfl, q2⟩ := keyT_out q1
  obtain ⟨a, kvs, ea, ha, rk, -⟩ := own_dt R1 hi
  cases r1 with
  | tuk hb =>
    refine ⟨.ref a, ea, a, _, rfl, .t ha (R1.post.le _ _ hb), _, rfl, ?_⟩
    have e : (valV kvs k).isSome = (getX ds k).isSome := isSome_getX rk.1
    rw [e]
    exact (show ∀ H' G', Ext G G' → Rel c F ρ P1 σ H' G' → Q (!(getX ds k).isSome) H' from q2) H1 G1 e1 R1
/-- x[k] = e, the key by its value -/
theorem ds_putTv {i : Nat} {ds : List (List Key × D)} {x : Str} {p p2 pos : Pos} {ke e : Expr} {me mk : M D} (hu : X.A.units + 1 < cLine) (hi : ρ[i]? = some (.o (.dt ds))) (hx : PE X (.Name x p) (tVar i)) (he : PE X e (rdE c F W ρ me)) (hk : PE X ke (rdE c F W ρ mk))
    (hs : swapsWith e (some (.Subscript (.Name x p) ke p2)) pos.line X.env = pure false := by rfl) :
    PS X (.Assign [.Subscript (.Name x p) ke p2] e pos) (rdS c F W ρ (fun ds => ρ.set i (.o (.dt ds))) (me >>= fun d => mk >>= fun y => keyT y >>= fun k => if ds.length < sizeLine then Pure.pure (.nx (putX ds k d)) else M.no)) := by
  refine ps_by (ps_dput hu hx hk he hs) fun B σ H ⟨P, G, R, q⟩ => ?_
  refine ⟨P, G, R, out_mono (out_bind.mp q) (fun d P1 q1 v H1 G1 e1 R1 r1 => ?_) fun _ _ z => exS.w z⟩
  obtain ⟨a, kvs, ea, -⟩ := own_dt R1 hi
  refine ⟨.ref a, ea, P1, G1, R1, out_mono (out_bind.mp q1) (fun y P2 q2 w H2 G2 e2 R2 r2 => ?_) fun _ _ z => exW_le (P := P) e1 (exS.w z)⟩
  obtain ⟨k, rfl, q3⟩ := keyT_out (out_bind.mp q2)
  obtain ⟨a', kvs2, ea', h2, rk, -⟩ := own_dt R2 hi
  rw [ea] at ea'
  cases ea'
  cases r2 with
  | tuk hb =>
    by_cases z : ds.length < sizeLine
    · rw [if_pos z] at q3
      have q4 : ∀ σ' H' G', Ext G G' → Rel c F (ρ.set i (.o (.dt (putX ds k d)))) P2 σ' H' G' → B.nx σ' H' := q3
      have rp : RepX c G2 (putK kvs2 k v) (putX ds k d) := RepX.put (r1.mono e2) rk
      have rl : kvs2.length = ds.length := RepX.len rk
      exact ⟨a, _, rfl, .inr ⟨kvs2, k, _, h2, rfl, R2.post.le _ _ hb, by rw [rl]; exact z, rfl⟩, q4 σ _ G2 (e1.trans e2) (R2.upd_own hi ea rp)⟩
    · rw [if_neg z] at q3; exact q3.elim
/-- one's own dict, locked for good -/
theorem Rel.lockgoT {P : Pot} {σ : L2.St} {H G : Hp} {i : Nat} {ds : List (List Key × D)} {pins : List (Addr × Obj)} {s : Shared} (I : Inv X pins σ H s) (R : Rel c F ρ P σ H G) (hi : ρ[i]? = some (.o (.dt ds))) :
    ∃ H' G', Inv X pins σ H' s ∧ Ext G G' ∧ Rel c F (ρ.set i (.v (.dct (ds.map (·.1))))) P σ H' G' := by
  have hlt : i < ρ.length := (List.getElem?_eq_some_iff.mp hi).1
  have hl : i < σ.length := by rw [R.len]; exact hlt
  obtain ⟨a, kvs, hat, ho, hk, g, h, n⟩ := own_dt R hi
  obtain ⟨od, I2⟩ := I.lock ho True.intro
  have eσ : σ.set i (some (.ref a)) = σ := by
    apply List.ext_getElem?
    intro j
    rw [List.getElem?_set]
    by_cases z : i = j
    · subst z
      rw [if_pos rfl, if_pos hl]; exact hat.symm
    · rw [if_neg z]
  have R0 := R.un (i := i) (x := some (.ref a))
  rw [eσ] at R0
  have ow : ∀ (j : Nat) kk, (ρ.set i .un)[j]? = some (.o kk) → σ[j]? ≠ some (some (V.ref a)) := fun j kk hj hs => by
    by_cases z : i = j
    · subst z; rw [List.getElem?_set] at hj; simp at hj
    · rw [List.getElem?_set_ne z] at hj
      exact z (R.ap i j _ kk a hi hj hat hs)
  have R1 := R0.at (o := .frz od (.dT kvs)) g h n (fun u e => by rw [ho] at e; cases e; exact ⟨nofun, nofun⟩) ow
  obtain ⟨R2, e2⟩ := R1.freeze upd_same nt_frz h n ow g
  refine ⟨_, _, I2, e2, ?_⟩
  have hk : RepX c G kvs ds := hk
  have R3 := R2.set (i := i) (v := .ref a) (d := .dct (ds.map (·.1))) (.dct upd_same hk.1)
  rw [List.set_set, eσ] at R3
  exact R3
theorem ds_letgoLT {ss : List Stmt} {E : α → List Sl} {i : Nat} {ds : List (List Key × D)} {m : M (Fl α)} (hi : ρ[i]? = some (.o (.dt ds))) (h : PSs X ss (rdS c F W (ρ.set i (.v (.dct (ds.map (·.1))))) E m)) : PSs X ss (rdS c F W ρ E m) :=
  ⟨fun pins s σ H B I ⟨P, G, R, q⟩ => by
    obtain ⟨H', G', I', e, R'⟩ := R.lockgoT I hi
    refine h.run pins s σ H' B I' ⟨P, G', R', out_mono q (fun f P' z => ?_) fun x p z => exS_le e z⟩
    cases f with
    | nx a => exact fun σ' H' G2 e2 R2 => z σ' H' G2 (e.trans e2) R2
    | bk a => exact fun σ' H' G2 e2 R2 => z σ' H' G2 (e.trans e2) R2
    | ct a => exact fun σ' H' G2 e2 R2 => z σ' H' G2 (e.trans e2) R2
    | rt d => exact fun v H' G2 ρ' σ' e2 R2 k => z v H' G2 ρ' σ' (e.trans e2) R2 k⟩
end
end DL
namespace DL
open PySem PySem.Spec PyProof.Rows L2
section
variable {c : Cn} {X : Cx} {F : Fr} {W : WX} {ρ : List Sl} {α β : Type} {tg : Expr}
def addI2 : D → D → M D
  | .int i, .int j => Pure.pure (.int (i + j))
  | _, _ => M.no
theorem ds_augAdd {i : Nat} {d : D} {x : Str} {e : Expr} {pos' pos : Pos} {m : M D} (hN : X.N.Nodup) (hi : X.N[i]? = some x) (hx : Loc X.env.scope x) (hd : ρ[i]? = some (.v d)) (he : PE X e (rdE c F W ρ m)) (hf : X.fn x = true ∨ X.env.scope.names.lookup x = some .local := by first | exact .inl rfl | exact .inr rfl | assumption) :
    PS X (.AugAssign (.Name x pos') .Add e pos) (rdS c F W ρ (fun d => ρ.set i (.v d)) (m >>= fun y => addI2 d y >>= fun d => Pure.pure (.nx d))) := by
  refine ps_by (ps_aug hN hi hx he ip_add hf) fun B σ H ⟨P, G, R, q⟩ => ?_
  have hl : i < σ.length := by rw [R.len]; exact (List.getElem?_eq_some_iff.mp hd).1
  obtain ⟨v, ev, rv⟩ := R.sl i _ _ hd (List.getElem?_eq_getElem hl)
  refine ⟨v, by rw [List.getElem?_eq_getElem hl, ev], P, G, R, out_mono (out_bind.mp q) (fun y P1 q1 w H1 G1 e1 R1 r1 => ?_) fun _ _ z => exS.w z⟩
  cases d with
  | int a =>
    cases y with
    | int b =>
      have q2 : ∀ σ' H' G', Ext G G' → Rel c F (ρ.set i (.v (.int (a + b)))) P1 σ' H' G' → B.nx σ' H' := q1
      exact ⟨a, b, rv.int_of, r1.int_of, q2 _ H1 G1 e1 (R1.set (.int _))⟩
    | _ => exact q1.elim
  | _ => exact q1.elim
end
end DL
namespace DL
open PySem PySem.Spec PyProof.Rows L2
section
variable {c : Cn} {X : Cx}
def reprE : D → M D
  | .int i => strD (.int i)
  | d => reprD d
def rReprE (K : PySem.W.Frag) : V → Hp → VK → Prop := fun v H Q => rRepr K v H Q ∨ ∃ i, v = .int i ∧ i.natAbs.log2 < 1920 ∧ Q (.str (toString i)) H
theorem cr_reprE (hg : X.A.guards = some []) (hu : X.A.units + 102 < cLine) : CallR X (.builtin "repr") (fun xs H Q => ∃ v, xs = [v] ∧ rReprE X.K v H Q) := CallR.by (CallR.or (cr_repr hg hu) SkE.call_repr_int) fun xs H Q ⟨v, e, h⟩ => by
  subst e
  rcases h with h | ⟨i, rfl, h⟩
  · exact .inl ⟨v, rfl, h⟩
  · exact .inr ⟨i, rfl, h⟩
theorem cd_reprE : CallD c (fun xs H Q => ∃ v, xs = [v] ∧ rReprE c.K v H Q) (f1 reprE) := by
  intro F ρ W P σ H G vs ds Q R rs q
  match ds, q with
  | [d], q =>
    obtain ⟨v, rfl, rv⟩ := rs.one
    refine ⟨v, rfl, ?_⟩
    have old : ∀ d, c.rep G v d → out (reprD d) P (fun d P' => ∀ v H' G', Ext G G' → Rel c F ρ P' σ H' G' → c.rep G' v d → Q v H') (exW c F W P G σ) → rRepr c.K v H Q := fun d r z => by
      have := cd_repr (c := c) F ρ W P σ H G [v] [d] Q R (Reps.cons r Reps.nil) z
      obtain ⟨u, e, h⟩ := this
      injection e with e _
      subst e
      exact h
    cases d with
    | int i =>
      have q : out (if i.natAbs.log2 < 1920 then Pure.pure (D.str (Str.ofString (toString i))) else M.no) P _ _ := q
      by_cases z : i.natAbs.log2 < 1920
      · rw [if_pos z] at q
        exact .inr ⟨i, rv.int_of, z, q _ H G (Ext.refl _) R (.str _)⟩
      · rw [if_neg z] at q; exact q.elim
    | _ => exact .inl (old _ rv q)
  | [], q => exact q.elim
  | _ :: _ :: _, q => exact q.elim
end
end DL
namespace DL
open PySem PySem.Spec PyProof.Rows L2
end DL
namespace DL
open PySem PySem.Spec PyProof.Rows L2
section
variable {c : Cn} {X : Cx}
theorem call_repr_bool : CallR X (.builtin "repr") (fun xs H Q => ∃ b, xs = [.bl b] ∧ Q (.str (if b then "True" else "False")) H) := by
  intro pins s σ H xs us Q I r h
  obtain ⟨b, rfl, q⟩ := h
  obtain ⟨u, rfl, ru⟩ := vals1 r
  cases ru
  exact PySem.P.repr_of_bool ⟨.str _, H, I.tok _, ⟨_, rfl⟩, q⟩
def reprB : D → M D
  | .bl b => Pure.pure (.str (if b then "True" else "False"))
  | d => reprE d
def rReprB (K : PySem.W.Frag) : V → Hp → VK → Prop := fun v H Q => rReprE K v H Q ∨ ∃ b, v = .bl b ∧ Q (.str (if b then "True" else "False")) H
theorem cr_reprB (hg : X.A.guards = some []) (hu : X.A.units + 102 < cLine) : CallR X (.builtin "repr") (fun xs H Q => ∃ v, xs = [v] ∧ rReprB X.K v H Q) := CallR.by (CallR.or (cr_reprE hg hu) call_repr_bool) fun xs H Q ⟨v, e, h⟩ => by
  subst e
  rcases h with h | ⟨i, rfl, h⟩
  · exact .inl ⟨v, rfl, h⟩
  · exact .inr ⟨i, rfl, h⟩
theorem cd_reprB : CallD c (fun xs H Q => ∃ v, xs = [v] ∧ rReprB c.K v H Q) (f1 reprB) := by
  intro F ρ W P σ H G vs ds Q R rs q
  match ds, q with
  | [d], q =>
    obtain ⟨v, rfl, rv⟩ := rs.one
    refine ⟨v, rfl, ?_⟩
    have old : ∀ d, c.rep G v d → out (reprE d) P (fun d P' => ∀ v H' G', Ext G G' → Rel c F ρ P' σ H' G' → c.rep G' v d → Q v H') (exW c F W P G σ) → rReprE c.K v H Q := fun d r z => by
      have := cd_reprE (c := c) F ρ W P σ H G [v] [d] Q R (Reps.cons r Reps.nil) z
      obtain ⟨u, e, h⟩ := this
      injection e with e _
      subst e
      exact h
    cases d with
    | bl b =>
      cases rv
      exact .inr ⟨b, rfl, q _ H G (Ext.refl _) R (.str _)⟩
    | _ => exact .inl (old _ rv q)
  | [], q => exact q.elim
  | _ :: _ :: _, q => exact q.elim
end
end DL
namespace DL
open PySem PySem.Spec PyProof.Rows L2
section
variable {c : Cn} {X : Cx}
structure SubD (X : Cx) (n : Nat) (A : Around) : Prop where
  sb : Sub X n A
  ga : GA A
theorem SubD.in1 {n : Nat} {A : Around} (h : SubD X (n + 1) A) : SubD X n A.in1 := ⟨h.sb.in1, by exact h.ga⟩
theorem SubD.mono {n m : Nat} {A : Around} (h : SubD X m A) (l : n ≤ m) : SubD X n A := ⟨h.sb.mono l, h.ga⟩
/-- == gives True for what T says -/
def EqR (c : Cn) (X : Cx) (n : Nat) (T : D → D → Prop) : Prop :=
  ∀ (ap : Option Addr) (G : Hp) (P : Pot) (A : Around) (pins : List (Addr × Obj)) (s : Shared) (σ : L2.St) (H : Hp) (x y : V) (u v : Value) (d e : D), SubD X n A → Inv X pins σ H s → Post c ap G H P G H → RelV x u → RelV y v → c.rep G x d → c.rep G y e → T d e →
    wpAny (model X.prog X.w) A (eqBool u v) (fun r s' => r = true ∧ ∃ H' G', Inv X pins σ H' s' ∧ Post c ap G H P G' H') X.xe s
variable {n m j : Nat} {T T' : D → D → Prop}
theorem EqR.mono (h : EqR c X n T) (l : n ≤ m) : EqR c X m T := fun ap G P A pins s σ H x y u v d e sb => h ap G P A pins s σ H x y u v d e (sb.mono l)
theorem EqR.or (h : EqR c X n T) (h' : EqR c X n T') : EqR c X n (fun d e => T d e ∨ T' d e) := fun ap G P A pins s σ H x y u v d e sb I p rx ry r1 r2 t =>
  t.elim (fun t => h ap G P A pins s σ H x y u v d e sb I p rx ry r1 r2 t) fun t => h' ap G P A pins s σ H x y u v d e sb I p rx ry r1 r2 t
theorem EqR.imp (h : EqR c X n T) (k : ∀ d e, T' d e → T d e) : EqR c X n T' := fun ap G P A pins s σ H x y u v d e sb I p rx ry r1 r2 t => h ap G P A pins s σ H x y u v d e sb I p rx ry r1 r2 (k d e t)
end
end DL
namespace DL
open PySem PySem.Spec PyProof.Rows L2
end DL
namespace DL
open PySem PySem.Spec PyProof.Rows L2
end DL
namespace DL
open PySem PySem.Spec PyProof.Rows L2
end DL
namespace DL
open PySem PySem.Spec PyProof.Rows L2
section
variable {c : Cn} {X : Cx} {F : Fr} {W : WX} {ρ : List Sl} {α β : Type}
theorem Rel.ownHere {P : Pot} {σ : L2.St} {H G : Hp} {i : Nat} {p : Addr} {vs : List V} {ds : List D} (R : Rel c F ρ P σ H G) (hp : H p = some (.lst vs)) (hg : G p = none) (h0 : Fre F.H0 p) (na : some p ≠ F.ap)
    (ow : ∀ (i : Nat) k, ρ[i]? = some (.o k) → σ[i]? ≠ some (some (V.ref p))) (r : c.reps G vs ds) : Rel c F (ρ.set i (.o (.l ds))) P (σ.set i (some (.ref p))) H G := by
  have R2 := R.un (i := i) (x := some (.ref p))
  refine ⟨R2.post, by simpa using R2.len, fun j s x h1 h2 => ?_, fun j j' kk kk' b h1 h2 h3 h4 => ?_⟩
  · by_cases z : i = j
    · subst z
      rw [List.getElem?_set, if_pos rfl] at h1 h2
      split at h1
      · split at h2
        · cases h1; cases h2
          exact ⟨p, rfl, ⟨_, hp, r⟩, hg, h0, na⟩
        · cases h2
      · cases h1
    · rw [List.getElem?_set_ne z] at h1
      exact R2.sl j s x (by rw [List.getElem?_set_ne z]; exact h1) h2
  · by_cases z : i = j
    · by_cases z' : i = j'
      · rw [← z, ← z']
      · subst z
        rw [List.getElem?_set_ne z'] at h2 h4
        have e3 : b = p := by
          rw [List.getElem?_set, if_pos rfl] at h3
          split at h3
          · cases h3; rfl
          · cases h3
        subst e3
        exact absurd h4 (ow j' kk' h2)
    · rw [List.getElem?_set_ne z] at h1 h3
      by_cases z' : i = j'
      · subst z'
        have e4 : b = p := by
          rw [List.getElem?_set, if_pos rfl] at h4
          split at h4
          · cases h4; rfl
          · cases h4
        subst e4
        exact absurd h3 (ow j kk h1)
      · rw [List.getElem?_set_ne z'] at h2 h4
        exact R.ap j j' kk kk' b h1 h2 h3 h4
end
end DL
namespace DL
open PySem PySem.Spec PyProof.Rows L2
end DL
namespace DL
open PySem PySem.Spec PyProof.Rows L2
section
variable {c : Cn} {X : Cx}
theorem call_repr_str : CallR X (.builtin "repr") (fun xs H Q => ∃ x : Str, xs = [.str x] ∧ (reprText x).length ≤ sizeLine ∧ Q (.str (reprText x)) H) := by
  intro pins s σ H xs us Q I r h
  obtain ⟨x, rfl, hz, q⟩ := h
  obtain ⟨u, rfl, ru⟩ := vals1 r
  obtain ⟨t, rfl⟩ := ru
  refine PySem.P.repr_of_str ?_ hz
  exact ⟨.str _, H, I.tok _, ⟨_, rfl⟩, q⟩
theorem call_repr_none : CallR X (.builtin "repr") (fun xs H Q => xs = [.non] ∧ Q (.str "None") H) := by
  intro pins s σ H xs us Q I r h
  obtain ⟨rfl, q⟩ := h
  obtain ⟨u, rfl, ru⟩ := vals1 r
  cases ru
  exact PySem.P.repr_of_none ⟨.str _, H, I.tok _, ⟨_, rfl⟩, q⟩
theorem reads_empty {pins : List (Addr × Obj)} {σ : L2.St} {H : Hp} {s : Shared} {a : Addr} (I : Inv X pins σ H s) (h : H a = some (.dK []) ∨ H a = some (.dT [])) : Reads s.heap (.ref a) (.dict []) [a] ∧ (a == sysModules) = false := by
  have go : ∀ {o : Obj} {es : Array DictEntry} {ep : Nat}, s.heap.get? a = some o → o.ExactDict → o.data = .dict es ep → es.toList = [] → Reads s.heap (.ref a) (.dict []) [a] := fun {o es ep} h1 h2 h3 h4 => by
    have r := Reads.dict (kvs := []) (as := []) (bs := []) h1 h2.1 h3 (by rw [h4]; exact .nil) (by rw [h4]; exact .nil)
    exact r
  rcases h with h | h
  · obtain ⟨_, hs, vs, kv, o, es, ep, h1, h2, h3, _, h5, _⟩ := dk_of I.hok h
    cases kv
    exact ⟨go h1 h2 h3 (List.eq_nil_of_length_eq_zero (Pairs.length h5)), hs⟩
  · obtain ⟨_, hs, xs, kt, o, es, ep, h1, h2, h3, h4, _, _⟩ := dt_of I.hok h
    cases kt
    exact ⟨go h1 h2 h3 h4, hs⟩
def emptyS : Str := (PyData.dict []).shown
theorem call_repr_empty (hg : X.A.guards = some []) (hu : X.A.units + 102 < cLine) : CallR X (.builtin "repr") (fun xs H Q => ∃ a, xs = [.ref a] ∧ (H a = some (.dK []) ∨ H a = some (.dT [])) ∧ Q (.str emptyS) H) := by
  intro pins s σ H xs us Q I r h
  obtain ⟨a, rfl, hd, q⟩ := h
  obtain ⟨u, rfl, ru⟩ := vals1 r
  obtain ⟨rd, hs⟩ := reads_empty I hd
  cases ru
  refine PySem.repr_of_reads' rd (by decide +kernel) (fun _ m => ?_) hg (by show X.A.units + (1 + 1) < cLine; omega) (fun _ _ e => e) (fun h' t tk k => ⟨.str _, H, I.kept k, ⟨t, rfl⟩, q⟩) (by rw [sizeLine_eq]; exact Nat.le_trans (show (PyData.dict []).shown.length ≤ 10 by decide +kernel) (by decide))
  rw [List.mem_singleton] at m
  rw [m] at hs
  exact absurd hs (by simp)
def reprN : D → M D
  | .str x => if (reprText x).length ≤ sizeLine then Pure.pure (.str (reprText x)) else M.no
  | .non => Pure.pure (.str "None")
  | .dic [] => Pure.pure (.str emptyS)
  | d => reprB d
def rReprN (K : PySem.W.Frag) : V → Hp → VK → Prop := fun v H Q => rReprB K v H Q ∨ (∃ x : Str, v = .str x ∧ (reprText x).length ≤ sizeLine ∧ Q (.str (reprText x)) H) ∨ (v = .non ∧ Q (.str "None") H) ∨ (∃ a, v = .ref a ∧ (H a = some (.dK []) ∨ H a = some (.dT [])) ∧ Q (.str emptyS) H)
theorem cr_reprN (hg : X.A.guards = some []) (hu : X.A.units + 102 < cLine) : CallR X (.builtin "repr") (fun xs H Q => ∃ v, xs = [v] ∧ rReprN X.K v H Q) := CallR.by (CallR.or (cr_reprB hg hu) (CallR.or call_repr_str (CallR.or call_repr_none (call_repr_empty hg hu)))) fun xs H Q ⟨v, e, h⟩ => by
  subst e
  rcases h with h | ⟨x, rfl, h⟩ | ⟨rfl, h⟩ | ⟨a, rfl, h⟩
  · exact .inl ⟨v, rfl, h⟩
  · exact .inr (.inl ⟨x, rfl, h⟩)
  · exact .inr (.inr (.inl ⟨rfl, h⟩))
  · exact .inr (.inr (.inr ⟨a, rfl, h⟩))
theorem cd_reprN : CallD c (fun xs H Q => ∃ v, xs = [v] ∧ rReprN c.K v H Q) (f1 reprN) := by
  intro F ρ W P σ H G vs ds Q R rs q
  match ds, q with
  | [d], q =>
    obtain ⟨v, rfl, rv⟩ := rs.one
    refine ⟨v, rfl, ?_⟩
    have old : ∀ d, c.rep G v d → out (reprB d) P (fun d P' => ∀ v H' G', Ext G G' → Rel c F ρ P' σ H' G' → c.rep G' v d → Q v H') (exW c F W P G σ) → rReprB c.K v H Q := fun d r z => by
      have := cd_reprB (c := c) F ρ W P σ H G [v] [d] Q R (Reps.cons r Reps.nil) z
      obtain ⟨u, e, h⟩ := this
      injection e with e _
      subst e
      exact h
    cases d with
    | str x =>
      have q : out (if (reprText x).length ≤ sizeLine then Pure.pure (D.str (reprText x)) else M.no) P _ _ := q
      by_cases z : (reprText x).length ≤ sizeLine
      · rw [if_pos z] at q
        cases rv
        exact .inr (.inl ⟨x, rfl, z, q _ H G (Ext.refl _) R (.str _)⟩)
      · rw [if_neg z] at q; exact q.elim
    | non =>
      cases rv
      exact .inr (.inr (.inl ⟨rfl, q _ H G (Ext.refl _) R (.str _)⟩))
    | dic kvs =>
      cases kvs with
      | cons a b => exact .inl (old _ rv q)
      | nil =>
        cases rv with
        | dicK ha hk hr =>
          rename_i a kvs
          have e : kvs = [] := List.map_eq_nil_iff.mp hk
          subst e
          exact .inr (.inr (.inr ⟨a, rfl, .inl (R.post.le _ _ ha), q _ H G (Ext.refl _) R (.str _)⟩))
        | dicT ha hk hr =>
          rename_i a kvs
          have e : kvs = [] := List.map_eq_nil_iff.mp hk
          subst e
          exact .inr (.inr (.inr ⟨a, rfl, .inr (R.post.le _ _ ha), q _ H G (Ext.refl _) R (.str _)⟩))
    | _ => exact .inl (old _ rv q)
  | [], q => exact q.elim
  | _ :: _ :: _, q => exact q.elim
end
end DL
namespace DL
open PySem PySem.Spec PyProof.Rows L2
end DL
namespace SX
open PySem PySem.Spec PyProof.Rows L2
open PySem.W (EachIs alike dataLe AllAlike Sortable SortsAt dataKind sortingHeap KdlSrc)
section
variable {X : Cx}
def kd1 : Key → PyData
  | .inl i => .int i
  | .inr x => .str x
def kdT (ks : List Key) : PyData := .tuple (ks.map kd1)
end
end SX
namespace DL
open PySem PySem.Spec PyProof.Rows L2
end DL
namespace DL
open PySem PySem.Spec PyProof.Rows L2
end DL
namespace DL
open PySem PySem.Spec PyProof.Rows L2
end DL
namespace DL
open PySem PySem.Spec PyProof.Rows L2
end DL
namespace DL
open PySem PySem.Spec PyProof.Rows L2
section
variable {c : Cn} {X : Cx} {n m j : Nat} {T T' : D → D → Bool → Prop}
def EqB (c : Cn) (X : Cx) (n : Nat) (T : D → D → Bool → Prop) : Prop :=
  ∀ (ap : Option Addr) (G : Hp) (P : Pot) (A : Around) (pins : List (Addr × Obj)) (s : Shared) (σ : L2.St) (H : Hp) (x y : V) (u v : Value) (d e : D) (b : Bool), SubD X n A → Inv X pins σ H s → Post c ap G H P G H → RelV x u → RelV y v → c.rep G x d → c.rep G y e → T d e b →
    wpAny (model X.prog X.w) A (eqBool u v) (fun r s' => r = b ∧ ∃ H' G', Inv X pins σ H' s' ∧ Post c ap G H P G' H') X.xe s
theorem EqB.mono (h : EqB c X n T) (l : n ≤ m) : EqB c X m T := fun ap G P A pins s σ H x y u v d e b sb => h ap G P A pins s σ H x y u v d e b (sb.mono l)
theorem EqB.or (h : EqB c X n T) (h' : EqB c X n T') : EqB c X n (fun d e b => T d e b ∨ T' d e b) := fun ap G P A pins s σ H x y u v d e b sb I p rx ry r1 r2 t =>
  t.elim (fun t => h ap G P A pins s σ H x y u v d e b sb I p rx ry r1 r2 t) fun t => h' ap G P A pins s σ H x y u v d e b sb I p rx ry r1 r2 t
theorem EqB.imp (h : EqB c X n T) (k : ∀ d e b, T' d e b → T d e b) : EqB c X n T' := fun ap G P A pins s σ H x y u v d e b sb I p rx ry r1 r2 t => h ap G P A pins s σ H x y u v d e b sb I p rx ry r1 r2 (k d e b t)
end
end DL
namespace DL
open PySem PySem.Spec PyProof.Rows L2
end DL
namespace DL
open PySem PySem.Spec PyProof.Rows L2
end DL
namespace DL
open PySem PySem.Spec PyProof.Rows L2
end DL
namespace L2
open PySem PySem.Spec PyProof.Rows
end L2
namespace DL
open PySem PySem.Spec PyProof.Rows L2
end DL
namespace DL
open PySem PySem.Spec PyProof.Rows L2 L2.DX
end DL
namespace DL
open PySem PySem.Spec PyProof.Rows L2 L2.DX
theorem tabs_grow {T : List (Addr × Str)} {H H' : Hp} (t : LamX.Tabs T H) (e : ∀ b o, H b = some o → H' b = some o) : LamX.Tabs T H' := by
  intro p hp
  obtain ⟨ps, h1, h2, h3⟩ := t p hp
  refine ⟨ps, e _ _ h1, h2, fun pos cv hc => ?_⟩
  obtain ⟨x, e1, e2⟩ := h3 pos cv hc
  exact ⟨x, e1, e _ _ e2⟩
section
variable {c : Cn} {F : Fr} {ρ : List Sl} {P : Pot} {σ : L2.St} {H H' G : Hp} {X : Cx} {W : WX}
/-- the heap has only grown -/
theorem Rel.grow (R : Rel c F ρ P σ H G) (e : ∀ b o, H b = some o → H' b = some o) : Rel c F ρ P σ H' G := by
  refine ⟨⟨R.post.ext, fun a u x => e _ _ (R.post.le a u x), fun b u x n t => e _ _ (R.post.fr b u x n t), R.post.new, R.post.pot.ext (Ext.refl _) (fun a z => ?_) (fun a z => ?_), tabs_grow R.post.tab e, R.post.nt⟩, R.len, fun i s x a b => ?_, R.ap⟩
  · obtain ⟨vs, h⟩ := R.lt_ap z
    rw [h, e _ _ h]
  · have q := R.post.pot
    rw [z] at q
    cases P with
    | none => exact q.elim
    | some ds => obtain ⟨_, _, _, q⟩ := q; exact q
  · have z := R.sl i s x a b
    cases s with
    | un => exact True.intro
    | v d => exact z
    | p => exact z
    | o k =>
      obtain ⟨ad, e1, ⟨u, hu, hk⟩, g, h, q⟩ := z
      exact ⟨ad, e1, ⟨u, e _ _ hu, hk⟩, g, h, q⟩
end
end DL
namespace DL
open PySem PySem.Spec PyProof.Rows L2 L2.DX
end DL
namespace DL
open PySem PySem.Spec PyProof.Rows L2
end DL
namespace DL
open PySem PySem.Spec PyProof.Rows L2
end DL
namespace SY
open PySem PySem.Spec PyProof.Rows L2
section
variable {P : Program} {w : World} {A : Around} {E : Value → Shared → Prop} {s : Shared}
/-- at b lies a tuple with these keys -/
abbrev Tk (P : Program) (w : World) (h : Heap) (k : List Key) (b : Addr) : Prop := IsTupleKey (mixKind P w) h k b
abbrev hk (P : Program) (w : World) (k : List Key) : Int := tupleKeyHash (mixKind P w) k
end
end SY
namespace SY
open PySem PySem.Spec PyProof.Rows L2
abbrev row (P : Program) (w : World) (p : Addr × List Key) : Int × Value := (hk P w p.2, Value.ref p.1)
/-- the set at a has the elements L, in the order of its table -/
structure Sy (P : Program) (w : World) (h : Heap) (a : Addr) (L : List (Addr × List Key)) (es : Array (Int × Value)) (ep : Nat) (t : SetTable) : Prop where
  lies : ∃ o, h.get? a = some o ∧ o.ExactSet ∧ o.data = .set es ep t
  rs : es.toList = L.map (row P w)
  tb : TabOk t (L.map fun p => hk P w p.2)
  un : (L.map (·.2)).Nodup
  el : ∀ p ∈ L, Tk P w h p.2 p.1
  ld : w.params.followText "set-order" = true ∨ t.led = true
  rm : 5 * L.length < 3 * t.mask
  l64 : L.length < 64
section
variable {P : Program} {w : World} {A : Around} {E : Value → Shared → Prop} {s : Shared} {a : Addr} {L : List (Addr × List Key)} {es : Array (Int × Value)} {ep : Nat} {t : SetTable} {h : Heap}
theorem Sy.at (R : Sy P w h a L es ep t) {i : Nat} {p : Addr × List Key} (e : L[i]? = some p) : es[i]? = some (row P w p) := by
  rw [← Array.getElem?_toList, R.rs, List.getElem?_map, e]; rfl
end
end SY
namespace SY
open PySem PySem.Spec PyProof.Rows L2
open PySem.W (EachIs alike dataLe AllAlike Sortable SortsAt dataKind sortingHeap)
section
variable {X : Cx}
abbrev leK (a b : List Key) : Bool := dataLe false (fun k => SX.kdT k) a b
end
end SY
namespace DL
open PySem PySem.Spec PyProof.Rows L2
/-- ys is what sorted(set(kss)) is -/
def GoodK (kss ys : List (List Key)) : Prop := ys.Nodup ∧ (∀ k, k ∈ ys ↔ k ∈ kss) ∧ ∀ zs : List (List Key), zs.Perm ys → SX.SortOk (zs.map SX.kdT) ∧ zs.mergeSort SY.leK = ys
theorem GoodK.uniq {kss ys zs : List (List Key)} (h : GoodK kss ys) (k : GoodK kss zs) : ys = zs := by
  have p : zs.Perm ys := (List.perm_ext_iff_of_nodup k.1 h.1).mpr fun x => (k.2.1 x).trans (h.2.1 x).symm
  rw [← (h.2.2 zs p).2, (k.2.2 zs (List.Perm.refl _)).2]
end DL
namespace DL
open PySem PySem.Spec PyProof.Rows L2
end DL
namespace DL
open PySem PySem.Spec PyProof.Rows L2
section
variable {c : Cn} {X : Cx} {F : Fr} {W : WX} {ρ : List Sl} {k : Nat}
/-- the tables have changed -/
theorem Rel.extN {P : Pot} {σ : L2.St} {H H1 G : Hp} (R : Rel c F ρ P σ H G) (e : LamX.ExtN H H1) (t : LamX.Tabs c.T H1) : Rel c F ρ P σ H1 G := by
  refine ⟨⟨R.post.ext, fun a o h => e a o (R.post.le a o h) (R.post.nt a o h), fun b o h n nt => e b o (R.post.fr b o h n nt) nt, R.post.new, R.post.pot.ext (Ext.refl _) (fun a ha => ?_) (fun a ha => ?_), t, R.post.nt⟩, R.len, fun i s x a b => ?_, R.ap⟩
  · obtain ⟨vs, h⟩ := R.lt_ap ha
    rw [h]
    exact e a _ h nt_lst
  · have z := R.post.pot
    rw [ha] at z
    cases P with
    | none => exact z.elim
    | some ds => obtain ⟨_, _, _, z⟩ := z; exact z
  · have z := R.sl i s x a b
    cases s with
    | un => exact True.intro
    | v d => exact z
    | p => exact z
    | o k =>
      obtain ⟨ad, e1, ⟨u, hu, hk⟩, g, h, n⟩ := z
      have nt : noTbl u := by
        intro ps e2; subst e2
        cases k <;> exact hk
      exact ⟨ad, e1, ⟨u, e ad u hu nt, hk⟩, g, h, n⟩
end
end DL
namespace DL
open PySem PySem.Spec PyProof.Rows L2
theorem post_tabs {mg : Str → Option Value} {K : PySem.W.Frag} {T : List (Addr × Str)} {cs : List (Addr × Addr)} {H : Hp} {a : Addr} {ns : List Int} (hT : ∀ t ∈ T, ∃ p ∈ cs, p.2 = t.1) (hH : ∀ p ∈ cs, H p.2 = some (.tbl #[])) (h : SqL K H a (ns.map V.int)) :
    ∃ G : Hp, Post ⟨mg, K, T⟩ none G H none G H ∧ SqL K G a (ns.map V.int) := by
  have tab : LamX.Tabs T H := fun t ht => by
    obtain ⟨p, hp, e⟩ := hT t ht
    exact LamX.TabS.nil (by rw [← e]; exact hH p hp)
  have mk : ∀ G : Hp, Ext G H → (∀ b o, G b = some o → noTbl o) → Post ⟨mg, K, T⟩ none G H none G H := fun G e n => ⟨Ext.refl _, e, fun _ _ h _ _ => h, fun _ h => .inl h, True.intro, tab, n⟩
  have one : ∀ o : HO, H a = some o → noTbl o → Post ⟨mg, K, T⟩ none (fun b => if b = a then some o else none) H none (fun b => if b = a then some o else none) H := fun o e n => mk _ (fun b u z => by
    by_cases y : b = a
    · subst y
      rw [if_pos rfl] at z
      cases z
      exact e
    · rw [if_neg y] at z; cases z) fun b u z => by
    by_cases y : b = a
    · subst y
      rw [if_pos rfl] at z
      cases z
      exact n
    · rw [if_neg y] at z; cases z
  rcases h with (h | ⟨o, h⟩) | h
  · exact ⟨_, one _ h nt_lst, .inl (.inl (if_pos rfl))⟩
  · exact ⟨_, one _ h (fun _ z => nomatch z), .inl (.inr ⟨o, if_pos rfl⟩)⟩
  · exact ⟨fun _ => none, mk _ (fun _ _ z => nomatch z) fun _ _ z => (nomatch z), .inr h⟩
end DL
namespace DL
open PySem PySem.Spec PyProof.Rows L2
section
variable {P : Program} {w : World} {K : PySem.W.Frag} {mg : Str → Option Value} {base : Heap} {c : Cn}
/-- a def by its body, its code object told -/
theorem fnG_ofC {x qual : Str} {st : Stmt} {f : Addr} {fd : FuncData} {N ps : List Str} {k : Nat} {mf : List Ar → M D} (Fn : Fun K x qual st f fd) (hK : c.K = K) (hm : c.mg = mg) (S : FnScope N ps (defScope st)) (len : ∀ as P ok ex, out (mf as) P ok ex → as.length = ps.length)
    (hbody : ∀ (cd : Value) (A : Around) (fr : List Env) (s : Shared) (H0 G0 : Hp) (ap : Option Addr) (E : XK) (as : List Ar) (P0 : Pot) (ok : D → Pot → Prop) (ex : Ex → Pot → Prop), cd = fd.code → out (mf as) P0 ok ex → BodyX c (bX P w K mg base N qual st f cd A fr s H0 E) k (fun cl dd _ H => E cl dd H) →
      ∃ (α : Type) (En : α → List Sl) (mb : M (Fl α)), PSs (bX P w K mg base N qual st f cd A fr s H0 E) (defBody st) (rdS c ⟨G0, H0, ap⟩ (fun cl dd _ H => E cl dd H) (slots as N.length) En mb) ∧ mf as = mb >>= doneF) :
    FnG P w K mg base (k + 1) f fd ps (spD c mf) := by
  refine fn_coreC Fn hK hm S (fun vs H Q E ⟨ap, G, P0, as, p, r, q⟩ => (ArsOk.length r).trans (len _ _ _ _ q)) fun cd A fr s H vs Q E hcc bx ⟨ap, G, P0, as, p0, ra, q0⟩ => ?_
  obtain ⟨α, En, mb, hps, em⟩ := hbody cd A fr s H G ap E as P0 _ _ hcc q0 bx
  rw [em] at q0
  refine ⟨_, hps, P0, G, rel_start p0 ra, out_mono (out_bind.mp q0) (fun fl P' z => ?_) fun e P' z cl dd H' G' ρ' σ' _ R' k' => z cl dd H' G' R'.post k'⟩
  cases fl with
  | nx a => exact fun σ' H' G' e R' => z .non H' G' R'.post .non
  | rt d => exact fun v H' G' ρ' σ' e R' k' => z v H' G' R'.post k'
  | bk a => exact z.elim
  | ct a => exact z.elim
end
/-- the code object of a def, by the table's fact -/
theorem code_at {K : PySem.W.Frag} {x : Str} {f cc P : Addr} {oc : Value} {od : Option Addr} {fd : FuncData} {sl : Array (Option Value)} (a : PySem.W.nsIn K mainGlobals x = some (some (.ref f))) (l : K.lookup f = some ⟨oc, od, .func fd, sl⟩) (t : PySem.W.tabIn K x = some (cc, P)) : fd.code = .ref cc := by
  unfold PySem.W.tabIn at t
  rw [a] at t
  dsimp only at t
  rw [l] at t
  dsimp only at t
  split at t
  · rename_i c hc
    split at t
    · split at t
      · cases t; exact hc
      · cases t
    · cases t
  · cases t
end DL
namespace DL
open PySem PySem.Spec PyProof.Rows L2
end DL
namespace DL
open PySem PySem.Spec PyProof.Rows L2
/-- the def that makes the lambda: its code object cc, the table P -/
structure LamAt (c : Cn) (base : Heap) (cc P : Addr) (q : Str) : Prop where
  tb : LamX.TabB base c.mg cc P
  on : (P, q) ∈ c.T
  one : ∀ p ∈ c.T, p.1 = P → p.2 = q
end DL
namespace DL
open PySem PySem.Spec PyProof.Rows L2
/-- the code object and the table of a def that makes lambdas -/
theorem tab_eq {K : PySem.W.Frag} {x : Str} {f c P : Addr} {oc oc2 : Value} {od od2 : Option Addr} {fd : FuncData} {sl sl2 : Array (Option Value)} {vs : Array Value} (a : PySem.W.nsIn K mainGlobals x = some (some (.ref f))) (l : K.lookup f = some ⟨oc, od, .func fd, sl⟩) (hc : fd.code = .ref c) (l2 : K.lookup c = some ⟨oc2, od2, .fields vs, sl2⟩) (hP : (vs[11]? : Option Value) = some (.ref P)) : PySem.W.tabIn K x = some (c, P) := by
  unfold PySem.W.tabIn
  simp only [a, l, hc, l2, hP]
end DL
namespace PySem
namespace KepX
open PySem.W PySem.Calls PyProof.Rows PySem.HandSPX Builtin Builtin.ObjectAttr
def iA (f : Str) (p1 p2 : Pos) : Arguments := { posonlyargs := [], args := [{ arg := "self", annotation := none, pos := p1 }, { arg := f, annotation := none, pos := p2 }], vararg := none, kwonlyargs := [], kw_defaults := [], kwarg := none, defaults := [] }
def iB (f : Str) (q1 q2 q3 q4 : Pos) : List Stmt := [.Assign [.Attribute (.Name "self" q1) f q2] (.Name f q3) q4]
def iS (f : Str) : Scope := { kind := .function, names := [(PySem.Str.ofString "self", .local), (f, .local)], isGenerator := false, isCoroutine := false, more := [] }
/-- what is asked of the name that is kept -/
structure KName (f : Str) : Prop where
  nd : (f == ("__debug__" : Str)) = false
  bd : ∀ (qn : Str) (doc pm : Value) (an : Option Addr) (cdv ct : Value) (p1 p2 q1 q2 q3 q4 : Pos) (a b : Value), bindArgs (fnOf "__init__" qn (iA f p1 p2) (iB f q1 q2 q3 q4) (iS f) .none .none doc pm an cdv ct) { pos := [a, b] } = pure [(("self" : Str), a), (f, b)]
  al : ∀ a b : Value, ([(("self" : Str), a), (f, b)].all fun y => List.lookup y.1 (iS f).names == some NameKind.local || List.lookup y.1 (iS f).names == some NameKind.cell) = true
  bf : ∀ (qn : Str) (L fI : Addr) (cdv : Value) (a b : Value), bindL (envOfC qn (iS f) L fI cdv).kindOf [(("self" : Str), a), (f, b)] (fun _ => none) f = some b
  bs : ∀ (qn : Str) (L fI : Addr) (cdv : Value) (a b : Value), bindL (envOfC qn (iS f) L fI cdv).kindOf [(("self" : Str), a), (f, b)] (fun _ => none) "self" = some a
  kf : ∀ (qn : Str) (L fI : Addr) (cdv : Value), (envOfC qn (iS f) L fI cdv).kindOf f = some NameKind.local
  ks : ∀ (qn : Str) (L fI : Addr) (cdv : Value), (envOfC qn (iS f) L fI cdv).kindOf "self" = some NameKind.local
theorem kn_value : KName "value" := ⟨by decide, by intros; rfl, by intros; rfl, by intros; first | rfl | with_unfolding_all rfl | kernel_rfl, by intros; first | rfl | with_unfolding_all rfl | kernel_rfl, by intros; rfl, by intros; rfl⟩
theorem kn_limit : KName "limit" := ⟨by decide, by intros; rfl, by intros; rfl, by intros; first | rfl | with_unfolding_all rfl | kernel_rfl, by intros; first | rfl | with_unfolding_all rfl | kernel_rfl, by intros; rfl, by intros; rfl⟩
/-- what the written part says of the class x, at C, that keeps f, and of its __init__, at fI -/
structure KTxt (K : Frag) (mg : Str → Option Value) (x f : Str) (B newId initId : String) (bmB : List Value) (C fI : Addr) : Prop where
  gC : mg x = some (.ref C)
  base : ExcBaseFacts B newId initId bmB
  st : StoreFacts B bmB "object.__setattr__" "object"
  ex : excInitIn K C bmB newId = true
  ov : excOver K C bmB = true
  tkr : takerIn K C f = some none
  cd : ∃ cd, clsIn K C = some cd ∧ cd.hasDict = true
  sa : findIn K (.ref C) "__setattr__" = some (some (.builtin "object.__setattr__"))
  ga : findIn K (.ref C) "__getattribute__" = some (some (.builtin "BaseException.__getattribute__"))
  gg : findIn K (.ref C) "__getattr__" = some none
  noN : findIn K (.ref C) f = some none
  iC : findIn K (.ref C) "__init__" = some (some (.ref fI))
  tC : typeIn K (.ref fI) = some (.type "function")
  kC : keepIn K (.ref C) = true
  exC : subIn K (.ref C) (.type "BaseException") = some true
  tyC : typeIn K (.ref C) = some (.type "type")
  hdC : hasDictIn K C = true
  kn : KName f
  fn : ∃ (oc : Value) (od : Option Addr) (qn : Str) (doc pm : Value) (an : Option Addr) (cdv ct : Value) (osl : Array (Option Value)) (p1 p2 q1 q2 q3 q4 : Pos),
    K.lookup fI = some ⟨oc, od, .func (fnOf "__init__" qn (iA f p1 p2) (iB f q1 q2 q3 q4) (iS f) .none .none doc pm an cdv ct), osl⟩ ∧ codeIn K cdv qn = true
theorem one_size (v : Value) : [v].length ≤ sizeLine := by
  rw [sizeLine_eq]
  exact (by decide : 1 ≤ 16777216)
theorem ldC {M : Model} {s : Shared} {name : Str} {scope : Scope} {L a : Addr} {cd : Value} {m : Str → Option Value} {x : Str} {pos : Pos} {v : Value} {Q : Value → Shared → Prop} {A : Around} {E : Value → Shared → Prop} (hn : s.heap.Ns L m) (hv : m x = some v) (h : Q v s)
    (hd : (x == ("__debug__" : Str)) = false) (hl : (envOfC name scope L a cd).kindOf x = some .local) (hk : scope.kind = .function := by rfl) :
    wpAny M A (eval (.Name x pos) (envOfC name scope L a cd)) Q E s := wpAny_Name (wpAny_loadName_local hk hl hn hv h) hd
/-- what __init__ leaves of a fresh exception at x -/
structure InitEnd (f : Str) (h h' : Heap) (x C dx t1 : Addr) (v : Value) : Prop where
  keep : ∀ b o, b ≠ x → h.get? b = some o → h'.get? b = some o
  obj : h'.get? x = some { cls := .ref C, dict := some dx, data := .fields #[.ref t1, .none, .none, .none, .bool false, .none] }
  dbig : h.objs.size ≤ dx
  dne : dx ≠ x
  ns : h'.Ns1 dx (fun y => if y = f then some v else none)
/-- a made one -/
structure OwnMade (f : Str) (h h' : Heap) (e C d : Addr) (v : Value) : Prop where
  keep : ∀ b o, h.get? b = some o → h'.get? b = some o
  new : h.objs.size ≤ e
  obj : ∃ oe vs, h'.get? e = some oe ∧ oe.cls = .ref C ∧ oe.dict = some d ∧ oe.data = .fields vs ∧ vs[1]? = some .none
  dbig : h.objs.size ≤ d
  dne : d ≠ e
  ns : h'.Ns1 d (fun y => if y = f then some v else none)
section
variable {prog : Program} {w : World} {A : Around} {E : Value → Shared → Prop} {R : Result → Shared → Prop} {s : Shared} {K : Frag} {mg : Str → Option Value} {C fI : Addr} {xn f : Str} {B newId initId : String} {bmB : List Value}
/-- the first field of a fresh exception -/
theorem keep_first {tok : Tok} {v : Value} {at' t0 : Addr} (T : KTxt K mg xn f B newId initId bmB C fI) (hK : K.In s.heap) (hat : s.heap.get? at' = some (excO C t0))
    (fin : ∀ h' t' dx, InitEnd f s.heap h' at' C dx t0 v → R (.ok (.ret .none)) { s with heap := h', toks := t' }) :
    codeAny (model prog w) A (.call (.builtin "object.__setattr__") ⟨[.ref at', .str f tok, v], []⟩) R s := by
  obtain ⟨cdat, hcd, hdict⟩ := T.cd
  have look : W.Looks (model prog w) s.heap (classData C) cdat := W.looks_clsIn hK hcd
  obtain ⟨hp, g, dr, tt, os⟩ := s
  have apart : at' ≠ hp.objs.size := Nat.ne_of_lt (Heap.lt_size hat)
  refine osa_openX T.st hK (ox := excO C t0) (od := none) ⟨hat, rfl, rfl, trivial⟩ T.ov T.tkr fun b => ?_
  obtain ⟨nm, bs, mro, ns, qn, hd, sn, sb, ab, col, del⟩ := cdat
  dsimp only at hdict
  subst hdict
  show wpAny _ _ (storeInOwnDict _ _ _ f v b) _ _ _
  unfold storeInOwnDict ownDictForStores
  repeat (first | with_reducible refine store_in_new ?_ ?_ | with_reducible refine wpAny_loadPart_at hat ?_ | with_reducible refine look.at ?_ | wp_step)
  · refine ⟨_, #[], _, Eq.trans (Heap.get?_update_ne _ _ _ _ apart.symm) (Heap.get?_push_at rfl rfl), rfl, fun e he => ?_, fun _ => rfl⟩
    exact absurd he (by simp)
  · intro h3 t3 n3 same
    have put : (hp.push { cls := .type "dict", data := .dict #[] }).get? at' = some (excO C t0) := Heap.get?_push_of_some _ hat
    exact fin h3 t3 hp.objs.size ⟨fun b o hb ho => (same.2 b (Nat.ne_of_lt (Heap.lt_size ho))).trans (Eq.trans (Heap.get?_update_ne _ _ _ _ hb) (Heap.get?_push_of_some _ ho)), (same.2 at' apart).trans (Heap.get?_update_self _ put rfl), Nat.le_refl _, apart.symm, n3⟩
theorem kept_init (T : KTxt K mg xn f B newId initId bmB C fI) {x t0 : Addr} {v : Value} (X : K.In s.heap) (hlim : s.heap.NoLimit) (hx : s.heap.get? x = some (excO C t0)) (hroom : A.depth < recursionLimit)
    (hq : ∀ h' tk dx, InitEnd f s.heap h' x C dx t0 v → R (.ok (.ret .none)) { s with heap := h', toks := tk }) :
    codeAny (model prog w) A (.call (.ref fI) ⟨[.ref x, v], []⟩) R s := by
  obtain ⟨oc, od, qn, doc, pm, an, cdv, ct, osl, p1, p2, q1, q2, q3, q4, ho, hcd⟩ := T.fn
  refine Att.call_fn (binds := [("self", .ref x), (f, v)]) X hlim ho hcd hroom (BindsTo.of_eq (T.kn.bd _ _ _ _ _ _ _ _ _ _ _ _ _ _)) (T.kn.al _ _) (fun s₁ IC => ?_) rfl rfl rfl
  obtain ⟨h₁, tk₁, rfl⟩ := IC.toInCall.same
  have k : ∀ b o, s.heap.get? b = some o → h₁.get? b = some o := IC.toInCall.keep
  have hn := IC.toInCall.ns
  have X₁ : K.In h₁ := X.keeps k
  have hx₁ := k _ _ hx
  show wpAny _ _ (execs _ _) _ _ _
  refine wpAny_execs_cons (plainObj_wpAny_Assign_Attribute ?_)
  refine ldC (v := v) hn ?_ (ldC (v := .ref x) hn ?_ ?_ (by decide) ?_) T.kn.nd ?_
  · exact T.kn.bf _ _ _ _ _ _
  · exact T.kn.bs _ _ _ _ _ _
  · refine set_plain X₁ (ox := excO C t0) (od := none) ⟨hx₁, rfl, rfl, trivial⟩ T.sa ?_
    refine keep_first T X₁ hx₁ fun h3 t3 dx I3 => ?_
    show wpAny _ _ (execs _ _) _ _ _
    exact wpAny_execs_nil (hq h3 t3 dx ⟨fun b o hb e => I3.keep b o hb (k b o e), I3.obj, Nat.le_trans (Nat.le_of_lt hn.lt) I3.dbig, I3.dne, I3.ns⟩)
  · exact T.kn.ks _ _ _ _
  · exact T.kn.kf _ _ _ _
theorem kept_made (T : KTxt K mg xn f B newId initId bmB C fI) {v : Value} (X : K.In s.heap) (hlim : s.heap.NoLimit) (hroom : A.depth + 1 < recursionLimit)
    (hq : ∀ h' tk e d, OwnMade f s.heap h' e C d v → R (.ok (.ret (.ref e))) { s with heap := h', toks := tk }) :
    codeAny (model prog w) A (.call (.ref C) ⟨[v], []⟩) R s := by
  obtain ⟨nm, N, q, bs, bm, hdct, sn, sub, ab, col, dd, k0, k1, k2, k3, k5, hC, hT⟩ := excInit_of X T.ex
  obtain ⟨hp, g, dr, tk, os⟩ := s
  have k : ∀ b o, hp.get? b = some o → ((hp.push (kdv_tup [v])).push (excO C hp.objs.size)).get? b = some o := fun b o e => Heap.get?_push_of_some _ (Heap.get?_push_of_some _ e)
  have hget : ((hp.push (kdv_tup [v])).push (excO C hp.objs.size)).get? (hp.objs.size + 1) = some (excO C hp.objs.size) := by heap_get
  refine call_own T.base hT hC (looks_findIn X T.iC) (fun self => bind_fn X self T.tC) (one_size v) ?_
  refine kept_init (s := ⟨(hp.push (kdv_tup [v])).push (excO C hp.objs.size), g, dr, tk, os⟩) T (X.keeps k) (hlim.keeps k) hget ?_ fun h' tk' dx ⟨k', hx, dn, dne, hns⟩ => ?_
  · show A.depth + 1 < recursionLimit
    exact hroom
  · have old : ∀ b o, hp.get? b = some o → h'.get? b = some o := fun b o e => k' b o (Nat.ne_of_lt (Nat.lt_succ_of_lt (Heap.lt_size e))) (k b o e)
    have z : hp.objs.size + 1 + 1 ≤ dx := by
      first
        | (simpa only [Heap.size_push] using dn)
        | exact dn
        | (have q := dn; rw [Heap.size_push, Heap.size_push] at q; exact q)
    exact ⟨rfl, hq h' tk' (hp.objs.size + 1) dx ⟨old, Nat.le_succ _, ⟨_, _, hx, rfl, rfl, rfl, rfl⟩, Nat.le_trans (Nat.le_trans (Nat.le_succ _) (Nat.le_succ _)) z, dne, hns⟩⟩
end
end KepX
end PySem
namespace DL
open PySem PySem.Spec PyProof.Rows L2
theorem relO_kept {v : V} {u : Value} {f : Str} (r : RelV v u) (g : Str) : RelO (List.lookup g [(f, v)]) (if g = f then some u else none) := by
  by_cases hw : g = f
  · subst hw
    rw [if_pos rfl]
    have q : List.lookup g [(g, v)] = some v := by simp [List.lookup]
    rw [q]
    exact r
  · rw [if_neg hw]
    have qw : (g == f) = false := by simpa using hw
    have q2 : List.lookup g [(f, v)] = none := by simp [List.lookup, qw]
    rw [q2]
    trivial
section
variable {X : Cx} {C fI : Addr} {x f : Str} {B newId initId : String} {bmB : List Value}
/-- C(e) -/
def tKept (C : Addr) (f : Str) (ta : TA) : L2.St → Hp → XK → Prop := fun σ H Q => ta σ H fun vs H1 => ∃ v, vs = [v] ∧ ∀ d, H1 d = none → Q (.ref C) (some d) (upd H1 d (.xd [(f, v)]))
theorem pmk_kept {a : Expr} {ta : TA} {p pos : Pos} {k : Nat} (T : PySem.KepX.KTxt X.K X.mg x f B newId initId bmB C fI) (hr : Room k X.A) (h1 : 1 ≤ k) (ha : PA X [a] ta) (hg : Gl X x)
    (hdb : (x == ("__debug__" : Str)) = false := by decide) (he : starEach (a :: []) X.env = (false, eval a X.env) :: starEach [] X.env := by rfl) (hpl : (backTo pos (starEach [] X.env)).any (·.1) = false := by rfl) :
    PMk X (.Call (.Name x p) [a] [] pos) (tKept C f ta) := by
  intro pins s σ H Q I h
  refine wpAny_Call_Name_kw (ld_glob I hg T.gC ?_ hdb)
  refine PySem.W.callWith_K (h₀ := X.base) I.ok.mod.kin T.kC (thn (ha.run pos pins s σ H _ I h) fun us s1 hh => ?_) he hpl
  obtain ⟨vs, H1, I1, r1, v, ev, q1⟩ := hh
  subst ev
  refine ⟨I1.kIn, ?_⟩
  cases r1 with
  | cons rv rn =>
    rename_i v' us'
    cases rn
    show wpAny _ _ (call (.ref C) [v']) _ _ _
    have hlim := I1.nolimit
    obtain ⟨hp, g, dr, tk, os⟩ := s1
    refine wpAny_call (PySem.KepX.kept_made T I1.kIn hlim (by have := hr.dp; omega) fun h' tk' e d M => ?_)
    show MkP X pins σ Q (.ref e) ⟨h', g, dr, tk', os⟩
    obtain ⟨oe, fv, hoe, hc, hd, hdat, h1⟩ := M.obj
    have hns := M.ns
    obtain ⟨G', g1, g2⟩ := restrict h' fun b => decide (b ≠ e)
    have gk : ∀ b, b ≠ e → G'.get? b = h'.get? b := fun b hb => g1 b (decide_eq_true hb)
    have ge : G'.get? e = none := g2 e (by simp)
    have old : ∀ b o, hp.get? b = some o → G'.get? b = some o := fun b o q => (gk b (Nat.ne_of_lt (Nat.lt_of_lt_of_le (Heap.lt_size q) M.new))).trans (M.keep b o q)
    have ob : ObjOk X.prog X.w (upd H1 d (.xd [(f, v)])) G' d (.xd [(f, v)]) :=
      ⟨_, hns.at (fun o q => (gk d M.dne).trans q), fun g => relO_kept rv g⟩
    have J : Inv X pins σ (upd H1 d (.xd [(f, v)])) ⟨G', g, dr, tk', os⟩ := I1.laid (t' := tk') old M.dbig ob
    refine ⟨e, oe, fv, ⟨G', g, dr, tk', os⟩, _, .ref C, some d, rfl, J, fun b o q => ?_, ge, hoe, ⟨hc, hd⟩, hdat, h1, ?_, rfl, I1.bare, raises_own T.exC T.tyC, q1 d (I1.hok.fresh M.dbig)⟩
    · by_cases hb : b = e
      · have q' : G'.get? b = some o := q
        rw [hb, ge] at q'; cases q'
      · exact (gk b hb).symm.trans q
    · rw [upd_ne (Ne.symm M.dne)]
      exact I1.hok.fresh M.new
end
/-- an own exception class that keeps f -/
structure Exc1 (K : PySem.W.Frag) (mg : Str → Option Value) (x f : Str) : Prop where
  ex : ∃ (B newId initId : String) (bmB : List Value) (C fI : Addr), PySem.KepX.KTxt K mg x f B newId initId bmB C fI
def one1 (x f : Str) : List D → M (Fl β)
  | [d] => M.raise ⟨x, some (f, d)⟩
  | _ => M.no
section
variable {c : Cn} {X : Cx} {F : Fr} {W : WX} {ρ : List Sl} {α β : Type}
theorem ds_raise1 {E : α → List Sl} {a : Expr} {ms : M (List Ar)} {x f : Str} {k : Nat} {p pos pos2 : Pos} (e : Exc1 c.K c.mg x f) (hm : X.mg = c.mg) (hK : X.K = c.K) (hr : Room k X.A) (h1 : 1 ≤ k) (hc : X.calm = true) (tk : Takes X W) (ha : PA X [a] (rdA c F W ρ ms)) (hg : Gl X x)
    (hdb : (x == ("__debug__" : Str)) = false := by decide) (he : starEach (a :: []) X.env = (false, eval a X.env) :: starEach [] X.env := by rfl) (hpl : (backTo pos (starEach [] X.env)).any (·.1) = false := by rfl) :
    PS X (.Raise (some (.Call (.Name x p) [a] [] pos)) none pos2) (rdS c F W ρ E (ms >>= fun as => DL.vals as >>= one1 x f)) := by
  obtain ⟨B, newId, initId, bmB, C, fI, T⟩ := e.ex
  have T' : PySem.KepX.KTxt X.K X.mg x f B newId initId bmB C fI := by rw [hm, hK]; exact T
  refine ps_by (ps_raise hc tk (pmk_kept T' hr h1 ha hg hdb he hpl)) fun D σ H ⟨P, G, R, q⟩ => ?_
  refine ⟨P, G, R, out_mono (out_bind.mp q) (fun as P1 q1 vs H1 G1 e1 R1 r1 => ?_) fun _ _ z => exS.w z⟩
  obtain ⟨ds, rs, q2⟩ := ArsOk.reps r1 (out_bind.mp q1)
  match ds, rs, q2 with
  | [d], rs, q2 =>
    obtain ⟨v, rfl, rv⟩ : ∃ v, vs = [v] ∧ c.rep G1 v d := by
      cases vs with
      | nil => have := rs.1; cases this
      | cons v vs =>
        cases vs with
        | nil => exact ⟨v, rfl, rs.head⟩
        | cons w ws => have := rs.1; cases this
    refine ⟨v, rfl, fun dd hd => ?_⟩
    exact q2 (.ref C) (some dd) (upd H1 dd (.xd [(f, v)])) G1 ρ σ e1 (R1.newM hd) ⟨T.gC, dd, v, rfl, upd_same, rv⟩
  | [], _, q2 => exact q2.elim
  | _ :: _ :: _, _, q2 => exact q2.elim
end
end DL
namespace DL
open PySem PySem.Spec PyProof.Rows L2
def endsOff (i : Nat) (D : Ends) : Ends := { nx := fun σ H => D.nx (σ.set i none) H, rt := D.rt, bk := fun σ H => D.bk (σ.set i none) H, ct := fun σ H => D.ct (σ.set i none) H }
abbrev Clau := Value × Option Nat × (Addr → Value → Option Addr → TS)
/-- the suite's wish: with a name its slot holds the exception -/
def wSuite (o : Option Nat) (ts : Addr → Value → Option Addr → TS) (a : Addr) (cls : Value) (d : Option Addr) (D : Ends) (σ : L2.St) (H : Hp) : Prop := match o with
  | none => ts a cls d D σ H
  | some i => (σ.set i (some (.ref a)))[i]? = some (some (.ref a)) → ts a cls d (endsOff i D) (σ.set i (some (.ref a))) H
def wMix (K : PySem.W.Frag) (out : WX) (D : Ends) : List Clau → WX
  | [] => out
  | (c, o, ts) :: more => fun cls d σ H => ∃ b, PySem.W.exmOne K cls c = some b ∧ (b = true → ∀ a, H a = none → wSuite o ts a cls d D σ H) ∧ (b = false → wMix K out D more cls d σ H)
inductive HdsM (X : Cx) : List ExceptHandler → List Clau → Prop
  | nil : HdsM X [] []
  | cons {x : Str} {c : Value} {ts : Addr → Value → Option Addr → TS} {first : Stmt} {suite : List Stmt} {p p' : Pos} {more : List ExceptHandler} {l : List Clau} (hc : Names X x c)
      (su : ∀ (a : Addr) (oe : Obj) (cls : Value) (d : Option Addr) (pn : List (Addr × Obj)), Zc cls d oe → (∃ vs, oe.data = .fields vs) → PSs (X.suite a ((a, oe) :: pn)) (first :: suite) (ts a cls d)) (t : HdsM X more l) :
      HdsM X (.ExceptHandler (some (.Name x p)) none (first :: suite) p' :: more) ((c, none, ts) :: l)
  | named {x n : Str} {i : Nat} {c : Value} {ts : Addr → Value → Option Addr → TS} {first : Stmt} {suite : List Stmt} {p p' : Pos} {more : List ExceptHandler} {l : List Clau} (hc : Names X x c) (hi : X.N[i]? = some n) (hln : X.env.kindOf n = some .local)
      (su : ∀ (a : Addr) (oe : Obj) (cls : Value) (d : Option Addr) (pn : List (Addr × Obj)), Zc cls d oe → (∃ vs, oe.data = .fields vs) → PSs (X.suite a ((a, oe) :: pn)) (first :: suite) (ts a cls d)) (t : HdsM X more l) :
      HdsM X (.ExceptHandler (some (.Name x p)) (some n) (first :: suite) p' :: more) ((c, some i, ts) :: l)
section
variable {X : Cx} {body : List Stmt} {h₀ : ExceptHandler} {hds : List ExceptHandler} {l : List Clau} {pos : Pos} {tb : WX → TS} {Wo : WX}
theorem ps_try_mix (stk : X.stack = X.env :: X.outer) (own : X.env.frame = some X.env.locals) (nodup : X.N.Nodup) (tk : Takes X Wo)
    (bd : ∀ (W : WX) (pn : List (Addr × Obj)) (xe : Value → Shared → Prop), Takes (X.tr pn xe) W → PassesOwn (model X.prog X.w) X.A X.env xe → PSs (X.tr pn xe) body (tb W))
    (hh : HdsM X (h₀ :: hds) l) : PS X (.Try body (h₀ :: hds) [] [] pos) (fun D σ H => tb (wMix X.K Wo D l) D σ H) := by
  refine ⟨fun pins s σ H D inv pre => ?_⟩
  have okk := inv.ok
  have frm : X.A.frames = some (X.env :: X.outer) := okk.frames.trans (congrArg some stk)
  refine wpAny_Try_except (wpAny_mono ((bd (wMix X.K Wo D l) (X.pn ++ pins) (fun e s₁ => wpAny (model X.prog X.w) X.A (noteFrame e X.env) (fun _ s₂ => wpAny (model X.prog X.w) X.A (setFlight e none) (fun _ s₃ =>
    wpAny (model X.prog X.w) X.A (handleBy e X.env (h₀ :: hds)) (SP X pins D) X.xe s₃) X.xe s₂) X.xe s₁) (fun u s' caught => ?_) PassesOwn.looking).run [] s σ H D (inv.toTry _) pre) (fun f s1 fine => ?_) (fun _ _ z => z))
  · obtain ⟨a, B, base, pins2, σ2, H2, cls, d, rfl, inv2, nob, grow, sky, gone, oss, gens, w⟩ := caught
    have J : Inv X pins σ2 H2 base := inv2.ofTry okk
    have sky2 : Sky B (X.env :: X.outer) a (Zc cls d) X.env.locals s'.heap := stk ▸ sky
    show wpAny (model X.prog X.w) X.A (noteFrame (.ref a) X.env) _ _ _
    refine Sky.land Zc.steady frm own sky2 fun hp3 held up3 => ?_
    have J3 : Inv X pins σ2 H2 { s' with heap := hp3 } := J.landed nob held.1 (grow.trans up3) oss gens
    obtain ⟨oe, vs, at3, zc3, flds⟩ := held.there
    have far : a ∉ frs (X.env :: X.outer) := fun inside => by
      obtain ⟨_, o, isO, notF⟩ := held.2.2.1.mem inside
      rw [at3] at isO
      cases isO
      exact notF _ flds
    have farL : a ≠ X.env.locals := fun z => far (List.mem_filterMap.mpr ⟨X.env, List.mem_cons_self, by rw [own, z]⟩)
    have farF : a ∉ X.fs := fun inside => by
      obtain ⟨e, isE, q⟩ := List.mem_filterMap.mp inside
      exact far (List.mem_filterMap.mpr ⟨e, List.mem_cons_of_mem _ isE, q⟩)
    have S3 := J3.suite at3 flds gone farL farF
    have look : PySem.W.Looks (model X.prog X.w) hp3 (typeOf (.ref a)) cls := fun A Q E s k q => wpAny_typeOf_ref (k _ _ at3) (by rw [zc3.1]; exact q)
    have asks : ∀ {x : Str} {c : Value} {np : Pos} {Q E : Value → Shared → Prop}, Names X x c → Q c { s' with heap := hp3 } → wpAny (model X.prog X.w) (X.A.mark (some (.ref a))) (eval (.Name x np) X.env) Q E { s' with heap := hp3 } := fun {x c np Q E} hc q => by
      obtain ⟨gl, ndb, isg | ⟨isg, isb, nn⟩⟩ := hc
      · exact ld_glob (X := X.suite a ((a, oe) :: (X.pn ++ pins))) S3 gl isg q ndb
      · exact ld_blt (X := X.suite a ((a, oe) :: (X.pn ++ pins))) S3 gl isg isb q nn ndb
    have go : ∀ {hs' : List ExceptHandler} {l' : List Clau}, HdsM X hs' l' → wMix X.K Wo D l' cls d σ2 H2 → wpAny (model X.prog X.w) X.A (handleBy (.ref a) X.env hs') (SP X pins D) X.xe { s' with heap := hp3 } := by
      intro hs' l' hm
      induction hm with
      | nil =>
        intro w
        refine wpAny_handleBy_nil ?_
        obtain ⟨_, _, _, o4, _, T, _, _, e4, _, d4, r4, _⟩ := id held
        unfold PySem.passOn
        refine wpAny_bind (wpAny_field e4 d4 r4 ?_)
        rw [if_neg (show ¬ ((Value.ref T == Value.none) = true) by simp)]
        have last : wpAny (model X.prog X.w) X.A (setFlight (.ref a) X.env.frame) (fun _ s4 => wpAny (model X.prog X.w) X.A (throw (.ref a) : Sem Flow) (SP X pins D) X.xe s4) X.xe { s' with heap := hp3 } := by
          rw [own]
          exact HandSPX.setFlight_upZ held fun _ fly up4 => wpAny_throw (tk _ _ ⟨a, B, base, pins, σ2, H2, cls, d, rfl, J, nob, (grow.trans up3).trans up4, .inr (.inr (by rw [stk]; exact fly)), gone, oss, gens, w⟩)
        first
          | exact wpAny_bind (wpAny_pure (wpAny_bind last))
          | exact wpAny_bind last
      | @cons x c ts first suite np np' more l2 hc su t ih =>
        intro ⟨b, isB, yes, no⟩
        refine wpAny_handleBy_cons (codeAny_handlers_test ?_) (fun z => nomatch z)
        refine asks hc ((PySem.W.exm_one (M := model X.prog X.w) J3.kIn look isB).here ?_)
        cases b with
        | false => exact ih (no rfl)
        | true =>
          refine codeAny_handlers_suite (HandSPX.lands_againZ held fun hp4 held4 up4 => ?_)
          have J4 : Inv X pins σ2 H2 { s' with heap := hp4 } := J.landed nob held4.1 ((grow.trans up3).trans up4) oss gens
          obtain ⟨oe4, vs4, at4, zc4, flds4⟩ := held4.there
          refine wpAny_mono ((su a oe4 cls d (X.pn ++ pins) zc4 ⟨_, flds4⟩).run [] _ _ H2 _ (J4.suite at4 flds4 gone farL farF) (yes rfl a gone)) (fun f s6 fin => ?_) (fun _ _ z => z.elim)
          cases f with
          | ret u => obtain ⟨v6, σ6, H6, S6, r6, q6⟩ := fin; exact ⟨v6, σ6, H6, S6.unsuite okk, r6, q6⟩
          | next => obtain ⟨σ6, H6, S6, q6⟩ := fin; exact ⟨σ6, H6, S6.unsuite okk, q6⟩
          | brk => obtain ⟨σ6, H6, S6, q6⟩ := fin; exact ⟨σ6, H6, S6.unsuite okk, q6⟩
          | cont => obtain ⟨σ6, H6, S6, q6⟩ := fin; exact ⟨σ6, H6, S6.unsuite okk, q6⟩
      | @named x n i c ts first suite np np' more l2 hc hi hln su t ih =>
        intro ⟨b, isB, yes, no⟩
        refine wpAny_handleBy_cons (codeAny_handlers_test ?_) (fun z => nomatch z)
        refine asks hc ((PySem.W.exm_one (M := model X.prog X.w) J3.kIn look isB).here ?_)
        cases b with
        | false => exact ih (no rfl)
        | true =>
          refine codeAny_handlers_suite_as (HandSPX.lands_againZ held fun hp4 held4 up4 => ?_)
          have J4 : Inv X pins σ2 H2 { s' with heap := hp4 } := J.landed nob held4.1 ((grow.trans up3).trans up4) oss gens
          obtain ⟨oe4, vs4, at4, zc4, flds4⟩ := held4.there
          have S4 := J4.suite at4 flds4 gone farL farF
          have put : (σ2.set i (some (.ref a)))[i]? = some (some (.ref a)) := List.getElem?_set_self (by rw [J.len]; exact (List.getElem?_eq_some_iff.mp hi).1)
          refine store_ok (X := X.suite a ((a, oe4) :: (X.pn ++ pins))) (v := .ref a) S4 nodup hi (.inl hln) rfl (fun s5 S5 => ?_) (.inr hln)
          refine wpAny_mono ((su a oe4 cls d (X.pn ++ pins) zc4 ⟨_, flds4⟩).run [] s5 _ H2 (endsOff i D) S5 (yes rfl a gone put)) (fun f s6 fin => ?_) (fun _ _ z => z.elim)
          cases f with
          | ret u => obtain ⟨v6, σ6, H6, S6, r6, q6⟩ := fin; exact gone_ok (S6.unsuite okk) nodup hi hln fun s7 J7 => ⟨v6, _, H6, J7, r6, q6⟩
          | next => obtain ⟨σ6, H6, S6, q6⟩ := fin; exact gone_ok (S6.unsuite okk) nodup hi hln fun s7 J7 => ⟨_, H6, J7, q6⟩
          | brk => obtain ⟨σ6, H6, S6, q6⟩ := fin; exact gone_ok (S6.unsuite okk) nodup hi hln fun s7 J7 => ⟨_, H6, J7, q6⟩
          | cont => obtain ⟨σ6, H6, S6, q6⟩ := fin; exact gone_ok (S6.unsuite okk) nodup hi hln fun s7 J7 => ⟨_, H6, J7, q6⟩
    exact go hh w
  · cases f with
    | ret u => obtain ⟨v, σ1, H1, J1, r1, q1⟩ := fine; exact ⟨v, σ1, H1, J1.ofTry okk, r1, q1⟩
    | next => obtain ⟨σ1, H1, J1, q1⟩ := fine; exact wpAny_execs_nil ⟨σ1, H1, J1.ofTry okk, q1⟩
    | brk => obtain ⟨σ1, H1, J1, q1⟩ := fine; exact ⟨σ1, H1, J1.ofTry okk, q1⟩
    | cont => obtain ⟨σ1, H1, J1, q1⟩ := fine; exact ⟨σ1, H1, J1.ofTry okk, q1⟩
end
end DL
namespace DL
open PySem PySem.Spec PyProof.Rows L2
section
variable {c : Cn} {X : Cx} {F : Fr} {W : WX} {ρ : List Sl} {α β : Type}
def repF (m f : Str) : Ex → M (Fl β) := fun e => match e.kept with
  | some (g, d) => if g = f then reprN d >>= fun x => addD (.str m) x >>= fun r => Pure.pure (.rt r) else M.no
  | none => M.no
theorem ktxt_xf {K : PySem.W.Frag} {mg : Str → Option Value} {x f : Str} {B newId initId : String} {bmB : List Value} {C fI : Addr} (T : PySem.KepX.KTxt K mg x f B newId initId bmB C fI) : XfC K C := ⟨T.ga, T.gg, T.exC, T.hdC⟩
/-- what the named suite is given -/
def tRepF (c : Cn) (F : Fr) (ρ : List Sl) (i : Nat) (m f : Str) (C : Addr) : Addr → Value → Option Addr → TS := fun a cl dd B σ H =>
  ∃ (ad : Addr) (v : V) (d : D) (P : Pot) (G : Hp), cl = .ref C ∧ dd = some ad ∧ σ[i]? = some (some (.ref a)) ∧ H ad = some (.xd [(f, v)]) ∧ c.rep G v d ∧ Rel c F ρ P σ H G ∧
    out (reprN d >>= fun x => addD (.str m) x) P (fun r P' => ∀ u H' G' ρ' σ', Ext G G' → Rel c F ρ' P' σ' H' G' → c.rep G' u r → B.rt u H') (fun _ _ => False)
/-- the clauses -/
inductive HdsE (c : Cn) (X : Cx) (F : Fr) (ρ : List Sl) (E : β → List Sl) : List ExceptHandler → List Clau → List (Hd β) → Prop
  | nil : HdsE c X F ρ E [] [] []
  | cons {x : Str} {cv : Value} {b₀ : Stmt} {suite : List Stmt} {np pos' : Pos} {h : Hd β} {hds : List ExceptHandler} {l : List Clau} {r : List (Hd β)} (hc : Names X x cv) (ok : HdOk c h.1 cv)
      (hsu : ∀ (a : Addr) (oe : Obj) (pn : List (Addr × Obj)) (e : Ex), h.1 e.c = some true → PSs (X.suite a ((a, oe) :: pn)) (b₀ :: suite) (rdS c F W0 ρ E (h.2 e))) (t : HdsE c X F ρ E hds l r) :
      HdsE c X F ρ E (.ExceptHandler (some (.Name x np)) none (b₀ :: suite) pos' :: hds) ((cv, none, tSuite c F ρ E h) :: l) (h :: r)
  | rep {x n m f : Str} {i : Nat} {C : Addr} {is : Str → Option Bool} {st : Stmt} {np pos' : Pos} {hds : List ExceptHandler} {l : List Clau} {r : List (Hd β)} (hc : Names X x (.ref C)) (ok : HdOk c is (.ref C)) (gC : c.mg x = some (.ref C)) (only : ∀ y, is y = some true → y = x) (hi : X.N[i]? = some n) (hil : i < ρ.length) (hln : X.env.kindOf n = some .local)
      (hsu : ∀ (a : Addr) (oe : Obj) (cl : Value) (dd : Option Addr) (pn : List (Addr × Obj)), Zc cl dd oe → (∃ vs, oe.data = .fields vs) → PSs (X.suite a ((a, oe) :: pn)) [st] (tRepF c F (ρ.set i .un) i m f C a cl dd)) (t : HdsE c X F ρ E hds l r) :
      HdsE c X F ρ E (.ExceptHandler (some (.Name x np)) (some n) [st] pos' :: hds) ((.ref C, some i, tRepF c F (ρ.set i .un) i m f C) :: l) ((is, repF m f) :: r)
theorem HdsE.hds {E : β → List Sl} {hds : List ExceptHandler} {l : List Clau} {r : List (Hd β)} (h : HdsE c X F ρ E hds l r) : HdsM X hds l := by
  induction h with
  | nil => exact .nil
  | cons hc ok hsu t ih =>
    refine .cons hc (fun a oe cls d pn hz hf => ⟨fun pins s σ H D I ⟨e, G, he, _, q⟩ => ?_⟩) ih
    exact (hsu a oe pn e he).run pins s σ H D I q
  | rep hc ok gC only hi hil hln hsu t ih => exact .named hc hi hln hsu ih
theorem HdsE.want {E : β → List Sl} {hds : List ExceptHandler} {l : List Clau} {r : List (Hd β)} (h : HdsE c X F ρ E hds l r) (hK : X.K = c.K) {D : Ends} {e : Ex} {cl : Value} {dd : Option Addr} {σ : L2.St} {H G : Hp} {P : Pot} (R : Rel c F ρ P σ H G) (x : ExOk c H G e cl dd)
    (q : out (pick r e) P (ends c F E D G) (exS c F W P G σ)) : wMix X.K W D l cl dd σ H := by
  induction h with
  | nil => exact q cl dd H G ρ σ (Ext.refl _) R x
  | @cons y cv b₀ suite np pos' h hds l r hc ok hsu t ih =>
    unfold pick at q
    cases hi : h.1 e.c with
    | none => simp only [hi] at q; exact q.elim
    | some b =>
      have hb : PySem.W.exmOne X.K cl cv = some b := by rw [hK]; exact ok.ok _ _ hi _ x.1
      cases b with
      | true =>
        simp only [hi] at q
        refine ⟨true, hb, fun _ a na => ?_, fun z => nomatch z⟩
        refine ⟨e, G, hi, x, P, G, R, ?_⟩
        exact out_mono (out_noEx q) (fun f p z => z) fun _ _ z => z.elim
      | false =>
        simp only [hi] at q
        exact ⟨false, hb, fun z => (nomatch z), fun _ => ih q⟩
  | @rep y n m f i C is st np pos' hds l r hc ok gC only hi hil hln hsu t ih =>
    unfold pick at q
    cases hi : is e.c with
    | none => simp only [hi] at q; exact q.elim
    | some b =>
      have hb : PySem.W.exmOne X.K cl (.ref C) = some b := by rw [hK]; exact ok.ok _ _ hi _ x.1
      cases b with
      | false =>
        simp only [hi] at q
        exact ⟨false, hb, fun z => (nomatch z), fun _ => ih q⟩
      | true =>
        simp only [hi] at q
        refine ⟨true, hb, fun _ a na => ?_, fun z => nomatch z⟩
        have ey := only _ hi
        obtain ⟨x1, x2⟩ := x
        rw [ey, gC] at x1
        have ecl : cl = .ref C := (Option.some.inj x1).symm
        have q := out_noEx q
        unfold repF at q
        obtain ⟨ec, kept⟩ := e
        cases kept with
        | none => exact q.elim
        | some gd =>
          obtain ⟨g, d⟩ := gd
          obtain ⟨ad, v, e1, e2, rv⟩ := x2
          dsimp only at q
          by_cases z : g = f
          · subst z
            rw [if_pos rfl] at q
            refine fun put => ⟨ad, v, d, P, G, ecl, e1, put, e2, rv, R.un, ?_⟩
            exact out_bind.mpr (out_mono (out_bind.mp q) (fun x P1 q1 => out_mono (out_bind.mp q1) (fun r P2 q2 u H' G' ρ' σ' e' R' r' => (show ∀ u H' G' ρ' σ', Ext G G' → Rel c F ρ' P2 σ' H' G' → c.rep G' u r → D.rt u H' from q2) u H' G' ρ' σ' e' R' r') fun _ _ z => z) fun _ _ z => z)
          · rw [if_neg z] at q
            exact q.elim
end
end DL
namespace DL
open PySem PySem.Spec PyProof.Rows L2
/-- a class that an except clause names, and that keeps f -/
structure Hand1 (K : PySem.W.Frag) (mg : Str → Option Value) (x f : Str) (is : Str → Option Bool) : Prop where
  ex : ∃ (B newId initId : String) (bmB : List Value) (C fI : Addr), PySem.KepX.KTxt K mg x f B newId initId bmB C fI ∧ HdOk ⟨mg, K, []⟩ is (.ref C) ∧ ∀ y, is y = some true → y = x
theorem cd_of {K : PySem.W.Frag} {C : Addr} (h : PySem.W.hasDictIn K C = true) : ∃ cd, PySem.W.clsIn K C = some cd ∧ cd.hasDict = true := by
  unfold PySem.W.hasDictIn at h
  cases e : PySem.W.clsIn K C with
  | none => rw [e] at h; cases h
  | some cd => rw [e] at h; exact ⟨cd, rfl, h⟩
end DL
namespace DL
open PySem PySem.Spec PyProof.Rows L2
end DL
namespace DL
open PySem PySem.Spec PyProof.Rows L2
end DL
namespace DL
open PySem PySem.Spec PyProof.Rows L2
/-- repr of what holds nothing -/
def reprS : D → M D
  | .int z => if z.natAbs.log2 < 1920 then Pure.pure (.str (toString z)) else M.no
  | .bl b => Pure.pure (.str (if b then "True" else "False"))
  | .str x => if (reprText x).length ≤ sizeLine then Pure.pure (.str (reprText x)) else M.no
  | .non => Pure.pure (.str "None")
  | _ => M.no
def rReprS : V → Hp → VK → Prop := fun v H Q => ((∃ i, v = .int i ∧ i.natAbs.log2 < 1920 ∧ Q (.str (toString i)) H) ∨ ∃ b, v = .bl b ∧ Q (.str (if b then "True" else "False")) H) ∨ (∃ x : Str, v = .str x ∧ (reprText x).length ≤ sizeLine ∧ Q (.str (reprText x)) H) ∨ (v = .non ∧ Q (.str "None") H)
section
variable {c : Cn} {X : Cx}
theorem cr_reprS : CallR X (.builtin "repr") (fun xs H Q => ∃ v, xs = [v] ∧ rReprS v H Q) := CallR.by (CallR.or (CallR.or SkE.call_repr_int call_repr_bool) (CallR.or call_repr_str call_repr_none)) fun xs H Q ⟨v, e, h⟩ => by
  subst e
  rcases h with (⟨i, rfl, h⟩ | ⟨b, rfl, h⟩) | ⟨x, rfl, h⟩ | ⟨rfl, h⟩
  · exact .inl (.inl ⟨i, rfl, h⟩)
  · exact .inl (.inr ⟨b, rfl, h⟩)
  · exact .inr (.inl ⟨x, rfl, h⟩)
  · exact .inr (.inr ⟨rfl, h⟩)
theorem reprS_ok {F : Fr} {ρ : List Sl} {P : Pot} {σ : L2.St} {H G : Hp} {v : V} {d : D} {Q : VK} (R : Rel c F ρ P σ H G) (r : c.rep G v d) (q : out (reprS d) P (fun d P' => ∀ v H' G', Ext G G' → Rel c F ρ P' σ H' G' → c.rep G' v d → Q v H') (fun _ _ => False)) : rReprS v H Q := by
  cases d with
  | int z =>
    have q : out (if z.natAbs.log2 < 1920 then Pure.pure (D.str (toString z)) else M.no) P _ _ := q
    rw [r.int_of]
    by_cases y : z.natAbs.log2 < 1920
    · rw [if_pos y] at q
      exact .inl (.inl ⟨z, rfl, y, q _ H G (Ext.refl _) R (.str _)⟩)
    · rw [if_neg y] at q; exact q.elim
  | bl b =>
    rw [r.bl_of]
    exact .inl (.inr ⟨b, rfl, q _ H G (Ext.refl _) R (.str _)⟩)
  | str x =>
    have q : out (if (reprText x).length ≤ sizeLine then Pure.pure (D.str (reprText x)) else M.no) P _ _ := q
    cases r
    by_cases y : (reprText x).length ≤ sizeLine
    · rw [if_pos y] at q
      exact .inr (.inl ⟨x, rfl, y, q _ H G (Ext.refl _) R (.str _)⟩)
    · rw [if_neg y] at q; exact q.elim
  | non =>
    cases r
    exact .inr (.inr ⟨rfl, q _ H G (Ext.refl _) R (.str _)⟩)
  | _ => exact q.elim
end
/-- a clause, by what it does -/
inductive CL where
  | txt (cv : Value) (m : Str)
  | rep (C : Addr) (i : Nat) (m f : Str)
  | nev (cv : Value) (o : Option Nat)
def CL.cl (K : PySem.W.Frag) : CL → Clau
  | .txt cv m => (cv, none, fun _ _ _ D _ H => D.rt (.str m) H)
  | .rep C i m f => (.ref C, some i, fun a cls d D σ H => cls = .ref C ∧ ∃ ad v, d = some ad ∧ σ[i]? = some (some (.ref a)) ∧ H ad = some (.xd [(f, v)]) ∧ rReprS v H fun y H2 => rAddD K (.str m) y H2 fun w H3 => D.rt w H3)
  | .nev cv o => (cv, o, fun _ _ _ _ _ _ => False)
def chain (K : PySem.W.Frag) (Q : VK) : List CL → Value → Option Addr → Hp → Prop
  | [], _, _, _ => False
  | .txt cv m :: r, cls, d, H => ∃ b, PySem.W.exmOne K cls cv = some b ∧ (b = true → Q (.str m) H) ∧ (b = false → chain K Q r cls d H)
  | .rep C i m f :: r, cls, d, H => ∃ b, PySem.W.exmOne K cls (.ref C) = some b ∧ (b = true → cls = .ref C ∧ ∃ ad v, d = some ad ∧ H ad = some (.xd [(f, v)]) ∧ rReprS v H fun y H2 => rAddD K (.str m) y H2 Q) ∧ (b = false → chain K Q r cls d H)
  | .nev cv o :: r, cls, d, H => PySem.W.exmOne K cls cv = some false ∧ chain K Q r cls d H
def repS (m f : Str) : Ex → M (Fl Unit) := fun e => match e.kept with
  | some (g, d) => if g = f then reprS d >>= fun x => addD (.str m) x >>= fun r => Pure.pure (.rt r) else M.no
  | none => M.no
/-- the clauses of a def that is given a lambda -/
inductive HdsL (c : Cn) (sg : Scope) (Ng : List Str) : List ExceptHandler → List CL → List (Hd Unit) → Prop
  | nil : HdsL c sg Ng [] [] []
  | txt {x m : Str} {cv : Value} {is : Str → Option Bool} {j : Nat} {np q1 q2 q3 : Pos} {hds : List ExceptHandler} {l : List CL} {r : List (Hd Unit)} (hge : sg.names.lookup x = some .globalImplicit) (hme : c.mg x = some cv) (hde : (x == ("__debug__" : Str)) = false) (ok : HdOk c is cv) (t : HdsL c sg Ng hds l r) :
      HdsL c sg Ng (.ExceptHandler (some (.Name x np)) none [.Return (some (.Constant (.str m) j q1)) q2] q3 :: hds) (.txt cv m :: l) ((is, fun _ => Pure.pure (.rt (.str m))) :: r)
  | rep {x n m f : Str} {i j : Nat} {C fI : Addr} {B newId initId : String} {bmB : List Value} {is : Str → Option Bool} {np p1 p2 p3 p4 p5 p6 p7 q3 : Pos} {hds : List ExceptHandler} {l : List CL} {r : List (Hd Unit)} (hge : sg.names.lookup x = some .globalImplicit) (T : PySem.KepX.KTxt c.K c.mg x f B newId initId bmB C fI) (hde : (x == ("__debug__" : Str)) = false) (ok : HdOk c is (.ref C)) (only : ∀ y, is y = some true → y = x)
      (hi : Ng[i]? = some n) (hn : sg.names.lookup n = some .local) (hv : Vis sg n) (hr : sg.names.lookup ("repr" : Str) = some .globalImplicit) (mr : c.mg "repr" = none) (hnd : (n == ("__debug__" : Str)) = false) (hnc : (n == ("__classdict__" : Str)) = false) (t : HdsL c sg Ng hds l r) :
      HdsL c sg Ng (.ExceptHandler (some (.Name x np)) (some n) [.Return (some (.BinOp (.Constant (.str m) j p1) .Add (.Call (.Name "repr" p2) [.Attribute (.Name n p3) f p4] [] p5) p6)) p7] q3 :: hds) (.rep C i m f :: l) ((is, repS m f) :: r)
  | nev {x n : Str} {i : Nat} {cv : Value} {is : Str → Option Bool} {h : Ex → M (Fl Unit)} {st : Stmt} {np q3 : Pos} {hds : List ExceptHandler} {l : List CL} {r : List (Hd Unit)} (hge : sg.names.lookup x = some .globalImplicit) (hme : c.mg x = some cv) (hde : (x == ("__debug__" : Str)) = false) (ok : HdOk c is cv) (no : ∀ y, is y ≠ some true)
      (hi : Ng[i]? = some n) (hn : sg.names.lookup n = some .local) (t : HdsL c sg Ng hds l r) :
      HdsL c sg Ng (.ExceptHandler (some (.Name x np)) (some n) [st] q3 :: hds) (.nev cv (some i) :: l) ((is, h) :: r)
section
variable {c : Cn} {X : Cx}
theorem HdsL.hds {sg : Scope} {Ng : List Str} {hds : List ExceptHandler} {l : List CL} {r : List (Hd Unit)} (h : HdsL c sg Ng hds l r) (hK : X.K = c.K) (hm : X.mg = c.mg) (hN : X.N = Ng) (hs : X.env.scope = sg) (hgl : ∀ y, sg.names.lookup y = some .globalImplicit → Gl X y)
    (hpv : ∀ (a : Addr) (pn : List (Addr × Obj)) (i : Nat) (n : Str) (p : Pos), Ng[i]? = some n → Vis sg n → (n == ("__debug__" : Str)) = false → (n == ("__classdict__" : Str)) = false → PE (X.suite a pn) (.Name n p) (tVar i)) : HdsM X hds (l.map (CL.cl X.K)) := by
  induction h with
  | nil => exact .nil
  | txt hge hme hde ok t ih => exact .cons ⟨hgl _ hge, hde, .inl (by rw [hm]; exact hme)⟩ (fun a oe cls d pn _ _ => pss_one (ps_ret pe_str)) ih
  | @rep x n m f i j C fI B newId initId bmB is np p1 p2 p3 p4 p5 p6 p7 q3 hds l r hge T hde ok only hi hn hv hr mr hnd hnc t ih =>
    refine .named ⟨hgl _ hge, hde, .inl (by rw [hm]; exact T.gC)⟩ (by rw [hN]; exact hi) (by show X.env.scope.names.lookup n = _; rw [hs]; exact hn) (fun a oe cls d pn hz hf => ?_) ih
    have xf : XfC X.K C := by rw [hK]; exact ktxt_xf T
    have no : PySem.W.findIn X.K (.ref C) f = some none := by rw [hK]; exact T.noN
    have fld := pe_xf (X := X) (pn := pn) (pos := p4) xf no hz hf (hpv a _ i n p3 hi hv hnd hnc)
    have call := pe_callB (X := X.suite a ((a, oe) :: pn)) (p := p2) (pos := p5) cr_reprS (hgl _ hr) (show X.mg "repr" = none by rw [hm]; exact mr) (by decide +kernel) (pa_cons fld pa_nil) (by decide) (by decide)
    refine pss_by (pss_one (ps_ret (pos := p7) (pe_op (pos := p6) opr_add (pe_str (x := m) (j := j) (pos := p1)) call))) fun D σ H ⟨ec, ad, v, ed, si, ha, q⟩ => ?_
    subst ec ed
    show ∃ u, σ[i]? = some (some u) ∧ _
    refine ⟨.ref a, si, rfl, rfl, ad, [(f, v)], v, rfl, ha, by simp [List.lookup], ?_⟩
    exact ⟨v, rfl, q⟩
  | nev hge hme hde ok no hi hn t ih => exact .named ⟨hgl _ hge, hde, .inl (by rw [hm]; exact hme)⟩ (by rw [hN]; exact hi) (by show X.env.scope.names.lookup _ = _; rw [hs]; exact hn) (fun a oe cls d pn _ _ => ⟨fun pins s σ H D I h => h.elim⟩) ih
theorem HdsL.want {sg : Scope} {Ng : List Str} {hds : List ExceptHandler} {l : List CL} {r : List (Hd Unit)} (h : HdsL c sg Ng hds l r) {F : Fr} {ρ : List Sl} {e : Ex} {cl : Value} {dd : Option Addr} {σ : L2.St} {H G : Hp} {P : Pot} {Q : VK} {EX : Ex → Pot → Prop} (R : Rel c F ρ P σ H G) (x : ExOk c H G e cl dd)
    (q : out (pick r e) P (fun f P' => out (doneF (α := Unit) f) P' (fun d P2 => ∀ v H' G', Ext G G' → Rel c F ρ P2 σ H' G' → c.rep G' v d → Q v H') EX) (fun _ _ => False)) : chain c.K Q l cl dd H := by
  induction h with
  | nil => exact q.elim
  | @txt y m cv is j np q1 q2 q3 hds l r hge hme hde ok t ih =>
    unfold pick at q
    cases hi : is e.c with
    | none => simp only [hi] at q; exact q.elim
    | some b =>
      have hb : PySem.W.exmOne c.K cl cv = some b := ok.ok _ _ hi _ x.1
      refine ⟨b, hb, fun z => ?_, fun z => ?_⟩
      · subst z
        simp only [hi] at q
        have q := out_noEx q
        exact (show ∀ v H' G', Ext G G' → Rel c F ρ P σ H' G' → c.rep G' v (.str m) → Q v H' from q) (.str m) H G (Ext.refl _) R (.str m)
      · subst z
        simp only [hi] at q
        exact ih q
  | @rep y n m f i j C fI B newId initId bmB is np p1 p2 p3 p4 p5 p6 p7 q3 hds l r hge T hde ok only hi hn hv hr mr hnd hnc t ih =>
    unfold pick at q
    cases hi2 : is e.c with
    | none => simp only [hi2] at q; exact q.elim
    | some b =>
      have hb : PySem.W.exmOne c.K cl (.ref C) = some b := ok.ok _ _ hi2 _ x.1
      refine ⟨b, hb, fun z => ?_, fun z => ?_⟩
      · subst z
        simp only [hi2] at q
        have q := out_noEx q
        have ey := only _ hi2
        obtain ⟨x1, x2⟩ := x
        rw [ey, T.gC] at x1
        have ecl : cl = .ref C := (Option.some.inj x1).symm
        unfold repS at q
        obtain ⟨ec, kept⟩ := e
        cases kept with
        | none => exact q.elim
        | some gd =>
          obtain ⟨g, d⟩ := gd
          obtain ⟨ad, v, e1, e2, rv⟩ := x2
          dsimp only at q
          by_cases z : g = f
          · subst z
            rw [if_pos rfl] at q
            refine ⟨ecl, ad, v, e1, e2, ?_⟩
            refine reprS_ok R rv (out_mono (out_bind.mp q) (fun x P1 q1 u H1 G1 e1 R1 r1 => ?_) fun _ _ z => z)
            refine opd_add (c := c) F ρ (fun _ _ _ _ => False) P1 σ H1 G1 (.str m) u (.str m) x Q R1 (.str m) r1 (out_mono (out_bind.mp q1) (fun r P2 q2 u2 H2 G2 e2 R2 r2 => ?_) fun _ _ z => z.elim)
            exact (show ∀ v H' G', Ext G G' → Rel c F ρ P2 σ H' G' → c.rep G' v r → Q v H' from q2) u2 H2 G2 (e1.trans e2) R2 r2
          · rw [if_neg z] at q
            exact q.elim
      · subst z
        simp only [hi2] at q
        exact ih q
  | @nev y n i cv is h st np q3 hds l r hge hme hde ok no hi hn t ih =>
    unfold pick at q
    cases hi2 : is e.c with
    | none => simp only [hi2] at q; exact q.elim
    | some b =>
      cases b with
      | true => exact absurd hi2 (no _)
      | false =>
        simp only [hi2] at q
        exact ⟨ok.ok _ _ hi2 _ x.1, ih q⟩
end
end DL
namespace DL
open PySem PySem.Spec PyProof.Rows L2
end DL
namespace DL
open PySem PySem.Spec PyProof.Rows L2
end DL
namespace DL
open PySem PySem.Spec PyProof.Rows L2
section
variable {X : Cx}
/-- what is known of the lambda's body: its surroundings have the guards of those who make it -/
def LamB (X : Cx) (k : Nat) (scope : Scope) (body : Expr) (t : XK → TE) : Prop :=
  ∀ (A : Around) (outer : List Env) (s : Shared) (H : Hp) (E : XK) (f c' : Addr), A.guards = X.A.guards → Room k (A.deeper (LamX.lamEnv X scope s.heap.objs.size f c')) → PE (LamX.lamCx X A outer s H E scope f c') body (t E)
/-- the call of the lambda in the def that got it -/
theorem lam_called {pins : List (Addr × Obj)} {σ : L2.St} {H : Hp} {s : Shared} {Ng : List Str} {qg : Str} {sg : Scope} {g f c' : Addr} {cdg pm ctv : Value} {params : Arguments} {body : Expr} {scope : Scope} {k i : Nat} {a : Str} {pn : List (Addr × Obj)} {xe : Value → Shared → Prop} {W : WX} {E : XK} {t : XK → TE} {p1 p2 : Pos}
    (I : Inv X pins σ H s) (L : LamX.LamS X.env.scope scope) (of : s.heap.get? f = some (PySem.W.kla_obj "<lambda>" (X.env.qual ++ "<lambda>") params body scope (cloFrom X.env.cells scope.names []) pm c' ctv)) (nf : H f = none) (nr : f ∉ frs X.stack)
    (hbind : bindArgs (PySem.W.kla_fn "<lambda>" (X.env.qual ++ "<lambda>") params body scope (cloFrom X.env.cells scope.names []) pm (.ref c') ctv) ⟨[], []⟩ = pure [])
    (tk : Takes ((cxOf C8.CX0 X.prog X.w X.K X.mg X.base Ng qg sg g cdg X.A X.stack s H C8.E0).tr pn xe) W) (hW : ∀ cls d σ' H', E cls d H' → W cls d σ' H') (hr : Room (k + 1) (X.A.deeper (envOfC qg sg s.heap.objs.size g cdg))) (B : LamB X k scope body t)
    (hN : Ng[i]? = some a) (hv : Vis sg a) (hd : (a == ("__debug__" : Str)) = false) (hcd : (a == ("__classdict__" : Str)) = false) :
    PE ((cxOf C8.CX0 X.prog X.w X.K X.mg X.base Ng qg sg g cdg X.A X.stack s H C8.E0).tr pn xe) (.Call (.Name a p1) [] [] p2) (fun σZ HZ Q => σZ[i]? = some (some (.ref f)) ∧ HZ c' = some (LamX.CodeO c' (X.env.qual ++ "<lambda>")) ∧ t E σ HZ Q) := by
  let AZ : Around := X.A.deeper (envOfC qg sg s.heap.objs.size g cdg)
  refine ⟨fun pinsZ sZ σZ HZ Q IZ ⟨hs, hc, ht⟩ => ?_⟩
  have name := (pe_var (pos := p1) (i := i) hN hv hd hcd).run pinsZ sZ σZ HZ (fun v H1 => v = .ref f ∧ H1 = HZ) IZ ⟨.ref f, hs, rfl, rfl⟩
  refine wpAny_Call_Name_kw (thn name fun u s1 ⟨v, H1, I1, r1, ev, eH⟩ => ?_)
  subst ev eH
  obtain rfl : u = Value.ref f := r1
  have of1 := I1.base.keep f _ of nf nr (fun z => nomatch (show f ∈ ([] : List Addr) from z))
  refine PySem.W.callWith_F0 ⟨_, _, _, _, of1⟩ ?_
  have un : Un (frs X.stack) [] H H1 s.heap s1.heap := I1.base
  obtain ⟨⟨oc, vs, tok, e1, e2, e3⟩, _, _⟩ := I1.hok c' _ hc
  have run : codeAny (model X.prog X.w) AZ (.call (.ref f) ⟨[], []⟩) (CR (L2.CX X.prog X.w) (envOfC qg sg s.heap.objs.size g cdg :: X.stack) X.prog X.w H1 s1 Q E) s1 := by
    refine PySem.W.kla_callFunE hr.depth of1 rfl L.co L.gen rfl ⟨c', oc, vs, tok, rfl, e1, e2, e3⟩ ?_
    rw [hbind]
    refine wpAny_pure (wpAny_newFunctionEnv (fun y hy => (L.own y hy).2) (fun y hy => nomatch hy) (fun h₁ hns hsb => ⟨I1.nolimit.fresh _ hsb, ?_⟩) L.kind)
    have J := LamX.lam_start2 (c' := c') (f := f) (E := E) (tk := s1.toks) I L I1.env0 hr.hd un hns fun b o e => hsb.extBut b o (Nat.ne_of_lt (Heap.lt_size e)) (Heap.get?_push_of_some _ e)
    have body := (B AZ _ s1 H1 E f c' rfl (hr.deeper _)).run [] _ _ H1 Q J ht
    refine PySem.W.kla_codeExpr (wpAny_mono body (fun v s' hq => ?_) fun e s' hq => hq)
    obtain ⟨w', H', J', rv, q⟩ := hq
    exact ⟨w', H', J'.os, J'.bare, J'.base, J'.hok, rv, q⟩
  refine wpAny_call (codeAny_mono run fun r s' hq => ?_)
  cases r with
  | error e => exact passes_call (X := (cxOf C8.CX0 X.prog X.w X.K X.mg X.base Ng qg sg g cdg X.A X.stack s H C8.E0).tr pn xe) tk hW pinsZ σZ H1 s1 e s' I1 hq
  | ok fl =>
    cases fl with
    | ret u => exact I1.after hq
    | next => exact hq.elim
    | brk => exact hq.elim
    | cont => exact hq.elim
/-- the def called with the lambda -/
theorem lam_given {T : List (Addr × Str)} {TT : (XK → Hp → VK → Prop) → Hp → VK → Prop} {x a : Str} {g c P : Addr} {k : Nat} {pg : Arguments} {bg : List Stmt} {sg : Scope} {dV kV doc pm cdv ct oc : Value} {an od : Option Addr} {osl : Array (Option Value)} {Ng : List Str}
    {params : Arguments} {body : Expr} {scope : Scope} {t : XK → TE} {p lpos pos : Pos} (hg : Gl X x) (hm : X.mg x = some (.ref g)) (hk : PySem.W.keepIn X.K (.ref g) = true)
    (lk : X.K.lookup g = some ⟨oc, od, .func (PySem.W.fnOf x x pg bg sg dV kV doc pm an cdv ct), osl⟩) (hcg : PySem.W.codeIn X.K cdv x = true) (hb : L2.Binds X.K (PySem.W.fnOf x x pg bg sg dV kV doc pm an cdv ct) [a] []) (Sg : FnScope Ng [a] sg) (hNg : Ng[0]? = some a) (hva : Vis sg a)
    (hG : LamX.GivesTo X Ng x sg g cdv bg a (X.env.qual ++ "<lambda>") TT)
    (TB : LamX.TabB X.base X.mg c P) (hcode : X.env.code = .ref c) (hmT : (P, X.env.qual ++ "<lambda>") ∈ T) (hu : ∀ p ∈ T, p.1 = P → p.2 = X.env.qual ++ "<lambda>") (hr : Room (k + 2) X.A) (L : LamX.LamS X.env.scope scope) (hdef : defaultsOf params X.env = ([], []))
    (hbind : ∀ (q : Str) (cl : List (Str × Addr)) (pm cv ctv : Value), bindArgs (PySem.W.kla_fn "<lambda>" q params body scope cl pm cv ctv) ⟨[], []⟩ = pure []) (B : LamB X k scope body t)
    (hdb : (x == ("__debug__" : Str)) = false) (hd : (a == ("__debug__" : Str)) = false) (hcd : (a == ("__classdict__" : Str)) = false) :
    PE X (.Call (.Name x p) [.Lambda params body scope lpos] [] pos) (LamX.tLam T TT t) := by
  refine ⟨fun pins s σ H Q I ⟨hT, h⟩ => wpAny_Call_Name_kw (ld_glob I hg hm (PySem.W.callWith_K (h₀ := X.base) I.ok.mod.kin hk ?_ (by rfl) (by rfl)) hdb)⟩
  show wpAny _ _ (spliced ((false, eval (.Lambda params body scope lpos) X.env) :: backTo pos (starEach [] X.env))) _ _ s
  refine Calls.spliced_cons (LamX.lam_make2 I TB hcode hmT hu hT hdef (L.has I.ok) fun f c' pm' ctv H1 s' I1 eN T1 of nf nr hco => Calls.spliced_nil ⟨I1.kIn, ?_⟩)
  have run : codeAny (model X.prog X.w) X.A (.call (.ref g) ⟨[.ref f], []⟩) (CR C8.CX0 X.stack X.prog X.w H1 s' Q C8.E0) s' := by
    refine LamX.run_ofS (N := Ng) (ps := [a]) (us := [.ref f]) (vs := [.ref f]) lk hcg Sg hr I1.env0 (hb s' [.ref f] I1.kIn rfl) (.cons rfl .nil) rfl fun hr' => ?_
    obtain ⟨t', ht', hq'⟩ := hG f c' s' H1 Q (fun E H' Q' => t E σ H' Q') (fun W pn xe E p1 p2 tk hW => lam_called (i := 0) I1 L of nf nr (hbind _ _ _ _ _) tk hW hr' B hNg hva hd hcd) hco (h H1 eN T1)
    exact ⟨t', ht'.nox, hq'⟩
  refine wpAny_call (codeAny_mono run fun r s2 hq => ?_)
  cases r with
  | error e => exact (show False from hq).elim
  | ok fl =>
    cases fl with
    | ret u => exact I1.after hq
    | next => exact hq.elim
    | brk => exact hq.elim
    | cont => exact hq.elim
end
end DL
namespace DL
open PySem PySem.Spec PyProof.Rows L2
end DL
namespace DL
open PySem PySem.Spec PyProof.Rows L2
/-- the heap that a law starts from: the script, if it is new, and the tables, empty -/
def hpT (ts : List Addr) (a : Addr) (o : Option HO) : Hp := fun b => if b ∈ ts then some (.tbl #[]) else if b = a then o else none
theorem law_callT {P : Program} {w : World} {K : PySem.W.Frag} {mg mb : Str → Option Value} {k : Nat} {fa a : Addr} {cs : List (Addr × Addr)} {fd : FuncData} {x : Str} {sp : Sp} {s₁ : Shared} {vs : List Value} {ns : List Int}
    (kx : K.In s₁.heap) (hns : s₁.heap.Ns mainGlobals mg) (hb : s₁.heap.Ns builtinsNs mb) (hbb : ∀ x : Str, x ≠ "__name__" → mb x = bootBuiltins x) (nl : s₁.heap.NoLimit) (hg : s₁.gens = #[])
    (hT : ∀ p ∈ cs, s₁.heap.get? p.2 = some { cls := .none, data := .fields #[] }) (nT : ∀ p ∈ cs, K.lookup p.2 = none) (hC : ∀ p ∈ cs, PySem.W.CodeHd s₁.heap p.1 p.2)
    (hbm : ∃ (bm : Addr) (ob : Obj), mg "__builtins__" = some (.ref bm) ∧ bm ≠ builtinsNs ∧ s₁.heap.get? bm = some ob ∧ ob.cls = .type "module" ∧ ob.dict = some builtinsNs ∧ ob.data = .plain)
    (ha : s₁.heap.get? a = some { cls := .type "list", data := .seq vs.toArray }) (hi : IntsAre vs ns) (hl : ns.length ≤ sizeLine) (hr : Room k callerA)
    (F : ∀ base : Heap, K.In base → base.Ns mainGlobals mg → (∀ p ∈ cs, LamX.TabB base mg p.1 p.2) → FnG P w K mg base k fa fd [x] sp) (hbind : ∀ (s : Shared) (u : Value), BindsTo s fd ⟨[u], []⟩ [(x, u)])
    (hsp : ∀ H : Hp, (∀ p ∈ cs, H p.2 = some (.tbl #[])) → SqL K H a (ns.map V.int) → sp [.ref a] H (fun v _ => v = .bl true) fun _ _ _ => False) :
    codeAny (model P w) callerA (.call (.ref fa) ⟨[.ref a], []⟩) (fun r s' => r = .ok (.ret (.bool true)) ∧ OldK s₁.heap s'.heap ∧ s'.os = s₁.os ∧ AllBare s'.gens) s₁ := by
  have rv := vals_ints hi
  have lv := hi.length
  let ts : List Addr := cs.map (·.2)
  have inT : ∀ p ∈ cs, p.2 ∈ ts := fun p hp => List.mem_map_of_mem hp
  have atT : ∀ b ∈ ts, s₁.heap.get? b = some { cls := .none, data := .fields #[] } := fun b h => by
    obtain ⟨p, hp, rfl⟩ := List.mem_map.mp h
    exact hT p hp
  have kT : ∀ b ∈ ts, K.lookup b = none := fun b h => by
    obtain ⟨p, hp, rfl⟩ := List.mem_map.mp h
    exact nT p hp
  have na : a ∉ ts := fun h => by
    have z := atT a h
    rw [ha] at z
    exact nomatch congrArg (fun o => o.map Obj.cls) z
  let oa : HO := .frz { cls := .type "list", data := .seq vs.toArray } (.lst (ns.map V.int))
  have main : ∀ o : Option HO, (o = none ∨ o = some oa) → SqL K (hpT ts a o) a (ns.map V.int) → (o ≠ none → K.lookup a = none) →
      codeAny (model P w) callerA (.call (.ref fa) ⟨[.ref a], []⟩) (fun r s' => r = .ok (.ret (.bool true)) ∧ OldK s₁.heap s'.heap ∧ s'.os = s₁.os ∧ AllBare s'.gens) s₁ := by
    intro o ho sq apart
    have tb : ∀ b ∈ ts, hpT ts a o b = some (.tbl #[]) := fun b h => if_pos h
    have sc : hpT ts a o a = o := (if_neg na).trans (if_pos rfl)
    have ot : ∀ b, b ∉ ts → b ≠ a → hpT ts a o b = none := fun b h n => (if_neg h).trans (if_neg n)
    have cases_ : ∀ b u, hpT ts a o b = some u → (b ∈ ts ∧ u = .tbl #[]) ∨ (b = a ∧ o = some oa ∧ u = oa) := fun b u e => by
      by_cases h : b ∈ ts
      · exact .inl ⟨h, (Option.some.inj ((tb b h).symm.trans e)).symm⟩
      · by_cases n : b = a
        · subst n
          rw [sc] at e
          rcases ho with z | z
          · rw [z] at e; cases e
          · exact .inr ⟨rfl, z, (Option.some.inj (z.symm.trans e)).symm⟩
        · rw [ot b h n] at e; cases e
    have ok : HOk P w (hpT ts a o) s₁.heap := fun b u e => by
      rcases cases_ b u e with ⟨h, rfl⟩ | ⟨rfl, _, rfl⟩
      · exact atT b h
      · exact ⟨ha, by rw [List.length_map]; exact hl, vs, _, rv, ha⟩
    have free : ∀ {b : Addr} {ob : Obj}, s₁.heap.get? b = some ob → ob.data ≠ .seq vs.toArray → ob.data ≠ .fields #[] → hpT ts a o b = none := fun {b ob} e d1 d2 => by
      refine ot b (fun h => ?_) fun n => ?_
      · rw [atT b h] at e; cases e; exact d2 rfl
      · subst n; rw [ha] at e; cases e; exact d1 rfl
    have nsOf : ∀ {b : Addr} {m : Str → Option Value}, s₁.heap.Ns b m → (hidT s₁.heap (hpT ts a o)).Ns b m := fun {b m} ⟨ob, es, ep, e, d, z⟩ => ⟨ob, es, ep, hidT_get e (free e (fun y => by rw [d] at y; cases y) fun y => by rw [d] at y; cases y), d, z⟩
    have kb : K.In (hidT s₁.heap (hpT ts a o)) := fun b ob e => hidT_get (kx b ob e) (by
      cases q : hpT ts a o b with
      | none => rfl
      | some u =>
        rcases cases_ b u q with ⟨h, _⟩ | ⟨h, e2, _⟩
        · rw [kT b h] at e; cases e
        · subst h; rw [apart (by rw [e2]; exact nofun)] at e; cases e)
    have md : Mod K mg (hidT s₁.heap (hpT ts a o)) := ⟨kb, nsOf hns, ⟨mb, nsOf hb, hbb⟩, let ⟨mc, h1, h2⟩ := nl; ⟨mc, nsOf h1, h2⟩⟩
    have e0 : Env0 P w K mg (hidT s₁.heap (hpT ts a o)) callerA [] s₁ (hpT ts a o) :=
      { frames := rfl, mod := md, bs := fun b o e => of_hidT e, bsz := Nat.le_of_eq (hidT_size _ _), funs := trivial, frf := fun b z => absurd (show b ∈ ([] : List Addr) from z) (by simp), hok := ok, bare := .of_eq hg }
    have TB : ∀ p ∈ cs, LamX.TabB (hidT s₁.heap (hpT ts a o)) mg p.1 p.2 := fun p hp => by
      refine ⟨?_, ?_, fun z => ?_⟩
      · obtain ⟨oc, us, file, tf, flags, tg, inF, text, tt, e1, r1, r2, rest⟩ := hC p hp
        refine ⟨oc, us, file, tf, flags, tg, inF, text, tt, hidT_get e1 (free e1 (fun z => by rw [r2] at z; cases z) fun z => ?_), r1, r2, rest⟩
        rw [r2] at z
        cases z
        simp at rest
      · obtain ⟨bm, ob, b1, b2, b3, b4, b5, b6⟩ := hbm
        refine ⟨bm, ob, b1, b2, fun q => ?_, fun q => ?_, hidT_get b3 (free b3 (fun z => by rw [b6] at z; cases z) fun z => by rw [b6] at z; cases z), b4, b5, b6⟩
        · obtain ⟨_, _, _, e, d, _⟩ := hns
          rw [q, e] at b3
          cases b3
          rw [d] at b6
          cases b6
        · rw [q, hT p hp] at b3
          cases b3
          cases b6
      · obtain ⟨_, _, _, e, d, _⟩ := hns
        rw [z, hT p hp] at e
        cases e
        cases d
    refine codeAny_mono ((F _ kb (nsOf hns) TB).go callerA [] s₁ _ [.ref a] [.ref a] ⟨[.ref a], []⟩ _ _ (by first | exact rfl | exact trivial) hr e0 (hbind s₁ (.ref a)) (.cons rfl .nil) (hsp _ (fun p hp => tb _ (inT p hp)) sq)) fun r s' h => ?_
    match r, h with
    | .error e, h =>
      obtain ⟨_, _, _, _, _, _, _, _, _, _, _, _, z⟩ := h
      exact z.elim
    | .ok .next, h => exact h.elim
    | .ok .brk, h => exact h.elim
    | .ok .cont, h => exact h.elim
    | .ok (.ret u), ⟨v, H', os, bare, un, ok', rr, z⟩ =>
      have z : v = .bl true := z
      subst z
      obtain rfl : u = Value.bool true := rr
      have keep : ∀ b ob, b ∉ ts → s₁.heap.get? b = some ob → s'.heap.get? b = some ob := fun b ob n e => by
        cases q : hpT ts a o b with
        | none => exact un.keep b ob e q (fun y => nomatch (show b ∈ ([] : List Addr) from y)) (by simp)
        | some u =>
          rcases cases_ b u q with ⟨h, _⟩ | ⟨_, _, rfl⟩
          · exact absurd h n
          · obtain ⟨e1, _⟩ := ok b _ q
            obtain ⟨e2, _⟩ := ok' b _ (un.frzs b _ _ q)
            rw [e] at e1
            cases e1
            exact e2
      have more : ∀ b ∈ ts, ∃ xs : Array Value, s'.heap.get? b = some { cls := .none, data := .fields xs } := fun b h => by
        obtain ⟨xs, z⟩ := un.tbls b #[] (tb b h)
        exact ⟨_, ok' b _ z⟩
      refine ⟨rfl, ⟨fun b ob e => ?_, fun b ob e => ?_⟩, os, bare⟩
      · by_cases h : b ∈ ts
        · obtain ⟨p, hp, ep⟩ := List.mem_map.mp h
          have ep : p.2 = b := ep
          obtain ⟨xs, hx⟩ := more b h
          rw [atT b h] at e
          cases e
          subst ep
          exact .inr (.inl ⟨((hC p hp).tab (hT p hp)).isCodeTable, rfl, #[], xs, rfl, by rw [Array.empty_append]; exact hx⟩)
        · exact .inl (keep b ob h e)
      · by_cases h : b ∈ ts
        · obtain ⟨xs, hx⟩ := more b h
          exact ⟨_, hx⟩
        · exact ⟨ob, keep b ob h e⟩
  have sc : ∀ o, hpT ts a o a = o := fun o => (if_neg na).trans (if_pos rfl)
  cases hk : K.lookup a with
  | some o =>
    have e := kx a o hk
    rw [ha] at e
    cases e
    exact main none (.inl rfl) (.inr ⟨_, vs.toArray, _, hk, rfl, rfl, rfl, by rw [List.size_toArray, lv]; exact hl, by simpa using rv⟩) fun z => absurd rfl z
  | none => exact main (some oa) (.inr rfl) (.inl (.inr ⟨{ cls := .type "list", data := .seq vs.toArray }, sc _⟩)) fun _ => hk
theorem walkGA {l : PySem.W.OpenLaw} {n k : Nat} {q : Program} {loose : List Str} {XP : (Str → Option Value) → Heap → Prop} {YP : World → Heap → Prop} {d : DefRec} {K : Params → PySem.W.Frag} {mf : List Ar → M D} {x : Str} {ys : List Str} (hrec : ∀ y ∈ ys, ((recsOf q).find? fun e => e.name == y).isSome = true)
    (hn : l.most = some n) (hn2 : n ≤ sizeLine) (hdf : d.params.defaults = []) (hr : Room k callerA) (hY : ∀ (w : World) (h : Heap), YP w h → (K w.params).In h)
    (F : ∀ (w : World) (mg : Str → Option Value) (fa : Addr) (h : Heap), (K w.params).In h → h.Ns mainGlobals mg → mg d.name = some (.ref fa) →
      ∃ (fd : FuncData) (cs : List (Addr × Addr)) (T : List (Addr × Str)), (∀ p ∈ cs, ∃ y ∈ ys, PySem.W.tabIn (K w.params) y = some p) ∧ (∀ p ∈ cs, (K w.params).lookup p.2 = none) ∧ (∀ t ∈ T, ∃ p ∈ cs, p.2 = t.1) ∧
        (∀ (s : Shared) (u : Value), BindsTo s fd ⟨[u], []⟩ [(x, u)]) ∧ ∀ base : Heap, (K w.params).In base → base.Ns mainGlobals mg → (∀ p ∈ cs, LamX.TabB base mg p.1 p.2) → FnG l.prog w (K w.params) mg base k fa fd [x] (spD ⟨mg, K w.params, T⟩ mf))
    (hm : ∀ (ns : List Int), ns.length ≤ n → (∀ z ∈ ns, Builtin.Int.intBits z ≤ 1048576) → mf [.v (.scr ns)] none = .ok (.bl true) none) :
    PySem.W.WalkO q loose XP YP l.row.toRowW d [] (fun f vs => PySem.call f vs) := by
  refine Att.attach_callB hn hdf fun w s₀ s₁ mg mb fa o pm cd doc a vs ns g y ho hd hcd hmg hobj hints hlen hbits hg => ?_
  have KX := hY w _ y
  obtain ⟨fd, cs, T, hcs, nT, hT, hb, hF⟩ := F w mg fa _ KX g.T.g hmg
  have tb : ∀ p ∈ cs, PySem.W.CodeHd s₁.heap p.1 p.2 ∧ s₁.heap.get? p.2 = some { cls := .none, data := .fields #[] } := fun p hp => by
    obtain ⟨y, hy, h2⟩ := hcs p hp
    obtain ⟨e, h1⟩ := Option.isSome_iff_exists.mp (hrec y hy)
    exact PySem.W.tab_of (c := p.1) (P := p.2) g.T KX h1 h2
  refine law_callT (sp := spD ⟨mg, K w.params, T⟩ mf) KX g.T.g g.T.b g.T.builtins g.T.nolimit hg (fun p hp => (tb p hp).2) nT (fun p hp => (tb p hp).1) g.T.bmain hobj hints (Nat.le_trans hlen hn2) hr hF hb fun H hH hS => ?_
  obtain ⟨G, p, s⟩ := post_tabs (mg := mg) hT hH hS
  exact ⟨none, G, none, [.v (.scr ns)], p, ⟨.scr s, trivial⟩, (out_eq (hm ns hlen hbits)).mpr fun v H' G' _ r => r.bl_of⟩
end DL
namespace DL
open PySem PySem.Spec PyProof.Rows L2
section
variable {c : Cn} {X : Cx}
instance {x : Str} {n : Int} : Decidable (MulOk x n) := by unfold MulOk; infer_instance
end
end DL
namespace DL
open PySem PySem.Spec PyProof.Rows L2
section
variable {c : Cn} {X : Cx} {F : Fr} {W : WX} {ρ : List Sl} {k : Nat} {α : Type}
/-- what comes of x(lambda: e) -/
def lamF (w : Str) (hs : List (Hd Unit)) (m : M D) : M D := fun P => match m P with
  | .ok _ p => .ok (.str w) p
  | .ex e p => (noEx (pick hs e) >>= doneF) p
  | .no => .no
end
end DL
namespace DL
open PySem PySem.Spec PyProof.Rows L2
/-- a clause, by what it does -/
inductive CN where
  | txt (cv : Value) (m : Str)
  | rep (C : Addr) (i : Nat) (m f : Str)
  | nev (cv : Value) (o : Option Nat)
def CN.cl (K : PySem.W.Frag) : CN → Clau
  | .txt cv m => (cv, none, fun _ _ _ D _ H => D.rt (.str m) H)
  | .rep C i m f => (.ref C, some i, fun a cls d D σ H => cls = .ref C ∧ ∃ ad v, d = some ad ∧ σ[i]? = some (some (.ref a)) ∧ H ad = some (.xd [(f, v)]) ∧ rReprN K v H fun y H2 => rAddD K (.str m) y H2 fun w H3 => D.rt w H3)
  | .nev cv o => (cv, o, fun _ _ _ _ _ _ => False)
def chainN (K : PySem.W.Frag) (Q : VK) : List CN → Value → Option Addr → Hp → Prop
  | [], _, _, _ => False
  | .txt cv m :: r, cls, d, H => ∃ b, PySem.W.exmOne K cls cv = some b ∧ (b = true → Q (.str m) H) ∧ (b = false → chainN K Q r cls d H)
  | .rep C i m f :: r, cls, d, H => ∃ b, PySem.W.exmOne K cls (.ref C) = some b ∧ (b = true → cls = .ref C ∧ ∃ ad v, d = some ad ∧ H ad = some (.xd [(f, v)]) ∧ rReprN K v H fun y H2 => rAddD K (.str m) y H2 Q) ∧ (b = false → chainN K Q r cls d H)
  | .nev cv o :: r, cls, d, H => PySem.W.exmOne K cls cv = some false ∧ chainN K Q r cls d H
theorem chainN_mix {K : PySem.W.Frag} {Q : VK} {D : Ends} (hD : D.rt = Q) : ∀ (l : List CN) (cls : Value) (d : Option Addr) (σ : L2.St) (H : Hp), chainN K Q l cls d H → wMix K (fun _ _ _ _ => False) D (l.map (CN.cl K)) cls d σ H
  | [], _, _, _, _, h => h
  | .txt cv m :: r, cls, d, σ, H, ⟨b, e, y, n⟩ => ⟨b, e, fun z a _ => by show D.rt _ _; rw [hD]; exact y z, fun z => chainN_mix hD r cls d σ H (n z)⟩
  | .rep C i m f :: r, cls, d, σ, H, ⟨b, e, y, n⟩ => ⟨b, e, fun z a _ put => by
      obtain ⟨e1, ad, v, e2, e3, q⟩ := y z
      refine ⟨e1, ad, v, e2, put, e3, ?_⟩
      show rReprN K v H fun y H2 => rAddD K (.str m) y H2 fun w H3 => D.rt w H3
      rw [hD]
      exact q, fun z => chainN_mix hD r cls d σ H (n z)⟩
  | .nev cv o :: r, cls, d, σ, H, ⟨e, h⟩ => ⟨false, e, fun z => (nomatch z), fun _ => chainN_mix hD r cls d σ H h⟩
def repN (m f : Str) : Ex → M (Fl Unit) := fun e => match e.kept with
  | some (g, d) => if g = f then reprN d >>= fun x => addD (.str m) x >>= fun r => Pure.pure (.rt r) else M.no
  | none => M.no
/-- the clauses of a def that is given a lambda -/
inductive HdsN (c : Cn) (sg : Scope) (Ng : List Str) : List ExceptHandler → List CN → List (Hd Unit) → Prop
  | nil : HdsN c sg Ng [] [] []
  | txt {x m : Str} {cv : Value} {is : Str → Option Bool} {j : Nat} {np q1 q2 q3 : Pos} {hds : List ExceptHandler} {l : List CN} {r : List (Hd Unit)} (hge : sg.names.lookup x = some .globalImplicit) (hme : c.mg x = some cv) (hde : (x == ("__debug__" : Str)) = false) (ok : HdOk c is cv) (t : HdsN c sg Ng hds l r) :
      HdsN c sg Ng (.ExceptHandler (some (.Name x np)) none [.Return (some (.Constant (.str m) j q1)) q2] q3 :: hds) (.txt cv m :: l) ((is, fun _ => Pure.pure (.rt (.str m))) :: r)
  | rep {x n m f : Str} {i j : Nat} {C fI : Addr} {B newId initId : String} {bmB : List Value} {is : Str → Option Bool} {np p1 p2 p3 p4 p5 p6 p7 q3 : Pos} {hds : List ExceptHandler} {l : List CN} {r : List (Hd Unit)} (hge : sg.names.lookup x = some .globalImplicit) (T : PySem.KepX.KTxt c.K c.mg x f B newId initId bmB C fI) (hde : (x == ("__debug__" : Str)) = false) (ok : HdOk c is (.ref C)) (only : ∀ y, is y = some true → y = x)
      (hi : Ng[i]? = some n) (hn : sg.names.lookup n = some .local) (hv : Vis sg n) (hr : sg.names.lookup ("repr" : Str) = some .globalImplicit) (mr : c.mg "repr" = none) (hnd : (n == ("__debug__" : Str)) = false) (hnc : (n == ("__classdict__" : Str)) = false) (t : HdsN c sg Ng hds l r) :
      HdsN c sg Ng (.ExceptHandler (some (.Name x np)) (some n) [.Return (some (.BinOp (.Constant (.str m) j p1) .Add (.Call (.Name "repr" p2) [.Attribute (.Name n p3) f p4] [] p5) p6)) p7] q3 :: hds) (.rep C i m f :: l) ((is, repN m f) :: r)
  | nev {x n : Str} {i : Nat} {cv : Value} {is : Str → Option Bool} {h : Ex → M (Fl Unit)} {st : Stmt} {np q3 : Pos} {hds : List ExceptHandler} {l : List CN} {r : List (Hd Unit)} (hge : sg.names.lookup x = some .globalImplicit) (hme : c.mg x = some cv) (hde : (x == ("__debug__" : Str)) = false) (ok : HdOk c is cv) (no : ∀ y, is y ≠ some true)
      (hi : Ng[i]? = some n) (hn : sg.names.lookup n = some .local) (t : HdsN c sg Ng hds l r) :
      HdsN c sg Ng (.ExceptHandler (some (.Name x np)) (some n) [st] q3 :: hds) (.nev cv (some i) :: l) ((is, h) :: r)
section
variable {c : Cn} {X : Cx}
theorem HdsN.hds {sg : Scope} {Ng : List Str} {hds : List ExceptHandler} {l : List CN} {r : List (Hd Unit)} (h : HdsN c sg Ng hds l r) (hK : X.K = c.K) (hm : X.mg = c.mg) (hN : X.N = Ng) (hs : X.env.scope = sg) (gd : X.A.guards = some []) (un : X.A.units + 102 < cLine) (hgl : ∀ y, sg.names.lookup y = some .globalImplicit → Gl X y)
    (hpv : ∀ (a : Addr) (pn : List (Addr × Obj)) (i : Nat) (n : Str) (p : Pos), Ng[i]? = some n → Vis sg n → (n == ("__debug__" : Str)) = false → (n == ("__classdict__" : Str)) = false → PE (X.suite a pn) (.Name n p) (tVar i)) : HdsM X hds (l.map (CN.cl X.K)) := by
  induction h with
  | nil => exact .nil
  | txt hge hme hde ok t ih => exact .cons ⟨hgl _ hge, hde, .inl (by rw [hm]; exact hme)⟩ (fun a oe cls d pn _ _ => pss_one (ps_ret pe_str)) ih
  | @rep x n m f i j C fI B newId initId bmB is np p1 p2 p3 p4 p5 p6 p7 q3 hds l r hge T hde ok only hi hn hv hr mr hnd hnc t ih =>
    refine .named ⟨hgl _ hge, hde, .inl (by rw [hm]; exact T.gC)⟩ (by rw [hN]; exact hi) (by show X.env.scope.names.lookup n = _; rw [hs]; exact hn) (fun a oe cls d pn hz hf => ?_) ih
    have xf : XfC X.K C := by rw [hK]; exact ktxt_xf T
    have no : PySem.W.findIn X.K (.ref C) f = some none := by rw [hK]; exact T.noN
    have fld := pe_xf (X := X) (pn := pn) (pos := p4) xf no hz hf (hpv a _ i n p3 hi hv hnd hnc)
    have call := pe_callB (X := X.suite a ((a, oe) :: pn)) (p := p2) (pos := p5) (cr_reprN (X := X.suite a ((a, oe) :: pn)) gd un) (hgl _ hr) (show X.mg "repr" = none by rw [hm]; exact mr) (by decide +kernel) (pa_cons fld pa_nil) (by decide) (by decide)
    refine pss_by (pss_one (ps_ret (pos := p7) (pe_op (pos := p6) opr_add (pe_str (x := m) (j := j) (pos := p1)) call))) fun D σ H ⟨ec, ad, v, ed, si, ha, q⟩ => ?_
    subst ec ed
    show ∃ u, σ[i]? = some (some u) ∧ _
    refine ⟨.ref a, si, rfl, rfl, ad, [(f, v)], v, rfl, ha, by simp [List.lookup], ?_⟩
    exact ⟨v, rfl, q⟩
  | nev hge hme hde ok no hi hn t ih => exact .named ⟨hgl _ hge, hde, .inl (by rw [hm]; exact hme)⟩ (by rw [hN]; exact hi) (by show X.env.scope.names.lookup _ = _; rw [hs]; exact hn) (fun a oe cls d pn _ _ => ⟨fun pins s σ H D I h => h.elim⟩) ih
theorem HdsN.want {sg : Scope} {Ng : List Str} {hds : List ExceptHandler} {l : List CN} {r : List (Hd Unit)} (h : HdsN c sg Ng hds l r) {F : Fr} {ρ : List Sl} {e : Ex} {cl : Value} {dd : Option Addr} {σ : L2.St} {H G : Hp} {P : Pot} {Q : VK} {EX : Ex → Pot → Prop} (R : Rel c F ρ P σ H G) (x : ExOk c H G e cl dd)
    (q : out (pick r e) P (fun f P' => out (doneF (α := Unit) f) P' (fun d P2 => ∀ v H' G', Ext G G' → Rel c F ρ P2 σ H' G' → c.rep G' v d → Q v H') EX) (fun _ _ => False)) : chainN c.K Q l cl dd H := by
  induction h with
  | nil => exact q.elim
  | @txt y m cv is j np q1 q2 q3 hds l r hge hme hde ok t ih =>
    unfold pick at q
    cases hi : is e.c with
    | none => simp only [hi] at q; exact q.elim
    | some b =>
      have hb : PySem.W.exmOne c.K cl cv = some b := ok.ok _ _ hi _ x.1
      refine ⟨b, hb, fun z => ?_, fun z => ?_⟩
      · subst z
        simp only [hi] at q
        have q := out_noEx q
        exact (show ∀ v H' G', Ext G G' → Rel c F ρ P σ H' G' → c.rep G' v (.str m) → Q v H' from q) (.str m) H G (Ext.refl _) R (.str m)
      · subst z
        simp only [hi] at q
        exact ih q
  | @rep y n m f i j C fI B newId initId bmB is np p1 p2 p3 p4 p5 p6 p7 q3 hds l r hge T hde ok only hi hn hv hr mr hnd hnc t ih =>
    unfold pick at q
    cases hi2 : is e.c with
    | none => simp only [hi2] at q; exact q.elim
    | some b =>
      have hb : PySem.W.exmOne c.K cl (.ref C) = some b := ok.ok _ _ hi2 _ x.1
      refine ⟨b, hb, fun z => ?_, fun z => ?_⟩
      · subst z
        simp only [hi2] at q
        have q := out_noEx q
        have ey := only _ hi2
        obtain ⟨x1, x2⟩ := x
        rw [ey, T.gC] at x1
        have ecl : cl = .ref C := (Option.some.inj x1).symm
        unfold repN at q
        obtain ⟨ec, kept⟩ := e
        cases kept with
        | none => exact q.elim
        | some gd =>
          obtain ⟨g, d⟩ := gd
          obtain ⟨ad, v, e1, e2, rv⟩ := x2
          dsimp only at q
          by_cases z : g = f
          · subst z
            rw [if_pos rfl] at q
            refine ⟨ecl, ad, v, e1, e2, ?_⟩
            have rn := cd_reprN (c := c) F ρ (fun _ _ _ _ => False) P σ H G [v] [d] (fun y H2 => rAddD c.K (.str m) y H2 Q) R (Reps.cons rv Reps.nil) (out_mono (out_bind.mp q) (fun x P1 q1 u H1 G1 e1 R1 r1 => ?_) fun _ _ z => z.elim)
            · obtain ⟨v2, ev, rn⟩ := rn
              cases ev
              exact rn
            refine opd_add (c := c) F ρ (fun _ _ _ _ => False) P1 σ H1 G1 (.str m) u (.str m) x Q R1 (.str m) r1 (out_mono (out_bind.mp q1) (fun r P2 q2 u2 H2 G2 e2 R2 r2 => ?_) fun _ _ z => z.elim)
            exact (show ∀ v H' G', Ext G G' → Rel c F ρ P2 σ H' G' → c.rep G' v r → Q v H' from q2) u2 H2 G2 (e1.trans e2) R2 r2
          · rw [if_neg z] at q
            exact q.elim
      · subst z
        simp only [hi2] at q
        exact ih q
  | @nev y n i cv is h st np q3 hds l r hge hme hde ok no hi hn t ih =>
    unfold pick at q
    cases hi2 : is e.c with
    | none => simp only [hi2] at q; exact q.elim
    | some b =>
      cases b with
      | true => exact absurd hi2 (no _)
      | false =>
        simp only [hi2] at q
        exact ⟨ok.ok _ _ hi2 _ x.1, ih q⟩
end
section
variable {c : Cn} {X : Cx} {F : Fr} {W : WX} {ρ : List Sl} {k : Nat} {α : Type}
/-- the def that gets the lambda: try: a() / its clauses / return w -/
structure LamDefG (c : Cn) (x a w : Str) (hs : List (Hd Unit)) : Prop where
  ex : ∃ (g : Addr) (fd : FuncData) (st : Stmt) (Ng : List Str) (h₀ : ExceptHandler) (hds : List ExceptHandler) (l : List CN) (p1 p2 p3 p8 q1 q2 : Pos) (j : Nat), c.mg x = some (.ref g) ∧ PySem.W.keepIn c.K (.ref g) = true ∧ Fun c.K x x st g fd ∧ defBody st = [.Try [.Expr (.Call (.Name a p1) [] [] p2) p3] (h₀ :: hds) [] [] p8, .Return (some (.Constant (.str w) j q1)) q2] ∧ Binds c.K fd [a] [] ∧
    FnScope Ng [a] (defScope st) ∧ Ng[0]? = some a ∧ Vis (defScope st) a ∧ (∀ f : Addr, (L2.start Ng [V.ref f])[0]? = some (some (V.ref f))) ∧ HdsN c (defScope st) Ng (h₀ :: hds) l hs
def TTfinN (K : PySem.W.Frag) (w : Str) (l : List CN) : (XK → Hp → VK → Prop) → Hp → VK → Prop := fun tl H Q => tl (fun cls d H' => chainN K Q l cls d H') H fun _ H' => Q (.str w) H'
theorem finN_gives {Ng : List Str} {x a q w : Str} {sg : Scope} {g : Addr} {cdg : Value} {h₀ : ExceptHandler} {hds : List ExceptHandler} {l : List CN} {hs : List (Hd Unit)} {p1 p2 p3 p8 q1 q2 : Pos} {j : Nat} (hh : HdsN c sg Ng (h₀ :: hds) l hs) (hK : X.K = c.K) (hm : X.mg = c.mg) (hN : Ng.Nodup) (gd : X.A.guards = some []) (rm : Room (k + 2) X.A)
    (h0 : ∀ f : Addr, (L2.start Ng [V.ref f])[0]? = some (some (V.ref f))) : LamX.GivesTo X Ng x sg g cdg [.Try [.Expr (.Call (.Name a p1) [] [] p2) p3] (h₀ :: hds) [] [] p8, .Return (some (.Constant (.str w) j q1)) q2] a q (TTfinN X.K w l) := by
  intro f c' s H Q tl act hc h
  let Z : Cx := (cxOf C8.CX0 X.prog X.w X.K X.mg X.base Ng x sg g cdg X.A X.stack s H C8.E0).nox
  let ch : XK := fun cls d H' => chainN X.K Q l cls d H'
  have hM : HdsM Z (h₀ :: hds) (l.map (CN.cl Z.K)) := hh.hds (X := Z) hK hm rfl rfl gd (by have := rm.un; show X.A.units + 3 + 102 < cLine; omega) (fun y h => h) fun a pn i n p hi hv hd hcd => pe_var (X := Z.suite a pn) hi hv hd hcd
  let tb : WX → TS := fun W D σ H' => (∀ cls d σ' H'', ch cls d H'' → W cls d σ' H'') ∧ σ[0]? = some (some (.ref f)) ∧ H' c' = some (LamX.CodeO c' q) ∧ tl ch H' fun _ H2 => D.nx σ H2
  have body : ∀ (W : WX) (pn : List (Addr × Obj)) (xe : Value → Shared → Prop), Takes (Z.tr pn xe) W → PassesOwn (model Z.prog Z.w) Z.A Z.env xe → PSs (Z.tr pn xe) [.Expr (.Call (.Name a p1) [] [] p2) p3] (tb W) := fun W pn xe tk _ =>
    ⟨fun pins s' σ H' D I ⟨hW, z1, z2, z3⟩ => (pss_one (ps_expr (pos := p3) (act W pn xe ch p1 p2 tk hW))).run pins s' σ H' D I ⟨z1, z2, z3⟩⟩
  have st := ps_try_mix (X := Z) (tb := tb) (pos := p8) (Wo := fun _ _ _ _ => False) rfl rfl hN LamX.takes0 body hM
  exact ⟨_, pss_cons st (pss_one (ps_ret (pos := q2) (pe_str (j := j) (pos := q1)))), fun cls d σ' H' z => chainN_mix rfl l cls d σ' H' z, h0 f, hc, h⟩
theorem de_lamG {hs : List (Hd Unit)} {m : M D} {x a w : Str} {cc P : Addr} {p lpos pos : Pos} {params : Arguments} {body : Expr} {scope : Scope} (C : Ctx c X (k + 2)) (hg : Gl X x) (Dx : LamDefG c x a w hs)
    (A : LamAt c X.base cc P (X.env.qual ++ "<lambda>")) (hcode : X.env.code = .ref cc) (L : LamX.lamSB X.env.scope scope = true) (hdef : defaultsOf params X.env = ([], []) := by rfl)
    (hbind : ∀ (q : Str) (cl : List (Str × Addr)) (pm cv ctv : Value), bindArgs (PySem.W.kla_fn "<lambda>" q params body scope cl pm cv ctv) ⟨[], []⟩ = pure [] := by intros; rfl)
    (hbody : ∀ (A : Around) (outer : List Env) (s : Shared) (H : Hp) (E : XK) (f c' : Addr) (F0 : Fr), F0.ap = F.ap → BodyX c (LamX.lamCx X A outer s H E scope f c') k (fun cl dd _ H => E cl dd H) → PE (LamX.lamCx X A outer s H E scope f c') body (rdE c F0 (fun cl dd _ H => E cl dd H) (ρ.map unO) m))
    (hdb : (x == ("__debug__" : Str)) = false := by decide) (hda : (a == ("__debug__" : Str)) = false := by decide) (hca : (a == ("__classdict__" : Str)) = false := by decide) :
    PE X (.Call (.Name x p) [.Lambda params body scope lpos] [] pos) (rdE c F W ρ (lamF w hs m)) := by
  obtain ⟨g, fd, st, Ng, h₀, hds, l, p1, p2, p3, p8, q1, q2, j, hm, hk, Fn, hst, hb, Sg, hNg, hva, h0, hh⟩ := Dx.ex
  have tb : LamX.TabB X.base X.mg cc P := by rw [C.mg]; exact A.tb
  obtain ⟨oc, od, kV, doc, pm, an, cdv, ct, osl, rfl, lk, hcd⟩ := Fn.ex
  have t : LamB X k scope body (fun E σ H Q => ∃ F0 : Fr, F0.ap = F.ap ∧ rdE c F0 (fun cl dd _ H => E cl dd H) (ρ.map unO) m σ H Q) := fun A outer s H E f c' hA hr =>
    ⟨fun pins s' σ H' Q I ⟨F0, hF, z⟩ => (hbody A outer s H E f c' F0 hF ⟨⟨C.mg, C.K, hA.trans C.ga, hr⟩, takes_of rfl rfl rfl rfl, passes_of rfl⟩).run pins s' σ H' Q I z⟩
  have call := lam_given (X := X) (T := c.T) (TT := TTfinN X.K w l) (pos := pos) (lpos := lpos) (p := p) hg (by rw [C.mg]; exact hm) (by rw [C.K]; exact hk) (by rw [C.K]; exact lk) (by rw [C.K]; exact hcd) (by rw [C.K]; exact hb) Sg hNg hva
    (by rw [show defBody st = _ from hst]; exact finN_gives hh C.K C.mg Sg.nd C.ga C.rm h0) tb hcode A.on A.one C.rm (LamX.lamS_by L) hdef hbind t hdb hda hca
  refine pe_by call fun σ H Q ⟨P0, G, R, q⟩ => ⟨R.post.tab, fun H1 eN T1 => ?_⟩
  have R1 := R.extN eN T1
  refine ⟨⟨G, H1, F.ap⟩, rfl, P0, G, R1.sub, ?_⟩
  unfold out lamF at q
  unfold out
  cases hmP : m P0 with
  | no => rw [hmP] at q; exact q.elim
  | ok d p =>
    rw [hmP] at q
    exact fun v H' G' e R' r' => (show ∀ v H' G', Ext G G' → Rel c F ρ p σ H' G' → c.rep G' v (.str w) → Q v H' from q) (.str w) H' G' e (R1.after R'.post) (.str w)
  | ex x p =>
    rw [hmP] at q
    dsimp only at q
    have q : out (noEx (pick hs x) >>= doneF) p (fun d P' => ∀ v H' G', Ext G G' → Rel c F ρ P' σ H' G' → c.rep G' v d → Q v H') (exW c F W P0 G σ) := q
    have q2 := out_noEx (out_bind.mp q)
    intro cl dd H' G' ρ' e R' k'
    rw [C.K]
    refine hh.want (R1.after R'.post) k' (out_mono q2 (fun f P' z => out_mono z (fun d P2 z2 v H2 G2 e2 R2 r2 => z2 v H2 G2 (e.trans e2) R2 r2) fun _ _ z => z) fun _ _ z => z)
end
end DL
namespace DL
open PySem PySem.Spec PyProof.Rows L2
end DL
namespace PySem.W
open PySem PySem.Calls PyProof.Rows
end PySem.W
namespace DL
open PySem PySem.Spec PyProof.Rows L2
end DL
namespace DL
open PySem PySem.Spec PyProof.Rows L2
end DL
namespace PySem
namespace HandSPX
end HandSPX
end PySem
namespace L2
open PySem PySem.Spec PyProof.Rows
end L2
namespace L2
open PySem PySem.Spec PyProof.Rows
/-- a comprehension's block that has begun: ce its names, fp its iterator's objects -/
structure Began (X : Cx) (pins : List (Addr × Obj)) (σ : St) (s0 : Shared) (H0 : Hp) (ce : Env) (fp : List Addr) (tn : Nat → Heap → Prop) (J : It) (it : Addr) (tg : Expr) : Prop where
  inv : Inv X pins σ H0 s0
  fps : ∀ b ∈ fp, FpOk X pins H0 b
  turn : Turn X.prog X.w X.K tg J fp it tn
  stk : X.stack = X.env :: X.outer
  own : X.env.frame = some X.env.locals
  frm : ce.frame = X.env.frame
  loc : ce.locals = s0.heap.objs.size
section
variable {X : Cx} {pins : List (Addr × Obj)} {σ ω : St} {s0 s : Shared} {H0 H : Hp} {scope : Scope} {ce : Env} {fp : List Addr} {tn : Nat → Heap → Prop} {J : It} {it : Addr} {tg : Expr} {W : WX}
/-- between two turns -/
def Betw (X : Cx) (s0 : Shared) (H0 : Hp) (scope : Scope) (ce : Env) (fp : List Addr) (tn : Nat → Heap → Prop) (ω : St) (Wm : Nat → Nat → Hp → Prop) (n : Nat) (s : Shared) : Prop :=
  ∃ (i : Nat) (H : Hp), Inv (X.blk s0 H0 scope ce fp) [] ω H s ∧ tn i s.heap ∧ (∀ b ∈ fp, H b = none) ∧ Wm i n H
theorem blk_fp (I : Inv (X.blk s0 H0 scope ce fp) [] ω H s) (n : ∀ b ∈ fp, H b = none) : ∀ b ∈ fp, FpOk (X.blk s0 H0 scope ce fp) [] H b := fun b hb =>
  ⟨n b hb, (I.ok.exf b hb).1, I.ok.exfs b hb, .inl hb, fun x c e => (I.ok.exf b hb).2 x c e, fun p hp => nomatch (show p ∈ ([] : List (Addr × Obj)) from hp)⟩
/-- back in the def -/
theorem Began.home (B : Began X pins σ s0 H0 ce fp tn J it tg) (I : Inv (X.blk s0 H0 scope ce fp) [] ω H s) : Inv X pins σ H s ∧ (∃ m, s.heap.Ns ce.locals m) ∧ FpOk X pins H ce.locals := by
  have free : H ce.locals = none := I.free
  obtain ⟨m, hm, _⟩ := I.loc
  exact ⟨B.inv.call' (ch := fp) I.os I.base I.hok I.bare fun b hb => let ⟨_, a, _, c, d, e⟩ := B.fps b hb; ⟨c, a, d, e⟩, ⟨m, hm⟩, B.inv.fpOk (Nat.le_of_eq B.loc.symm) free⟩
/-- a turn is over -/
theorem Began.over (B : Began X pins σ s0 H0 ce fp tn J it tg) {ω' : St} {h7 : Heap} {i m : Nat} {Wm : Nat → Nat → Hp → Prop} (I : Inv (X.blk s0 H0 scope ce fp) ([] ++ pinsAt fp h7) ω' H s) (hl : ω.length = ω'.length) (hk : ∀ (j : Nat) v, ω[j]? = some (some v) → ω'[j]? = some (some v))
    (ht : tn (i + 1) h7) (w : Wm (i + 1) m H) : Betw X s0 H0 scope ce fp tn ω Wm m s := by
  have at_ : ∀ b ∈ fp, ∀ o, h7.get? b = some o → s.heap.get? b = some o ∧ H b = none := fun b hb o e => let z := I.pin (b, o) (List.mem_append_right _ (List.mem_append_right _ (mem_pinsAt hb e))); ⟨z.1, z.2.1⟩
  exact ⟨i + 1, H, (I.unpinned (pins := [])).weak hl hk, B.turn.keep _ _ _ ht fun b hb o e => (at_ b hb o e).1, fun b hb => let ⟨o, e, _⟩ := B.turn.obj _ _ ht b hb; (at_ b hb o e).2, w⟩
end
end L2
namespace DL
open PySem PySem.Spec PyProof.Rows L2
end DL
namespace DL
open PySem PySem.Spec PyProof.Rows L2
end DL
namespace DL
open PySem PySem.Spec PyProof.Rows L2 GenW
/-- its call's generator: it sleeps at its beginning; whoever wakes it, where nothing of repr is under way, gets an exception -/
def Unb (P : Program) (w : World) (k : Nat) (fr : List Env) (H : Hp) (s : Shared) (E : XK) (u : Value) (z : Shared) : Prop :=
  ∃ (a : Addr) (g : Nat) (code : Code), u = .ref a ∧ a < z.heap.objs.size ∧ z.heap.IsGen a g ∧ z.gens[g]? = some (.fresh code) ∧ z.os = s.os ∧ AllBare z.gens ∧ z.heap.NoLimit ∧
    ∀ (A : Around) (Y : Protocol) (R : GenEnd) (n : Nat) (t : Shared), GA A → Room k A → A.frames = some fr → (∀ b o, z.heap.get? b = some o → t.heap.get? b = some o) → t.os = s.os → AllBare t.gens →
      (∀ m t0 e y, L2.CX P w fr H s E e y → y.heap.IsGen a g → R m t0 (.error e) y) → Seg (model P w) A R Y n t code ((model P w).den code) [] t
structure FnZ (P : Program) (w : World) (K : PySem.W.Frag) (mg : Str → Option Value) (base : Heap) (k : Nat) (f : Addr) (fd : FuncData) (ps : List Str) (sp : Sp) : Prop where
  ln : ∀ vs H Q E, sp vs H Q E → vs.length = ps.length
  go : ∀ (A : Around) (fr : List Env) (s : Shared) (H : Hp) (us : List Value) (vs : List V) (args : Args) (E : XK), Room k A → Env0 P w K mg base A fr s H → BindsTo s fd args (ps.zip us) → Vals vs us → sp vs H (fun _ _ => False) E →
    codeAny (model P w) A (.call (.ref f) args) (fun r z => ∃ u, r = .ok (.ret u) ∧ Unb P w k fr H s E u z) s
end DL
namespace DL
open PySem PySem.Spec PyProof.Rows L2 GenW
section
variable {P : Program} {w : World} {K : PySem.W.Frag} {mg : Str → Option Value} {base : Heap} {c : Cn}
theorem FnZ.mono {j k : Nat} {f : Addr} {fd : FuncData} {ps : List Str} {sp : Sp} (h : FnZ P w K mg base j f fd ps sp) (l : j ≤ k) : FnZ P w K mg base k f fd ps sp := by
  refine ⟨h.ln, fun A fr s H us vs args E r e0 hb rv hs => codeAny_mono (h.go A fr s H us vs args E (r.mono l) e0 hb rv hs) fun r z ⟨u, e, a, g, code, h1, h2, h3, h4, h5, h6, h7, wake⟩ => ⟨u, e, a, g, code, h1, h2, h3, h4, h5, h6, h7, fun B Y R n t ga rm => wake B Y R n t ga (rm.mono l)⟩⟩
end
end DL
namespace DL
open PySem PySem.Spec PyProof.Rows L2 GenW
end DL
namespace DL
open PySem PySem.Spec PyProof.Rows L2
end DL
namespace L2
open PySem PySem.Spec PyProof.Rows
end L2
namespace L2
open PySem PySem.Spec PyProof.Rows
end L2
namespace DL
open PySem PySem.Spec PyProof.Rows L2
end DL
namespace DL
open PySem PySem.Spec PyProof.Rows L2 GenW
end DL
namespace DL
open PySem PySem.Spec PyProof.Rows L2 GenW
end DL
namespace DL
open PySem PySem.Spec PyProof.Rows L2
section
variable {c : Cn} {X : Cx} {F : Fr} {W : WX} {ρ : List Sl} {tg : Expr} {k : Nat}
def plnD : D → Bool
  | .non => true
  | .bl _ => true
  | .int _ => true
  | .str _ => true
  | _ => false
theorem flat_rep {G G' : Hp} {v : V} {d : D} (h : plnD d = true) (r : c.rep G v d) : c.rep G' v d := by
  cases d with
  | non => cases r; exact .non
  | bl b => cases r; exact .bl b
  | int z => cases r; exact .int z
  | str x => cases r; exact .str x
  | _ => exact absurd h Bool.false_ne_true
theorem own_lst {P : Pot} {σ : L2.St} {H G : Hp} {i : Nat} {ds : List D} (R : Rel c F ρ P σ H G) (hi : ρ[i]? = some (.o (.l ds))) : ∃ a vs, σ[i]? = some (some (V.ref a)) ∧ H a = some (.lst vs) ∧ c.reps G vs ds ∧ G a = none := by
  have hl : i < σ.length := by rw [R.len]; exact (List.getElem?_eq_some_iff.mp hi).1
  obtain ⟨a, e, ⟨⟨o, ho, hk⟩, g, _, _⟩⟩ := R.sl i _ _ hi (List.getElem?_eq_getElem hl)
  cases o <;> first | exact hk.elim | skip
  rename_i vs
  exact ⟨a, vs, by rw [List.getElem?_eq_getElem hl, e], ho, hk, g⟩
end
end DL
namespace DL
open PySem PySem.Spec PyProof.Rows L2 GenW
end DL
namespace DL
open PySem PySem.Spec PyProof.Rows L2
end DL
namespace PySem.SeqAt
open AutoSeq1 (wpAny_loadPart')
open MeetsSeq
end PySem.SeqAt
namespace DL
open PySem PySem.Spec PyProof.Rows L2
end DL
namespace DL
open PySem PySem.Spec PyProof.Rows L2
section
variable {c : Cn} {F : Fr} {W : WX} {ρ : List Sl}
theorem lc_rdN {wi : TI} {g : TG} {tt : TT} {vs : List Nat} {mi : M (List D)} {t : List Sl → D → Option (List Sl)} {mt : D → M Bool} {me : D → M D} (hw : ∀ σ H R, rdI c F W ρ mi σ H R → wi σ H R) (tg : Tgt c g t vs)
    (hno : ∀ ρ d, t ρ d = none → mt d = M.no) (htt : TestOk c tt (t (wipeS (ρ.map unO) vs)) mt) {σ : L2.St} {H : Hp} {Q : VK} (q : rdN c F W ρ (mi >>= fun ds => noEx (compF mt me ds) >>= mkN) σ H Q) :
    tLc wi g tt (fun σ H Q => ∃ F d ρ', t (wipeS (ρ.map unO) vs) d = some ρ' ∧ rdE c F W0 ρ' (me d) σ H Q) vs σ H Q := by
  obtain ⟨P, G, R, q⟩ := q
  refine hw _ _ _ ⟨P, G, R, out_mono (out_bind.mp q) (fun ds P1 q1 J H1 G1 e1 R1 go D hD => ?_) fun _ _ z => z⟩
  have ow := R1.own_at hD
  have h0 := R1.post.h0 hD
  have na := R1.ne_ap hD
  refine ⟨fun i m Hx => m = ds.length - i ∧ i ≤ ds.length ∧ ∃ (acc : List V) (ad : List DL.D) (P' : Pot) (G' : Hp), Ext G1 G' ∧ Rel c F ρ P' σ Hx G' ∧ Hx D = some (.lst acc) ∧ G' D = none ∧ c.reps G' acc ad ∧
    out (noEx (compF mt me (ds.drop i)) >>= fun ys => mkN (ad ++ ys)) P' (fun d P' => ∀ p vs H' G'', Ext G' G'' → Rel c F ρ P' σ H' G'' → H' p = some (.lst vs) → G'' p = none → Fre F.H0 p → some p ≠ F.ap → (∀ (i : Nat) k, ρ[i]? = some (.o k) → σ[i]? ≠ some (some (V.ref p))) → c.reps G'' vs d → Q (.ref p) H') (exW c F W P' G' σ),
    ⟨ds.length, by simp, Nat.zero_le _, [], [], P1, G1, Ext.refl _, R1.newM hD, upd_same, R1.post.g_none hD, Reps.nil, out_mono q1 (fun d p z pp vv H' G'' e => z pp vv H' G'' (e1.trans e)) fun _ _ z => exW_le e1 z⟩, ?_⟩
  rintro i m Hx ⟨rfl, hi, acc, ad, P2, G2, e2, R2, hx, gx, ra, q2⟩
  by_cases hl : i < ds.length
  · have hd : ds[i]? = some ds[i] := List.getElem?_eq_getElem hl
    have S2 := R2.sub
    obtain ⟨g1, g2⟩ := (go _ _ i P2 σ Hx G2 e2 S2).2 _ hd
    rw [List.drop_eq_getElem_cons hl] at q2
    obtain ⟨ys, p, hy, q3⟩ := out_noEx_bind q2
    refine .inr ⟨g1, fun H' => ∃ (acc : List V) (ad : List DL.D) (P' : Pot) (G' : Hp), Ext G1 G' ∧ Rel c F ρ P' σ H' G' ∧ H' D = some (.lst acc) ∧ G' D = none ∧ c.reps G' acc ad ∧
      out (noEx (compF mt me (ds.drop (i + 1))) >>= fun ys => mkN (ad ++ ys)) P' (fun d P' => ∀ p vs H' G'', Ext G' G'' → Rel c F ρ P' σ H' G'' → H' p = some (.lst vs) → G'' p = none → Fre F.H0 p → some p ≠ F.ap → (∀ (i : Nat) k, ρ[i]? = some (.o k) → σ[i]? ≠ some (some (V.ref p))) → c.reps G'' vs d → Q (.ref p) H') (exW c F W P' G' σ), fun H' z => ⟨ds.length - (i + 1), by omega, rfl, hl, z⟩, fun x H3 y => ?_⟩
    obtain ⟨G3, e3, R3, r3⟩ := g2 x H3 y
    -- what one turn gives
    have hy' : (noEx (mt ds[i]) >>= fun x => if x = true then noEx (me ds[i]) >>= fun y => noEx (compF mt me (ds.drop (i + 1))) >>= fun ys => Pure.pure (y :: ys) else compF mt me (ds.drop (i + 1))) P2 = .ok ys p := hy
    have o1 : out (noEx (mt ds[i]) >>= fun x => if x = true then noEx (me ds[i]) >>= fun y => noEx (compF mt me (ds.drop (i + 1))) >>= fun ys => Pure.pure (y :: ys) else compF mt me (ds.drop (i + 1))) P2 (fun z zp => z = ys ∧ zp = p) (fun _ _ => False) := (out_eq hy').mpr ⟨rfl, rfl⟩
    obtain ⟨b, P3, hb, o2⟩ := out_noEx_bind o1
    cases ht : t (wipeS (ρ.map unO) vs) ds[i] with
    | none =>
      rw [hno _ _ ht] at hb
      cases hb
    | some ρ' =>
      refine tg _ _ ρ' P2 _ H3 G3 x ds[i] _ (R3.wipe vs) r3 ht fun σ4 R4 w4 => ⟨w4.trans (wipe_idem vs), ?_⟩
      refine htt _ _ ρ' P2 σ4 H3 G3 _ R4 ht ((out_eq hb).mpr fun H5 G5 e5 R5 => ?_)
      cases b with
      | false =>
        have hz : compF mt me (ds.drop (i + 1)) P3 = .ok ys p := by
          have : out (compF mt me (ds.drop (i + 1))) P3 (fun z zp => z = ys ∧ zp = p) (fun _ _ => False) := o2
          unfold out at this
          cases k : compF mt me (ds.drop (i + 1)) P3 with
          | ok a b => rw [k] at this; rw [this.1, this.2]
          | ex _ _ => rw [k] at this; exact this.elim
          | no => rw [k] at this; exact this.elim
        have A5 := R2.after R5.post
        have e25 : Ext G2 G5 := R5.post.ext
        have g5 : G5 D = none := by
          cases z : G5 D with
          | none => rfl
          | some u =>
            rcases R5.post.new D (by rw [z]; simp) with h | h | ⟨_, h⟩
            · exact absurd gx h
            · exact (Fre.no (H := Hx) h hx (fun _ q => nomatch q)).elim
            · have y := R5.post.le _ _ h
              rw [R5.post.fr D _ hx na nt_lst] at y
              cases y
        exact ⟨acc, ad, P3, G5, e2.trans e25, A5, R5.post.fr D _ hx na nt_lst, g5, ra.mono e25, out_bind.mpr ((out_eq (noEx_ok hz)).mpr (out_mono q3 (fun d p z pp vv H' G'' e => z pp vv H' G'' (e25.trans e)) fun _ _ z => exW_le e25 z))⟩
      | true =>
        have o3 := out_noEx_bind (show out (noEx (me ds[i]) >>= fun y => noEx (compF mt me (ds.drop (i + 1))) >>= fun ys => Pure.pure (y :: ys)) P3 (fun z zp => z = ys ∧ zp = p) (fun _ _ => False) from o2)
        obtain ⟨yd, P4, hyd, o4⟩ := o3
        obtain ⟨ys', p', hys, o5⟩ := out_noEx_bind o4
        have o5' : yd :: ys' = ys ∧ p' = p := o5
        obtain ⟨e6, e7⟩ := o5'
        subst e6 e7
        refine ⟨_, ds[i], ρ', ht, P3, G5, R5, (out_eq hyd).mpr fun v H6 G6 e6 R6 r6 => ?_⟩
        have A6 := R2.after R6.post
        have e26 : Ext G2 G6 := R6.post.ext
        have g6 : G6 D = none := by
          cases z : G6 D with
          | none => rfl
          | some u =>
            rcases R6.post.new D (by rw [z]; simp) with h | h | ⟨_, h⟩
            · exact absurd gx h
            · exact (Fre.no (H := Hx) h hx (fun _ q => nomatch q)).elim
            · have y := R6.post.le _ _ h
              rw [R6.post.fr D _ hx na nt_lst] at y
              cases y
        have hx6 := R6.post.fr D _ hx na nt_lst
        have lenq : ad.length + (ys'.length + 1) ≤ sizeLine := by
          unfold mkN at q3
          by_cases z : (ad ++ yd :: ys').length ≤ sizeLine
          · simpa using z
          · rw [if_neg z] at q3; exact q3.elim
        refine ⟨acc, hx6, by rw [ra.1]; omega, acc ++ [v], ad ++ [yd], P4, G6, e2.trans e26, A6.at g6 h0 na (fun u e => by rw [hx6] at e; cases e; exact ⟨nofun, nofun⟩) ow, upd_same, g6, (ra.mono e26).append (Reps.cons r6 Reps.nil), ?_⟩
        refine out_bind.mpr ((out_eq (noEx_ok hys)).mpr ?_)
        have ea : ad ++ [yd] ++ ys' = ad ++ yd :: ys' := by simp
        rw [ea]
        exact out_mono q3 (fun d p z pp vv H' G'' e => z pp vv H' G'' (e26.trans e)) fun _ _ z => exW_le e26 z
  · have ei : i = ds.length := by omega
    subst ei
    refine .inl ⟨(go _ _ _ P2 σ Hx G2 e2 R2.sub).1 rfl, ?_⟩
    rw [List.drop_eq_nil_of_le (Nat.le_refl _)] at q2
    obtain ⟨ys, p, hy, q3⟩ := out_noEx_bind q2
    cases hy
    rw [List.append_nil] at q3
    unfold mkN at q3
    by_cases z : ad.length ≤ sizeLine
    · rw [if_pos z] at q3
      exact q3 D acc Hx G2 (Ext.refl _) R2 hx gx h0 na ow ra
    · rw [if_neg z] at q3; exact q3.elim
end
section
variable {c : Cn} {F : Fr} {W : WX} {ρ : List Sl} {X : Cx}
theorem ds_ownLc {i : Nat} {y : Str} {py : Pos} {elt tg iter : Expr} {ifs : List Expr} {scope : Scope} {own : List (Str × Nat)} {pos spos : Pos} {g : TG} {tt : TT} {mi : M (List D)} {t : List Sl → D → Option (List Sl)} {mt : D → M Bool} {me : D → M D} (hc : X.calm = true) (hN : X.N.Nodup)
    (hy : X.N[i]? = some y) (hyl : X.env.scope.names.lookup y = some .local) (hsw : swapsWith (.ListComp elt [⟨tg, iter, ifs, 0⟩] scope pos) (some (.Name y py)) spos.line X.env = pure true) (ok : BlkOk X.N X.env.scope scope own)
    (hi : PI X tg iter (rdI c F W ρ mi)) (tgt : Tgt c g t (own.map (·.2))) (hno : ∀ ρ d, t ρ d = none → mt d = M.no) (htt : TestOk c tt (t (wipeS (ρ.map unO) (own.map (·.2)))) mt)
    (hg : ∀ (s : Shared) (H : Hp) (C : Addr) (cl : List (Str × Addr)) (fp : List Addr), PG (X.blk s H scope (compEnvC scope cl C X.env) fp) tg g) (ht : ∀ (s : Shared) (H : Hp) (C : Addr) (cl : List (Str × Addr)) (fp : List Addr), PTs (X.blk s H scope (compEnvC scope cl C X.env) fp) ifs tt)
    (he : ∀ (s : Shared) (H : Hp) (C : Addr) (cl : List (Str × Addr)) (fp : List Addr), PE (X.blk s H scope (compEnvC scope cl C X.env) fp) elt (rdElt c (t (wipeS (ρ.map unO) (own.map (·.2)))) me)) (hs : ∀ x, foldedSetIterable iter X.env x = pure x := by intro _; rfl) :
    PS X (.Assign [.Name y py] (.ListComp elt [⟨tg, iter, ifs, 0⟩] scope pos) spos) (rdS c F W ρ (fun ds => ρ.set i (.o (.l ds))) ((mi >>= fun ds => noEx (compF mt me ds) >>= mkN) >>= fun d => Pure.pure (.nx d))) := by
  refine ps_by (ps_setLc hc hN hy hyl hsw hi ok hg ht he hs) fun B σ H ⟨P, G, R, q⟩ => ?_
  refine lc_rdN (W := W) (fun _ _ _ z => z) tgt hno htt ⟨P, G, R, out_mono (out_bind.mp q) (fun ds P1 q1 p vs H1 G1 e1 R1 h1 h2 h3 h4 h5 rs => ?_) fun _ _ z => exS.w z⟩
  have q' : ∀ σ' H' G', Ext G G' → Rel c F (ρ.set i (.o (.l ds))) P1 σ' H' G' → B.nx σ' H' := q1
  exact q' _ _ G1 e1 (R1.ownHere h1 h2 h3 h4 h5 rs)
end
end DL
namespace L2
open PySem PySem.Spec PyProof.Rows
/-- an entry of a dict with tuple keys is put by a comprehension -/
theorem d_dictSetT {X : Cx} {pins : List (Addr × Obj)} {σ : St} {H : Hp} {s : Shared} {E : Value → Shared → Prop} {D b : Addr} {kvs : List (List Key × V)} {k : List Key} {v : V} {r : Value} {Q : Unit → Shared → Prop} (hu : X.A.units + 1 < cLine) (I : Inv X pins σ H s) (hD : H D = some (.dT kvs))
    (hb : H b = some (.tup (k.map kV))) (hz : kvs.length < sizeLine) (rv : RelV v r) (h : ∀ s', Inv X pins σ (upd H D (.dT (putK kvs k v))) s' → Q () s') : wpAny (model X.prog X.w) X.A (dictSet D (.ref b) r) Q E s := by
  obtain ⟨z, no, xs, rel, at_⟩ := dt_of I.hok hD
  have lx : xs.length ≤ sizeLine := Nat.le_trans (Nat.le_of_eq (Paired.length rel).symm) z
  have ly : (putK kvs k v).length ≤ sizeLine := Nat.le_trans (length_putK kvs k v) hz
  refine wpAny_dictSet_heap (hsz := lx) (knd := tupleKind (mixKind X.prog X.w)) (by show X.A.units < cLine; omega) (key_of I.hok hb) at_ fun h' at' sb => h _ ?_
  obtain ⟨o, es, ep, e1, e2, e3, e4, _, e5⟩ := at'
  have keep : ∀ c ys, H c = some (.tup ys) → upd H D (.dT (putK kvs k v)) c = some (.tup ys) := fun c ys ec => by
    rw [upd_ne (fun z => by rw [z, hD] at ec; cases ec)]
    exact ec
  exact d_write I (by rw [hD]; exact True.intro) sb ⟨o, e1⟩ ⟨ly, no, _, (rel.put k hb rv).keeps keep, o, es, ep, e1, e2, e3, e4, e5⟩
section
variable {X : Cx}
/-- as tDc, the keys tuples -/
def tDcT (wi : TI) (g : TG) (tt : TT) (tk tv : TE) (vs : List Nat) : TE := fun σ H Q => wi σ H fun J H1 => ∀ D, H1 D = none → ∃ W : Nat → Nat → Hp → Prop, (∃ m, W 0 m (upd H1 D (.dT []))) ∧ ∀ i m H, W i m H →
  (J.stop i H ∧ Q (.ref D) H) ∨ (J.go i H ∧ ∃ Nx : Hp → Prop, (∀ H', Nx H' → ∃ m', m' < m ∧ W (i + 1) m' H') ∧ ∀ x H', J.yld i H x H' → g x (wipe σ vs) H' fun σ2 H2 => wipe σ2 vs = wipe σ vs ∧ tt σ2 H2 fun b H3 =>
    if b = true then tk σ2 H3 fun y H4 => tv σ2 H4 fun z H5 => ∃ kvs k a, y = .ref a ∧ H5 a = some (.tup (k.map kV)) ∧ H5 D = some (.dT kvs) ∧ kvs.length < sizeLine ∧ Nx (upd H5 D (.dT (putK kvs k z))) else Nx H3)
theorem dc_coreT {pins : List (Addr × Obj)} {s : Shared} {σ : St} {H : Hp} {Q : VK} {kx vx tg iter : Expr} {ifs : List Expr} {scope : Scope} {own : List (Str × Nat)} {pos pos' : Pos} {wi : TI} {g : TG} {tt : TT} {tk tv : TE} {use : Option (Value → Sem Unit)} {Qf : Value → Shared → Prop}
    (hu : X.A.units + 1 < cLine) (stk : X.stack = X.env :: X.outer) (frm : X.env.frame = some X.env.locals) (calm : X.calm = true) (nd : X.N.Nodup) (I : Inv X pins σ H s) (hi : PI X tg iter wi) (ok : BlkOk X.N X.env.scope scope own)
    (hg : ∀ (s : Shared) (H : Hp) (C : Addr) (cl : List (Str × Addr)) (fp : List Addr), PG (X.blk s H scope (compEnvC scope cl C X.env) fp) tg g) (ht : ∀ (s : Shared) (H : Hp) (C : Addr) (cl : List (Str × Addr)) (fp : List Addr), PTs (X.blk s H scope (compEnvC scope cl C X.env) fp) ifs tt)
    (hk : ∀ (s : Shared) (H : Hp) (C : Addr) (cl : List (Str × Addr)) (fp : List Addr), PE (X.blk s H scope (compEnvC scope cl C X.env) fp) kx tk)
    (he : ∀ (s : Shared) (H : Hp) (C : Addr) (cl : List (Str × Addr)) (fp : List Addr), PE (X.blk s H scope (compEnvC scope cl C X.env) fp) vx tv) (hs : ∀ x, foldedSetIterable iter X.env x = pure x)
    (h : tDcT wi g tt tk tv (own.map (·.2)) σ H Q)
    (fin : ∀ D C s' m H', Inv X pins σ H' s' → Q (.ref D) H' → s'.heap.Ns C m → FpOk X pins H' C → compPost (model X.prog X.w) X.A X.xe use Qf (.ref D) C (.ok .next) s') :
    wpAny (model X.prog X.w) X.A (comprehension (.DictComp kx vx [⟨tg, iter, ifs, 0⟩] scope pos) scope X.env pos' newDict false (eval iter X.env) use) Qf X.xe s := by
  have clo : closureFor scope X.env = pure (cloFrom X.env.cells scope.names []) := closure_ok fun y hy e => (ok.free y hy e).elim (fun k => I.ok.has _ (.inl k)) fun k => I.ok.has _ (.inr k)
  refine wpAny_comprehension_free (use := use) rfl hs clo ok.kind (fun y hy e => by rw [ok.uniq y hy, e]) (thn (hi.run pins s σ H _ I h) fun xv s1 h1 => thn h1 fun itv s2 h2 => ?_)
  obtain ⟨it, fp, tn, J, H2, rfl, I2, T, t2, f2, rd⟩ := h2
  refine wpAny_newObj_type (newEnv_comp ?_)
  -- the dict D, the block's names behind it
  have Dn : H2 s2.heap.objs.size = none := I2.hok.fresh (Nat.le_refl _)
  obtain ⟨Wm, ⟨m0, w0⟩, step⟩ := rd s2.heap.objs.size Dn
  generalize hs0 : ({ s2 with heap := s2.heap.push { cls := .type "dict", data := .dict #[] } } : Shared) = s0
  generalize hH0 : upd H2 s2.heap.objs.size (.dT []) = H0 at w0
  have heap0 : s0.heap = s2.heap.push { cls := .type "dict", data := .dict #[] } := by rw [← hs0]
  have kept0 : ∀ b o, s2.heap.get? b = some o → s0.heap.get? b = some o := fun b o e => by rw [heap0]; exact Heap.get?_push_of_some _ e
  have I0 : Inv X pins σ H0 s0 := by
    rw [← hs0, ← hH0]
    exact I2.laid (t' := s2.toks) (fun b o e => Heap.get?_push_of_some _ e) (Nat.le_refl _) (dt_empty s2.heap I2.big)
  have young : ∀ b ∈ fp, b < s2.heap.objs.size := fun b hb => let ⟨o, e, _⟩ := T.obj _ _ t2 b hb; Heap.lt_size e
  have f0 : ∀ b ∈ fp, FpOk X pins H0 b ∧ b < s0.heap.objs.size := fun b hb => by
    have lt := young b hb
    obtain ⟨z1, z⟩ := f2 b hb
    exact ⟨⟨by rw [← hH0, upd_ne (Nat.ne_of_lt lt)]; exact z1, z⟩, by rw [heap0, Heap.size_push]; exact Nat.lt_succ_of_lt lt⟩
  have start := block_start I0 ok nd f0
  have pg := hg s0 H0 s0.heap.objs.size (cellsFrom (s0.heap.objs.size + 1) scope.names (cloFrom X.env.cells scope.names [])) fp
  have pt := ht s0 H0 s0.heap.objs.size (cellsFrom (s0.heap.objs.size + 1) scope.names (cloFrom X.env.cells scope.names [])) fp
  have pk := hk s0 H0 s0.heap.objs.size (cellsFrom (s0.heap.objs.size + 1) scope.names (cloFrom X.env.cells scope.names [])) fp
  have pe := he s0 H0 s0.heap.objs.size (cellsFrom (s0.heap.objs.size + 1) scope.names (cloFrom X.env.cells scope.names [])) fp
  show codeAny _ _ (.compStart (.DictComp kx vx [⟨tg, iter, ifs, 0⟩] scope pos) 0 (.ref it) (.ref s2.heap.objs.size) (compEnvC scope (cellsFrom (s0.heap.objs.size + 1) scope.names (cloFrom X.env.cells scope.names [])) s0.heap.objs.size X.env))
    (compPost (model X.prog X.w) X.A X.xe use Qf (.ref s2.heap.objs.size) s0.heap.objs.size) { s0 with heap := pushCells (s0.heap.push { cls := .type "dict", data := .dict #[] }) scope.names }
  generalize hce : compEnvC scope (cellsFrom (s0.heap.objs.size + 1) scope.names (cloFrom X.env.cells scope.names [])) s0.heap.objs.size X.env = ce at start pg pt pk pe ⊢
  have B : Began X pins σ s0 H0 ce fp tn J it tg := ⟨I0, fun b hb => (f0 b hb).1, T, stk, frm, by rw [← hce]; rfl, by rw [← hce]; rfl⟩
  generalize hs4 : ({ s0 with heap := pushCells (s0.heap.push { cls := .type "dict", data := .dict #[] }) scope.names } : Shared) = s4 at start ⊢
  have t4 : tn 0 s4.heap := T.keep _ _ _ t2 fun b _ o e => by rw [← hs4]; exact pushCells_keeps _ _ _ _ (Heap.get?_push_of_some _ (kept0 b o e))
  generalize s2.heap.objs.size = D at *
  have loop : codeAny (model X.prog X.w) X.A (.compLoop (.DictComp kx vx [⟨tg, iter, ifs, 0⟩] scope pos) 0 (.ref it) (.ref D) ce) (compPost (model X.prog X.w) X.A X.xe use Qf (.ref D) s0.heap.objs.size) s4 := by
    refine compLoop_anyD (Betw X s0 H0 scope ce fp tn (wipe σ (own.map (·.2))) Wm) (fun n s5 ⟨i, H5, I5, t5, n5, w5⟩ => ?_) m0 ⟨0, H0, start, t4, fun b hb => (f0 b hb).1.1, w0⟩
    have fpB := blk_fp I5 n5
    rcases step i n H5 w5 with ⟨stop, q⟩ | ⟨go, Nx, hNx, tail⟩
    · refine thnF (T.done (X.blk s0 H0 scope ce fp) rfl rfl rfl calm i [] s5 _ H5 (fun _ _ => False) I5 fpB t5 stop) fun r s6 ⟨hr, I6⟩ => ?_
      subst hr
      obtain ⟨I7, ⟨m, hm⟩, y⟩ := B.home I6
      rw [B.loc] at hm y
      exact fin D _ s6 m H5 I7 q hm y
    · refine thnF (T.item (X.blk s0 H0 scope ce fp) rfl rfl rfl calm i [] s5 _ H5 (fun _ _ => False) I5 fpB t5 go) fun r s6 ⟨u, hr, h6⟩ => ?_
      subst hr
      refine thnF h6 fun _ s7 ⟨x, H7, I7, r7, y7, t7, n7⟩ => ?_
      refine thnF (pg.run _ s7 _ H7 x u _ (I7.pinned (blk_fp I7 n7) (T.obj _ _ t7)) r7 (tail x H7 y7)) fun _ s8 ⟨σ8, H8, I8, e8, q8⟩ => ?_
      refine thnF (pt.run _ s8 σ8 H8 _ I8 q8) fun b s9 ⟨H9, I9, q9⟩ => ?_
      have next : ∀ {s' : Shared} {H' : Hp}, Inv (X.blk s0 H0 scope ce fp) ([] ++ pinsAt fp s7.heap) σ8 H' s' → Nx H' → ∃ m, m < n ∧ Betw X s0 H0 scope ce fp tn (wipe σ (own.map (·.2))) Wm m s' := fun {s' H'} I' nx => by
        obtain ⟨m', lt, w'⟩ := hNx H' nx
        exact ⟨m', lt, B.over I' (by rw [← e8, wipe_length]) (fun j v e => by rw [← e8] at e; exact (wipe_some e).1) t7 w'⟩
      cases b with
      | false => exact next I9 (show Nx H9 from q9)
      | true =>
        refine thnF (pk.run _ s9 σ8 H9 _ I9 q9) fun kv s10 ⟨yk, H10, I10, r10, q10⟩ => ?_
        refine thnF (pe.run _ s10 σ8 H10 _ I10 q10) fun vv s11 ⟨yv, H11, I11, r11, kvs, k, a, ek, ha, hD, hz, nx⟩ => ?_
        subst ek
        cases (show kv = Value.ref a from r10)
        exact d_dictSetT (X := X.blk s0 H0 scope ce fp) hu I11 hD ha hz r11 fun s12 I12 => next I12 nx
  exact codeAny_compStart_dict loop (T.self X.A 0 _ _ _ t4 loop)
/-- name = {k: v for ..}, on one line -/
theorem ps_setDcT {i : Nat} {y : Str} {py : Pos} {kx vx tg iter : Expr} {ifs : List Expr} {scope : Scope} {own : List (Str × Nat)} {pos spos : Pos} {wi : TI} {g : TG} {tt : TT} {tk tv : TE} (hu : X.A.units + 1 < cLine) (stk : X.stack = X.env :: X.outer) (frm : X.env.frame = some X.env.locals) (calm : X.calm = true) (hN : X.N.Nodup) (hy : X.N[i]? = some y) (hyl : X.env.scope.names.lookup y = some .local)
    (hsw : swapsWith (.DictComp kx vx [⟨tg, iter, ifs, 0⟩] scope pos) (some (.Name y py)) spos.line X.env = pure true) (hi : PI X tg iter wi) (ok : BlkOk X.N X.env.scope scope own)
    (hg : ∀ (s : Shared) (H : Hp) (C : Addr) (cl : List (Str × Addr)) (fp : List Addr), PG (X.blk s H scope (compEnvC scope cl C X.env) fp) tg g) (ht : ∀ (s : Shared) (H : Hp) (C : Addr) (cl : List (Str × Addr)) (fp : List Addr), PTs (X.blk s H scope (compEnvC scope cl C X.env) fp) ifs tt)
    (hk : ∀ (s : Shared) (H : Hp) (C : Addr) (cl : List (Str × Addr)) (fp : List Addr), PE (X.blk s H scope (compEnvC scope cl C X.env) fp) kx tk)
    (he : ∀ (s : Shared) (H : Hp) (C : Addr) (cl : List (Str × Addr)) (fp : List Addr), PE (X.blk s H scope (compEnvC scope cl C X.env) fp) vx tv) (hs : ∀ x, foldedSetIterable iter X.env x = pure x := by intro _; rfl) :
    PS X (.Assign [.Name y py] (.DictComp kx vx [⟨tg, iter, ifs, 0⟩] scope pos) spos) (tAsg (tDcT wi g tt tk tv (own.map (·.2))) (gName i)) := by
  refine ⟨fun pins s σ H D I h => ?_⟩
  rw [exec_Assign_Name_used _ _ _ _ hsw]
  refine wpAny_bind (wpAny_standAt (wpAny_bind ?_))
  show wpAny _ X.A (do let _ ← comprehension (.DictComp kx vx [⟨tg, iter, ifs, 0⟩] scope pos) scope X.env (firstIterPos [⟨tg, iter, ifs, 0⟩] pos) newDict false (eval iter X.env) (some (assign (.Name y py) X.env))) _ _ s
  have h : tDcT wi g tt tk tv (own.map (·.2)) σ H (fun x H1 => gName i x σ H1 D.nx) := h
  refine wpAny_bind (thn (dc_coreT (Qf := fun _ s' => SP X pins D .next s') hu stk frm calm hN I hi ok hg ht hk he hs h fun L C s' m H' I' q hn f => ?_) fun _ s' hq => wpAny_pure (wpAny_pure hq))
  show wpAny _ _ (assign (.Name y py) X.env (.ref L)) _ _ _
  refine wpAny_assign_Name (store_ok2 (v := V.ref L) I' hN hy (.inl hyl) rfl (fun s2 I2 ⟨a, sb, ha⟩ => ?_) (.inr hyl))
  obtain ⟨f0, f1, f2, f3, f4, f5⟩ := f
  have haC : C ≠ a := by
    rcases ha with z | z
    · rw [z]; exact f1
    · exact fun e => f4 y a z e.symm
  refine ⟨m, hn.sameBut sb haC, fun h3 sb3 => ?_⟩
  exact ⟨_, H', I2.turned (t' := s2.toks) (fun b o hb e => (sb3.2 b hb).trans e) f0 f1 f3 f4 f5, q⟩
end
end L2
namespace DL
open PySem PySem.Spec PyProof.Rows L2
section
variable {X : Cx}
/-- the walk, by the heap alone -/
def tEnO (te : TE) : TI := fun σ H R => te σ H fun v H1 => tNil σ H1 fun xs H2 => ∃ w, v :: xs = [w] ∧ ∃ a vs, w = .ref a ∧ SqL X.K H2 a vs ∧ R (ItE X.K (.l a)) H2
theorem pi_enumO {e : Expr} {te : TE} {p pos tpos : Pos} {elts : List Expr} {kk : Nat} (hg : Gl X "enumerate") (hm : X.mg "enumerate" = none) (ha : PE X e te)
    (hs : starEach [e] X.env = [(false, eval e X.env)] := by rfl) :
    PI X (.Tuple elts kk tpos) (.Call (.Name "enumerate" p) [e] [] pos) (tEnO (X := X) te) := by
  refine ⟨fun pins s σ H R I q => ?_⟩
  have step := (pa_cons ha pa_nil hs).run pos pins s σ H (fun vs H1 => ∃ v, vs = [v] ∧ ∃ a xs, v = .ref a ∧ SqL X.K H1 a xs ∧ R (ItE X.K (.l a)) H1) I q
  refine Call_ (ld_blt I hg hm boot_enumerate (PyProof.Rows.callWith_type1 (thn step fun us s1 ⟨vs, H1, I1, rv, v, hv, a, xs, ev, sq, go⟩ => ?_) hs rfl))
  subst hv ev
  cases rv with
  | cons w1 rr =>
    cases rr
    obtain rfl : _ = Value.ref a := w1
    obtain ⟨its, rv, pl, _⟩ := I1.list sq
    have lt : a < s1.heap.objs.size := pl.lt
    have mA : s1.heap.objs.size + 1 ∉ (SV.l a).fp s1.heap.objs.size := fun hb => by
      rcases List.mem_cons.mp hb with z | z
      · exact absurd z (Nat.succ_ne_self _)
      · rw [List.mem_singleton] at z
        have lt' := lt
        rw [← z] at lt'
        exact absurd lt' (by show ¬ (s1.heap.objs.size + 1 < s1.heap.objs.size); omega)
    refine enum_begins1 (begins_list a its.toArray) pl.isList fun h' he g1 hsz hk => wpAny_pyIter_enum he ?_
    have I2 : Inv X pins σ H1 { s1 with heap := h' } := I1.kept (t' := s1.toks) hk
    refine ⟨s1.heap.objs.size + 1, [s1.heap.objs.size + 1, s1.heap.objs.size], _, ItE X.K (.l a), H1, rfl, I2, turn_E (fun b h => by rcases h with h | h <;> cases h; exact Nat.ne_of_lt lt) (Nat.succ_ne_self _) mA, ⟨⟨.none, he⟩, ⟨_, g1, rfl, rfl⟩⟩, fun b hb => ?_, go⟩
    have e' : b = s1.heap.objs.size + 1 ∨ b = s1.heap.objs.size := by simpa using hb
    have hle : s1.heap.objs.size ≤ b := by
      rcases e' with z | z
      · rw [z]; exact Nat.le_add_right _ _
      · rw [z]; exact Nat.le_refl _
    exact I1.fpOk hle (I1.hok.fresh hle)
end
/-- {d: i for i, d in enumerate(ds)}, the keys tuples that are tracked -/
def putsT : Nat → List D → List (List Key × D) → Option (List (List Key × D))
  | _, [], acc => some acc
  | n, .tuk ks :: r, acc => putsT (n + 1) r (putX acc ks (.int (n : Nat)))
  | _, _, _ => none
def putsM (ds : List D) : M (List (List Key × D)) := match putsT 0 ds [] with
  | some kvs => if ds.length < sizeLine then Pure.pure kvs else M.no
  | none => M.no
theorem putsT_cons {n : Nat} {d : D} {r : List D} {acc kvs : List (List Key × D)} (h : putsT n (d :: r) acc = some kvs) : ∃ ks, d = .tuk ks ∧ putsT (n + 1) r (putX acc ks (.int (n : Nat))) = some kvs := by
  cases d with
  | tuk ks => exact ⟨ks, rfl, h⟩
  | _ => cases h
theorem wipe2 {σ : L2.St} {i1 i2 : Nat} {x y : Option V} : wipe (((wipe σ [i1, i2]).set i1 x).set i2 y) [i1, i2] = wipe σ [i1, i2] := by
  show ((((((σ.set i2 none).set i1 none).set i1 x).set i2 y).set i2 none).set i1 none) = (σ.set i2 none).set i1 none
  refine List.ext_getElem? fun k => ?_
  simp only [List.getElem?_set, List.length_set]
  by_cases h1 : i1 = k <;> by_cases h2 : i2 = k <;> simp [h1, h2]
section
variable {X : Cx} {c : Cn} {F : Fr} {W : WX} {ρ : List Sl}
/-- y = {p: q for q, p in enumerate(x)}, x a list of one's own, of tuples that are tracked: a dict of one's own -/
theorem ds_ownDcE {i j i1 i2 : Nat} {ds : List D} {y : Str} {py p pos2 tpos : Pos} {kk : Nat} {elts : List Expr} {xe kx vx : Expr} {scope : Scope} {own : List (Str × Nat)} {pos spos : Pos} (hu : X.A.units + 1 < cLine) (hK : X.K = c.K) (stk : X.stack = X.env :: X.outer) (frm : X.env.frame = some X.env.locals) (calm : X.calm = true) (hN : X.N.Nodup) (hy : X.N[i]? = some y) (hyl : X.env.scope.names.lookup y = some .local)
    (hsw : swapsWith (.DictComp kx vx [⟨.Tuple elts kk tpos, .Call (.Name "enumerate" p) [xe] [] pos2, [], 0⟩] scope pos) (some (.Name y py)) spos.line X.env = pure true) (hj : ρ[j]? = some (.o (.l ds))) (hx : PE X xe (tVar j)) (hge : Gl X "enumerate") (hme : X.mg "enumerate" = none) (ok : BlkOk X.N X.env.scope scope own) (hw : own.map (·.2) = [i1, i2]) (h12 : i1 ≠ i2) (l1 : i1 < ρ.length) (l2 : i2 < ρ.length)
    (hg : ∀ (s : Shared) (H : Hp) (C : Addr) (cl : List (Str × Addr)) (fp : List Addr), PG (X.blk s H scope (compEnvC scope cl C X.env) fp) (.Tuple elts kk tpos) (gTup X.K 2 (gCons (gName i1) (gCons (gName i2) gNil))))
    (hk : ∀ (s : Shared) (H : Hp) (C : Addr) (cl : List (Str × Addr)) (fp : List Addr), PE (X.blk s H scope (compEnvC scope cl C X.env) fp) kx (tVar i2))
    (he : ∀ (s : Shared) (H : Hp) (C : Addr) (cl : List (Str × Addr)) (fp : List Addr), PE (X.blk s H scope (compEnvC scope cl C X.env) fp) vx (tVar i1)) (hse : starEach [xe] X.env = [(false, eval xe X.env)] := by rfl) (hs : ∀ x, foldedSetIterable (.Call (.Name "enumerate" p) [xe] [] pos2) X.env x = pure x := by intro _; rfl) :
    PS X (.Assign [.Name y py] (.DictComp kx vx [⟨.Tuple elts kk tpos, .Call (.Name "enumerate" p) [xe] [] pos2, [], 0⟩] scope pos) spos) (rdS c F W ρ (fun kvs => ρ.set i (.o (.dt kvs))) (putsM ds >>= fun kvs => Pure.pure (.nx kvs))) := by
  refine ps_by (ps_setDcT hu stk frm calm hN hy hyl hsw (pi_enumO hge hme hx hse) ok hg (fun _ _ _ _ _ => pts_nil) hk he hs) fun B σ H ⟨P, G, R, q⟩ => ?_
  rw [hw]
  obtain ⟨a, vs, es, ha, rs, ga⟩ := own_lst R hj
  have ls : σ.length = ρ.length := R.len
  obtain ⟨kvs, hp, hz, q⟩ : ∃ kvs, putsT 0 ds [] = some kvs ∧ ds.length < sizeLine ∧ ∀ σ' H' G', Ext G G' → Rel c F (ρ.set i (.o (.dt kvs))) P σ' H' G' → B.nx σ' H' := by
    unfold putsM at q
    cases e : putsT 0 ds [] with
    | none => rw [e] at q; exact (out_bind.mp q).elim
    | some kvs =>
      rw [e] at q
      by_cases z : ds.length < sizeLine
      · dsimp only at q
        rw [if_pos z] at q
        exact ⟨kvs, rfl, z, q⟩
      · dsimp only at q
        rw [if_neg z] at q
        exact (out_bind.mp q).elim
  refine ⟨.ref a, es, .ref a, rfl, a, vs, rfl, .inl (.of ha), fun D hD => ?_⟩
  have hlen : vs.length = ds.length := rs.1
  let Wm : Nat → Hp → Prop := fun n Hx => n ≤ ds.length ∧ (∀ b o, H b = some o → Hx b = some o) ∧ ∃ kv dv, Hx D = some (.dT kv) ∧ RepX c G kv dv ∧ kv.length ≤ n ∧ putsT n (ds.drop n) dv = some kvs
  refine ⟨fun n m Hx => m = ds.length - n ∧ Wm n Hx, ⟨ds.length, rfl, Nat.zero_le _, fun b o e => by rw [upd_ne (fun z => by rw [z, hD] at e; cases e)]; exact e, [], [], upd_same, ⟨rfl, Reps.nil⟩, Nat.le_refl _, hp⟩, ?_⟩
  rintro n m Hx ⟨rfl, hn, keep, kv, dv, hk, rk, lk, pk⟩
  have ha' := keep _ _ ha
  by_cases hl : n < ds.length
  · obtain ⟨v, hv⟩ : ∃ v, vs[n]? = some v := ⟨vs[n], List.getElem?_eq_getElem (by omega)⟩
    have hd : ds[n]? = some ds[n] := List.getElem?_eq_getElem hl
    rw [List.drop_eq_getElem_cons hl] at pk
    obtain ⟨ks, ek, pk⟩ := putsT_cons pk
    have rv : c.rep G v (.tuk ks) := by
      have := rs.2 n v ds[n] hv hd
      rw [ek] at this
      exact this
    refine .inr ⟨⟨vs.length, v, ⟨vs, .inl (.of ha'), rfl⟩, ⟨vs, .inl (.of ha'), hv⟩, by omega⟩, Wm (n + 1), fun H' z => ⟨ds.length - (n + 1), by omega, rfl, z⟩, fun x H' yl => ?_⟩
    obtain ⟨T, v', rfl, hT, rfl, uq⟩ := yl
    obtain rfl := uq v ⟨vs, .inl (.of ha'), hv⟩
    cases rv with
    | @tuk b _ hb =>
      have hb' : Hx b = some (.tup (ks.map kV)) := keep _ _ (R.post.le _ _ hb)
      have bT : b ≠ T := fun z => by rw [z, hT] at hb'; cases hb'
      have DT : D ≠ T := fun z => by rw [z, hT] at hk; cases hk
      refine ⟨T, _, rfl, SqT.of upd_same, rfl, _, _, rfl, _, _, rfl, rfl, wipe2, ?_⟩
      have lw : (wipe σ [i1, i2]).length = ρ.length := by rw [wipe_length, ls]
      have g2 : (((wipe σ [i1, i2]).set i1 (some (.int (n : Nat)))).set i2 (some (V.ref b)))[i2]? = some (some (V.ref b)) := by
        rw [List.getElem?_set_self (by rw [List.length_set, lw]; exact l2)]
      have g1 : (((wipe σ [i1, i2]).set i1 (some (.int (n : Nat)))).set i2 (some (V.ref b)))[i1]? = some (some (V.int (n : Nat))) := by
        rw [List.getElem?_set_ne (Ne.symm h12), List.getElem?_set_self (by rw [lw]; exact l1)]
      refine ⟨_, g2, _, g1, kv, ks, b, rfl, (upd_ne bT).trans hb', (upd_ne DT).trans hk, by omega, by omega, fun b' o e => ?_, _, _, upd_same, RepX.put (.int _) rk, Nat.le_trans (length_putK kv ks (.int (n : Nat))) (by omega), pk⟩
      have n1 : b' ≠ D := fun z => by rw [z, hD] at e; cases e
      have n2 : b' ≠ T := fun z => by have := keep _ _ e; rw [z, hT] at this; cases this
      rw [upd_ne n1, upd_ne n2]
      exact keep _ _ e
  · have en : n = ds.length := by omega
    subst en
    refine .inl ⟨⟨vs, .inl (.of ha'), hlen.symm⟩, ?_⟩
    rw [List.drop_eq_nil_of_le (Nat.le_refl _)] at pk
    cases pk
    show B.nx (σ.set i (some (.ref D))) Hx
    let H2 : Hp := fun b => if b = D then none else Hx b
    have e2 : Hx = upd H2 D (.dT kv) := by
      funext b
      by_cases z : b = D
      · subst z; rw [upd_same, hk]
      · rw [upd_ne z]; exact (if_neg z).symm
    have R2 : Rel c F ρ P σ H2 G := R.grow fun b o e => by
      have n1 : b ≠ D := fun z => by rw [z, hD] at e; cases e
      exact (if_neg n1).trans (keep _ _ e)
    rw [e2]
    exact q _ _ G (Ext.refl _) (R2.ownX (k := .dt kvs) (if_pos rfl) rk)
end
end DL
namespace DL
open PySem PySem.Spec PyProof.Rows L2
def tupN (ρ : List Sl) (i a b : Nat) : D → Option (List Sl)
  | .tup [x, .tup [y, z]] => some (((ρ.set i (.v x)).set a (.v y)).set b (.v z))
  | _ => none
def unN {β : Type} (k : D → D → D → M β) : D → M β
  | .tup [x, .tup [y, z]] => k x y z
  | _ => M.no
theorem tupNS {ρ ρ' : List Sl} {i a b : Nat} {d : D} (h : tupN ρ i a b d = some ρ') : ∃ x y z, d = .tup [x, .tup [y, z]] ∧ ρ' = ((ρ.set i (.v x)).set a (.v y)).set b (.v z) := by
  unfold tupN at h
  split at h
  · cases h; exact ⟨_, _, _, rfl, rfl⟩
  · cases h
theorem unN_no {β : Type} {k : D → D → D → M β} {ρ : List Sl} {i a b : Nat} {d : D} (h : tupN ρ i a b d = none) : unN k d = M.no := by
  unfold tupN at h
  unfold unN
  split at h
  · cases h
  · rfl
section
variable {c : Cn}
theorem tgt_tupN {i a b : Nat} {vs : List Nat} {K : PySem.W.Frag} (hK : K = c.K) (hi : i ∈ vs) (ha : a ∈ vs) (hb : b ∈ vs) : Tgt c (gTup K 2 (gCons (gName i) (gCons (gTup K 2 (gNames [a, b])) gNil))) (fun ρ d => tupN ρ i a b d) vs := by
  intro F ρ ρ' P σ H G v d Q R r e q
  obtain ⟨x, y, z, rfl, rfl⟩ := tupNS e
  cases r with
  | @tup p us _ hs hl hr =>
    rw [← hK] at hs
    match us, hl, hr, hs with
    | [u1, u2], hl, hr, hs =>
      have r1 := hr 0 u1 x rfl rfl
      have r2 := hr 1 u2 (.tup [y, z]) rfl rfl
      refine ⟨_, _, rfl, Evl.ex_t R.post.le hs, rfl, u1, [u2], rfl, u2, [], rfl, ?_⟩
      exact tgt_tup (is := [a, b]) hK (fun k hk => by simp at hk; rcases hk with rfl | rfl; exact ha; exact hb) F _ _ P _ H G u2 _ (fun σ' H' => gNil [] σ' H' Q) (R.set r1) r2 rfl fun σ' R' w => ⟨rfl, q σ' R' (w.trans (wipe_set hi))⟩
end
end DL
namespace DL
open PySem PySem.Spec PyProof.Rows L2
section
variable {c : Cn} {F : Fr} {W : WX} {ρ : List Sl} {X : Cx}
theorem de_getT {i : Nat} {ds : List (List Key × D)} {x : Str} {p pos : Pos} {ke : Expr} {mk : M D} (hu : X.A.units + 1 < cLine) (hi : ρ[i]? = some (.o (.dt ds))) (hx : PE X (.Name x p) (tVar i)) (hk : PE X ke (rdE c F W ρ mk)) (hs : NoSl ke := by intro _ _; rfl) :
    PE X (.Subscript (.Name x p) ke pos) (rdE c F W ρ (mk >>= fun y => keyT y >>= fun k => M.some (getX ds k))) := by
  refine pe_by (pe_dget hu hx hk hs) fun σ H Q ⟨P, G, R, q⟩ => ?_
  obtain ⟨a, kvs, ea, -⟩ := own_dt R hi
  refine ⟨.ref a, ea, P, G, R, out_mono (out_bind.mp q) (fun y P1 q1 w H1 G1 e1 R1 r1 => ?_) fun _ _ z => z⟩
  obtain ⟨k, rfl, q2⟩ := keyT_out (out_bind.mp q1)
  obtain ⟨d, hd, q3⟩ := out_some.mp q2
  obtain ⟨a', kvs1, ea', h1, rk, -⟩ := own_dt R1 hi
  rw [ea] at ea'
  cases ea'
  obtain ⟨v, hv, rv⟩ := RepX.get rk hd
  cases r1 with
  | @tuk b _ hb =>
    exact ⟨a, v, rfl, .inr ⟨kvs1, k, b, .of h1, rfl, R1.post.le _ _ hb, hv.symm⟩, q3 v H1 G1 e1 R1 rv⟩
/-- a list of tuples that are tracked as a list of tuples -/
def untukL : D → D
  | .lst xs => .lst (xs.map untuk)
  | d => d
theorem Rep.untukL {G : Hp} {v : V} {d : D} (r : c.rep G v d) : c.rep G v (DL.untukL d) := by
  cases d with
  | lst xs =>
    cases r with
    | lst h l r =>
      have rr := Reps.untuk (c := c) (show c.reps G _ xs from ⟨l, r⟩)
      exact .lst h rr.1 rr.2
  | _ => exact r
theorem de_untukL {e : Expr} {m : M D} (h : PE X e (rdE c F W ρ m)) : PE X e (rdE c F W ρ (m >>= fun d => Pure.pure (untukL d))) := pe_by h fun σ H Q ⟨P, G, R, q⟩ =>
  ⟨P, G, R, out_mono (out_bind.mp q) (fun d P1 q1 v H1 G1 e1 R1 r1 => (show ∀ v H' G', Ext G G' → Rel c F ρ P1 σ H' G' → c.rep G' v (untukL d) → Q v H' from q1) v H1 G1 e1 R1 (Rep.untukL r1)) fun _ _ z => z⟩
end
end DL
namespace DL
open PySem PySem.Spec PyProof.Rows L2
instance : LawfulMonad M := LawfulMonad.mk' M (fun x => by funext P; show M.bind x M.pure P = x P; unfold M.bind M.pure; cases x P <;> rfl) (fun x f => rfl) (fun x f g => by
  funext P
  show M.bind (M.bind x f) g P = M.bind x (fun a => M.bind (f a) g) P
  unfold M.bind
  cases x P <;> rfl)
section
variable {α β γ : Type}
theorem pb (a : α) (k : α → M β) : (Pure.pure a >>= k) = k a := Eq.trans rfl rfl
theorem asc (m : M α) (f : α → M β) (g : β → M γ) : (m >>= f >>= g) = (m >>= fun x => f x >>= g) := bind_assoc m f g
theorem thB (m : M γ) (f : γ → M (Fl α)) (k : α → M (Fl β)) : thenR (m >>= f) k = (m >>= fun x => thenR (f x) k) := bind_assoc m f _
theorem thN (a : α) (k : α → M (Fl β)) : thenR (Pure.pure (.nx a)) k = k a := Eq.trans rfl rfl
theorem thR (d : D) (k : α → M (Fl β)) : thenR (Pure.pure (.rt d)) k = Pure.pure (.rt d) := Eq.trans rfl rfl
theorem thX (e : Ex) (k : α → M (Fl β)) : thenR (M.raise e) k = M.raise e := Eq.trans rfl rfl
theorem xb (e : Ex) (k : α → M β) : (M.raise e >>= k) = M.raise e := Eq.trans rfl rfl
theorem nb (k : α → M β) : (M.no >>= k) = M.no := Eq.trans rfl rfl
theorem dR (d : D) : doneF (α := α) (.rt d) = Pure.pure d := Eq.trans rfl rfl
theorem dN (a : α) : doneF (.nx a) = Pure.pure .non := Eq.trans rfl rfl
theorem bB (b : Bool) : boolD (.bl b) = Pure.pure b := Eq.trans rfl rfl
theorem v0 : vals [] = Pure.pure [] := Eq.trans rfl rfl
theorem v1 (d : D) (as : List Ar) : vals (.v d :: as) = (vals as >>= fun ds => Pure.pure (d :: ds)) := Eq.trans rfl rfl
theorem f1e (f : D → M D) (d : D) : f1 f [d] = f d := Eq.trans rfl rfl
theorem f2e (f : D → D → M D) (d e : D) : f2 f [d, e] = f d e := Eq.trans rfl rfl
theorem ntn : (!true) = false := Eq.trans rfl rfl
theorem ntf : (!false) = true := Eq.trans rfl rfl
theorem ittr (a b : M α) : (if true = true then a else b) = a := if_pos rfl
theorem itfa (a b : M α) : (if false = true then a else b) = b := if_neg (fun h => nomatch h)
theorem itT (a b : M α) : (if True then a else b) = a := if_pos True.intro
theorem itF (a b : M α) : (if False then a else b) = b := if_neg id
theorem sB (a : α) : M.some (some a) = Pure.pure a := Eq.trans rfl rfl
theorem isi_is (T : String) {d : D} {n : String} (h : tyN d = some n) : isiD T d = Pure.pure (.bl (isB n T)) := by
  have go : isiM (fun n => some (isB n T)) (fun _ => none) d = Pure.pure (.bl (isB n T)) := by
    cases d <;> first | (cases h; done) | (unfold isiM; simp only [h]; exact Eq.trans rfl rfl)
  exact go
theorem noE (a : α) : noEx (Pure.pure a : M α) = Pure.pure a := by funext P; exact Eq.trans rfl rfl
theorem comp_pure {t : D → M Bool} {e : D → M D} (p : D → Bool) (f : D → D) : ∀ ds : List D, (∀ d ∈ ds, t d = Pure.pure (p d)) → (∀ d ∈ ds, p d = true → e d = Pure.pure (f d)) → compF t e ds = Pure.pure ((ds.filter p).map f)
  | [], _, _ => Eq.trans rfl rfl
  | d :: ds, ht, he => by
    have ih := comp_pure p f ds (fun x hx => ht x (List.mem_cons_of_mem _ hx)) fun x hx => he x (List.mem_cons_of_mem _ hx)
    unfold compF
    rw [ht d List.mem_cons_self, noE, pb]
    cases q : p d with
    | true =>
      rw [ittr, he d List.mem_cons_self q, noE, pb, ih, noE, pb, List.filter_cons_of_pos q, List.map_cons]
    | false =>
      rw [itfa, ih, List.filter_cons_of_neg (by rw [q]; exact Bool.false_ne_true)]
/-- without a test -/
theorem comp_all {e : D → M D} (f : D → D) (ds : List D) (he : ∀ d ∈ ds, e d = Pure.pure (f d)) : compF (fun _ => Pure.pure true) e ds = Pure.pure (ds.map f) := by
  have h := comp_pure (t := fun _ => Pure.pure true) (fun _ => true) f ds (fun _ _ => rfl) fun d hd _ => he d hd
  rwa [List.filter_eq_self.mpr fun _ _ => rfl] at h
theorem mkLe {ds : List D} (h : ds.length ≤ sizeLine) : mkL ds = Pure.pure (.lst ds) := if_pos h
theorem mkTe {ds : List D} (h : ds.length ≤ sizeLine) : mkT ds = Pure.pure (.tup ds) := if_pos h
def wp (m : M α) (P : Pot) (Q : α → Pot → Prop) : Prop := ∃ a P', m P = .ok a P' ∧ Q a P'
theorem wp_pure {a : α} {P : Pot} {Q : α → Pot → Prop} (h : Q a P) : wp (Pure.pure a : M α) P Q := ⟨a, P, rfl, h⟩
theorem wp_bind {m : M α} {k : α → M β} {P : Pot} {Q : β → Pot → Prop} (h : wp m P fun a P' => wp (k a) P' Q) : wp (m >>= k) P Q := by
  obtain ⟨a, P', e, b, P2, e2, q⟩ := h
  exact ⟨b, P2, (bind_ok e).trans e2, q⟩
theorem wp_mono {m : M α} {P : Pot} {Q Q' : α → Pot → Prop} (h : wp m P Q) (k : ∀ a p, Q a p → Q' a p) : wp m P Q' := by
  obtain ⟨a, P', e, q⟩ := h
  exact ⟨a, P', e, k _ _ q⟩
theorem wp_then {m : M (Fl α)} {k : α → M (Fl β)} {P : Pot} {Q : Fl β → Pot → Prop} (h : wp m P fun f P' => ∃ a, f = .nx a ∧ wp (k a) P' Q) : wp (thenR m k) P Q := by
  refine wp_bind (wp_mono h fun f p ⟨a, e, q⟩ => ?_)
  subst e
  exact q
theorem wp_noEx {m : M α} {P : Pot} {Q : α → Pot → Prop} (h : wp m P Q) : wp (noEx m) P Q := by
  obtain ⟨a, P', e, q⟩ := h
  exact ⟨a, P', noEx_ok e, q⟩
theorem wp_for {b : α → D → M (Fl α)} (I : Nat → α → Pot → Prop) (N : Nat) : ∀ (ds : List D) (i : Nat) (a : α) (P : Pot), i + ds.length ≤ N → I i a P → (∀ i a P, i < N → ∀ d ∈ ds, I i a P → wp (b a d) P fun f P' => ∃ a', f = .nx a' ∧ I (i + 1) a' P') →
    wp (forF b ds a) P fun f P' => ∃ a', f = .nx a' ∧ I (i + ds.length) a' P'
  | [], i, a, P, _, h, _ => wp_pure ⟨a, rfl, h⟩
  | d :: ds, i, a, P, hn, h, hb => by
    rw [List.length_cons] at hn
    unfold forF
    refine wp_bind (wp_mono (hb i a P (by omega) d List.mem_cons_self h) fun f P' ⟨a', e, q⟩ => ?_)
    subst e
    refine wp_mono (wp_for I N ds (i + 1) a' P' (by omega) q fun i a P hi x hx => hb i a P hi x (List.mem_cons_of_mem _ hx)) fun f p ⟨a2, e2, q2⟩ => ⟨a2, e2, ?_⟩
    rw [List.length_cons, show i + (ds.length + 1) = i + 1 + ds.length by omega]
    exact q2
end
end DL
namespace KX
open PySem PySem.Spec PyProof.Rows L2 DL
def topS (i : Nat) : Stmt := PySem.Challenge.pw_loneguess_k65_errors_of_first_ways.main.body.getD i (.Pass ⟨0, 0, 0, 0⟩)
def mthS (i j : Nat) : Stmt := (match topS i with | .ClassDef (body := b) .. => b | _ => []).getD j (.Pass ⟨0, 0, 0, 0⟩)
noncomputable section
variable {P : Program} {w : World} {K : PySem.W.Frag} {mg : Str → Option Value} {base : Heap} {TT : List (Addr × Str)}
abbrev s_X_InvalidNumber : Stmt := mthS 12 0
abbrev s_X_TooMany : Stmt := mthS 13 0
def is_InvalidReader : Str → Option Bool := fun n => if n = "InvalidLetters" then some false else if n = "InvalidNumber" then some false else if n = "InvalidReader" then some true else if n = "TooMany" then some false else none
def is_TooMany : Str → Option Bool := fun n => if n = "InvalidLetters" then some false else if n = "InvalidNumber" then some false else if n = "InvalidReader" then some false else if n = "TooMany" then some true else none
abbrev s_l_came : Stmt := topS 48
def hs_l_came : List (Hd Unit) := [(is_InvalidReader, fun _ => Pure.pure (.rt (.str "reader"))), (is_TooMany, repN "many " "limit")]
abbrev s_mask_of : Stmt := topS 2
abbrev N_mask_of : List Str := ["states", "state"]
theorem sc_mask_of : FnScope N_mask_of ["states"] (defScope s_mask_of) := ⟨rfl, rfl, rfl, by decide +kernel, rfl, by decide +kernel, by decide +kernel⟩
def m_mask_of (states0 : D) : M D := ((((((Pure.pure states0) >>= iterA) >>= fun ds => noEx (compF (fun _ => Pure.pure true) (fun state1 => ((Pure.pure (.int 1)) >>= fun x => (Pure.pure state1) >>= fun y => shlD x y)) ds) >>= mkL) >>= fun x => (Pure.pure []) >>= fun xs => Pure.pure (.v x :: xs)) >>= fun as => DL.vals as >>= f1 sumD) >>= fun d => Pure.pure (.rt d)) >>= doneF (α := Unit)
def g_mask_of : List Ar → M D
  | [.v states0] => m_mask_of states0
  | _ => M.no
theorem c_mask_of {as : List Ar} {P : Pot} {ok : D → Pot → Prop} {ex : Ex → Pot → Prop} (h : out (g_mask_of as) P ok ex) : ∃ states0, as = [.v states0] := by
  unfold g_mask_of at h; split at h
  · exact ⟨_, rfl⟩
  · exact h.elim
theorem ok_mask_of {f : Addr} {fd : FuncData} (Fn : Fun K "mask_of" "mask_of" s_mask_of f fd) (b_sum : mg "sum" = none) : FnG P w K mg base 1 f fd ["states"] (spD ⟨mg, K, TT⟩ g_mask_of) := by
  refine fnG_of (k := 0) Fn rfl rfl sc_mask_of (fun as P ok ex h => by obtain ⟨states0, rfl⟩ := c_mask_of h; rfl) fun cd A fr s H0 G0 ap E as P0 ok ex h bx => ?_
  obtain ⟨states0, rfl⟩ := c_mask_of h
  have hu64 := hu_64 bx.cx.rm
  have hu65 := hu_65 bx.cx.rm
  have hu102 := hu_102 bx.cx.rm
  exact ⟨Unit, (fun (a : Unit) => [.un, .un]), _, ds_at (ρ' := [.v states0, .un]) rfl (ds_one (ds_ret (de_blt (DL.cr_sum2 rfl) cd_sum (by rfl) b_sum (by decide +kernel) (da_cons (de_lc (own := [("state", 1)]) (g := gName 1) (tt := tYes) rfl sc_mask_of.nd (blkOk_by (N := N_mask_of) (sc := defScope s_mask_of) (by decide +kernel)) (di_any rfl (de_var rfl (pv 0))) (tgt_name (by simp)) (fun ρ d h => nomatch h) test_yes (fun _ _ _ _ _ => pg_name (i := 1) sc_mask_of.nd rfl (Or.inl rfl)) (fun _ _ _ _ _ => pts_nil) (fun _ _ _ _ _ => pe_elt fun F state1 ρ' e => by cases e; exact de_at (ρ' := [.v states0, .v state1]) rfl (de_op op_shlW opd_shl de_int (de_var rfl (pv 1))))) da_nil)))), rfl⟩
abbrev s_states_of : Stmt := topS 3
abbrev N_states_of : List Str := ["mask", "state"]
theorem sc_states_of : FnScope N_states_of ["mask"] (defScope s_states_of) := ⟨rfl, rfl, rfl, by decide +kernel, rfl, by decide +kernel, by decide +kernel⟩
def m_states_of (mask0 : D) : M D := ((((((((Pure.pure mask0) >>= bitsD) >>= fun x => (Pure.pure []) >>= fun xs => Pure.pure (.v x :: xs)) >>= rng1) >>= fun ds => noEx (compF (fun state2 => ((((Pure.pure mask0) >>= fun x => (Pure.pure state2) >>= fun y => shrD x y) >>= fun x => (Pure.pure (.int 1)) >>= fun y => andD x y) >>= truI)) (fun state2 => (Pure.pure state2)) ds) >>= mkL) >>= fun x => (Pure.pure []) >>= fun xs => Pure.pure (.v x :: xs)) >>= fun as => DL.vals as >>= f1 tupleD) >>= fun d => Pure.pure (.rt d)) >>= doneF (α := Unit)
def g_states_of : List Ar → M D
  | [.v mask0] => m_states_of mask0
  | _ => M.no
theorem c_states_of {as : List Ar} {P : Pot} {ok : D → Pot → Prop} {ex : Ex → Pot → Prop} (h : out (g_states_of as) P ok ex) : ∃ mask0, as = [.v mask0] := by
  unfold g_states_of at h; split at h
  · exact ⟨_, rfl⟩
  · exact h.elim
theorem ok_states_of {f : Addr} {fd : FuncData} (Fn : Fun K "states_of" "states_of" s_states_of f fd) (b_range : mg "range" = none) (b_tuple : mg "tuple" = none) : FnG P w K mg base 1 f fd ["mask"] (spD ⟨mg, K, TT⟩ g_states_of) := by
  refine fnG_of (k := 0) Fn rfl rfl sc_states_of (fun as P ok ex h => by obtain ⟨mask0, rfl⟩ := c_states_of h; rfl) fun cd A fr s H0 G0 ap E as P0 ok ex h bx => ?_
  obtain ⟨mask0, rfl⟩ := c_states_of h
  have hu64 := hu_64 bx.cx.rm
  have hu65 := hu_65 bx.cx.rm
  have hu102 := hu_102 bx.cx.rm
  exact ⟨Unit, (fun (a : Unit) => [.un, .un]), _, ds_at (ρ' := [.v mask0, .un]) rfl (ds_one (ds_ret (de_ty cr_tuple cd_tuple (by rfl) b_tuple (by decide +kernel) (da_cons (de_lc (own := [("state", 1)]) (g := gName 1)  rfl sc_states_of.nd (blkOk_by (N := N_states_of) (sc := defScope s_states_of) (by decide +kernel)) (di_rng1 (by rfl) b_range (da_cons (de_bits (de_var rfl (pv 0))) da_nil)) (tgt_name (by simp)) (fun ρ d h => nomatch h) test_rd (fun _ _ _ _ _ => pg_name (i := 1) sc_states_of.nd rfl (Or.inl rfl)) (fun _ _ _ _ _ => pts_one (pt_tst fun F state2 ρ' e => by cases e; exact dt_at (ρ' := [.v mask0, .v state2]) rfl (dt_tri rfl (de_op op_and opd_and (de_op op_shr opd_shr (de_var rfl (pv 0)) (de_var rfl (pv 1))) de_int)))) (fun _ _ _ _ _ => pe_elt fun F state2 ρ' e => by cases e; exact de_at (ρ' := [.v mask0, .v state2]) rfl (de_var rfl (pv 1)))) da_nil)))), rfl⟩
abbrev s_image : Stmt := topS 4
abbrev N_image : List Str := ["leads", "mask", "found", "state", "lead"]
theorem sc_image : FnScope N_image ["leads", "mask"] (defScope s_image) := ⟨rfl, rfl, rfl, by decide +kernel, rfl, by decide +kernel, by decide +kernel⟩
def m_image (leads0 : D) (mask0 : D) : M D := (thenR ((Pure.pure (.int 0)) >>= fun d => Pure.pure (.nx d)) fun found3 => (thenR (((Pure.pure leads0) >>= enumD) >>= fun ds => forF (fun (a4 : D) => un2 fun state5 lead6 => (thenR (((((Pure.pure mask0) >>= fun x => (Pure.pure state5) >>= fun y => shrD x y) >>= fun x => (Pure.pure (.int 1)) >>= fun y => andD x y) >>= truI) >>= fun x => if x = true then (thenR (((Pure.pure a4) >>= fun x => (Pure.pure lead6) >>= fun y => orD x y) >>= fun d => Pure.pure (.nx d)) fun found7 => (Pure.pure (.nx found7))) else (Pure.pure (.nx a4))) fun a8 => (Pure.pure (.nx a8)))) ds found3) fun a9 => ((Pure.pure a9) >>= fun d => Pure.pure (.rt d)))) >>= doneF (α := Unit)
def g_image : List Ar → M D
  | [.v leads0, .v mask0] => m_image leads0 mask0
  | _ => M.no
theorem c_image {as : List Ar} {P : Pot} {ok : D → Pot → Prop} {ex : Ex → Pot → Prop} (h : out (g_image as) P ok ex) : ∃ leads0 mask0, as = [.v leads0, .v mask0] := by
  unfold g_image at h; split at h
  · exact ⟨_, _, rfl⟩
  · exact h.elim
theorem ok_image {f : Addr} {fd : FuncData} (Fn : Fun K "image" "image" s_image f fd) (b_enumerate : mg "enumerate" = none) : FnG P w K mg base 1 f fd ["leads", "mask"] (spD ⟨mg, K, TT⟩ g_image) := by
  refine fnG_of (k := 0) Fn rfl rfl sc_image (fun as P ok ex h => by obtain ⟨leads0, mask0, rfl⟩ := c_image h; rfl) fun cd A fr s H0 G0 ap E as P0 ok ex h bx => ?_
  obtain ⟨leads0, mask0, rfl⟩ := c_image h
  have hu64 := hu_64 bx.cx.rm
  have hu65 := hu_65 bx.cx.rm
  have hu102 := hu_102 bx.cx.rm
  exact ⟨Unit, (fun (a : Unit) => [.un, .un, .un, .un, .un]), _, ds_at (ρ' := [.v leads0, .v mask0, .un, .un, .un]) rfl (ds_cons (ds_set (i := 2) sc_image.nd rfl (Or.inl rfl) de_int) fun found3 => ds_at (ρ' := [.v leads0, .v mask0, .v found3, .un, .un]) rfl (ds_cons (ds_for (E := (fun (a : D) => [.v leads0, .v mask0, .v a, .un, .un])) (a₀ := found3) (b := by exact (fun (a4 : D) => un2 fun state5 lead6 => (thenR (((((Pure.pure mask0) >>= fun x => (Pure.pure state5) >>= fun y => shrD x y) >>= fun x => (Pure.pure (.int 1)) >>= fun y => andD x y) >>= truI) >>= fun x => if x = true then (thenR (((Pure.pure a4) >>= fun x => (Pure.pure lead6) >>= fun y => orD x y) >>= fun d => Pure.pure (.nx d)) fun found7 => (Pure.pure (.nx found7))) else (Pure.pure (.nx a4))) fun a8 => (Pure.pure (.nx a8))))) (t := fun (a : D) d => tupS ((fun (a : D) => [.v leads0, .v mask0, .v a, .un, .un]) a) [3, 4] d) bx.own rfl (Rel.fogL (.k (.k (.k (.k (.k FogL.n)))))) (di_enum rfl (by rfl) b_enumerate (de_var rfl (pv 0))) (pg_ex fun a => dg_tup (is := [3, 4]) rfl rfl (pgs_cons (pg_name (i := 3) sc_image.nd rfl (Or.inl rfl)) (pgs_cons (pg_name (i := 4) sc_image.nd rfl (Or.inl rfl)) pgs_nil))) (fun a d h => un2_no h) (pss_for fun a4 d ρ' e => by obtain ⟨state5, lead6, rfl, rfl⟩ := tupS2 e; exact ds_at (ρ' := [.v leads0, .v mask0, .v a4, .v state5, .v lead6]) rfl (ds_cons (ds_if (E := (fun (a : D) => [.v leads0, .v mask0, .v a, .v state5, .v lead6])) (dt_tri rfl (de_op op_and opd_and (de_op op_shr opd_shr (de_var rfl (pv 1)) (de_var rfl (pv 3))) de_int)) (ds_cons (ds_set (i := 2) sc_image.nd rfl (Or.inl rfl) (de_op op_or opd_or (de_var rfl (pv 2)) (de_var rfl (pv 4)))) fun found7 => ds_at (ρ' := [.v leads0, .v mask0, .v found7, .v state5, .v lead6]) rfl (ds_end (a := found7) (.k (.k (.k (.k (.k FogL.n))))))) (ds_end (a := a4) (.k (.k (.k (.k (.k FogL.n))))))) fun a8 => ds_at (ρ' := [.v leads0, .v mask0, .v a8, .v state5, .v lead6]) rfl (ds_end (a := a8) (.k (.k (.k (.u (.u FogL.n))))))))) fun a9 => ds_at (ρ' := [.v leads0, .v mask0, .v a9, .un, .un]) rfl (ds_one (ds_ret (de_var rfl (pv 2)))))), rfl⟩
abbrev s_table_of : Stmt := topS 5
abbrev N_table_of : List Str := ["letters", "size", "arrows", "table", "state", "letter", "other"]
theorem sc_table_of : FnScope N_table_of ["letters", "size", "arrows"] (defScope s_table_of) := ⟨rfl, rfl, rfl, by decide +kernel, rfl, by decide +kernel, by decide +kernel⟩
def m_table_of (letters0 : D) (size0 : D) (arrows0 : D) : M D := ((((Pure.pure letters0) >>= iterA) >>= fun ds => noEx (dcL (fun letter10 => (Pure.pure letter10)) (fun letter10 => ((((Pure.pure (.int 0)) >>= fun x => (Pure.pure []) >>= fun xs => Pure.pure (.v x :: xs)) >>= fun as => DL.vals as >>= mkL) >>= fun x => (Pure.pure size0) >>= fun y => mulL x y)) ds [])) >>= fun kvs => (fun kvs => noEx ((Pure.pure arrows0) >>= iterA) >>= fun ds => noEx (forQ (fun kvs => un3 fun state11 letter12 other13 => put2 kvs state11 letter12 other13) ds kvs)) kvs >>= fun kvs => (fun table14 => ((((Pure.pure letters0) >>= iterA) >>= fun ds => noEx (dcF (fun _ => Pure.pure true) (fun letter15 => (Pure.pure letter15)) (fun letter15 => ((((Pure.pure table14) >>= fun x => (Pure.pure letter15) >>= fun y => ixA x y) >>= fun x => (Pure.pure []) >>= fun xs => Pure.pure (.v x :: xs)) >>= fun as => DL.vals as >>= f1 tupleD)) ds []) >>= fun kvs => Pure.pure (dicD kvs)) >>= fun d => Pure.pure (.rt d))) (dicL kvs)) >>= doneF (α := Unit)
def g_table_of : List Ar → M D
  | [.v letters0, .v size0, .v arrows0] => m_table_of letters0 size0 arrows0
  | _ => M.no
theorem c_table_of {as : List Ar} {P : Pot} {ok : D → Pot → Prop} {ex : Ex → Pot → Prop} (h : out (g_table_of as) P ok ex) : ∃ letters0 size0 arrows0, as = [.v letters0, .v size0, .v arrows0] := by
  unfold g_table_of at h; split at h
  · exact ⟨_, _, _, rfl⟩
  · exact h.elim
theorem ok_table_of {f : Addr} {fd : FuncData} (Fn : Fun K "table_of" "table_of" s_table_of f fd) (b_tuple : mg "tuple" = none) : FnG P w K mg base 1 f fd ["letters", "size", "arrows"] (spD ⟨mg, K, TT⟩ g_table_of) := by
  refine fnG_of (k := 0) Fn rfl rfl sc_table_of (fun as P ok ex h => by obtain ⟨letters0, size0, arrows0, rfl⟩ := c_table_of h; rfl) fun cd A fr s H0 G0 ap E as P0 ok ex h bx => ?_
  obtain ⟨letters0, size0, arrows0, rfl⟩ := c_table_of h
  have hu64 := hu_64 bx.cx.rm
  have hu65 := hu_65 bx.cx.rm
  have hu102 := hu_102 bx.cx.rm
  exact ⟨Unit, (fun (a : Unit) => [.un, .un, .un, .un, .un, .un, .un]), _, ds_at (ρ' := [.v letters0, .v size0, .v arrows0, .un, .un, .un, .un]) rfl (ds_tabRest (i := 3) (m1 := (fun kvs => noEx ((Pure.pure arrows0) >>= iterA) >>= fun ds => noEx (forQ (fun kvs => un3 fun state11 letter12 other13 => put2 kvs state11 letter12 other13) ds kvs))) (m2 := fun table14 => ((((Pure.pure letters0) >>= iterA) >>= fun ds => noEx (dcF (fun _ => Pure.pure true) (fun letter15 => (Pure.pure letter15)) (fun letter15 => ((((Pure.pure table14) >>= fun x => (Pure.pure letter15) >>= fun y => ixA x y) >>= fun x => (Pure.pure []) >>= fun xs => Pure.pure (.v x :: xs)) >>= fun as => DL.vals as >>= f1 tupleD)) ds []) >>= fun kvs => Pure.pure (dicD kvs)) >>= fun d => Pure.pure (.rt d))) rfl (noO_by rfl) (ds_tab (i := 3) (own := [("letter", 5)]) (g := gName 5) (mk := (fun letter10 => (Pure.pure letter10))) (mv := (fun letter10 => ((((Pure.pure (.int 0)) >>= fun x => (Pure.pure []) >>= fun xs => Pure.pure (.v x :: xs)) >>= fun as => DL.vals as >>= mkL) >>= fun x => (Pure.pure size0) >>= fun y => mulL x y))) rfl sc_table_of.nd rfl (Or.inr rfl) rfl (noO_by rfl) (blkOk_by (N := N_table_of) (sc := defScope s_table_of) (by decide +kernel)) (di_any rfl (de_var rfl (pv 0))) (tgt_name (by simp)) (fun ρ d h => nomatch h) (fun _ _ _ _ _ => pg_name (i := 5) sc_table_of.nd rfl (Or.inl rfl)) (fun _ _ _ _ _ => pe_elt fun F letter10 ρ' e => by cases e; exact de_at (ρ' := [.v letters0, .v size0, .v arrows0, .un, .un, .v letter10, .un]) rfl (de_var rfl (pv 5))) (fun _ _ _ _ _ F letter10 ρ' e => by cases e; exact dn_at (ρ' := [.v letters0, .v size0, .v arrows0, .un, .un, .v letter10, .un]) rfl (pe_newMul (de_lst (da_cons de_int da_nil)) (de_var rfl (pv 1))))) (ds_forQ (i := 3) (b := (fun kvs => un3 fun state11 letter12 other13 => put2 kvs state11 letter12 other13)) (t := fun ρ d => tupS ρ [4, 5, 6] d) (vs := [4, 5, 6]) bx.own rfl (noO_by rfl) (fun F => (di_any rfl (de_var rfl (pv 2)))) (pg_tup rfl (pgs_cons (pg_name (i := 4) sc_table_of.nd rfl (Or.inl rfl)) (pgs_cons (pg_name (i := 5) sc_table_of.nd rfl (Or.inl rfl)) (pgs_cons (pg_name (i := 6) sc_table_of.nd rfl (Or.inl rfl)) pgs_nil)))) (tgt_tup (is := [4, 5, 6]) rfl (by simp)) (by decide) (fun kvs d h => un3_no h) (fun d ρ' e => by obtain ⟨state11, letter12, other13, rfl, rfl⟩ := tupS3 e; exact Rel.fogL (.k (.k (.k (.k (.u (.u (.u FogL.n)))))))) (pss_q fun d ρ' e => by obtain ⟨state11, letter12, other13, rfl, rfl⟩ := tupS3 e; exact pss_one (ds_put2 (i := 3) (js := 4) (jk := 5) (jo := 6) (by have := hu64; omega) rfl (noO_by rfl) (pv 3) (pv 3) (pv 5) (pv 5) (pv 4) (pv 4) (pv 6) rfl rfl rfl (by intro _ _; rfl) (by intro _ _; rfl) (by intro _ _; rfl)))) (fun table14 => ds_at (ρ' := [.v letters0, .v size0, .v arrows0, .v table14, .un, .un, .un]) rfl (ds_one (ds_ret (de_dc (own := [("letter", 5)]) (g := gName 5) (tt := tYes) rfl sc_table_of.nd (blkOk_by (N := N_table_of) (sc := defScope s_table_of) (by decide +kernel)) (di_any rfl (de_var rfl (pv 0))) (tgt_name (by simp)) (fun ρ d h => nomatch h) test_yes (fun _ _ _ _ _ => pg_name (i := 5) sc_table_of.nd rfl (Or.inl rfl)) (fun _ _ _ _ _ => pts_nil) (fun _ _ _ _ _ => pe_elt fun F letter15 ρ' e => by cases e; exact de_at (ρ' := [.v letters0, .v size0, .v arrows0, .v table14, .un, .v letter15, .un]) rfl (de_var rfl (pv 5))) (fun _ _ _ _ _ => pe_elt fun F letter15 ρ' e => by cases e; exact de_at (ρ' := [.v letters0, .v size0, .v arrows0, .v table14, .un, .v letter15, .un]) rfl (de_ty cr_tuple cd_tuple (by rfl) b_tuple (by decide +kernel) (da_cons (de_ixA (hu_1 hu64) rfl (de_var rfl (pv 3)) (de_var rfl (pv 5)) (by intro _ _; rfl) (by intro _ _; rfl)) da_nil)))))))), rfl⟩
abbrev s_is_integer : Stmt := topS 17
abbrev N_is_integer : List Str := ["value"]
theorem sc_is_integer : FnScope N_is_integer ["value"] (defScope s_is_integer) := ⟨rfl, rfl, rfl, by decide +kernel, rfl, by decide +kernel, by decide +kernel⟩
def m_is_integer (value0 : D) : M D := (thenR ((((((Pure.pure value0) >>= isiD "int") >>= boolD) >>= fun b => Pure.pure (!b)) >>= fun x => if x = true then Pure.pure true else (((Pure.pure value0) >>= isiD "bool") >>= boolD)) >>= fun x => if x = true then ((Pure.pure (.bl false)) >>= fun d => Pure.pure (.rt d)) else (Pure.pure (.nx ()))) fun _ => (((((Pure.pure value0) >>= bitsD) >>= fun x => ((Pure.pure (.int 4)) >>= fun x => (Pure.pure (.int 200)) >>= fun y => mulD x y) >>= fun y => leD x y) >>= fun x => boolD x >>= fun x => if x = true then ((((((((Pure.pure value0) >>= fun x => (Pure.pure []) >>= fun xs => Pure.pure (.v x :: xs)) >>= fun as => DL.vals as >>= f1 absD) >>= fun x => (Pure.pure []) >>= fun xs => Pure.pure (.v x :: xs)) >>= fun as => DL.vals as >>= f1 strD) >>= fun x => (Pure.pure []) >>= fun xs => Pure.pure (.v x :: xs)) >>= fun as => DL.vals as >>= f1 lenD) >>= fun x => (Pure.pure (.int 200)) >>= fun y => leD x y) else Pure.pure (.bl false)) >>= fun d => Pure.pure (.rt d))) >>= doneF (α := Unit)
def g_is_integer : List Ar → M D
  | [.v value0] => m_is_integer value0
  | _ => M.no
theorem c_is_integer {as : List Ar} {P : Pot} {ok : D → Pot → Prop} {ex : Ex → Pot → Prop} (h : out (g_is_integer as) P ok ex) : ∃ value0, as = [.v value0] := by
  unfold g_is_integer at h; split at h
  · exact ⟨_, rfl⟩
  · exact h.elim
theorem ok_is_integer {f : Addr} {fd : FuncData} (Fn : Fun K "is_integer" "is_integer" s_is_integer f fd) (b_abs : mg "abs" = none) (b_bool : mg "bool" = none) (b_int : mg "int" = none) (b_isinstance : mg "isinstance" = none) (b_len : mg "len" = none) (b_str : mg "str" = none) (e_MAX_DIGITS : ∃ t, mg "MAX_DIGITS" = some (.int 200 t)) : FnG P w K mg base 1 f fd ["value"] (spD ⟨mg, K, TT⟩ g_is_integer) := by
  obtain ⟨t_MAX_DIGITS, c_MAX_DIGITS⟩ := e_MAX_DIGITS
  refine fnG_of (k := 0) Fn rfl rfl sc_is_integer (fun as P ok ex h => by obtain ⟨value0, rfl⟩ := c_is_integer h; rfl) fun cd A fr s H0 G0 ap E as P0 ok ex h bx => ?_
  obtain ⟨value0, rfl⟩ := c_is_integer h
  have hu64 := hu_64 bx.cx.rm
  have hu65 := hu_65 bx.cx.rm
  have hu102 := hu_102 bx.cx.rm
  exact ⟨Unit, (fun (a : Unit) => [.un]), _, ds_at (ρ' := [.v value0]) rfl (ds_cons (ds_if (E := (fun (a : Unit) => [.v value0])) (PW.pt (dw_or (dt_not (dt_val (de_isi (T := "int") rfl (by decide) (by rfl) b_isinstance (de_var rfl (pv 0)) (by rfl) b_int (by decide +kernel)))) (dw_or1 (dt_val (de_isi (T := "bool") rfl (by decide) (by rfl) b_isinstance (de_var rfl (pv 0)) (by rfl) b_bool (by decide +kernel)))))) (ds_one (ds_ret de_bl)) (ds_end (a := ()) (.k FogL.n))) fun _ => ds_at (ρ' := [.v value0]) rfl (ds_one (ds_ret (de_and (de_cmp opr_le opd_le (de_bits (de_var rfl (pv 0))) (de_op opr_mul opd_mul de_int (de_glob (v := .int 200) (by rfl) c_MAX_DIGITS ⟨_, rfl⟩ fun _ => .int _))) (de_one (de_cmp opr_le opd_le (de_blt cr_len cd_len (by rfl) b_len (by decide +kernel) (da_cons (de_ty cr_str cd_str (by rfl) b_str (by decide +kernel) (da_cons (de_blt cr_abs cd_abs (by rfl) b_abs (by decide +kernel) (da_cons (de_var rfl (pv 0)) da_nil)) da_nil)) da_nil)) (de_glob (v := .int 200) (by rfl) c_MAX_DIGITS ⟨_, rfl⟩ fun _ => .int _))))))), rfl⟩
abbrev s_is_plain : Stmt := topS 22
abbrev N_is_plain : List Str := ["text", "letter"]
theorem sc_is_plain : FnScope N_is_plain ["text"] (defScope s_is_plain) := ⟨rfl, rfl, rfl, by decide +kernel, rfl, by decide +kernel, by decide +kernel⟩
def m_is_plain (text0 : D) : M D := ((((((Pure.pure text0) >>= iterA) >>= fun ds => noEx (compF (fun _ => Pure.pure true) (fun letter17 => (chainM (Pure.pure (.str "a")) (Pure.pure letter17) (Pure.pure (.str "z")) leD leD)) ds) >>= mkL) >>= fun x => (Pure.pure []) >>= fun xs => Pure.pure (.v x :: xs)) >>= fun as => DL.vals as >>= f1 allD) >>= fun d => Pure.pure (.rt d)) >>= doneF (α := Unit)
def g_is_plain : List Ar → M D
  | [.v text0] => m_is_plain text0
  | _ => M.no
theorem c_is_plain {as : List Ar} {P : Pot} {ok : D → Pot → Prop} {ex : Ex → Pot → Prop} (h : out (g_is_plain as) P ok ex) : ∃ text0, as = [.v text0] := by
  unfold g_is_plain at h; split at h
  · exact ⟨_, rfl⟩
  · exact h.elim
theorem ok_is_plain {f : Addr} {fd : FuncData} (Fn : Fun K "is_plain" "is_plain" s_is_plain f fd) (b_all : mg "all" = none) : FnG P w K mg base 1 f fd ["text"] (spD ⟨mg, K, TT⟩ g_is_plain) := by
  refine fnG_of (k := 0) Fn rfl rfl sc_is_plain (fun as P ok ex h => by obtain ⟨text0, rfl⟩ := c_is_plain h; rfl) fun cd A fr s H0 G0 ap E as P0 ok ex h bx => ?_
  obtain ⟨text0, rfl⟩ := c_is_plain h
  have hu64 := hu_64 bx.cx.rm
  have hu65 := hu_65 bx.cx.rm
  have hu102 := hu_102 bx.cx.rm
  exact ⟨Unit, (fun (a : Unit) => [.un, .un]), _, ds_at (ρ' := [.v text0, .un]) rfl (ds_one (ds_ret (de_blt (cr_allD rfl) cd_all (by rfl) b_all (by decide +kernel) (da_cons (de_lc (own := [("letter", 1)]) (g := gName 1) (tt := tYes) rfl sc_is_plain.nd (blkOk_by (N := N_is_plain) (sc := defScope s_is_plain) (by decide +kernel)) (di_any rfl (de_var rfl (pv 0))) (tgt_name (by simp)) (fun ρ d h => nomatch h) test_yes (fun _ _ _ _ _ => pg_name (i := 1) sc_is_plain.nd rfl (Or.inl rfl)) (fun _ _ _ _ _ => pts_nil) (fun _ _ _ _ _ => pe_elt fun F letter17 ρ' e => by cases e; exact de_at (ρ' := [.v text0, .v letter17]) rfl (de_chain opr_le opr_le opd_le opd_le de_str (de_var rfl (pv 1)) de_str))) da_nil)))), rfl⟩
abbrev s_is_ascending : Stmt := topS 21
abbrev N_is_ascending : List Str := ["values", "one", "other"]
theorem sc_is_ascending : FnScope N_is_ascending ["values"] (defScope s_is_ascending) := ⟨rfl, rfl, rfl, by decide +kernel, rfl, by decide +kernel, by decide +kernel⟩
def m_is_ascending (values0 : D) : M D := (((((((Pure.pure values0) >>= fun x => (((Pure.pure values0) >>= fun x => ((Pure.pure (.int 1)) >>= partD) >>= fun l => (Pure.pure none) >>= fun u => sliceD x l u) >>= fun x => (Pure.pure []) >>= fun xs => Pure.pure (.v x :: xs)) >>= fun xs => Pure.pure (.v x :: xs)) >>= fun as => DL.vals as >>= zipD) >>= fun ds => noEx (compF (un2 fun one18 other19 => Pure.pure true) (un2 fun one18 other19 => ((Pure.pure one18) >>= fun x => (Pure.pure other19) >>= fun y => ltA x y)) ds) >>= mkL) >>= fun x => (Pure.pure []) >>= fun xs => Pure.pure (.v x :: xs)) >>= fun as => DL.vals as >>= f1 allD) >>= fun d => Pure.pure (.rt d)) >>= doneF (α := Unit)
def g_is_ascending : List Ar → M D
  | [.v values0] => m_is_ascending values0
  | _ => M.no
theorem c_is_ascending {as : List Ar} {P : Pot} {ok : D → Pot → Prop} {ex : Ex → Pot → Prop} (h : out (g_is_ascending as) P ok ex) : ∃ values0, as = [.v values0] := by
  unfold g_is_ascending at h; split at h
  · exact ⟨_, rfl⟩
  · exact h.elim
theorem ok_is_ascending {f : Addr} {fd : FuncData} (Fn : Fun K "is_ascending" "is_ascending" s_is_ascending f fd) (b_all : mg "all" = none) (b_zip : mg "zip" = none) : FnG P w K mg base 1 f fd ["values"] (spD ⟨mg, K, TT⟩ g_is_ascending) := by
  refine fnG_of (k := 0) Fn rfl rfl sc_is_ascending (fun as P ok ex h => by obtain ⟨values0, rfl⟩ := c_is_ascending h; rfl) fun cd A fr s H0 G0 ap E as P0 ok ex h bx => ?_
  obtain ⟨values0, rfl⟩ := c_is_ascending h
  have hu64 := hu_64 bx.cx.rm
  have hu65 := hu_65 bx.cx.rm
  have hu102 := hu_102 bx.cx.rm
  exact ⟨Unit, (fun (a : Unit) => [.un, .un, .un]), _, ds_at (ρ' := [.v values0, .un, .un]) rfl (ds_one (ds_ret (de_blt (cr_allD rfl) cd_all (by rfl) b_all (by decide +kernel) (da_cons (de_lc (own := [("one", 1), ("other", 2)])  (tt := tYes) rfl sc_is_ascending.nd (blkOk_by (N := N_is_ascending) (sc := defScope s_is_ascending) (by decide +kernel)) (di_zip rfl (by rfl) b_zip (da_cons (de_var rfl (pv 0)) (da_cons (de_slice rfl (de_var rfl (pv 0)) (do_some de_int) do_none) da_nil))) (tgt_tup (is := [1, 2]) rfl (by simp)) (fun ρ d h => un2_no h) test_yes2 (fun _ _ _ _ _ => pg_tup rfl (pgs_cons (pg_name (i := 1) sc_is_ascending.nd rfl (Or.inl rfl)) (pgs_cons (pg_name (i := 2) sc_is_ascending.nd rfl (Or.inl rfl)) pgs_nil))) (fun _ _ _ _ _ => pts_nil) (fun _ _ _ _ _ => pe_elt fun F d ρ' e => by obtain ⟨one18, other19, rfl, rfl⟩ := tupS2 e; exact de_at (ρ' := [.v values0, .v one18, .v other19]) rfl (de_cmp (opr_ltA (hu_0 hu64)) opd_ltA (de_var rfl (pv 1)) (de_var rfl (pv 2))))) da_nil)))), rfl⟩
abbrev s_is_letters : Stmt := topS 18
abbrev N_is_letters : List Str := ["value"]
theorem sc_is_letters : FnScope N_is_letters ["value"] (defScope s_is_letters) := ⟨rfl, rfl, rfl, by decide +kernel, rfl, by decide +kernel, by decide +kernel⟩
def m_is_letters (value0 : D) : M D := (thenR ((((((Pure.pure value0) >>= isiD "str") >>= boolD) >>= fun b => Pure.pure (!b)) >>= fun x => if x = true then Pure.pure true else (((chainM (Pure.pure (.int 1)) (((Pure.pure value0) >>= fun x => (Pure.pure []) >>= fun xs => Pure.pure (.v x :: xs)) >>= fun as => DL.vals as >>= f1 lenD) (Pure.pure (.int 4)) leD leD) >>= boolD) >>= fun b => Pure.pure (!b))) >>= fun x => if x = true then ((Pure.pure (.bl false)) >>= fun d => Pure.pure (.rt d)) else (Pure.pure (.nx ()))) fun _ => (((((Pure.pure value0) >>= fun x => (Pure.pure []) >>= fun xs => Pure.pure (.v x :: xs)) >>= g_is_plain) >>= fun x => boolD x >>= fun x => if x = true then (((Pure.pure value0) >>= fun x => (Pure.pure []) >>= fun xs => Pure.pure (.v x :: xs)) >>= g_is_ascending) else Pure.pure (.bl false)) >>= fun d => Pure.pure (.rt d))) >>= doneF (α := Unit)
def g_is_letters : List Ar → M D
  | [.v value0] => m_is_letters value0
  | _ => M.no
theorem c_is_letters {as : List Ar} {P : Pot} {ok : D → Pot → Prop} {ex : Ex → Pot → Prop} (h : out (g_is_letters as) P ok ex) : ∃ value0, as = [.v value0] := by
  unfold g_is_letters at h; split at h
  · exact ⟨_, rfl⟩
  · exact h.elim
theorem ok_is_letters {f : Addr} {fd : FuncData} (Fn : Fun K "is_letters" "is_letters" s_is_letters f fd) (b_isinstance : mg "isinstance" = none) (b_len : mg "len" = none) (b_str : mg "str" = none) (e_MAX_ALPHABET : ∃ t, mg "_MAX_ALPHABET" = some (.int 4 t)) (d_is_ascending : Cal P w K mg base 1 "is_ascending" (spD ⟨mg, K, TT⟩ g_is_ascending)) (d_is_plain : Cal P w K mg base 1 "is_plain" (spD ⟨mg, K, TT⟩ g_is_plain)) : FnG P w K mg base 2 f fd ["value"] (spD ⟨mg, K, TT⟩ g_is_letters) := by
  obtain ⟨t_MAX_ALPHABET, c_MAX_ALPHABET⟩ := e_MAX_ALPHABET
  refine fnG_of (k := 1) Fn rfl rfl sc_is_letters (fun as P ok ex h => by obtain ⟨value0, rfl⟩ := c_is_letters h; rfl) fun cd A fr s H0 G0 ap E as P0 ok ex h bx => ?_
  obtain ⟨value0, rfl⟩ := c_is_letters h
  have hu64 := hu_64 bx.cx.rm
  have hu65 := hu_65 bx.cx.rm
  have hu102 := hu_102 bx.cx.rm
  exact ⟨Unit, (fun (a : Unit) => [.un]), _, ds_at (ρ' := [.v value0]) rfl (ds_cons (ds_if (E := (fun (a : Unit) => [.v value0])) (PW.pt (dw_or (dt_not (dt_val (de_isi (T := "str") rfl (by decide) (by rfl) b_isinstance (de_var rfl (pv 0)) (by rfl) b_str (by decide +kernel)))) (dw_or1 (dt_not (dt_chain opr_le opr_le opd_le opd_le de_int (de_blt cr_len cd_len (by rfl) b_len (by decide +kernel) (da_cons (de_var rfl (pv 0)) da_nil)) (de_glob (v := .int 4) (by rfl) c_MAX_ALPHABET ⟨_, rfl⟩ fun _ => .int _)))))) (ds_one (ds_ret de_bl)) (ds_end (a := ()) (.k FogL.n))) fun _ => ds_at (ρ' := [.v value0]) rfl (ds_one (ds_ret (de_and (de_callC d_is_plain ⟨rfl, rfl, bx.cx.ga, bx.cx.rm⟩ (by omega) bx.tk (by rfl) (da_cons (de_var rfl (pv 0)) da_nil)) (de_one (de_callC d_is_ascending ⟨rfl, rfl, bx.cx.ga, bx.cx.rm⟩ (by omega) bx.tk (by rfl) (da_cons (de_var rfl (pv 0)) da_nil))))))), rfl⟩
abbrev s_is_letter : Stmt := topS 20
abbrev N_is_letter : List Str := ["letters", "value"]
theorem sc_is_letter : FnScope N_is_letter ["letters", "value"] (defScope s_is_letter) := ⟨rfl, rfl, rfl, by decide +kernel, rfl, by decide +kernel, by decide +kernel⟩
def m_is_letter (letters0 : D) (value0 : D) : M D := ((((Pure.pure value0) >>= isiD "str") >>= fun x => boolD x >>= fun x => if x = true then (((((Pure.pure value0) >>= fun x => (Pure.pure []) >>= fun xs => Pure.pure (.v x :: xs)) >>= fun as => DL.vals as >>= f1 lenD) >>= fun x => (Pure.pure (.int 1)) >>= fun y => eqD x y) >>= fun x => boolD x >>= fun x => if x = true then ((Pure.pure value0) >>= fun x => (Pure.pure letters0) >>= fun y => (inD false) x y) else Pure.pure (.bl false)) else Pure.pure (.bl false)) >>= fun d => Pure.pure (.rt d)) >>= doneF (α := Unit)
def g_is_letter : List Ar → M D
  | [.v letters0, .v value0] => m_is_letter letters0 value0
  | _ => M.no
theorem c_is_letter {as : List Ar} {P : Pot} {ok : D → Pot → Prop} {ex : Ex → Pot → Prop} (h : out (g_is_letter as) P ok ex) : ∃ letters0 value0, as = [.v letters0, .v value0] := by
  unfold g_is_letter at h; split at h
  · exact ⟨_, _, rfl⟩
  · exact h.elim
theorem ok_is_letter {f : Addr} {fd : FuncData} (Fn : Fun K "is_letter" "is_letter" s_is_letter f fd) (b_isinstance : mg "isinstance" = none) (b_len : mg "len" = none) (b_str : mg "str" = none) : FnG P w K mg base 1 f fd ["letters", "value"] (spD ⟨mg, K, TT⟩ g_is_letter) := by
  refine fnG_of (k := 0) Fn rfl rfl sc_is_letter (fun as P ok ex h => by obtain ⟨letters0, value0, rfl⟩ := c_is_letter h; rfl) fun cd A fr s H0 G0 ap E as P0 ok ex h bx => ?_
  obtain ⟨letters0, value0, rfl⟩ := c_is_letter h
  have hu64 := hu_64 bx.cx.rm
  have hu65 := hu_65 bx.cx.rm
  have hu102 := hu_102 bx.cx.rm
  exact ⟨Unit, (fun (a : Unit) => [.un, .un]), _, ds_at (ρ' := [.v letters0, .v value0]) rfl (ds_one (ds_ret (de_and (de_isi (T := "str") rfl (by decide) (by rfl) b_isinstance (de_var rfl (pv 1)) (by rfl) b_str (by decide +kernel)) (de_and (de_cmp (op_eqD hu64) opd_eq (de_blt cr_len cd_len (by rfl) b_len (by decide +kernel) (da_cons (de_var rfl (pv 1)) da_nil)) de_int) (de_one (de_cmp (opr_in hu65) (opd_in false) (de_var rfl (pv 1)) (de_var rfl (pv 0)))))))), rfl⟩
abbrev s_check_letters : Stmt := topS 23
abbrev N_check_letters : List Str := ["value"]
theorem sc_check_letters : FnScope N_check_letters ["value"] (defScope s_check_letters) := ⟨rfl, rfl, rfl, by decide +kernel, rfl, by decide +kernel, by decide +kernel⟩
def m_check_letters (value0 : D) : M D := (thenR ((((((Pure.pure value0) >>= fun x => (Pure.pure []) >>= fun xs => Pure.pure (.v x :: xs)) >>= g_is_letters) >>= boolD) >>= fun b => Pure.pure (!b)) >>= fun x => if x = true then (M.raise ⟨"InvalidLetters", none⟩) else (Pure.pure (.nx ()))) fun _ => (Pure.pure (.nx ()))) >>= doneF (α := Unit)
def g_check_letters : List Ar → M D
  | [.v value0] => m_check_letters value0
  | _ => M.no
theorem c_check_letters {as : List Ar} {P : Pot} {ok : D → Pot → Prop} {ex : Ex → Pot → Prop} (h : out (g_check_letters as) P ok ex) : ∃ value0, as = [.v value0] := by
  unfold g_check_letters at h; split at h
  · exact ⟨_, rfl⟩
  · exact h.elim
theorem ok_check_letters {f : Addr} {fd : FuncData} (Fn : Fun K "check_letters" "check_letters" s_check_letters f fd) (d_is_letters : Cal P w K mg base 2 "is_letters" (spD ⟨mg, K, TT⟩ g_is_letters)) (x_InvalidLetters : Exc0 K mg "InvalidLetters") : FnG P w K mg base 3 f fd ["value"] (spD ⟨mg, K, TT⟩ g_check_letters) := by
  refine fnG_of (k := 2) Fn rfl rfl sc_check_letters (fun as P ok ex h => by obtain ⟨value0, rfl⟩ := c_check_letters h; rfl) fun cd A fr s H0 G0 ap E as P0 ok ex h bx => ?_
  obtain ⟨value0, rfl⟩ := c_check_letters h
  have hu64 := hu_64 bx.cx.rm
  have hu65 := hu_65 bx.cx.rm
  have hu102 := hu_102 bx.cx.rm
  exact ⟨Unit, (fun (a : Unit) => [.un]), _, ds_at (ρ' := [.v value0]) rfl (ds_cons (ds_if (E := (fun (a : Unit) => [.v value0])) (dt_not (dt_val (de_callC d_is_letters ⟨rfl, rfl, bx.cx.ga, bx.cx.rm⟩ (by omega) bx.tk (by rfl) (da_cons (de_var rfl (pv 0)) da_nil)))) (ds_one (ds_raiseC x_InvalidLetters rfl rfl rfl bx.tk (by rfl))) (ds_end (a := ()) (.k FogL.n))) fun _ => ds_at (ρ' := [.v value0]) rfl (ds_end (a := ()) (.u FogL.n))), rfl⟩
abbrev s_is_state : Stmt := topS 30
abbrev N_is_state : List Str := ["size", "value"]
theorem sc_is_state : FnScope N_is_state ["size", "value"] (defScope s_is_state) := ⟨rfl, rfl, rfl, by decide +kernel, rfl, by decide +kernel, by decide +kernel⟩
def m_is_state (size0 : D) (value0 : D) : M D := (((((Pure.pure value0) >>= fun x => (Pure.pure []) >>= fun xs => Pure.pure (.v x :: xs)) >>= g_is_integer) >>= fun x => boolD x >>= fun x => if x = true then (chainM (Pure.pure (.int 0)) (Pure.pure value0) (Pure.pure size0) leD ltD) else Pure.pure (.bl false)) >>= fun d => Pure.pure (.rt d)) >>= doneF (α := Unit)
def g_is_state : List Ar → M D
  | [.v size0, .v value0] => m_is_state size0 value0
  | _ => M.no
theorem c_is_state {as : List Ar} {P : Pot} {ok : D → Pot → Prop} {ex : Ex → Pot → Prop} (h : out (g_is_state as) P ok ex) : ∃ size0 value0, as = [.v size0, .v value0] := by
  unfold g_is_state at h; split at h
  · exact ⟨_, _, rfl⟩
  · exact h.elim
theorem ok_is_state {f : Addr} {fd : FuncData} (Fn : Fun K "is_state" "is_state" s_is_state f fd) (d_is_integer : Cal P w K mg base 1 "is_integer" (spD ⟨mg, K, TT⟩ g_is_integer)) : FnG P w K mg base 2 f fd ["size", "value"] (spD ⟨mg, K, TT⟩ g_is_state) := by
  refine fnG_of (k := 1) Fn rfl rfl sc_is_state (fun as P ok ex h => by obtain ⟨size0, value0, rfl⟩ := c_is_state h; rfl) fun cd A fr s H0 G0 ap E as P0 ok ex h bx => ?_
  obtain ⟨size0, value0, rfl⟩ := c_is_state h
  have hu64 := hu_64 bx.cx.rm
  have hu65 := hu_65 bx.cx.rm
  have hu102 := hu_102 bx.cx.rm
  exact ⟨Unit, (fun (a : Unit) => [.un, .un]), _, ds_at (ρ' := [.v size0, .v value0]) rfl (ds_one (ds_ret (de_and (de_callC d_is_integer ⟨rfl, rfl, bx.cx.ga, bx.cx.rm⟩ (by omega) bx.tk (by rfl) (da_cons (de_var rfl (pv 1)) da_nil)) (de_one (de_chain opr_le opr_lt opd_le opd_lt de_int (de_var rfl (pv 1)) (de_var rfl (pv 0))))))), rfl⟩
abbrev s_is_arrow : Stmt := topS 33
abbrev N_is_arrow : List Str := ["letters", "size", "value"]
theorem sc_is_arrow : FnScope N_is_arrow ["letters", "size", "value"] (defScope s_is_arrow) := ⟨rfl, rfl, rfl, by decide +kernel, rfl, by decide +kernel, by decide +kernel⟩
def m_is_arrow (letters0 : D) (size0 : D) (value0 : D) : M D := (thenR ((((((Pure.pure value0) >>= isiD "tuple") >>= boolD) >>= fun b => Pure.pure (!b)) >>= fun x => if x = true then Pure.pure true else (((((Pure.pure value0) >>= fun x => (Pure.pure []) >>= fun xs => Pure.pure (.v x :: xs)) >>= fun as => DL.vals as >>= f1 lenD) >>= fun x => (Pure.pure (.int 3)) >>= fun y => neD x y) >>= boolD)) >>= fun x => if x = true then ((Pure.pure (.bl false)) >>= fun d => Pure.pure (.rt d)) else (Pure.pure (.nx ()))) fun _ => (((((Pure.pure size0) >>= fun x => (((Pure.pure value0) >>= fun x => (Pure.pure (.int 0)) >>= fun y => ixD x y) >>= fun x => (Pure.pure []) >>= fun xs => Pure.pure (.v x :: xs)) >>= fun xs => Pure.pure (.v x :: xs)) >>= g_is_state) >>= fun x => boolD x >>= fun x => if x = true then ((((Pure.pure letters0) >>= fun x => (((Pure.pure value0) >>= fun x => (Pure.pure (.int 1)) >>= fun y => ixD x y) >>= fun x => (Pure.pure []) >>= fun xs => Pure.pure (.v x :: xs)) >>= fun xs => Pure.pure (.v x :: xs)) >>= g_is_letter) >>= fun x => boolD x >>= fun x => if x = true then (((Pure.pure size0) >>= fun x => (((Pure.pure value0) >>= fun x => (Pure.pure (.int 2)) >>= fun y => ixD x y) >>= fun x => (Pure.pure []) >>= fun xs => Pure.pure (.v x :: xs)) >>= fun xs => Pure.pure (.v x :: xs)) >>= g_is_state) else Pure.pure (.bl false)) else Pure.pure (.bl false)) >>= fun d => Pure.pure (.rt d))) >>= doneF (α := Unit)
def g_is_arrow : List Ar → M D
  | [.v letters0, .v size0, .v value0] => m_is_arrow letters0 size0 value0
  | _ => M.no
theorem c_is_arrow {as : List Ar} {P : Pot} {ok : D → Pot → Prop} {ex : Ex → Pot → Prop} (h : out (g_is_arrow as) P ok ex) : ∃ letters0 size0 value0, as = [.v letters0, .v size0, .v value0] := by
  unfold g_is_arrow at h; split at h
  · exact ⟨_, _, _, rfl⟩
  · exact h.elim
theorem ok_is_arrow {f : Addr} {fd : FuncData} (Fn : Fun K "_is_arrow" "_is_arrow" s_is_arrow f fd) (b_isinstance : mg "isinstance" = none) (b_len : mg "len" = none) (b_tuple : mg "tuple" = none) (d_is_letter : Cal P w K mg base 1 "is_letter" (spD ⟨mg, K, TT⟩ g_is_letter)) (d_is_state : Cal P w K mg base 2 "is_state" (spD ⟨mg, K, TT⟩ g_is_state)) : FnG P w K mg base 3 f fd ["letters", "size", "value"] (spD ⟨mg, K, TT⟩ g_is_arrow) := by
  refine fnG_of (k := 2) Fn rfl rfl sc_is_arrow (fun as P ok ex h => by obtain ⟨letters0, size0, value0, rfl⟩ := c_is_arrow h; rfl) fun cd A fr s H0 G0 ap E as P0 ok ex h bx => ?_
  obtain ⟨letters0, size0, value0, rfl⟩ := c_is_arrow h
  have hu64 := hu_64 bx.cx.rm
  have hu65 := hu_65 bx.cx.rm
  have hu102 := hu_102 bx.cx.rm
  exact ⟨Unit, (fun (a : Unit) => [.un, .un, .un]), _, ds_at (ρ' := [.v letters0, .v size0, .v value0]) rfl (ds_cons (ds_if (E := (fun (a : Unit) => [.v letters0, .v size0, .v value0])) (PW.pt (dw_or (dt_not (dt_val (de_isi (T := "tuple") rfl (by decide) (by rfl) b_isinstance (de_var rfl (pv 2)) (by rfl) b_tuple (by decide +kernel)))) (dw_or1 (dt_cmp (op_neD hu64) opd_ne (de_blt cr_len cd_len (by rfl) b_len (by decide +kernel) (da_cons (de_var rfl (pv 2)) da_nil)) de_int)))) (ds_one (ds_ret de_bl)) (ds_end (a := ()) (.k (.k (.k FogL.n))))) fun _ => ds_at (ρ' := [.v letters0, .v size0, .v value0]) rfl (ds_one (ds_ret (de_and (de_callC d_is_state ⟨rfl, rfl, bx.cx.ga, bx.cx.rm⟩ (by omega) bx.tk (by rfl) (da_cons (de_var rfl (pv 1)) (da_cons (de_ix rfl (de_var rfl (pv 2)) de_int (by intro _ _; rfl)) da_nil))) (de_and (de_callC d_is_letter ⟨rfl, rfl, bx.cx.ga, bx.cx.rm⟩ (by omega) bx.tk (by rfl) (da_cons (de_var rfl (pv 0)) (da_cons (de_ix rfl (de_var rfl (pv 2)) de_int (by intro _ _; rfl)) da_nil))) (de_one (de_callC d_is_state ⟨rfl, rfl, bx.cx.ga, bx.cx.rm⟩ (by omega) bx.tk (by rfl) (da_cons (de_var rfl (pv 1)) (da_cons (de_ix rfl (de_var rfl (pv 2)) de_int (by intro _ _; rfl)) da_nil))))))))), rfl⟩
abbrev s_is_arrow_set : Stmt := topS 32
abbrev N_is_arrow_set : List Str := ["letters", "size", "value", "arrow"]
theorem sc_is_arrow_set : FnScope N_is_arrow_set ["letters", "size", "value"] (defScope s_is_arrow_set) := ⟨rfl, rfl, rfl, by decide +kernel, rfl, by decide +kernel, by decide +kernel⟩
def m_is_arrow_set (letters0 : D) (size0 : D) (value0 : D) : M D := (thenR (((((Pure.pure value0) >>= isiD "tuple") >>= boolD) >>= fun b => Pure.pure (!b)) >>= fun x => if x = true then ((Pure.pure (.bl false)) >>= fun d => Pure.pure (.rt d)) else (Pure.pure (.nx ()))) fun _ => (((((((Pure.pure value0) >>= iterA) >>= fun ds => noEx (compF (fun _ => Pure.pure true) (fun arrow24 => (((Pure.pure letters0) >>= fun x => ((Pure.pure size0) >>= fun x => ((Pure.pure arrow24) >>= fun x => (Pure.pure []) >>= fun xs => Pure.pure (.v x :: xs)) >>= fun xs => Pure.pure (.v x :: xs)) >>= fun xs => Pure.pure (.v x :: xs)) >>= g_is_arrow)) ds) >>= mkL) >>= fun x => (Pure.pure []) >>= fun xs => Pure.pure (.v x :: xs)) >>= fun as => DL.vals as >>= f1 allD) >>= fun x => boolD x >>= fun x => if x = true then (((Pure.pure value0) >>= fun x => (Pure.pure []) >>= fun xs => Pure.pure (.v x :: xs)) >>= g_is_ascending) else Pure.pure (.bl false)) >>= fun d => Pure.pure (.rt d))) >>= doneF (α := Unit)
def g_is_arrow_set : List Ar → M D
  | [.v letters0, .v size0, .v value0] => m_is_arrow_set letters0 size0 value0
  | _ => M.no
theorem c_is_arrow_set {as : List Ar} {P : Pot} {ok : D → Pot → Prop} {ex : Ex → Pot → Prop} (h : out (g_is_arrow_set as) P ok ex) : ∃ letters0 size0 value0, as = [.v letters0, .v size0, .v value0] := by
  unfold g_is_arrow_set at h; split at h
  · exact ⟨_, _, _, rfl⟩
  · exact h.elim
theorem ok_is_arrow_set {f : Addr} {fd : FuncData} (Fn : Fun K "_is_arrow_set" "_is_arrow_set" s_is_arrow_set f fd) (b_all : mg "all" = none) (b_isinstance : mg "isinstance" = none) (b_tuple : mg "tuple" = none) (d_is_arrow : Cal P w K mg base 3 "_is_arrow" (spD ⟨mg, K, TT⟩ g_is_arrow)) (d_is_ascending : Cal P w K mg base 1 "is_ascending" (spD ⟨mg, K, TT⟩ g_is_ascending)) : FnG P w K mg base 4 f fd ["letters", "size", "value"] (spD ⟨mg, K, TT⟩ g_is_arrow_set) := by
  refine fnG_of (k := 3) Fn rfl rfl sc_is_arrow_set (fun as P ok ex h => by obtain ⟨letters0, size0, value0, rfl⟩ := c_is_arrow_set h; rfl) fun cd A fr s H0 G0 ap E as P0 ok ex h bx => ?_
  obtain ⟨letters0, size0, value0, rfl⟩ := c_is_arrow_set h
  have hu64 := hu_64 bx.cx.rm
  have hu65 := hu_65 bx.cx.rm
  have hu102 := hu_102 bx.cx.rm
  exact ⟨Unit, (fun (a : Unit) => [.un, .un, .un, .un]), _, ds_at (ρ' := [.v letters0, .v size0, .v value0, .un]) rfl (ds_cons (ds_if (E := (fun (a : Unit) => [.v letters0, .v size0, .v value0, .un])) (dt_not (dt_val (de_isi (T := "tuple") rfl (by decide) (by rfl) b_isinstance (de_var rfl (pv 2)) (by rfl) b_tuple (by decide +kernel)))) (ds_one (ds_ret de_bl)) (ds_end (a := ()) (.k (.k (.k (.k FogL.n)))))) fun _ => ds_at (ρ' := [.v letters0, .v size0, .v value0, .un]) rfl (ds_one (ds_ret (de_and (de_blt (cr_allD rfl) cd_all (by rfl) b_all (by decide +kernel) (da_cons (de_lc (own := [("arrow", 3)]) (g := gName 3) (tt := tYes) rfl sc_is_arrow_set.nd (blkOk_by (N := N_is_arrow_set) (sc := defScope s_is_arrow_set) (by decide +kernel)) (di_any rfl (de_var rfl (pv 2))) (tgt_name (by simp)) (fun ρ d h => nomatch h) test_yes (fun _ _ _ _ _ => pg_name (i := 3) sc_is_arrow_set.nd rfl (Or.inl rfl)) (fun _ _ _ _ _ => pts_nil) (fun _ _ _ _ _ => pe_elt fun F arrow24 ρ' e => by cases e; exact de_at (ρ' := [.v letters0, .v size0, .v value0, .v arrow24]) rfl (de_callC d_is_arrow ⟨rfl, rfl, bx.cx.ga, bx.cx.rm⟩ (by omega) takes0 (by rfl) (da_cons (de_var rfl (pv 0)) (da_cons (de_var rfl (pv 1)) (da_cons (de_var rfl (pv 3)) da_nil)))))) da_nil)) (de_one (de_callC d_is_ascending ⟨rfl, rfl, bx.cx.ga, bx.cx.rm⟩ (by omega) bx.tk (by rfl) (da_cons (de_var rfl (pv 2)) da_nil))))))), rfl⟩
abbrev s_is_state_set : Stmt := topS 31
abbrev N_is_state_set : List Str := ["size", "value", "state"]
theorem sc_is_state_set : FnScope N_is_state_set ["size", "value"] (defScope s_is_state_set) := ⟨rfl, rfl, rfl, by decide +kernel, rfl, by decide +kernel, by decide +kernel⟩
def m_is_state_set (size0 : D) (value0 : D) : M D := (thenR ((((((Pure.pure value0) >>= isiD "tuple") >>= boolD) >>= fun b => Pure.pure (!b)) >>= fun x => if x = true then Pure.pure true else (((((((Pure.pure value0) >>= iterA) >>= fun ds => noEx (compF (fun _ => Pure.pure true) (fun state25 => (((Pure.pure size0) >>= fun x => ((Pure.pure state25) >>= fun x => (Pure.pure []) >>= fun xs => Pure.pure (.v x :: xs)) >>= fun xs => Pure.pure (.v x :: xs)) >>= g_is_state)) ds) >>= mkL) >>= fun x => (Pure.pure []) >>= fun xs => Pure.pure (.v x :: xs)) >>= fun as => DL.vals as >>= f1 allD) >>= boolD) >>= fun b => Pure.pure (!b))) >>= fun x => if x = true then ((Pure.pure (.bl false)) >>= fun d => Pure.pure (.rt d)) else (Pure.pure (.nx ()))) fun _ => ((((Pure.pure value0) >>= fun x => (Pure.pure []) >>= fun xs => Pure.pure (.v x :: xs)) >>= g_is_ascending) >>= fun d => Pure.pure (.rt d))) >>= doneF (α := Unit)
def g_is_state_set : List Ar → M D
  | [.v size0, .v value0] => m_is_state_set size0 value0
  | _ => M.no
theorem c_is_state_set {as : List Ar} {P : Pot} {ok : D → Pot → Prop} {ex : Ex → Pot → Prop} (h : out (g_is_state_set as) P ok ex) : ∃ size0 value0, as = [.v size0, .v value0] := by
  unfold g_is_state_set at h; split at h
  · exact ⟨_, _, rfl⟩
  · exact h.elim
theorem ok_is_state_set {f : Addr} {fd : FuncData} (Fn : Fun K "is_state_set" "is_state_set" s_is_state_set f fd) (b_all : mg "all" = none) (b_isinstance : mg "isinstance" = none) (b_tuple : mg "tuple" = none) (d_is_ascending : Cal P w K mg base 1 "is_ascending" (spD ⟨mg, K, TT⟩ g_is_ascending)) (d_is_state : Cal P w K mg base 2 "is_state" (spD ⟨mg, K, TT⟩ g_is_state)) : FnG P w K mg base 3 f fd ["size", "value"] (spD ⟨mg, K, TT⟩ g_is_state_set) := by
  refine fnG_of (k := 2) Fn rfl rfl sc_is_state_set (fun as P ok ex h => by obtain ⟨size0, value0, rfl⟩ := c_is_state_set h; rfl) fun cd A fr s H0 G0 ap E as P0 ok ex h bx => ?_
  obtain ⟨size0, value0, rfl⟩ := c_is_state_set h
  have hu64 := hu_64 bx.cx.rm
  have hu65 := hu_65 bx.cx.rm
  have hu102 := hu_102 bx.cx.rm
  exact ⟨Unit, (fun (a : Unit) => [.un, .un, .un]), _, ds_at (ρ' := [.v size0, .v value0, .un]) rfl (ds_cons (ds_if (E := (fun (a : Unit) => [.v size0, .v value0, .un])) (PW.pt (dw_or (dt_not (dt_val (de_isi (T := "tuple") rfl (by decide) (by rfl) b_isinstance (de_var rfl (pv 1)) (by rfl) b_tuple (by decide +kernel)))) (dw_or1 (dt_not (dt_val (de_blt (cr_allD rfl) cd_all (by rfl) b_all (by decide +kernel) (da_cons (de_lc (own := [("state", 2)]) (g := gName 2) (tt := tYes) rfl sc_is_state_set.nd (blkOk_by (N := N_is_state_set) (sc := defScope s_is_state_set) (by decide +kernel)) (di_any rfl (de_var rfl (pv 1))) (tgt_name (by simp)) (fun ρ d h => nomatch h) test_yes (fun _ _ _ _ _ => pg_name (i := 2) sc_is_state_set.nd rfl (Or.inl rfl)) (fun _ _ _ _ _ => pts_nil) (fun _ _ _ _ _ => pe_elt fun F state25 ρ' e => by cases e; exact de_at (ρ' := [.v size0, .v value0, .v state25]) rfl (de_callC d_is_state ⟨rfl, rfl, bx.cx.ga, bx.cx.rm⟩ (by omega) takes0 (by rfl) (da_cons (de_var rfl (pv 0)) (da_cons (de_var rfl (pv 2)) da_nil))))) da_nil))))))) (ds_one (ds_ret de_bl)) (ds_end (a := ()) (.k (.k (.k FogL.n))))) fun _ => ds_at (ρ' := [.v size0, .v value0, .un]) rfl (ds_one (ds_ret (de_callC d_is_ascending ⟨rfl, rfl, bx.cx.ga, bx.cx.rm⟩ (by omega) bx.tk (by rfl) (da_cons (de_var rfl (pv 1)) da_nil))))), rfl⟩
abbrev s_Reader_init_d : Stmt := mthS 27 0
abbrev N_Reader_init_d : List Str := ["self", "letters", "size", "firsts", "lasts", "arrows", "turned", "state", "letter", "other"]
theorem sc_Reader_init_d : FnScope N_Reader_init_d ["self", "letters", "size", "firsts", "lasts", "arrows"] (defScope s_Reader_init_d) := ⟨rfl, rfl, rfl, by decide +kernel, rfl, by decide +kernel, by decide +kernel⟩
def m_Reader_init_d (letters0 : D) (size0 : D) (firsts0 : D) (lasts0 : D) (arrows0 : D) : M (List (Str × D)) := ((thenR ((((Pure.pure letters0) >>= fun x => (Pure.pure []) >>= fun xs => Pure.pure (.v x :: xs)) >>= g_check_letters) >>= fun _ => Pure.pure (.nx ())) fun _ => (thenR (((((((Pure.pure size0) >>= fun x => (Pure.pure []) >>= fun xs => Pure.pure (.v x :: xs)) >>= g_is_integer) >>= boolD) >>= fun b => Pure.pure (!b)) >>= fun x => if x = true then Pure.pure true else (((chainM (Pure.pure (.int 1)) (Pure.pure size0) (Pure.pure (.int 60)) leD leD) >>= boolD) >>= fun b => Pure.pure (!b))) >>= fun x => if x = true then (((Pure.pure size0) >>= fun x => (Pure.pure []) >>= fun xs => Pure.pure (.v x :: xs)) >>= fun as => DL.vals as >>= one1 "InvalidNumber" "value") else (Pure.pure (.nx ()))) fun _ => (thenR (((((((Pure.pure size0) >>= fun x => ((Pure.pure firsts0) >>= fun x => (Pure.pure []) >>= fun xs => Pure.pure (.v x :: xs)) >>= fun xs => Pure.pure (.v x :: xs)) >>= g_is_state_set) >>= boolD) >>= fun b => Pure.pure (!b)) >>= fun x => if x = true then Pure.pure true else (((((Pure.pure size0) >>= fun x => ((Pure.pure lasts0) >>= fun x => (Pure.pure []) >>= fun xs => Pure.pure (.v x :: xs)) >>= fun xs => Pure.pure (.v x :: xs)) >>= g_is_state_set) >>= boolD) >>= fun b => Pure.pure (!b))) >>= fun x => if x = true then (M.raise ⟨"InvalidReader", none⟩) else (Pure.pure (.nx ()))) fun _ => (thenR ((((((Pure.pure letters0) >>= fun x => ((Pure.pure size0) >>= fun x => ((Pure.pure arrows0) >>= fun x => (Pure.pure []) >>= fun xs => Pure.pure (.v x :: xs)) >>= fun xs => Pure.pure (.v x :: xs)) >>= fun xs => Pure.pure (.v x :: xs)) >>= g_is_arrow_set) >>= boolD) >>= fun b => Pure.pure (!b)) >>= fun x => if x = true then (M.raise ⟨"InvalidReader", none⟩) else (Pure.pure (.nx ()))) fun _ => (thenR ((Pure.pure letters0) >>= fun d => Pure.pure (.nx d)) fun letters30 => (thenR (((Pure.pure size0) >>= rngT) >>= fun d => Pure.pure (.nx d)) fun states31 => (thenR ((Pure.pure firsts0) >>= fun d => Pure.pure (.nx d)) fun firsts32 => (thenR ((Pure.pure lasts0) >>= fun d => Pure.pure (.nx d)) fun lasts33 => (thenR ((Pure.pure arrows0) >>= fun d => Pure.pure (.nx d)) fun arrows34 => (thenR ((((Pure.pure letters0) >>= fun x => ((Pure.pure size0) >>= fun x => ((Pure.pure arrows0) >>= fun x => (Pure.pure []) >>= fun xs => Pure.pure (.v x :: xs)) >>= fun xs => Pure.pure (.v x :: xs)) >>= fun xs => Pure.pure (.v x :: xs)) >>= g_table_of) >>= fun d => Pure.pure (.nx d)) fun lone_onward35 => (thenR ((((Pure.pure arrows0) >>= iterA) >>= fun ds => noEx (compF (un3 fun state37 letter38 other39 => Pure.pure true) (un3 fun state37 letter38 other39 => (((Pure.pure other39) >>= fun x => ((Pure.pure letter38) >>= fun x => ((Pure.pure state37) >>= fun x => (Pure.pure []) >>= fun xs => Pure.pure (.v x :: xs)) >>= fun xs => Pure.pure (.v x :: xs)) >>= fun xs => Pure.pure (.v x :: xs)) >>= fun as => DL.vals as >>= mkT)) ds) >>= mkL) >>= fun d => Pure.pure (.nx d)) fun turned36 => (thenR ((((Pure.pure letters0) >>= fun x => ((Pure.pure size0) >>= fun x => ((Pure.pure turned36) >>= fun x => (Pure.pure []) >>= fun xs => Pure.pure (.v x :: xs)) >>= fun xs => Pure.pure (.v x :: xs)) >>= fun xs => Pure.pure (.v x :: xs)) >>= g_table_of) >>= fun d => Pure.pure (.nx d)) fun lone_backward40 => (Pure.pure (.nx (putA "_backward" lone_backward40 (putA "_onward" lone_onward35 (putA "_arrows" arrows34 (putA "_lasts" lasts33 (putA "_firsts" firsts32 (putA "_states" states31 (putA "_letters" letters30 []))))))))))))))))))))) : M (Fl (List (Str × D)))) >>= doneI
def g_Reader_init_d : List Ar → M (List (Str × D))
  | [.v letters0, .v size0, .v firsts0, .v lasts0, .v arrows0] => m_Reader_init_d letters0 size0 firsts0 lasts0 arrows0
  | _ => M.no
theorem c_Reader_init_d {as : List Ar} {P : Pot} {ok : List (Str × D) → Pot → Prop} {ex : Ex → Pot → Prop} (h : out (g_Reader_init_d as) P ok ex) : ∃ letters0 size0 firsts0 lasts0 arrows0, as = [.v letters0, .v size0, .v firsts0, .v lasts0, .v arrows0] := by
  unfold g_Reader_init_d at h; split at h
  · exact ⟨_, _, _, _, _, rfl⟩
  · exact h.elim
theorem ok_Reader_init_d {f : Addr} {fd : FuncData} (Fn : Fun K "__init__" "Reader.__init__" s_Reader_init_d f fd) (b_range : mg "range" = none) (b_tuple : mg "tuple" = none) (e_MAX_STATES : ∃ t, mg "MAX_STATES" = some (.int 60 t)) (d_is_arrow_set : Cal P w K mg base 4 "_is_arrow_set" (spD ⟨mg, K, TT⟩ g_is_arrow_set)) (d_check_letters : Cal P w K mg base 3 "check_letters" (spD ⟨mg, K, TT⟩ g_check_letters)) (d_is_integer : Cal P w K mg base 1 "is_integer" (spD ⟨mg, K, TT⟩ g_is_integer)) (d_is_state_set : Cal P w K mg base 3 "is_state_set" (spD ⟨mg, K, TT⟩ g_is_state_set)) (d_table_of : Cal P w K mg base 1 "table_of" (spD ⟨mg, K, TT⟩ g_table_of)) (x_InvalidReader : Exc0 K mg "InvalidReader") (x_InvalidNumber : Exc1 K mg "InvalidNumber" "value") (hf_arrows : ∀ cn ∈ (["Reader"] : List Str), AtC ⟨mg, K, TT⟩ cn fun C => Cls K C ∧ NoAttr K C "_arrows") (hf_backward : ∀ cn ∈ (["Reader"] : List Str), AtC ⟨mg, K, TT⟩ cn fun C => Cls K C ∧ NoAttr K C "_backward") (hf_firsts : ∀ cn ∈ (["Reader"] : List Str), AtC ⟨mg, K, TT⟩ cn fun C => Cls K C ∧ NoAttr K C "_firsts") (hf_lasts : ∀ cn ∈ (["Reader"] : List Str), AtC ⟨mg, K, TT⟩ cn fun C => Cls K C ∧ NoAttr K C "_lasts") (hf_letters : ∀ cn ∈ (["Reader"] : List Str), AtC ⟨mg, K, TT⟩ cn fun C => Cls K C ∧ NoAttr K C "_letters") (hf_onward : ∀ cn ∈ (["Reader"] : List Str), AtC ⟨mg, K, TT⟩ cn fun C => Cls K C ∧ NoAttr K C "_onward") (hf_states : ∀ cn ∈ (["Reader"] : List Str), AtC ⟨mg, K, TT⟩ cn fun C => Cls K C ∧ NoAttr K C "_states") : FnG P w K mg base 5 f fd ["self", "letters", "size", "firsts", "lasts", "arrows"] (spI ⟨mg, K, TT⟩ "Reader" g_Reader_init_d) := by
  obtain ⟨t_MAX_STATES, c_MAX_STATES⟩ := e_MAX_STATES
  refine fnI_of2 (k := 4) Fn rfl rfl sc_Reader_init_d (fun as P ok ex h => by obtain ⟨letters0, size0, firsts0, lasts0, arrows0, rfl⟩ := c_Reader_init_d h; rfl) fun cd A fr s H0 H1 G0 ap E as P0 ok ex h bx => ?_
  obtain ⟨letters0, size0, firsts0, lasts0, arrows0, rfl⟩ := c_Reader_init_d h
  have hu64 := hu_64 bx.cx.rm
  have hu65 := hu_65 bx.cx.rm
  have hu102 := hu_102 bx.cx.rm
  exact ⟨(fun me (a : List (Str × D)) => [.o (.i me "Reader" a), .un, .un, .un, .un, .un, .un, .un, .un, .un]), _, fun me a => rfl, fun me => ds_at (ρ' := [.o (.i me "Reader" []), .v letters0, .v size0, .v firsts0, .v lasts0, .v arrows0, .un, .un, .un, .un]) rfl (ds_cons (ds_expr (E := (fun (a : Unit) => [.o (.i me "Reader" []), .v letters0, .v size0, .v firsts0, .v lasts0, .v arrows0, .un, .un, .un, .un])) (a := ()) (de_callC d_check_letters ⟨rfl, rfl, bx.cx.ga, bx.cx.rm⟩ (by omega) bx.tk (by rfl) (da_cons (de_var rfl (pv 1)) da_nil)) rfl) fun _ => ds_at (ρ' := [.o (.i me "Reader" []), .v letters0, .v size0, .v firsts0, .v lasts0, .v arrows0, .un, .un, .un, .un]) rfl (ds_cons (ds_if (E := (fun (a : Unit) => [.o (.i me "Reader" []), .v letters0, .v size0, .v firsts0, .v lasts0, .v arrows0, .un, .un, .un, .un])) (PW.pt (dw_or (dt_not (dt_val (de_callC d_is_integer ⟨rfl, rfl, bx.cx.ga, bx.cx.rm⟩ (by omega) bx.tk (by rfl) (da_cons (de_var rfl (pv 2)) da_nil)))) (dw_or1 (dt_not (dt_chain opr_le opr_le opd_le opd_le de_int (de_var rfl (pv 2)) (de_glob (v := .int 60) (by rfl) c_MAX_STATES ⟨_, rfl⟩ fun _ => .int _)))))) (ds_one (ds_raise1 x_InvalidNumber rfl rfl bx.cx.rm (by decide) rfl bx.tk (da_cons (de_var rfl (pv 2)) da_nil) (by rfl))) (ds_end (a := ()) (.k (.k (.k (.k (.k (.k (.k (.k (.k (.k FogL.n)))))))))))) fun _ => ds_at (ρ' := [.o (.i me "Reader" []), .v letters0, .v size0, .v firsts0, .v lasts0, .v arrows0, .un, .un, .un, .un]) rfl (ds_cons (ds_if (E := (fun (a : Unit) => [.o (.i me "Reader" []), .v letters0, .v size0, .v firsts0, .v lasts0, .v arrows0, .un, .un, .un, .un])) (PW.pt (dw_or (dt_not (dt_val (de_callC d_is_state_set ⟨rfl, rfl, bx.cx.ga, bx.cx.rm⟩ (by omega) bx.tk (by rfl) (da_cons (de_var rfl (pv 2)) (da_cons (de_var rfl (pv 3)) da_nil))))) (dw_or1 (dt_not (dt_val (de_callC d_is_state_set ⟨rfl, rfl, bx.cx.ga, bx.cx.rm⟩ (by omega) bx.tk (by rfl) (da_cons (de_var rfl (pv 2)) (da_cons (de_var rfl (pv 4)) da_nil)))))))) (ds_one (ds_raiseC x_InvalidReader rfl rfl rfl bx.tk (by rfl))) (ds_end (a := ()) (.k (.k (.k (.k (.k (.k (.k (.k (.k (.k FogL.n)))))))))))) fun _ => ds_at (ρ' := [.o (.i me "Reader" []), .v letters0, .v size0, .v firsts0, .v lasts0, .v arrows0, .un, .un, .un, .un]) rfl (ds_cons (ds_if (E := (fun (a : Unit) => [.o (.i me "Reader" []), .v letters0, .v size0, .v firsts0, .v lasts0, .v arrows0, .un, .un, .un, .un])) (dt_not (dt_val (de_callC d_is_arrow_set ⟨rfl, rfl, bx.cx.ga, bx.cx.rm⟩ (by omega) bx.tk (by rfl) (da_cons (de_var rfl (pv 1)) (da_cons (de_var rfl (pv 2)) (da_cons (de_var rfl (pv 5)) da_nil)))))) (ds_one (ds_raiseC x_InvalidReader rfl rfl rfl bx.tk (by rfl))) (ds_end (a := ()) (.k (.k (.k (.k (.k (.k (.k (.k (.k (.k FogL.n)))))))))))) fun _ => ds_at (ρ' := [.o (.i me "Reader" []), .v letters0, .v size0, .v firsts0, .v lasts0, .v arrows0, .un, .un, .un, .un]) rfl (ds_cons (ds_fld (i := 0) rfl rfl (hf_letters _ List.mem_cons_self) (l9 l9z) (pv 0) (de_var rfl (pv 1))) fun letters30 => ds_at (ρ' := [.o (.i me "Reader" (putA "_letters" letters30 [])), .v letters0, .v size0, .v firsts0, .v lasts0, .v arrows0, .un, .un, .un, .un]) rfl (ds_cons (ds_fld (i := 0) rfl rfl (hf_states _ List.mem_cons_self) (l9 (l9s l9z)) (pv 0) (de_tupRg rfl (by rfl) b_tuple (by rfl) b_range (de_var rfl (pv 2)))) fun states31 => ds_at (ρ' := [.o (.i me "Reader" (putA "_states" states31 (putA "_letters" letters30 []))), .v letters0, .v size0, .v firsts0, .v lasts0, .v arrows0, .un, .un, .un, .un]) rfl (ds_cons (ds_fld (i := 0) rfl rfl (hf_firsts _ List.mem_cons_self) (l9 (l9s (l9s l9z))) (pv 0) (de_var rfl (pv 3))) fun firsts32 => ds_at (ρ' := [.o (.i me "Reader" (putA "_firsts" firsts32 (putA "_states" states31 (putA "_letters" letters30 [])))), .v letters0, .v size0, .v firsts0, .v lasts0, .v arrows0, .un, .un, .un, .un]) rfl (ds_cons (ds_fld (i := 0) rfl rfl (hf_lasts _ List.mem_cons_self) (l9 (l9s (l9s (l9s l9z)))) (pv 0) (de_var rfl (pv 4))) fun lasts33 => ds_at (ρ' := [.o (.i me "Reader" (putA "_lasts" lasts33 (putA "_firsts" firsts32 (putA "_states" states31 (putA "_letters" letters30 []))))), .v letters0, .v size0, .v firsts0, .v lasts0, .v arrows0, .un, .un, .un, .un]) rfl (ds_cons (ds_fld (i := 0) rfl rfl (hf_arrows _ List.mem_cons_self) (l9 (l9s (l9s (l9s (l9s l9z))))) (pv 0) (de_var rfl (pv 5))) fun arrows34 => ds_at (ρ' := [.o (.i me "Reader" (putA "_arrows" arrows34 (putA "_lasts" lasts33 (putA "_firsts" firsts32 (putA "_states" states31 (putA "_letters" letters30 [])))))), .v letters0, .v size0, .v firsts0, .v lasts0, .v arrows0, .un, .un, .un, .un]) rfl (ds_cons (ds_fld (i := 0) rfl rfl (hf_onward _ List.mem_cons_self) (l9 (l9s (l9s (l9s (l9s (l9s l9z)))))) (pv 0) (de_callC d_table_of ⟨rfl, rfl, bx.cx.ga, bx.cx.rm⟩ (by omega) bx.tk (by rfl) (da_cons (de_var rfl (pv 1)) (da_cons (de_var rfl (pv 2)) (da_cons (de_var rfl (pv 5)) da_nil))))) fun lone_onward35 => ds_at (ρ' := [.o (.i me "Reader" (putA "_onward" lone_onward35 (putA "_arrows" arrows34 (putA "_lasts" lasts33 (putA "_firsts" firsts32 (putA "_states" states31 (putA "_letters" letters30 []))))))), .v letters0, .v size0, .v firsts0, .v lasts0, .v arrows0, .un, .un, .un, .un]) rfl (ds_cons (ds_setLc (i := 6) (own := [("state", 7), ("letter", 8), ("other", 9)])  (tt := tYes) rfl sc_Reader_init_d.nd rfl rfl (sw_true rfl rfl rfl (by decide +kernel)) (blkOk_by (N := N_Reader_init_d) (sc := defScope s_Reader_init_d) (by decide +kernel)) (di_any rfl (de_var rfl (pv 5))) (tgt_tup (is := [7, 8, 9]) rfl (by simp)) (fun ρ d h => un3_no h) test_yes3 (fun _ _ _ _ _ => pg_tup rfl (pgs_cons (pg_name (i := 7) sc_Reader_init_d.nd rfl (Or.inl rfl)) (pgs_cons (pg_name (i := 8) sc_Reader_init_d.nd rfl (Or.inl rfl)) (pgs_cons (pg_name (i := 9) sc_Reader_init_d.nd rfl (Or.inl rfl)) pgs_nil)))) (fun _ _ _ _ _ => pts_nil) (fun _ _ _ _ _ => pe_elt fun F d ρ' e => by obtain ⟨state37, letter38, other39, rfl, rfl⟩ := tupS3 e; exact de_at (ρ' := [.un, .v letters0, .v size0, .v firsts0, .v lasts0, .v arrows0, .un, .v state37, .v letter38, .v other39]) rfl (de_tup (da_cons (de_var rfl (pv 9)) (da_cons (de_var rfl (pv 8)) (da_cons (de_var rfl (pv 7)) da_nil)))))) fun turned36 => ds_at (ρ' := [.o (.i me "Reader" (putA "_onward" lone_onward35 (putA "_arrows" arrows34 (putA "_lasts" lasts33 (putA "_firsts" firsts32 (putA "_states" states31 (putA "_letters" letters30 []))))))), .v letters0, .v size0, .v firsts0, .v lasts0, .v arrows0, .v turned36, .un, .un, .un]) rfl (ds_cons (ds_fld (i := 0) rfl rfl (hf_backward _ List.mem_cons_self) (l9 (l9s (l9s (l9s (l9s (l9s (l9s l9z))))))) (pv 0) (de_callC d_table_of ⟨rfl, rfl, bx.cx.ga, bx.cx.rm⟩ (by omega) bx.tk (by rfl) (da_cons (de_var rfl (pv 1)) (da_cons (de_var rfl (pv 2)) (da_cons (de_var rfl (pv 6)) da_nil))))) fun lone_backward40 => ds_at (ρ' := [.o (.i me "Reader" (putA "_backward" lone_backward40 (putA "_onward" lone_onward35 (putA "_arrows" arrows34 (putA "_lasts" lasts33 (putA "_firsts" firsts32 (putA "_states" states31 (putA "_letters" letters30 [])))))))), .v letters0, .v size0, .v firsts0, .v lasts0, .v arrows0, .v turned36, .un, .un, .un]) rfl (ds_end (a := (putA "_backward" lone_backward40 (putA "_onward" lone_onward35 (putA "_arrows" arrows34 (putA "_lasts" lasts33 (putA "_firsts" firsts32 (putA "_states" states31 (putA "_letters" letters30 [])))))))) (.k (.u (.u (.u (.u (.u (.u (.k (.k (.k FogL.n))))))))))))))))))))))), rfl⟩
abbrev s_Reader_letters : Stmt := mthS 27 2
abbrev N_Reader_letters : List Str := ["self"]
theorem sc_Reader_letters : FnScope N_Reader_letters ["self"] (defScope s_Reader_letters) := ⟨rfl, rfl, rfl, by decide +kernel, rfl, by decide +kernel, by decide +kernel⟩
def m_Reader_letters (self0 : D) : M D := (((Pure.pure self0) >>= fldD ["Reader"] "_letters") >>= fun d => Pure.pure (.rt d)) >>= doneF (α := Unit)
def g_Reader_letters : List Ar → M D
  | [.v self0] => m_Reader_letters self0
  | _ => M.no
theorem c_Reader_letters {as : List Ar} {P : Pot} {ok : D → Pot → Prop} {ex : Ex → Pot → Prop} (h : out (g_Reader_letters as) P ok ex) : ∃ self0, as = [.v self0] := by
  unfold g_Reader_letters at h; split at h
  · exact ⟨_, rfl⟩
  · exact h.elim
theorem ok_Reader_letters {f : Addr} {fd : FuncData} (Fn : Fun K "letters" "Reader.letters" s_Reader_letters f fd) (hf_letters : ∀ cn ∈ (["Reader"] : List Str), AtC ⟨mg, K, TT⟩ cn fun C => Cls K C ∧ NoAttr K C "_letters") : FnG P w K mg base 1 f fd ["self"] (spD ⟨mg, K, TT⟩ g_Reader_letters) := by
  refine fnG_of (k := 0) Fn rfl rfl sc_Reader_letters (fun as P ok ex h => by obtain ⟨self0, rfl⟩ := c_Reader_letters h; rfl) fun cd A fr s H0 G0 ap E as P0 ok ex h bx => ?_
  obtain ⟨self0, rfl⟩ := c_Reader_letters h
  have hu64 := hu_64 bx.cx.rm
  have hu65 := hu_65 bx.cx.rm
  have hu102 := hu_102 bx.cx.rm
  exact ⟨Unit, (fun (a : Unit) => [.un]), _, ds_at (ρ' := [.v self0]) rfl (ds_one (ds_ret (de_fld (cns := ["Reader"]) rfl hf_letters (de_var rfl (pv 0))))), rfl⟩
abbrev s_Reader_firsts : Stmt := mthS 27 3
abbrev N_Reader_firsts : List Str := ["self"]
theorem sc_Reader_firsts : FnScope N_Reader_firsts ["self"] (defScope s_Reader_firsts) := ⟨rfl, rfl, rfl, by decide +kernel, rfl, by decide +kernel, by decide +kernel⟩
def m_Reader_firsts (self0 : D) : M D := (((Pure.pure self0) >>= fldD ["Reader"] "_firsts") >>= fun d => Pure.pure (.rt d)) >>= doneF (α := Unit)
def g_Reader_firsts : List Ar → M D
  | [.v self0] => m_Reader_firsts self0
  | _ => M.no
theorem c_Reader_firsts {as : List Ar} {P : Pot} {ok : D → Pot → Prop} {ex : Ex → Pot → Prop} (h : out (g_Reader_firsts as) P ok ex) : ∃ self0, as = [.v self0] := by
  unfold g_Reader_firsts at h; split at h
  · exact ⟨_, rfl⟩
  · exact h.elim
theorem ok_Reader_firsts {f : Addr} {fd : FuncData} (Fn : Fun K "firsts" "Reader.firsts" s_Reader_firsts f fd) (hf_firsts : ∀ cn ∈ (["Reader"] : List Str), AtC ⟨mg, K, TT⟩ cn fun C => Cls K C ∧ NoAttr K C "_firsts") : FnG P w K mg base 1 f fd ["self"] (spD ⟨mg, K, TT⟩ g_Reader_firsts) := by
  refine fnG_of (k := 0) Fn rfl rfl sc_Reader_firsts (fun as P ok ex h => by obtain ⟨self0, rfl⟩ := c_Reader_firsts h; rfl) fun cd A fr s H0 G0 ap E as P0 ok ex h bx => ?_
  obtain ⟨self0, rfl⟩ := c_Reader_firsts h
  have hu64 := hu_64 bx.cx.rm
  have hu65 := hu_65 bx.cx.rm
  have hu102 := hu_102 bx.cx.rm
  exact ⟨Unit, (fun (a : Unit) => [.un]), _, ds_at (ρ' := [.v self0]) rfl (ds_one (ds_ret (de_fld (cns := ["Reader"]) rfl hf_firsts (de_var rfl (pv 0))))), rfl⟩
abbrev s_Reader_lasts : Stmt := mthS 27 4
abbrev N_Reader_lasts : List Str := ["self"]
theorem sc_Reader_lasts : FnScope N_Reader_lasts ["self"] (defScope s_Reader_lasts) := ⟨rfl, rfl, rfl, by decide +kernel, rfl, by decide +kernel, by decide +kernel⟩
def m_Reader_lasts (self0 : D) : M D := (((Pure.pure self0) >>= fldD ["Reader"] "_lasts") >>= fun d => Pure.pure (.rt d)) >>= doneF (α := Unit)
def g_Reader_lasts : List Ar → M D
  | [.v self0] => m_Reader_lasts self0
  | _ => M.no
theorem c_Reader_lasts {as : List Ar} {P : Pot} {ok : D → Pot → Prop} {ex : Ex → Pot → Prop} (h : out (g_Reader_lasts as) P ok ex) : ∃ self0, as = [.v self0] := by
  unfold g_Reader_lasts at h; split at h
  · exact ⟨_, rfl⟩
  · exact h.elim
theorem ok_Reader_lasts {f : Addr} {fd : FuncData} (Fn : Fun K "lasts" "Reader.lasts" s_Reader_lasts f fd) (hf_lasts : ∀ cn ∈ (["Reader"] : List Str), AtC ⟨mg, K, TT⟩ cn fun C => Cls K C ∧ NoAttr K C "_lasts") : FnG P w K mg base 1 f fd ["self"] (spD ⟨mg, K, TT⟩ g_Reader_lasts) := by
  refine fnG_of (k := 0) Fn rfl rfl sc_Reader_lasts (fun as P ok ex h => by obtain ⟨self0, rfl⟩ := c_Reader_lasts h; rfl) fun cd A fr s H0 G0 ap E as P0 ok ex h bx => ?_
  obtain ⟨self0, rfl⟩ := c_Reader_lasts h
  have hu64 := hu_64 bx.cx.rm
  have hu65 := hu_65 bx.cx.rm
  have hu102 := hu_102 bx.cx.rm
  exact ⟨Unit, (fun (a : Unit) => [.un]), _, ds_at (ρ' := [.v self0]) rfl (ds_one (ds_ret (de_fld (cns := ["Reader"]) rfl hf_lasts (de_var rfl (pv 0))))), rfl⟩
abbrev s_Reader_onward : Stmt := mthS 27 6
abbrev N_Reader_onward : List Str := ["self", "letter"]
theorem sc_Reader_onward : FnScope N_Reader_onward ["self", "letter"] (defScope s_Reader_onward) := ⟨rfl, rfl, rfl, by decide +kernel, rfl, by decide +kernel, by decide +kernel⟩
def m_Reader_onward (self0 : D) (letter0 : D) : M D := ((((Pure.pure self0) >>= fldD ["Reader"] "_onward") >>= fun x => (Pure.pure letter0) >>= fun y => ixA x y) >>= fun d => Pure.pure (.rt d)) >>= doneF (α := Unit)
def g_Reader_onward : List Ar → M D
  | [.v self0, .v letter0] => m_Reader_onward self0 letter0
  | _ => M.no
theorem c_Reader_onward {as : List Ar} {P : Pot} {ok : D → Pot → Prop} {ex : Ex → Pot → Prop} (h : out (g_Reader_onward as) P ok ex) : ∃ self0 letter0, as = [.v self0, .v letter0] := by
  unfold g_Reader_onward at h; split at h
  · exact ⟨_, _, rfl⟩
  · exact h.elim
theorem ok_Reader_onward {f : Addr} {fd : FuncData} (Fn : Fun K "onward" "Reader.onward" s_Reader_onward f fd) (hf_onward : ∀ cn ∈ (["Reader"] : List Str), AtC ⟨mg, K, TT⟩ cn fun C => Cls K C ∧ NoAttr K C "_onward") : FnG P w K mg base 1 f fd ["self", "letter"] (spD ⟨mg, K, TT⟩ g_Reader_onward) := by
  refine fnG_of (k := 0) Fn rfl rfl sc_Reader_onward (fun as P ok ex h => by obtain ⟨self0, letter0, rfl⟩ := c_Reader_onward h; rfl) fun cd A fr s H0 G0 ap E as P0 ok ex h bx => ?_
  obtain ⟨self0, letter0, rfl⟩ := c_Reader_onward h
  have hu64 := hu_64 bx.cx.rm
  have hu65 := hu_65 bx.cx.rm
  have hu102 := hu_102 bx.cx.rm
  exact ⟨Unit, (fun (a : Unit) => [.un, .un]), _, ds_at (ρ' := [.v self0, .v letter0]) rfl (ds_one (ds_ret (de_ixA (hu_1 hu64) rfl (de_fld (cns := ["Reader"]) rfl hf_onward (de_var rfl (pv 0))) (de_var rfl (pv 1)) (by intro _ _; rfl) (by intro _ _; rfl)))), rfl⟩
abbrev s_Reader_len_d : Stmt := mthS 27 17
abbrev N_Reader_len_d : List Str := ["self"]
theorem sc_Reader_len_d : FnScope N_Reader_len_d ["self"] (defScope s_Reader_len_d) := ⟨rfl, rfl, rfl, by decide +kernel, rfl, by decide +kernel, by decide +kernel⟩
def m_Reader_len_d (self0 : D) : M D := (((((Pure.pure self0) >>= fldD ["Reader"] "_states") >>= fun x => (Pure.pure []) >>= fun xs => Pure.pure (.v x :: xs)) >>= fun as => DL.vals as >>= f1 lenD) >>= fun d => Pure.pure (.rt d)) >>= doneF (α := Unit)
def g_Reader_len_d : List Ar → M D
  | [.v self0] => m_Reader_len_d self0
  | _ => M.no
theorem c_Reader_len_d {as : List Ar} {P : Pot} {ok : D → Pot → Prop} {ex : Ex → Pot → Prop} (h : out (g_Reader_len_d as) P ok ex) : ∃ self0, as = [.v self0] := by
  unfold g_Reader_len_d at h; split at h
  · exact ⟨_, rfl⟩
  · exact h.elim
theorem ok_Reader_len_d {f : Addr} {fd : FuncData} (Fn : Fun K "__len__" "Reader.__len__" s_Reader_len_d f fd) (b_len : mg "len" = none) (hf_states : ∀ cn ∈ (["Reader"] : List Str), AtC ⟨mg, K, TT⟩ cn fun C => Cls K C ∧ NoAttr K C "_states") : FnG P w K mg base 1 f fd ["self"] (spD ⟨mg, K, TT⟩ g_Reader_len_d) := by
  refine fnG_of (k := 0) Fn rfl rfl sc_Reader_len_d (fun as P ok ex h => by obtain ⟨self0, rfl⟩ := c_Reader_len_d h; rfl) fun cd A fr s H0 G0 ap E as P0 ok ex h bx => ?_
  obtain ⟨self0, rfl⟩ := c_Reader_len_d h
  have hu64 := hu_64 bx.cx.rm
  have hu65 := hu_65 bx.cx.rm
  have hu102 := hu_102 bx.cx.rm
  exact ⟨Unit, (fun (a : Unit) => [.un]), _, ds_at (ρ' := [.v self0]) rfl (ds_one (ds_ret (de_blt cr_len cd_len (by rfl) b_len (by decide +kernel) (da_cons (de_fld (cns := ["Reader"]) rfl hf_states (de_var rfl (pv 0))) da_nil)))), rfl⟩
abbrev s_check_reader : Stmt := topS 28
abbrev N_check_reader : List Str := ["value"]
theorem sc_check_reader : FnScope N_check_reader ["value"] (defScope s_check_reader) := ⟨rfl, rfl, rfl, by decide +kernel, rfl, by decide +kernel, by decide +kernel⟩
def m_check_reader (value0 : D) : M D := (thenR (((((Pure.pure value0) >>= isiC "Reader") >>= boolD) >>= fun b => Pure.pure (!b)) >>= fun x => if x = true then (M.raise ⟨"InvalidReader", none⟩) else (Pure.pure (.nx ()))) fun _ => (Pure.pure (.nx ()))) >>= doneF (α := Unit)
def g_check_reader : List Ar → M D
  | [.v value0] => m_check_reader value0
  | _ => M.no
theorem c_check_reader {as : List Ar} {P : Pot} {ok : D → Pot → Prop} {ex : Ex → Pot → Prop} (h : out (g_check_reader as) P ok ex) : ∃ value0, as = [.v value0] := by
  unfold g_check_reader at h; split at h
  · exact ⟨_, rfl⟩
  · exact h.elim
theorem ok_check_reader {f : Addr} {fd : FuncData} (Fn : Fun K "check_reader" "check_reader" s_check_reader f fd) (b_isinstance : mg "isinstance" = none) (x_InvalidReader : Exc0 K mg "InvalidReader") (hC_Reader : isCls ⟨mg, K, TT⟩ "Reader") (hT_Reader : InsTy ⟨mg, K, TT⟩ "Reader") : FnG P w K mg base 1 f fd ["value"] (spD ⟨mg, K, TT⟩ g_check_reader) := by
  refine fnG_of (k := 0) Fn rfl rfl sc_check_reader (fun as P ok ex h => by obtain ⟨value0, rfl⟩ := c_check_reader h; rfl) fun cd A fr s H0 G0 ap E as P0 ok ex h bx => ?_
  obtain ⟨value0, rfl⟩ := c_check_reader h
  have hu64 := hu_64 bx.cx.rm
  have hu65 := hu_65 bx.cx.rm
  have hu102 := hu_102 bx.cx.rm
  exact ⟨Unit, (fun (a : Unit) => [.un]), _, ds_at (ρ' := [.v value0]) rfl (ds_cons (ds_if (E := (fun (a : Unit) => [.v value0])) (dt_not (dt_val (de_isiO ⟨rfl, rfl, bx.cx.ga, bx.cx.rm⟩ hT_Reader hC_Reader rfl (by rfl) b_isinstance (de_var rfl (pv 0)) (by rfl)))) (ds_one (ds_raiseC x_InvalidReader rfl rfl rfl bx.tk (by rfl))) (ds_end (a := ()) (.k FogL.n))) fun _ => ds_at (ρ' := [.v value0]) rfl (ds_end (a := ()) (.u FogL.n))), rfl⟩
abbrev s_below : Stmt := topS 39
abbrev N_below : List Str := ["mask", "state"]
theorem sc_below : FnScope N_below ["mask", "state"] (defScope s_below) := ⟨rfl, rfl, rfl, by decide +kernel, rfl, by decide +kernel, by decide +kernel⟩
def m_below (mask0 : D) (state0 : D) : M D := (((Pure.pure mask0) >>= fun x => (((Pure.pure (.int 1)) >>= fun x => (Pure.pure state0) >>= fun y => shlD x y) >>= fun x => (Pure.pure (.int 1)) >>= fun y => subD x y) >>= fun y => andD x y) >>= fun d => Pure.pure (.rt d)) >>= doneF (α := Unit)
def g_below : List Ar → M D
  | [.v mask0, .v state0] => m_below mask0 state0
  | _ => M.no
theorem c_below {as : List Ar} {P : Pot} {ok : D → Pot → Prop} {ex : Ex → Pot → Prop} (h : out (g_below as) P ok ex) : ∃ mask0 state0, as = [.v mask0, .v state0] := by
  unfold g_below at h; split at h
  · exact ⟨_, _, rfl⟩
  · exact h.elim
theorem ok_below {f : Addr} {fd : FuncData} (Fn : Fun K "_below" "_below" s_below f fd)  : FnG P w K mg base 1 f fd ["mask", "state"] (spD ⟨mg, K, TT⟩ g_below) := by
  refine fnG_of (k := 0) Fn rfl rfl sc_below (fun as P ok ex h => by obtain ⟨mask0, state0, rfl⟩ := c_below h; rfl) fun cd A fr s H0 G0 ap E as P0 ok ex h bx => ?_
  obtain ⟨mask0, state0, rfl⟩ := c_below h
  have hu64 := hu_64 bx.cx.rm
  have hu65 := hu_65 bx.cx.rm
  have hu102 := hu_102 bx.cx.rm
  exact ⟨Unit, (fun (a : Unit) => [.un, .un]), _, ds_at (ρ' := [.v mask0, .v state0]) rfl (ds_one (ds_ret (de_op op_and opd_and (de_var rfl (pv 0)) (de_op op_sub opd_sub (de_op op_shlW opd_shl de_int (de_var rfl (pv 1))) de_int)))), rfl⟩
abbrev s_led : Stmt := topS 38
abbrev N_led : List Str := ["leads", "pair", "others", "state", "earlier", "to"]
theorem sc_led : FnScope N_led ["leads", "pair"] (defScope s_led) := ⟨rfl, rfl, rfl, by decide +kernel, rfl, by decide +kernel, by decide +kernel⟩
def m_led (leads0 : D) (pair0 : D) : M D := (thenR (((Pure.pure pair0) >>= fun d => Pure.pure (untuk d)) >>= un2 fun x y => Pure.pure (.nx (x, y))) fun state42 => (thenR ((((Pure.pure leads0) >>= fun x => ((Pure.pure state42.2) >>= fun x => (Pure.pure []) >>= fun xs => Pure.pure (.v x :: xs)) >>= fun xs => Pure.pure (.v x :: xs)) >>= g_image) >>= fun d => Pure.pure (.nx d)) fun others43 => ((((((((Pure.pure leads0) >>= fun x => (Pure.pure state42.1) >>= fun y => ixD x y) >>= fun x => ((Pure.pure others43) >>= invD) >>= fun y => andD x y) >>= fun x => (Pure.pure []) >>= fun xs => Pure.pure (.v x :: xs)) >>= g_states_of) >>= iterA) >>= fun ds => noEx (compF (fun _ => Pure.pure true) (fun to44 => (((Pure.pure to44) >>= fun x => (((Pure.pure others43) >>= fun x => ((((Pure.pure leads0) >>= fun x => (Pure.pure state42.1) >>= fun y => ixD x y) >>= fun x => ((Pure.pure to44) >>= fun x => (Pure.pure []) >>= fun xs => Pure.pure (.v x :: xs)) >>= fun xs => Pure.pure (.v x :: xs)) >>= g_below) >>= fun y => orD x y) >>= fun x => (Pure.pure []) >>= fun xs => Pure.pure (.v x :: xs)) >>= fun xs => Pure.pure (.v x :: xs)) >>= fun as => DL.vals as >>= fun ds => keyL ds >>= mkK)) ds) >>= mkL) >>= fun d => Pure.pure (.rt d)))) >>= doneF (α := Unit)
def g_led : List Ar → M D
  | [.v leads0, .v pair0] => m_led leads0 pair0
  | _ => M.no
theorem c_led {as : List Ar} {P : Pot} {ok : D → Pot → Prop} {ex : Ex → Pot → Prop} (h : out (g_led as) P ok ex) : ∃ leads0 pair0, as = [.v leads0, .v pair0] := by
  unfold g_led at h; split at h
  · exact ⟨_, _, rfl⟩
  · exact h.elim
theorem ok_led {f : Addr} {fd : FuncData} (Fn : Fun K "_led" "_led" s_led f fd) (d_below : Cal P w K mg base 1 "_below" (spD ⟨mg, K, TT⟩ g_below)) (d_image : Cal P w K mg base 1 "image" (spD ⟨mg, K, TT⟩ g_image)) (d_states_of : Cal P w K mg base 1 "states_of" (spD ⟨mg, K, TT⟩ g_states_of)) : FnG P w K mg base 2 f fd ["leads", "pair"] (spD ⟨mg, K, TT⟩ g_led) := by
  refine fnG_of (k := 1) Fn rfl rfl sc_led (fun as P ok ex h => by obtain ⟨leads0, pair0, rfl⟩ := c_led h; rfl) fun cd A fr s H0 G0 ap E as P0 ok ex h bx => ?_
  obtain ⟨leads0, pair0, rfl⟩ := c_led h
  have hu64 := hu_64 bx.cx.rm
  have hu65 := hu_65 bx.cx.rm
  have hu102 := hu_102 bx.cx.rm
  exact ⟨Unit, (fun (a : Unit) => [.un, .un, .un, .un, .un, .un]), _, ds_at (ρ' := [.v leads0, .v pair0, .un, .un, .un, .un]) rfl (ds_cons (ds_asg2 (i := 3) (j := 4) rfl rfl (pgs_cons (pg_name (i := 3) sc_led.nd rfl (Or.inr rfl)) (pgs_cons (pg_name (i := 4) sc_led.nd rfl (Or.inl rfl)) pgs_nil)) (de_untuk (de_var rfl (pv 1)))) fun state42 => ds_at (ρ' := [.v leads0, .v pair0, .un, .v state42.1, .v state42.2, .un]) rfl (ds_cons (ds_set (i := 2) sc_led.nd rfl (Or.inr rfl) (de_callC d_image ⟨rfl, rfl, bx.cx.ga, bx.cx.rm⟩ (by omega) bx.tk (by rfl) (da_cons (de_var rfl (pv 0)) (da_cons (de_var rfl (pv 4)) da_nil)))) fun others43 => ds_at (ρ' := [.v leads0, .v pair0, .v others43, .v state42.1, .v state42.2, .un]) rfl (ds_one (ds_ret (de_lc (own := [("to", 5)]) (g := gName 5) (tt := tYes) rfl sc_led.nd (blkOk_by (N := N_led) (sc := defScope s_led) (by decide +kernel)) (di_any rfl (de_callC d_states_of ⟨rfl, rfl, bx.cx.ga, bx.cx.rm⟩ (by omega) bx.tk (by rfl) (da_cons (de_op op_and opd_and (de_ix rfl (de_var rfl (pv 0)) (de_var rfl (pv 3)) (by intro _ _; rfl)) (de_un un_inv und_inv (de_var rfl (pv 2)))) da_nil))) (tgt_name (by simp)) (fun ρ d h => nomatch h) test_yes (fun _ _ _ _ _ => pg_name (i := 5) sc_led.nd rfl (Or.inl rfl)) (fun _ _ _ _ _ => pts_nil) (fun _ _ _ _ _ => pe_elt fun F to44 ρ' e => by cases e; exact de_at (ρ' := [.v leads0, .v pair0, .v others43, .v state42.1, .v state42.2, .v to44]) rfl (de_tuk (da_cons (de_var rfl (pv 5)) (da_cons (de_op op_or opd_or (de_var rfl (pv 2)) (de_callC d_below ⟨rfl, rfl, bx.cx.ga, bx.cx.rm⟩ (by omega) takes0 (by rfl) (da_cons (de_ix rfl (de_var rfl (pv 0)) (de_var rfl (pv 3)) (by intro _ _; rfl)) (da_cons (de_var rfl (pv 5)) da_nil)))) da_nil))))))))), rfl⟩
abbrev s_met : Stmt := topS 37
abbrev N_met : List Str := ["reader", "firsts", "found", "number", "arrows", "at", "letter", "state", "pair"]
theorem sc_met : FnScope N_met ["reader"] (defScope s_met) := ⟨rfl, rfl, rfl, by decide +kernel, rfl, by decide +kernel, by decide +kernel⟩
def m_met (reader0 : D) : M D := (thenR (((((Pure.pure reader0) >>= fun d => insP "Reader" d >>= fun _ => noEx (g_Reader_firsts [.v d])) >>= fun x => (Pure.pure []) >>= fun xs => Pure.pure (.v x :: xs)) >>= g_mask_of) >>= fun d => Pure.pure (.nx d)) fun firsts45 => (thenR (((((Pure.pure reader0) >>= fun d => insP "Reader" d >>= fun _ => noEx (g_Reader_firsts [.v d])) >>= iterA) >>= fun ds => noEx (compF (fun _ => Pure.pure true) (fun state47 => (((Pure.pure state47) >>= fun x => ((((Pure.pure firsts45) >>= fun x => ((Pure.pure state47) >>= fun x => (Pure.pure []) >>= fun xs => Pure.pure (.v x :: xs)) >>= fun xs => Pure.pure (.v x :: xs)) >>= g_below) >>= fun x => (Pure.pure []) >>= fun xs => Pure.pure (.v x :: xs)) >>= fun xs => Pure.pure (.v x :: xs)) >>= fun as => DL.vals as >>= fun ds => keyL ds >>= mkK)) ds) >>= mkN) >>= fun ds => Pure.pure (.nx ds)) fun found46 => (thenR (putsM found46 >>= fun kvs => Pure.pure (.nx kvs)) fun number48 => (thenR (((Pure.pure []) >>= fun as => DL.vals as >>= mkN) >>= fun ds => Pure.pure (.nx ds)) fun arrows49 => (thenR ((Pure.pure (.int 0)) >>= fun d => Pure.pure (.nx d)) fun at50 => (thenR (whileF (fun (a51 : D × List D × List (List Key × D) × List D) => (((Pure.pure a51.1) >>= fun x => (Pure.pure (.int (a51.2.1.length : Nat))) >>= fun y => ltD x y) >>= boolD)) (fun (a51 : D × List D × List (List Key × D) × List D) => (thenR ((((Pure.pure reader0) >>= fun d => insP "Reader" d >>= fun _ => noEx (g_Reader_letters [.v d])) >>= iterA) >>= fun ds => forF (fun (a52 : List D × List (List Key × D) × List D) letter53 => (thenR ((((((Pure.pure reader0) >>= fun d => insG "Reader" "onward" d >>= fun _ => ((Pure.pure letter53) >>= fun x => (Pure.pure []) >>= fun xs => Pure.pure (.v x :: xs)) >>= fun as => g_Reader_onward (.v d :: as)) >>= fun x => (((Pure.pure a51.1) >>= ixL a52.1) >>= fun x => (Pure.pure []) >>= fun xs => Pure.pure (.v x :: xs)) >>= fun xs => Pure.pure (.v x :: xs)) >>= g_led) >>= iterA) >>= fun ds => forF (fun (a54 : List D × List (List Key × D) × List D) pair55 => (thenR (((Pure.pure pair55) >>= keyT >>= fun k => Pure.pure (!(getX a54.2.1 k).isSome)) >>= fun x => if x = true then (thenR ((Pure.pure (.int (a54.1.length : Nat))) >>= fun d => (Pure.pure pair55) >>= fun y => keyT y >>= fun k => if a54.2.1.length < sizeLine then Pure.pure (.nx (putX a54.2.1 k d)) else M.no) fun number56 => (thenR ((Pure.pure pair55) >>= fun d => if a54.1.length < sizeLine then Pure.pure (.nx d) else M.no) fun d57 => (thenR ((((Pure.pure (.int ((a54.1 ++ [d57]).length : Nat))) >>= fun x => (Pure.pure (.int 60)) >>= fun y => gtD x y) >>= boolD) >>= fun x => if x = true then (((Pure.pure (.int 60)) >>= fun x => (Pure.pure []) >>= fun xs => Pure.pure (.v x :: xs)) >>= fun as => DL.vals as >>= one1 "TooMany" "limit") else (Pure.pure (.nx ()))) fun _ => (Pure.pure (.nx ((a54.1 ++ [d57]), number56)))))) else (Pure.pure (.nx (a54.1, a54.2.1)))) fun a59 => (thenR ((((Pure.pure a51.1) >>= fun x => ((Pure.pure letter53) >>= fun x => (((Pure.pure pair55) >>= fun y => keyT y >>= fun k => M.some (getX a59.2 k)) >>= fun x => (Pure.pure []) >>= fun xs => Pure.pure (.v x :: xs)) >>= fun xs => Pure.pure (.v x :: xs)) >>= fun xs => Pure.pure (.v x :: xs)) >>= fun as => DL.vals as >>= mkT) >>= fun d => if a54.2.2.length < sizeLine then Pure.pure (.nx d) else M.no) fun d60 => (Pure.pure (.nx (a59.1, a59.2, (a54.2.2 ++ [d60]))))))) ds (a52.1, a52.2.1, a52.2.2)) fun a61 => (Pure.pure (.nx (a61.1, a61.2.1, a61.2.2))))) ds (a51.2.1, a51.2.2.1, a51.2.2.2)) fun a62 => (thenR ((Pure.pure (.int 1)) >>= fun y => addI2 a51.1 y >>= fun d => Pure.pure (.nx d)) fun at63 => (Pure.pure (.nx (at63, a62.1, a62.2.1, a62.2.2)))))) WF (at50, found46, number48, arrows49)) fun a64 => ((((Pure.pure (.lst a64.2.1)) >>= fun x => ((Pure.pure (.lst a64.2.2.2)) >>= fun x => (Pure.pure []) >>= fun xs => Pure.pure (.v x :: xs)) >>= fun xs => Pure.pure (.v x :: xs)) >>= fun as => DL.vals as >>= mkT) >>= fun d => Pure.pure (.rt d)))))))) >>= doneF (α := Unit)
def g_met : List Ar → M D
  | [.v reader0] => m_met reader0
  | _ => M.no
theorem c_met {as : List Ar} {P : Pot} {ok : D → Pot → Prop} {ex : Ex → Pot → Prop} (h : out (g_met as) P ok ex) : ∃ reader0, as = [.v reader0] := by
  unfold g_met at h; split at h
  · exact ⟨_, rfl⟩
  · exact h.elim
theorem ok_met {f : Addr} {fd : FuncData} (Fn : Fun K "_met" "_met" s_met f fd) (b_enumerate : mg "enumerate" = none) (b_len : mg "len" = none) (e_MAX_STATES : ∃ t, mg "MAX_STATES" = some (.int 60 t)) (d_below : Cal P w K mg base 1 "_below" (spD ⟨mg, K, TT⟩ g_below)) (d_led : Cal P w K mg base 2 "_led" (spD ⟨mg, K, TT⟩ g_led)) (d_mask_of : Cal P w K mg base 1 "mask_of" (spD ⟨mg, K, TT⟩ g_mask_of)) (x_TooMany : Exc1 K mg "TooMany" "limit") (d_Reader_onward : CalM P w ⟨mg, K, TT⟩ base 1 "Reader" "onward" g_Reader_onward) (d_Reader_firsts : CalP P w ⟨mg, K, TT⟩ base 1 "Reader" "firsts" g_Reader_firsts) (d_Reader_letters : CalP P w ⟨mg, K, TT⟩ base 1 "Reader" "letters" g_Reader_letters) : FnG P w K mg base 3 f fd ["reader"] (spD ⟨mg, K, TT⟩ g_met) := by
  obtain ⟨t_MAX_STATES, c_MAX_STATES⟩ := e_MAX_STATES
  refine fnG_of (k := 2) Fn rfl rfl sc_met (fun as P ok ex h => by obtain ⟨reader0, rfl⟩ := c_met h; rfl) fun cd A fr s H0 G0 ap E as P0 ok ex h bx => ?_
  obtain ⟨reader0, rfl⟩ := c_met h
  have hu64 := hu_64 bx.cx.rm
  have hu65 := hu_65 bx.cx.rm
  have hu102 := hu_102 bx.cx.rm
  refine ⟨Unit, (fun (a : Unit) => [.un, .un, .un, .un, .un, .un, .un, .un, .un]), _, ds_at (ρ' := [.v reader0, .un, .un, .un, .un, .un, .un, .un, .un]) rfl (ds_cons (ds_set (i := 1) sc_met.nd rfl (Or.inr rfl) (de_callC d_mask_of ⟨rfl, rfl, bx.cx.ga, bx.cx.rm⟩ (by omega) bx.tk (by rfl) (da_cons (de_propC d_Reader_firsts ⟨rfl, rfl, bx.cx.ga, bx.cx.rm⟩ (by omega) (de_var rfl (pv 0))) da_nil))) fun firsts45 => ds_at (ρ' := [.v reader0, .v firsts45, .un, .un, .un, .un, .un, .un, .un]) rfl (ds_cons (ds_ownLc (i := 2) (own := [("state", 7)]) (g := gName 7) (tt := tYes) rfl sc_met.nd rfl rfl (sw_true rfl rfl rfl (by decide +kernel)) (blkOk_by (N := N_met) (sc := defScope s_met) (by decide +kernel)) (di_any rfl (de_propC d_Reader_firsts ⟨rfl, rfl, bx.cx.ga, bx.cx.rm⟩ (by omega) (de_var rfl (pv 0)))) (tgt_name (by simp)) (fun ρ d h => nomatch h) test_yes (fun _ _ _ _ _ => pg_name (i := 7) sc_met.nd rfl (Or.inl rfl)) (fun _ _ _ _ _ => pts_nil) (fun _ _ _ _ _ => pe_elt fun F state47 ρ' e => by cases e; exact de_at (ρ' := [.v reader0, .v firsts45, .un, .un, .un, .un, .un, .v state47, .un]) rfl (de_tuk (da_cons (de_var rfl (pv 7)) (da_cons (de_callC d_below ⟨rfl, rfl, bx.cx.ga, bx.cx.rm⟩ (by omega) takes0 (by rfl) (da_cons (de_var rfl (pv 1)) (da_cons (de_var rfl (pv 7)) da_nil))) da_nil))))) fun found46 => ds_at (ρ' := [.v reader0, .v firsts45, .o (.l found46), .un, .un, .un, .un, .un, .un]) rfl (ds_cons (ds_ownDcE (i := 3) (j := 2) (i1 := 5) (i2 := 8) (own := [("at", 5), ("pair", 8)]) (hu_1 hu64) rfl rfl rfl rfl sc_met.nd rfl rfl (sw_trueD rfl rfl rfl (by decide +kernel)) rfl (pv 2) (by rfl) b_enumerate (blkOk_by (N := N_met) (sc := defScope s_met) (by decide +kernel)) rfl (by decide) (by simp) (by simp) (fun _ _ _ _ _ => pg_tup rfl (pgs_cons (pg_name (i := 5) sc_met.nd rfl (Or.inl rfl)) (pgs_cons (pg_name (i := 8) sc_met.nd rfl (Or.inl rfl)) pgs_nil))) (fun _ _ _ _ _ => pv 8) (fun _ _ _ _ _ => pv 5)) fun number48 => ds_at (ρ' := [.v reader0, .v firsts45, .o (.l found46), .o (.dt number48), .un, .un, .un, .un, .un]) rfl (ds_cons (ds_ownLst (i := 4) sc_met.nd rfl (Or.inl rfl) da_nil) fun arrows49 => ds_at (ρ' := [.v reader0, .v firsts45, .o (.l found46), .o (.dt number48), .o (.l arrows49), .un, .un, .un, .un]) rfl (ds_cons (ds_set (i := 5) sc_met.nd rfl (Or.inl rfl) de_int) fun at50 => ds_at (ρ' := [.v reader0, .v firsts45, .o (.l found46), .o (.dt number48), .o (.l arrows49), .v at50, .un, .un, .un]) rfl (ds_cons (ds_while (E := (fun (a : D × List D × List (List Key × D) × List D) => [.v reader0, .v firsts45, .o (.l a.2.1), .o (.dt a.2.2.1), .o (.l a.2.2.2), .v a.1, .un, .un, .un])) (a₀ := (at50, found46, number48, arrows49)) (n := WF) bx.own (Rel.fogL (.k (.k (.k (.k (.k (.k (.k (.k (.k FogL.n)))))))))) (pt_ex fun a51 => dt_at (ρ' := [.v reader0, .v firsts45, .o (.l a51.2.1), .o (.dt a51.2.2.1), .o (.l a51.2.2.2), .v a51.1, .un, .un, .un]) rfl (dt_cmp opr_lt opd_lt (de_var rfl (pv 5)) (de_lenO rfl rfl (pv 2) (by rfl) b_len (by decide +kernel)))) (pss_ex fun a51 => ds_at (ρ' := [.v reader0, .v firsts45, .o (.l a51.2.1), .o (.dt a51.2.2.1), .o (.l a51.2.2.2), .v a51.1, .un, .un, .un]) rfl (ds_cons (ds_for (E := (fun (a : List D × List (List Key × D) × List D) => [.v reader0, .v firsts45, .o (.l a.1), .o (.dt a.2.1), .o (.l a.2.2), .v a51.1, .un, .un, .un])) (a₀ := (a51.2.1, a51.2.2.1, a51.2.2.2)) (t := fun (a : List D × List (List Key × D) × List D) d => some (((fun (a : List D × List (List Key × D) × List D) => [.v reader0, .v firsts45, .o (.l a.1), .o (.dt a.2.1), .o (.l a.2.2), .v a51.1, .un, .un, .un]) a).set 6 (.v d))) bx.own rfl (Rel.fogL (.k (.k (.k (.k (.k (.k (.k (.k (.k FogL.n)))))))))) (di_any rfl (de_propC d_Reader_letters ⟨rfl, rfl, bx.cx.ga, bx.cx.rm⟩ (by omega) (de_var rfl (pv 0)))) (pg_ex fun a => dg_name (i := 6) sc_met.nd rfl (Or.inl rfl)) (fun a d h => nomatch h) (pss_for fun a52 letter53 ρ' e => by cases e; exact ds_at (ρ' := [.v reader0, .v firsts45, .o (.l a52.1), .o (.dt a52.2.1), .o (.l a52.2.2), .v a51.1, .v letter53, .un, .un]) rfl (ds_cons (ds_for (E := (fun (a : List D × List (List Key × D) × List D) => [.v reader0, .v firsts45, .o (.l a.1), .o (.dt a.2.1), .o (.l a.2.2), .v a51.1, .v letter53, .un, .un])) (a₀ := (a52.1, a52.2.1, a52.2.2)) (t := fun (a : List D × List (List Key × D) × List D) d => some (((fun (a : List D × List (List Key × D) × List D) => [.v reader0, .v firsts45, .o (.l a.1), .o (.dt a.2.1), .o (.l a.2.2), .v a51.1, .v letter53, .un, .un]) a).set 8 (.v d))) bx.own rfl (Rel.fogL (.k (.k (.k (.k (.k (.k (.k (.k (.k FogL.n)))))))))) (di_any rfl (de_callC d_led ⟨rfl, rfl, bx.cx.ga, bx.cx.rm⟩ (by omega) bx.tk (by rfl) (da_cons (de_mthC d_Reader_onward ⟨rfl, rfl, bx.cx.ga, bx.cx.rm⟩ (by omega) bx.tk (de_var rfl (pv 0)) (da_cons (de_var rfl (pv 6)) da_nil)) (da_cons (de_ixO (i := 2) rfl rfl (pv 2) (de_var rfl (pv 5)) (by intro _ _; rfl)) da_nil)))) (pg_ex fun a => dg_name (i := 8) sc_met.nd rfl (Or.inl rfl)) (fun a d h => nomatch h) (pss_for fun a54 pair55 ρ' e => by cases e; exact ds_at (ρ' := [.v reader0, .v firsts45, .o (.l a54.1), .o (.dt a54.2.1), .o (.l a54.2.2), .v a51.1, .v letter53, .un, .v pair55]) rfl (ds_cons (ds_if (E := (fun (a : List D × List (List Key × D)) => [.v reader0, .v firsts45, .o (.l a.1), .o (.dt a.2), .o (.l a54.2.2), .v a51.1, .v letter53, .un, .v pair55])) (dt_notinT (i := 3) (ds := a54.2.1) (by have := hu64; omega) rfl (pv 3) (de_var rfl (pv 8))) (ds_cons (ds_putTv (i := 3) (ds := a54.2.1) (by have := hu64; omega) rfl (pv 3) (de_lenO rfl rfl (pv 2) (by rfl) b_len (by decide +kernel)) (de_var rfl (pv 8))) fun number56 => ds_at (ρ' := [.v reader0, .v firsts45, .o (.l a54.1), .o (.dt number56), .o (.l a54.2.2), .v a51.1, .v letter53, .un, .v pair55]) rfl (ds_cons (ds_append (i := 2) rfl rfl (pv 2) (de_var rfl (pv 8))) fun d57 => ds_at (ρ' := [.v reader0, .v firsts45, .o (.l (a54.1 ++ [d57])), .o (.dt number56), .o (.l a54.2.2), .v a51.1, .v letter53, .un, .v pair55]) rfl (ds_cons (ds_if (E := (fun (a : Unit) => [.v reader0, .v firsts45, .o (.l (a54.1 ++ [d57])), .o (.dt number56), .o (.l a54.2.2), .v a51.1, .v letter53, .un, .v pair55])) (dt_cmp opr_gt opd_gt (de_lenO rfl rfl (pv 2) (by rfl) b_len (by decide +kernel)) (de_glob (v := .int 60) (by rfl) c_MAX_STATES ⟨_, rfl⟩ fun _ => .int _)) (ds_one (ds_raise1 x_TooMany rfl rfl bx.cx.rm (by decide) rfl bx.tk (da_cons (de_glob (v := .int 60) (by rfl) c_MAX_STATES ⟨_, rfl⟩ fun _ => .int _) da_nil) (by rfl))) (ds_end (a := ()) (.k (.k (.k (.k (.k (.k (.k (.k (.k FogL.n))))))))))) fun _ => ds_at (ρ' := [.v reader0, .v firsts45, .o (.l (a54.1 ++ [d57])), .o (.dt number56), .o (.l a54.2.2), .v a51.1, .v letter53, .un, .v pair55]) rfl (ds_end (a := ((a54.1 ++ [d57]), number56)) (.k (.k (.k (.k (.k (.k (.k (.k (.k FogL.n))))))))))))) (ds_end (a := (a54.1, a54.2.1)) (.k (.k (.k (.k (.k (.k (.k (.k (.k FogL.n))))))))))) fun a59 => ds_at (ρ' := [.v reader0, .v firsts45, .o (.l a59.1), .o (.dt a59.2), .o (.l a54.2.2), .v a51.1, .v letter53, .un, .v pair55]) rfl (ds_cons (ds_append (i := 4) rfl rfl (pv 4) (de_tup (da_cons (de_var rfl (pv 5)) (da_cons (de_var rfl (pv 6)) (da_cons (de_getT (i := 3) (by have := hu64; omega) rfl (pv 3) (de_var rfl (pv 8))) da_nil))))) fun d60 => ds_at (ρ' := [.v reader0, .v firsts45, .o (.l a59.1), .o (.dt a59.2), .o (.l (a54.2.2 ++ [d60])), .v a51.1, .v letter53, .un, .v pair55]) rfl (ds_end (a := (a59.1, a59.2, (a54.2.2 ++ [d60]))) (.k (.k (.k (.k (.k (.k (.k (.k (.u FogL.n)))))))))))))) fun a61 => ds_at (ρ' := [.v reader0, .v firsts45, .o (.l a61.1), .o (.dt a61.2.1), .o (.l a61.2.2), .v a51.1, .v letter53, .un, .un]) rfl (ds_end (a := (a61.1, a61.2.1, a61.2.2)) (.k (.k (.k (.k (.k (.k (.u (.k (.k FogL.n))))))))))))) fun a62 => ds_at (ρ' := [.v reader0, .v firsts45, .o (.l a62.1), .o (.dt a62.2.1), .o (.l a62.2.2), .v a51.1, .un, .un, .un]) rfl (ds_cons (ds_augAdd (i := 5) sc_met.nd rfl (Or.inl rfl) rfl de_int) fun at63 => ds_at (ρ' := [.v reader0, .v firsts45, .o (.l a62.1), .o (.dt a62.2.1), .o (.l a62.2.2), .v at63, .un, .un, .un]) rfl (ds_end (a := (at63, a62.1, a62.2.1, a62.2.2)) (.k (.k (.k (.k (.k (.k (.k (.k (.k FogL.n)))))))))))))) fun a64 => ds_at (ρ' := [.v reader0, .v firsts45, .o (.l a64.2.1), .o (.dt a64.2.2.1), .o (.l a64.2.2.2), .v a64.1, .un, .un, .un]) rfl (ds_letgo (i := 2) rfl (ds_at (ρ' := [.v reader0, .v firsts45, .v (.lst a64.2.1), .o (.dt a64.2.2.1), .o (.l a64.2.2.2), .v a64.1, .un, .un, .un]) rfl (ds_letgoLT (i := 3) rfl (ds_at (ρ' := [.v reader0, .v firsts45, .v (.lst a64.2.1), .v (.dct (a64.2.2.1.map (·.1))), .o (.l a64.2.2.2), .v a64.1, .un, .un, .un]) rfl (ds_letgo (i := 4) rfl (ds_at (ρ' := [.v reader0, .v firsts45, .v (.lst a64.2.1), .v (.dct (a64.2.2.1.map (·.1))), .v (.lst a64.2.2.2), .v a64.1, .un, .un, .un]) rfl (ds_one (ds_ret (de_tup (da_cons (de_var rfl (pv 2)) (da_cons (de_var rfl (pv 4)) da_nil))))))))))))))))), ?_⟩
  rfl
abbrev s_careful : Stmt := topS 35
abbrev N_careful : List Str := ["reader", "found", "_", "state", "earlier"]
theorem sc_careful : FnScope N_careful ["reader"] (defScope s_careful) := ⟨rfl, rfl, rfl, by decide +kernel, rfl, by decide +kernel, by decide +kernel⟩
def m_careful (reader0 : D) : M D := (thenR ((((Pure.pure reader0) >>= fun x => (Pure.pure []) >>= fun xs => Pure.pure (.v x :: xs)) >>= g_check_reader) >>= fun _ => Pure.pure (.nx ())) fun _ => (thenR ((((Pure.pure reader0) >>= fun x => (Pure.pure []) >>= fun xs => Pure.pure (.v x :: xs)) >>= g_met) >>= un2 fun x y => Pure.pure (.nx (x, y))) fun found65 => (((((((Pure.pure found65.1) >>= fun d => Pure.pure (untukL d)) >>= iterA) >>= fun ds => noEx (compF (un2 fun state66 earlier67 => Pure.pure true) (un2 fun state66 earlier67 => (((Pure.pure state66) >>= fun x => ((((Pure.pure earlier67) >>= fun x => (Pure.pure []) >>= fun xs => Pure.pure (.v x :: xs)) >>= g_states_of) >>= fun x => (Pure.pure []) >>= fun xs => Pure.pure (.v x :: xs)) >>= fun xs => Pure.pure (.v x :: xs)) >>= fun as => DL.vals as >>= mkT)) ds) >>= mkL) >>= fun x => (Pure.pure []) >>= fun xs => Pure.pure (.v x :: xs)) >>= fun as => DL.vals as >>= f1 tupleD) >>= fun d => Pure.pure (.rt d)))) >>= doneF (α := Unit)
def g_careful : List Ar → M D
  | [.v reader0] => m_careful reader0
  | _ => M.no
theorem c_careful {as : List Ar} {P : Pot} {ok : D → Pot → Prop} {ex : Ex → Pot → Prop} (h : out (g_careful as) P ok ex) : ∃ reader0, as = [.v reader0] := by
  unfold g_careful at h; split at h
  · exact ⟨_, rfl⟩
  · exact h.elim
theorem ok_careful {f : Addr} {fd : FuncData} (Fn : Fun K "careful" "careful" s_careful f fd) (b_tuple : mg "tuple" = none) (d_met : Cal P w K mg base 3 "_met" (spD ⟨mg, K, TT⟩ g_met)) (d_check_reader : Cal P w K mg base 1 "check_reader" (spD ⟨mg, K, TT⟩ g_check_reader)) (d_states_of : Cal P w K mg base 1 "states_of" (spD ⟨mg, K, TT⟩ g_states_of)) : FnG P w K mg base 4 f fd ["reader"] (spD ⟨mg, K, TT⟩ g_careful) := by
  refine fnG_of (k := 3) Fn rfl rfl sc_careful (fun as P ok ex h => by obtain ⟨reader0, rfl⟩ := c_careful h; rfl) fun cd A fr s H0 G0 ap E as P0 ok ex h bx => ?_
  obtain ⟨reader0, rfl⟩ := c_careful h
  have hu64 := hu_64 bx.cx.rm
  have hu65 := hu_65 bx.cx.rm
  have hu102 := hu_102 bx.cx.rm
  exact ⟨Unit, (fun (a : Unit) => [.un, .un, .un, .un, .un]), _, ds_at (ρ' := [.v reader0, .un, .un, .un, .un]) rfl (ds_cons (ds_expr (E := (fun (a : Unit) => [.v reader0, .un, .un, .un, .un])) (a := ()) (de_callC d_check_reader ⟨rfl, rfl, bx.cx.ga, bx.cx.rm⟩ (by omega) bx.tk (by rfl) (da_cons (de_var rfl (pv 0)) da_nil)) rfl) fun _ => ds_at (ρ' := [.v reader0, .un, .un, .un, .un]) rfl (ds_cons (ds_asg2 (i := 1) (j := 2) rfl rfl (pgs_cons (pg_name (i := 1) sc_careful.nd rfl (Or.inl rfl)) (pgs_cons (pg_name (i := 2) sc_careful.nd rfl (Or.inl rfl)) pgs_nil)) (de_callC d_met ⟨rfl, rfl, bx.cx.ga, bx.cx.rm⟩ (by omega) bx.tk (by rfl) (da_cons (de_var rfl (pv 0)) da_nil))) fun found65 => ds_at (ρ' := [.v reader0, .v found65.1, .v found65.2, .un, .un]) rfl (ds_one (ds_ret (de_ty cr_tuple cd_tuple (by rfl) b_tuple (by decide +kernel) (da_cons (de_lc (own := [("state", 3), ("earlier", 4)])  (tt := tYes) rfl sc_careful.nd (blkOk_by (N := N_careful) (sc := defScope s_careful) (by decide +kernel)) (di_any rfl (de_untukL (de_var rfl (pv 1)))) (tgt_tup (is := [3, 4]) rfl (by simp)) (fun ρ d h => un2_no h) test_yes2 (fun _ _ _ _ _ => pg_tup rfl (pgs_cons (pg_name (i := 3) sc_careful.nd rfl (Or.inl rfl)) (pgs_cons (pg_name (i := 4) sc_careful.nd rfl (Or.inl rfl)) pgs_nil))) (fun _ _ _ _ _ => pts_nil) (fun _ _ _ _ _ => pe_elt fun F d ρ' e => by obtain ⟨state66, earlier67, rfl, rfl⟩ := tupS2 e; exact de_at (ρ' := [.v reader0, .v found65.1, .v found65.2, .v state66, .v earlier67]) rfl (de_tup (da_cons (de_var rfl (pv 3)) (da_cons (de_callC d_states_of ⟨rfl, rfl, bx.cx.ga, bx.cx.rm⟩ (by omega) takes0 (by rfl) (da_cons (de_var rfl (pv 4)) da_nil)) da_nil))))) da_nil)))))), rfl⟩
abbrev s_lone_of : Stmt := topS 36
abbrev N_lone_of : List Str := ["reader", "lasts", "new_lasts", "new_firsts", "found", "arrows", "at", "state", "earlier"]
theorem sc_lone_of : FnScope N_lone_of ["reader"] (defScope s_lone_of) := ⟨rfl, rfl, rfl, by decide +kernel, rfl, by decide +kernel, by decide +kernel⟩
def m_lone_of (reader0 : D) : M D := (thenR ((((Pure.pure reader0) >>= fun x => (Pure.pure []) >>= fun xs => Pure.pure (.v x :: xs)) >>= g_check_reader) >>= fun _ => Pure.pure (.nx ())) fun _ => (thenR ((((Pure.pure reader0) >>= fun x => (Pure.pure []) >>= fun xs => Pure.pure (.v x :: xs)) >>= g_met) >>= un2 fun x y => Pure.pure (.nx (x, y))) fun found68 => (thenR (((((Pure.pure reader0) >>= fun d => insP "Reader" d >>= fun _ => noEx (g_Reader_lasts [.v d])) >>= fun x => (Pure.pure []) >>= fun xs => Pure.pure (.v x :: xs)) >>= g_mask_of) >>= fun d => Pure.pure (.nx d)) fun lasts69 => (thenR (((((Pure.pure found68.1) >>= fun d => Pure.pure (untukL d)) >>= enumD) >>= fun ds => noEx (compF (unN fun at71 state72 earlier73 => (((((Pure.pure lasts69) >>= fun x => (Pure.pure state72) >>= fun y => shrD x y) >>= fun x => (Pure.pure (.int 1)) >>= fun y => andD x y) >>= truI) >>= fun x => if x = true then ((((Pure.pure lasts69) >>= fun x => (Pure.pure earlier73) >>= fun y => andD x y) >>= truI) >>= fun b => Pure.pure (!b)) else Pure.pure false)) (unN fun at71 state72 earlier73 => (Pure.pure at71)) ds) >>= mkL) >>= fun d => Pure.pure (.nx d)) fun new_lasts70 => (thenR ((((((Pure.pure reader0) >>= fun d => insP "Reader" d >>= fun _ => noEx (g_Reader_firsts [.v d])) >>= fun x => (Pure.pure []) >>= fun xs => Pure.pure (.v x :: xs)) >>= fun as => DL.vals as >>= f1 lenD) >>= rngT) >>= fun d => Pure.pure (.nx d)) fun new_firsts74 => (((((Pure.pure reader0) >>= fun d => insP "Reader" d >>= fun _ => noEx (g_Reader_letters [.v d])) >>= fun x => (((((((Pure.pure found68.1) >>= fun d => Pure.pure (untukL d)) >>= fun x => (Pure.pure []) >>= fun xs => Pure.pure (.v x :: xs)) >>= fun as => DL.vals as >>= f1 lenD) >>= fun x => ((Pure.pure (.int 1)) >>= fun x => (Pure.pure []) >>= fun xs => Pure.pure (.v x :: xs)) >>= fun xs => Pure.pure (.v x :: xs)) >>= fun as => DL.vals as >>= f2 maxD) >>= fun x => ((Pure.pure new_firsts74) >>= fun x => ((((Pure.pure new_lasts70) >>= fun x => (Pure.pure []) >>= fun xs => Pure.pure (.v x :: xs)) >>= fun as => DL.vals as >>= f1 tupleD) >>= fun x => ((((((Pure.pure found68.2) >>= fun x => (Pure.pure []) >>= fun xs => Pure.pure (.v x :: xs)) >>= fun as => DL.vals as >>= f1 sortA) >>= fun x => (Pure.pure []) >>= fun xs => Pure.pure (.v x :: xs)) >>= fun as => DL.vals as >>= f1 tupleD) >>= fun x => (Pure.pure []) >>= fun xs => Pure.pure (.v x :: xs)) >>= fun xs => Pure.pure (.v x :: xs)) >>= fun xs => Pure.pure (.v x :: xs)) >>= fun xs => Pure.pure (.v x :: xs)) >>= fun xs => Pure.pure (.v x :: xs)) >>= fun as => g_Reader_init_d as >>= fun fs => Pure.pure (.ins "Reader" fs)) >>= fun d => Pure.pure (.rt d))))))) >>= doneF (α := Unit)
def g_lone_of : List Ar → M D
  | [.v reader0] => m_lone_of reader0
  | _ => M.no
theorem c_lone_of {as : List Ar} {P : Pot} {ok : D → Pot → Prop} {ex : Ex → Pot → Prop} (h : out (g_lone_of as) P ok ex) : ∃ reader0, as = [.v reader0] := by
  unfold g_lone_of at h; split at h
  · exact ⟨_, rfl⟩
  · exact h.elim
theorem ok_lone_of {f : Addr} {fd : FuncData} (Fn : Fun K "lone_of" "lone_of" s_lone_of f fd) (b_enumerate : mg "enumerate" = none) (b_len : mg "len" = none) (b_max : mg "max" = none) (b_range : mg "range" = none) (b_sorted : mg "sorted" = none) (b_tuple : mg "tuple" = none) (d_met : Cal P w K mg base 3 "_met" (spD ⟨mg, K, TT⟩ g_met)) (d_check_reader : Cal P w K mg base 1 "check_reader" (spD ⟨mg, K, TT⟩ g_check_reader)) (d_mask_of : Cal P w K mg base 1 "mask_of" (spD ⟨mg, K, TT⟩ g_mask_of)) (d_Reader_init_d : CalI P w ⟨mg, K, TT⟩ base 5 "Reader" g_Reader_init_d) (d_Reader_firsts : CalP P w ⟨mg, K, TT⟩ base 1 "Reader" "firsts" g_Reader_firsts) (d_Reader_lasts : CalP P w ⟨mg, K, TT⟩ base 1 "Reader" "lasts" g_Reader_lasts) (d_Reader_letters : CalP P w ⟨mg, K, TT⟩ base 1 "Reader" "letters" g_Reader_letters) : FnG P w K mg base 7 f fd ["reader"] (spD ⟨mg, K, TT⟩ g_lone_of) := by
  refine fnG_of (k := 6) Fn rfl rfl sc_lone_of (fun as P ok ex h => by obtain ⟨reader0, rfl⟩ := c_lone_of h; rfl) fun cd A fr s H0 G0 ap E as P0 ok ex h bx => ?_
  obtain ⟨reader0, rfl⟩ := c_lone_of h
  have hu64 := hu_64 bx.cx.rm
  have hu65 := hu_65 bx.cx.rm
  have hu102 := hu_102 bx.cx.rm
  exact ⟨Unit, (fun (a : Unit) => [.un, .un, .un, .un, .un, .un, .un, .un, .un]), _, ds_at (ρ' := [.v reader0, .un, .un, .un, .un, .un, .un, .un, .un]) rfl (ds_cons (ds_expr (E := (fun (a : Unit) => [.v reader0, .un, .un, .un, .un, .un, .un, .un, .un])) (a := ()) (de_callC d_check_reader ⟨rfl, rfl, bx.cx.ga, bx.cx.rm⟩ (by omega) bx.tk (by rfl) (da_cons (de_var rfl (pv 0)) da_nil)) rfl) fun _ => ds_at (ρ' := [.v reader0, .un, .un, .un, .un, .un, .un, .un, .un]) rfl (ds_cons (ds_asg2 (i := 4) (j := 5) rfl rfl (pgs_cons (pg_name (i := 4) sc_lone_of.nd rfl (Or.inl rfl)) (pgs_cons (pg_name (i := 5) sc_lone_of.nd rfl (Or.inl rfl)) pgs_nil)) (de_callC d_met ⟨rfl, rfl, bx.cx.ga, bx.cx.rm⟩ (by omega) bx.tk (by rfl) (da_cons (de_var rfl (pv 0)) da_nil))) fun found68 => ds_at (ρ' := [.v reader0, .un, .un, .un, .v found68.1, .v found68.2, .un, .un, .un]) rfl (ds_cons (ds_set (i := 1) sc_lone_of.nd rfl (Or.inr rfl) (de_callC d_mask_of ⟨rfl, rfl, bx.cx.ga, bx.cx.rm⟩ (by omega) bx.tk (by rfl) (da_cons (de_propC d_Reader_lasts ⟨rfl, rfl, bx.cx.ga, bx.cx.rm⟩ (by omega) (de_var rfl (pv 0))) da_nil))) fun lasts69 => ds_at (ρ' := [.v reader0, .v lasts69, .un, .un, .v found68.1, .v found68.2, .un, .un, .un]) rfl (ds_cons (ds_setLc (i := 2) (own := [("at", 6), ("state", 7), ("earlier", 8)])   rfl sc_lone_of.nd rfl rfl (sw_true rfl rfl rfl (by decide +kernel)) (blkOk_by (N := N_lone_of) (sc := defScope s_lone_of) (by decide +kernel)) (di_enum rfl (by rfl) b_enumerate (de_untukL (de_var rfl (pv 4)))) (tgt_tupN (i := 6) (a := 7) (b := 8) rfl (by simp) (by simp) (by simp)) (fun ρ d h => unN_no h) test_rd (fun _ _ _ _ _ => pg_tup rfl (pgs_cons (pg_name (i := 6) sc_lone_of.nd rfl (Or.inl rfl)) (pgs_cons (pg_tup rfl (pgs_cons (pg_name (i := 7) sc_lone_of.nd rfl (Or.inl rfl)) (pgs_cons (pg_name (i := 8) sc_lone_of.nd rfl (Or.inl rfl)) pgs_nil))) pgs_nil))) (fun _ _ _ _ _ => pts_one (pt_tst fun F d ρ' e => by obtain ⟨at71, state72, earlier73, rfl, rfl⟩ := tupNS e; exact dt_at (ρ' := [.v reader0, .v lasts69, .un, .un, .v found68.1, .v found68.2, .v at71, .v state72, .v earlier73]) rfl (PW.pt (by exact (dw_and (dt_tri rfl (de_op op_and opd_and (de_op op_shr opd_shr (de_var rfl (pv 1)) (de_var rfl (pv 7))) de_int)) (dw_and1 (dt_not (dt_tri rfl (de_op op_and opd_and (de_var rfl (pv 1)) (de_var rfl (pv 8))))))))))) (fun _ _ _ _ _ => pe_elt fun F d ρ' e => by obtain ⟨at71, state72, earlier73, rfl, rfl⟩ := tupNS e; exact de_at (ρ' := [.v reader0, .v lasts69, .un, .un, .v found68.1, .v found68.2, .v at71, .v state72, .v earlier73]) rfl (de_var rfl (pv 6)))) fun new_lasts70 => ds_at (ρ' := [.v reader0, .v lasts69, .v new_lasts70, .un, .v found68.1, .v found68.2, .un, .un, .un]) rfl (ds_cons (ds_set (i := 3) sc_lone_of.nd rfl (Or.inl rfl) (de_tupRg rfl (by rfl) b_tuple (by rfl) b_range (de_blt cr_len cd_len (by rfl) b_len (by decide +kernel) (da_cons (de_propC d_Reader_firsts ⟨rfl, rfl, bx.cx.ga, bx.cx.rm⟩ (by omega) (de_var rfl (pv 0))) da_nil)))) fun new_firsts74 => ds_at (ρ' := [.v reader0, .v lasts69, .v new_lasts70, .v new_firsts74, .v found68.1, .v found68.2, .un, .un, .un]) rfl (ds_one (ds_ret (de_makeC d_Reader_init_d ⟨rfl, rfl, bx.cx.ga, bx.cx.rm⟩ (by omega) bx.tk rfl (by rfl) (da_cons (de_propC d_Reader_letters ⟨rfl, rfl, bx.cx.ga, bx.cx.rm⟩ (by omega) (de_var rfl (pv 0))) (da_cons (de_blt (DL.cr_max rfl) cd_max (by rfl) b_max (by decide +kernel) (da_cons (de_blt cr_len cd_len (by rfl) b_len (by decide +kernel) (da_cons (de_untukL (de_var rfl (pv 4))) da_nil)) (da_cons de_int da_nil))) (da_cons (de_var rfl (pv 3)) (da_cons (de_ty cr_tuple cd_tuple (by rfl) b_tuple (by decide +kernel) (da_cons (de_var rfl (pv 2)) da_nil)) (da_cons (de_ty cr_tuple cd_tuple (by rfl) b_tuple (by decide +kernel) (da_cons (de_blt (cr_sortA hu64) cd_sortA (by rfl) b_sorted (by decide +kernel) (da_cons (de_var rfl (pv 5)) da_nil)) da_nil)) da_nil))))))))))))), rfl⟩
abbrev s_l_pot : Stmt := topS 41
abbrev N_l_pot : List Str := ["_law_script", "_law_at", "_law_cell", "_law_great", "_law_blend"]
theorem sc_l_pot : FnScope N_l_pot ["_law_script", "_law_at"] (defScope s_l_pot) := ⟨rfl, rfl, rfl, by decide +kernel, rfl, by decide +kernel, by decide +kernel⟩
def m_l_pot (l_script0 : D) (l_at0 : D) : M (List D) := (thenF (((((Pure.pure l_at0) >>= fun x => (((Pure.pure l_script0) >>= fun x => (Pure.pure []) >>= fun xs => Pure.pure (.v x :: xs)) >>= fun as => DL.vals as >>= f1 lenD) >>= fun y => ltD x y) >>= boolD) >>= fun x => if x = true then ((Pure.pure l_script0) >>= fun x => (Pure.pure l_at0) >>= fun y => ixD x y) else (((Pure.pure (.int 67)) >>= fun x => (Pure.pure l_at0) >>= fun y => mulD x y) >>= fun x => (Pure.pure (.int 37)) >>= fun y => addD x y)) >>= fun d => Pure.pure (.nx d)) fun l_cell75 => (thenF (((((((Pure.pure l_cell75) >>= fun x => (Pure.pure []) >>= fun xs => Pure.pure (.v x :: xs)) >>= fun as => DL.vals as >>= f1 absD) >>= fun x => (Pure.pure []) >>= fun xs => Pure.pure (.v x :: xs)) >>= fun as => DL.vals as >>= f1 intOf) >>= fun x => (((Pure.pure (.int 10)) >>= fun x => (Pure.pure (.int 61)) >>= fun y => powD x y) >>= fun x => (Pure.pure (.int 11)) >>= fun y => powD x y) >>= fun y => modD x y) >>= fun d => Pure.pure (.nx d)) fun l_great76 => (thenF (((((((((Pure.pure l_great76) >>= fun x => (Pure.pure []) >>= fun xs => Pure.pure (.v x :: xs)) >>= fun as => DL.vals as >>= f1 intOf) >>= fun x => (Pure.pure (.int 2147483249)) >>= fun y => modD x y) >>= fun x => (Pure.pure (.int 96293)) >>= fun y => mulD x y) >>= fun x => ((Pure.pure (.int 9413)) >>= fun x => (Pure.pure l_at0) >>= fun y => mulD x y) >>= fun y => addD x y) >>= fun x => ((Pure.pure (.int 47)) >>= fun x => ((((Pure.pure l_cell75) >>= fun x => (Pure.pure (.int 0)) >>= fun y => ltD x y) >>= fun x => (Pure.pure []) >>= fun xs => Pure.pure (.v x :: xs)) >>= fun as => DL.vals as >>= f1 intOf) >>= fun y => mulD x y) >>= fun y => addD x y) >>= fun x => (Pure.pure (.int 73)) >>= fun y => addD x y) >>= fun d => Pure.pure (.nx d)) fun l_blend77 => (((((Pure.pure (.int 0)) >>= fun x => (((Pure.pure l_great76) >>= fun x => ((Pure.pure (.int 10)) >>= fun x => (Pure.pure (.int 18)) >>= fun y => powD x y) >>= fun y => subD x y) >>= fun x => (Pure.pure []) >>= fun xs => Pure.pure (.v x :: xs)) >>= fun xs => Pure.pure (.v x :: xs)) >>= fun as => DL.vals as >>= f2 maxD) >>= fun x => (((((Pure.pure l_blend77) >>= fun x => (Pure.pure []) >>= fun xs => Pure.pure (.v x :: xs)) >>= fun as => DL.vals as >>= f1 intOf) >>= fun x => (Pure.pure (.int 2305843009213693907)) >>= fun y => modD x y) >>= fun x => ((Pure.pure (.int 0)) >>= fun x => (Pure.pure []) >>= fun xs => Pure.pure (.v x :: xs)) >>= fun xs => Pure.pure (.v x :: xs)) >>= fun xs => Pure.pure (.v x :: xs)) >>= fun as => DL.vals as >>= mkN))))
def g_l_pot : List Ar → M (List D)
  | [.v l_script0, .v l_at0] => m_l_pot l_script0 l_at0
  | _ => M.no
theorem c_l_pot {as : List Ar} {P : Pot} {ok : List D → Pot → Prop} {ex : Ex → Pot → Prop} (h : out (g_l_pot as) P ok ex) : ∃ l_script0 l_at0, as = [.v l_script0, .v l_at0] := by
  unfold g_l_pot at h; split at h
  · exact ⟨_, _, rfl⟩
  · exact h.elim
theorem ok_l_pot {f : Addr} {fd : FuncData} (Fn : Fun K "_law_pot" "_law_pot" s_l_pot f fd) (b_abs : mg "abs" = none) (b_int : mg "int" = none) (b_len : mg "len" = none) (b_max : mg "max" = none) : FnG P w K mg base 1 f fd ["_law_script", "_law_at"] (spF ⟨mg, K, TT⟩ g_l_pot) := by
  refine fnF_of (k := 0) Fn rfl rfl sc_l_pot (fun as P ok ex h => by obtain ⟨l_script0, l_at0, rfl⟩ := c_l_pot h; rfl) fun cd A fr s H0 G0 ap E as P0 ok ex h bx => ?_
  obtain ⟨l_script0, l_at0, rfl⟩ := c_l_pot h
  have hu64 := hu_64 bx.cx.rm
  have hu65 := hu_65 bx.cx.rm
  have hu102 := hu_102 bx.cx.rm
  exact df_at (ρ' := [.v l_script0, .v l_at0, .un, .un, .un]) rfl (df_cons (ds_set (i := 2) sc_l_pot.nd rfl (Or.inl rfl) (de_if (dt_cmp opr_lt opd_lt (de_var rfl (pv 1)) (de_blt cr_len cd_len (by rfl) b_len (by decide +kernel) (da_cons (de_var rfl (pv 0)) da_nil))) (de_ix rfl (de_var rfl (pv 0)) (de_var rfl (pv 1)) (by intro _ _; rfl)) (de_op opr_add opd_add (de_op opr_mul opd_mul de_int (de_var rfl (pv 1))) de_int))) fun l_cell75 => df_at (ρ' := [.v l_script0, .v l_at0, .v l_cell75, .un, .un]) rfl (df_cons (ds_set (i := 3) sc_l_pot.nd rfl (Or.inl rfl) (de_op op_mod opd_mod (de_ty cr_int cd_int (by rfl) b_int (by decide +kernel) (da_cons (de_blt cr_abs cd_abs (by rfl) b_abs (by decide +kernel) (da_cons (de_var rfl (pv 2)) da_nil)) da_nil)) (de_op op_powX opd_pow (de_op op_powX opd_pow de_int de_int) de_int))) fun l_great76 => df_at (ρ' := [.v l_script0, .v l_at0, .v l_cell75, .v l_great76, .un]) rfl (df_cons (ds_set (i := 4) sc_l_pot.nd rfl (Or.inl rfl) (de_op opr_add opd_add (de_op opr_add opd_add (de_op opr_add opd_add (de_op opr_mul opd_mul (de_op op_mod opd_mod (de_ty cr_int cd_int (by rfl) b_int (by decide +kernel) (da_cons (de_var rfl (pv 3)) da_nil)) de_int) de_int) (de_op opr_mul opd_mul de_int (de_var rfl (pv 1)))) (de_op opr_mul opd_mul de_int (de_ty cr_int cd_int (by rfl) b_int (by decide +kernel) (da_cons (de_cmp opr_lt opd_lt (de_var rfl (pv 2)) de_int) da_nil)))) de_int)) fun l_blend77 => df_at (ρ' := [.v l_script0, .v l_at0, .v l_cell75, .v l_great76, .v l_blend77]) rfl (df_ret (da_cons (de_blt (DL.cr_max rfl) cd_max (by rfl) b_max (by decide +kernel) (da_cons de_int (da_cons (de_op op_sub opd_sub (de_var rfl (pv 3)) (de_op op_powX opd_pow de_int de_int)) da_nil))) (da_cons (de_op op_mod opd_mod (de_ty cr_int cd_int (by rfl) b_int (by decide +kernel) (da_cons (de_var rfl (pv 4)) da_nil)) de_int) (da_cons de_int da_nil)))))))
abbrev s_l_bit : Stmt := topS 42
abbrev N_l_bit : List Str := ["_law_pot_here", "_law_much", "_law_first", "_law_later", "_law_found"]
theorem sc_l_bit : FnScope N_l_bit ["_law_pot_here", "_law_much"] (defScope s_l_bit) := ⟨rfl, rfl, rfl, by decide +kernel, rfl, by decide +kernel, by decide +kernel⟩
def m_l_bit (l_much0 : D) : M D := (thenR (((((Pure.pure (.int 0)) >>= potGet) >>= fun x => (Pure.pure (.int 0)) >>= fun y => gtD x y) >>= boolD) >>= fun x => if x = true then (thenR ((((((Pure.pure (.int 0)) >>= potGet) >>= fun x => (Pure.pure []) >>= fun xs => Pure.pure (.v x :: xs)) >>= fun as => DL.vals as >>= f1 intOf) >>= fun x => (Pure.pure l_much0) >>= fun y => modD x y) >>= fun d => Pure.pure (.nx d)) fun l_found78 => (thenR ((((Pure.pure (.int 0)) >>= potGet) >>= fun x => (Pure.pure l_much0) >>= fun y => fdivD x y) >>= fun d => (Pure.pure (.int 0)) >>= fun y => potSet y d >>= fun _ => Pure.pure (.nx ())) fun _ => ((Pure.pure l_found78) >>= fun d => Pure.pure (.rt d)))) else (Pure.pure (.nx ()))) fun _ => (thenR ((((Pure.pure (.int 2)) >>= potGet) >>= fun x => (Pure.pure (.int 1)) >>= fun y => addD x y) >>= fun d => (Pure.pure (.int 2)) >>= fun y => potSet y d >>= fun _ => Pure.pure (.nx ())) fun _ => (thenR (((((((Pure.pure (.int 1)) >>= potGet) >>= fun x => ((Pure.pure (.int 1000453)) >>= fun x => ((Pure.pure (.int 2)) >>= potGet) >>= fun y => mulD x y) >>= fun y => addD x y) >>= fun x => (Pure.pure []) >>= fun xs => Pure.pure (.v x :: xs)) >>= fun as => DL.vals as >>= f1 intOf) >>= fun x => (Pure.pure (.int 2305843009213693951)) >>= fun y => modD x y) >>= fun d => Pure.pure (.nx d)) fun l_first80 => (thenR ((((((((Pure.pure l_first80) >>= fun x => (Pure.pure l_first80) >>= fun y => mulD x y) >>= fun x => (Pure.pure []) >>= fun xs => Pure.pure (.v x :: xs)) >>= fun as => DL.vals as >>= f1 intOf) >>= fun x => (Pure.pure (.int 2305843009213693921)) >>= fun y => modD x y) >>= fun x => (Pure.pure l_first80) >>= fun y => mulD x y) >>= fun x => ((Pure.pure (.int 9103)) >>= fun x => ((Pure.pure (.int 2)) >>= potGet) >>= fun y => mulD x y) >>= fun y => addD x y) >>= fun d => Pure.pure (.nx d)) fun l_later81 => (((((((((Pure.pure l_later81) >>= fun x => (Pure.pure []) >>= fun xs => Pure.pure (.v x :: xs)) >>= fun as => DL.vals as >>= f1 intOf) >>= fun x => (Pure.pure (.int 2305843009213693907)) >>= fun y => modD x y) >>= fun x => (Pure.pure (.int 16384)) >>= fun y => fdivD x y) >>= fun x => (Pure.pure []) >>= fun xs => Pure.pure (.v x :: xs)) >>= fun as => DL.vals as >>= f1 intOf) >>= fun x => (Pure.pure l_much0) >>= fun y => modD x y) >>= fun d => Pure.pure (.rt d)))))) >>= doneF (α := Unit)
def g_l_bit : List Ar → M D
  | [.p, .v l_much0] => m_l_bit l_much0
  | _ => M.no
theorem c_l_bit {as : List Ar} {P : Pot} {ok : D → Pot → Prop} {ex : Ex → Pot → Prop} (h : out (g_l_bit as) P ok ex) : ∃ l_much0, as = [.p, .v l_much0] := by
  unfold g_l_bit at h; split at h
  · exact ⟨_, rfl⟩
  · exact h.elim
theorem ok_l_bit {f : Addr} {fd : FuncData} (Fn : Fun K "_law_bit" "_law_bit" s_l_bit f fd) (b_int : mg "int" = none) : FnG P w K mg base 1 f fd ["_law_pot_here", "_law_much"] (spD ⟨mg, K, TT⟩ g_l_bit) := by
  refine fnG_of (k := 0) Fn rfl rfl sc_l_bit (fun as P ok ex h => by obtain ⟨l_much0, rfl⟩ := c_l_bit h; rfl) fun cd A fr s H0 G0 ap E as P0 ok ex h bx => ?_
  obtain ⟨l_much0, rfl⟩ := c_l_bit h
  have hu64 := hu_64 bx.cx.rm
  have hu65 := hu_65 bx.cx.rm
  have hu102 := hu_102 bx.cx.rm
  exact ⟨Unit, (fun (a : Unit) => [.p, .un, .un, .un, .un]), _, ds_at (ρ' := [.p, .v l_much0, .un, .un, .un]) rfl (ds_cons (ds_if (E := (fun (a : Unit) => [.p, .v l_much0, .un, .un, .un])) (dt_cmp opr_gt opd_gt (de_potIx rfl rfl (pv 0) de_int (by intro _ _; rfl)) de_int) (ds_cons (ds_set (i := 4) sc_l_bit.nd rfl (Or.inl rfl) (de_op op_mod opd_mod (de_ty cr_int cd_int (by rfl) b_int (by decide +kernel) (da_cons (de_potIx rfl rfl (pv 0) de_int (by intro _ _; rfl)) da_nil)) (de_var rfl (pv 1)))) fun l_found78 => ds_at (ρ' := [.p, .v l_much0, .un, .un, .v l_found78]) rfl (ds_cons (ds_potSet (E := (fun (a : Unit) => [.p, .v l_much0, .un, .un, .v l_found78])) (a := ()) rfl (pv 0) de_int (de_op op_fdivW opd_fdiv (de_potIx rfl rfl (pv 0) de_int (by intro _ _; rfl)) (de_var rfl (pv 1))) rfl) fun _ => ds_at (ρ' := [.p, .v l_much0, .un, .un, .v l_found78]) rfl (ds_one (ds_ret (de_var rfl (pv 4)))))) (ds_end (a := ()) (.k (.k (.k (.k (.k FogL.n))))))) fun _ => ds_at (ρ' := [.p, .v l_much0, .un, .un, .un]) rfl (ds_cons (ds_potSet (E := (fun (a : Unit) => [.p, .v l_much0, .un, .un, .un])) (a := ()) rfl (pv 0) de_int (de_op opr_add opd_add (de_potIx rfl rfl (pv 0) de_int (by intro _ _; rfl)) de_int) rfl) fun _ => ds_at (ρ' := [.p, .v l_much0, .un, .un, .un]) rfl (ds_cons (ds_set (i := 2) sc_l_bit.nd rfl (Or.inl rfl) (de_op op_mod opd_mod (de_ty cr_int cd_int (by rfl) b_int (by decide +kernel) (da_cons (de_op opr_add opd_add (de_potIx rfl rfl (pv 0) de_int (by intro _ _; rfl)) (de_op opr_mul opd_mul de_int (de_potIx rfl rfl (pv 0) de_int (by intro _ _; rfl)))) da_nil)) de_int)) fun l_first80 => ds_at (ρ' := [.p, .v l_much0, .v l_first80, .un, .un]) rfl (ds_cons (ds_set (i := 3) sc_l_bit.nd rfl (Or.inl rfl) (de_op opr_add opd_add (de_op opr_mul opd_mul (de_op op_mod opd_mod (de_ty cr_int cd_int (by rfl) b_int (by decide +kernel) (da_cons (de_op opr_mul opd_mul (de_var rfl (pv 2)) (de_var rfl (pv 2))) da_nil)) de_int) (de_var rfl (pv 2))) (de_op opr_mul opd_mul de_int (de_potIx rfl rfl (pv 0) de_int (by intro _ _; rfl))))) fun l_later81 => ds_at (ρ' := [.p, .v l_much0, .v l_first80, .v l_later81, .un]) rfl (ds_one (ds_ret (de_op op_mod opd_mod (de_ty cr_int cd_int (by rfl) b_int (by decide +kernel) (da_cons (de_op op_fdivW opd_fdiv (de_op op_mod opd_mod (de_ty cr_int cd_int (by rfl) b_int (by decide +kernel) (da_cons (de_var rfl (pv 3)) da_nil)) de_int) de_int) da_nil)) (de_var rfl (pv 1))))))))), rfl⟩
abbrev s_l_pick : Stmt := topS 43
abbrev N_l_pick : List Str := ["_law_pot_here", "_law_items"]
theorem sc_l_pick : FnScope N_l_pick ["_law_pot_here", "_law_items"] (defScope s_l_pick) := ⟨rfl, rfl, rfl, by decide +kernel, rfl, by decide +kernel, by decide +kernel⟩
def m_l_pick (l_items0 : D) : M D := (((Pure.pure l_items0) >>= fun x => ((((((Pure.pure l_items0) >>= fun x => (Pure.pure []) >>= fun xs => Pure.pure (.v x :: xs)) >>= fun as => DL.vals as >>= f1 lenD) >>= fun x => (Pure.pure []) >>= fun xs => Pure.pure (.v x :: xs)) >>= fun xs => Pure.pure (.p :: xs)) >>= g_l_bit) >>= fun y => ixD x y) >>= fun d => Pure.pure (.rt d)) >>= doneF (α := Unit)
def g_l_pick : List Ar → M D
  | [.p, .v l_items0] => m_l_pick l_items0
  | _ => M.no
theorem c_l_pick {as : List Ar} {P : Pot} {ok : D → Pot → Prop} {ex : Ex → Pot → Prop} (h : out (g_l_pick as) P ok ex) : ∃ l_items0, as = [.p, .v l_items0] := by
  unfold g_l_pick at h; split at h
  · exact ⟨_, rfl⟩
  · exact h.elim
theorem ok_l_pick {f : Addr} {fd : FuncData} (Fn : Fun K "_law_pick" "_law_pick" s_l_pick f fd) (b_len : mg "len" = none) (d_l_bit : Cal P w K mg base 1 "_law_bit" (spD ⟨mg, K, TT⟩ g_l_bit)) : FnG P w K mg base 2 f fd ["_law_pot_here", "_law_items"] (spD ⟨mg, K, TT⟩ g_l_pick) := by
  refine fnG_of (k := 1) Fn rfl rfl sc_l_pick (fun as P ok ex h => by obtain ⟨l_items0, rfl⟩ := c_l_pick h; rfl) fun cd A fr s H0 G0 ap E as P0 ok ex h bx => ?_
  obtain ⟨l_items0, rfl⟩ := c_l_pick h
  have hu64 := hu_64 bx.cx.rm
  have hu65 := hu_65 bx.cx.rm
  have hu102 := hu_102 bx.cx.rm
  exact ⟨Unit, (fun (a : Unit) => [.p, .un]), _, ds_at (ρ' := [.p, .v l_items0]) rfl (ds_one (ds_ret (de_ix rfl (de_var rfl (pv 1)) (de_callC d_l_bit ⟨rfl, rfl, bx.cx.ga, bx.cx.rm⟩ (by omega) bx.tk (by rfl) (da_pot rfl (pv 0) (da_cons (de_blt cr_len cd_len (by rfl) b_len (by decide +kernel) (da_cons (de_var rfl (pv 1)) da_nil)) da_nil))) (by intro _ _; rfl)))), rfl⟩
abbrev s_l_dealt : Stmt := topS 44
abbrev N_l_dealt : List Str := ["_law_pot_here", "_law_items", "_law_waits", "_law_turn"]
theorem sc_l_dealt : FnScope N_l_dealt ["_law_pot_here", "_law_items"] (defScope s_l_dealt) := ⟨rfl, rfl, rfl, by decide +kernel, rfl, by decide +kernel, by decide +kernel⟩
def m_l_dealt (l_items0 : D) : M D := (thenR (((Pure.pure l_items0) >>= itemsD) >>= fun ds => Pure.pure (.nx ds)) fun l_waits82 => (((((((Pure.pure l_items0) >>= fun x => (Pure.pure []) >>= fun xs => Pure.pure (.v x :: xs)) >>= fun as => DL.vals as >>= f1 lenD) >>= fun x => (Pure.pure []) >>= fun xs => Pure.pure (.v x :: xs)) >>= rng1) >>= fun ds => noEx (compO (fun ws84 l_turn83 => ((((Pure.pure (.int (ws84.length : Nat))) >>= fun x => (Pure.pure []) >>= fun xs => Pure.pure (.v x :: xs)) >>= fun xs => Pure.pure (.p :: xs)) >>= g_l_bit) >>= popD ws84) l_waits82 ds) >>= mkL) >>= fun d => Pure.pure (.rt d))) >>= doneF (α := Unit)
def g_l_dealt : List Ar → M D
  | [.p, .v l_items0] => m_l_dealt l_items0
  | _ => M.no
theorem c_l_dealt {as : List Ar} {P : Pot} {ok : D → Pot → Prop} {ex : Ex → Pot → Prop} (h : out (g_l_dealt as) P ok ex) : ∃ l_items0, as = [.p, .v l_items0] := by
  unfold g_l_dealt at h; split at h
  · exact ⟨_, rfl⟩
  · exact h.elim
theorem ok_l_dealt {f : Addr} {fd : FuncData} (Fn : Fun K "_law_dealt" "_law_dealt" s_l_dealt f fd) (b_len : mg "len" = none) (b_list : mg "list" = none) (b_range : mg "range" = none) (d_l_bit : Cal P w K mg base 1 "_law_bit" (spD ⟨mg, K, TT⟩ g_l_bit)) : FnG P w K mg base 2 f fd ["_law_pot_here", "_law_items"] (spD ⟨mg, K, TT⟩ g_l_dealt) := by
  refine fnG_of (k := 1) Fn rfl rfl sc_l_dealt (fun as P ok ex h => by obtain ⟨l_items0, rfl⟩ := c_l_dealt h; rfl) fun cd A fr s H0 G0 ap E as P0 ok ex h bx => ?_
  obtain ⟨l_items0, rfl⟩ := c_l_dealt h
  have hu64 := hu_64 bx.cx.rm
  have hu65 := hu_65 bx.cx.rm
  have hu102 := hu_102 bx.cx.rm
  exact ⟨Unit, (fun (a : Unit) => [.p, .un, .un, .un]), _, ds_at (ρ' := [.p, .v l_items0, .un, .un]) rfl (ds_cons (ds_ownList (i := 2) rfl sc_l_dealt.nd rfl (Or.inr rfl) (by rfl) b_list (by decide +kernel) (de_var rfl (pv 1))) fun l_waits82 => ds_at (ρ' := [.p, .v l_items0, .o (.l l_waits82), .un]) rfl (ds_one (ds_retLcO (own := [("_law_turn", 3)]) (i := 2) (g := gName 3) (t := fun ρ d => some (ρ.set 3 (.v d))) (me := (fun ws84 l_turn83 => ((((Pure.pure (.int (ws84.length : Nat))) >>= fun x => (Pure.pure []) >>= fun xs => Pure.pure (.v x :: xs)) >>= fun xs => Pure.pure (.p :: xs)) >>= g_l_bit) >>= popD ws84)) rfl (by decide) rfl sc_l_dealt.nd (blkOk_by (N := N_l_dealt) (sc := defScope s_l_dealt) (by decide +kernel)) (di_rng1 (by rfl) b_range (da_cons (de_blt cr_len cd_len (by rfl) b_len (by decide +kernel) (da_cons (de_var rfl (pv 1)) da_nil)) da_nil)) (tgt_name (by simp)) (fun ρ d ws h => nomatch h) (fun ρ d ρ' e => by cases e; exact List.getElem?_set_ne (by decide)) (fun _ _ _ _ _ => pg_name (i := 3) sc_l_dealt.nd rfl (Or.inl rfl)) (fun _ _ _ _ _ => pe_eltO fun F ws84 l_turn83 ρ' e => by cases e; exact eo_at (ρ' := [.p, .v l_items0, .o (.l ws84), .v l_turn83]) rfl (de_popO rfl (pv 2) (de_callC d_l_bit ⟨rfl, rfl, bx.cx.ga, bx.cx.rm⟩ (by omega) takes0 (by rfl) (da_pot rfl (pv 0) (da_cons (de_lenO rfl rfl (pv 2) (by rfl) b_len (by decide +kernel)) da_nil)))))))), rfl⟩
abbrev s_l_some_of : Stmt := topS 45
abbrev N_l_some_of : List Str := ["_law_pot_here", "_law_items", "_law_least", "_law_much"]
theorem sc_l_some_of : FnScope N_l_some_of ["_law_pot_here", "_law_items", "_law_least"] (defScope s_l_some_of) := ⟨rfl, rfl, rfl, by decide +kernel, rfl, by decide +kernel, by decide +kernel⟩
def m_l_some_of (l_items0 : D) (l_least0 : D) : M D := (thenR (((Pure.pure l_least0) >>= fun x => ((((((((Pure.pure l_items0) >>= fun x => (Pure.pure []) >>= fun xs => Pure.pure (.v x :: xs)) >>= fun as => DL.vals as >>= f1 lenD) >>= fun x => (Pure.pure l_least0) >>= fun y => subD x y) >>= fun x => (Pure.pure (.int 1)) >>= fun y => addD x y) >>= fun x => (Pure.pure []) >>= fun xs => Pure.pure (.v x :: xs)) >>= fun xs => Pure.pure (.p :: xs)) >>= g_l_bit) >>= fun y => addD x y) >>= fun d => Pure.pure (.nx d)) fun l_much85 => ((((((((((Pure.pure l_items0) >>= fun x => (Pure.pure []) >>= fun xs => Pure.pure (.v x :: xs)) >>= fun xs => Pure.pure (.p :: xs)) >>= g_l_dealt) >>= fun x => (Pure.pure none) >>= fun l => ((Pure.pure l_much85) >>= partD) >>= fun u => sliceD x l u) >>= fun x => (Pure.pure []) >>= fun xs => Pure.pure (.v x :: xs)) >>= fun as => DL.vals as >>= f1 sortA) >>= fun x => (Pure.pure []) >>= fun xs => Pure.pure (.v x :: xs)) >>= fun as => DL.vals as >>= f1 tupleD) >>= fun d => Pure.pure (.rt d))) >>= doneF (α := Unit)
def g_l_some_of : List Ar → M D
  | [.p, .v l_items0, .v l_least0] => m_l_some_of l_items0 l_least0
  | _ => M.no
theorem c_l_some_of {as : List Ar} {P : Pot} {ok : D → Pot → Prop} {ex : Ex → Pot → Prop} (h : out (g_l_some_of as) P ok ex) : ∃ l_items0 l_least0, as = [.p, .v l_items0, .v l_least0] := by
  unfold g_l_some_of at h; split at h
  · exact ⟨_, _, rfl⟩
  · exact h.elim
theorem ok_l_some_of {f : Addr} {fd : FuncData} (Fn : Fun K "_law_some_of" "_law_some_of" s_l_some_of f fd) (b_len : mg "len" = none) (b_sorted : mg "sorted" = none) (b_tuple : mg "tuple" = none) (d_l_bit : Cal P w K mg base 1 "_law_bit" (spD ⟨mg, K, TT⟩ g_l_bit)) (d_l_dealt : Cal P w K mg base 2 "_law_dealt" (spD ⟨mg, K, TT⟩ g_l_dealt)) : FnG P w K mg base 3 f fd ["_law_pot_here", "_law_items", "_law_least"] (spD ⟨mg, K, TT⟩ g_l_some_of) := by
  refine fnG_of (k := 2) Fn rfl rfl sc_l_some_of (fun as P ok ex h => by obtain ⟨l_items0, l_least0, rfl⟩ := c_l_some_of h; rfl) fun cd A fr s H0 G0 ap E as P0 ok ex h bx => ?_
  obtain ⟨l_items0, l_least0, rfl⟩ := c_l_some_of h
  have hu64 := hu_64 bx.cx.rm
  have hu65 := hu_65 bx.cx.rm
  have hu102 := hu_102 bx.cx.rm
  exact ⟨Unit, (fun (a : Unit) => [.p, .un, .un, .un]), _, ds_at (ρ' := [.p, .v l_items0, .v l_least0, .un]) rfl (ds_cons (ds_set (i := 3) sc_l_some_of.nd rfl (Or.inl rfl) (de_op opr_add opd_add (de_var rfl (pv 2)) (de_callC d_l_bit ⟨rfl, rfl, bx.cx.ga, bx.cx.rm⟩ (by omega) bx.tk (by rfl) (da_pot rfl (pv 0) (da_cons (de_op opr_add opd_add (de_op op_sub opd_sub (de_blt cr_len cd_len (by rfl) b_len (by decide +kernel) (da_cons (de_var rfl (pv 1)) da_nil)) (de_var rfl (pv 2))) de_int) da_nil))))) fun l_much85 => ds_at (ρ' := [.p, .v l_items0, .v l_least0, .v l_much85]) rfl (ds_one (ds_ret (de_ty cr_tuple cd_tuple (by rfl) b_tuple (by decide +kernel) (da_cons (de_blt (cr_sortA hu64) cd_sortA (by rfl) b_sorted (by decide +kernel) (da_cons (de_slice rfl (de_callC d_l_dealt ⟨rfl, rfl, bx.cx.ga, bx.cx.rm⟩ (by omega) bx.tk (by rfl) (da_pot rfl (pv 0) (da_cons (de_var rfl (pv 1)) da_nil))) do_none (do_some (de_var rfl (pv 3)))) da_nil)) da_nil))))), rfl⟩
abbrev s_l_told_reader : Stmt := topS 46
abbrev N_l_told_reader : List Str := ["_law_signs", "_law_much", "_law_heads", "_law_tails", "_law_links", "_law_found"]
theorem sc_l_told_reader : FnScope N_l_told_reader ["_law_signs", "_law_much", "_law_heads", "_law_tails", "_law_links"] (defScope s_l_told_reader) := ⟨rfl, rfl, rfl, by decide +kernel, rfl, by decide +kernel, by decide +kernel⟩
def m_l_told_reader (l_signs0 : D) (l_much0 : D) (l_heads0 : D) (l_tails0 : D) (l_links0 : D) : M D := (thenR (dicM [(.inr "signs", (Pure.pure l_signs0)), (.inr "size", (Pure.pure l_much0)), (.inr "heads", (((((Pure.pure l_heads0) >>= fun x => (Pure.pure []) >>= fun xs => Pure.pure (.v x :: xs)) >>= fun as => DL.vals as >>= f1 sortA) >>= fun x => (Pure.pure []) >>= fun xs => Pure.pure (.v x :: xs)) >>= fun as => DL.vals as >>= f1 tupleD)), (.inr "tails", (((((Pure.pure l_tails0) >>= fun x => (Pure.pure []) >>= fun xs => Pure.pure (.v x :: xs)) >>= fun as => DL.vals as >>= f1 sortA) >>= fun x => (Pure.pure []) >>= fun xs => Pure.pure (.v x :: xs)) >>= fun as => DL.vals as >>= f1 tupleD))] >>= fun ps => mkDicL ps >>= fun ps => Pure.pure (.nx ps)) fun l_found86 => (thenR ((((((Pure.pure l_links0) >>= fun x => (Pure.pure []) >>= fun xs => Pure.pure (.v x :: xs)) >>= fun as => DL.vals as >>= f1 sortA) >>= fun x => (Pure.pure []) >>= fun xs => Pure.pure (.v x :: xs)) >>= fun as => DL.vals as >>= f1 tupleD) >>= fun d => (Pure.pure (.str "links")) >>= fun y => keyM y >>= fun k => if l_found86.length < sizeLine then Pure.pure (.nx (putX l_found86 k d)) else M.no) fun l_found87 => ((Pure.pure (dicD l_found87)) >>= fun d => Pure.pure (.rt d)))) >>= doneF (α := Unit)
def g_l_told_reader : List Ar → M D
  | [.v l_signs0, .v l_much0, .v l_heads0, .v l_tails0, .v l_links0] => m_l_told_reader l_signs0 l_much0 l_heads0 l_tails0 l_links0
  | _ => M.no
theorem c_l_told_reader {as : List Ar} {P : Pot} {ok : D → Pot → Prop} {ex : Ex → Pot → Prop} (h : out (g_l_told_reader as) P ok ex) : ∃ l_signs0 l_much0 l_heads0 l_tails0 l_links0, as = [.v l_signs0, .v l_much0, .v l_heads0, .v l_tails0, .v l_links0] := by
  unfold g_l_told_reader at h; split at h
  · exact ⟨_, _, _, _, _, rfl⟩
  · exact h.elim
theorem ok_l_told_reader {f : Addr} {fd : FuncData} (Fn : Fun K "_law_told_reader" "_law_told_reader" s_l_told_reader f fd) (b_sorted : mg "sorted" = none) (b_tuple : mg "tuple" = none) : FnG P w K mg base 1 f fd ["_law_signs", "_law_much", "_law_heads", "_law_tails", "_law_links"] (spD ⟨mg, K, TT⟩ g_l_told_reader) := by
  refine fnG_of (k := 0) Fn rfl rfl sc_l_told_reader (fun as P ok ex h => by obtain ⟨l_signs0, l_much0, l_heads0, l_tails0, l_links0, rfl⟩ := c_l_told_reader h; rfl) fun cd A fr s H0 G0 ap E as P0 ok ex h bx => ?_
  obtain ⟨l_signs0, l_much0, l_heads0, l_tails0, l_links0, rfl⟩ := c_l_told_reader h
  have hu64 := hu_64 bx.cx.rm
  have hu65 := hu_65 bx.cx.rm
  have hu102 := hu_102 bx.cx.rm
  exact ⟨Unit, (fun (a : Unit) => [.un, .un, .un, .un, .un, .un]), _, ds_at (ρ' := [.v l_signs0, .v l_much0, .v l_heads0, .v l_tails0, .v l_links0, .un]) rfl (ds_cons (ds_ownDisp (i := 5) (ls := [(.inr "signs", (Pure.pure l_signs0)), (.inr "size", (Pure.pure l_much0)), (.inr "heads", (((((Pure.pure l_heads0) >>= fun x => (Pure.pure []) >>= fun xs => Pure.pure (.v x :: xs)) >>= fun as => DL.vals as >>= f1 sortA) >>= fun x => (Pure.pure []) >>= fun xs => Pure.pure (.v x :: xs)) >>= fun as => DL.vals as >>= f1 tupleD)), (.inr "tails", (((((Pure.pure l_tails0) >>= fun x => (Pure.pure []) >>= fun xs => Pure.pure (.v x :: xs)) >>= fun as => DL.vals as >>= f1 sortA) >>= fun x => (Pure.pure []) >>= fun xs => Pure.pure (.v x :: xs)) >>= fun as => DL.vals as >>= f1 tupleD))]) sc_l_told_reader.nd rfl (Or.inl rfl) (pps_cons pe_str (pe_X fun G0 H0 => (de_var rfl (pv 0))) (pps_cons pe_str (pe_X fun G0 H0 => (de_var rfl (pv 1))) (pps_cons pe_str (pe_X fun G0 H0 => (de_ty cr_tuple cd_tuple (by rfl) b_tuple (by decide +kernel) (da_cons (de_blt (cr_sortA hu64) cd_sortA (by rfl) b_sorted (by decide +kernel) (da_cons (de_var rfl (pv 2)) da_nil)) da_nil))) (pps_cons pe_str (pe_X fun G0 H0 => (de_ty cr_tuple cd_tuple (by rfl) b_tuple (by decide +kernel) (da_cons (de_blt (cr_sortA hu64) cd_sortA (by rfl) b_sorted (by decide +kernel) (da_cons (de_var rfl (pv 3)) da_nil)) da_nil))) pps_nil))))) fun l_found86 => ds_at (ρ' := [.v l_signs0, .v l_much0, .v l_heads0, .v l_tails0, .v l_links0, .o (.dk l_found86)]) rfl (ds_cons (ds_putK (i := 5) (ds := l_found86) (by have := hu64; omega) rfl (pv 5) (de_ty cr_tuple cd_tuple (by rfl) b_tuple (by decide +kernel) (da_cons (de_blt (cr_sortA hu64) cd_sortA (by rfl) b_sorted (by decide +kernel) (da_cons (de_var rfl (pv 4)) da_nil)) da_nil)) de_str) fun l_found87 => ds_at (ρ' := [.v l_signs0, .v l_much0, .v l_heads0, .v l_tails0, .v l_links0, .o (.dk l_found87)]) rfl (ds_letgoK (i := 5) rfl (ds_at (ρ' := [.v l_signs0, .v l_much0, .v l_heads0, .v l_tails0, .v l_links0, .v (dicD l_found87)]) rfl (ds_one (ds_ret (de_var rfl (pv 5)))))))), (by show m_l_told_reader l_signs0 l_much0 l_heads0 l_tails0 l_links0 = _; unfold m_l_told_reader; rfl)⟩
abbrev s_l_any_reader : Stmt := topS 47
abbrev N_l_any_reader : List Str := ["_law_pot_here", "_law_signs", "_law_most", "_law_count", "_law_links", "_law_spot", "_law_heads", "_law_tails", "_law_sign", "_law_turn"]
theorem sc_l_any_reader : FnScope N_l_any_reader ["_law_pot_here", "_law_signs", "_law_most"] (defScope s_l_any_reader) := ⟨rfl, rfl, rfl, by decide +kernel, rfl, by decide +kernel, by decide +kernel⟩
def m_l_any_reader (l_signs0 : D) (l_most0 : D) : M D := (thenR (((Pure.pure (.int 1)) >>= fun x => ((((Pure.pure l_most0) >>= fun x => (Pure.pure []) >>= fun xs => Pure.pure (.v x :: xs)) >>= fun xs => Pure.pure (.p :: xs)) >>= g_l_bit) >>= fun y => addD x y) >>= fun d => Pure.pure (.nx d)) fun l_count88 => (thenR (Pure.pure (.nx [])) fun l_links89 => (thenR ((((Pure.pure l_count88) >>= fun x => (Pure.pure []) >>= fun xs => Pure.pure (.v x :: xs)) >>= rng1) >>= fun ds => forF (fun (a90 : List (List Key × D)) l_spot91 => (thenR (((Pure.pure l_signs0) >>= iterA) >>= fun ds => forF (fun (a92 : List (List Key × D)) l_sign93 => (thenR (((((((((Pure.pure (.int 0)) >>= fun x => ((Pure.pure (.int 1)) >>= fun x => ((Pure.pure (.int 1)) >>= fun x => ((Pure.pure (.int 1)) >>= fun x => ((Pure.pure (.int 2)) >>= fun x => (Pure.pure []) >>= fun xs => Pure.pure (.v x :: xs)) >>= fun xs => Pure.pure (.v x :: xs)) >>= fun xs => Pure.pure (.v x :: xs)) >>= fun xs => Pure.pure (.v x :: xs)) >>= fun xs => Pure.pure (.v x :: xs)) >>= fun as => DL.vals as >>= mkL) >>= fun x => (Pure.pure []) >>= fun xs => Pure.pure (.v x :: xs)) >>= fun xs => Pure.pure (.p :: xs)) >>= g_l_pick) >>= fun x => (Pure.pure []) >>= fun xs => Pure.pure (.v x :: xs)) >>= rng1) >>= fun ds => forF (fun (a94 : List (List Key × D)) l_turn95 => (thenR ((Pure.pure (.bl true)) >>= fun d => ((Pure.pure l_spot91) >>= fun x => ((Pure.pure l_sign93) >>= fun x => (((((Pure.pure l_count88) >>= fun x => (Pure.pure []) >>= fun xs => Pure.pure (.v x :: xs)) >>= fun xs => Pure.pure (.p :: xs)) >>= g_l_bit) >>= fun x => (Pure.pure []) >>= fun xs => Pure.pure (.v x :: xs)) >>= fun xs => Pure.pure (.v x :: xs)) >>= fun xs => Pure.pure (.v x :: xs)) >>= fun as => DL.vals as >>= fun ys => keyL ys >>= fun k => if a94.length < sizeLine ∧ k.length ≤ sizeLine then Pure.pure (.nx (putX a94 k d)) else M.no) fun l_links96 => (Pure.pure (.nx l_links96)))) ds a92) fun a97 => (Pure.pure (.nx a97)))) ds a90) fun a98 => (Pure.pure (.nx a98)))) ds l_links89) fun a99 => (thenR ((((((Pure.pure l_count88) >>= rngL) >>= fun x => ((((Pure.pure (.int 1)) >>= fun x => (((((Pure.pure (.int 9)) >>= fun x => (Pure.pure []) >>= fun xs => Pure.pure (.v x :: xs)) >>= fun xs => Pure.pure (.p :: xs)) >>= g_l_bit) >>= fun x => (Pure.pure []) >>= fun xs => Pure.pure (.v x :: xs)) >>= fun xs => Pure.pure (.v x :: xs)) >>= fun as => DL.vals as >>= f2 minD) >>= fun x => (Pure.pure []) >>= fun xs => Pure.pure (.v x :: xs)) >>= fun xs => Pure.pure (.v x :: xs)) >>= fun xs => Pure.pure (.p :: xs)) >>= g_l_some_of) >>= fun d => Pure.pure (.nx d)) fun l_heads100 => (thenR ((((((Pure.pure l_count88) >>= rngL) >>= fun x => ((((Pure.pure (.int 1)) >>= fun x => (((((Pure.pure (.int 9)) >>= fun x => (Pure.pure []) >>= fun xs => Pure.pure (.v x :: xs)) >>= fun xs => Pure.pure (.p :: xs)) >>= g_l_bit) >>= fun x => (Pure.pure []) >>= fun xs => Pure.pure (.v x :: xs)) >>= fun xs => Pure.pure (.v x :: xs)) >>= fun as => DL.vals as >>= f2 minD) >>= fun x => (Pure.pure []) >>= fun xs => Pure.pure (.v x :: xs)) >>= fun xs => Pure.pure (.v x :: xs)) >>= fun xs => Pure.pure (.p :: xs)) >>= g_l_some_of) >>= fun d => Pure.pure (.nx d)) fun l_tails101 => ((((Pure.pure l_signs0) >>= fun x => ((Pure.pure l_count88) >>= fun x => ((Pure.pure l_heads100) >>= fun x => ((Pure.pure l_tails101) >>= fun x => ((Pure.pure (.lst (a99.map fun p => .tup (p.1.map keyD)))) >>= fun x => (Pure.pure []) >>= fun xs => Pure.pure (.v x :: xs)) >>= fun xs => Pure.pure (.v x :: xs)) >>= fun xs => Pure.pure (.v x :: xs)) >>= fun xs => Pure.pure (.v x :: xs)) >>= fun xs => Pure.pure (.v x :: xs)) >>= g_l_told_reader) >>= fun d => Pure.pure (.rt d))))))) >>= doneF (α := Unit)
def g_l_any_reader : List Ar → M D
  | [.p, .v l_signs0, .v l_most0] => m_l_any_reader l_signs0 l_most0
  | _ => M.no
theorem c_l_any_reader {as : List Ar} {P : Pot} {ok : D → Pot → Prop} {ex : Ex → Pot → Prop} (h : out (g_l_any_reader as) P ok ex) : ∃ l_signs0 l_most0, as = [.p, .v l_signs0, .v l_most0] := by
  unfold g_l_any_reader at h; split at h
  · exact ⟨_, _, rfl⟩
  · exact h.elim
theorem ok_l_any_reader {f : Addr} {fd : FuncData} (Fn : Fun K "_law_any_reader" "_law_any_reader" s_l_any_reader f fd) (b_list : mg "list" = none) (b_min : mg "min" = none) (b_range : mg "range" = none) (d_l_bit : Cal P w K mg base 1 "_law_bit" (spD ⟨mg, K, TT⟩ g_l_bit)) (d_l_pick : Cal P w K mg base 2 "_law_pick" (spD ⟨mg, K, TT⟩ g_l_pick)) (d_l_some_of : Cal P w K mg base 3 "_law_some_of" (spD ⟨mg, K, TT⟩ g_l_some_of)) (d_l_told_reader : Cal P w K mg base 1 "_law_told_reader" (spD ⟨mg, K, TT⟩ g_l_told_reader)) : FnG P w K mg base 4 f fd ["_law_pot_here", "_law_signs", "_law_most"] (spD ⟨mg, K, TT⟩ g_l_any_reader) := by
  refine fnG_of (k := 3) Fn rfl rfl sc_l_any_reader (fun as P ok ex h => by obtain ⟨l_signs0, l_most0, rfl⟩ := c_l_any_reader h; rfl) fun cd A fr s H0 G0 ap E as P0 ok ex h bx => ?_
  obtain ⟨l_signs0, l_most0, rfl⟩ := c_l_any_reader h
  have hu64 := hu_64 bx.cx.rm
  have hu65 := hu_65 bx.cx.rm
  have hu102 := hu_102 bx.cx.rm
  exact ⟨Unit, (fun (a : Unit) => [.p, .un, .un, .un, .un, .un, .un, .un, .un, .un]), _, ds_at (ρ' := [.p, .v l_signs0, .v l_most0, .un, .un, .un, .un, .un, .un, .un]) rfl (ds_cons (ds_set (i := 3) sc_l_any_reader.nd rfl (Or.inl rfl) (de_op opr_add opd_add de_int (de_callC d_l_bit ⟨rfl, rfl, bx.cx.ga, bx.cx.rm⟩ (by omega) bx.tk (by rfl) (da_pot rfl (pv 0) (da_cons (de_var rfl (pv 2)) da_nil))))) fun l_count88 => ds_at (ρ' := [.p, .v l_signs0, .v l_most0, .v l_count88, .un, .un, .un, .un, .un, .un]) rfl (ds_cons (ds_ownDT (i := 4) sc_l_any_reader.nd rfl (Or.inl rfl)) fun l_links89 => ds_at (ρ' := [.p, .v l_signs0, .v l_most0, .v l_count88, .o (.dt l_links89), .un, .un, .un, .un, .un]) rfl (ds_cons (ds_for (E := (fun (a : List (List Key × D)) => [.p, .v l_signs0, .v l_most0, .v l_count88, .o (.dt a), .un, .un, .un, .un, .un])) (a₀ := l_links89) (t := fun (a : List (List Key × D)) d => some (((fun (a : List (List Key × D)) => [.p, .v l_signs0, .v l_most0, .v l_count88, .o (.dt a), .un, .un, .un, .un, .un]) a).set 5 (.v d))) bx.own rfl (Rel.fogL (.k (.k (.k (.k (.k (.k (.k (.k (.k (.k FogL.n))))))))))) (di_rng1 (by rfl) b_range (da_cons (de_var rfl (pv 3)) da_nil)) (pg_ex fun a => dg_name (i := 5) sc_l_any_reader.nd rfl (Or.inl rfl)) (fun a d h => nomatch h) (pss_for fun a90 l_spot91 ρ' e => by cases e; exact ds_at (ρ' := [.p, .v l_signs0, .v l_most0, .v l_count88, .o (.dt a90), .v l_spot91, .un, .un, .un, .un]) rfl (ds_cons (ds_for (E := (fun (a : List (List Key × D)) => [.p, .v l_signs0, .v l_most0, .v l_count88, .o (.dt a), .v l_spot91, .un, .un, .un, .un])) (a₀ := a90) (t := fun (a : List (List Key × D)) d => some (((fun (a : List (List Key × D)) => [.p, .v l_signs0, .v l_most0, .v l_count88, .o (.dt a), .v l_spot91, .un, .un, .un, .un]) a).set 8 (.v d))) bx.own rfl (Rel.fogL (.k (.k (.k (.k (.k (.k (.k (.k (.k (.k FogL.n))))))))))) (di_any rfl (de_var rfl (pv 1))) (pg_ex fun a => dg_name (i := 8) sc_l_any_reader.nd rfl (Or.inl rfl)) (fun a d h => nomatch h) (pss_for fun a92 l_sign93 ρ' e => by cases e; exact ds_at (ρ' := [.p, .v l_signs0, .v l_most0, .v l_count88, .o (.dt a92), .v l_spot91, .un, .un, .v l_sign93, .un]) rfl (ds_cons (ds_for (E := (fun (a : List (List Key × D)) => [.p, .v l_signs0, .v l_most0, .v l_count88, .o (.dt a), .v l_spot91, .un, .un, .v l_sign93, .un])) (a₀ := a92) (t := fun (a : List (List Key × D)) d => some (((fun (a : List (List Key × D)) => [.p, .v l_signs0, .v l_most0, .v l_count88, .o (.dt a), .v l_spot91, .un, .un, .v l_sign93, .un]) a).set 9 (.v d))) bx.own rfl (Rel.fogL (.k (.k (.k (.k (.k (.k (.k (.k (.k (.k FogL.n))))))))))) (di_rng1 (by rfl) b_range (da_cons (de_callC d_l_pick ⟨rfl, rfl, bx.cx.ga, bx.cx.rm⟩ (by omega) bx.tk (by rfl) (da_pot rfl (pv 0) (da_cons (de_lst (da_cons de_int (da_cons de_int (da_cons de_int (da_cons de_int (da_cons de_int da_nil)))))) da_nil))) da_nil)) (pg_ex fun a => dg_name (i := 9) sc_l_any_reader.nd rfl (Or.inl rfl)) (fun a d h => nomatch h) (pss_for fun a94 l_turn95 ρ' e => by cases e; exact ds_at (ρ' := [.p, .v l_signs0, .v l_most0, .v l_count88, .o (.dt a94), .v l_spot91, .un, .un, .v l_sign93, .v l_turn95]) rfl (ds_cons (ds_putT (i := 4) (ds := a94) (by have := hu64; omega) rfl (pv 4) de_bl (da_cons (de_var rfl (pv 5)) (da_cons (de_var rfl (pv 8)) (da_cons (de_callC d_l_bit ⟨rfl, rfl, bx.cx.ga, bx.cx.rm⟩ (by omega) bx.tk (by rfl) (da_pot rfl (pv 0) (da_cons (de_var rfl (pv 3)) da_nil))) da_nil)))) fun l_links96 => ds_at (ρ' := [.p, .v l_signs0, .v l_most0, .v l_count88, .o (.dt l_links96), .v l_spot91, .un, .un, .v l_sign93, .v l_turn95]) rfl (ds_end (a := l_links96) (.k (.k (.k (.k (.k (.k (.k (.k (.k (.u FogL.n)))))))))))))) fun a97 => ds_at (ρ' := [.p, .v l_signs0, .v l_most0, .v l_count88, .o (.dt a97), .v l_spot91, .un, .un, .v l_sign93, .un]) rfl (ds_end (a := a97) (.k (.k (.k (.k (.k (.k (.k (.k (.u (.k FogL.n)))))))))))))) fun a98 => ds_at (ρ' := [.p, .v l_signs0, .v l_most0, .v l_count88, .o (.dt a98), .v l_spot91, .un, .un, .un, .un]) rfl (ds_end (a := a98) (.k (.k (.k (.k (.k (.u (.k (.k (.k (.k FogL.n)))))))))))))) fun a99 => ds_at (ρ' := [.p, .v l_signs0, .v l_most0, .v l_count88, .o (.dt a99), .un, .un, .un, .un, .un]) rfl (ds_cons (ds_set (i := 6) sc_l_any_reader.nd rfl (Or.inl rfl) (de_callC d_l_some_of ⟨rfl, rfl, bx.cx.ga, bx.cx.rm⟩ (by omega) bx.tk (by rfl) (da_pot rfl (pv 0) (da_cons (de_listRg rfl (by rfl) b_list (by rfl) b_range (de_var rfl (pv 3))) (da_cons (de_blt (DL.cr_min rfl) cd_min (by rfl) b_min (by decide +kernel) (da_cons de_int (da_cons (de_callC d_l_bit ⟨rfl, rfl, bx.cx.ga, bx.cx.rm⟩ (by omega) bx.tk (by rfl) (da_pot rfl (pv 0) (da_cons de_int da_nil))) da_nil))) da_nil))))) fun l_heads100 => ds_at (ρ' := [.p, .v l_signs0, .v l_most0, .v l_count88, .o (.dt a99), .un, .v l_heads100, .un, .un, .un]) rfl (ds_cons (ds_set (i := 7) sc_l_any_reader.nd rfl (Or.inl rfl) (de_callC d_l_some_of ⟨rfl, rfl, bx.cx.ga, bx.cx.rm⟩ (by omega) bx.tk (by rfl) (da_pot rfl (pv 0) (da_cons (de_listRg rfl (by rfl) b_list (by rfl) b_range (de_var rfl (pv 3))) (da_cons (de_blt (DL.cr_min rfl) cd_min (by rfl) b_min (by decide +kernel) (da_cons de_int (da_cons (de_callC d_l_bit ⟨rfl, rfl, bx.cx.ga, bx.cx.rm⟩ (by omega) bx.tk (by rfl) (da_pot rfl (pv 0) (da_cons de_int da_nil))) da_nil))) da_nil))))) fun l_tails101 => ds_at (ρ' := [.p, .v l_signs0, .v l_most0, .v l_count88, .o (.dt a99), .un, .v l_heads100, .v l_tails101, .un, .un]) rfl (ds_one (ds_ret (de_callC d_l_told_reader ⟨rfl, rfl, bx.cx.ga, bx.cx.rm⟩ (by omega) bx.tk (by rfl) (da_cons (de_var rfl (pv 1)) (da_cons (de_var rfl (pv 3)) (da_cons (de_var rfl (pv 6)) (da_cons (de_var rfl (pv 7)) (da_cons (de_listT (i := 4) rfl rfl (pv 4) (by rfl) b_list (by decide +kernel)) da_nil))))))))))))), rfl⟩
abbrev s_l_right : Stmt := topS 49
abbrev N_l_right : List Str := ["_law_pot_here", "_law_odd", "_law_told", "_law_much", "_law_links", "_law_line", "_law_fork", "_law_due", "_law_spot"]
theorem sc_l_right : FnScope N_l_right ["_law_pot_here"] (defScope s_l_right) := ⟨rfl, rfl, rfl, by decide +kernel, rfl, by decide +kernel, by decide +kernel⟩
def m_l_right  : M D := (thenR (((((((Pure.pure .non) >>= fun x => ((Pure.pure (.int 0)) >>= fun x => (((Pure.pure []) >>= fun as => DL.vals as >>= mkT) >>= fun x => ((Pure.pure (.str "reader")) >>= fun x => ((((Pure.pure (.str "ab")) >>= fun x => ((Pure.pure (.int 1)) >>= fun x => (((Pure.pure []) >>= fun as => DL.vals as >>= mkT) >>= fun x => (((Pure.pure []) >>= fun as => DL.vals as >>= mkT) >>= fun x => (((Pure.pure []) >>= fun as => DL.vals as >>= mkT) >>= fun x => (Pure.pure []) >>= fun xs => Pure.pure (.v x :: xs)) >>= fun xs => Pure.pure (.v x :: xs)) >>= fun xs => Pure.pure (.v x :: xs)) >>= fun xs => Pure.pure (.v x :: xs)) >>= fun xs => Pure.pure (.v x :: xs)) >>= fun as => DL.vals as >>= mkT) >>= fun x => ((((Pure.pure (.int 1)) >>= fun x => (Pure.pure []) >>= fun xs => Pure.pure (.v x :: xs)) >>= fun as => DL.vals as >>= mkL) >>= fun x => ((Pure.pure (.dic [])) >>= fun x => ((Pure.pure (.bl true)) >>= fun x => (((((Pure.pure (.str "ab")) >>= fun x => ((Pure.pure (.int 2)) >>= fun x => (Pure.pure []) >>= fun xs => Pure.pure (.v x :: xs)) >>= fun xs => Pure.pure (.v x :: xs)) >>= fun xs => Pure.pure (.p :: xs)) >>= g_l_any_reader) >>= fun x => (Pure.pure []) >>= fun xs => Pure.pure (.v x :: xs)) >>= fun xs => Pure.pure (.v x :: xs)) >>= fun xs => Pure.pure (.v x :: xs)) >>= fun xs => Pure.pure (.v x :: xs)) >>= fun xs => Pure.pure (.v x :: xs)) >>= fun xs => Pure.pure (.v x :: xs)) >>= fun xs => Pure.pure (.v x :: xs)) >>= fun xs => Pure.pure (.v x :: xs)) >>= fun xs => Pure.pure (.v x :: xs)) >>= fun as => DL.vals as >>= mkL) >>= fun x => (Pure.pure []) >>= fun xs => Pure.pure (.v x :: xs)) >>= fun xs => Pure.pure (.p :: xs)) >>= g_l_pick) >>= fun d => Pure.pure (.nx d)) fun l_odd102 => (thenR ((((lamF "" hs_l_came (((Pure.pure l_odd102) >>= fun x => (Pure.pure []) >>= fun xs => Pure.pure (.v x :: xs)) >>= g_careful)) >>= fun x => (Pure.pure []) >>= fun xs => Pure.pure (.v x :: xs)) >>= fun as => DL.vals as >>= mkN) >>= fun ds => Pure.pure (.nx ds)) fun l_told103 => (thenR ((lamF "" hs_l_came (((Pure.pure l_odd102) >>= fun x => (Pure.pure []) >>= fun xs => Pure.pure (.v x :: xs)) >>= g_lone_of)) >>= fun d => if l_told103.length < sizeLine then Pure.pure (.nx d) else M.no) fun d104 => (thenR ((((((Pure.pure (.str "reader")) >>= fun x => (Pure.pure []) >>= fun xs => Pure.pure (.v x :: xs)) >>= fun as => DL.vals as >>= mkL) >>= fun x => (Pure.pure (.int 2)) >>= fun y => mulD x y) >>= fun y => neD (.lst ((l_told103 ++ [d104]).map untuk)) y >>= boolD) >>= fun x => if x = true then ((Pure.pure (.bl false)) >>= fun d => Pure.pure (.rt d)) else (Pure.pure (.nx ()))) fun _ => (thenR (((((((Pure.pure (.int 3)) >>= fun x => ((Pure.pure (.int 20)) >>= fun x => ((Pure.pure (.int 29)) >>= fun x => ((Pure.pure (.int 30)) >>= fun x => ((Pure.pure (.int 31)) >>= fun x => ((Pure.pure (.int 32)) >>= fun x => ((Pure.pure (.int 60)) >>= fun x => (Pure.pure []) >>= fun xs => Pure.pure (.v x :: xs)) >>= fun xs => Pure.pure (.v x :: xs)) >>= fun xs => Pure.pure (.v x :: xs)) >>= fun xs => Pure.pure (.v x :: xs)) >>= fun xs => Pure.pure (.v x :: xs)) >>= fun xs => Pure.pure (.v x :: xs)) >>= fun xs => Pure.pure (.v x :: xs)) >>= fun as => DL.vals as >>= mkL) >>= fun x => (Pure.pure []) >>= fun xs => Pure.pure (.v x :: xs)) >>= fun xs => Pure.pure (.p :: xs)) >>= g_l_pick) >>= fun d => Pure.pure (.nx d)) fun l_much106 => (thenR ((((((Pure.pure l_much106) >>= fun x => (Pure.pure (.int 1)) >>= fun y => subD x y) >>= fun x => (Pure.pure []) >>= fun xs => Pure.pure (.v x :: xs)) >>= rng1) >>= fun ds => noEx (compF (fun _ => Pure.pure true) (fun l_spot108 => (((Pure.pure l_spot108) >>= fun x => ((Pure.pure (.str "a")) >>= fun x => (((Pure.pure l_spot108) >>= fun x => (Pure.pure (.int 1)) >>= fun y => addD x y) >>= fun x => (Pure.pure []) >>= fun xs => Pure.pure (.v x :: xs)) >>= fun xs => Pure.pure (.v x :: xs)) >>= fun xs => Pure.pure (.v x :: xs)) >>= fun as => DL.vals as >>= mkT)) ds) >>= mkL) >>= fun d => Pure.pure (.nx d)) fun l_links107 => (thenR ((((Pure.pure (.str "a")) >>= fun x => ((Pure.pure l_much106) >>= fun x => ((((Pure.pure (.int 0)) >>= fun x => (Pure.pure []) >>= fun xs => Pure.pure (.v x :: xs)) >>= fun as => DL.vals as >>= mkT) >>= fun x => (((((Pure.pure l_much106) >>= fun x => (Pure.pure (.int 1)) >>= fun y => subD x y) >>= fun x => (Pure.pure []) >>= fun xs => Pure.pure (.v x :: xs)) >>= fun as => DL.vals as >>= mkT) >>= fun x => ((((Pure.pure l_links107) >>= fun x => (Pure.pure []) >>= fun xs => Pure.pure (.v x :: xs)) >>= fun as => DL.vals as >>= f1 tupleD) >>= fun x => (Pure.pure []) >>= fun xs => Pure.pure (.v x :: xs)) >>= fun xs => Pure.pure (.v x :: xs)) >>= fun xs => Pure.pure (.v x :: xs)) >>= fun xs => Pure.pure (.v x :: xs)) >>= fun xs => Pure.pure (.v x :: xs)) >>= fun as => g_Reader_init_d as >>= fun fs => Pure.pure (.ins "Reader" fs)) >>= fun d => Pure.pure (.nx d)) fun l_line109 => (thenR ((((Pure.pure (.str "a")) >>= fun x => ((Pure.pure l_much106) >>= fun x => ((((Pure.pure (.int 0)) >>= fun x => ((Pure.pure (.int 1)) >>= fun x => (Pure.pure []) >>= fun xs => Pure.pure (.v x :: xs)) >>= fun xs => Pure.pure (.v x :: xs)) >>= fun as => DL.vals as >>= mkT) >>= fun x => (((((Pure.pure l_much106) >>= fun x => (Pure.pure (.int 1)) >>= fun y => subD x y) >>= fun x => (Pure.pure []) >>= fun xs => Pure.pure (.v x :: xs)) >>= fun as => DL.vals as >>= mkT) >>= fun x => ((((Pure.pure l_links107) >>= fun x => (Pure.pure []) >>= fun xs => Pure.pure (.v x :: xs)) >>= fun as => DL.vals as >>= f1 tupleD) >>= fun x => (Pure.pure []) >>= fun xs => Pure.pure (.v x :: xs)) >>= fun xs => Pure.pure (.v x :: xs)) >>= fun xs => Pure.pure (.v x :: xs)) >>= fun xs => Pure.pure (.v x :: xs)) >>= fun xs => Pure.pure (.v x :: xs)) >>= fun as => g_Reader_init_d as >>= fun fs => Pure.pure (.ins "Reader" fs)) >>= fun d => Pure.pure (.nx d)) fun l_fork110 => (thenR (((((((Pure.pure (.int 2)) >>= fun x => (Pure.pure l_much106) >>= fun y => mulD x y) >>= fun x => (Pure.pure (.int 1)) >>= fun y => subD x y) >>= fun x => (Pure.pure (.int 61)) >>= fun y => ltD x y) >>= boolD) >>= fun x => if x = true then (Pure.pure (.str "")) else (Pure.pure (.str "many 60"))) >>= fun d => Pure.pure (.nx d)) fun l_due111 => (thenR ((((lamF "" hs_l_came (((Pure.pure l_line109) >>= fun x => (Pure.pure []) >>= fun xs => Pure.pure (.v x :: xs)) >>= g_careful)) >>= fun x => (Pure.pure []) >>= fun xs => Pure.pure (.v x :: xs)) >>= fun as => DL.vals as >>= mkN) >>= fun ds => Pure.pure (.nx ds)) fun l_told112 => (thenR ((lamF "" hs_l_came (((Pure.pure l_fork110) >>= fun x => (Pure.pure []) >>= fun xs => Pure.pure (.v x :: xs)) >>= g_lone_of)) >>= fun d => if l_told112.length < sizeLine then Pure.pure (.nx d) else M.no) fun d113 => (thenR ((lamF "" hs_l_came (((Pure.pure l_fork110) >>= fun x => (Pure.pure []) >>= fun xs => Pure.pure (.v x :: xs)) >>= g_careful)) >>= fun d => if (l_told112 ++ [d113]).length < sizeLine then Pure.pure (.nx d) else M.no) fun d114 => ((((Pure.pure (.lst ((l_told112 ++ [d113]) ++ [d114]))) >>= fun x => (((Pure.pure (.str "")) >>= fun x => ((Pure.pure l_due111) >>= fun x => ((Pure.pure l_due111) >>= fun x => (Pure.pure []) >>= fun xs => Pure.pure (.v x :: xs)) >>= fun xs => Pure.pure (.v x :: xs)) >>= fun xs => Pure.pure (.v x :: xs)) >>= fun as => DL.vals as >>= mkL) >>= fun y => eqD x y) >>= fun x => boolD x >>= fun x => if x = true then ((((((Pure.pure l_line109) >>= fun x => (Pure.pure []) >>= fun xs => Pure.pure (.v x :: xs)) >>= g_lone_of) >>= fun x => (Pure.pure []) >>= fun xs => Pure.pure (.v x :: xs)) >>= fun as => DL.vals as >>= f1 (dunD "Reader" g_Reader_len_d natD)) >>= fun x => (Pure.pure l_much106) >>= fun y => eqD x y) else Pure.pure (.bl false)) >>= fun d => Pure.pure (.rt d)))))))))))))) >>= doneF (α := Unit)
def g_l_right : List Ar → M D
  | [.p] => m_l_right 
  | _ => M.no
theorem c_l_right {as : List Ar} {P : Pot} {ok : D → Pot → Prop} {ex : Ex → Pot → Prop} (h : out (g_l_right as) P ok ex) : as = [.p] := by
  unfold g_l_right at h; split at h
  · exact rfl
  · exact h.elim
theorem ok_l_right {f : Addr} {fd : FuncData} (Fn : Fun K "_law_right" "_law_right" s_l_right f fd) (b_len : mg "len" = none) (b_range : mg "range" = none) (b_repr : mg "repr" = none) (b_tuple : mg "tuple" = none) (d_l_any_reader : Cal P w K mg base 4 "_law_any_reader" (spD ⟨mg, K, TT⟩ g_l_any_reader)) (d_l_pick : Cal P w K mg base 2 "_law_pick" (spD ⟨mg, K, TT⟩ g_l_pick)) (d_careful : Cal P w K mg base 4 "careful" (spD ⟨mg, K, TT⟩ g_careful)) (d_lone_of : Cal P w K mg base 7 "lone_of" (spD ⟨mg, K, TT⟩ g_lone_of)) {cc_l_right P_l_right : Addr} (A_l_right : LamAt ⟨mg, K, TT⟩ base cc_l_right P_l_right ("_law_right" ++ ".<locals>." ++ "<lambda>")) (hc_l_right : fd.code = .ref cc_l_right) (LX_l_came : LamDefG ⟨mg, K, TT⟩ "_law_came" "_law_call_it" "" hs_l_came) (d_Reader_init_d : CalI P w ⟨mg, K, TT⟩ base 5 "Reader" g_Reader_init_d) (d_Reader_len_d : CalM P w ⟨mg, K, TT⟩ base 1 "Reader" "__len__" g_Reader_len_d) : FnG P w K mg base 12 f fd ["_law_pot_here"] (spD ⟨mg, K, TT⟩ g_l_right) := by
  refine fnG_ofC (k := 11) Fn rfl rfl sc_l_right (fun as P ok ex h => by obtain rfl := c_l_right h; rfl) fun cd A fr s H0 G0 ap E as P0 ok ex hcc h bx => ?_
  obtain rfl := c_l_right h
  have hu64 := hu_64 bx.cx.rm
  have hu65 := hu_65 bx.cx.rm
  have hu102 := hu_102 bx.cx.rm
  exact ⟨Unit, (fun (a : Unit) => [.p, .un, .un, .un, .un, .un, .un, .un, .un]), _, ds_at (ρ' := [.p, .un, .un, .un, .un, .un, .un, .un, .un]) rfl (ds_cons (ds_set (i := 1) sc_l_right.nd rfl (Or.inr rfl) (de_callC d_l_pick ⟨rfl, rfl, bx.cx.ga, bx.cx.rm⟩ (by omega) bx.tk (by rfl) (da_pot rfl (pv 0) (da_cons (de_lst (da_cons de_non (da_cons de_int (da_cons (de_tup da_nil) (da_cons de_str (da_cons (de_tup (da_cons de_str (da_cons de_int (da_cons (de_tup da_nil) (da_cons (de_tup da_nil) (da_cons (de_tup da_nil) da_nil)))))) (da_cons (de_lst (da_cons de_int da_nil)) (da_cons de_dic0 (da_cons de_bl (da_cons (de_callC d_l_any_reader ⟨rfl, rfl, bx.cx.ga, bx.cx.rm⟩ (by omega) bx.tk (by rfl) (da_pot rfl (pv 0) (da_cons de_str (da_cons de_int da_nil)))) da_nil)))))))))) da_nil)))) fun l_odd102 => ds_at (ρ' := [.p, .v l_odd102, .un, .un, .un, .un, .un, .un, .un]) rfl (ds_cons (ds_ownLst (i := 2) sc_l_right.nd rfl (Or.inl rfl) (da_cons (de_lamG ⟨rfl, rfl, bx.cx.ga, bx.cx.rm⟩ (by rfl) LX_l_came A_l_right (hcc.trans hc_l_right) (show LamX.lamSB (defScope s_l_right) _ = true from by decide +kernel) (hbody := fun A outer s H E f cq F0 hF bx => de_at (ρ' := [.p, .v l_odd102, .un, .un, .un, .un, .un, .un, .un]) rfl (de_callC d_careful ⟨rfl, rfl, bx.cx.ga, bx.cx.rm⟩ (by omega) bx.tk (by rfl) (da_cons (de_var rfl (pv 1)) da_nil)))) da_nil)) fun l_told103 => ds_at (ρ' := [.p, .v l_odd102, .o (.l l_told103), .un, .un, .un, .un, .un, .un]) rfl (ds_cons (ds_append (i := 2) rfl rfl (pv 2) (de_lamG ⟨rfl, rfl, bx.cx.ga, bx.cx.rm⟩ (by rfl) LX_l_came A_l_right (hcc.trans hc_l_right) (show LamX.lamSB (defScope s_l_right) _ = true from by decide +kernel) (hbody := fun A outer s H E f cq F0 hF bx => de_at (ρ' := [.p, .v l_odd102, .un, .un, .un, .un, .un, .un, .un]) rfl (de_callC d_lone_of ⟨rfl, rfl, bx.cx.ga, bx.cx.rm⟩ (by omega) bx.tk (by rfl) (da_cons (de_var rfl (pv 1)) da_nil))))) fun d104 => ds_at (ρ' := [.p, .v l_odd102, .o (.l (l_told103 ++ [d104])), .un, .un, .un, .un, .un, .un]) rfl (ds_cons (ds_if (E := (fun (a : Unit) => [.p, .v l_odd102, .o (.l (l_told103 ++ [d104])), .un, .un, .un, .un, .un, .un])) (dt_neO (i := 2) hu64 rfl rfl (pv 2) (de_op opr_mul opd_mul (de_lst (da_cons de_str da_nil)) de_int)) (ds_one (ds_ret de_bl)) (ds_end (a := ()) (.k (.k (.k (.k (.k (.k (.k (.k (.k FogL.n))))))))))) fun _ => ds_at (ρ' := [.p, .v l_odd102, .o (.l (l_told103 ++ [d104])), .un, .un, .un, .un, .un, .un]) rfl (ds_cons (ds_set (i := 3) sc_l_right.nd rfl (Or.inl rfl) (de_callC d_l_pick ⟨rfl, rfl, bx.cx.ga, bx.cx.rm⟩ (by omega) bx.tk (by rfl) (da_pot rfl (pv 0) (da_cons (de_lst (da_cons de_int (da_cons de_int (da_cons de_int (da_cons de_int (da_cons de_int (da_cons de_int (da_cons de_int da_nil)))))))) da_nil)))) fun l_much106 => ds_at (ρ' := [.p, .v l_odd102, .o (.l (l_told103 ++ [d104])), .v l_much106, .un, .un, .un, .un, .un]) rfl (ds_cons (ds_setLc (i := 4) (own := [("_law_spot", 8)]) (g := gName 8) (tt := tYes) rfl sc_l_right.nd rfl rfl (sw_true rfl rfl rfl (by decide +kernel)) (blkOk_by (N := N_l_right) (sc := defScope s_l_right) (by decide +kernel)) (di_rng1 (by rfl) b_range (da_cons (de_op op_sub opd_sub (de_var rfl (pv 3)) de_int) da_nil)) (tgt_name (by simp)) (fun ρ d h => nomatch h) test_yes (fun _ _ _ _ _ => pg_name (i := 8) sc_l_right.nd rfl (Or.inl rfl)) (fun _ _ _ _ _ => pts_nil) (fun _ _ _ _ _ => pe_elt fun F l_spot108 ρ' e => by cases e; exact de_at (ρ' := [.p, .v l_odd102, .un, .v l_much106, .un, .un, .un, .un, .v l_spot108]) rfl (de_tup (da_cons (de_var rfl (pv 8)) (da_cons de_str (da_cons (de_op opr_add opd_add (de_var rfl (pv 8)) de_int) da_nil)))))) fun l_links107 => ds_at (ρ' := [.p, .v l_odd102, .o (.l (l_told103 ++ [d104])), .v l_much106, .v l_links107, .un, .un, .un, .un]) rfl (ds_cons (ds_set (i := 5) sc_l_right.nd rfl (Or.inr rfl) (de_makeC d_Reader_init_d ⟨rfl, rfl, bx.cx.ga, bx.cx.rm⟩ (by omega) bx.tk rfl (by rfl) (da_cons de_str (da_cons (de_var rfl (pv 3)) (da_cons (de_tup (da_cons de_int da_nil)) (da_cons (de_tup (da_cons (de_op op_sub opd_sub (de_var rfl (pv 3)) de_int) da_nil)) (da_cons (de_ty cr_tuple cd_tuple (by rfl) b_tuple (by decide +kernel) (da_cons (de_var rfl (pv 4)) da_nil)) da_nil))))))) fun l_line109 => ds_at (ρ' := [.p, .v l_odd102, .o (.l (l_told103 ++ [d104])), .v l_much106, .v l_links107, .v l_line109, .un, .un, .un]) rfl (ds_cons (ds_set (i := 6) sc_l_right.nd rfl (Or.inr rfl) (de_makeC d_Reader_init_d ⟨rfl, rfl, bx.cx.ga, bx.cx.rm⟩ (by omega) bx.tk rfl (by rfl) (da_cons de_str (da_cons (de_var rfl (pv 3)) (da_cons (de_tup (da_cons de_int (da_cons de_int da_nil))) (da_cons (de_tup (da_cons (de_op op_sub opd_sub (de_var rfl (pv 3)) de_int) da_nil)) (da_cons (de_ty cr_tuple cd_tuple (by rfl) b_tuple (by decide +kernel) (da_cons (de_var rfl (pv 4)) da_nil)) da_nil))))))) fun l_fork110 => ds_at (ρ' := [.p, .v l_odd102, .o (.l (l_told103 ++ [d104])), .v l_much106, .v l_links107, .v l_line109, .v l_fork110, .un, .un]) rfl (ds_cons (ds_set (i := 7) sc_l_right.nd rfl (Or.inl rfl) (de_if (dt_cmp opr_lt opd_lt (de_op op_sub opd_sub (de_op opr_mul opd_mul de_int (de_var rfl (pv 3))) de_int) de_int) de_str de_str)) fun l_due111 => ds_at (ρ' := [.p, .v l_odd102, .o (.l (l_told103 ++ [d104])), .v l_much106, .v l_links107, .v l_line109, .v l_fork110, .v l_due111, .un]) rfl (ds_cons (ds_ownLst (i := 2) sc_l_right.nd rfl (Or.inl rfl) (da_cons (de_lamG ⟨rfl, rfl, bx.cx.ga, bx.cx.rm⟩ (by rfl) LX_l_came A_l_right (hcc.trans hc_l_right) (show LamX.lamSB (defScope s_l_right) _ = true from by decide +kernel) (hbody := fun A outer s H E f cq F0 hF bx => de_at (ρ' := [.p, .v l_odd102, .un, .v l_much106, .v l_links107, .v l_line109, .v l_fork110, .v l_due111, .un]) rfl (de_callC d_careful ⟨rfl, rfl, bx.cx.ga, bx.cx.rm⟩ (by omega) bx.tk (by rfl) (da_cons (de_var rfl (pv 5)) da_nil)))) da_nil)) fun l_told112 => ds_at (ρ' := [.p, .v l_odd102, .o (.l l_told112), .v l_much106, .v l_links107, .v l_line109, .v l_fork110, .v l_due111, .un]) rfl (ds_cons (ds_append (i := 2) rfl rfl (pv 2) (de_lamG ⟨rfl, rfl, bx.cx.ga, bx.cx.rm⟩ (by rfl) LX_l_came A_l_right (hcc.trans hc_l_right) (show LamX.lamSB (defScope s_l_right) _ = true from by decide +kernel) (hbody := fun A outer s H E f cq F0 hF bx => de_at (ρ' := [.p, .v l_odd102, .un, .v l_much106, .v l_links107, .v l_line109, .v l_fork110, .v l_due111, .un]) rfl (de_callC d_lone_of ⟨rfl, rfl, bx.cx.ga, bx.cx.rm⟩ (by omega) bx.tk (by rfl) (da_cons (de_var rfl (pv 6)) da_nil))))) fun d113 => ds_at (ρ' := [.p, .v l_odd102, .o (.l (l_told112 ++ [d113])), .v l_much106, .v l_links107, .v l_line109, .v l_fork110, .v l_due111, .un]) rfl (ds_cons (ds_append (i := 2) rfl rfl (pv 2) (de_lamG ⟨rfl, rfl, bx.cx.ga, bx.cx.rm⟩ (by rfl) LX_l_came A_l_right (hcc.trans hc_l_right) (show LamX.lamSB (defScope s_l_right) _ = true from by decide +kernel) (hbody := fun A outer s H E f cq F0 hF bx => de_at (ρ' := [.p, .v l_odd102, .un, .v l_much106, .v l_links107, .v l_line109, .v l_fork110, .v l_due111, .un]) rfl (de_callC d_careful ⟨rfl, rfl, bx.cx.ga, bx.cx.rm⟩ (by omega) bx.tk (by rfl) (da_cons (de_var rfl (pv 6)) da_nil))))) fun d114 => ds_at (ρ' := [.p, .v l_odd102, .o (.l ((l_told112 ++ [d113]) ++ [d114])), .v l_much106, .v l_links107, .v l_line109, .v l_fork110, .v l_due111, .un]) rfl (ds_letgo (i := 2) rfl (ds_at (ρ' := [.p, .v l_odd102, .v (.lst ((l_told112 ++ [d113]) ++ [d114])), .v l_much106, .v l_links107, .v l_line109, .v l_fork110, .v l_due111, .un]) rfl (ds_one (ds_ret (de_and (de_cmp (op_eqD hu64) opd_eq (de_var rfl (pv 2)) (de_lst (da_cons de_str (da_cons (de_var rfl (pv 7)) (da_cons (de_var rfl (pv 7)) da_nil))))) (de_one (de_cmp (op_eqD hu64) opd_eq (de_lenIC d_Reader_len_d ⟨rfl, rfl, bx.cx.ga, bx.cx.rm⟩ (by omega) (by rfl) b_len (by decide +kernel) (da_cons (de_callC d_lone_of ⟨rfl, rfl, bx.cx.ga, bx.cx.rm⟩ (by omega) bx.tk (by rfl) (da_cons (de_var rfl (pv 5)) da_nil)) da_nil)) (de_var rfl (pv 3))))))))))))))))))))), rfl⟩
abbrev s_law : Stmt := topS 50
abbrev N_law : List Str := ["_law_script", "_law_at", "_law_few", "_law_more", "_law_spot"]
theorem sc_law : FnScope N_law ["_law_script"] (defScope s_law) := ⟨rfl, rfl, rfl, by decide +kernel, rfl, by decide +kernel, by decide +kernel⟩
def m_law (l_script0 : D) : M D := (thenR ((((((Pure.pure (.int 1)) >>= fun x => ((((Pure.pure (.int 8)) >>= fun x => ((((Pure.pure l_script0) >>= fun x => (Pure.pure []) >>= fun xs => Pure.pure (.v x :: xs)) >>= fun as => DL.vals as >>= f1 lenD) >>= fun x => (Pure.pure []) >>= fun xs => Pure.pure (.v x :: xs)) >>= fun xs => Pure.pure (.v x :: xs)) >>= fun as => DL.vals as >>= f2 minD) >>= fun x => (Pure.pure []) >>= fun xs => Pure.pure (.v x :: xs)) >>= fun xs => Pure.pure (.v x :: xs)) >>= fun as => DL.vals as >>= f2 maxD) >>= fun x => (Pure.pure []) >>= fun xs => Pure.pure (.v x :: xs)) >>= rng1) >>= fun ds => forF (fun (a115 : Unit) l_at116 => (thenR (((((((Pure.pure l_script0) >>= fun x => ((Pure.pure l_at116) >>= fun x => (Pure.pure []) >>= fun xs => Pure.pure (.v x :: xs)) >>= fun xs => Pure.pure (.v x :: xs)) >>= g_l_pot) >>= fun ds => withPotE ds (g_l_right [.p])) >>= boolD) >>= fun b => Pure.pure (!b)) >>= fun x => if x = true then ((Pure.pure (.bl false)) >>= fun d => Pure.pure (.rt d)) else (Pure.pure (.nx ()))) fun _ => (Pure.pure (.nx ())))) ds ()) fun _ => (thenR ((((Pure.pure (.str "a")) >>= fun x => ((Pure.pure (.int 30)) >>= fun x => ((((Pure.pure (.int 0)) >>= fun x => ((Pure.pure (.int 1)) >>= fun x => (Pure.pure []) >>= fun xs => Pure.pure (.v x :: xs)) >>= fun xs => Pure.pure (.v x :: xs)) >>= fun as => DL.vals as >>= mkT) >>= fun x => ((((Pure.pure (.int 29)) >>= fun x => (Pure.pure []) >>= fun xs => Pure.pure (.v x :: xs)) >>= fun as => DL.vals as >>= mkT) >>= fun x => (((((((Pure.pure (.int 29)) >>= fun x => (Pure.pure []) >>= fun xs => Pure.pure (.v x :: xs)) >>= rng1) >>= fun ds => noEx (compF (fun _ => Pure.pure true) (fun l_spot120 => (((Pure.pure l_spot120) >>= fun x => ((Pure.pure (.str "a")) >>= fun x => (((Pure.pure l_spot120) >>= fun x => (Pure.pure (.int 1)) >>= fun y => addD x y) >>= fun x => (Pure.pure []) >>= fun xs => Pure.pure (.v x :: xs)) >>= fun xs => Pure.pure (.v x :: xs)) >>= fun xs => Pure.pure (.v x :: xs)) >>= fun as => DL.vals as >>= mkT)) ds) >>= mkL) >>= fun x => (Pure.pure []) >>= fun xs => Pure.pure (.v x :: xs)) >>= fun as => DL.vals as >>= f1 tupleD) >>= fun x => (Pure.pure []) >>= fun xs => Pure.pure (.v x :: xs)) >>= fun xs => Pure.pure (.v x :: xs)) >>= fun xs => Pure.pure (.v x :: xs)) >>= fun xs => Pure.pure (.v x :: xs)) >>= fun xs => Pure.pure (.v x :: xs)) >>= fun as => g_Reader_init_d as >>= fun fs => Pure.pure (.ins "Reader" fs)) >>= fun d => Pure.pure (.nx d)) fun l_few119 => (thenR ((((Pure.pure (.str "a")) >>= fun x => ((Pure.pure (.int 31)) >>= fun x => ((((Pure.pure (.int 0)) >>= fun x => ((Pure.pure (.int 1)) >>= fun x => (Pure.pure []) >>= fun xs => Pure.pure (.v x :: xs)) >>= fun xs => Pure.pure (.v x :: xs)) >>= fun as => DL.vals as >>= mkT) >>= fun x => ((((Pure.pure (.int 30)) >>= fun x => (Pure.pure []) >>= fun xs => Pure.pure (.v x :: xs)) >>= fun as => DL.vals as >>= mkT) >>= fun x => (((((((Pure.pure (.int 30)) >>= fun x => (Pure.pure []) >>= fun xs => Pure.pure (.v x :: xs)) >>= rng1) >>= fun ds => noEx (compF (fun _ => Pure.pure true) (fun l_spot122 => (((Pure.pure l_spot122) >>= fun x => ((Pure.pure (.str "a")) >>= fun x => (((Pure.pure l_spot122) >>= fun x => (Pure.pure (.int 1)) >>= fun y => addD x y) >>= fun x => (Pure.pure []) >>= fun xs => Pure.pure (.v x :: xs)) >>= fun xs => Pure.pure (.v x :: xs)) >>= fun xs => Pure.pure (.v x :: xs)) >>= fun as => DL.vals as >>= mkT)) ds) >>= mkL) >>= fun x => (Pure.pure []) >>= fun xs => Pure.pure (.v x :: xs)) >>= fun as => DL.vals as >>= f1 tupleD) >>= fun x => (Pure.pure []) >>= fun xs => Pure.pure (.v x :: xs)) >>= fun xs => Pure.pure (.v x :: xs)) >>= fun xs => Pure.pure (.v x :: xs)) >>= fun xs => Pure.pure (.v x :: xs)) >>= fun xs => Pure.pure (.v x :: xs)) >>= fun as => g_Reader_init_d as >>= fun fs => Pure.pure (.ins "Reader" fs)) >>= fun d => Pure.pure (.nx d)) fun l_more121 => (((((((((Pure.pure l_few119) >>= fun x => (Pure.pure []) >>= fun xs => Pure.pure (.v x :: xs)) >>= g_careful) >>= fun x => (Pure.pure []) >>= fun xs => Pure.pure (.v x :: xs)) >>= fun as => DL.vals as >>= f1 lenD) >>= fun x => ((lamF "" hs_l_came (((Pure.pure l_more121) >>= fun x => (Pure.pure []) >>= fun xs => Pure.pure (.v x :: xs)) >>= g_careful)) >>= fun x => (Pure.pure []) >>= fun xs => Pure.pure (.v x :: xs)) >>= fun xs => Pure.pure (.v x :: xs)) >>= fun as => DL.vals as >>= mkL) >>= fun x => (((Pure.pure (.int 59)) >>= fun x => ((Pure.pure (.str "many 60")) >>= fun x => (Pure.pure []) >>= fun xs => Pure.pure (.v x :: xs)) >>= fun xs => Pure.pure (.v x :: xs)) >>= fun as => DL.vals as >>= mkL) >>= fun y => eqD x y) >>= fun d => Pure.pure (.rt d))))) >>= doneF (α := Unit)
def g_law : List Ar → M D
  | [.v l_script0] => m_law l_script0
  | _ => M.no
theorem c_law {as : List Ar} {P : Pot} {ok : D → Pot → Prop} {ex : Ex → Pot → Prop} (h : out (g_law as) P ok ex) : ∃ l_script0, as = [.v l_script0] := by
  unfold g_law at h; split at h
  · exact ⟨_, rfl⟩
  · exact h.elim
theorem ok_law {f : Addr} {fd : FuncData} (Fn : Fun K "law" "law" s_law f fd) (b_len : mg "len" = none) (b_max : mg "max" = none) (b_min : mg "min" = none) (b_range : mg "range" = none) (b_repr : mg "repr" = none) (b_tuple : mg "tuple" = none) (d_l_pot : Cal P w K mg base 1 "_law_pot" (spF ⟨mg, K, TT⟩ g_l_pot)) (d_l_right : Cal P w K mg base 12 "_law_right" (spD ⟨mg, K, TT⟩ g_l_right)) (d_careful : Cal P w K mg base 4 "careful" (spD ⟨mg, K, TT⟩ g_careful)) {cc_law P_law : Addr} (A_law : LamAt ⟨mg, K, TT⟩ base cc_law P_law ("law" ++ ".<locals>." ++ "<lambda>")) (hc_law : fd.code = .ref cc_law) (LX_l_came : LamDefG ⟨mg, K, TT⟩ "_law_came" "_law_call_it" "" hs_l_came) (d_Reader_init_d : CalI P w ⟨mg, K, TT⟩ base 5 "Reader" g_Reader_init_d) : FnG P w K mg base 13 f fd ["_law_script"] (spD ⟨mg, K, TT⟩ g_law) := by
  refine fnG_ofC (k := 12) Fn rfl rfl sc_law (fun as P ok ex h => by obtain ⟨l_script0, rfl⟩ := c_law h; rfl) fun cd A fr s H0 G0 ap E as P0 ok ex hcc h bx => ?_
  obtain ⟨l_script0, rfl⟩ := c_law h
  have hu64 := hu_64 bx.cx.rm
  have hu65 := hu_65 bx.cx.rm
  have hu102 := hu_102 bx.cx.rm
  exact ⟨Unit, (fun (a : Unit) => [.un, .un, .un, .un, .un]), _, ds_at (ρ' := [.v l_script0, .un, .un, .un, .un]) rfl (ds_cons (ds_for (E := (fun (a : Unit) => [.v l_script0, .un, .un, .un, .un])) (a₀ := ()) (t := fun (a : Unit) d => some (((fun (a : Unit) => [.v l_script0, .un, .un, .un, .un]) a).set 1 (.v d))) bx.own rfl (Rel.fogL (.k (.k (.k (.k (.k FogL.n)))))) (di_rng1 (by rfl) b_range (da_cons (de_blt (DL.cr_max rfl) cd_max (by rfl) b_max (by decide +kernel) (da_cons de_int (da_cons (de_blt (DL.cr_min rfl) cd_min (by rfl) b_min (by decide +kernel) (da_cons de_int (da_cons (de_blt cr_len cd_len (by rfl) b_len (by decide +kernel) (da_cons (de_var rfl (pv 0)) da_nil)) da_nil))) da_nil))) da_nil)) (pg_ex fun a => dg_name (i := 1) sc_law.nd rfl (Or.inl rfl)) (fun a d h => nomatch h) (pss_for fun a115 l_at116 ρ' e => by cases e; exact ds_at (ρ' := [.v l_script0, .v l_at116, .un, .un, .un]) rfl (ds_cons (ds_if (E := (fun (a : Unit) => [.v l_script0, .v l_at116, .un, .un, .un])) (dt_not (dt_val (de_callPot d_l_right ⟨rfl, rfl, bx.cx.ga, bx.cx.rm⟩ (by omega) bx.tk (by rfl) (de_callCF d_l_pot ⟨rfl, rfl, bx.cx.ga, bx.cx.rm⟩ (by omega) bx.tk (by rfl) (da_cons (de_var rfl (pv 0)) (da_cons (de_var rfl (pv 1)) da_nil)))))) (ds_one (ds_ret de_bl)) (ds_end (a := ()) (.k (.k (.k (.k (.k FogL.n))))))) fun _ => ds_at (ρ' := [.v l_script0, .v l_at116, .un, .un, .un]) rfl (ds_end (a := ()) (.k (.u (.k (.k (.k FogL.n))))))))) fun _ => ds_at (ρ' := [.v l_script0, .un, .un, .un, .un]) rfl (ds_cons (ds_set (i := 2) sc_law.nd rfl (Or.inl rfl) (de_makeC d_Reader_init_d ⟨rfl, rfl, bx.cx.ga, bx.cx.rm⟩ (by omega) bx.tk rfl (by rfl) (da_cons de_str (da_cons de_int (da_cons (de_tup (da_cons de_int (da_cons de_int da_nil))) (da_cons (de_tup (da_cons de_int da_nil)) (da_cons (de_ty cr_tuple cd_tuple (by rfl) b_tuple (by decide +kernel) (da_cons (de_lc (own := [("_law_spot", 4)]) (g := gName 4) (tt := tYes) rfl sc_law.nd (blkOk_by (N := N_law) (sc := defScope s_law) (by decide +kernel)) (di_rng1 (by rfl) b_range (da_cons de_int da_nil)) (tgt_name (by simp)) (fun ρ d h => nomatch h) test_yes (fun _ _ _ _ _ => pg_name (i := 4) sc_law.nd rfl (Or.inl rfl)) (fun _ _ _ _ _ => pts_nil) (fun _ _ _ _ _ => pe_elt fun F l_spot120 ρ' e => by cases e; exact de_at (ρ' := [.v l_script0, .un, .un, .un, .v l_spot120]) rfl (de_tup (da_cons (de_var rfl (pv 4)) (da_cons de_str (da_cons (de_op opr_add opd_add (de_var rfl (pv 4)) de_int) da_nil)))))) da_nil)) da_nil))))))) fun l_few119 => ds_at (ρ' := [.v l_script0, .un, .v l_few119, .un, .un]) rfl (ds_cons (ds_set (i := 3) sc_law.nd rfl (Or.inr rfl) (de_makeC d_Reader_init_d ⟨rfl, rfl, bx.cx.ga, bx.cx.rm⟩ (by omega) bx.tk rfl (by rfl) (da_cons de_str (da_cons de_int (da_cons (de_tup (da_cons de_int (da_cons de_int da_nil))) (da_cons (de_tup (da_cons de_int da_nil)) (da_cons (de_ty cr_tuple cd_tuple (by rfl) b_tuple (by decide +kernel) (da_cons (de_lc (own := [("_law_spot", 4)]) (g := gName 4) (tt := tYes) rfl sc_law.nd (blkOk_by (N := N_law) (sc := defScope s_law) (by decide +kernel)) (di_rng1 (by rfl) b_range (da_cons de_int da_nil)) (tgt_name (by simp)) (fun ρ d h => nomatch h) test_yes (fun _ _ _ _ _ => pg_name (i := 4) sc_law.nd rfl (Or.inl rfl)) (fun _ _ _ _ _ => pts_nil) (fun _ _ _ _ _ => pe_elt fun F l_spot122 ρ' e => by cases e; exact de_at (ρ' := [.v l_script0, .un, .v l_few119, .un, .v l_spot122]) rfl (de_tup (da_cons (de_var rfl (pv 4)) (da_cons de_str (da_cons (de_op opr_add opd_add (de_var rfl (pv 4)) de_int) da_nil)))))) da_nil)) da_nil))))))) fun l_more121 => ds_at (ρ' := [.v l_script0, .un, .v l_few119, .v l_more121, .un]) rfl (ds_one (ds_ret (de_cmp (op_eqD hu64) opd_eq (de_lst (da_cons (de_blt cr_len cd_len (by rfl) b_len (by decide +kernel) (da_cons (de_callC d_careful ⟨rfl, rfl, bx.cx.ga, bx.cx.rm⟩ (by omega) bx.tk (by rfl) (da_cons (de_var rfl (pv 2)) da_nil)) da_nil)) (da_cons (de_lamG ⟨rfl, rfl, bx.cx.ga, bx.cx.rm⟩ (by rfl) LX_l_came A_law (hcc.trans hc_law) (show LamX.lamSB (defScope s_law) _ = true from by decide +kernel) (hbody := fun A outer s H E f cq F0 hF bx => de_at (ρ' := [.v l_script0, .un, .v l_few119, .v l_more121, .un]) rfl (de_callC d_careful ⟨rfl, rfl, bx.cx.ga, bx.cx.rm⟩ (by omega) bx.tk (by rfl) (da_cons (de_var rfl (pv 3)) da_nil)))) da_nil))) (de_lst (da_cons de_int (da_cons de_str da_nil))))))))), rfl⟩
end
end KX
namespace KX
open PySem PySem.Spec PyProof.Rows L2 DL
open Builtin.Int (intBits)
def plain (l : List Nat) : Bool := l.all fun c => decide (97 ≤ c) && decide (c ≤ 122)
theorem cps_a : (Str.ofString "a").cps.toList = [97] := by decide +kernel
theorem cps_z : (Str.ofString "z").cps.toList = [122] := by decide +kernel
theorem one_lt {c d : Nat} : decide (([c] : List Nat) < [d]) = decide (c < d) := by
  by_cases h : c < d
  · rw [decide_eq_true h]; exact decide_eq_true (SX.ltT_sgl.mpr h)
  · rw [decide_eq_false h]; exact decide_eq_false fun k => h (SX.ltT_sgl.mp k)
theorem lt_a (c : Nat) : ltS ⟨#[c]⟩ (Str.ofString "a") = decide (c < 97) := by
  unfold ltS; rw [cps_a]; exact one_lt
theorem lt_z (c : Nat) : ltS (Str.ofString "z") ⟨#[c]⟩ = decide (122 < c) := by
  unfold ltS; rw [cps_z]; exact one_lt
theorem iter_str (x : Str) : iterA (.str x) = Pure.pure (chrs x) := Eq.trans rfl rfl
theorem bls_map (l : List Nat) (f : Nat → Bool) : bls (l.map fun a => .bl (f a)) = some (l.map f) := by
  induction l with
  | nil => rfl
  | cons a l ih => show (bls _).map _ = _; rw [ih]; rfl
theorem le_str (x y : Str) : leD (.str x) (.str y) = Pure.pure (.bl (!ltS y x)) := Eq.trans rfl rfl
theorem lt_str (x y : Str) : ltD (.str x) (.str y) = Pure.pure (.bl (ltS x y)) := Eq.trans rfl rfl
abbrev cl (x : Str) : List Nat := x.cps.toList
theorem cl_len (x : Str) : (cl x).length = x.cps.size := Array.length_toList
theorem len_e {x : Str} (h : x.cps.size ≤ sizeLine) : lenD (.str x) = Pure.pure (.int ((cl x).length : Nat)) := by
  show (if x.length ≤ sizeLine then Pure.pure (D.int (x.length : Nat)) else M.no) = _
  have e : x.length = x.cps.size := rfl
  rw [if_pos (show x.length ≤ sizeLine from h), e, cl_len]
theorem le_int (i j : Int) : leD (.int i) (.int j) = Pure.pure (.bl (decide (i ≤ j))) := Eq.trans rfl rfl
theorem lt_int (i j : Int) : ltD (.int i) (.int j) = Pure.pure (.bl (decide (i < j))) := Eq.trans rfl rfl
theorem gt_int (i j : Int) : gtD (.int i) (.int j) = Pure.pure (.bl (decide (j < i))) := Eq.trans rfl rfl
theorem chain_int (a n b : Int) : chainM (Pure.pure (.int a)) (Pure.pure (.int n)) (Pure.pure (.int b)) leD leD = Pure.pure (.bl (decide (a ≤ n) && decide (n ≤ b))) := by
  unfold chainM
  simp only [pb, le_int, bB]
  by_cases h : a ≤ n
  · rw [decide_eq_true h, ittr, Bool.true_and]
  · rw [decide_eq_false h, itfa, Bool.false_and]
theorem is_str (x : Str) (T : String) : isiD T (.str x) = Pure.pure (.bl (isB "str" T)) := isi_is T rfl
theorem eq_int (i j : Int) : eqD (.int i) (.int j) = Pure.pure (.bl (i == j)) := by
  show (if SeqAt.shaped (.int i) = true ∧ SeqAt.shaped (.int j) = true then Pure.pure (D.bl (PyData.eqv (.int i) (.int j))) else M.no) = _
  rw [if_pos ⟨rfl, rfl⟩]
  rfl
structure Fine (x : Str) : Prop where
  sz : x.cps.size < 4000
  cp : ∀ c ∈ cl x, c < 1114112
theorem Fine.line {x : Str} (h : Fine x) : x.cps.size ≤ sizeLine := by
  have := h.sz
  rw [sizeLine_eq]; omega
theorem strOk_of {x : Str} (h : ∀ c ∈ cl x, c < 1114112) : PyData.canLay0 (.str x) = true := by
  have e : PyData.canLay0 (.str x) = x.cps.all (· < 1114112) := rfl
  rw [e, ← Array.all_toList, List.all_eq_true]
  exact fun c hc => decide_eq_true (h c hc)
theorem Fine.ok {x : Str} (h : Fine x) : PyData.canLay0 (.str x) = true := strOk_of h.cp
theorem is_int (i : Int) (T : String) : isiD T (.int i) = Pure.pure (.bl (isB "int" T)) := isi_is T rfl
theorem abs_e (i : Int) : absD (.int i) = Pure.pure (.int (if i < 0 then -i else i)) := Eq.trans rfl rfl
theorem abs_nat (i : Int) : (if i < 0 then -i else i) = (i.natAbs : Int) := by split <;> omega
theorem mul_ok {i j : Int} (h : CMulX i j) : mulD (.int i) (.int j) = Pure.pure (.int (i * j)) := if_pos h
theorem pow_ok {i j : Int} (h : CPowX i j) : powD (.int i) (.int j) = Pure.pure (.int (i ^ j.toNat)) := if_pos h
theorem mod_ok {i j : Int} (h : 0 < j) : modD (.int i) (.int j) = Pure.pure (.int (i % j)) := if_pos h
theorem add_ii (i j : Int) : addD (.int i) (.int j) = Pure.pure (.int (i + j)) := Eq.trans rfl rfl
theorem sub_ii (i j : Int) : subD (.int i) (.int j) = Pure.pure (.int (i - j)) := Eq.trans rfl rfl
theorem bits10 : intBits 10 = 4 := by decide +kernel
theorem run_pure {α : Type} (a : α) (P : Pot) : (Pure.pure a : M α) P = .ok a P := Eq.trans rfl rfl
theorem run_bind {α β : Type} (m : M α) (k : α → M β) (P : Pot) : (m >>= k) P = match m P with
  | .ok a p' => k a p'
  | .ex e p' => .ex e p'
  | .no => .no := Eq.trans rfl rfl
theorem bits_small {i : Int} {n : Nat} (h : i.natAbs < 2 ^ n) : Builtin.Int.intBits i ≤ n := PyProof.Rows.intBits_le h
theorem bit_ok {n a x y : Int} (hn : 0 < n) (hn2 : n.natAbs.log2 < 9000) (ha : 0 ≤ a) (hx : 0 ≤ x ∧ x < 2 ^ 61) (hy : 0 ≤ y ∧ y < 2 ^ 40) :
    ∃ r a' y', m_l_bit (.int n) (some [.int a, .int x, .int y]) = .ok (.int r) (some [.int a', .int x, .int y']) ∧ 0 ≤ r ∧ r < n ∧ 0 ≤ a' ∧ a' ≤ a ∧ y ≤ y' ∧ y' ≤ y + 1 := by
  have g0 : ∀ (p q r : D), potGet (.int 0) (some [p, q, r]) = .ok p (some [p, q, r]) := fun _ _ _ => Eq.trans rfl rfl
  have g1 : ∀ (p q r : D), potGet (.int 1) (some [p, q, r]) = .ok q (some [p, q, r]) := fun _ _ _ => Eq.trans rfl rfl
  have g2 : ∀ (p q r : D), potGet (.int 2) (some [p, q, r]) = .ok r (some [p, q, r]) := fun _ _ _ => Eq.trans rfl rfl
  have s0 : ∀ (p q r d : D), potSet (.int 0) d (some [p, q, r]) = .ok () (some [d, q, r]) := fun _ _ _ _ => Eq.trans rfl rfl
  have s2 : ∀ (p q r d : D), potSet (.int 2) d (some [p, q, r]) = .ok () (some [p, q, d]) := fun _ _ _ _ => Eq.trans rfl rfl
  by_cases h : a > 0
  · have e : m_l_bit (.int n) (some [.int a, .int x, .int y]) = .ok (.int (a % n)) (some [.int (a / n), .int x, .int y]) := by
      unfold m_l_bit
      simp only [pure_bind, bind_assoc, run_bind, run_pure, thenR, g0, gtD, ordD, boolD, decide_eq_true h, if_true, vals, f1, intOf, modD, DL.intD, hn, fdivD, CDivW, hn2, and_self, s0, doneF]
    exact ⟨_, _, _, e, Int.emod_nonneg _ (by omega), Int.emod_lt_of_pos _ hn, Int.ediv_nonneg ha (by omega), Int.ediv_le_self _ ha, Int.le_refl _, by omega⟩
  · have mul1 : CMulX 1000453 (y + 1) := by
      unfold CMulX
      have h1 := bits_small (i := 1000453) (n := 20) (by decide)
      have h2 := bits_small (i := y + 1) (n := 41) (by omega)
      omega
    have mul2 : CMulX 9103 (y + 1) := by
      unfold CMulX
      have h1 := bits_small (i := 9103) (n := 20) (by decide)
      have h2 := bits_small (i := y + 1) (n := 41) (by omega)
      omega
    have small : ∀ i : Int, 0 ≤ i → i < 2305843009213693951 → Builtin.Int.intBits i ≤ 61 := fun i h1 h2 => bits_small (by omega)
    let f1' := (x + 1000453 * (y + 1)) % 2305843009213693951
    have f0 : 0 ≤ f1' := Int.emod_nonneg _ (by decide)
    have fl : f1' < 2305843009213693951 := Int.emod_lt_of_pos _ (by decide)
    have mul3 : CMulX f1' f1' := by
      unfold CMulX
      have := small _ f0 fl
      omega
    have g0' : 0 ≤ f1' * f1' % 2305843009213693921 := Int.emod_nonneg _ (by decide)
    have gl' : f1' * f1' % 2305843009213693921 < 2305843009213693921 := Int.emod_lt_of_pos _ (by decide)
    have mul4 : CMulX (f1' * f1' % 2305843009213693921) f1' := by
      unfold CMulX
      have h1 := small _ f0 fl
      have h2 := small _ g0' (by omega)
      omega
    have l2 : (16384 : Int).natAbs.log2 < 9000 := by decide
    have e : m_l_bit (.int n) (some [.int a, .int x, .int y]) = .ok (.int ((f1' * f1' % 2305843009213693921 * f1' + 9103 * (y + 1)) % 2305843009213693907 / 16384 % n)) (some [.int a, .int x, .int (y + 1)]) := by
      unfold m_l_bit
      have p1 : (0 : Int) < 2305843009213693951 := by decide
      have p2 : (0 : Int) < 2305843009213693921 := by decide
      have p3 : (0 : Int) < 2305843009213693907 := by decide
      have p4 : (0 : Int) < 16384 := by decide
      simp only [pure_bind, bind_assoc, run_bind, run_pure, thenR, g0, g1, g2, s2, gtD, ordD, boolD, decide_eq_false h, Bool.false_eq_true, if_false, vals, f1, intOf, addD, mulD, modD, DL.intD, hn, fdivD, CDivW, hn2, and_self, if_true, doneF, mul1, mul2, mul3, mul4, p1, p2, p3, p4, l2, f1']
    exact ⟨_, _, _, e, Int.emod_nonneg _ (by omega), Int.emod_lt_of_pos _ hn, ha, Int.le_refl _, by omega, by omega⟩
def PO (n : Int) (P : Pot) : Prop := ∃ a x y, P = some [.int a, .int x, .int y] ∧ 0 ≤ a ∧ (0 ≤ x ∧ x < 2 ^ 61) ∧ 0 ≤ y ∧ y ≤ n
theorem PO.mono {n m : Int} {P : Pot} (h : PO n P) (k : n ≤ m) : PO m P := by
  obtain ⟨a, x, y, e, h1, h2, h3, h4⟩ := h
  exact ⟨a, x, y, e, h1, h2, h3, Int.le_trans h4 k⟩
theorem bit_w {n k : Int} {P : Pot} (h : PO n P) (hn : n < 2 ^ 39) (hk : 0 < k) (hl : k.natAbs.log2 < 9000) : wp (g_l_bit [.p, .v (.int k)]) P fun d P' => ∃ r, d = .int r ∧ 0 ≤ r ∧ r < k ∧ PO (n + 1) P' := by
  obtain ⟨a, x, y, rfl, ha, hx, h0, hy⟩ := h
  obtain ⟨r, a', y', e, h1, h2, h3, h4, h5, h6⟩ := bit_ok (n := k) (a := a) (x := x) (y := y) hk hl ha hx ⟨h0, by omega⟩
  exact ⟨.int r, _, e, r, rfl, h1, h2, a', x, y', rfl, h3, hx, by omega, by omega⟩
theorem fB {α β : Type} (m : M α) (f : α → M (Fl β)) (k : β → M (List D)) : thenF (m >>= f) k = (m >>= fun x => thenF (f x) k) := bind_assoc m f _
theorem fN {α : Type} (a : α) (k : α → M (List D)) : thenF (Pure.pure (.nx a)) k = k a := Eq.trans rfl rfl
def P61 : Int := 10 ^ 61
def P671 : Int := P61 ^ (11 : Int).toNat
theorem P61_pos : 0 < P61 := by unfold P61; exact Int.pow_pos (by decide)
theorem P671_pos : 0 < P671 := by unfold P671; exact Int.pow_pos P61_pos
theorem pow_61 : powD (.int 10) (.int 61) = Pure.pure (.int P61) := pow_ok (i := 10) (j := 61) (by unfold CPowX; rw [bits10]; decide)
theorem pow_671 : powD (.int P61) (.int 11) = Pure.pure (.int P671) := by
  have h : CPowX P61 11 := by
    unfold CPowX
    have : intBits P61 ≤ 203 := PySem.intBits_le_iff.mpr (by decide +kernel)
    omega
  exact pow_ok h
def P18 : Int := 10 ^ 18
theorem pow_18 : powD (.int 10) (.int 18) = Pure.pure (.int P18) := pow_ok (i := 10) (j := 18) (by unfold CPowX; rw [bits10]; decide)
theorem int_of (i : Int) : intOf (.int i) = Pure.pure (.int i) := Eq.trans rfl rfl
theorem int_bl (b : Bool) : intOf (.bl b) = Pure.pure (.int (if b then 1 else 0)) := Eq.trans rfl rfl
theorem len_scr (ns : List Int) : lenD (.scr ns) = Pure.pure (.int (ns.length : Nat)) := Eq.trans rfl rfl
theorem ix_scr {ns : List Int} {i : Int} {z : Int} (h : atI ns i = some z) : ixD (.scr ns) (.int i) = Pure.pure (.int z) := by
  show M.some ((atI ns i).map D.int) = _
  rw [h]; exact Eq.trans rfl rfl
theorem atI_nat {α : Type} {xs : List α} {i : Int} (h0 : 0 ≤ i) (h : i < xs.length) : ∃ z, atI xs i = some z ∧ z ∈ xs := by
  have hi : i.toNat < xs.length := by omega
  refine ⟨xs[i.toNat], ?_, List.getElem_mem hi⟩
  unfold atI ixN
  rw [if_pos h0, if_pos h]
  exact List.getElem?_eq_getElem hi
theorem max_e (i j : Int) : maxD (.int i) (.int j) = Pure.pure (.int (if j > i then j else i)) := Eq.trans rfl rfl
theorem mkN_e {ds : List D} (h : ds.length ≤ sizeLine) : mkN ds = Pure.pure ds := if_pos h
theorem small_mul {i j : Int} {m n : Nat} (hi : i.natAbs < 2 ^ m) (hj : j.natAbs < 2 ^ n) (h : m + n ≤ 134217728) : CMulX i j := by
  unfold CMulX
  have h1 := PySem.intBits_le_iff.mpr hi
  have h2 := PySem.intBits_le_iff.mpr hj
  omega
theorem cell_e {ns : List Int} {i : Int} {β : Type} (h0 : 0 ≤ i) (z0 : Int) :
    ∃ c, ∀ k : D → M β, (ltD (.int i) (.int (ns.length : Nat)) >>= fun x => boolD x >>= fun x => (if x = true then ixD (.scr ns) (.int i) else Pure.pure (.int z0)) >>= k) = k (.int c) := by
  by_cases h : i < (ns.length : Int)
  · obtain ⟨z, e, _⟩ := atI_nat (xs := ns) h0 h
    exact ⟨z, fun k => by rw [lt_int, pb, bB, pb, decide_eq_true h, ittr, ix_scr e, pb]⟩
  · exact ⟨z0, fun k => by rw [lt_int, pb, bB, pb, decide_eq_false h, itfa, pb]⟩
theorem pot_e {ns : List Int} {i : Int} (h0 : 0 ≤ i) (hi : i < 64) : ∃ a x, g_l_pot [.v (.scr ns), .v (.int i)] = Pure.pure [.int a, .int x, .int 0] ∧ 0 ≤ a ∧ (0 ≤ x ∧ x < 2 ^ 61) := by
  show ∃ a x, m_l_pot (.scr ns) (.int i) = _ ∧ _
  unfold m_l_pot
  have m1 : CMulX 67 i := small_mul (m := 7) (n := 7) (by decide) (by omega) (by decide)
  have m2 : CMulX 9413 i := small_mul (m := 14) (n := 7) (by decide) (by omega) (by decide)
  simp only [pb, asc, fB, v0, v1, f1e, len_scr, mul_ok m1, add_ii]
  obtain ⟨c, e⟩ := cell_e (β := List D) (ns := ns) h0 (67 * i + 37)
  rw [e, fN]
  simp only [abs_e, abs_nat, pb, int_of, pow_61, pow_671, mod_ok P671_pos, fN]
  generalize hg : (c.natAbs : Int) % P671 = g
  have g0 : 0 ≤ g := hg ▸ Int.emod_nonneg _ (by have := P671_pos; omega)
  have p1 : (0 : Int) < 2147483249 := by decide
  have p2 : (0 : Int) < 2305843009213693907 := by decide
  simp only [mod_ok p1, pb]
  generalize hb : g % 2147483249 = b
  have b0 : 0 ≤ b := hb ▸ Int.emod_nonneg _ (by decide)
  have b1 : b < 2147483249 := hb ▸ Int.emod_lt_of_pos _ (by decide)
  have m3 : CMulX b 96293 := small_mul (m := 31) (n := 17) (by omega) (by decide) (by decide)
  simp only [mul_ok m3, mul_ok m2, pb, add_ii, lt_int, int_bl]
  generalize hk : (if decide (c < 0) = true then (1 : Int) else 0) = k
  have k0 : k = 0 ∨ k = 1 := by rw [← hk]; split <;> simp
  have m4 : CMulX 47 k := small_mul (m := 6) (n := 1) (by decide) (by omega) (by decide)
  simp only [mul_ok m4, pb, add_ii, fN, pow_18, sub_ii, f2e, max_e, int_of, mod_ok p2]
  generalize b * 96293 + 9413 * i + 47 * k + 73 = z
  refine ⟨_, _, mkN_e (by rw [sizeLine_eq]; simp), ?_, Int.emod_nonneg _ (by decide), ?_⟩
  · split <;> omega
  · have := Int.emod_lt_of_pos z p2
    omega
theorem pick_w {n : Int} {P : Pot} {ds : List D} (h : PO n P) (hn : n < 2 ^ 39) (hl : 0 < ds.length) (hs : ds.length < 4000) : wp (g_l_pick [.p, .v (.lst ds)]) P fun d P' => d ∈ ds ∧ PO (n + 1) P' := by
  show wp (m_l_pick (.lst ds)) P _
  unfold m_l_pick
  have e1 : lenD (.lst ds) = Pure.pure (.int (ds.length : Nat)) := Eq.trans rfl rfl
  simp only [pb, asc, v0, v1, f1e, e1]
  have lg : ((ds.length : Nat) : Int).natAbs.log2 < 9000 := by
    rw [Int.natAbs_natCast]
    exact Nat.lt_trans ((Nat.log2_lt (by omega)).mpr (show ds.length < 2 ^ 12 by omega)) (by decide)
  refine wp_bind (wp_mono (bit_w h hn (by omega) lg) fun d P' ⟨r, e, r0, r1, q⟩ => ?_)
  subst e
  obtain ⟨z, e1, e2⟩ := atI_nat (xs := ds) r0 r1
  have e3 : ixD (.lst ds) (.int r) = Pure.pure z := by
    show M.some (atI ds r) = _
    rw [e1]; exact Eq.trans rfl rfl
  rw [e3]
  simp only [pb, dR]
  exact wp_pure ⟨e2, q⟩
theorem add_ss {a b : Str} (h : a.cps.size + b.cps.size ≤ sizeLine) : addD (.str a) (.str b) = Pure.pure (.str (a ++ b)) := if_pos h
structure FineN (k : Nat) (x : Str) : Prop where
  sz : x.cps.size ≤ k
  cp : ∀ c ∈ cl x, c < 1114112
theorem FineN.fine {k : Nat} {x : Str} (h : FineN k x) (hk : k < 4000) : Fine x := ⟨Nat.lt_of_le_of_lt h.sz hk, h.cp⟩
theorem rng_e {j : Int} (h : 0 ≤ j ∧ j < 100) : rng1 [.v (.int j)] = Pure.pure (rngs 0 j) := if_pos (by omega)
theorem part_e (i : Int) : partD (.int i) = Pure.pure (some i) := Eq.trans rfl rfl
theorem min_e (i j : Int) : minD (.int i) (.int j) = Pure.pure (.int (if j < i then j else i)) := Eq.trans rfl rfl
theorem plain_e {x : Str} (h : x.cps.size ≤ sizeLine) : g_is_plain [.v (.str x)] = Pure.pure (.bl (plain x.cps.toList)) := by
  show m_is_plain (.str x) = _
  unfold m_is_plain
  have e1 : ∀ d ∈ chrs x, chainM (Pure.pure (.str "a")) (Pure.pure d) (Pure.pure (.str "z")) leD leD = Pure.pure (match d with | .str y => .bl (y.cps.toList.all fun c => decide (97 ≤ c) && decide (c ≤ 122)) | d => d) := fun d hd => by
    obtain ⟨c, _, rfl⟩ := List.mem_map.mp hd
    unfold chainM
    simp only [pb, le_str, bB]
    rw [lt_a]
    by_cases q : c < 97
    · have q2 : decide (97 ≤ c) = false := decide_eq_false (by omega)
      simp only [decide_eq_true q, Bool.not_true, Bool.false_eq_true, if_false, List.all_cons, List.all_nil, Bool.and_true, q2, Bool.false_and]
    · have q2 : decide (97 ≤ c) = true := decide_eq_true (by omega)
      simp only [decide_eq_false q, Bool.not_false, if_true, lt_z, List.all_cons, List.all_nil, Bool.and_true, q2, Bool.true_and]
      by_cases q3 : 122 < c
      · rw [decide_eq_true q3, decide_eq_false (by omega)]; rfl
      · rw [decide_eq_false q3, decide_eq_true (by omega)]; rfl
  have e2 : compF (fun _ => Pure.pure true) (fun d => chainM (Pure.pure (.str "a")) (Pure.pure d) (Pure.pure (.str "z")) leD leD) (chrs x) = Pure.pure (x.cps.toList.map fun c => .bl (decide (97 ≤ c) && decide (c ≤ 122))) := by
    rw [comp_all _ _ e1]
    unfold chrs
    rw [List.map_map]
    congr 1
    refine List.map_congr_left fun c _ => ?_
    show D.bl (([c].all fun c => decide (97 ≤ c) && decide (c ≤ 122))) = _
    simp only [List.all_cons, List.all_nil, Bool.and_true]
  have e3 : allD (.lst (x.cps.toList.map fun c => .bl (decide (97 ≤ c) && decide (c ≤ 122)))) = Pure.pure (.bl (plain x.cps.toList)) := by
    unfold allD
    simp only [bls_map, Option.map_some, sB]
    unfold plain
    rw [List.all_map]
    rfl
  simp only [pb, asc, iter_str, e2, noE, v0, v1, f1e, dR]
  rw [mkLe (by rw [List.length_map, Array.length_toList]; exact h)]
  simp only [pb, v0, v1, f1e, dR, e3]
theorem isB1 : isB "str" "str" = true := by decide
theorem isB3 : isB "int" "int" = true := by decide
theorem isB5 : isB "int" "bool" = false := by decide
end KX
namespace KX
open PySem PySem.Spec PyProof.Rows L2 DL
abbrev Asc (l : List Nat) : Prop := l.Pairwise (· < ·)
def msk (l : List Nat) : Nat := (l.map (2 ^ ·)).sum
theorem asc_ext {l m : List Nat} (h : Asc l) (k : Asc m) (e : ∀ x, x ∈ l ↔ x ∈ m) : l = m :=
  SX.asc_uniq (fun a b p q => by omega) (fun a p => by omega) h k e
/-- the states of a mask -/
def sts (m k : Nat) : List Nat := (List.range k).filter fun i => m.testBit i
theorem sts_asc (m k : Nat) : Asc (sts m k) := (List.pairwise_lt_range).filter _
theorem sts_is {m k : Nat} {l : List Nat} (h : Asc l) (hb : ∀ j, m.testBit j = decide (j ∈ l)) (hk : m < 2 ^ k) : sts m k = l := by
  refine asc_ext (sts_asc m k) h fun x => ?_
  unfold sts
  rw [List.mem_filter, List.mem_range, hb]
  refine ⟨fun z => of_decide_eq_true z.2, fun z => ⟨?_, decide_eq_true z⟩⟩
  by_cases y : x < k
  · exact y
  · have : m.testBit x = false := Nat.testBit_lt_two_pow (Nat.lt_of_lt_of_le hk (Nat.pow_le_pow_right (by decide) (by omega)))
    rw [hb, decide_eq_true z] at this
    cases this
theorem bor (a b : Nat) : Builtin.bitOr (a : Int) (b : Int) = ((a ||| b : Nat) : Int) := by
  unfold Builtin.bitOr Builtin.bitAnd
  have h1 : ¬ (0 ≤ Builtin.bitNot (a : Int)) := by unfold Builtin.bitNot; omega
  have h2 : ¬ (0 ≤ Builtin.bitNot (b : Int)) := by unfold Builtin.bitNot; omega
  have e : ∀ c : Nat, (Builtin.bitNot (Builtin.bitNot (c : Int))).toNat = c := fun c => by unfold Builtin.bitNot; omega
  rw [decide_eq_false h1, decide_eq_false h2]
  show Builtin.bitNot (Builtin.bitNot _) = _
  rw [e, e]
  unfold Builtin.bitNot
  omega
theorem band1 (a : Nat) : Builtin.bitAnd (a : Int) 1 = ((a % 2 : Nat) : Int) := by rw [PyProof.Rows.bitAnd_m1]; rfl
theorem or_e (a b : Nat) : orD (.int a) (.int b) = Pure.pure (.int ((a ||| b : Nat) : Int)) := by
  show Pure.pure (D.int (Builtin.bitOr a b)) = _
  rw [bor]
theorem shl_e {j : Nat} (h : j ≤ 60) : shlD (.int 1) (.int j) = Pure.pure (.int ((2 ^ j : Nat) : Int)) := by
  have c : CShl 1 (j : Int) := by
    refine ⟨by omega, ?_⟩
    have : Builtin.Int.intBits 1 = 1 := by decide +kernel
    rw [this]
    have : (2 : Int) ^ 27 = 134217728 := by decide
    omega
  show (if CShl 1 (j : Int) then (Pure.pure (D.int (1 * 2 ^ (j : Int).toNat)) : M D) else M.no) = _
  rw [if_pos c, Int.toNat_natCast, Int.one_mul]
  congr 2
theorem shr_e (a i : Nat) : shrD (.int a) (.int i) = Pure.pure (.int ((a / 2 ^ i : Nat) : Int)) := by
  have c : (0 : Int) ≤ (i : Int) := by omega
  show (if (0 : Int) ≤ (i : Int) then (Pure.pure (D.int ((a : Int) / 2 ^ (i : Int).toNat)) : M D) else M.no) = _
  rw [if_pos c, Int.toNat_natCast]
  congr 2
theorem bit_tst (a i : Nat) : ((shrD (.int a) (.int i) >>= fun x => andD x (.int 1)) >>= truI) = Pure.pure (a.testBit i) := by
  rw [shr_e, pb]
  show (Pure.pure (D.int (Builtin.bitAnd ((a / 2 ^ i : Nat) : Int) 1)) >>= truI) = _
  rw [band1, pb]
  show Pure.pure ((((a / 2 ^ i % 2 : Nat) : Int)) != 0) = _
  congr 1
  rw [Nat.testBit_eq_decide_div_mod_eq]
  rcases Nat.mod_two_eq_zero_or_one (a / 2 ^ i) with z | z <;> rw [z] <;> rfl
end KX
namespace KX
open PySem PySem.Spec PyProof.Rows L2 DL
def tn (l : List Nat) : D := .tup (l.map fun i => .int (i : Nat))
theorem nums_nat (l : List Nat) (f : Nat → Nat) : nums (l.map fun i => .int ((f i : Nat) : Int)) = some (l.map fun i => ((f i : Nat) : Int)) := by
  induction l with
  | nil => rfl
  | cons a l ih => show (nums _).map _ = _; rw [ih]; rfl
theorem sum_cast (l : List Nat) : (l.map fun i => ((i : Nat) : Int)).sum = ((l.sum : Nat) : Int) := by
  induction l with
  | nil => rfl
  | cons a l ih => rw [List.map_cons, List.sum_cons, List.sum_cons, ih]; omega
theorem iter_tn (l : List Nat) : iterA (tn l) = Pure.pure (l.map fun i => .int (i : Nat)) := Eq.trans rfl rfl
theorem asc_len {l : List Nat} (h : Asc l) {k : Nat} (hk : ∀ x ∈ l, x < k) : l.length ≤ k := by
  have : l.length ≤ (List.range k).length := sub_lenN (h.imp fun {a b} h => Nat.ne_of_lt h) fun x hx => List.mem_range.mpr (hk x hx)
  simpa using this
where
  sub_lenN : ∀ {l m : List Nat}, l.Nodup → (∀ x ∈ l, x ∈ m) → l.length ≤ m.length
  | [], _, _, _ => Nat.zero_le _
  | a :: l, m, nd, h => by
    obtain ⟨n1, n2⟩ := List.nodup_cons.mp nd
    have ha := h a List.mem_cons_self
    have := sub_lenN (l := l) (m := m.erase a) n2 fun x hx => (List.mem_erase_of_ne (fun z => n1 (by rw [← z]; exact hx))).mpr (h x (List.mem_cons_of_mem _ hx))
    rw [List.length_erase_of_mem ha] at this
    have pos : 0 < m.length := List.length_pos_of_mem ha
    rw [List.length_cons]
    omega
theorem sizeL {n : Nat} (h : n ≤ 9000) : n ≤ sizeLine := by rw [sizeLine_eq]; omega
theorem mask_of_e {l : List Nat} (h : Asc l) (hk : ∀ x ∈ l, x < 60) : g_mask_of [.v (tn l)] = Pure.pure (.int (msk l : Nat)) := by
  show m_mask_of (tn l) = _
  unfold m_mask_of
  have e1 : compF (fun _ => Pure.pure true) (fun d => shlD (.int 1) d) (l.map fun i => D.int (i : Nat)) = Pure.pure (l.map fun i => .int ((2 ^ i : Nat) : Int)) := by
    rw [comp_all (fun d => match d with | .int i => .int ((2 ^ i.toNat : Nat) : Int) | d => d)]
    · rw [List.map_map]
      congr 1
    · intro d hd
      obtain ⟨i, hi, rfl⟩ := List.mem_map.mp hd
      rw [shl_e (by have := hk i hi; omega)]
      rfl
  have ll := asc_len h hk
  simp only [pb, asc, iter_tn, e1, noE, v0, v1, f1e]
  rw [mkLe (by rw [List.length_map]; exact sizeL (by omega))]
  have e2 : sumD (.lst (l.map fun i => D.int ((2 ^ i : Nat) : Int))) = Pure.pure (.int (msk l : Nat)) := by
    show M.some ((nums _).map fun ns => D.int ns.sum) = _
    rw [nums_nat l (2 ^ ·)]
    show (Pure.pure (D.int (List.sum (l.map fun i => ((2 ^ i : Nat) : Int)))) : M D) = _
    congr 2
    have : (l.map fun i => ((2 ^ i : Nat) : Int)) = ((l.map (2 ^ ·)).map fun i => ((i : Nat) : Int)) := by rw [List.map_map]; rfl
    rw [this, sum_cast]
    rfl
  simp only [pb, v0, v1, f1e, e2, dR]
theorem bits_nat {m k : Nat} (h : m < 2 ^ k) : Builtin.Int.intBits (m : Int) ≤ k := PySem.intBits_le_iff.mpr (by simpa using h)
theorem lt_bits (m : Nat) : m < 2 ^ Builtin.Int.intBits (m : Int) := by
  have := PySem.intBits_le_iff.mp (Nat.le_refl (Builtin.Int.intBits (m : Int)))
  simpa using this
theorem rngs_nat (k : Nat) : rngs 0 (k : Int) = (List.range k).map fun i => .int (i : Nat) := by
  unfold rngs
  rw [Int.sub_zero, Int.toNat_natCast]
  refine List.map_congr_left fun i _ => ?_
  rw [Int.zero_add]
theorem rng_i {j : Int} (h : 0 ≤ j ∧ j < 4000) : rng1 [.v (.int j)] = Pure.pure (rngs 0 j) := if_pos (by omega)
theorem rng_n {k : Nat} (h : k < 4000) : rng1 [.v (.int (k : Nat))] = Pure.pure ((List.range k).map fun i => .int (i : Nat)) := by
  rw [← rngs_nat]
  exact rng_i (by omega)
theorem states_of_e {m : Nat} {l : List Nat} (h : Asc l) (hb : ∀ j, m.testBit j = decide (j ∈ l)) (hm : m < 2 ^ 60) : g_states_of [.v (.int (m : Nat))] = Pure.pure (tn l) := by
  show m_states_of (.int (m : Nat)) = _
  unfold m_states_of
  have b60 := bits_nat hm
  have e0 : bitsD (.int (m : Nat)) = Pure.pure (.int (Builtin.Int.intBits (m : Int) : Nat)) := Eq.trans rfl rfl
  simp only [pb, asc, e0, rng_n (Nat.lt_of_le_of_lt b60 (by decide))]
  have e1 : compF (fun d => shrD (.int (m : Nat)) d >>= fun x => andD x (.int 1) >>= truI) (fun d => Pure.pure d) ((List.range (Builtin.Int.intBits (m : Int))).map fun i => D.int (i : Nat)) = Pure.pure (l.map fun i => .int (i : Nat)) := by
    rw [comp_pure (fun d => match d with | .int i => m.testBit i.toNat | _ => false) (fun d => d)]
    · rw [List.map_id', List.filter_map]
      congr 1
      have : (List.range (Builtin.Int.intBits (m : Int))).filter ((fun d => match d with | D.int i => m.testBit i.toNat | _ => false) ∘ fun i : Nat => D.int (i : Nat)) = l := sts_is h hb (lt_bits m)
      rw [this]
    · intro d hd
      obtain ⟨i, hi, rfl⟩ := List.mem_map.mp hd
      have := bit_tst m i
      rw [asc] at this
      exact this
    · intro d hd _
      rfl
  have ll : l.length ≤ 60 := by
    rw [← sts_is h hb hm]
    have := List.length_filter_le (fun i => m.testBit i) (List.range 60)
    simpa [sts] using this
  simp only [e1, noE, pb, v0, v1, f1e]
  rw [mkLe (by rw [List.length_map]; exact sizeL (by omega))]
  have e4 : tupleD (.lst (l.map fun i => .int (i : Nat))) = Pure.pure (tn l) := Eq.trans rfl rfl
  simp only [pb, v0, v1, f1e, e4, dR]
def imgF (m : Nat) : Nat → List Nat → Nat → Nat
  | _, [], acc => acc
  | i, x :: xs, acc => imgF m (i + 1) xs (if m.testBit i then acc ||| x else acc)
theorem imgF_bit (m : Nat) (j : Nat) : ∀ (xs : List Nat) (i acc : Nat), (imgF m i xs acc).testBit j = true ↔ acc.testBit j = true ∨ ∃ k x, xs[k]? = some x ∧ m.testBit (i + k) = true ∧ x.testBit j = true
  | [], i, acc => by simp [imgF]
  | x :: xs, i, acc => by
    unfold imgF
    rw [imgF_bit m j xs]
    constructor
    · rintro (h | ⟨k, y, h1, h2, h3⟩)
      · split at h
        · rename_i hm
          rw [Nat.testBit_or, Bool.or_eq_true] at h
          rcases h with h | h
          · exact .inl h
          · exact .inr ⟨0, x, rfl, hm, h⟩
        · exact .inl h
      · exact .inr ⟨k + 1, y, by simpa using h1, by rw [← h2]; congr 1; omega, h3⟩
    · rintro (h | ⟨k, y, h1, h2, h3⟩)
      · left
        split
        · rw [Nat.testBit_or, h]; rfl
        · exact h
      · cases k with
        | zero =>
          simp only [List.getElem?_cons_zero, Option.some.injEq] at h1
          subst h1
          left
          rw [if_pos (by simpa using h2), Nat.testBit_or, h3, Bool.or_true]
        | succ k =>
          right
          exact ⟨k, y, by simpa using h1, by rw [← h2]; congr 1; omega, h3⟩
theorem tst (a i : Nat) : (Builtin.bitAnd ((a : Int) / 2 ^ ((i : Nat) : Int).toNat) 1 != 0) = a.testBit i := by
  have t := bit_tst a i
  have e : ((shrD (.int a) (.int i) >>= fun x => andD x (.int 1)) >>= truI) = Pure.pure (Builtin.bitAnd ((a : Int) / 2 ^ ((i : Nat) : Int).toNat) 1 != 0) := by
    have c : (0 : Int) ≤ (i : Int) := by omega
    have : shrD (.int a) (.int i) = Pure.pure (.int ((a : Int) / 2 ^ ((i : Nat) : Int).toNat)) := if_pos (e := M.no) c
    rw [this, pb]
    exact Eq.trans rfl rfl
  rw [e] at t
  have := congrFun t none
  injection this
theorem img_go {m : Nat} {b : D → D → M (Fl D)} (hb : ∀ a i x : Nat, b (.int (a : Nat)) (.tup [.int (i : Nat), .int (x : Nat)]) = Pure.pure (.nx (.int ((if m.testBit i then a ||| x else a : Nat) : Int)))) :
    ∀ (xs : List Nat) (i acc : Nat), forF b ((xs.map fun i => D.int (i : Nat)).mapIdx fun k d => D.tup [.int ((k + i : Nat) : Int), d]) (.int (acc : Nat)) = Pure.pure (.nx (.int (imgF m i xs acc : Nat)))
  | [], i, acc => Eq.trans rfl rfl
  | x :: xs, i, acc => by
    rw [List.map_cons, List.mapIdx_cons]
    unfold forF
    rw [Nat.zero_add, hb, pb]
    have e : (fun (k : Nat) (d : D) => D.tup [.int (((k + 1) + i : Nat) : Int), d]) = fun (k : Nat) (d : D) => D.tup [.int ((k + (i + 1) : Nat) : Int), d] := by
      funext k d
      rw [show k + 1 + i = k + (i + 1) by omega]
    show forF b _ _ = _
    rw [e, img_go hb]
    rfl
theorem img_loop {m : Nat} (ms : List Nat) {b : D → D → M (Fl D)} (hb : ∀ a i x : Nat, b (.int (a : Nat)) (.tup [.int (i : Nat), .int (x : Nat)]) = Pure.pure (.nx (.int ((if m.testBit i then a ||| x else a : Nat) : Int)))) :
    forF b (enumL (ms.map fun i => D.int (i : Nat))) (.int 0) = Pure.pure (.nx (.int (imgF m 0 ms 0 : Nat))) := img_go hb ms 0 0
theorem image_e (ms : List Nat) (m : Nat) : g_image [.v (.tup (ms.map fun i => .int (i : Nat))), .v (.int (m : Nat))] = Pure.pure (.int (imgF m 0 ms 0 : Nat)) := by
  show m_image _ _ = _
  unfold m_image
  have e0 : enumD (.tup (ms.map fun i => .int (i : Nat))) = Pure.pure (enumL (ms.map fun i => .int (i : Nat))) := Eq.trans rfl rfl
  simp only [pb, asc, thB, thN, e0]
  rw [img_loop (m := m) ms]
  · simp only [pb, thN, dR]
  · intro a i x
    show thenR _ _ = _
    rw [tst]
    cases m.testBit i
    · simp only [itfa, thN]
      rfl
    · simp only [ittr, thB, thN, or_e, pb]
      rfl
end KX
namespace KX
open PySem PySem.Spec PyProof.Rows L2 DL
def ascB (l : List Nat) : Bool := (List.zipWith (fun a b => decide (a < b)) l (l.drop 1)).all id
theorem lt_cc (c d : Nat) : ltS ⟨#[c]⟩ ⟨#[d]⟩ = decide (c < d) := one_lt
theorem cut_e {x : Str} (h : x.cps.size ≤ sizeLine) (lo hi : Option Int) : sliceD (.str x) lo hi = Pure.pure (.str (cutS x lo hi)) := by
  unfold sliceD
  exact if_pos h
theorem cut_1 (x : Str) : cl (cutS x (some 1) none) = (cl x).drop 1 := by
  have e1 : HT.sIx x.length 0 (some 1) = min 1 x.length := HT.sIx_nat _ _ 1
  have e2 : HT.sIx x.length x.length none = x.length := rfl
  have e3 : x.length = (cl x).length := (cl_len x).symm
  unfold cutS
  rw [e1, e2]
  show ((cl x).drop _).take _ = _
  rw [e3]
  by_cases z : 1 ≤ (cl x).length
  · rw [Nat.min_eq_left z]
    exact List.take_of_length_le (by rw [List.length_drop]; exact Nat.le_refl _)
  · have e : cl x = [] := List.eq_nil_of_length_eq_zero (by omega)
    rw [e]; rfl
theorem zip_chrs (x y : Str) : zipD [.str x, .str y] = Pure.pure (List.zipWith (fun a b => .tup [.str ⟨#[a]⟩, .str ⟨#[b]⟩]) (cl x) (cl y)) := by
  unfold zipD
  simp only [iter_str, pb]
  unfold zip2 chrs
  rw [List.zipWith_map]
theorem zw_mem {α : Type} {f : Nat → Nat → α} {d : α} : ∀ {l m : List Nat}, d ∈ List.zipWith f l m → ∃ a b, d = f a b
  | [], _, h => absurd h List.not_mem_nil
  | _ :: _, [], h => absurd h List.not_mem_nil
  | a :: l, b :: m, h => by
    rcases List.mem_cons.mp h with z | z
    · exact ⟨a, b, z⟩
    · exact zw_mem z
theorem bls_zw (f : Nat → Nat → Bool) : ∀ l m : List Nat, bls (List.zipWith (fun a b => D.bl (f a b)) l m) = some (List.zipWith f l m)
  | [], _ => rfl
  | _ :: _, [] => rfl
  | a :: l, b :: m => by show (bls _).map _ = _; rw [bls_zw f l m]; rfl
theorem asc_e {x : Str} (h : x.cps.size ≤ sizeLine) : g_is_ascending [.v (.str x)] = Pure.pure (.bl (ascB (cl x))) := by
  show m_is_ascending (.str x) = _
  unfold m_is_ascending
  have p1 : partD (.int 1) = Pure.pure (some 1) := Eq.trans rfl rfl
  have e1 : compF (un2 fun one other => Pure.pure true) (un2 fun one other => ltA one other) (List.zipWith (fun a b => D.tup [.str ⟨#[a]⟩, .str ⟨#[b]⟩]) (cl x) ((cl x).drop 1)) =
      Pure.pure (List.zipWith (fun a b => D.bl (decide (a < b))) (cl x) ((cl x).drop 1)) := by
    rw [comp_pure (fun _ => true) (fun d => match d with | .tup [.str a, .str b] => .bl (ltS a b) | d => d) _ (fun d hd => ?_) fun d hd _ => ?_]
    · rw [List.filter_eq_self.mpr fun _ _ => rfl, List.map_zipWith]
      congr 2
      funext a b
      show D.bl (ltS ⟨#[a]⟩ ⟨#[b]⟩) = _
      rw [lt_cc]
    · obtain ⟨a, b, rfl⟩ := zw_mem hd; exact Eq.trans rfl rfl
    · obtain ⟨a, b, rfl⟩ := zw_mem hd; exact Eq.trans rfl rfl
  have e3 : allD (.lst (List.zipWith (fun a b => D.bl (decide (a < b))) (cl x) ((cl x).drop 1))) = Pure.pure (.bl (ascB (cl x))) := by
    unfold allD
    simp only [bls_zw, Option.map_some, sB]
    rfl
  simp only [pb, asc, p1, cut_e h, v0, v1, zip_chrs, cut_1, e1, noE, f1e, dR]
  rw [mkLe (by rw [List.length_zipWith, cl_len]; exact Nat.le_trans (Nat.min_le_left _ _) h)]
  simp only [pb, v0, v1, f1e, dR, e3]
def lettersB (l : List Nat) : Bool := decide (1 ≤ (l.length : Int)) && decide ((l.length : Int) ≤ 4) && (plain l && ascB l)
theorem letters_e {x : Str} (h : x.cps.size ≤ sizeLine) : g_is_letters [.v (.str x)] = Pure.pure (.bl (lettersB (cl x))) := by
  show m_is_letters (.str x) = _
  unfold m_is_letters
  simp only [pb, asc, thB, is_str, isB1, bB, ntn, itfa, itF, v0, v1, f1e, len_e h, chain_int, plain_e h, asc_e h]
  unfold lettersB
  cases decide (1 ≤ ((cl x).length : Int)) && decide (((cl x).length : Int) ≤ 4)
  · simp only [ntf, ittr, itT, pb, thR, dR, Bool.false_and]
  · simp only [ntn, itfa, itF, pb, thN, asc, bB, Bool.true_and]
    cases plain (cl x)
    · simp only [itfa, itF, pb, dR, Bool.false_and]
    · simp only [ittr, itT, pb, asc, dR, Bool.true_and]
theorem chrs_eq (x : Str) : chrs x = (cl x).map fun c => D.str ⟨#[c]⟩ := rfl
theorem inT (neg : Bool) (c : Nat) (y : Str) : inD neg (.str ⟨#[c]⟩) (.str y) = Pure.pure (.bl (if neg then !decide (c ∈ cl y) else decide (c ∈ cl y))) := Eq.trans rfl rfl
theorem ascB_iff : ∀ l : List Nat, ascB l = true ↔ l.Pairwise (· < ·)
  | [] => ⟨fun _ => List.Pairwise.nil, fun _ => rfl⟩
  | [a] => ⟨fun _ => List.pairwise_singleton _ _, fun _ => rfl⟩
  | a :: b :: l => by
    have e : ascB (a :: b :: l) = (decide (a < b) && ascB (b :: l)) := rfl
    rw [e, Bool.and_eq_true, decide_eq_true_eq, ascB_iff (b :: l)]
    constructor
    · rintro ⟨h, p⟩
      refine List.pairwise_cons.mpr ⟨fun x hx => ?_, p⟩
      rcases List.mem_cons.mp hx with z | z
      · omega
      · have := (List.pairwise_cons.mp p).1 x z; omega
    · intro p
      obtain ⟨p1, p2⟩ := List.pairwise_cons.mp p
      exact ⟨p1 b List.mem_cons_self, p2⟩
theorem str_ext {x y : Str} (h : cl x = cl y) : x = y := PySem.W.str_of_cps h
theorem check_e {s : Str} (h : Fine s) (hs : lettersB (cl s) = true) : g_check_letters [.v (.str s)] = Pure.pure .non := by
  show m_check_letters (.str s) = _
  unfold m_check_letters
  simp only [pb, asc, thB, letters_e h.line, hs, bB, ntn, itfa, itF, thN, dN]
end KX
namespace KX
open PySem PySem.Spec PyProof.Rows L2 DL
open Builtin.Int (intBits)
theorem bits_e (i : Int) : bitsD (.int i) = Pure.pure (.int (intBits i : Nat)) := Eq.trans rfl rfl
theorem str_int {i : Int} (h : i.natAbs.log2 < 1920) : strD (.int i) = Pure.pure (.str (Str.ofString (toString i))) := if_pos h
theorem len_nat (n k : Nat) (h : 0 < k) : decide (((cl (Str.ofString (toString (n : Int)))).length : Int) ≤ (k : Int)) = decide (n < 10 ^ k) := by
  have e1 : (toString (n : Int)) = n.repr := rfl
  have e2 : (cl (Str.ofString (toString (n : Int)))).length = n.repr.length := by
    rw [cl_len, e1]
    exact PySem.ofString_length _
  rw [e2]
  by_cases q : n < 10 ^ k
  · rw [decide_eq_true q, decide_eq_true (by exact_mod_cast (Nat.length_repr_le_iff h).mpr q)]
  · rw [decide_eq_false q, decide_eq_false fun z => q ((Nat.length_repr_le_iff h).mp (by exact_mod_cast z))]
theorem c_mul : CMulX 4 200 := by
  unfold CMulX
  have h1 : intBits 4 = 3 := by decide +kernel
  have h2 : intBits 200 = 8 := by decide +kernel
  rw [h1, h2]; decide
theorem pw : (10 : Nat) ^ 200 < 2 ^ 800 := by decide +kernel
theorem int_e (i : Int) : g_is_integer [.v (.int i)] = Pure.pure (.bl (decide (i.natAbs < 10 ^ 200))) := by
  show m_is_integer (.int i) = _
  unfold m_is_integer
  have e2 : (4 * 200 : Int) = 800 := rfl
  simp only [pb, asc, thB, is_int, isB3, isB5, bB, ntn, itfa, itF, bits_e, mul_ok c_mul, le_int, thN, v0, v1, f1e, abs_e, e2]
  by_cases h : ((intBits i : Nat) : Int) ≤ 800
  · have hn : i.natAbs < 2 ^ 800 := PySem.intBits_le_iff.mp (by exact_mod_cast h)
    have hl : (((if i < 0 then -i else i)).natAbs).log2 < 1920 := by
      rw [abs_nat, Int.natAbs_natCast]
      by_cases z : i.natAbs = 0
      · rw [z]; decide
      · exact Nat.lt_trans ((Nat.log2_lt z).mpr hn) (by decide)
    rw [decide_eq_true h, ittr, str_int hl]
    simp only [pb, v0, v1, f1e, asc]
    rw [len_e]
    · simp only [pb, le_int, dR]
      rw [abs_nat, show (200 : Int) = ((200 : Nat) : Int) from rfl, len_nat _ 200 (by decide)]
    · have q : (cl (Str.ofString (toString (if i < 0 then -i else i)))).length ≤ 800 := by
        have := len_nat i.natAbs 800 (by decide)
        rw [abs_nat]
        have lt : i.natAbs < 10 ^ 800 := Nat.lt_of_lt_of_le hn (by decide +kernel)
        rw [decide_eq_true lt] at this
        have := of_decide_eq_true this
        exact_mod_cast this
      rw [← cl_len]
      exact Nat.le_trans q (by rw [sizeLine_eq]; decide)
  · rw [decide_eq_false h, itfa, pb, dR]
    congr 2
    refine (decide_eq_false fun z => h ?_).symm
    exact_mod_cast PySem.intBits_le_iff.mpr (Nat.lt_trans z pw)
theorem all_true : ∀ {α : Type} (l : List α), allD (.lst (l.map fun _ => .bl true)) = Pure.pure (.bl true) := by
  intro α l
  have e : bls (l.map fun _ => D.bl true) = some (l.map fun _ => true) := by
    induction l with
    | nil => rfl
    | cons a l ih => show (bls _).map _ = _; rw [ih]; rfl
  show M.some ((bls _).map fun bs => D.bl (bs.all id)) = _
  rw [e]
  show (Pure.pure (D.bl ((l.map fun _ => true).all id)) : M D) = _
  rw [List.all_map]
  have : (l.all (id ∘ fun _ => true)) = true := List.all_eq_true.mpr fun _ _ => rfl
  rw [this]
theorem cut_one {α : Type} (xs : List α) : cutL xs (some 1) none = xs.drop 1 := by
  have e1 : HT.sIx xs.length 0 (some 1) = min 1 xs.length := HT.sIx_nat _ _ 1
  have e2 : HT.sIx xs.length xs.length none = xs.length := rfl
  unfold cutL
  rw [e1, e2]
  cases xs with
  | nil => rfl
  | cons x xs => simp
theorem small_int {n : Nat} (h : n < 4000) : g_is_integer [.v (.int (n : Nat))] = Pure.pure (.bl true) := by
  rw [int_e]
  congr 2
  refine decide_eq_true ?_
  rw [Int.natAbs_natCast]
  exact Nat.lt_of_lt_of_le h (by decide +kernel)
theorem chain_ilt (a n b : Int) : chainM (Pure.pure (.int a)) (Pure.pure (.int n)) (Pure.pure (.int b)) leD ltD = Pure.pure (.bl (decide (a ≤ n) && decide (n < b))) := by
  unfold chainM
  simp only [pb, le_int, lt_int, bB]
  by_cases h : a ≤ n
  · rw [decide_eq_true h, ittr, Bool.true_and]
  · rw [decide_eq_false h, itfa, Bool.false_and]
theorem state_e {n i : Nat} (h : i < n) (hn : n ≤ 60) : g_is_state [.v (.int (n : Nat)), .v (.int (i : Nat))] = Pure.pure (.bl true) := by
  show m_is_state _ _ = _
  unfold m_is_state
  simp only [pb, asc, small_int (show i < 4000 by omega), bB, ittr, chain_ilt]
  rw [decide_eq_true (show (0 : Int) ≤ (i : Int) by omega), decide_eq_true (show (i : Int) < (n : Int) by omega)]
  simp only [pb, dR, Bool.and_self, itT, ittr]
theorem len_tup (ds : List D) : lenD (.tup ds) = Pure.pure (.int (ds.length : Nat)) := Eq.trans rfl rfl
theorem len_lst (ds : List D) : lenD (.lst ds) = Pure.pure (.int (ds.length : Nat)) := Eq.trans rfl rfl
theorem is_tup (ds : List D) (T : String) : isiD T (.tup ds) = Pure.pure (.bl (isB "tuple" T)) := isi_is T rfl
theorem isBt : isB "tuple" "tuple" = true := by decide
theorem z2_mem : ∀ {ds : List D} {d : D}, ds.Pairwise (fun a b => ltA a b = Pure.pure (.bl true)) → d ∈ zip2 ds (ds.drop 1) → ∃ a b, d = .tup [a, b] ∧ ltA a b = Pure.pure (.bl true)
  | [], d, _, hd => by simp [zip2] at hd
  | [a], d, _, hd => by simp [zip2] at hd
  | a :: b :: ds, d, h, hd => by
    obtain ⟨h1, h2⟩ := List.pairwise_cons.mp h
    have hd : d ∈ D.tup [a, b] :: zip2 (b :: ds) ((b :: ds).drop 1) := hd
    rcases List.mem_cons.mp hd with z | z
    · exact ⟨a, b, z, h1 b List.mem_cons_self⟩
    · exact z2_mem h2 z
theorem asc_gen {ds : List D} (h : ds.Pairwise (fun a b => ltA a b = Pure.pure (.bl true))) (hl : ds.length ≤ 9000) : g_is_ascending [.v (.tup ds)] = Pure.pure (.bl true) := by
  show m_is_ascending (.tup ds) = _
  unfold m_is_ascending
  have e1 : sliceD (.tup ds) (some 1) none = Pure.pure (.tup (ds.drop 1)) := by
    show Pure.pure (D.tup (cutL ds (some 1) none)) = _
    rw [cut_one]
  have e2 : zipD [.tup ds, .tup (ds.drop 1)] = Pure.pure (zip2 ds (ds.drop 1)) := Eq.trans rfl rfl
  have e3 : compF (un2 fun _ _ => Pure.pure true) (un2 fun one2 other3 => ltA one2 other3) (zip2 ds (ds.drop 1)) = Pure.pure ((zip2 ds (ds.drop 1)).map fun _ => .bl true) := by
    have := comp_pure (t := un2 fun _ _ => Pure.pure true) (e := un2 fun one2 other3 => ltA one2 other3) (fun _ => true) (fun _ => .bl true) (zip2 ds (ds.drop 1)) (fun d hd => by
      obtain ⟨a, b, rfl, _⟩ := z2_mem h hd
      exact Eq.trans rfl rfl) fun d hd _ => by
      obtain ⟨a, b, rfl, l⟩ := z2_mem h hd
      exact l
    rwa [List.filter_eq_self.mpr fun _ _ => rfl] at this
  have ll : (zip2 ds (ds.drop 1)).length ≤ sizeLine := by
    unfold zip2
    rw [List.length_zipWith, sizeLine_eq]
    omega
  simp only [pb, asc, part_e, e1, v0, v1, e2, e3, noE]
  rw [mkLe (by rw [List.length_map]; exact ll)]
  simp only [pb, v0, v1, f1e, all_true, dR]
theorem comp_true {e : D → M D} {ds : List D} (h : ∀ d ∈ ds, e d = Pure.pure (.bl true)) : compF (fun _ => Pure.pure true) e ds = Pure.pure (ds.map fun _ => .bl true) := comp_all _ ds h
theorem iter_tup (ds : List D) : iterA (.tup ds) = Pure.pure ds := Eq.trans rfl rfl
theorem iter_lst (ds : List D) : iterA (.lst ds) = Pure.pure ds := Eq.trans rfl rfl
theorem state_set_e {n : Nat} {l : List Nat} (h : Asc l) (hk : ∀ x ∈ l, x < n) (hn : n ≤ 60) : g_is_state_set [.v (.int (n : Nat)), .v (tn l)] = Pure.pure (.bl true) := by
  show m_is_state_set _ _ = _
  unfold m_is_state_set tn
  have e1 : compF (fun _ => Pure.pure true) (fun d => g_is_state [.v (.int (n : Nat)), .v d]) (l.map fun i => D.int (i : Nat)) = Pure.pure ((l.map fun i => D.int (i : Nat)).map fun _ => .bl true) := comp_true fun d hd => by
    obtain ⟨i, hi, rfl⟩ := List.mem_map.mp hd
    exact state_e (hk i hi) hn
  have ll := asc_len h hk
  have e2 : g_is_ascending [.v (.tup (l.map fun i => D.int (i : Nat)))] = Pure.pure (.bl true) := asc_gen (List.pairwise_map.mpr (h.imp fun {a b} q => by
    show Pure.pure (D.bl (decide ((a : Int) < (b : Int)))) = _
    rw [decide_eq_true (by omega)])) (by rw [List.length_map]; omega)
  simp only [pb, asc, thB, is_tup, isBt, bB, ntn, itfa, itF, iter_tup, e1, noE, v0, v1, f1e]
  rw [mkLe (by rw [List.length_map, List.length_map]; exact sizeL (by omega))]
  simp only [pb, v0, v1, f1e, all_true, bB, ntn, itfa, itF, thN, e2, dR]
abbrev Lk := Nat × Nat × Nat
def lkD (a : Lk) : D := .tup [.int (a.1 : Nat), .str ⟨#[a.2.1]⟩, .int (a.2.2 : Nat)]
def lkLt (a b : Lk) : Prop := a.1 < b.1 ∨ a.1 = b.1 ∧ (a.2.1 < b.2.1 ∨ a.2.1 = b.2.1 ∧ a.2.2 < b.2.2)
theorem sgl_eq {c d : Nat} : ((⟨#[c]⟩ : Str) = ⟨#[d]⟩) ↔ c = d := ⟨fun h => by injection h with h; injection h with h; injection h, fun h => by rw [h]⟩
theorem lt_lk {a b : Lk} (h : lkLt a b) : ltA (lkD a) (lkD b) = Pure.pure (.bl true) := by
  have e : ltA (lkD a) (lkD b) = Pure.pure (.bl (ltKs [.inl (a.1 : Nat), .inr ⟨#[a.2.1]⟩, .inl (a.2.2 : Nat)] [.inl (b.1 : Nat), .inr ⟨#[b.2.1]⟩, .inl (b.2.2 : Nat)])) := Eq.trans rfl rfl
  rw [e]
  congr 2
  have e2 : ltKs [.inl (a.1 : Nat), .inr ⟨#[a.2.1]⟩, .inl (a.2.2 : Nat)] [.inl (b.1 : Nat), .inr ⟨#[b.2.1]⟩, .inl (b.2.2 : Nat)] =
    (if decide ((Sum.inl ((a.1 : Nat) : Int) : Key) = .inl ((b.1 : Nat) : Int)) = true then (if decide ((Sum.inr (⟨#[a.2.1]⟩ : Str) : Key) = .inr ⟨#[b.2.1]⟩) = true then (if decide ((Sum.inl ((a.2.2 : Nat) : Int) : Key) = .inl ((b.2.2 : Nat) : Int)) = true then decide (3 < 3) else decide (((a.2.2 : Nat) : Int) < (b.2.2 : Nat))) else ltS ⟨#[a.2.1]⟩ ⟨#[b.2.1]⟩) else decide (((a.1 : Nat) : Int) < (b.1 : Nat))) := rfl
  rw [e2, lt_cc]
  have i1 : ∀ m n : Nat, decide ((Sum.inl ((m : Nat) : Int) : Key) = .inl ((n : Nat) : Int)) = decide (m = n) := fun m n => decide_eq_decide.mpr ⟨fun z => by have := Sum.inl.inj z; omega, fun z => by rw [z]⟩
  have i2 : decide ((Sum.inr (⟨#[a.2.1]⟩ : Str) : Key) = .inr ⟨#[b.2.1]⟩) = decide (a.2.1 = b.2.1) := decide_eq_decide.mpr ⟨fun z => sgl_eq.mp (Sum.inr.inj z), fun z => by rw [z]⟩
  rw [i1, i1, i2]
  rcases h with h | ⟨h, k | ⟨k, l⟩⟩
  · rw [decide_eq_false (show ¬ a.1 = b.1 by omega), if_neg (by simp), decide_eq_true (by omega)]
  · rw [decide_eq_true h, if_pos rfl, decide_eq_false (show ¬ a.2.1 = b.2.1 by omega), if_neg (by simp), decide_eq_true k]
  · rw [decide_eq_true h, if_pos rfl, decide_eq_true k, if_pos rfl, decide_eq_false (show ¬ a.2.2 = b.2.2 by omega), if_neg (by simp), decide_eq_true (by omega)]
theorem letter_e {s : Str} {c : Nat} (h : c ∈ cl s) (hc : c < 1114112) : g_is_letter [.v (.str s), .v (.str ⟨#[c]⟩)] = Pure.pure (.bl true) := by
  show m_is_letter _ _ = _
  unfold m_is_letter
  have l1 : lenD (.str ⟨#[c]⟩) = Pure.pure (.int 1) := by
    rw [len_e (x := ⟨#[c]⟩) (sizeL (show 1 ≤ 9000 by decide))]
    rfl
  simp only [pb, asc, is_str, isB1, bB, ittr, itT, v0, v1, f1e, l1, eq_int]
  rw [show ((1 : Int) == 1) = true from rfl]
  simp only [ittr, itT, inT, pb, dR]
  rw [if_neg (by simp), decide_eq_true h]
structure ArrOk (s : Str) (n : Nat) (a : Lk) : Prop where
  i : a.1 < n
  c : a.2.1 ∈ cl s
  j : a.2.2 < n
theorem ix_t3 (a b c : D) : ixD (.tup [a, b, c]) (.int 0) = Pure.pure a ∧ ixD (.tup [a, b, c]) (.int 1) = Pure.pure b ∧ ixD (.tup [a, b, c]) (.int 2) = Pure.pure c := ⟨Eq.trans rfl rfl, Eq.trans rfl rfl, Eq.trans rfl rfl⟩
theorem ne_int (i j : Int) : neD (.int i) (.int j) = Pure.pure (.bl (!(i == j))) := by
  show (if SeqAt.shaped (.int i) = true ∧ SeqAt.shaped (.int j) = true then Pure.pure (D.bl (!PyData.eqv (.int i) (.int j))) else M.no) = _
  rw [if_pos ⟨rfl, rfl⟩]
  rfl
theorem arrow_e {s : Str} {n : Nat} {a : Lk} (h : ArrOk s n a) (hn : n ≤ 60) (hs : Fine s) : g_is_arrow [.v (.str s), .v (.int (n : Nat)), .v (lkD a)] = Pure.pure (.bl true) := by
  show m_is_arrow _ _ _ = _
  unfold m_is_arrow lkD
  obtain ⟨x0, x1, x2⟩ := ix_t3 (.int (a.1 : Nat)) (.str ⟨#[a.2.1]⟩) (.int (a.2.2 : Nat))
  have l3 : lenD (.tup [.int (a.1 : Nat), .str ⟨#[a.2.1]⟩, .int (a.2.2 : Nat)]) = Pure.pure (.int 3) := Eq.trans rfl rfl
  simp only [pb, asc, thB, is_tup, isBt, bB, ntn, itfa, itF, v0, v1, f1e, l3, ne_int]
  rw [show (!((3 : Int) == 3)) = false from rfl]
  simp only [itfa, itF, thN, x0, x1, x2, pb, asc, state_e h.i hn, state_e h.j hn, letter_e h.c (hs.cp _ h.c), bB, ittr, itT, dR]
theorem arrow_set_e {s : Str} {n : Nat} {ls : List Lk} (hs : Fine s) (hn : n ≤ 60) (h : ∀ a ∈ ls, ArrOk s n a) (ha : ls.Pairwise lkLt) (hl : ls.length ≤ 9000) : g_is_arrow_set [.v (.str s), .v (.int (n : Nat)), .v (.tup (ls.map lkD))] = Pure.pure (.bl true) := by
  show m_is_arrow_set _ _ _ = _
  unfold m_is_arrow_set
  have e1 : compF (fun _ => Pure.pure true) (fun d => g_is_arrow [.v (.str s), .v (.int (n : Nat)), .v d]) (ls.map lkD) = Pure.pure ((ls.map lkD).map fun _ => .bl true) := comp_true fun d hd => by
    obtain ⟨a, ha, rfl⟩ := List.mem_map.mp hd
    exact arrow_e (h a ha) hn hs
  have e2 : g_is_ascending [.v (.tup (ls.map lkD))] = Pure.pure (.bl true) := asc_gen (List.pairwise_map.mpr (ha.imp fun {a b} q => lt_lk q)) (by rw [List.length_map]; exact hl)
  simp only [pb, asc, thB, is_tup, isBt, bB, ntn, itfa, itF, thN, iter_tup, e1, noE, v0, v1, f1e]
  rw [mkLe (by rw [List.length_map, List.length_map]; exact sizeL hl)]
  simp only [pb, v0, v1, f1e, all_true, bB, ittr, itT, e2, dR]
end KX
namespace KX
open PySem PySem.Spec PyProof.Rows L2 DL
def rowm (ls : List Lk) (c i : Nat) : Nat := ls.foldl (fun m a => if a.1 = i ∧ a.2.1 = c then m ||| 2 ^ a.2.2 else m) 0
def tabl (n : Nat) (ls : List Lk) (c : Nat) : List Nat := (List.range n).map fun i => rowm ls c i
theorem rowm_snoc (ls : List Lk) (a : Lk) (c i : Nat) : rowm (ls ++ [a]) c i = if a.1 = i ∧ a.2.1 = c then rowm ls c i ||| 2 ^ a.2.2 else rowm ls c i := by
  unfold rowm; rw [List.foldl_append]; rfl
theorem rowm_go (c i j : Nat) : ∀ (ls : List Lk) (m : Nat), (ls.foldl (fun m a => if a.1 = i ∧ a.2.1 = c then m ||| 2 ^ a.2.2 else m) m).testBit j = true ↔ m.testBit j = true ∨ (i, c, j) ∈ ls
  | [], m => by simp
  | a :: ls, m => by
    rw [List.foldl_cons, rowm_go c i j ls]
    obtain ⟨a1, a2, a3⟩ := a
    by_cases h : a1 = i ∧ a2 = c
    · rw [if_pos h, Nat.testBit_or, Bool.or_eq_true, Nat.testBit_two_pow, decide_eq_true_eq, List.mem_cons]
      obtain ⟨rfl, rfl⟩ := h
      constructor
      · rintro ((h | h) | h)
        · exact .inl h
        · exact .inr (.inl (by rw [← h]))
        · exact .inr (.inr h)
      · rintro (h | h | h)
        · exact .inl (.inl h)
        · injection h with _ h
          injection h with _ h
          exact .inl (.inr h.symm)
        · exact .inr h
    · rw [if_neg h, List.mem_cons]
      constructor
      · rintro (h | h)
        · exact .inl h
        · exact .inr (.inr h)
      · rintro (k | k | k)
        · exact .inl k
        · injection k with k1 k
          injection k with k2 k
          exact absurd ⟨k1.symm, k2.symm⟩ h
        · exact .inr k
theorem rowm_bit (ls : List Lk) (c i j : Nat) : (rowm ls c i).testBit j = true ↔ (i, c, j) ∈ ls := by
  unfold rowm
  rw [rowm_go]
  simp
def ky (c : Nat) : Key := .inr ⟨#[c]⟩
theorem ky_inj {c d : Nat} : ky c = ky d ↔ c = d := ⟨fun h => sgl_eq.mp (Sum.inr.inj h), fun h => by rw [h]⟩
/-- a table of lists: what stands at each letter -/
def kvo (l : List Nat) (f : Nat → List Nat) : List (Key × List D) := l.map fun c => (ky c, (f c).map fun m => .int (m : Nat))
theorem kvo_find {l : List Nat} {f : Nat → List Nat} {c : Nat} (h : c ∈ l) : ((kvo l f).find? fun kv => decide (kv.1 = ky c)).map (·.2) = some ((f c).map fun m => .int (m : Nat)) := by
  induction l with
  | nil => cases h
  | cons d l ih =>
    unfold kvo
    rw [List.map_cons, List.find?_cons]
    by_cases z : d = c
    · rw [decide_eq_true (ky_inj.mpr z), z]; rfl
    · rw [decide_eq_false (fun k => z (ky_inj.mp k))]
      rcases List.mem_cons.mp h with y | y
      · exact absurd y.symm z
      · exact ih y
theorem dcL_e (n : Nat) (hn : n ≤ 60) {mk : D → M D} {mv : D → M (List D)} (hk : ∀ c : Nat, mk (.str ⟨#[c]⟩) = Pure.pure (.str ⟨#[c]⟩)) (hv : ∀ c : Nat, mv (.str ⟨#[c]⟩) = Pure.pure ((List.replicate n 0).map fun m => .int ((m : Nat) : Int))) :
    ∀ (l pre : List Nat), (pre ++ l).Nodup → (pre ++ l).length ≤ 4 → dcL mk mv (l.map fun c => .str ⟨#[c]⟩) (kvo pre fun _ => List.replicate n 0) = Pure.pure (kvo (pre ++ l) fun _ => List.replicate n 0)
  | [], pre, _, _ => by rw [List.append_nil]; exact Eq.trans rfl rfl
  | c :: l, pre, nd, hl => by
    rw [List.map_cons]
    unfold dcL
    rw [hk, hv, noE, pb, noE, pb]
    have k1 : keyM (.str ⟨#[c]⟩) = Pure.pure (ky c) := Eq.trans rfl rfl
    have e : pre ++ c :: l = (pre ++ [c]) ++ l := by rw [List.append_assoc]; rfl
    rw [k1, pb]
    rw [if_pos]
    · have : kvo pre (fun _ => List.replicate n 0) ++ [(ky c, (List.replicate n 0).map fun m => D.int ((m : Nat) : Int))] = kvo (pre ++ [c]) fun _ => List.replicate n 0 := by
        unfold kvo
        rw [List.map_append]
        rfl
      rw [this, dcL_e n hn hk hv l (pre ++ [c]) (by rw [← e]; exact nd) (by rw [← e]; exact hl), e]
    · constructor
      · unfold kvo
        rw [List.length_map]
        rw [List.length_append, List.length_cons] at hl
        rw [sizeLine_eq]
        omega
      · rw [List.any_eq_false]
        intro kv hkv z
        unfold kvo at hkv
        obtain ⟨d, hd, rfl⟩ := List.mem_map.mp hkv
        have z : d = c := ky_inj.mp (of_decide_eq_true z)
        rw [List.nodup_append] at nd
        exact nd.2.2 d hd c List.mem_cons_self z
theorem put_e {l : List Nat} {n : Nat} {ls : List Lk} {a : Lk} (hi : a.1 < n) (hc : a.2.1 ∈ l) (hj : a.2.2 ≤ 60) :
    put2 (kvo l (tabl n ls)) (.int (a.1 : Nat)) (.str ⟨#[a.2.1]⟩) (.int (a.2.2 : Nat)) = Pure.pure (kvo l (tabl n (ls ++ [a]))) := by
  unfold put2
  have k1 : keyM (.str ⟨#[a.2.1]⟩) = Pure.pure (ky a.2.1) := Eq.trans rfl rfl
  rw [k1, pb, kvo_find hc, sB, pb]
  have ll : ((tabl n ls a.2.1).map fun m => D.int ((m : Nat) : Int)).length = n := by unfold tabl; simp
  have ixn : ixN n (a.1 : Int) = some a.1 := by
    unfold ixN
    rw [if_pos (by omega), if_pos (by omega)]
    rfl
  have gt : ((tabl n ls a.2.1).map fun m => D.int ((m : Nat) : Int))[a.1]? = some (.int (rowm ls a.2.1 a.1 : Nat)) := by
    unfold tabl
    rw [List.map_map, List.getElem?_map, List.getElem?_range hi]
    rfl
  have e1 : ixL ((tabl n ls a.2.1).map fun m => D.int ((m : Nat) : Int)) (.int (a.1 : Nat)) = Pure.pure (.int (rowm ls a.2.1 a.1 : Nat)) := by
    show M.some (atI _ ((a.1 : Nat) : Int)) = _
    unfold atI
    rw [ll, ixn]
    show M.some (((tabl n ls a.2.1).map fun m => D.int ((m : Nat) : Int))[a.1]?) = _
    rw [gt]
    exact Eq.trans rfl rfl
  rw [e1, pb, shl_e hj, noE, pb, or_e, noE, pb]
  have e2 : setL ((tabl n ls a.2.1).map fun m => D.int ((m : Nat) : Int)) (.int ((rowm ls a.2.1 a.1 ||| 2 ^ a.2.2 : Nat) : Int)) (.int (a.1 : Nat)) = Pure.pure ((tabl n (ls ++ [a]) a.2.1).map fun m => D.int ((m : Nat) : Int)) := by
    show M.some ((ixN _ ((a.1 : Nat) : Int)).map fun j => _) = _
    rw [ll, ixn]
    show M.some (some _) = _
    rw [sB]
    congr 1
    apply List.ext_getElem?
    intro k
    rw [List.getElem?_set]
    unfold tabl
    by_cases z : a.1 = k
    · subst z
      rw [if_pos rfl, if_pos (by simpa using hi), List.map_map, List.getElem?_map, List.getElem?_range hi]
      show some (D.int ((rowm ls a.2.1 a.1 ||| 2 ^ a.2.2 : Nat) : Int)) = some (D.int ((rowm (ls ++ [a]) a.2.1 a.1 : Nat) : Int))
      rw [rowm_snoc, if_pos ⟨rfl, rfl⟩]
    · rw [if_neg z, List.map_map, List.map_map, List.getElem?_map, List.getElem?_map]
      by_cases y : k < n
      · rw [List.getElem?_range y]
        show some (D.int ((rowm ls a.2.1 k : Nat) : Int)) = some (D.int ((rowm (ls ++ [a]) a.2.1 k : Nat) : Int))
        rw [rowm_snoc, if_neg (fun w => z w.1)]
      · rw [List.getElem?_eq_none (by simpa using y)]
        rfl
  rw [e2, pb]
  congr 1
  unfold kvo
  rw [List.map_map]
  refine List.map_congr_left fun c _ => ?_
  show (if ky c = ky a.2.1 then _ else _) = _
  by_cases z : c = a.2.1
  · rw [if_pos (ky_inj.mpr z), z]
  · rw [if_neg (fun k => z (ky_inj.mp k))]
    have : tabl n (ls ++ [a]) c = tabl n ls c := by
      unfold tabl
      refine List.map_congr_left fun i _ => ?_
      rw [rowm_snoc, if_neg (fun w => z w.2.symm)]
    rw [this]
theorem forQ_e {l : List Nat} {n : Nat} {b : List (Key × List D) → D → M (List (Key × List D))} : ∀ (ls pre : List Lk), (∀ a ∈ ls, ∀ pre, b (kvo l (tabl n pre)) (lkD a) = Pure.pure (kvo l (tabl n (pre ++ [a])))) →
    forQ b (ls.map lkD) (kvo l (tabl n pre)) = Pure.pure (kvo l (tabl n (pre ++ ls)))
  | [], pre, _ => by rw [List.append_nil]; exact Eq.trans rfl rfl
  | a :: ls, pre, h => by
    rw [List.map_cons]
    unfold forQ
    rw [h a List.mem_cons_self, noE, pb, forQ_e ls (pre ++ [a]) fun x hx => h x (List.mem_cons_of_mem _ hx), List.append_assoc]
    rfl
/-- the table as a value -/
def tabD (s : Str) (n : Nat) (ls : List Lk) : D := dicD ((cl s).map fun c => (ky c, .tup ((tabl n ls c).map fun m => .int (m : Nat))))
theorem getD_dic {l : List Nat} {f : Nat → D} {c : Nat} (h : c ∈ l) : getD ((l.map fun c => (ky c, f c)).map fun p => (keyD p.1, p.2)) (ky c) = some (f c) := by
  induction l with
  | nil => cases h
  | cons d l ih =>
    unfold getD
    rw [List.map_cons, List.map_cons, List.find?_cons, keyIs_keyD]
    by_cases z : d = c
    · rw [decide_eq_true (ky_inj.mpr z), z]; rfl
    · rw [decide_eq_false (fun k => z (ky_inj.mp k))]
      rcases List.mem_cons.mp h with y | y
      · exact absurd y.symm z
      · exact ih y
theorem ix_dic {l : List Nat} {f : Nat → D} {c : Nat} (h : c ∈ l) : ixA (dicD (l.map fun c => (ky c, f c))) (.str ⟨#[c]⟩) = Pure.pure (f c) := by
  show M.some (getD _ (ky c)) = _
  rw [getD_dic h]
  exact Eq.trans rfl rfl
theorem dcF_e {f : Nat → D} {mk mv : D → M D} (hk : ∀ c : Nat, mk (.str ⟨#[c]⟩) = Pure.pure (.str ⟨#[c]⟩)) :
    ∀ (l pre : List Nat), (∀ c ∈ l, mv (.str ⟨#[c]⟩) = Pure.pure (f c)) → (pre ++ l).Nodup → (pre ++ l).length ≤ 4 → dcF (fun _ => Pure.pure true) mk mv (l.map fun c => .str ⟨#[c]⟩) (pre.map fun c => (ky c, f c)) = Pure.pure ((pre ++ l).map fun c => (ky c, f c))
  | [], pre, _, _, _ => by rw [List.append_nil]; exact Eq.trans rfl rfl
  | c :: l, pre, hv, nd, hl => by
    rw [List.map_cons]
    unfold dcF
    have k1 : keyM (.str ⟨#[c]⟩) = Pure.pure (ky c) := Eq.trans rfl rfl
    have e : pre ++ c :: l = (pre ++ [c]) ++ l := by rw [List.append_assoc]; rfl
    rw [noE, pb, ittr, hk, noE, pb, hv c List.mem_cons_self, noE, pb, k1, pb, if_pos (by rw [List.length_map, sizeLine_eq]; rw [List.length_append] at hl; omega)]
    have : putD (pre.map fun c => (ky c, f c)) (ky c) (f c) = (pre ++ [c]).map fun c => (ky c, f c) := by
      unfold putD
      rw [if_neg, List.map_append]
      · rfl
      · intro z
        rw [List.any_eq_true] at z
        obtain ⟨kv, hkv, z⟩ := z
        obtain ⟨d, hd, rfl⟩ := List.mem_map.mp hkv
        have z : d = c := ky_inj.mp (of_decide_eq_true z)
        rw [List.nodup_append] at nd
        exact nd.2.2 d hd c List.mem_cons_self z
    rw [this, dcF_e hk l (pre ++ [c]) (fun d hd => hv d (List.mem_cons_of_mem _ hd)) (by rw [← e]; exact nd) (by rw [← e]; exact hl), e]
theorem flat_rep {α : Type} (n : Nat) (x : α) : (List.replicate n [x]).flatten = List.replicate n x := by
  induction n with
  | zero => rfl
  | succ n ih => rw [List.replicate_succ, List.flatten_cons, ih]; rfl
theorem mul_rep {j : Int} (h : 0 ≤ j ∧ j ≤ 60) : mulL (.lst [.int 0]) (.int j) = Pure.pure (List.replicate j.toNat [D.int 0]).flatten := by
  refine if_pos ?_
  refine ⟨by omega, by omega, ?_⟩
  rw [sizeLine_eq]
  show 1 * j.toNat ≤ _
  omega
theorem table_e {s : Str} {n : Nat} {ls : List Lk} {arr : D} (nd : (cl s).Nodup) (h4 : (cl s).length ≤ 4) (hn : n ≤ 60) (h : ∀ a ∈ ls, ArrOk s n a) (harr : iterA arr = Pure.pure (ls.map lkD)) :
    g_table_of [.v (.str s), .v (.int (n : Nat)), .v arr] = Pure.pure (tabD s n ls) := by
  show m_table_of _ _ _ = _
  unfold m_table_of
  have ech : chrs s = (cl s).map fun c => D.str ⟨#[c]⟩ := rfl
  have mul : mulL (.lst [.int 0]) (.int (n : Nat)) = Pure.pure ((List.replicate n 0).map fun m => .int ((m : Nat) : Int)) := by
    have this := mul_rep (j := (n : Int)) (by omega)
    rw [this, Int.toNat_natCast, flat_rep, List.map_replicate]
    rfl
  have e0 := dcL_e n hn (mk := fun d => Pure.pure d) (mv := fun _ => mulL (.lst [.int 0]) (.int (n : Nat))) (fun c => rfl) (fun c => mul) (cl s) [] (by simpa using nd) (by simpa using h4)
  rw [List.nil_append] at e0
  have e1 : kvo (cl s) (fun _ => List.replicate n 0) = kvo (cl s) (tabl n []) := by
    unfold kvo
    refine List.map_congr_left fun c _ => ?_
    have : tabl n [] c = List.replicate n 0 := by
      unfold tabl
      apply List.ext_getElem?
      intro k
      rw [List.getElem?_map, List.getElem?_replicate]
      by_cases z : k < n
      · rw [List.getElem?_range z, if_pos z]; rfl
      · rw [List.getElem?_eq_none (by simpa using z), if_neg z]; rfl
    rw [this]
  have e2 := forQ_e (l := cl s) (n := n) (b := fun kvs => un3 fun x y z => put2 kvs x y z) ls [] fun a ha pre => put_e (h a ha).i (h a ha).c (by have := (h a ha).j; omega)
  rw [List.nil_append] at e2
  have el : dicL (kvo (cl s) (tabl n ls)) = dicD ((cl s).map fun c => (ky c, .lst ((tabl n ls c).map fun m => .int (m : Nat)))) := by
    unfold dicL kvo
    rw [List.map_map]
    rfl
  have e3 := dcF_e (f := fun c => .tup ((tabl n ls c).map fun m => .int (m : Nat))) (mk := fun d => Pure.pure d) (mv := fun d => ixA (dicL (kvo (cl s) (tabl n ls))) d >>= fun x => tupleD x) (fun c => rfl) (cl s) [] (fun c hc => by
    rw [el]
    show ixA _ (.str ⟨#[c]⟩) >>= _ = _
    rw [ix_dic hc, pb]
    exact Eq.trans rfl rfl) (by simpa using nd) (by simpa using h4)
  rw [List.nil_append] at e3
  have mk1 : mkL [.int 0] = Pure.pure (.lst [.int 0]) := mkLe (by rw [sizeLine_eq]; decide)
  have nil0 : kvo [] (fun _ => List.replicate n 0) = [] := rfl
  rw [nil0] at e0
  simp only [pb, asc, iter_str, ech, v0, v1, mk1, e0, noE, harr, e1, e2, f1e]
  have e3' : dcF (fun _ => Pure.pure true) (fun d => Pure.pure d) (fun d => ixA (dicL (kvo (cl s) (tabl n ls))) d >>= fun x => tupleD x) ((cl s).map fun c => D.str ⟨#[c]⟩) [] = _ := e3
  simp only [e3', noE, pb, dR]
  rfl
end KX
namespace KX
open PySem PySem.Spec PyProof.Rows L2 DL
structure Rd where
  sg : Str
  n : Nat
  hs : List Nat
  ts : List Nat
  ls : List Lk
structure Rd.Ok (R : Rd) : Prop where
  fine : Fine R.sg
  lt : lettersB (cl R.sg) = true
  n1 : 1 ≤ R.n
  n60 : R.n ≤ 60
  hA : Asc R.hs
  hK : ∀ x ∈ R.hs, x < R.n
  tA : Asc R.ts
  tK : ∀ x ∈ R.ts, x < R.n
  lA : R.ls.Pairwise lkLt
  lK : ∀ a ∈ R.ls, ArrOk R.sg R.n a
  ll : R.ls.length ≤ 9000
theorem letters4 {l : List Nat} (h : lettersB l = true) : l.length ≤ 4 ∧ l.Pairwise (· < ·) ∧ plain l = true := by
  unfold lettersB at h
  simp only [Bool.and_eq_true, decide_eq_true_eq] at h
  exact ⟨by omega, (ascB_iff l).mp h.2.2, h.2.1⟩
theorem Rd.Ok.nd {R : Rd} (h : R.Ok) : (cl R.sg).Nodup := (letters4 h.lt).2.1.imp fun {a b} q => Nat.ne_of_lt q
def swp (a : Lk) : Lk := (a.2.2, a.2.1, a.1)
def FSr (R : Rd) : List (Str × D) := putA "_backward" (tabD R.sg R.n (R.ls.map swp)) (putA "_onward" (tabD R.sg R.n R.ls) (putA "_arrows" (.tup (R.ls.map lkD)) (putA "_lasts" (tn R.ts) (putA "_firsts" (tn R.hs) (putA "_states" (.tup ((List.range R.n).map fun i => .int (i : Nat))) (putA "_letters" (.str R.sg) []))))))
abbrev made (R : Rd) : D := .ins "Reader" (FSr R)
theorem init_e {R : Rd} (h : R.Ok) : g_Reader_init_d [.v (.str R.sg), .v (.int (R.n : Nat)), .v (tn R.hs), .v (tn R.ts), .v (.tup (R.ls.map lkD))] = Pure.pure (FSr R) := by
  show m_Reader_init_d _ _ _ _ _ = _
  unfold m_Reader_init_d
  have n60 := h.n60
  have c1 : chainM (Pure.pure (.int 1)) (Pure.pure (.int (R.n : Nat))) (Pure.pure (.int 60)) leD leD = Pure.pure (.bl true) := by
    rw [chain_int, decide_eq_true (show (1 : Int) ≤ (R.n : Nat) by have := h.n1; omega), decide_eq_true (show ((R.n : Nat) : Int) ≤ 60 by omega)]
    rfl
  have e1 := table_e (s := R.sg) (n := R.n) (ls := R.ls) (arr := .tup (R.ls.map lkD)) h.nd (letters4 h.lt).1 n60 h.lK (iter_tup _)
  have sok : ∀ a ∈ R.ls.map swp, ArrOk R.sg R.n a := fun a ha => by
    obtain ⟨b, hb, rfl⟩ := List.mem_map.mp ha
    exact ⟨(h.lK b hb).j, (h.lK b hb).c, (h.lK b hb).i⟩
  have e2 := table_e (s := R.sg) (n := R.n) (ls := R.ls.map swp) (arr := .lst ((R.ls.map swp).map lkD)) h.nd (letters4 h.lt).1 n60 sok (iter_lst _)
  have rg : rngT (.int (R.n : Nat)) = Pure.pure (.tup ((List.range R.n).map fun i => .int (i : Nat))) := by
    rw [← rngs_nat]
    exact rg_i (by omega)
  have ct : compF (un3 fun state39 letter40 other41 => Pure.pure true) (un3 fun x y z => mkT [z, y, x]) (R.ls.map lkD) = Pure.pure ((R.ls.map swp).map lkD) := by
    rw [comp_pure (fun _ => true) (fun d => match d with | .tup [x, y, z] => .tup [z, y, x] | d => d)]
    · rw [List.filter_eq_self.mpr fun _ _ => rfl, List.map_map, List.map_map]
      rfl
    · intro d hd
      obtain ⟨a, _, rfl⟩ := List.mem_map.mp hd
      exact Eq.trans rfl rfl
    · intro d hd _
      obtain ⟨a, _, rfl⟩ := List.mem_map.mp hd
      exact mkTe (by rw [sizeLine_eq]; show 3 ≤ 16777216; decide)
  simp only [pb, asc, thB, thN, check_e h.fine h.lt, small_int (show R.n < 4000 by omega), bB, ntn, itfa, itF, c1, state_set_e h.hA h.hK n60, state_set_e h.tA h.tK n60, arrow_set_e h.fine n60 h.lK h.lA h.ll, rg, e1, iter_tup, v0, v1, ct, noE]
  rw [mkLe (by rw [List.length_map, List.length_map]; exact sizeL h.ll)]
  simp only [pb, thB, thN, e2]
  exact Eq.trans rfl rfl
where
  rg_i {j : Int} (h : 0 ≤ j ∧ j ≤ 60) : rngT (.int j) = Pure.pure (.tup (rngs 0 j)) := if_pos (by unfold rngOk; omega)
theorem FSr_eq (R : Rd) : FSr R = [(Str.ofString "_letters", .str R.sg), (Str.ofString "_states", .tup ((List.range R.n).map fun i => .int (i : Nat))), (Str.ofString "_firsts", tn R.hs), (Str.ofString "_lasts", tn R.ts), (Str.ofString "_arrows", .tup (R.ls.map lkD)), (Str.ofString "_onward", tabD R.sg R.n R.ls), (Str.ofString "_backward", tabD R.sg R.n (R.ls.map swp))] := by
  unfold FSr
  have h1 : ("_letters" : Str) ≠ "_states" := by decide +kernel
  have h2 : ("_letters" : Str) ≠ "_firsts" := by decide +kernel
  have h3 : ("_letters" : Str) ≠ "_lasts" := by decide +kernel
  have h4 : ("_letters" : Str) ≠ "_arrows" := by decide +kernel
  have h5 : ("_letters" : Str) ≠ "_onward" := by decide +kernel
  have h6 : ("_letters" : Str) ≠ "_backward" := by decide +kernel
  have i2 : ("_states" : Str) ≠ "_firsts" := by decide +kernel
  have i3 : ("_states" : Str) ≠ "_lasts" := by decide +kernel
  have i4 : ("_states" : Str) ≠ "_arrows" := by decide +kernel
  have i5 : ("_states" : Str) ≠ "_onward" := by decide +kernel
  have i6 : ("_states" : Str) ≠ "_backward" := by decide +kernel
  have j3 : ("_firsts" : Str) ≠ "_lasts" := by decide +kernel
  have j4 : ("_firsts" : Str) ≠ "_arrows" := by decide +kernel
  have j5 : ("_firsts" : Str) ≠ "_onward" := by decide +kernel
  have j6 : ("_firsts" : Str) ≠ "_backward" := by decide +kernel
  have k4 : ("_lasts" : Str) ≠ "_arrows" := by decide +kernel
  have k5 : ("_lasts" : Str) ≠ "_onward" := by decide +kernel
  have k6 : ("_lasts" : Str) ≠ "_backward" := by decide +kernel
  have l5 : ("_arrows" : Str) ≠ "_onward" := by decide +kernel
  have l6 : ("_arrows" : Str) ≠ "_backward" := by decide +kernel
  have m6 : ("_onward" : Str) ≠ "_backward" := by decide +kernel
  simp [putA, h1, h2, h3, h4, h5, h6, i2, i3, i4, i5, i6, j3, j4, j5, j6, k4, k5, k6, l5, l6, m6]
theorem fld_e {R : Rd} {f : Str} {d : D} (h : (FSr R).lookup f = some d) : fldD ["Reader"] f (made R) = Pure.pure d := by
  show (if ("Reader" : Str) ∈ (["Reader"] : List Str) then M.some ((FSr R).lookup f) else M.no) = _
  rw [if_pos (by simp), h]
  exact Eq.trans rfl rfl
theorem look_letters (R : Rd) : (FSr R).lookup (Str.ofString "_letters") = some (.str R.sg) := by
  rw [FSr_eq, List.lookup_cons]
  simp only [beq_self_eq_true]
theorem look_firsts (R : Rd) : (FSr R).lookup (Str.ofString "_firsts") = some (tn R.hs) := by
  rw [FSr_eq, List.lookup_cons, show (("_firsts" : Str) == "_letters") = false from by decide +kernel, List.lookup_cons, show (("_firsts" : Str) == "_states") = false from by decide +kernel, List.lookup_cons]
  simp only [beq_self_eq_true]
theorem look_lasts (R : Rd) : (FSr R).lookup (Str.ofString "_lasts") = some (tn R.ts) := by
  rw [FSr_eq, List.lookup_cons, show (("_lasts" : Str) == "_letters") = false from by decide +kernel, List.lookup_cons, show (("_lasts" : Str) == "_states") = false from by decide +kernel, List.lookup_cons, show (("_lasts" : Str) == "_firsts") = false from by decide +kernel, List.lookup_cons]
  simp only [beq_self_eq_true]
theorem look_onward (R : Rd) : (FSr R).lookup (Str.ofString "_onward") = some (tabD R.sg R.n R.ls) := by
  rw [FSr_eq, List.lookup_cons, show (("_onward" : Str) == "_letters") = false from by decide +kernel, List.lookup_cons, show (("_onward" : Str) == "_states") = false from by decide +kernel, List.lookup_cons, show (("_onward" : Str) == "_firsts") = false from by decide +kernel, List.lookup_cons, show (("_onward" : Str) == "_lasts") = false from by decide +kernel, List.lookup_cons, show (("_onward" : Str) == "_arrows") = false from by decide +kernel, List.lookup_cons]
  simp only [beq_self_eq_true]
theorem look_no {R : Rd} {f : Str} (h : ∀ g ∈ (["_letters", "_states", "_firsts", "_lasts", "_arrows", "_onward", "_backward"] : List Str), (f == g) = false) : (FSr R).lookup f = none := by
  rw [FSr_eq]
  simp only [List.lookup_cons, h _ (by simp : (Str.ofString "_letters") ∈ _), h _ (by simp : (Str.ofString "_states") ∈ _), h _ (by simp : (Str.ofString "_firsts") ∈ _), h _ (by simp : (Str.ofString "_lasts") ∈ _), h _ (by simp : (Str.ofString "_arrows") ∈ _), h _ (by simp : (Str.ofString "_onward") ∈ _), h _ (by simp : (Str.ofString "_backward") ∈ _)]
  rfl
theorem insP_r (R : Rd) : insP "Reader" (made R) = Pure.pure () := by
  show (if ("Reader" : Str) = "Reader" then Pure.pure () else M.no) = _
  exact if_pos rfl
theorem insG_r (R : Rd) {m : Str} (h : (FSr R).lookup m = none) : insG "Reader" m (made R) = Pure.pure () := by
  show (if ("Reader" : Str) = "Reader" ∧ (FSr R).lookup m = none then Pure.pure () else M.no) = _
  exact if_pos ⟨rfl, h⟩
theorem p_letters (R : Rd) : g_Reader_letters [.v (made R)] = Pure.pure (.str R.sg) := by
  show m_Reader_letters (made R) = _
  unfold m_Reader_letters
  simp only [pb, asc, fld_e (look_letters R), dR]
theorem p_firsts (R : Rd) : g_Reader_firsts [.v (made R)] = Pure.pure (tn R.hs) := by
  show m_Reader_firsts (made R) = _
  unfold m_Reader_firsts
  simp only [pb, asc, fld_e (look_firsts R), dR]
theorem p_lasts (R : Rd) : g_Reader_lasts [.v (made R)] = Pure.pure (tn R.ts) := by
  show m_Reader_lasts (made R) = _
  unfold m_Reader_lasts
  simp only [pb, asc, fld_e (look_lasts R), dR]
/-- the masks of a letter -/
def mks (n : Nat) (ls : List Lk) (c : Nat) : D := .tup ((tabl n ls c).map fun m => .int (m : Nat))
theorem m_onward {R : Rd} {c : Nat} (h : c ∈ cl R.sg) : g_Reader_onward [.v (made R), .v (.str ⟨#[c]⟩)] = Pure.pure (mks R.n R.ls c) := by
  show m_Reader_onward (made R) _ = _
  unfold m_Reader_onward
  simp only [pb, asc, fld_e (look_onward R)]
  unfold tabD
  rw [ix_dic h]
  simp only [pb, dR]
  rfl
theorem isC_r (R : Rd) : isiC "Reader" (made R) = Pure.pure (.bl true) := by
  show M.some ((if ("Reader" : Str) = "Reader" then some true else none).map D.bl) = _
  rw [if_pos rfl]
  exact Eq.trans rfl rfl
theorem check_reader_e (R : Rd) : g_check_reader [.v (made R)] = Pure.pure .non := by
  show m_check_reader (made R) = _
  unfold m_check_reader
  simp only [pb, asc, isC_r, bB, ntn, itfa, itF, thN, dN]
end KX
namespace KX
open PySem PySem.Spec PyProof.Rows L2 DL
abbrev ziM (f : List Int) : List D := f.map .int
def zt (f : List Int) : D := .tup (ziM f)
theorem atI_z {f : List Int} {j : Nat} (h : j < f.length) : atI (ziM f) ((j : Nat) : Int) = some (.int (f.getD j 0)) := by
  unfold atI ixN
  rw [List.length_map, if_pos (by omega), if_pos (by omega)]
  show (ziM f)[((j : Nat) : Int).toNat]? = _
  rw [Int.toNat_natCast, List.getElem?_map, List.getElem?_eq_getElem h, List.getD_eq_getElem?_getD, List.getElem?_eq_getElem h]
  rfl
theorem ixD_zt {f : List Int} {j : Nat} (h : j < f.length) : ixD (zt f) (.int (j : Nat)) = Pure.pure (.int (f.getD j 0)) := by
  show M.some (atI (ziM f) _) = _
  rw [atI_z h]
  exact Eq.trans rfl rfl
end KX
namespace KX
open PySem PySem.Spec PyProof.Rows L2 DL
theorem len_r {R : Rd} (h : R.Ok) : f1 (dunD "Reader" g_Reader_len_d natD) [made R] = Pure.pure (.int (R.n : Nat)) := by
  rw [f1e]
  show (if ("Reader" : Str) = "Reader" then noEx (g_Reader_len_d [.v (made R)]) >>= natD else M.no) = _
  rw [if_pos rfl]
  have ls : (FSr R).lookup (Str.ofString "_states") = some (.tup ((List.range R.n).map fun i => .int (i : Nat))) := by
    rw [FSr_eq, List.lookup_cons, show (("_states" : Str) == "_letters") = false from by decide +kernel, List.lookup_cons]
    simp only [beq_self_eq_true]
  have e : g_Reader_len_d [.v (made R)] = Pure.pure (.int (R.n : Nat)) := by
    show m_Reader_len_d (made R) = _
    unfold m_Reader_len_d
    simp only [pb, asc, fld_e ls, v0, v1, f1e, len_tup, List.length_map, List.length_range, dR]
  rw [e, noE, pb]
  have n60 := h.n60
  have z : 0 ≤ ((R.n : Nat) : Int) ∧ ((R.n : Nat) : Int) < 2 ^ 63 := by
    generalize hk : (2 : Int) ^ 63 = K
    have : (60 : Int) < K := by rw [← hk]; decide
    omega
  unfold natD
  dsimp only
  rw [if_pos z]
end KX
namespace KX
open PySem PySem.Spec PyProof.Rows L2 DL
theorem toPys_nat (l : List Nat) : toPys (l.map fun i => .int (i : Nat)) = some (l.map fun i => .int (i : Nat)) := by
  induction l with
  | nil => rfl
  | cons y ys ih => show (match toPy (.int (y : Nat)), toPys _ with | some d, some ds => some (d :: ds) | _, _ => none) = _; rw [ih]; rfl
/-- the plain reader -/
def pl (R : Rd) : D := dicD [(.inr "signs", .str R.sg), (.inr "size", .int (R.n : Nat)), (.inr "heads", tn R.hs), (.inr "tails", tn R.ts), (.inr "links", .tup (R.ls.map lkD))]
theorem add_nn (a b : Nat) : addD (.int (a : Nat)) (.int (b : Nat)) = Pure.pure (.int ((a + b : Nat) : Int)) := by
  rw [add_ii]
  congr 2
end KX
namespace KX
open PySem PySem.Spec PyProof.Rows L2 DL
/-- what the law may hand its own sums -/
structure RowD (n : Nat) (f : List Int) (d : D) : Prop where
  l : f.length = n
  ix : ∀ j : Nat, j < n → ixD d (.int (j : Nat)) = Pure.pure (.int (f.getD j 0))
theorem RowD.t {n : Nat} {f : List Int} (h : f.length = n) : RowD n f (zt f) := ⟨h, fun j hj => ixD_zt (by omega)⟩
end KX
namespace KX
open PySem PySem.Spec PyProof.Rows L2 DL
open PySem.W (alike dataLe dataLt AllAlike Sortable)
theorem sortA_l (ds : List D) : sortA (.lst ds) = sortD (.lst ds) := rfl
theorem sortok_nat (us : List Nat) : SX.SortOk (us.map fun i => PyData.int (i : Nat)) := by
  refine ⟨PySem.W.AllAlike.of (enc := fun i : Nat => PyData.int (i : Nat)) fun b b' => rfl, fun p hp => ?_, .inl (.inr fun d hd => ?_), fun p hp => ?_⟩
  · obtain ⟨i, _, rfl⟩ := List.mem_map.mp hp; exact fun z => nomatch z
  · obtain ⟨i, _, rfl⟩ := List.mem_map.mp hd; exact ⟨fun z => (nomatch z), fun xs z => (nomatch z)⟩
  · obtain ⟨i, _, rfl⟩ := List.mem_map.mp hp; exact Nat.zero_le _
theorem pyLe_nat (x y : Nat) : pyLe (.int (x : Nat)) (.int (y : Nat)) = decide (x ≤ y) := by
  show dataLe false (fun p : PyData => p) (.int (x : Nat)) (.int (y : Nat)) = _
  rw [PySem.W.dataLe_eq]
  show (!dataLt (.int (y : Nat)) (.int (x : Nat))) = _
  rw [PySem.W.dataLt_int, PySem.W.not_lt_int]
  exact decide_eq_decide.mpr ⟨fun h => by omega, fun h => by omega⟩
open Classical in
theorem sort_nat {us : List Nat} (nd : us.Nodup) (h : us.length ≤ 9000) : sortD (.lst (us.map fun i => .int (i : Nat))) = Pure.pure (.lst ((SX.srtN us).map fun i => .int (i : Nat))) := by
  show (match toPys (us.map fun i => .int (i : Nat)) with | some ps => if SX.SortOk ps ∧ (us.map fun i => D.int (i : Nat)).length ≤ sizeLine then Pure.pure (D.lst ((us.map fun i => D.int (i : Nat)).mergeSort pyLe)) else M.no | none => M.no) = _
  rw [toPys_nat]
  show (if SX.SortOk (us.map fun i => PyData.int (i : Nat)) ∧ (us.map fun i => D.int (i : Nat)).length ≤ sizeLine then Pure.pure (D.lst ((us.map fun i => D.int (i : Nat)).mergeSort pyLe)) else M.no) = _
  rw [if_pos ⟨sortok_nat us, by rw [List.length_map, sizeLine_eq]; omega⟩]
  have s1 := List.map_mergeSort (r := fun x y : Nat => decide (x ≤ y)) (s := pyLe) (f := fun i : Nat => D.int (i : Nat)) (l := us) (fun a _ b _ => (pyLe_nat a b).symm)
  rw [← s1]
  have pw := List.pairwise_mergeSort (le := fun a b : Nat => decide (a ≤ b)) (fun a b c h1 h2 => decide_eq_true (Nat.le_trans (of_decide_eq_true h1) (of_decide_eq_true h2))) (fun a b => by
    rcases Nat.le_total a b with z | z
    · rw [decide_eq_true z]; rfl
    · rw [decide_eq_true z, Bool.or_true]) us
  have nd2 : (us.mergeSort fun x y : Nat => decide (x ≤ y)).Nodup := (List.mergeSort_perm _ _).nodup_iff.mpr nd
  have pl : Asc (us.mergeSort fun x y : Nat => decide (x ≤ y)) := (pw.and nd2).imp fun {a b} ⟨h1, h2⟩ => by
    have h1 := of_decide_eq_true h1
    omega
  have : (us.mergeSort fun x y : Nat => decide (x ≤ y)) = SX.srtN us := asc_ext pl SX.srtN_asc fun y => by rw [List.mem_mergeSort, SX.srtN_mem]
  rw [this]
def lkP (a : Lk) : PyData := .tuple [.int (a.1 : Nat), .str ⟨#[a.2.1]⟩, .int (a.2.2 : Nat)]
theorem toPys_lk (l : List Lk) : toPys (l.map lkD) = some (l.map lkP) := by
  induction l with
  | nil => rfl
  | cons y ys ih => show (match toPy (lkD y), toPys _ with | some d, some ds => some (d :: ds) | _, _ => none) = _; rw [ih]; rfl
theorem sortok_lk (us : List Lk) : SX.SortOk (us.map lkP) := by
  refine ⟨PySem.W.AllAlike.of (enc := lkP) fun b b' => rfl, fun p hp => ?_, .inl (.inl fun d hd => ?_), fun p hp => ?_⟩
  · obtain ⟨i, _, rfl⟩ := List.mem_map.mp hp; exact fun z => nomatch z
  · obtain ⟨i, _, rfl⟩ := List.mem_map.mp hd; exact ⟨_, _, rfl⟩
  · obtain ⟨i, _, rfl⟩ := List.mem_map.mp hp; exact Nat.le_trans (show (lkP i).depth ≤ 1 from Nat.le_refl _) (by decide)
instance (a b : Lk) : Decidable (lkLt a b) := by unfold lkLt; infer_instance
theorem dataLt_lk (a b : Lk) : dataLt (lkP a) (lkP b) = decide (lkLt a b) := by
  unfold lkP
  rw [PySem.W.dataLt_tuple, PySem.W.dataLt_cons (by rfl), PySem.W.dataLt_cons (by rfl), PySem.W.dataLt_cons (by rfl), PySem.W.dataLt_int, PySem.W.dataLt_int, PySem.W.dataLt_str]
  have e0 : PyProof.Rows.lexLt PyProof.Rows.itemOrd (PySem.W.keyToksAll []) (PySem.W.keyToksAll []) = false := PyProof.Rows.lex_irrefl _
  rw [e0]
  have q1 : PyData.eqv (.int (a.1 : Nat)) (.int (b.1 : Nat)) = decide (a.1 = b.1) := by
    show (((a.1 : Nat) : Int) == ((b.1 : Nat) : Int)) = _
    by_cases z : a.1 = b.1
    · rw [z]; simp
    · rw [decide_eq_false z]; exact beq_eq_false_iff_ne.mpr fun y => z (by omega)
  have q3 : PyData.eqv (.int (a.2.2 : Nat)) (.int (b.2.2 : Nat)) = decide (a.2.2 = b.2.2) := by
    show (((a.2.2 : Nat) : Int) == ((b.2.2 : Nat) : Int)) = _
    by_cases z : a.2.2 = b.2.2
    · rw [z]; simp
    · rw [decide_eq_false z]; exact beq_eq_false_iff_ne.mpr fun y => z (by omega)
  have q2 : PyData.eqv (.str ⟨#[a.2.1]⟩) (.str ⟨#[b.2.1]⟩) = decide (a.2.1 = b.2.1) := by
    show ((⟨#[a.2.1]⟩ : Str) == ⟨#[b.2.1]⟩) = _
    by_cases z : a.2.1 = b.2.1
    · rw [z]; simp
    · rw [decide_eq_false z]; exact beq_eq_false_iff_ne.mpr fun y => z (sgl_eq.mp y)
  have l2 : decide ((⟨#[a.2.1]⟩ : Str).cps.toList < (⟨#[b.2.1]⟩ : Str).cps.toList) = decide (a.2.1 < b.2.1) := one_lt
  rw [q1, q2, q3, l2]
  unfold lkLt
  by_cases h1 : a.1 = b.1
  · rw [if_pos (decide_eq_true h1)]
    by_cases h2 : a.2.1 = b.2.1
    · rw [if_pos (decide_eq_true h2)]
      by_cases h3 : a.2.2 = b.2.2
      · rw [if_pos (decide_eq_true h3)]
        exact (decide_eq_false (by omega)).symm
      · rw [if_neg (by rw [decide_eq_false h3]; simp)]
        exact decide_eq_decide.mpr ⟨fun z => by omega, fun z => by omega⟩
    · rw [if_neg (by rw [decide_eq_false h2]; simp)]
      exact decide_eq_decide.mpr ⟨fun z => by omega, fun z => by omega⟩
  · rw [if_neg (by rw [decide_eq_false h1]; simp)]
    exact decide_eq_decide.mpr ⟨fun z => by omega, fun z => by omega⟩
theorem pyLe_lk (a b : Lk) : pyLe (lkD a) (lkD b) = decide (¬ lkLt b a) := by
  show dataLe false (fun p : PyData => p) (lkP a) (lkP b) = _
  rw [PySem.W.dataLe_eq]
  show (!dataLt (lkP b) (lkP a)) = _
  rw [dataLt_lk]
  by_cases z : lkLt b a
  · rw [decide_eq_true z, decide_eq_false (fun k => k z)]; rfl
  · rw [decide_eq_false z, decide_eq_true z]; rfl
theorem lk_tri {a b : Lk} (h : ¬ lkLt a b) (k : ¬ lkLt b a) : a = b := by
  obtain ⟨a1, a2, a3⟩ := a
  obtain ⟨b1, b2, b3⟩ := b
  unfold lkLt at h k
  simp only at h k
  have e1 : a1 = b1 := by omega
  have e2 : a2 = b2 := by omega
  have e3 : a3 = b3 := by omega
  rw [e1, e2, e3]
open Classical in
theorem sort_lk {us : List Lk} (nd : us.Nodup) (h : us.length ≤ 9000) : ∃ vs : List Lk, sortD (.lst (us.map lkD)) = Pure.pure (.lst (vs.map lkD)) ∧ vs.Pairwise lkLt ∧ (∀ a, a ∈ vs ↔ a ∈ us) ∧ vs.length = us.length := by
  refine ⟨us.mergeSort fun x y => decide (¬ lkLt y x), ?_, ?_, fun a => List.mem_mergeSort, List.length_mergeSort _⟩
  · show (match toPys (us.map lkD) with | some ps => if SX.SortOk ps ∧ (us.map lkD).length ≤ sizeLine then Pure.pure (D.lst ((us.map lkD).mergeSort pyLe)) else M.no | none => M.no) = _
    rw [toPys_lk]
    show (if SX.SortOk (us.map lkP) ∧ (us.map lkD).length ≤ sizeLine then Pure.pure (D.lst ((us.map lkD).mergeSort pyLe)) else M.no) = _
    rw [if_pos ⟨sortok_lk us, by rw [List.length_map, sizeLine_eq]; omega⟩]
    have s1 := List.map_mergeSort (r := fun x y : Lk => decide (¬ lkLt y x)) (s := pyLe) (f := lkD) (l := us) (fun a _ b _ => (pyLe_lk a b).symm)
    rw [← s1]
  · have pw := List.pairwise_mergeSort (le := fun x y : Lk => decide (¬ lkLt y x)) (fun a b c h1 h2 => by
      have h1 := of_decide_eq_true h1
      have h2 := of_decide_eq_true h2
      refine decide_eq_true fun z => ?_
      unfold lkLt at h1 h2 z
      omega) (fun a b => by
      by_cases z : lkLt b a
      · have : ¬ lkLt a b := fun k => by unfold lkLt at z k; omega
        rw [decide_eq_true this, Bool.or_true]
      · rw [decide_eq_true z]; rfl) us
    have nd2 : (us.mergeSort fun x y : Lk => decide (¬ lkLt y x)).Nodup := (List.mergeSort_perm _ _).nodup_iff.mpr nd
    refine (pw.and nd2).imp fun {a b} ⟨h1, h2⟩ => ?_
    have h1 := of_decide_eq_true h1
    by_cases z : lkLt a b
    · exact z
    · exact absurd (lk_tri z h1) h2
end KX
namespace KX
open PySem PySem.Spec PyProof.Rows L2 DL
theorem small_log {k : Nat} (h : k < 4000) : ((k : Nat) : Int).natAbs.log2 < 9000 := by
  rw [Int.natAbs_natCast]
  by_cases z : k = 0
  · rw [z]; decide
  · exact Nat.lt_trans ((Nat.log2_lt z).mpr (show k < 2 ^ 12 by omega)) (by decide)
/-- a bit of a number of at most 4000 -/
theorem bit_n {n : Int} {k : Nat} {P : Pot} (h : PO n P) (hn : n < 2 ^ 39) (hk : 0 < k) (hl : k < 4000) : wp (g_l_bit [.p, .v (.int (k : Nat))]) P fun d P' => ∃ r : Nat, d = .int (r : Nat) ∧ r < k ∧ PO (n + 1) P' :=
  wp_mono (bit_w h hn (by omega) (small_log hl)) fun d P' ⟨r, e, r0, r1, q⟩ => ⟨r.toNat, by rw [e]; congr 1; omega, by omega, q⟩
theorem era_map {α β : Type} (f : α → β) : ∀ (l : List α) (i : Nat), (l.map f).eraseIdx i = (l.eraseIdx i).map f
  | [], i => by simp
  | a :: l, 0 => rfl
  | a :: l, i + 1 => by
    show f a :: (l.map f).eraseIdx i = f a :: (l.eraseIdx i).map f
    rw [era_map f l i]
/-- the items in a drawn order -/
theorem deal_w {me : List D → D → M (D × List D)} (hm : ∀ (ws : List Nat) (d : D) (n : Int) (P : Pot), PO n P → n < 2 ^ 39 → 0 < ws.length → ws.length < 4000 → wp (me (ws.map fun i => .int (i : Nat)) d) P fun r P' => ∃ (i : Nat) (x : Nat), ws[i]? = some x ∧ r = (.int (x : Nat), (ws.eraseIdx i).map fun i => .int (i : Nat)) ∧ PO (n + 1) P') :
    ∀ (ds : List D) (ws : List Nat) (n : Int) (P : Pot), ds.length = ws.length → PO n P → n + ds.length < 2 ^ 39 → ws.length < 4000 → wp (compO me (ws.map fun i => .int (i : Nat)) ds) P fun ys P' => ∃ vs : List Nat, ys = (vs.map fun i => .int (i : Nat)) ∧ vs.Perm ws ∧ PO (n + ds.length) P'
  | [], ws, n, P, h, po, _, _ => by
    have : ws = [] := List.length_eq_zero_iff.mp h.symm
    subst this
    unfold compO
    exact wp_pure ⟨[], rfl, List.Perm.refl _, by simpa using po⟩
  | d :: ds, ws, n, P, h, po, hn, hl => by
    rw [List.length_cons] at h hn
    unfold compO
    refine wp_bind (wp_mono (wp_noEx (hm ws d n P po (by omega) (by omega) hl)) fun r P1 ⟨i, x, e1, e2, p1⟩ => ?_)
    subst e2
    have hi := (List.getElem?_eq_some_iff.mp e1).1
    have le : (ws.eraseIdx i).length = ws.length - 1 := by rw [List.length_eraseIdx, if_pos hi]
    refine wp_bind (wp_mono (wp_noEx (deal_w hm ds (ws.eraseIdx i) (n + 1) P1 (by omega) p1 (by omega) (by omega))) fun ys P2 ⟨vs, e3, pm, p2⟩ => ?_)
    subst e3
    refine wp_pure ⟨x :: vs, rfl, ?_, ?_⟩
    · exact (List.Perm.cons x pm).trans (L2.erase_perm ws i x e1)
    · have : n + 1 + (ds.length : Nat) = n + ((d :: ds).length : Nat) := by rw [List.length_cons]; omega
      rw [← this]; exact p2
theorem dealt_w {n : Int} {P : Pot} {ws : List Nat} (h : PO n P) (hn : n + ws.length < 2 ^ 39) (hl : ws.length < 4000) : wp (g_l_dealt [.p, .v (.lst (ws.map fun i => .int (i : Nat)))]) P fun d P' => ∃ vs : List Nat, d = .lst (vs.map fun i => .int (i : Nat)) ∧ vs.Perm ws ∧ PO (n + ws.length) P' := by
  show wp (m_l_dealt _) P _
  unfold m_l_dealt
  have i1 : itemsD (.lst (ws.map fun i => D.int (i : Nat))) = Pure.pure (ws.map fun i => D.int (i : Nat)) := Eq.trans rfl rfl
  have hlen : lenD (.lst (ws.map fun i => D.int (i : Nat))) = Pure.pure (.int (ws.length : Nat)) := by rw [len_lst, List.length_map]
  simp only [pb, asc, thB, thN, i1, v0, v1, f1e, hlen, rng_n hl]
  refine wp_bind ?_
  refine wp_mono (wp_noEx (deal_w (me := _) ?_ ((List.range ws.length).map fun i => D.int (i : Nat)) ws n P (by rw [List.length_map, List.length_range]) h (by rw [List.length_map, List.length_range]; exact hn) hl)) fun ys P2 ⟨vs, e3, pm, p2⟩ => ?_
  · intro ws d n P po hn h0 hl
    have e : (ws.map fun i => D.int (i : Nat)).length = ws.length := List.length_map _
    rw [e]
    refine wp_bind (wp_mono (bit_n po hn h0 hl) fun d P' ⟨r, e, r1, q⟩ => ?_)
    subst e
    refine ⟨(.int (ws[r] : Nat), (ws.eraseIdx r).map fun i => .int (i : Nat)), P', ?_, r, ws[r], List.getElem?_eq_getElem r1, rfl, q⟩
    have e1 : popD (ws.map fun i => D.int (i : Nat)) (.int (r : Nat)) = M.some ((seqIndex? (r : Nat) (ws.map fun i => D.int (i : Nat)).length).bind fun j => ((ws.map fun i => D.int (i : Nat))[j]?).map fun d => (d, (ws.map fun i => D.int (i : Nat)).eraseIdx j)) := pop_i (by omega)
    have e2 : seqIndex? ((r : Nat) : Int) (ws.map fun i => D.int (i : Nat)).length = some r := by
      rw [List.length_map]
      exact (ixN_seq (j := r) (by unfold ixN; rw [if_pos (by omega), if_pos (by omega), Int.toNat_natCast])).1
    rw [e1, e2]
    show (M.some (((ws.map fun i => D.int (i : Nat))[r]?).map fun d => (d, (ws.map fun i => D.int (i : Nat)).eraseIdx r))) P' = _
    rw [List.getElem?_map, List.getElem?_eq_getElem r1, era_map]
    rfl
  · subst e3
    rw [mkLe (by rw [List.length_map, pm.length_eq]; exact sizeL (by omega))]
    simp only [pb, dR]
    refine wp_pure ⟨vs, rfl, pm, ?_⟩
    rw [List.length_map, List.length_range] at p2
    exact p2
where
  pop_i {ds : List D} {k : Int} (h : 0 ≤ k ∧ k < 4000) : popD ds (.int k) = M.some ((seqIndex? k ds.length).bind fun j => (ds[j]?).map fun d => (d, ds.eraseIdx j)) := if_pos (by omega)
theorem cut_to {α : Type} (xs : List α) (k : Nat) : ∃ m, cutL xs none (some (k : Nat)) = xs.take m := by
  unfold cutL
  refine ⟨HT.sIx xs.length xs.length (some ((k : Nat) : Int)) - HT.sIx xs.length 0 none, ?_⟩
  have : HT.sIx xs.length 0 none = 0 := rfl
  rw [this]
  simp
/-- a drawn set of states -/
theorem some_w {n : Int} {P : Pot} {ws : List Nat} {l : Nat} (h : PO n P) (hn : n + ws.length + 1 < 2 ^ 39) (hl : ws.length < 3000) (nd : ws.Nodup) (hle : l ≤ ws.length) : wp (g_l_some_of [.p, .v (.lst (ws.map fun i => .int (i : Nat))), .v (.int (l : Nat))]) P fun d P' => ∃ S : List Nat, d = tn S ∧ Asc S ∧ (∀ x ∈ S, x ∈ ws) ∧ PO (n + ws.length + 1) P' := by
  show wp (m_l_some_of _ _) P _
  unfold m_l_some_of
  have hlen : lenD (.lst (ws.map fun i => D.int (i : Nat))) = Pure.pure (.int (ws.length : Nat)) := by rw [len_lst, List.length_map]
  have sub1 : subD (.int (ws.length : Nat)) (.int (l : Nat)) = Pure.pure (.int ((ws.length - l : Nat) : Int)) := by
    rw [sub_ii]; congr 2; omega
  have add1 : addD (.int ((ws.length - l : Nat) : Int)) (.int 1) = Pure.pure (.int ((ws.length - l + 1 : Nat) : Int)) := by
    rw [add_ii]; congr 2
  simp only [pb, asc, thB, v0, v1, f1e, hlen, sub1, add1]
  refine wp_bind (wp_mono (bit_n h (by omega) (Nat.succ_pos _) (by omega)) fun d P1 ⟨r, e, r1, q⟩ => ?_)
  subst e
  simp only [add_nn, pb, thN, asc]
  refine wp_bind (wp_mono (dealt_w (ws := ws) q (by omega) (by omega)) fun d P2 ⟨vs, e, pm, q2⟩ => ?_)
  subst e
  obtain ⟨m, em⟩ := cut_to (vs.map fun i => D.int (i : Nat)) (l + r)
  have sl : sliceD (.lst (vs.map fun i => D.int (i : Nat))) none (some ((l + r : Nat) : Int)) = Pure.pure (.lst ((vs.take m).map fun i => .int (i : Nat))) := by
    show Pure.pure (D.lst (cutL _ _ _)) = _
    rw [em, List.map_take]
  have ndv : (vs.take m).Nodup := (pm.nodup_iff.mpr nd).sublist (List.take_sublist _ _)
  have lv : (vs.take m).length ≤ 9000 := by
    have := List.length_take_le' m vs
    have := pm.length_eq
    omega
  have tl : ∀ l : List Nat, tupleD (.lst (l.map fun i => .int (i : Nat))) = Pure.pure (tn l) := fun l => Eq.trans rfl rfl
  simp only [part_e, pb, asc, sl, v0, v1, f1e, sortA_l, sort_nat ndv lv, tl, dR]
  refine wp_pure ⟨SX.srtN (vs.take m), rfl, SX.srtN_asc, fun x hx => pm.mem_iff.mp (List.mem_of_mem_take (SX.srtN_mem.mp hx)), ?_⟩
  have : n + 1 + (ws.length : Nat) = n + (ws.length : Nat) + 1 := by omega
  rw [← this]; exact q2
end KX
namespace KX
open PySem PySem.Spec PyProof.Rows L2 DL
theorem dicM0 : dicM [] = Pure.pure [] := Eq.trans rfl rfl
theorem dicM1 (k : Key) (m : M D) (r : List (Key × M D)) : dicM ((k, m) :: r) = m >>= fun d => dicM r >>= fun ps => Pure.pure ((k, d) :: ps) := Eq.trans rfl rfl
theorem keys4 : ([.inr "signs", .inr "size", .inr "heads", .inr "tails"] : List Key).Nodup := by decide +kernel
theorem asc_nd {l : List Nat} (h : Asc l) : l.Nodup := h.imp fun {a b} q => Nat.ne_of_lt q
theorem tup_tn (l : List Nat) : tupleD (.lst (l.map fun i => .int (i : Nat))) = Pure.pure (tn l) := Eq.trans rfl rfl
theorem told_e {s : Str} {n : Nat} {hs ts : List Nat} {ks : List Lk} (hA : Asc hs) (tA : Asc ts) (lh : hs.length ≤ 9000) (lt : ts.length ≤ 9000) (nd : ks.Nodup) (kl : ks.length ≤ 9000) :
    ∃ vs : List Lk, g_l_told_reader [.v (.str s), .v (.int (n : Nat)), .v (tn hs), .v (tn ts), .v (.lst (ks.map lkD))] = Pure.pure (pl ⟨s, n, hs, ts, vs⟩) ∧ vs.Pairwise lkLt ∧ (∀ a, a ∈ vs ↔ a ∈ ks) ∧ vs.length = ks.length := by
  obtain ⟨vs, e, p, m, l⟩ := sort_lk nd kl
  refine ⟨vs, ?_, p, m, l⟩
  show m_l_told_reader _ _ _ _ _ = _
  unfold m_l_told_reader
  have e1 : ∀ {l : List Nat}, Asc l → l.length ≤ 9000 → sortA (tn l) = Pure.pure (.lst (l.map fun i => .int (i : Nat))) := fun {l} h hl => by
    show sortD (.lst (l.map fun i => .int (i : Nat))) = _
    rw [sort_nat (asc_nd h) hl, SX.srtN_self h]
  have tk : tupleD (.lst (vs.map lkD)) = Pure.pure (.tup (vs.map lkD)) := Eq.trans rfl rfl
  have md : mkDicL [(.inr "signs", .str s), (.inr "size", .int (n : Nat)), (.inr "heads", tn hs), (.inr "tails", tn ts)] = Pure.pure [(.inr "signs", .str s), (.inr "size", .int (n : Nat)), (.inr "heads", tn hs), (.inr "tails", tn ts)] := if_pos ⟨keys4, by show 4 ≤ 15; decide⟩
  have px : putX [((.inr "signs" : Key), D.str s), (.inr "size", .int (n : Nat)), (.inr "heads", tn hs), (.inr "tails", tn ts)] (.inr "links") (.tup (vs.map lkD)) = [(.inr "signs", .str s), (.inr "size", .int (n : Nat)), (.inr "heads", tn hs), (.inr "tails", tn ts), (.inr "links", .tup (vs.map lkD))] := by
    unfold putX
    have f1 : decide ((Sum.inr "signs" : Key) = .inr "links") = false := by decide +kernel
    have f2 : decide ((Sum.inr "size" : Key) = .inr "links") = false := by decide +kernel
    have f3 : decide ((Sum.inr "heads" : Key) = .inr "links") = false := by decide +kernel
    have f4 : decide ((Sum.inr "tails" : Key) = .inr "links") = false := by decide +kernel
    simp only [List.any_cons, List.any_nil, f1, f2, f3, f4, Bool.or_false]
    rfl
  have km : keyM (.str "links") = Pure.pure (.inr "links") := Eq.trans rfl rfl
  simp only [pb, asc, thB, thN, dicM0, dicM1, v0, v1, f1e, e1 hA lh, e1 tA lt, tup_tn, md, sortA_l, e, tk, km]
  rw [if_pos (by rw [sizeLine_eq]; show 4 < 16777216; decide)]
  simp only [thN, px, pb, dR]
  rfl
def ent (a : Lk) : List Key × D := ([.inl (a.1 : Nat), ky a.2.1, .inl (a.2.2 : Nat)], .bl true)
theorem ent_inj {a b : Lk} : (ent a).1 = (ent b).1 ↔ a = b := by
  constructor
  · intro h
    obtain ⟨a1, a2, a3⟩ := a
    obtain ⟨b1, b2, b3⟩ := b
    have h : ([.inl (a1 : Nat), ky a2, .inl (a3 : Nat)] : List Key) = [.inl (b1 : Nat), ky b2, .inl (b3 : Nat)] := h
    injection h with h1 h
    injection h with h2 h
    injection h with h3 _
    have e1 := Sum.inl.inj h1
    have e3 := Sum.inl.inj h3
    have e2 := ky_inj.mp h2
    have : a1 = b1 := by omega
    have : a3 = b3 := by omega
    simp [*]
  · intro h; rw [h]
def insK (ks : List Lk) (a : Lk) : List Lk := if a ∈ ks then ks else ks ++ [a]
theorem put_ent (ks : List Lk) (a : Lk) : putX (ks.map ent) (ent a).1 (.bl true) = (insK ks a).map ent := by
  have an : ((ks.map ent).any fun kv => decide (kv.1 = (ent a).1)) = decide (a ∈ ks) := by
    induction ks with
    | nil => simp
    | cons b ks ih =>
      rw [List.map_cons, List.any_cons, ih]
      by_cases z : b = a
      · rw [decide_eq_true (ent_inj.mpr z), decide_eq_true (show a ∈ b :: ks by rw [z]; exact List.mem_cons_self)]; rfl
      · rw [decide_eq_false (fun k => z (ent_inj.mp k)), Bool.false_or]
        exact decide_eq_decide.mpr ⟨List.mem_cons_of_mem _, fun k => by
          rcases List.mem_cons.mp k with k | k
          · exact absurd k.symm z
          · exact k⟩
  unfold putX insK
  rw [an]
  by_cases z : a ∈ ks
  · rw [decide_eq_true z, if_pos rfl, if_pos z]
    rw [List.map_map]
    refine List.map_congr_left fun b _ => ?_
    show (if (ent b).1 = (ent a).1 then ((ent b).1, D.bl true) else ent b) = ent b
    split <;> rfl
  · rw [decide_eq_false z, if_neg (by simp), if_neg z, List.map_append]
    rfl
theorem insK_mem {ks : List Lk} {a x : Lk} : x ∈ insK ks a ↔ x ∈ ks ∨ x = a := by
  unfold insK
  split
  · rename_i h
    exact ⟨.inl, fun k => k.elim id fun e => e ▸ h⟩
  · rw [List.mem_append, List.mem_singleton]
theorem insK_nd {ks : List Lk} {a : Lk} (h : ks.Nodup) : (insK ks a).Nodup := by
  unfold insK
  split
  · exact h
  · rename_i z
    rw [List.nodup_append]
    refine ⟨h, by simp, fun x hx y hy => ?_⟩
    rw [List.mem_singleton.mp hy]
    exact fun e => z (by rw [← e]; exact hx)
theorem insK_len {ks : List Lk} {a : Lk} : (insK ks a).length ≤ ks.length + 1 := by
  unfold insK
  split
  · omega
  · simp
structure Gat (s : Str) (n L : Nat) (acc : List (List Key × D)) (ks : List Lk) : Prop where
  e : acc = ks.map ent
  nd : ks.Nodup
  ok : ∀ a ∈ ks, ArrOk s n a
  l : ks.length ≤ L
theorem key3 (i c j : Nat) : keyL [.int (i : Nat), .str ⟨#[c]⟩, .int (j : Nat)] = Pure.pure (ent (i, c, j)).1 := Eq.trans rfl rfl
theorem gat_lst {s : Str} {n L : Nat} {acc : List (List Key × D)} {ks : List Lk} (h : Gat s n L acc ks) : (acc.map fun p => D.tup (p.1.map keyD)) = ks.map lkD := by
  rw [h.e, List.map_map]
  refine List.map_congr_left fun a _ => ?_
  rfl
theorem pick5 {k : Int} {P : Pot} (h : PO k P) (hk : k < 2 ^ 38) : wp (g_l_pick [.p, .v (.lst [.int 0, .int 1, .int 1, .int 1, .int 2])]) P fun d P' => ∃ r : Nat, d = .int (r : Nat) ∧ r ≤ 2 ∧ PO (k + 1) P' := by
  refine wp_mono (pick_w h (by omega) (by simp) (by simp)) fun d P' ⟨hd, q⟩ => ?_
  simp only [List.mem_cons, List.not_mem_nil, or_false] at hd
  rcases hd with rfl | rfl | rfl | rfl | rfl
  · exact ⟨0, rfl, by omega, q⟩
  · exact ⟨1, rfl, by omega, q⟩
  · exact ⟨1, rfl, by omega, q⟩
  · exact ⟨1, rfl, by omega, q⟩
  · exact ⟨2, rfl, by omega, q⟩
def b3 (n : Nat) (x y : D) (acc : List (List Key × D)) (_ : D) : M (Fl (List (List Key × D))) := g_l_bit [.p, .v (.int (n : Nat))] >>= fun z => keyL [x, y, z] >>= fun k => thenR (if acc.length < sizeLine ∧ k.length ≤ sizeLine then Pure.pure (.nx (putX acc k (.bl true))) else M.no) fun l => Pure.pure (.nx l)
def b2 (n : Nat) (x : D) (acc : List (List Key × D)) (y : D) : M (Fl (List (List Key × D))) := g_l_pick [.p, .v (.lst [.int 0, .int 1, .int 1, .int 1, .int 2])] >>= fun z => rng1 [.v z] >>= fun ds => thenR (forF (b3 n x y) ds acc) fun l => Pure.pure (.nx l)
def b1 (n : Nat) (s : Str) (acc : List (List Key × D)) (x : D) : M (Fl (List (List Key × D))) := thenR (forF (b2 n x) (chrs s) acc) fun l => Pure.pure (.nx l)
theorem loop3 {s : Str} {n L i c : Nat} {K : Int} (hc : c ∈ cl s) (hi : i < n) (hn : n ≤ 60) (hL : L ≤ 8000) (hK : K < 2 ^ 38) {r : Nat} (hr : r ≤ 2) {acc : List (List Key × D)} {ks : List Lk} {P : Pot} (g : Gat s n L acc ks) (po : PO K P) :
    wp (forF (b3 n (.int (i : Nat)) (.str ⟨#[c]⟩)) ((List.range r).map fun i => .int (i : Nat)) acc) P fun f P' => ∃ acc' ks', f = .nx acc' ∧ Gat s n (L + 2) acc' ks' ∧ PO (K + 2) P' := by
  have w := wp_for (b := b3 n (.int (i : Nat)) (.str ⟨#[c]⟩)) (fun j acc P => ∃ ks, Gat s n (L + j) acc ks ∧ PO (K + (j : Nat)) P) r ((List.range r).map fun i => D.int (i : Nat)) 0 acc P (by simp) ⟨ks, g, by simpa using po⟩ (fun j a P hj d _ ⟨ks, g, po⟩ => by
    unfold b3
    refine wp_bind (wp_mono (bit_n po (by omega) (show 0 < n by omega) (by omega)) fun d P1 ⟨z, e, z1, q⟩ => ?_)
    subst e
    rw [key3, pb, if_pos]
    · refine wp_then (wp_pure ⟨_, rfl, wp_pure ⟨_, rfl, insK ks (i, c, z), ⟨?_, insK_nd g.nd, fun a ha => ?_, ?_⟩, ?_⟩⟩)
      · rw [g.e]; exact put_ent ks (i, c, z)
      · rcases insK_mem.mp ha with y | y
        · exact g.ok a y
        · rw [y]; exact ⟨hi, hc, z1⟩
      · have := insK_len (ks := ks) (a := (i, c, z))
        have := g.l
        omega
      · have : K + ((j + 1 : Nat) : Int) = K + (j : Nat) + 1 := by omega
        rw [this]; exact q
    · have := g.l
      rw [g.e, List.length_map, sizeLine_eq]
      exact ⟨by omega, by show 3 ≤ _; omega⟩)
  refine wp_mono w fun f P' ⟨a', e, ks', g', po'⟩ => ⟨a', ks', e, ⟨g'.e, g'.nd, g'.ok, ?_⟩, po'.mono ?_⟩
  · have := g'.l
    rw [List.length_map, List.length_range] at this
    omega
  · rw [List.length_map, List.length_range]
    omega
theorem loop2 {s : Str} {n L i : Nat} {K : Int} (hi : i < n) (hn : n ≤ 60) (hL : L ≤ 7000) (hK : K < 2 ^ 37) : ∀ (w : List Nat) (j : Nat) (acc : List (List Key × D)) (ks : List Lk) (P : Pot), j + w.length ≤ 4 → (∀ c ∈ w, c ∈ cl s) → Gat s n (L + 2 * j) acc ks → PO (K + 3 * (j : Nat)) P →
    wp (forF (b2 n (.int (i : Nat))) (w.map fun c => .str ⟨#[c]⟩) acc) P fun f P' => ∃ acc' ks', f = .nx acc' ∧ Gat s n (L + 8) acc' ks' ∧ PO (K + 12) P'
  | [], j, acc, ks, P, hj, _, g, po => wp_pure ⟨acc, ks, rfl, ⟨g.e, g.nd, g.ok, by have := g.l; rw [List.length_nil] at hj; omega⟩, po.mono (by rw [List.length_nil] at hj; omega)⟩
  | c :: w, j, acc, ks, P, hj, hc, g, po => by
    rw [List.length_cons] at hj
    rw [List.map_cons]
    unfold forF
    refine wp_bind ?_
    unfold b2
    refine wp_bind (wp_mono (pick5 po (by omega)) fun d P1 ⟨r, e, r2, q⟩ => ?_)
    subst e
    rw [rng_n (show r < 4000 by omega), pb]
    refine wp_then (wp_mono (loop3 (hc c List.mem_cons_self) hi hn (by omega) (by omega) r2 g q) fun f P2 ⟨acc', ks', e, g', po'⟩ => ⟨acc', e, wp_pure ?_⟩)
    refine loop2 hi hn hL hK w (j + 1) acc' ks' P2 (by omega) (fun x hx => hc x (List.mem_cons_of_mem _ hx)) ⟨g'.e, g'.nd, g'.ok, by have := g'.l; omega⟩ (po'.mono (by omega))
theorem loop1 {s : Str} {n : Nat} {K : Int} (hn : n ≤ 60) (hK : K < 2 ^ 36) (h4 : (cl s).length ≤ 4) : ∀ (l : List Nat) (j : Nat) (acc : List (List Key × D)) (ks : List Lk) (P : Pot), j + l.length ≤ n → (∀ i ∈ l, i < n) → Gat s n (8 * j) acc ks → PO (K + 12 * (j : Nat)) P →
    wp (forF (b1 n s) (l.map fun i => .int (i : Nat)) acc) P fun f P' => ∃ acc' ks', f = .nx acc' ∧ Gat s n 480 acc' ks' ∧ PO (K + 720) P'
  | [], j, acc, ks, P, hj, _, g, po => wp_pure ⟨acc, ks, rfl, ⟨g.e, g.nd, g.ok, by have := g.l; rw [List.length_nil] at hj; omega⟩, po.mono (by rw [List.length_nil] at hj; omega)⟩
  | i :: l, j, acc, ks, P, hj, hi, g, po => by
    rw [List.length_cons] at hj
    rw [List.map_cons]
    unfold forF
    refine wp_bind ?_
    unfold b1
    have ech : chrs s = (cl s).map fun c => D.str ⟨#[c]⟩ := rfl
    rw [ech]
    refine wp_then (wp_mono (loop2 (s := s) (L := 8 * j) (K := K + 12 * (j : Nat)) (hi i List.mem_cons_self) hn (by omega) (by omega) (cl s) 0 acc ks P (by omega) (fun c hc => hc) (by simpa using g) (by simpa using po)) fun f P2 ⟨acc', ks', e, g', po'⟩ => ⟨acc', e, wp_pure ?_⟩)
    refine loop1 hn hK h4 l (j + 1) acc' ks' P2 (by omega) (fun x hx => hi x (List.mem_cons_of_mem _ hx)) ⟨g'.e, g'.nd, g'.ok, by have := g'.l; omega⟩ (po'.mono (by omega))
theorem rngL_n {k : Nat} (h : k ≤ 60) : rngL (.int (k : Nat)) = Pure.pure (.lst ((List.range k).map fun i => .int (i : Nat))) := by
  rw [← rngs_nat]
  exact rgL_i (by omega)
where
  rgL_i {j : Int} (h : 0 ≤ j ∧ j ≤ 60) : rngL (.int j) = Pure.pure (.lst (rngs 0 j)) := if_pos (by unfold rngOk; omega)
theorem min1 {z : Nat} : f2 minD [.int 1, .int (z : Nat)] = Pure.pure (.int ((min 1 z : Nat) : Int)) := by
  rw [f2e, min_e]
  congr 2
  by_cases h : z = 0
  · subst h; rfl
  · rw [if_neg (by omega), Nat.min_eq_left (by omega)]; rfl
theorem any_w {k : Int} {P : Pot} {s : Str} {m : Nat} (h : PO k P) (hk : k < 2 ^ 35) (hf : Fine s) (h4 : lettersB (cl s) = true) (hm : 0 < m ∧ m ≤ 60) : wp (g_l_any_reader [.p, .v (.str s), .v (.int (m : Nat))]) P fun d P' => ∃ R : Rd, d = pl R ∧ R.Ok ∧ R.sg = s ∧ R.n ≤ m ∧ R.ls.length < 4000 ∧ PO (k + 2000) P' := by
  show wp (m_l_any_reader _ _) P _
  unfold m_l_any_reader
  have mk5 : mkL [.int 0, .int 1, .int 1, .int 1, .int 2] = Pure.pure (.lst [.int 0, .int 1, .int 1, .int 1, .int 2]) := mkLe (by rw [sizeLine_eq]; show 5 ≤ 16777216; decide)
  simp only [pb, asc, thB, thN, v0, v1, f1e, iter_str, mk5]
  refine wp_bind (wp_mono (bit_n h (by omega) hm.1 (by omega)) fun d P1 ⟨r, e, r1, q⟩ => ?_)
  subst e
  have ad : addD (.int 1) (.int (r : Nat)) = Pure.pure (.int ((1 + r : Nat) : Int)) := add_nn 1 r
  simp only [ad, pb, rng_n (show 1 + r < 4000 by omega)]
  show wp ((thenR (forF (b1 (1 + r) s) ((List.range (1 + r)).map fun i => D.int (i : Nat)) []) _) >>= doneF) P1 _
  have c4 := letters4 h4
  refine wp_bind (wp_then (wp_mono (loop1 (s := s) (n := 1 + r) (K := k + 1) (by omega) (by omega) c4.1 (List.range (1 + r)) 0 [] [] P1 (by rw [List.length_range]; omega) (fun i hi => List.mem_range.mp hi) ⟨rfl, List.nodup_nil, fun a ha => absurd ha List.not_mem_nil, by simp⟩ (by simpa using q)) fun f P2 ⟨acc, ks, e, g, q2⟩ => ⟨acc, e, ?_⟩))
  rw [rngL_n (show 1 + r ≤ 60 by omega), pb]
  have nr : (List.range (1 + r)).Nodup := List.nodup_range
  have lr : (List.range (1 + r)).length = 1 + r := List.length_range
  refine wp_bind (wp_mono (bit_n (k := 9) q2 (by omega) (by decide) (by decide)) fun d P3 ⟨z, e, z1, q3⟩ => ?_)
  subst e
  rw [min1, pb]
  refine wp_bind (wp_mono (some_w (ws := List.range (1 + r)) (l := min 1 z) q3 (by rw [lr]; omega) (by rw [lr]; omega) nr (by rw [lr]; omega)) fun d P4 ⟨hs, e, hA, hK, q4⟩ => ?_)
  subst e
  rw [pb]
  refine wp_bind (wp_mono (bit_n (k := 9) q4 (by rw [lr]; omega) (by decide) (by decide)) fun d P5 ⟨z2, e, z3, q5⟩ => ?_)
  subst e
  rw [min1, pb]
  refine wp_bind (wp_mono (some_w (ws := List.range (1 + r)) (l := min 1 z2) q5 (by rw [lr]; omega) (by rw [lr]; omega) nr (by rw [lr]; omega)) fun d P6 ⟨ts, e, tA, tK, q6⟩ => ?_)
  subst e
  have hk' : ∀ x ∈ hs, x < 1 + r := fun x hx => List.mem_range.mp (hK x hx)
  have tk' : ∀ x ∈ ts, x < 1 + r := fun x hx => List.mem_range.mp (tK x hx)
  have gl := g.l
  obtain ⟨vs, e, p, m2, l2⟩ := told_e (s := s) (n := 1 + r) (hs := hs) (ts := ts) (ks := ks) hA tA (by have := asc_len hA hk'; omega) (by have := asc_len tA tk'; omega) g.nd (by omega)
  rw [gat_lst g, e, pb]
  refine wp_pure ?_
  rw [dR]
  refine wp_pure ⟨⟨s, 1 + r, hs, ts, vs⟩, rfl, ⟨hf, h4, by show 1 ≤ 1 + r; omega, by show 1 + r ≤ 60; omega, hA, hk', tA, tk', p, fun a ha => g.ok a ((m2 a).mp ha), by show vs.length ≤ 9000; omega⟩, rfl, by show 1 + r ≤ m; omega, by show vs.length < 4000; omega, q6.mono ?_⟩
  rw [lr]
  omega
end KX
namespace KX
open PySem PySem.Spec PyProof.Rows L2 DL
def dif (a b : Nat) : Nat := a - (a &&& b)
theorem and_par (a b : Nat) : (a &&& b) % 2 = 1 ↔ a % 2 = 1 ∧ b % 2 = 1 := by
  have t : (a &&& b).testBit 0 = (a.testBit 0 && b.testBit 0) := Nat.testBit_and a b 0
  rw [Nat.testBit_zero, Nat.testBit_zero, Nat.testBit_zero, ← Bool.decide_and] at t
  exact decide_eq_decide.mp t
theorem dif_bit : ∀ (i a b : Nat), (dif a b).testBit i = (a.testBit i && !b.testBit i)
  | 0, a, b => by
    have le : a &&& b ≤ a := Nat.and_le_left
    have t := and_par a b
    unfold dif
    rw [Nat.testBit_zero, Nat.testBit_zero, Nat.testBit_zero, ← decide_not, ← Bool.decide_and]
    generalize a &&& b = c at le t
    exact decide_eq_decide.mpr (by omega)
  | i + 1, a, b => by
    have le : a &&& b ≤ a := Nat.and_le_left
    have e : (a &&& b) / 2 = a / 2 &&& b / 2 := Nat.and_div_two
    have t := and_par a b
    have d : dif a b / 2 = dif (a / 2) (b / 2) := by
      unfold dif
      rw [← e]
      generalize a &&& b = c at le t
      omega
    rw [Nat.testBit_succ, Nat.testBit_succ, Nat.testBit_succ, d]
    exact dif_bit i (a / 2) (b / 2)
theorem dif_le (a b : Nat) : dif a b ≤ a := Nat.sub_le _ _
theorem inv_e (b : Nat) : invD (.int (b : Nat)) = Pure.pure (.int (Builtin.bitNot ((b : Nat) : Int))) := Eq.trans rfl rfl
theorem andn_e (a b : Nat) : andD (.int (a : Nat)) (.int (Builtin.bitNot ((b : Nat) : Int))) = Pure.pure (.int ((dif a b : Nat) : Int)) := by
  show Pure.pure (D.int (Builtin.bitAnd ((a : Nat) : Int) (Builtin.bitNot ((b : Nat) : Int)))) = _
  have n : Builtin.bitNot ((b : Nat) : Int) = -((b : Nat) : Int) - 1 := rfl
  have nn : Builtin.bitNot (Builtin.bitNot ((b : Nat) : Int)) = ((b : Nat) : Int) := by
    show -(-((b : Nat) : Int) - 1) - 1 = _
    omega
  have e : Builtin.bitAnd ((a : Nat) : Int) (Builtin.bitNot ((b : Nat) : Int)) = ((dif a b : Nat) : Int) := by
    unfold Builtin.bitAnd
    rw [decide_eq_true (show (0 : Int) ≤ ((a : Nat) : Int) by omega), decide_eq_false (show ¬ (0 : Int) ≤ Builtin.bitNot ((b : Nat) : Int) by rw [n]; omega)]
    show ((a : Nat) : Int) - (((((a : Nat) : Int).toNat &&& (Builtin.bitNot (Builtin.bitNot ((b : Nat) : Int))).toNat : Nat)) : Int) = _
    rw [nn, Int.toNat_natCast, Int.toNat_natCast]
    have le : a &&& b ≤ a := Nat.and_le_left
    unfold dif
    omega
  rw [e]
theorem bandN (a b : Nat) : andD (.int (a : Nat)) (.int (b : Nat)) = Pure.pure (.int ((a &&& b : Nat) : Int)) := by
  show Pure.pure (D.int (Builtin.bitAnd ((a : Nat) : Int) ((b : Nat) : Int))) = _
  have e : Builtin.bitAnd ((a : Nat) : Int) ((b : Nat) : Int) = ((a &&& b : Nat) : Int) := by
    unfold Builtin.bitAnd
    rw [decide_eq_true (show (0 : Int) ≤ ((a : Nat) : Int) by omega), decide_eq_true (show (0 : Int) ≤ ((b : Nat) : Int) by omega)]
    show (((((a : Nat) : Int).toNat &&& ((b : Nat) : Int).toNat : Nat)) : Int) = _
    rw [Int.toNat_natCast, Int.toNat_natCast]
  rw [e]
end KX
namespace KX
open PySem PySem.Spec PyProof.Rows L2 DL
theorem below_e {m s : Nat} (h : s ≤ 60) : g_below [.v (.int ((m : Nat) : Int)), .v (.int ((s : Nat) : Int))] = Pure.pure (.int ((m &&& (2 ^ s - 1) : Nat) : Int)) := by
  show m_below _ _ = _
  unfold m_below
  have e : ((2 ^ s : Nat) : Int) - 1 = ((2 ^ s - 1 : Nat) : Int) := by
    have := Nat.pow_pos (n := s) (show 0 < 2 by decide)
    omega
  simp only [pb, asc, shl_e h, sub_ii, e, bandN, dR]
abbrev Pr := Nat × Nat
def keyP (p : Pr) : List Key := [.inl ((p.1 : Nat) : Int), .inl ((p.2 : Nat) : Int)]
theorem getD_e {α : Type} (l : List α) (k : Nat) (d : α) (h : k < l.length) : l.getD k d = l[k] := by
  unfold List.getD
  rw [List.getElem?_eq_getElem h]
  rfl
theorem getD_d {α : Type} (l : List α) (k : Nat) (d : α) (h : l.length ≤ k) : l.getD k d = d := by
  unfold List.getD
  rw [List.getElem?_eq_none h]
  rfl
/-- the pair of a state and of what is before it -/
def pairD (p : Pr) : D := .tuk (keyP p)
theorem keyP_inj {p r : Pr} : keyP p = keyP r ↔ p = r := by
  constructor
  · intro h
    injection h with h1 h2
    injection h2 with h2 _
    injection h1 with h1
    injection h2 with h2
    exact Prod.ext (by omega) (by omega)
  · intro h; rw [h]
theorem un_pr (p : Pr) : untuk (pairD p) = .tup [.int ((p.1 : Nat) : Int), .int ((p.2 : Nat) : Int)] := rfl
theorem mk_pr (s e : Nat) : (keyL [.int ((s : Nat) : Int), .int ((e : Nat) : Int)] >>= mkK) = Pure.pure (pairD (s, e)) := by
  show mkK [.inl ((s : Nat) : Int), .inl ((e : Nat) : Int)] = _
  exact if_pos (by show 2 ≤ sizeLine; rw [sizeLine_eq]; omega)
abbrev mD (ms : List Nat) : D := .tup (ms.map fun m => .int ((m : Nat) : Int))
theorem ix_ms {ms : List Nat} {k : Nat} (h : k < ms.length) : ixD (mD ms) (.int ((k : Nat) : Int)) = Pure.pure (.int ((ms.getD k 0 : Nat) : Int)) := by
  have e : atI (ms.map fun m => D.int ((m : Nat) : Int)) ((k : Nat) : Int) = some (.int ((ms.getD k 0 : Nat) : Int)) := by
    unfold atI ixN
    rw [if_pos (by omega), if_pos (by rw [List.length_map]; omega)]
    show (ms.map fun m => D.int ((m : Nat) : Int))[k]? = _
    rw [List.getElem?_map, List.getElem?_eq_getElem h, getD_e _ _ _ h]
    rfl
  show M.some (atI (ms.map fun m => D.int ((m : Nat) : Int)) ((k : Nat) : Int)) = _
  rw [e]; exact Eq.trans rfl rfl
theorem two_e2 (x y : D) (k : D → D → M (Fl (D × D))) : un2 k (.tup [x, y]) = k x y := rfl
/-- where the pairs lead -/
def imP (ms : List Nat) (p : Pr) : Nat := imgF p.2 0 ms 0
def toP (ms : List Nat) (p : Pr) : List Nat := sts (dif (ms.getD p.1 0) (imP ms p)) 60
def ledP (ms : List Nat) (p : Pr) : List Pr := (toP ms p).map fun t => (t, imP ms p ||| (ms.getD p.1 0 &&& (2 ^ t - 1)))
theorem sts_bt {m k : Nat} (h : m < 2 ^ k) (j : Nat) : m.testBit j = decide (j ∈ sts m k) := by
  unfold sts
  rw [Bool.eq_iff_iff, decide_eq_true_iff, List.mem_filter, List.mem_range]
  constructor
  · intro z
    refine ⟨?_, z⟩
    refine Nat.lt_of_not_le fun le => ?_
    rw [Nat.testBit_lt_two_pow (Nat.lt_of_lt_of_le h (Nat.pow_le_pow_right (by decide) le))] at z
    exact nomatch z
  · exact fun z => z.2
theorem led_e {ms : List Nat} {p : Pr} (hp : p.1 < ms.length) (hm : ∀ m ∈ ms, m < 2 ^ 60) : g_led [.v (mD ms), .v (pairD p)] = Pure.pure (.lst ((ledP ms p).map pairD)) := by
  show m_led _ (pairD p) = _
  unfold m_led
  have im : g_image [.v (mD ms), .v (.int ((p.2 : Nat) : Int))] = Pure.pure (.int ((imP ms p : Nat) : Int)) := image_e ms p.2
  have hr : ms.getD p.1 0 < 2 ^ 60 := by
    rw [getD_e _ _ _ hp]
    exact hm _ (List.getElem_mem hp)
  have hd : dif (ms.getD p.1 0) (imP ms p) < 2 ^ 60 := Nat.lt_of_le_of_lt (dif_le _ _) hr
  have st : g_states_of [.v (.int ((dif (ms.getD p.1 0) (imP ms p) : Nat) : Int))] = Pure.pure (tn (toP ms p)) := states_of_e (sts_asc _ _) (sts_bt hd) hd
  simp only [pb, asc, thB, thN, un_pr, two_e2, im, ix_ms hp, inv_e, andn_e, st, iter_tn, v0, v1]
  have len : (toP ms p).length ≤ 60 := by
    unfold toP sts
    exact Nat.le_trans (List.length_filter_le _ _) (by rw [List.length_range]; exact Nat.le_refl _)
  have cp : ∀ l : List Nat, (∀ t ∈ l, t < 60) → compF (fun _ => Pure.pure true) (fun to44 => g_below [.v (.int ((ms.getD p.1 0 : Nat) : Int)), .v to44] >>= fun y => orD (.int ((imP ms p : Nat) : Int)) y >>= fun x => keyL [to44, x] >>= mkK) (l.map fun i => .int ((i : Nat) : Int)) = Pure.pure ((l.map fun t => ((t, imP ms p ||| (ms.getD p.1 0 &&& (2 ^ t - 1))) : Pr)).map pairD) := by
    intro l
    induction l with
    | nil => intro _; rfl
    | cons t l ih =>
      intro h
      rw [List.map_cons]
      unfold compF
      rw [noE, pb, ittr, below_e (Nat.le_of_lt (h t List.mem_cons_self)), pb, or_e, pb, mk_pr, noE, pb, ih fun x hx => h x (List.mem_cons_of_mem _ hx), noE, pb]
      rfl
  rw [cp _ (fun t ht => by unfold toP sts at ht; exact List.mem_range.mp ((List.mem_filter.mp ht).1)), noE, pb, mkLe (by rw [List.length_map, List.length_map, sizeLine_eq]; omega), pb, dR]
  rfl
end KX
namespace KX
open PySem PySem.Spec PyProof.Rows L2 DL
def NmP (l : List Pr) : List (List Key × D) := l.mapIdx fun i p => (keyP p, .int ((i : Nat) : Int))
theorem NmP_len (l : List Pr) : (NmP l).length = l.length := List.length_mapIdx
theorem NmP_snoc (l : List Pr) (p : Pr) : NmP (l ++ [p]) = NmP l ++ [(keyP p, .int ((l.length : Nat) : Int))] := List.mapIdx_concat
theorem NmP_mem {l : List Pr} {kv : List Key × D} (h : kv ∈ NmP l) : ∃ p ∈ l, kv.1 = keyP p := by
  obtain ⟨i, hi, rfl⟩ := List.mem_mapIdx.mp h
  exact ⟨_, List.getElem_mem hi, rfl⟩
theorem NmP_any {l : List Pr} {p : Pr} (h : p ∉ l) : ((NmP l).any fun kv => decide (kv.1 = keyP p)) = false := by
  rw [List.any_eq_false]
  intro kv hk
  obtain ⟨r, hr, e⟩ := NmP_mem hk
  simp only [decide_eq_true_eq]
  intro z
  rw [e] at z
  rw [← keyP_inj.mp z] at h
  exact h hr
theorem put_NmP {l : List Pr} {p : Pr} (h : p ∉ l) : putX (NmP l) (keyP p) (.int ((l.length : Nat) : Int)) = NmP (l ++ [p]) := by
  unfold putX
  rw [NmP_any h, if_neg (by decide), NmP_snoc]
theorem find_no {l : List Pr} {p : Pr} (h : p ∉ l) : (NmP l).find? (fun kv => decide (kv.1 = keyP p)) = none := by
  rw [List.find?_eq_none]
  intro kv hk
  have := List.any_eq_false.mp (NmP_any h) kv hk
  exact this
theorem get_no {l : List Pr} {p : Pr} (h : p ∉ l) : getX (NmP l) (keyP p) = none := by
  unfold getX
  rw [find_no h]
  rfl
/-- the first place of p -/
def ixP (p : Pr) : List Pr → Nat
  | [] => 0
  | r :: l => if r = p then 0 else ixP p l + 1
theorem ix_app {p : Pr} : ∀ {l : List Pr}, p ∈ l → ∀ m : List Pr, ixP p (l ++ m) = ixP p l
  | [], h, _ => absurd h List.not_mem_nil
  | r :: l, h, m => by
    rw [List.cons_append]
    unfold ixP
    by_cases z : r = p
    · rw [if_pos z, if_pos z]
    · rw [if_neg z, if_neg z, ix_app (l := l) (by rcases List.mem_cons.mp h with y | y; exact absurd y.symm z; exact y) m]
theorem ix_new {p : Pr} : ∀ {l : List Pr}, p ∉ l → ixP p (l ++ [p]) = l.length
  | [], _ => if_pos rfl
  | r :: l, h => by
    rw [List.cons_append]
    unfold ixP
    rw [if_neg (fun z => h (by rw [z]; exact List.mem_cons_self)), ix_new (l := l) fun z => h (List.mem_cons_of_mem _ z)]
    rfl
theorem get_NmP : ∀ (n : Nat) {l : List Pr} {p : Pr}, l.length = n → p ∈ l → getX (NmP l) (keyP p) = some (.int ((ixP p l : Nat) : Int))
  | 0, l, p, h, m => by rw [List.eq_nil_of_length_eq_zero h] at m; exact absurd m List.not_mem_nil
  | n + 1, l, p, h, m => by
    obtain ⟨l', r, rfl⟩ : ∃ l' r, l = l' ++ [r] := by
      rcases List.eq_nil_or_concat l with e | ⟨l', r, e⟩
      · rw [e] at h; exact nomatch h
      · exact ⟨l', r, by rw [e, List.concat_eq_append]⟩
    rw [List.length_append] at h
    unfold getX
    rw [NmP_snoc, List.find?_append]
    by_cases z : p ∈ l'
    · have ih := get_NmP n (l := l') (p := p) (by simpa using h) z
      unfold getX at ih
      rw [ix_app z]
      cases e : (NmP l').find? (fun kv => decide (kv.1 = keyP p)) with
      | none => rw [e] at ih; exact nomatch ih
      | some x => rw [e] at ih; exact ih
    · have : p = r := by
        rcases List.mem_append.mp m with y | y
        · exact absurd y z
        · exact List.mem_singleton.mp y
      subst this
      rw [find_no z, Option.none_or, List.find?_cons_of_pos (by simp)]
      rw [ix_new z]
      rfl
theorem puts_go : ∀ (m l : List Pr), (l ++ m).Nodup → putsT l.length (m.map pairD) (NmP l) = some (NmP (l ++ m))
  | [], l, _ => by rw [List.append_nil]; rfl
  | p :: m, l, nd => by
    have np : p ∉ l := fun z => (List.nodup_append.mp nd).2.2 _ z _ List.mem_cons_self rfl
    rw [List.map_cons]
    show putsT (l.length + 1) (m.map pairD) (putX (NmP l) (keyP p) (.int ((l.length : Nat) : Int))) = _
    rw [put_NmP np]
    have := puts_go m (l ++ [p]) (by rw [List.append_assoc]; exact nd)
    rw [List.length_append, List.append_assoc] at this
    exact this
theorem puts_e {l : List Pr} (nd : l.Nodup) (h : l.length < 4000) : putsM (l.map pairD) = Pure.pure (NmP l) := by
  unfold putsM
  have e : putsT 0 (l.map pairD) [] = some (NmP l) := puts_go l [] nd
  rw [e, List.length_map]
  exact if_pos (by rw [sizeLine_eq]; omega)
def orX {α β : Type} (x : Ex) (o : Option β) (Y : β → M α) : M α := match o with
  | some a => Y a
  | none => M.raise x
theorem orS {α β : Type} (x : Ex) (a : β) (Y : β → M α) : orX x (some a) Y = Y a := rfl
theorem orN {α β : Type} (x : Ex) (Y : β → M α) : orX x none Y = M.raise x := rfl
theorem for_ex {α β γ : Type} {b : α → D → M (Fl α)} {x : Ex} (en : β → α) (dc : γ → D) (g : β → γ → Option β) (J : Nat → β → Prop) (N : Nat) : ∀ (ds : List γ) (i : Nat) (a : β), i + ds.length ≤ N → J i a →
    (∀ i a d, i < N → d ∈ ds → J i a → b (en a) (dc d) = (orX x (g a d) fun a' => Pure.pure (.nx (en a'))) ∧ ∀ a', g a d = some a' → J (i + 1) a') →
    forF b (ds.map dc) (en a) = (orX x (ds.foldlM g a) fun a' => Pure.pure (.nx (en a'))) ∧ ∀ a', ds.foldlM g a = some a' → J (i + ds.length) a'
  | [], i, a, _, h, _ => ⟨rfl, fun a' e => by injection e with e; subst e; exact h⟩
  | d :: ds, i, a, hN, h, hb => by
    rw [List.length_cons] at hN
    obtain ⟨e1, j1⟩ := hb i a d (by omega) List.mem_cons_self h
    rw [List.map_cons, List.foldlM_cons]
    unfold forF
    rw [e1]
    cases z : g a d with
    | none => exact ⟨by rw [orN, xb]; rfl, fun a' e => nomatch e⟩
    | some a1 =>
      have ih := for_ex (x := x) en dc g J N ds (i + 1) a1 (by omega) (j1 a1 z) fun i a d l m => hb i a d l (List.mem_cons_of_mem _ m)
      rw [orS, pb]
      refine ⟨ih.1, fun a' e => ?_⟩
      have := ih.2 a' e
      rw [List.length_cons, show i + (ds.length + 1) = i + 1 + ds.length by omega]
      exact this
abbrev St := List Pr × List Lk
def pairP (k c : Nat) (a : St) (p : Pr) : Option St :=
  if p ∈ a.1 then some (a.1, a.2 ++ [(k, c, ixP p a.1)]) else if a.1.length + 1 ≤ 60 then some (a.1 ++ [p], a.2 ++ [(k, c, a.1.length)]) else none
def letP (k : Nat) (a : St) (t : Nat × List Nat) : Option St := (ledP t.2 (a.1.getD k (0, 0))).foldlM (pairP k t.1) a
def metP (tb : List (Nat × List Nat)) : Nat → Nat → St → Option St
  | 0, _, a => some a
  | n + 1, k, a => if k < a.1.length then tb.foldlM (letP k) a >>= metP tb n (k + 1) else some a
def fsP (hs : List Nat) : List Pr := hs.map fun s => (s, msk hs &&& (2 ^ s - 1))
def tbP (R : Rd) : List (Nat × List Nat) := (cl R.sg).map fun c => (c, tabl R.n R.ls c)
def metR (R : Rd) : Option St := metP (tbP R) 61 0 (fsP R.hs, [])
end KX
namespace KX
open PySem PySem.Spec PyProof.Rows L2 DL
abbrev xMany : Ex := ⟨"TooMany", some ("limit", .int 60)⟩
def GoodM (n : Nat) (ms : List Nat) : Prop := ms.length = n ∧ ∀ m ∈ ms, m < 2 ^ n
theorem getD_lt {n : Nat} {ms : List Nat} (h : GoodM n ms) (k : Nat) : ms.getD k 0 < 2 ^ n := by
  by_cases z : k < ms.length
  · rw [getD_e _ _ _ z]
    exact h.2 _ (List.getElem_mem z)
  · rw [getD_d _ _ _ (by omega)]
    exact Nat.pow_pos (by decide)
theorem imP_lt {n : Nat} {ms : List Nat} (h : GoodM n ms) (p : Pr) : imP ms p < 2 ^ n := by
  refine Nat.lt_pow_two_of_testBit _ fun j hj => ?_
  cases z : (imP ms p).testBit j with
  | false => rfl
  | true =>
    rcases (imgF_bit p.2 j ms 0 0).mp z with y | ⟨k, x, h1, _, h3⟩
    · simp at y
    · have := h.2 x (List.mem_of_getElem? h1)
      rw [Nat.testBit_lt_two_pow (Nat.lt_of_lt_of_le this (Nat.pow_le_pow_right (by decide) hj))] at h3
      exact nomatch h3
theorem led_good {n : Nat} {ms : List Nat} (h : GoodM n ms) {p r : Pr} (hr : r ∈ ledP ms p) : r.1 < n ∧ r.2 < 2 ^ n := by
  obtain ⟨t, ht, rfl⟩ := List.mem_map.mp hr
  have hb : (dif (ms.getD p.1 0) (imP ms p)).testBit t = true := (List.mem_filter.mp ht).2
  rw [dif_bit] at hb
  have hb1 : (ms.getD p.1 0).testBit t = true := (Bool.and_eq_true_iff.mp hb).1
  have g := getD_lt h p.1
  refine ⟨?_, Nat.or_lt_two_pow (imP_lt h p) (Nat.lt_of_le_of_lt Nat.and_le_left g)⟩
  show t < n
  refine Nat.lt_of_not_le fun le => ?_
  rw [Nat.testBit_lt_two_pow (Nat.lt_of_lt_of_le g (Nat.pow_le_pow_right (by decide) le))] at hb1
  exact nomatch hb1
theorem led_len (ms : List Nat) (p : Pr) : (ledP ms p).length ≤ 60 := by
  unfold ledP toP sts
  rw [List.length_map]
  exact Nat.le_trans (List.length_filter_le _ _) (by rw [List.length_range]; exact Nat.le_refl _)
/-- what is so all the time -/
structure Inv (n : Nat) (b : Nat) (a : St) : Prop where
  len : a.1.length ≤ 60
  nd : a.1.Nodup
  ok : ∀ p ∈ a.1, p.1 < n ∧ p.2 < 2 ^ n
  al : a.2.length ≤ b
theorem Inv.pair {n b k c : Nat} {a a' : St} {p : Pr} (h : Inv n b a) (hp : p.1 < n ∧ p.2 < 2 ^ n) (e : pairP k c a p = some a') : Inv n (b + 1) a' := by
  unfold pairP at e
  by_cases m : p ∈ a.1
  · rw [if_pos m] at e
    injection e with e
    subst e
    exact ⟨h.len, h.nd, h.ok, by rw [List.length_append]; exact Nat.add_le_add_right h.al 1⟩
  · rw [if_neg m] at e
    by_cases l : a.1.length + 1 ≤ 60
    · rw [if_pos l] at e
      injection e with e
      subst e
      refine ⟨by rw [List.length_append]; exact l, ?_, fun r hr => ?_, by rw [List.length_append]; exact Nat.add_le_add_right h.al 1⟩
      · exact List.nodup_append.mpr ⟨h.nd, List.pairwise_singleton _ _, fun x hx y hy z => m (by rw [← List.mem_singleton.mp hy, ← z]; exact hx)⟩
      · rcases List.mem_append.mp hr with y | y
        · exact h.ok r y
        · rw [List.mem_singleton.mp y]; exact hp
    · rw [if_neg l] at e
      exact nomatch e
theorem pair_le {k c : Nat} {a a' : St} {p : Pr} (e : pairP k c a p = some a') : ∃ m, a'.1 = a.1 ++ m := by
  unfold pairP at e
  by_cases m : p ∈ a.1
  · rw [if_pos m] at e
    injection e with e
    subst e
    exact ⟨[], by simp⟩
  · rw [if_neg m] at e
    by_cases l : a.1.length + 1 ≤ 60
    · rw [if_pos l] at e
      injection e with e
      subst e
      exact ⟨[p], rfl⟩
    · rw [if_neg l] at e
      exact nomatch e
abbrev en (a : St) : List D × List (List Key × D) × List D := (a.1.map pairD, NmP a.1, a.2.map lkD)
theorem gt_60 (k : Nat) : gtD (.int ((k : Nat) : Int)) (.int 60) = Pure.pure (.bl (decide (60 < k))) := by
  rw [gt_int]
  congr 3
  exact propext ⟨fun h => by omega, fun h => by omega⟩
theorem lt_nn (i k : Nat) : ltD (.int ((i : Nat) : Int)) (.int ((k : Nat) : Int)) = Pure.pure (.bl (decide (i < k))) := by
  rw [lt_int]
  congr 3
  exact propext ⟨fun h => by omega, fun h => by omega⟩
theorem ix_found {l : List Pr} {k : Nat} (h : k < l.length) : ixL (l.map pairD) (.int ((k : Nat) : Int)) = Pure.pure (pairD (l.getD k (0, 0))) := by
  have e : atI (l.map pairD) ((k : Nat) : Int) = some (pairD (l.getD k (0, 0))) := by
    unfold atI ixN
    rw [if_pos (by omega), if_pos (by rw [List.length_map]; omega)]
    show (l.map pairD)[k]? = _
    rw [List.getElem?_map, List.getElem?_eq_getElem h, getD_e _ _ _ h]
    rfl
  show M.some (atI (l.map pairD) ((k : Nat) : Int)) = _
  rw [e]; exact Eq.trans rfl rfl
theorem key_q (p : Pr) : keyT (pairD p) = Pure.pure (keyP p) := rfl
theorem tab_good {R : Rd} (h : R.Ok) (c : Nat) : GoodM R.n (tabl R.n R.ls c) := by
  refine ⟨by unfold tabl; simp, fun m hm => ?_⟩
  obtain ⟨i, _, rfl⟩ := List.mem_map.mp hm
  refine Nat.lt_pow_two_of_testBit _ fun j hj => ?_
  cases z : (rowm R.ls c i).testBit j with
  | false => rfl
  | true =>
    have : j < R.n := (h.lK _ ((rowm_bit R.ls c i j).mp z)).j
    omega
theorem fs_inv {R : Rd} (h : R.Ok) : Inv R.n 0 (fsP R.hs, []) where
  len := by
    show (fsP R.hs).length ≤ 60
    unfold fsP
    rw [List.length_map]
    exact Nat.le_trans (asc_len h.hA h.hK) h.n60
  nd := by
    show (fsP R.hs).Nodup
    unfold fsP
    exact List.pairwise_map.mpr (h.hA.imp fun {a b} q z => absurd (Prod.ext_iff.mp z).1 (Nat.ne_of_lt q))
  ok := fun p hp => by
    obtain ⟨s, hs, rfl⟩ := List.mem_map.mp hp
    have sn := h.hK s hs
    refine ⟨sn, ?_⟩
    show msk R.hs &&& (2 ^ s - 1) < 2 ^ R.n
    refine Nat.lt_of_le_of_lt Nat.and_le_right ?_
    exact Nat.lt_of_lt_of_le (Nat.sub_lt (Nat.pow_pos (by decide)) (by decide)) (Nat.pow_le_pow_right (by decide) (Nat.le_of_lt sn))
  al := Nat.le_refl _
theorem fs_e {R : Rd} (h : R.Ok) : compF (fun _ => Pure.pure true) (fun state47 => g_below [.v (.int ((msk R.hs : Nat) : Int)), .v state47] >>= fun x => keyL [state47, x] >>= mkK) (R.hs.map fun i => D.int ((i : Nat) : Int)) = Pure.pure ((fsP R.hs).map pairD) := by
  have go : ∀ l : List Nat, (∀ t ∈ l, t < 60) → compF (fun _ => Pure.pure true) (fun state47 => g_below [.v (.int ((msk R.hs : Nat) : Int)), .v state47] >>= fun x => keyL [state47, x] >>= mkK) (l.map fun i => D.int ((i : Nat) : Int)) = Pure.pure ((l.map fun s => ((s, msk R.hs &&& (2 ^ s - 1)) : Pr)).map pairD) := by
    intro l
    induction l with
    | nil => intro _; rfl
    | cons t l ih =>
      intro hl
      rw [List.map_cons]
      unfold compF
      rw [noE, pb, ittr, below_e (Nat.le_of_lt (hl t List.mem_cons_self)), pb, mk_pr, noE, pb, ih fun x hx => hl x (List.mem_cons_of_mem _ hx), noE, pb]
      rfl
  exact go R.hs fun t ht => Nat.lt_of_lt_of_le (h.hK t ht) h.n60
end KX
namespace KX
open PySem PySem.Spec PyProof.Rows L2 DL
abbrev EN := D × List D × List (List Key × D) × List D
theorem while_met {n : Nat} {tb : List (Nat × List Nat)} {t : EN → M Bool} {b : EN → M (Fl EN)} (ht : ∀ (k : Nat) (a : St), t (.int ((k : Nat) : Int), en a) = Pure.pure (decide (k < a.1.length)))
    (hb : ∀ (k : Nat) (a : St), k < a.1.length → Inv n (k * 240) a → b (.int ((k : Nat) : Int), en a) = (orX xMany (tb.foldlM (letP k) a) fun a' => Pure.pure (.nx (.int ((k + 1 : Nat) : Int), en a'))) ∧ ∀ a', tb.foldlM (letP k) a = some a' → Inv n ((k + 1) * 240) a') :
    ∀ (m k F : Nat) (a : St), 61 ≤ k + m → k ≤ 61 → m < F → Inv n (k * 240) a → ∃ kk : Nat, whileF t b F (.int ((k : Nat) : Int), en a) = (orX xMany (metP tb m k a) fun a' => Pure.pure (.nx (.int ((kk : Nat) : Int), en a'))) ∧ ∀ a', metP tb m k a = some a' → Inv n 14640 a'
  | _, _, 0, _, _, _, h, _ => absurd h (Nat.not_lt_zero _)
  | 0, k, F + 1, a, hk, h61, _, I => by
    have := I.len
    refine ⟨k, ?_, fun a' e => ?_⟩
    · unfold whileF
      rw [ht, decide_eq_false (by omega), pb]
      rfl
    · injection e with e
      subst e
      exact ⟨I.len, I.nd, I.ok, by have := I.al; omega⟩
  | m + 1, k, F + 1, a, hk, h61, hF, I => by
    have l60 := I.len
    by_cases z : k < a.1.length
    · obtain ⟨e, j⟩ := hb k a z I
      unfold whileF metP
      rw [ht, decide_eq_true z, pb, ittr, e, if_pos z]
      cases y : tb.foldlM (letP k) a with
      | none => exact ⟨0, by rw [orN, xb]; rfl, fun a' e => nomatch e⟩
      | some a1 =>
        obtain ⟨kk, e2, j2⟩ := while_met ht hb m (k + 1) F a1 (by omega) (by omega) (by omega) (j a1 y)
        exact ⟨kk, by rw [orS, pb]; exact e2, j2⟩
    · refine ⟨k, ?_, fun a' e => ?_⟩
      · unfold whileF metP
        rw [ht, decide_eq_false z, pb, if_neg z]
        rfl
      · unfold metP at e
        rw [if_neg z] at e
        injection e with e
        subst e
        exact ⟨I.len, I.nd, I.ok, by have := I.al; omega⟩
theorem tup3 (a b c : D) : mkT [a, b, c] = Pure.pure (.tup [a, b, c]) := mkTe (by show 3 ≤ sizeLine; rw [sizeLine_eq]; omega)
theorem tup2 (a b : D) : mkT [a, b] = Pure.pure (.tup [a, b]) := mkTe (by show 2 ≤ sizeLine; rw [sizeLine_eq]; omega)
theorem loop_fin {n : Nat} {tb : List (Nat × List Nat)} {t : EN → M Bool} {b : EN → M (Fl EN)} {a0 : St} {K : EN → M (Fl Unit)} {X : St → D} (hK : ∀ (kk : Nat) (a : St), K (.int ((kk : Nat) : Int), en a) = Pure.pure (.rt (X a))) (I : Inv n 0 a0)
    (ht : ∀ (k : Nat) (a : St), t (.int ((k : Nat) : Int), en a) = Pure.pure (decide (k < a.1.length)))
    (hb : ∀ (k : Nat) (a : St), k < a.1.length → Inv n (k * 240) a → b (.int ((k : Nat) : Int), en a) = (orX xMany (tb.foldlM (letP k) a) fun a' => Pure.pure (.nx (.int ((k + 1 : Nat) : Int), en a'))) ∧ ∀ a', tb.foldlM (letP k) a = some a' → Inv n ((k + 1) * 240) a') :
    (thenR (whileF t b WF (.int 0, en a0)) K >>= doneF) = (orX xMany (metP tb 61 0 a0) fun a => Pure.pure (X a)) ∧ ∀ a, metP tb 61 0 a0 = some a → Inv n 14640 a := by
  obtain ⟨kk, e, i⟩ := while_met ht hb 61 0 WF a0 (by omega) (by omega) (by rw [WF_eq]; decide) I
  refine ⟨?_, i⟩
  have e' : whileF t b WF (.int 0, en a0) = _ := e
  rw [e']
  cases z : metP tb 61 0 a0 with
  | none => rfl
  | some a =>
    show (thenR (Pure.pure (.nx (.int ((kk : Nat) : Int), en a))) K >>= doneF) = Pure.pure (X a)
    rw [thN, hK, pb, dR]
theorem Inv.mono {n b b' : Nat} {a : St} (h : Inv n b a) (k : b ≤ b') : Inv n b' a := ⟨h.len, h.nd, h.ok, Nat.le_trans h.al k⟩
theorem for_go {α β γ δ : Type} {b : α → D → M (Fl α)} {x : Ex} {en : β → α} {dc : γ → D} {g : β → γ → Option β} {ds : List γ} {a : β} {K : α → M (Fl δ)} {Y : β → M (Fl δ)} {G : β → Prop} (J : Nat → β → Prop) (hJ : J 0 a) (hK : ∀ a, K (en a) = Y a) (hG : ∀ a, J ds.length a → G a)
    (hb : ∀ i a d, i < ds.length → d ∈ ds → J i a → b (en a) (dc d) = (orX x (g a d) fun a' => Pure.pure (.nx (en a'))) ∧ ∀ a', g a d = some a' → J (i + 1) a') :
    thenR (forF b (ds.map dc) (en a)) K = (orX x (ds.foldlM g a) fun a' => Y a') ∧ ∀ a', ds.foldlM g a = some a' → G a' := by
  obtain ⟨e, j⟩ := for_ex (x := x) en dc g J ds.length ds 0 a (by omega) hJ hb
  refine ⟨?_, fun a' z => hG a' (by have := j a' z; rwa [Nat.zero_add] at this)⟩
  rw [e]
  cases z : ds.foldlM g a with
  | none => rfl
  | some a' => exact hK a'
theorem some_e (d : D) : M.some (some d) = Pure.pure d := rfl
theorem met_e {R : Rd} (h : R.Ok) : g_met [.v (made R)] = (orX xMany (metR R) fun a => Pure.pure (.tup [.lst (a.1.map pairD), .lst (a.2.map lkD)])) ∧ ∀ a, metR R = some a → Inv R.n 14640 a := by
  have I0 := fs_inv h
  have pf : g_Reader_firsts [.v (made R)] = Pure.pure (tn R.hs) := p_firsts _
  have pl : g_Reader_letters [.v (made R)] = Pure.pure (.str R.sg) := p_letters _
  have mo : g_mask_of [.v (tn R.hs)] = Pure.pure (.int ((msk R.hs : Nat) : Int)) := mask_of_e h.hA fun x hx => Nat.lt_of_lt_of_le (h.hK x hx) h.n60
  have mk : ∀ l : List D, l.length ≤ 200 → mkN l = Pure.pure l := fun l h => mkN_e (by rw [sizeLine_eq]; omega)
  have l0 := I0.len
  have pu := puts_e I0.nd (by omega)
  have ogz : (FSr R).lookup (Str.ofString "onward") = none := look_no (by decide +kernel)
  have og : insG "Reader" "onward" (made R) = Pure.pure () := insG_r R ogz
  have sg : iterA (.str R.sg) = Pure.pure ((tbP R).map fun t => D.str ⟨#[t.1]⟩) := by
    rw [iter_str, chrs_eq]
    unfold tbP
    rw [List.map_map]
    rfl
  have t4 : (tbP R).length ≤ 4 := by
    unfold tbP
    rw [List.length_map]
    exact (letters4 h.lt).1
  show m_met _ = _ ∧ _
  unfold m_met
  simp only [pb, asc, thB, thN, insP_r, pf, pl, noE, mo, iter_tn, v0, v1, og]
  rw [fs_e h, noE, pb, mk _ (by rw [List.length_map]; exact Nat.le_trans l0 (by decide)), pb, pu, pb, mk [] (by show 0 ≤ 200; omega), pb]
  refine loop_fin (n := R.n) (tb := tbP R) (X := fun a => .tup [.lst (a.1.map pairD), .lst (a.2.map lkD)]) (fun kk a => ?_) I0 (fun k a => ?_) fun k a hk I => ?_
  · dsimp only
    rw [tup2, pb]
  · dsimp only
    rw [List.length_map, lt_nn, pb, bB]
  dsimp only
  rw [sg, pb]
  refine for_go (en := en) (dc := fun t : Nat × List Nat => D.str ⟨#[t.1]⟩) (g := letP k) (ds := tbP R) (a := a) (G := fun a => Inv R.n ((k + 1) * 240) a) (fun j a => k < a.1.length ∧ Inv R.n (k * 240 + j * 60) a) ⟨hk, by rw [Nat.zero_mul, Nat.add_zero]; exact I⟩ (fun a => ?_) (fun a j => j.2.mono (by omega)) fun j a0 t jl ht jn => ?_
  · dsimp only
    rw [show addI2 (.int ((k : Nat) : Int)) (.int 1) = Pure.pure (.int ((k + 1 : Nat) : Int)) from rfl, pb]
  obtain ⟨hk, I⟩ := jn
  obtain ⟨c, hc, rfl⟩ := List.mem_map.mp ht
  have on : g_Reader_onward [.v (made R), .v (.str ⟨#[c]⟩)] = Pure.pure (mD (tabl R.n R.ls c)) := m_onward (R := R) hc
  have gm := tab_good h c
  have pk := I.ok (a0.1.getD k (0, 0)) (by rw [getD_e _ _ _ hk]; exact List.getElem_mem hk)
  have le := led_e (ms := tabl R.n R.ls c) (p := a0.1.getD k (0, 0)) (by rw [gm.1]; exact pk.1) fun m hm => Nat.lt_of_lt_of_le (gm.2 m hm) (Nat.pow_le_pow_right (by decide) h.n60)
  dsimp only
  rw [on, pb, ix_found hk, pb, le, pb, iter_lst, pb]
  have k60 := I.len
  refine for_go (en := en) (dc := pairD) (g := pairP k c) (ds := ledP (tabl R.n R.ls c) (a0.1.getD k (0, 0))) (a := a0) (G := fun a => k < a.1.length ∧ Inv R.n (k * 240 + (j + 1) * 60) a) (fun i a => k < a.1.length ∧ Inv R.n (k * 240 + j * 60 + i) a) ⟨hk, I⟩ (fun a => rfl) ?_ fun i a p il hp ji => ?_
  · intro a' z
    have := led_len (tabl R.n R.ls c) (a0.1.getD k (0, 0))
    exact ⟨z.1, z.2.mono (by omega)⟩
  obtain ⟨hk, I⟩ := ji
  have pg := led_good gm hp
  have fl := I.len
  have all := I.al
  have ill := led_len (tabl R.n R.ls c) (a0.1.getD k (0, 0))
  refine ⟨?_, fun a' e => ⟨?_, I.pair pg e⟩⟩
  · dsimp only
    rw [key_q, pb]
    by_cases m : p ∈ a.1
    · have gx := get_NmP _ rfl m
      unfold pairP
      rw [if_pos m, gx, if_neg (fun z => nomatch z), thN, pb]
      dsimp only
      rw [gx, some_e, pb]
      rw [tup3, pb, if_pos (by rw [List.length_map, sizeLine_eq]; omega), thN, orS]
      show Pure.pure (Fl.nx (a.1.map pairD, NmP a.1, a.2.map lkD ++ [lkD (k, c, ixP p a.1)])) = _
      rw [← List.map_singleton (f := lkD), ← List.map_append]
    · have gx := get_no m
      have pn := put_NmP m
      have g2 := get_NmP (l := a.1 ++ [p]) (p := p) _ rfl (List.mem_append_right _ (List.mem_singleton.mpr rfl))
      rw [ix_new m] at g2
      unfold pairP
      rw [if_neg m, gx, if_pos (by decide), pb, if_pos (by rw [NmP_len, sizeLine_eq]; omega), thN, List.length_map, if_pos (by rw [sizeLine_eq]; omega), thN, pn]
      have ap : a.1.map pairD ++ [pairD p] = (a.1 ++ [p]).map pairD := by rw [List.map_append]; rfl
      rw [ap, List.length_map, List.length_append, List.length_singleton, gt_60, pb, bB, pb]
      by_cases l : a.1.length + 1 ≤ 60
      · rw [if_pos l, decide_eq_false (by omega), if_neg (by decide), thN, thN, pb]
        dsimp only
        rw [g2, some_e, pb, tup3, pb, if_pos (by rw [List.length_map, sizeLine_eq]; omega), thN, orS]
        show Pure.pure (Fl.nx ((a.1 ++ [p]).map pairD, NmP (a.1 ++ [p]), a.2.map lkD ++ [lkD (k, c, a.1.length)])) = _
        rw [← List.map_singleton (f := lkD), ← List.map_append]
      · rw [if_neg l, decide_eq_true (by omega), if_pos rfl, orN]
        rfl
  · obtain ⟨m, e⟩ := pair_le e
    rw [e, List.length_append]
    omega
end KX
namespace KX
open PySem PySem.Spec PyProof.Rows L2 DL
def cpD (p : Pr) : D := .tup [.int ((p.1 : Nat) : Int), tn (sts p.2 60)]
theorem two_un {β : Type} (x y : D) (k : D → D → M β) : un2 k (.tup [x, y]) = k x y := rfl
theorem un_list (l : List Pr) : untukL (.lst (l.map pairD)) = .lst (l.map fun p => .tup [.int ((p.1 : Nat) : Int), .int ((p.2 : Nat) : Int)]) := by
  show D.lst ((l.map pairD).map untuk) = _
  rw [List.map_map]
  rfl
theorem careful_e {R : Rd} (h : R.Ok) : g_careful [.v (made R)] = (orX xMany (metR R) fun a => Pure.pure (.tup (a.1.map cpD))) := by
  obtain ⟨me, I⟩ := met_e h
  show m_careful _ = _
  unfold m_careful
  have ck : g_check_reader [.v (made R)] = Pure.pure .non := check_reader_e R
  simp only [pb, asc, thB, thN, ck, me]
  cases e : metR R with
  | none => rw [orN, xb, orN]
  | some a =>
    have i := I a e
    have cp : ∀ l : List Pr, (∀ p ∈ l, p.2 < 2 ^ 60) → compF (un2 fun state66 earlier67 => Pure.pure true) (un2 fun state66 earlier67 => g_states_of [.v earlier67] >>= fun x => mkT [state66, x]) (l.map fun p => D.tup [.int ((p.1 : Nat) : Int), .int ((p.2 : Nat) : Int)]) = Pure.pure (l.map cpD) := by
      intro l
      induction l with
      | nil => intro _; rfl
      | cons p l ih =>
        intro hl
        have st := states_of_e (sts_asc p.2 60) (sts_bt (hl p List.mem_cons_self)) (hl p List.mem_cons_self)
        rw [List.map_cons]
        unfold compF
        rw [two_un, noE, pb, ittr, two_un, st, pb, tup2, noE, pb, ih fun x hx => hl x (List.mem_cons_of_mem _ hx), noE, pb]
        rfl
    have c2 := cp a.1 fun p hp => Nat.lt_of_lt_of_le (i.ok p hp).2 (Nat.pow_le_pow_right (by decide) h.n60)
    have ml : mkL (a.1.map cpD) = Pure.pure (.lst (a.1.map cpD)) := mkLe (by have := i.len; rw [List.length_map, sizeLine_eq]; omega)
    have td : tupleD (.lst (a.1.map cpD)) = Pure.pure (.tup (a.1.map cpD)) := rfl
    simp only [orS, pb, asc, thB, thN, two_un, un_list, iter_lst, v0, v1]
    rw [c2, noE, pb, ml, pb]
    simp only [pb, asc, v0, v1, f1e, td, dR]
def newL (ts : Nat) : Nat → List Pr → List Nat
  | _, [] => []
  | i, p :: l => if ts.testBit p.1 && (ts &&& p.2 == 0) then i :: newL ts (i + 1) l else newL ts (i + 1) l
theorem newL_mem {ts : Nat} : ∀ {l : List Pr} {i x : Nat}, x ∈ newL ts i l → i ≤ x ∧ x < i + l.length
  | [], _, _, h => absurd h List.not_mem_nil
  | p :: l, i, x, h => by
    unfold newL at h
    rw [List.length_cons]
    split at h
    · rcases List.mem_cons.mp h with z | z
      · omega
      · have := newL_mem z; omega
    · have := newL_mem h; omega
theorem newL_asc (ts : Nat) : ∀ (l : List Pr) (i : Nat), Asc (newL ts i l)
  | [], _ => List.Pairwise.nil
  | p :: l, i => by
    unfold newL
    split
    · exact List.Pairwise.cons (fun x hx => by have := newL_mem hx; omega) (newL_asc ts l (i + 1))
    · exact newL_asc ts l (i + 1)
def loneR (R : Rd) (a : St) (vs : List Lk) : Rd := ⟨R.sg, max a.1.length 1, List.range R.hs.length, newL (msk R.ts) 0 a.1, vs⟩
/-- what a reader wants -/
def LnOk (R : Rd) (a : St) : Prop := R.hs.length ≤ max a.1.length 1 ∧ a.2.Nodup ∧ a.2.length ≤ 9000 ∧ ∀ x ∈ a.2, x.1 < a.1.length ∧ x.2.1 ∈ cl R.sg ∧ x.2.2 < a.1.length
theorem tru_ne (m : Nat) : truI (.int ((m : Nat) : Int)) = Pure.pure (!(m == 0)) := by
  show Pure.pure (((m : Nat) : Int) != 0) = _
  congr 1
  rw [Bool.eq_iff_iff]
  simp
theorem lone_e {R : Rd} (h : R.Ok) {a : St} (e : metR R = some a) (k : LnOk R a) : ∃ vs : List Lk, sortD (.lst (a.2.map lkD)) = Pure.pure (.lst (vs.map lkD)) ∧ (loneR R a vs).Ok ∧ g_lone_of [.v (made R)] = Pure.pure (made (loneR R a vs)) := by
  obtain ⟨me, I⟩ := met_e h
  have i := I a e
  rw [e] at me
  obtain ⟨vs, es, ps, mv, ln⟩ := sort_lk k.2.1 k.2.2.1
  have l60 := i.len
  have ok : (loneR R a vs).Ok := {
    fine := h.fine
    lt := h.lt
    n1 := Nat.le_max_right _ _
    n60 := by show max a.1.length 1 ≤ 60; omega
    hA := List.pairwise_lt_range
    hK := fun x hx => Nat.lt_of_lt_of_le (List.mem_range.mp hx) k.1
    tA := newL_asc _ _ _
    tK := fun x hx => by
      have := newL_mem hx
      show x < max a.1.length 1
      omega
    lA := ps
    lK := fun x hx => by
      obtain ⟨z1, z2, z3⟩ := k.2.2.2 x ((mv x).mp hx)
      exact ⟨by show x.1 < max a.1.length 1; omega, z2, by show x.2.2 < max a.1.length 1; omega⟩
    ll := by show vs.length ≤ 9000; rw [ln]; exact k.2.2.1 }
  refine ⟨vs, es, ok, ?_⟩
  show m_lone_of _ = _
  unfold m_lone_of
  have ck : g_check_reader [.v (made R)] = Pure.pure .non := check_reader_e R
  have pf : g_Reader_firsts [.v (made R)] = Pure.pure (tn R.hs) := p_firsts _
  have pz : g_Reader_lasts [.v (made R)] = Pure.pure (tn R.ts) := p_lasts _
  have pl : g_Reader_letters [.v (made R)] = Pure.pure (.str R.sg) := p_letters _
  have mo : g_mask_of [.v (tn R.ts)] = Pure.pure (.int ((msk R.ts : Nat) : Int)) := mask_of_e h.tA fun x hx => Nat.lt_of_lt_of_le (h.tK x hx) h.n60
  have cp : ∀ (l : List Pr) (j : Nat), compF (unN fun at71 state72 earlier73 => ((shrD (.int ((msk R.ts : Nat) : Int)) state72 >>= fun x => andD x (.int 1)) >>= truI) >>= fun x => if x = true then ((andD (.int ((msk R.ts : Nat) : Int)) earlier73 >>= truI) >>= fun b => Pure.pure (!b)) else Pure.pure false) (unN fun at71 state72 earlier73 => Pure.pure at71) ((l.map fun p => D.tup [.int ((p.1 : Nat) : Int), .int ((p.2 : Nat) : Int)]).mapIdx fun i d => .tup [.int ((j + i : Nat) : Int), d]) = Pure.pure ((newL (msk R.ts) j l).map fun i => .int ((i : Nat) : Int)) := by
    intro l
    induction l with
    | nil => intro _; rfl
    | cons p l ih =>
      intro j
      have ih2 := ih (j + 1)
      rw [List.map_cons, List.mapIdx_cons]
      have un : ∀ {β : Type} (k : D → D → D → M β) (x y z : D), unN k (.tup [x, .tup [y, z]]) = k x y z := fun _ _ _ _ => rfl
      unfold compF newL
      rw [un, bit_tst, pb, un]
      have sh : (fun (i : Nat) (d : D) => D.tup [.int ((j + (i + 1) : Nat) : Int), d]) = fun (i : Nat) (d : D) => D.tup [.int ((j + 1 + i : Nat) : Int), d] := by
        funext i d
        rw [show j + (i + 1) = j + 1 + i by omega]
      rw [sh, ih2]
      cases (msk R.ts).testBit p.1 with
      | false =>
        rw [if_neg (fun z => nomatch z), noE, pb, itfa, Bool.false_and, if_neg (fun z => nomatch z)]
      | true =>
        rw [if_pos rfl, bandN, pb, tru_ne, pb, noE, pb, Bool.not_not, Bool.true_and]
        cases (msk R.ts &&& p.2 == 0) with
        | false => rw [itfa, if_neg (fun z => nomatch z)]
        | true => rw [ittr, noE, pb, noE, pb, if_pos rfl, List.map_cons]; rfl
  have cp0 := cp a.1 0
  simp only [Nat.zero_add] at cp0
  simp only [pb, asc, thB, thN, ck, me, orS, two_un, un_list, insP_r, pf, pz, pl, noE, mo, v0, v1, f1e]
  simp only [asc] at cp0
  have en0 : enumD (.lst (a.1.map fun p => D.tup [.int ((p.1 : Nat) : Int), .int ((p.2 : Nat) : Int)])) = Pure.pure ((a.1.map fun p => D.tup [.int ((p.1 : Nat) : Int), .int ((p.2 : Nat) : Int)]).mapIdx fun i d => .tup [.int ((i : Nat) : Int), d]) := rfl
  have nl : (newL (msk R.ts) 0 a.1).length ≤ 60 := Nat.le_trans (asc_len (newL_asc _ _ _) (k := a.1.length) fun x hx => by have := newL_mem hx; omega) l60
  have ml : mkL ((newL (msk R.ts) 0 a.1).map fun i => .int ((i : Nat) : Int)) = Pure.pure (.lst ((newL (msk R.ts) 0 a.1).map fun i => .int ((i : Nat) : Int))) := mkLe (by rw [List.length_map, sizeLine_eq]; omega)
  have hl : R.hs.length ≤ 60 := Nat.le_trans (asc_len h.hA h.hK) h.n60
  have lh : lenD (tn R.hs) = Pure.pure (.int ((R.hs.length : Nat) : Int)) := by
    unfold tn
    rw [len_tup, List.length_map]
  have rt : rngT (.int ((R.hs.length : Nat) : Int)) = Pure.pure (tn (List.range R.hs.length)) := by
    show (if rngOk 0 ((R.hs.length : Nat) : Int) then (Pure.pure (D.tup (rngs 0 ((R.hs.length : Nat) : Int))) : M D) else M.no) = _
    rw [if_pos (by unfold rngOk; omega), rngs_nat]
    rfl
  have lf : lenD (.lst (a.1.map fun p => D.tup [.int ((p.1 : Nat) : Int), .int ((p.2 : Nat) : Int)])) = Pure.pure (.int ((a.1.length : Nat) : Int)) := by rw [len_lst, List.length_map]
  have mx : maxD (.int ((a.1.length : Nat) : Int)) (.int 1) = Pure.pure (.int ((max a.1.length 1 : Nat) : Int)) := by
    rw [max_e]
    congr 2
    split <;> omega
  have td : ∀ l : List D, tupleD (.lst l) = Pure.pure (.tup l) := fun _ => rfl
  have ie : g_Reader_init_d [.v (.str R.sg), .v (.int ((max a.1.length 1 : Nat) : Int)), .v (tn (List.range R.hs.length)), .v (.tup ((newL (msk R.ts) 0 a.1).map fun i => .int ((i : Nat) : Int))), .v (.tup (vs.map lkD))] = Pure.pure (FSr (loneR R a vs)) := init_e ok
  rw [en0, pb, cp0, noE, pb, ml, pb, lh, pb, rt, pb, lf, pb, f2e, mx, pb, td, pb, sortA_l, es, pb, td, pb, ie, pb, dR]
end KX
namespace KX
open PySem PySem.Spec PyProof.Rows L2 DL
/-- states 0 .. n - 1, an arrow from each to the next; f: the first two are first states -/
def lf (n : Nat) (f : Bool) : Rd := ⟨"a", n, if f then [0, 1] else [0], [n - 1], (List.range (n - 1)).map fun i => (i, 97, i + 1)⟩
theorem cl_a : cl (Str.ofString "a") = [97] := by decide +kernel
theorem fine_a : Fine (Str.ofString "a") := ⟨by decide +kernel, fun c hc => by rw [cl_a] at hc; rw [List.mem_singleton.mp hc]; decide⟩
theorem let_a : lettersB (cl (Str.ofString "a")) = true := by decide +kernel
theorem lf_ok {n : Nat} {f : Bool} (h3 : 2 ≤ n) (h60 : n ≤ 60) : (lf n f).Ok where
  fine := fine_a
  lt := let_a
  n1 := by show 1 ≤ n; omega
  n60 := h60
  hA := by cases f <;> simp [lf]
  hK := fun x hx => by
    show x < n
    cases f <;> simp [lf] at hx <;> omega
  tA := List.pairwise_singleton _ _
  tK := fun x hx => by
    show x < n
    have : x = n - 1 := List.mem_singleton.mp hx
    omega
  lA := by
    show ((List.range (n - 1)).map fun i => ((i, 97, i + 1) : Lk)).Pairwise lkLt
    rw [List.pairwise_map]
    exact List.pairwise_lt_range.imp fun {a b} h => .inl h
  lK := fun a ha => by
    obtain ⟨i, hi, rfl⟩ := List.mem_map.mp ha
    have := List.mem_range.mp hi
    exact ⟨by show i < n; omega, by show 97 ∈ cl (Str.ofString "a"); rw [cl_a]; exact List.mem_singleton.mpr rfl, by show i + 1 < n; omega⟩
  ll := by
    show ((List.range (n - 1)).map fun i => ((i, 97, i + 1) : Lk)).length ≤ 9000
    rw [List.length_map, List.length_range]; omega
/-- so many pairs, fit for a reader -/
def tsB (n : Nat) (f : Bool) (m : Nat) : Bool := match metR (lf n f) with
  | some a => (a.1.length == m) && decide ((lf n f).hs.length ≤ max a.1.length 1) && decide (a.2.Nodup) && decide (a.2.length ≤ 9000) && a.2.all fun x => decide (x.1 < a.1.length) && (x.2.1 == 97) && decide (x.2.2 < a.1.length)
  | none => false
theorem tsB_e {n m : Nat} {f : Bool} (h : tsB n f m = true) : ∃ a, metR (lf n f) = some a ∧ a.1.length = m ∧ LnOk (lf n f) a := by
  unfold tsB at h
  cases e : metR (lf n f) with
  | none => rw [e] at h; exact nomatch h
  | some a =>
    rw [e] at h
    simp only [Bool.and_eq_true, List.all_eq_true, beq_iff_eq, decide_eq_true_eq] at h
    obtain ⟨⟨⟨⟨h1, h2⟩, h3⟩, h4⟩, h5⟩ := h
    refine ⟨a, rfl, h1, h2, h3, h4, fun x hx => ?_⟩
    obtain ⟨⟨z1, z2⟩, z3⟩ := h5 x hx
    exact ⟨z1, by show x.2.1 ∈ cl (Str.ofString "a"); rw [cl_a, z2]; exact List.mem_singleton.mpr rfl, z3⟩
abbrev sizes : List Nat := [3, 20, 29, 30, 31, 32, 60]
theorem ts_line : (sizes.all fun n => tsB n false n) = true := by decide +kernel
theorem ts_fork : (sizes.all fun n => if 2 * n - 1 < 61 then tsB n true (2 * n - 1) else (metR (lf n true)).isNone) = true := by decide +kernel
theorem line_ok {n : Nat} (h : n ∈ sizes) : ∃ a, metR (lf n false) = some a ∧ a.1.length = n ∧ LnOk (lf n false) a := tsB_e (List.all_eq_true.mp ts_line n h)
theorem fork_ok {n : Nat} (h : n ∈ sizes) : if 2 * n - 1 < 61 then ∃ a, metR (lf n true) = some a ∧ a.1.length = 2 * n - 1 ∧ LnOk (lf n true) a else metR (lf n true) = none := by
  have z := List.all_eq_true.mp ts_fork n h
  by_cases c : 2 * n - 1 < 61
  · rw [if_pos c]
    rw [if_pos c] at z
    exact tsB_e z
  · rw [if_neg c]
    rw [if_neg c] at z
    exact Option.isNone_iff_eq_none.mp z
theorem sizes_b {n : Nat} (h : n ∈ sizes) : 3 ≤ n ∧ n ≤ 60 := by
  simp only [sizes, List.mem_cons, List.not_mem_nil, or_false] at h
  omega
end KX
namespace KX
open PySem PySem.Spec PyProof.Rows L2 DL
theorem pick_yes {β : Type} {is : Str → Option Bool} {f : Ex → M (Fl β)} {r : List (Hd β)} {e : Ex} (h : is e.c = some true) : pick ((is, f) :: r) e = noEx (f e) := by
  unfold pick
  rw [h]
theorem pick_not {β : Type} {is : Str → Option Bool} {f : Ex → M (Fl β)} {r : List (Hd β)} {e : Ex} (h : is e.c = some false) : pick ((is, f) :: r) e = pick r e := by
  conv => lhs; unfold pick
  rw [h]
abbrev came (m : M D) : M D := lamF "" hs_l_came m
theorem cm_ok (d : D) : came (Pure.pure d) = Pure.pure (.str "") := rfl
theorem cm_ex (e : Ex) : came (M.raise e) = (noEx (pick hs_l_came e) >>= doneF) := rfl
theorem cm_reader : came (M.raise ⟨"InvalidReader", none⟩) = Pure.pure (.str "reader") := by
  rw [cm_ex]
  unfold hs_l_came
  rw [pick_yes (by show is_InvalidReader "InvalidReader" = _; decide +kernel), noE, noE, pb]
  rfl
theorem repr_60 : reprN (.int 60) = Pure.pure (.str "60") := by
  show (if (60 : Int).natAbs.log2 < 1920 then (Pure.pure (D.str (Str.ofString (toString (60 : Int)))) : M D) else M.no) = _
  rw [if_pos (by decide +kernel)]
  have : Str.ofString (toString (60 : Int)) = "60" := by decide +kernel
  rw [this]
theorem cm_many : came (M.raise xMany) = Pure.pure (.str "many 60") := by
  have rp : repN "many " "limit" xMany = Pure.pure (.rt (.str "many 60")) := by
    show (if ("limit" : Str) = "limit" then reprN (.int 60) >>= fun x => addD (.str "many ") x >>= fun r => (Pure.pure (Fl.rt r) : M (Fl Unit)) else M.no) = _
    rw [if_pos rfl, repr_60, pb, add_ss (by rw [sizeLine_eq]; decide +kernel), pb]
    have : ("many " : Str) ++ ("60" : Str) = "many 60" := by decide +kernel
    rw [this]
  rw [cm_ex]
  unfold hs_l_came
  rw [pick_not (by show is_InvalidReader "TooMany" = _; decide +kernel), pick_yes (by show is_TooMany "TooMany" = _; decide +kernel), rp, noE, noE, pb]
  rfl
theorem isC_no {d : D} {n : String} (h : tyN d = some n) : isiC "Reader" d = Pure.pure (.bl false) := by
  unfold isiC isiM
  cases d <;> first | (cases h; rfl) | cases h
def NoR (d : D) : Prop := isiC "Reader" d = Pure.pure (.bl false)
theorem crd_no {d : D} (h : NoR d) : g_check_reader [.v d] = M.raise ⟨"InvalidReader", none⟩ := by
  have h : isiC "Reader" d = Pure.pure (.bl false) := h
  show m_check_reader _ = _
  unfold m_check_reader
  simp only [pb, asc, thB, h, bB, Bool.not_false, if_true, thX, xb]
theorem careful_no {d : D} (h : NoR d) : g_careful [.v d] = M.raise ⟨"InvalidReader", none⟩ := by
  show m_careful _ = _
  unfold m_careful
  simp only [pb, asc, thB, crd_no h, thX, xb]
theorem lone_no {d : D} (h : NoR d) : g_lone_of [.v d] = M.raise ⟨"InvalidReader", none⟩ := by
  show m_lone_of _ = _
  unfold m_lone_of
  simp only [pb, asc, thB, crd_no h, thX, xb]
theorem odd_b {R : Rd} {d : D} (h : d ∈ [D.non, .int 0, .tup [], .str "reader", .tup [.str "ab", .int 1, .tup [], .tup [], .tup []], .lst [.int 1], .dic [], .bl true, pl R]) : NoR d := by
  simp only [List.mem_cons, List.not_mem_nil, or_false] at h
  rcases h with rfl | rfl | rfl | rfl | rfl | rfl | rfl | rfl | rfl
  · exact isC_no (n := "NoneType") rfl
  · exact isC_no (n := "int") rfl
  · exact isC_no (n := "tuple") rfl
  · exact isC_no (n := "str") rfl
  · exact isC_no (n := "tuple") rfl
  · exact isC_no (n := "list") rfl
  · exact isC_no (n := "dict") rfl
  · exact isC_no (n := "bool") rfl
  · exact isC_no (n := "dict") rfl
def dueS (n : Nat) : Str := if 2 * n - 1 < 61 then "" else "many 60"
theorem line_careful {n : Nat} (h : n ∈ sizes) : came (g_careful [.v (made (lf n false))]) = Pure.pure (.str "") := by
  have b := sizes_b h
  obtain ⟨a, e, -⟩ := line_ok h
  rw [careful_e (lf_ok (by omega) b.2), e, orS, cm_ok]
theorem fork_careful {n : Nat} (h : n ∈ sizes) : came (g_careful [.v (made (lf n true))]) = Pure.pure (.str (dueS n)) := by
  have b := sizes_b h
  have f := fork_ok h
  unfold dueS
  rw [careful_e (lf_ok (by omega) b.2)]
  by_cases c : 2 * n - 1 < 61
  · rw [if_pos c] at f
    obtain ⟨a, e, -⟩ := f
    rw [e, orS, cm_ok, if_pos c]
  · rw [if_neg c] at f
    rw [f, orN, cm_many, if_neg c]
theorem fork_lone {n : Nat} (h : n ∈ sizes) : came (g_lone_of [.v (made (lf n true))]) = Pure.pure (.str (dueS n)) := by
  have b := sizes_b h
  have f := fork_ok h
  have ok : (lf n true).Ok := lf_ok (by omega) b.2
  unfold dueS
  by_cases c : 2 * n - 1 < 61
  · rw [if_pos c] at f
    obtain ⟨a, e, -, k⟩ := f
    obtain ⟨vs, -, -, e2⟩ := lone_e ok e k
    rw [e2, cm_ok, if_pos c]
  · rw [if_neg c] at f
    rw [if_neg c]
    have z : g_lone_of [.v (made (lf n true))] = M.raise xMany := by
      have me := (met_e ok).1
      rw [f] at me
      have ck : g_check_reader [.v (made (lf n true))] = Pure.pure .non := check_reader_e _
      show m_lone_of _ = _
      unfold m_lone_of
      simp only [pb, asc, thB, thN, ck, me, orN, xb, thX]
    rw [z, cm_many]
theorem line_lone {n : Nat} (h : n ∈ sizes) : ∃ R' : Rd, R'.Ok ∧ R'.n = n ∧ g_lone_of [.v (made (lf n false))] = Pure.pure (made R') := by
  have b := sizes_b h
  obtain ⟨a, e, l, k⟩ := line_ok h
  obtain ⟨vs, -, ok, e2⟩ := lone_e (lf_ok (by omega) b.2) e k
  exact ⟨_, ok, by show max a.1.length 1 = n; omega, e2⟩
theorem few_e : ∃ ds : List D, ds.length = 59 ∧ g_careful [.v (made (lf 30 true))] = Pure.pure (.tup ds) := by
  have f := fork_ok (n := 30) (by decide)
  obtain ⟨a, e, l, -⟩ := (by rw [if_pos (by decide)] at f; exact f : ∃ a, metR (lf 30 true) = some a ∧ a.1.length = 2 * 30 - 1 ∧ LnOk (lf 30 true) a)
  exact ⟨a.1.map cpD, by rw [List.length_map, l], by rw [careful_e (lf_ok (by decide) (by decide)), e, orS]⟩
end KX
namespace KX
open PySem PySem.Spec PyProof.Rows L2 DL
theorem eqD_self {d : D} {p : PyData} (h : toPy d = some p) (s : SeqAt.shaped p = true) : eqD d d = Pure.pure (.bl true) := by
  unfold eqD
  rw [h]
  show (if SeqAt.shaped p = true ∧ SeqAt.shaped p = true then Pure.pure (D.bl (PyData.eqv p p)) else M.no) = _
  rw [if_pos ⟨s, s⟩, SeqAt.eqv_refl _ (SeqAt.canLay_of_shaped s)]
theorem neD_self {d : D} {p : PyData} (h : toPy d = some p) (s : SeqAt.shaped p = true) : neD d d = Pure.pure (.bl false) := by
  unfold neD
  rw [h]
  show (if SeqAt.shaped p = true ∧ SeqAt.shaped p = true then Pure.pure (D.bl (!PyData.eqv p p)) else M.no) = _
  rw [if_pos ⟨s, s⟩, SeqAt.eqv_refl _ (SeqAt.canLay_of_shaped s)]
  rfl
theorem canAll_strs : ∀ l : List Str, (∀ x ∈ l, PyData.canLay0 (.str x) = true) → PyData.canLayAll0 (l.map PyData.str) = true ∧ PyData.depthAll (l.map PyData.str) = 0 ∧ toPys (l.map D.str) = some (l.map PyData.str)
  | [], _ => ⟨rfl, rfl, rfl⟩
  | x :: l, h => by
    obtain ⟨a, b, c⟩ := canAll_strs l fun y hy => h y (List.mem_cons_of_mem _ hy)
    refine ⟨?_, ?_, ?_⟩
    · show (PyData.canLay0 (.str x) && PyData.canLayAll0 (l.map PyData.str)) = true
      rw [h x List.mem_cons_self, a]
      rfl
    · show max 0 (PyData.depthAll (l.map PyData.str)) = 0
      rw [b]
      rfl
    · show (match toPy (.str x), toPys (l.map D.str) with | some x, some y => some (x :: y) | _, _ => none) = _
      rw [c]
      rfl
theorem strs_sh {l : List Str} (h : ∀ x ∈ l, PyData.canLay0 (.str x) = true) : toPy (.lst (l.map D.str)) = some (.list (l.map PyData.str)) ∧ SeqAt.shaped (.list (l.map PyData.str)) = true := by
  obtain ⟨a, b, c⟩ := canAll_strs l h
  refine ⟨by show (toPys _).map _ = _; rw [c]; rfl, ?_⟩
  unfold SeqAt.shaped
  have d1 : PyData.canLay0 (.list (l.map PyData.str)) = true := a
  have d3 : PyData.depth (.list (l.map PyData.str)) ≤ 1 := by show PyData.depthAll _ + 1 ≤ 1; omega
  rw [d1, Bool.true_and]
  exact decide_eq_true (Nat.le_trans d3 (by decide))
theorem ne_strs {l : List Str} (h : ∀ x ∈ l, PyData.canLay0 (.str x) = true) : neD (.lst (l.map D.str)) (.lst (l.map D.str)) = Pure.pure (.bl false) := neD_self (strs_sh h).1 (strs_sh h).2
theorem eq_strs {l : List Str} (h : ∀ x ∈ l, PyData.canLay0 (.str x) = true) : eqD (.lst (l.map D.str)) (.lst (l.map D.str)) = Pure.pure (.bl true) := eqD_self (strs_sh h).1 (strs_sh h).2
theorem mulD_l {xs : List D} {k : Int} (h1 : -(2 ^ 63) ≤ k) (h2 : k < 2 ^ 63) (h3 : xs.length * k.toNat ≤ sizeLine) : mulD (.lst xs) (.int k) = Pure.pure (.lst (List.replicate k.toNat xs).flatten) := if_pos ⟨h1, h2, h3⟩
theorem rep_fl (x : D) : ∀ k : Nat, (List.replicate k [x]).flatten = List.replicate k x
  | 0 => rfl
  | k + 1 => by rw [List.replicate_succ, List.flatten_cons, rep_fl x k]; rfl
theorem rep_l (x : D) (k : Nat) (h : k ≤ 100) : mulD (.lst [x]) (.int (k : Nat)) = Pure.pure (.lst (List.replicate k x)) := by
  rw [mulD_l (by omega) (by omega) (by rw [sizeLine_eq]; show 1 * k ≤ _; omega), Int.toNat_natCast, rep_fl]
theorem untuk_s (x : Str) : untuk (.str x) = .str x := rfl
theorem a_eq : (Str.ofString "a") = ⟨#[97]⟩ := str_ext (by rw [cl_a])
theorem links_e {m : Nat} : compF (fun _ => Pure.pure true) (fun l_spot => addD l_spot (.int 1) >>= fun x => mkT [l_spot, .str "a", x]) ((List.range m).map fun i => D.int ((i : Nat) : Int)) = Pure.pure (((List.range m).map fun i => ((i, 97, i + 1) : Lk)).map lkD) := by
  have := comp_all (e := fun l_spot => addD l_spot (.int 1) >>= fun x => mkT [l_spot, .str "a", x]) (fun d => match d with | .int i => lkD (i.toNat, 97, i.toNat + 1) | d => d) ((List.range m).map fun i => D.int ((i : Nat) : Int)) fun d hd => by
    obtain ⟨i, _, rfl⟩ := List.mem_map.mp hd
    rw [add_ii, pb, tup3]
    show Pure.pure (D.tup [.int ((i : Nat) : Int), .str (Str.ofString "a"), .int (((i : Nat) : Int) + 1)]) = Pure.pure (D.tup [.int (((((i : Nat) : Int)).toNat : Nat) : Int), .str ⟨#[97]⟩, .int (((((i : Nat) : Int)).toNat + 1 : Nat) : Int)])
    rw [a_eq, Int.toNat_natCast]
    rfl
  rw [this, List.map_map, List.map_map]
  rfl
theorem ab_fine : Fine (Str.ofString "ab") := ⟨by decide +kernel, fun c hc => by
  have e : cl (Str.ofString "ab") = [97, 98] := by decide +kernel
  rw [e] at hc
  simp at hc
  omega⟩
theorem ab_let : lettersB (cl (Str.ofString "ab")) = true := by decide +kernel
theorem lay_e {x : Str} (h : x ∈ ["", "reader", "many 60"].map Str.ofString) : PyData.canLay0 (.str x) = true := by
  simp only [List.map_cons, List.map_nil, List.mem_cons, List.not_mem_nil, or_false] at h
  rcases h with rfl | rfl | rfl <;> decide +kernel
/-- the readers as they are told -/
theorem made_lf {n : Nat} {f : Bool} (h2 : 2 ≤ n) (h60 : n ≤ 60) : g_Reader_init_d [.v (.str "a"), .v (.int ((n : Nat) : Int)), .v (if f then .tup [.int 0, .int 1] else .tup [.int 0]), .v (.tup [.int ((n - 1 : Nat) : Int)]), .v (.tup (((List.range (n - 1)).map fun i => ((i, 97, i + 1) : Lk)).map lkD))] = Pure.pure (FSr (lf n f)) := by
  have := init_e (lf_ok (f := f) h2 h60)
  cases f <;> exact this
theorem wp_withPotE {α : Type} {ds : List D} {m : M α} {Q : α → Pot → Prop} (h : wp m (some ds) fun f P' => P' ≠ none ∧ Q f none) : wp (withPotE ds m) none Q := by
  obtain ⟨a, P', e, n, q⟩ := h
  cases P' with
  | none => exact absurd rfl n
  | some ps => exact ⟨a, none, by unfold withPotE; rw [e], q⟩
theorem right_w {k : Int} {P : Pot} (po : PO k P) (hk : k < 2 ^ 34) : wp (g_l_right [.p]) P fun d P' => d = .bl true ∧ PO (k + 2010) P' := by
  have ml : ∀ ds : List D, ds.length ≤ 20 → mkL ds = Pure.pure (.lst ds) := fun ds q => mkLe (by rw [sizeLine_eq]; omega)
  have mt : ∀ ds : List D, ds.length ≤ 20 → mkT ds = Pure.pure (.tup ds) := fun ds q => mkTe (by rw [sizeLine_eq]; omega)
  have l1 : ∀ a : D, mkL [a] = Pure.pure (.lst [a]) := fun a => ml _ (by show 1 ≤ 20; decide)
  have l3 : ∀ a b c : D, mkL [a, b, c] = Pure.pure (.lst [a, b, c]) := fun a b c => ml _ (by show 3 ≤ 20; decide)
  have l7 : ∀ a b c d e f g : D, mkL [a, b, c, d, e, f, g] = Pure.pure (.lst [a, b, c, d, e, f, g]) := fun a b c d e f g => ml _ (by show 7 ≤ 20; decide)
  have l9 : ∀ a b c d e f g h i : D, mkL [a, b, c, d, e, f, g, h, i] = Pure.pure (.lst [a, b, c, d, e, f, g, h, i]) := fun a b c d e f g h i => ml _ (by show 9 ≤ 20; decide)
  have t0 : mkT [] = Pure.pure (.tup []) := mt _ (Nat.zero_le _)
  have t1 : ∀ a : D, mkT [a] = Pure.pure (.tup [a]) := fun a => mt _ (by show 1 ≤ 20; decide)
  have t5 : ∀ a b c d e : D, mkT [a, b, c, d, e] = Pure.pure (.tup [a, b, c, d, e]) := fun a b c d e => mt _ (by show 5 ≤ 20; decide)
  show wp m_l_right P _
  unfold m_l_right
  simp only [pb, asc, thB, thN, v0, v1, t0, t1, t5, l1]
  refine wp_bind (wp_mono (any_w (s := "ab") (m := 2) po (by omega) ab_fine ab_let (by decide)) fun d P1 ⟨R, e, h, rs, rn, hl, q1⟩ => ?_)
  subst e
  simp only [pb, asc, thB, thN, v0, v1, l9]
  refine wp_bind (wp_mono (pick_w q1 (by omega) (by show 0 < 9; decide) (by show 9 < 4000; decide)) fun od P2 ⟨hod, q2⟩ => ?_)
  have ob := odd_b hod
  clear hod
  have mn : ∀ a : D, mkN [a] = Pure.pure [a] := fun a => if_pos (by rw [sizeLine_eq]; show 1 ≤ _; decide)
  have x1 := cm_reader
  have r2 : mulD (.lst [.str "reader"]) (.int 2) = Pure.pure (.lst (List.replicate 2 (.str "reader"))) := rep_l (.str "reader") 2 (by decide)
  have e2 : neD (.lst [.str "reader", .str "reader"]) (.lst (List.replicate 2 (.str "reader"))) = Pure.pure (.bl false) := by
    have := ne_strs (l := List.replicate 2 (Str.ofString "reader")) fun y hy => by rw [(List.mem_replicate.mp hy).2]; exact lay_e (by decide)
    exact this
  unfold came at x1
  simp only [pb, asc, thB, thN, v0, v1, careful_no ob, lone_no ob, x1, mn, r2, l1, l7, bB, sizeLine_eq, List.length_cons, List.length_nil, List.length_append, Nat.reduceAdd, Nat.reduceLT, if_true, Bool.false_eq_true, if_false, List.cons_append, List.nil_append, List.map_cons, List.map_nil, untuk_s, e2]
  refine wp_bind (wp_mono (pick_w q2 (by omega) (by show 0 < 7; decide) (by show 7 < 4000; decide)) fun mu P3 ⟨hmu, q3⟩ => ?_)
  obtain ⟨n, hn, rfl⟩ : ∃ n ∈ sizes, mu = .int ((n : Nat) : Int) := by
    simp only [List.mem_cons, List.not_mem_nil, or_false] at hmu
    rcases hmu with rfl | rfl | rfl | rfl | rfl | rfl | rfl
    · exact ⟨3, by decide, rfl⟩
    · exact ⟨20, by decide, rfl⟩
    · exact ⟨29, by decide, rfl⟩
    · exact ⟨30, by decide, rfl⟩
    · exact ⟨31, by decide, rfl⟩
    · exact ⟨32, by decide, rfl⟩
    · exact ⟨60, by decide, rfl⟩
  clear hmu
  have b := sizes_b hn
  have s1 : subD (.int ((n : Nat) : Int)) (.int 1) = Pure.pure (.int ((n - 1 : Nat) : Int)) := by rw [sub_ii]; congr 2; omega
  have rn1 : rng1 [.v (.int ((n - 1 : Nat) : Int))] = Pure.pure ((List.range (n - 1)).map fun i => D.int ((i : Nat) : Int)) := rng_n (by omega)
  have lk := links_e (m := n - 1)
  have ml' : mkL ((((List.range (n - 1)).map fun i => ((i, 97, i + 1) : Lk))).map lkD) = Pure.pure (.lst ((((List.range (n - 1)).map fun i => ((i, 97, i + 1) : Lk))).map lkD)) := mkLe (by rw [List.length_map, List.length_map, List.length_range, sizeLine_eq]; omega)
  have t2 : ∀ a b : D, mkT [a, b] = Pure.pure (.tup [a, b]) := fun a b => mt _ (by show 2 ≤ 20; decide)
  have td : ∀ l : List D, tupleD (.lst l) = Pure.pure (.tup l) := fun _ => rfl
  have i1 := made_lf (n := n) (f := false) (by omega) b.2
  have i2 := made_lf (n := n) (f := true) (by omega) b.2
  rw [if_neg (fun z => nomatch z)] at i1
  rw [if_pos rfl] at i2
  simp only [pb, asc, thB, thN, v0, v1, s1, rn1, lk, noE, ml', t1, t2, td, f1e, i1, i2]
  have m2 : mulD (.int 2) (.int ((n : Nat) : Int)) = Pure.pure (.int (2 * ((n : Nat) : Int))) := mul_ok (small_mul (m := 2) (n := 6) (by decide) (by omega) (by decide))
  have du : (if decide (2 * ((n : Nat) : Int) - 1 < 61) = true then (Pure.pure (D.str "") : M D) else Pure.pure (.str "many 60")) = Pure.pure (.str (dueS n)) := by
    unfold dueS
    by_cases c : 2 * n - 1 < 61
    · rw [if_pos c, if_pos (decide_eq_true (by omega))]
    · rw [if_neg c, decide_eq_false (by omega), if_neg (fun z => nomatch z)]
  have c1 := line_careful hn
  have c2 := fork_lone hn
  have c3 := fork_careful hn
  unfold came at c1 c2 c3
  obtain ⟨R', ok', n', c4⟩ := line_lone hn
  have du2 : dueS n = "" ∨ dueS n = "many 60" := by unfold dueS; split; exact .inl rfl; exact .inr rfl
  have ld : PyData.canLay0 (.str (dueS n)) = true := by rcases du2 with z | z <;> rw [z] <;> exact lay_e (by decide)
  have eq3 : eqD (.lst [.str "", .str (dueS n), .str (dueS n)]) (.lst [.str "", .str (dueS n), .str (dueS n)]) = Pure.pure (.bl true) := by
    have := eq_strs (l := ["", dueS n, dueS n]) fun y hy => by
      simp only [List.mem_cons, List.not_mem_nil, or_false] at hy
      rcases hy with rfl | rfl | rfl
      · exact lay_e (by decide)
      · exact ld
      · exact ld
    exact this
  have lr := len_r ok'
  rw [f1e, n'] at lr
  have en : eqD (.int ((n : Nat) : Int)) (.int ((n : Nat) : Int)) = Pure.pure (.bl true) := by rw [eq_int]; simp
  rw [m2, pb, sub_ii, pb, lt_int, pb, bB, pb, du, pb, c1, pb, c2, pb, c3, pb, l3, pb, eq3, pb, bB, pb, if_pos rfl, c4, pb, lr, pb, en, pb, dR]
  exact wp_pure ⟨rfl, q3.mono (by omega)⟩
theorem math (ns : List Int) (h1 : ns.length ≤ 63) (h2 : ∀ z ∈ ns, Builtin.Int.intBits z ≤ 1048576) : g_law [.v (.scr ns)] none = .ok (.bl true) none := by
  suffices h : wp (m_law (.scr ns)) none fun d P => d = .bl true ∧ P = none by
    obtain ⟨d, P, e, rfl, rfl⟩ := h
    exact e
  unfold m_law
  simp only [pb, asc, thB, thN, v0, v1, f1e, f2e, len_scr, min_e, max_e]
  generalize hN : (if (if ((ns.length : Nat) : Int) < 8 then ((ns.length : Nat) : Int) else 8) > 1 then (if ((ns.length : Nat) : Int) < 8 then ((ns.length : Nat) : Int) else 8) else 1) = N
  have N0 : 1 ≤ N ∧ N ≤ 8 := by rw [← hN]; split <;> split <;> omega
  rw [rng_e ⟨by omega, by omega⟩, pb]
  refine wp_bind (wp_then (wp_mono (wp_for (fun _ _ P => P = none) (rngs 0 N).length (rngs 0 N) 0 () none (by omega) rfl fun i a P hi d hd hI => ?_) fun f P' ⟨a', e, q⟩ => ⟨a', e, ?_⟩))
  · subst hI
    obtain ⟨j, hj, rfl⟩ := List.mem_map.mp hd
    have hj2 : (0 : Int) ≤ 0 + (j : Nat) ∧ (0 : Int) + (j : Nat) < 8 := by
      have := List.mem_range.mp hj
      omega
    generalize hat : (0 : Int) + (j : Nat) = at' at hj2
    obtain ⟨pa, px, pe, ha, hx⟩ := pot_e (ns := ns) hj2.1 (by omega)
    rw [pe, pb]
    refine wp_bind (wp_withPotE ?_)
    have p0 : PO 0 (some [.int pa, .int px, .int 0]) := ⟨pa, px, 0, rfl, ha, hx, Int.le_refl _, Int.le_refl _⟩
    refine wp_mono (right_w p0 (by omega)) fun r P5 ⟨er, q5⟩ => ?_
    subst er
    refine ⟨by obtain ⟨_, _, _, e, _⟩ := q5; rw [e]; exact (fun z => nomatch z), ?_⟩
    simp only [bB, pb, asc, thB, thN, Bool.not_true, Bool.false_eq_true, if_false]
    exact wp_pure ⟨(), rfl, rfl⟩
  · subst q
    have mt : ∀ ds : List D, ds.length ≤ 20 → mkT ds = Pure.pure (.tup ds) := fun ds q => mkTe (by rw [sizeLine_eq]; omega)
    have l2 : ∀ a b : D, mkL [a, b] = Pure.pure (.lst [a, b]) := fun a b => mkLe (by show 2 ≤ sizeLine; rw [sizeLine_eq]; omega)
    have t1 : ∀ a : D, mkT [a] = Pure.pure (.tup [a]) := fun a => mt _ (by show 1 ≤ 20; decide)
    have t2 : ∀ a b : D, mkT [a, b] = Pure.pure (.tup [a, b]) := fun a b => mt _ (by show 2 ≤ 20; decide)
    have td : ∀ l : List D, tupleD (.lst l) = Pure.pure (.tup l) := fun _ => rfl
    have r29 : rng1 [.v (.int 29)] = Pure.pure ((List.range 29).map fun i => D.int ((i : Nat) : Int)) := rng_n (k := 29) (by decide)
    have r30 : rng1 [.v (.int 30)] = Pure.pure ((List.range 30).map fun i => D.int ((i : Nat) : Int)) := rng_n (k := 30) (by decide)
    have k29 := links_e (m := 29)
    have k30 := links_e (m := 30)
    have ml' : ∀ m, m ≤ 60 → mkL ((((List.range m).map fun i => ((i, 97, i + 1) : Lk))).map lkD) = Pure.pure (.lst ((((List.range m).map fun i => ((i, 97, i + 1) : Lk))).map lkD)) := fun m hm => mkLe (by rw [List.length_map, List.length_map, List.length_range, sizeLine_eq]; omega)
    have i1 : g_Reader_init_d [.v (.str "a"), .v (.int 30), .v (.tup [.int 0, .int 1]), .v (.tup [.int 29]), .v (.tup (((List.range 29).map fun i => ((i, 97, i + 1) : Lk)).map lkD))] = Pure.pure (FSr (lf 30 true)) := made_lf (n := 30) (f := true) (by decide) (by decide)
    have i2 : g_Reader_init_d [.v (.str "a"), .v (.int 31), .v (.tup [.int 0, .int 1]), .v (.tup [.int 30]), .v (.tup (((List.range 30).map fun i => ((i, 97, i + 1) : Lk)).map lkD))] = Pure.pure (FSr (lf 31 true)) := made_lf (n := 31) (f := true) (by decide) (by decide)
    obtain ⟨ds, dl, ce⟩ := few_e
    have ld : lenD (.tup ds) = Pure.pure (.int 59) := by rw [len_tup, dl]; rfl
    have cm := fork_careful (n := 31) (by decide)
    have d31 : dueS 31 = "many 60" := if_neg (by decide)
    rw [d31] at cm
    unfold came at cm
    have eqz : eqD (.lst [.int 59, .str "many 60"]) (.lst [.int 59, .str "many 60"]) = Pure.pure (.bl true) := eqD_self (p := .list [.int 59, .str "many 60"]) rfl (by decide +kernel)
    rw [t2, pb, t1, pb, r29, pb, k29, noE, pb, ml' 29 (by decide), pb, td, pb, i1, pb, pb, t1, pb, r30, pb, k30, noE, pb, ml' 30 (by decide), pb, td, pb, i2, pb, ce, pb, ld, pb, cm, pb, l2, pb, pb, eqz, pb]
    refine wp_pure ?_
    rw [dR]
    exact wp_pure ⟨rfl, rfl⟩
end KX
namespace KX
open PySem PySem.Spec PyProof.Rows L2 DL
noncomputable section
set_option maxHeartbeats 0 in
theorem all_mk {K : PySem.W.Frag} {w : World} {h : Heap} {mg : Str → Option Value} {fa : Addr} (X : K.In h) (G : h.Ns mainGlobals mg) (hfa : mg "law" = some (.ref fa))
    {Y_Reader f0 f1 f2 f3 f4 f5 f6 f7 f8 f9 f10 f11 f12 f13 f14 f15 p15 f16 p16 f17 p17 f18 f19 f20 f21 f22 f23 f24 f25 f26 f27 f28 f29 f30 f31 f32 f33 f34 fL_l_came cc_l_right P_l_right cc_law P_law C0 C1 fX1 C2 C3 fX3 : Addr} {od0 an0 od1 an1 od2 an2 od3 an3 od4 an4 od5 an5 od6 an6 od7 an7 od8 an8 od9 an9 od10 an10 od11 an11 od12 an12 od13 an13 od14 an14 od15 an15 od16 an16 od17 an17 od18 an18 od19 an19 od20 an20 od21 an21 od22 an22 od23 an23 od24 an24 od25 an25 od26 an26 od27 an27 od28 an28 od29 an29 od30 an30 od31 an31 od32 an32 od33 an33 od34 an34 odL_l_came anL_l_came odX1 anX1 odX3 anX3 : Option Addr} {sl0 sl1 sl2 sl3 sl4 sl5 sl6 sl7 sl8 sl9 sl10 sl11 sl12 sl13 sl14 sl15 sl16 sl17 sl18 sl19 sl20 sl21 sl22 sl23 sl24 sl25 sl26 sl27 sl28 sl29 sl30 sl31 sl32 sl33 sl34 slL_l_came slX1 slX3 : Array (Option Value)} {oc0 kV0 dc0 pm0 cd0 ct0 oc1 kV1 dc1 pm1 cd1 ct1 oc2 kV2 dc2 pm2 cd2 ct2 oc3 kV3 dc3 pm3 cd3 ct3 oc4 kV4 dc4 pm4 cd4 ct4 oc5 kV5 dc5 pm5 cd5 ct5 oc6 kV6 dc6 pm6 cd6 ct6 oc7 kV7 dc7 pm7 cd7 ct7 oc8 kV8 dc8 pm8 cd8 ct8 oc9 kV9 dc9 pm9 cd9 ct9 oc10 kV10 dc10 pm10 cd10 ct10 oc11 kV11 dc11 pm11 cd11 ct11 oc12 kV12 dc12 pm12 cd12 ct12 oc13 kV13 dc13 pm13 cd13 ct13 oc14 kV14 dc14 pm14 cd14 ct14 oc15 kV15 dc15 pm15 cd15 ct15 oc16 kV16 dc16 pm16 cd16 ct16 oc17 kV17 dc17 pm17 cd17 ct17 oc18 kV18 dc18 pm18 cd18 ct18 oc19 kV19 dc19 pm19 cd19 ct19 oc20 kV20 dc20 pm20 cd20 ct20 oc21 kV21 dc21 pm21 cd21 ct21 oc22 kV22 dc22 pm22 cd22 ct22 oc23 kV23 dc23 pm23 cd23 ct23 oc24 kV24 dc24 pm24 cd24 ct24 oc25 kV25 dc25 pm25 cd25 ct25 oc26 kV26 dc26 pm26 cd26 ct26 oc27 kV27 dc27 pm27 cd27 ct27 oc28 kV28 dc28 pm28 cd28 ct28 oc29 kV29 dc29 pm29 cd29 ct29 oc30 kV30 dc30 pm30 cd30 ct30 oc31 kV31 dc31 pm31 cd31 ct31 oc32 kV32 dc32 pm32 cd32 ct32 oc33 kV33 dc33 pm33 cd33 ct33 oc34 kV34 dc34 pm34 cd34 ct34 ocL_l_came kVL_l_came dcL_l_came pmL_l_came cdL_l_came ctL_l_came ocX1 dcX1 pmX1 cdX1 ctX1 ocX3 dcX3 pmX3 cdX3 ctX3 : Value} {tk_MAX_DIGITS tk_MAX_STATES tk_MAX_ALPHABET : Tok} {rs15 rs16 rs17 : List Value}
    (ya_Reader : PySem.W.nsIn K mainGlobals "Reader" = some (some (.ref Y_Reader)))
    (yp_Reader : PySem.W.plainGet K Y_Reader Str.empty = true)
    (yh_Reader : PySem.W.hasDictIn K Y_Reader = true)
    (yo_Reader : PySem.W.plainOver K Y_Reader = true)
    (ys_Reader : PySem.W.findIn K (.ref Y_Reader) "__setattr__" = some (some (.builtin "object.__setattr__")))
    (yc_Reader : PySem.W.findIn K (.ref Y_Reader) "__class__" = some (some (.builtin "object.__class__")))
    (yg_Reader : PySem.W.specialIn K (.builtin "object.__class__") "__get__" = some (some (.builtin "getset_descriptor.__get__")))
    (yt_Reader : PySem.W.takesIn K (.builtin "object.__class__") = some true)
    (ym_Reader : PySem.W.mroIn K Y_Reader (.type "object") = some true)
    (yi_Reader : PySem.W.isClsIn K Y_Reader = true)
    (yy_Reader : PySem.W.typeIn K (.ref Y_Reader) = some (.type "type"))
    (yk_Reader : PySem.W.keepIn K (.ref Y_Reader) = true)
    (yf_Reader_arrows : PySem.W.findIn K (.ref Y_Reader) "_arrows" = some none)
    (yf_Reader_backward : PySem.W.findIn K (.ref Y_Reader) "_backward" = some none)
    (yf_Reader_firsts : PySem.W.findIn K (.ref Y_Reader) "_firsts" = some none)
    (yf_Reader_lasts : PySem.W.findIn K (.ref Y_Reader) "_lasts" = some none)
    (yf_Reader_letters : PySem.W.findIn K (.ref Y_Reader) "_letters" = some none)
    (yf_Reader_onward : PySem.W.findIn K (.ref Y_Reader) "_onward" = some none)
    (yf_Reader_states : PySem.W.findIn K (.ref Y_Reader) "_states" = some none)
    (a0 : PySem.W.nsIn K mainGlobals "mask_of" = some (some (.ref f0)))
    (l0 : K.lookup f0 = some ⟨oc0, od0, .func (PySem.W.fnOf "mask_of" "mask_of" (defArgs s_mask_of) (defBody s_mask_of) (defScope s_mask_of) .none kV0 dc0 pm0 an0 cd0 ct0), sl0⟩)
    (c0 : PySem.W.codeIn K cd0 "mask_of" = true)
    (k0 : PySem.W.keepIn K (.ref f0) = true)
    (a1 : PySem.W.nsIn K mainGlobals "states_of" = some (some (.ref f1)))
    (l1 : K.lookup f1 = some ⟨oc1, od1, .func (PySem.W.fnOf "states_of" "states_of" (defArgs s_states_of) (defBody s_states_of) (defScope s_states_of) .none kV1 dc1 pm1 an1 cd1 ct1), sl1⟩)
    (c1 : PySem.W.codeIn K cd1 "states_of" = true)
    (k1 : PySem.W.keepIn K (.ref f1) = true)
    (a2 : PySem.W.nsIn K mainGlobals "image" = some (some (.ref f2)))
    (l2 : K.lookup f2 = some ⟨oc2, od2, .func (PySem.W.fnOf "image" "image" (defArgs s_image) (defBody s_image) (defScope s_image) .none kV2 dc2 pm2 an2 cd2 ct2), sl2⟩)
    (c2 : PySem.W.codeIn K cd2 "image" = true)
    (k2 : PySem.W.keepIn K (.ref f2) = true)
    (a3 : PySem.W.nsIn K mainGlobals "table_of" = some (some (.ref f3)))
    (l3 : K.lookup f3 = some ⟨oc3, od3, .func (PySem.W.fnOf "table_of" "table_of" (defArgs s_table_of) (defBody s_table_of) (defScope s_table_of) .none kV3 dc3 pm3 an3 cd3 ct3), sl3⟩)
    (c3 : PySem.W.codeIn K cd3 "table_of" = true)
    (k3 : PySem.W.keepIn K (.ref f3) = true)
    (a4 : PySem.W.nsIn K mainGlobals "is_integer" = some (some (.ref f4)))
    (l4 : K.lookup f4 = some ⟨oc4, od4, .func (PySem.W.fnOf "is_integer" "is_integer" (defArgs s_is_integer) (defBody s_is_integer) (defScope s_is_integer) .none kV4 dc4 pm4 an4 cd4 ct4), sl4⟩)
    (c4 : PySem.W.codeIn K cd4 "is_integer" = true)
    (k4 : PySem.W.keepIn K (.ref f4) = true)
    (a5 : PySem.W.nsIn K mainGlobals "is_plain" = some (some (.ref f5)))
    (l5 : K.lookup f5 = some ⟨oc5, od5, .func (PySem.W.fnOf "is_plain" "is_plain" (defArgs s_is_plain) (defBody s_is_plain) (defScope s_is_plain) .none kV5 dc5 pm5 an5 cd5 ct5), sl5⟩)
    (c5 : PySem.W.codeIn K cd5 "is_plain" = true)
    (k5 : PySem.W.keepIn K (.ref f5) = true)
    (a6 : PySem.W.nsIn K mainGlobals "is_ascending" = some (some (.ref f6)))
    (l6 : K.lookup f6 = some ⟨oc6, od6, .func (PySem.W.fnOf "is_ascending" "is_ascending" (defArgs s_is_ascending) (defBody s_is_ascending) (defScope s_is_ascending) .none kV6 dc6 pm6 an6 cd6 ct6), sl6⟩)
    (c6 : PySem.W.codeIn K cd6 "is_ascending" = true)
    (k6 : PySem.W.keepIn K (.ref f6) = true)
    (a7 : PySem.W.nsIn K mainGlobals "is_letters" = some (some (.ref f7)))
    (l7 : K.lookup f7 = some ⟨oc7, od7, .func (PySem.W.fnOf "is_letters" "is_letters" (defArgs s_is_letters) (defBody s_is_letters) (defScope s_is_letters) .none kV7 dc7 pm7 an7 cd7 ct7), sl7⟩)
    (c7 : PySem.W.codeIn K cd7 "is_letters" = true)
    (k7 : PySem.W.keepIn K (.ref f7) = true)
    (a8 : PySem.W.nsIn K mainGlobals "is_letter" = some (some (.ref f8)))
    (l8 : K.lookup f8 = some ⟨oc8, od8, .func (PySem.W.fnOf "is_letter" "is_letter" (defArgs s_is_letter) (defBody s_is_letter) (defScope s_is_letter) .none kV8 dc8 pm8 an8 cd8 ct8), sl8⟩)
    (c8 : PySem.W.codeIn K cd8 "is_letter" = true)
    (k8 : PySem.W.keepIn K (.ref f8) = true)
    (a9 : PySem.W.nsIn K mainGlobals "check_letters" = some (some (.ref f9)))
    (l9 : K.lookup f9 = some ⟨oc9, od9, .func (PySem.W.fnOf "check_letters" "check_letters" (defArgs s_check_letters) (defBody s_check_letters) (defScope s_check_letters) .none kV9 dc9 pm9 an9 cd9 ct9), sl9⟩)
    (c9 : PySem.W.codeIn K cd9 "check_letters" = true)
    (k9 : PySem.W.keepIn K (.ref f9) = true)
    (a10 : PySem.W.nsIn K mainGlobals "is_state" = some (some (.ref f10)))
    (l10 : K.lookup f10 = some ⟨oc10, od10, .func (PySem.W.fnOf "is_state" "is_state" (defArgs s_is_state) (defBody s_is_state) (defScope s_is_state) .none kV10 dc10 pm10 an10 cd10 ct10), sl10⟩)
    (c10 : PySem.W.codeIn K cd10 "is_state" = true)
    (k10 : PySem.W.keepIn K (.ref f10) = true)
    (a11 : PySem.W.nsIn K mainGlobals "_is_arrow" = some (some (.ref f11)))
    (l11 : K.lookup f11 = some ⟨oc11, od11, .func (PySem.W.fnOf "_is_arrow" "_is_arrow" (defArgs s_is_arrow) (defBody s_is_arrow) (defScope s_is_arrow) .none kV11 dc11 pm11 an11 cd11 ct11), sl11⟩)
    (c11 : PySem.W.codeIn K cd11 "_is_arrow" = true)
    (k11 : PySem.W.keepIn K (.ref f11) = true)
    (a12 : PySem.W.nsIn K mainGlobals "_is_arrow_set" = some (some (.ref f12)))
    (l12 : K.lookup f12 = some ⟨oc12, od12, .func (PySem.W.fnOf "_is_arrow_set" "_is_arrow_set" (defArgs s_is_arrow_set) (defBody s_is_arrow_set) (defScope s_is_arrow_set) .none kV12 dc12 pm12 an12 cd12 ct12), sl12⟩)
    (c12 : PySem.W.codeIn K cd12 "_is_arrow_set" = true)
    (k12 : PySem.W.keepIn K (.ref f12) = true)
    (a13 : PySem.W.nsIn K mainGlobals "is_state_set" = some (some (.ref f13)))
    (l13 : K.lookup f13 = some ⟨oc13, od13, .func (PySem.W.fnOf "is_state_set" "is_state_set" (defArgs s_is_state_set) (defBody s_is_state_set) (defScope s_is_state_set) .none kV13 dc13 pm13 an13 cd13 ct13), sl13⟩)
    (c13 : PySem.W.codeIn K cd13 "is_state_set" = true)
    (k13 : PySem.W.keepIn K (.ref f13) = true)
    (a14 : PySem.W.findIn K (.ref Y_Reader) "__init__" = some (some (.ref f14)))
    (l14 : K.lookup f14 = some ⟨oc14, od14, .func (PySem.W.fnOf "__init__" "Reader.__init__" (defArgs s_Reader_init_d) (defBody s_Reader_init_d) (defScope s_Reader_init_d) .none kV14 dc14 pm14 an14 cd14 ct14), sl14⟩)
    (c14 : PySem.W.codeIn K cd14 "Reader.__init__" = true)
    (k14 : PySem.W.keepIn K (.ref f14) = true)
    (is14 : PySem.W.isFn K (.ref f14) = true)
    (mk14 : PySem.W.makesIn K Y_Reader = true)
    (a15 : PySem.W.findIn K (.ref Y_Reader) "letters" = some (some (.ref p15)))
    (pg15 : PySem.W.specialIn K (.ref p15) "__get__" = some (some (.builtin "property.__get__")))
    (pt15 : PySem.W.takesIn K (.ref p15) = some true)
    (pr15 : PySem.W.recIn K p15 "property" = some (.ref f15 :: rs15))
    (l15 : K.lookup f15 = some ⟨oc15, od15, .func (PySem.W.fnOf "letters" "Reader.letters" (defArgs s_Reader_letters) (defBody s_Reader_letters) (defScope s_Reader_letters) .none kV15 dc15 pm15 an15 cd15 ct15), sl15⟩)
    (c15 : PySem.W.codeIn K cd15 "Reader.letters" = true)
    (k15 : PySem.W.keepIn K (.ref f15) = true)
    (a16 : PySem.W.findIn K (.ref Y_Reader) "firsts" = some (some (.ref p16)))
    (pg16 : PySem.W.specialIn K (.ref p16) "__get__" = some (some (.builtin "property.__get__")))
    (pt16 : PySem.W.takesIn K (.ref p16) = some true)
    (pr16 : PySem.W.recIn K p16 "property" = some (.ref f16 :: rs16))
    (l16 : K.lookup f16 = some ⟨oc16, od16, .func (PySem.W.fnOf "firsts" "Reader.firsts" (defArgs s_Reader_firsts) (defBody s_Reader_firsts) (defScope s_Reader_firsts) .none kV16 dc16 pm16 an16 cd16 ct16), sl16⟩)
    (c16 : PySem.W.codeIn K cd16 "Reader.firsts" = true)
    (k16 : PySem.W.keepIn K (.ref f16) = true)
    (a17 : PySem.W.findIn K (.ref Y_Reader) "lasts" = some (some (.ref p17)))
    (pg17 : PySem.W.specialIn K (.ref p17) "__get__" = some (some (.builtin "property.__get__")))
    (pt17 : PySem.W.takesIn K (.ref p17) = some true)
    (pr17 : PySem.W.recIn K p17 "property" = some (.ref f17 :: rs17))
    (l17 : K.lookup f17 = some ⟨oc17, od17, .func (PySem.W.fnOf "lasts" "Reader.lasts" (defArgs s_Reader_lasts) (defBody s_Reader_lasts) (defScope s_Reader_lasts) .none kV17 dc17 pm17 an17 cd17 ct17), sl17⟩)
    (c17 : PySem.W.codeIn K cd17 "Reader.lasts" = true)
    (k17 : PySem.W.keepIn K (.ref f17) = true)
    (a18 : PySem.W.findIn K (.ref Y_Reader) "onward" = some (some (.ref f18)))
    (l18 : K.lookup f18 = some ⟨oc18, od18, .func (PySem.W.fnOf "onward" "Reader.onward" (defArgs s_Reader_onward) (defBody s_Reader_onward) (defScope s_Reader_onward) .none kV18 dc18 pm18 an18 cd18 ct18), sl18⟩)
    (c18 : PySem.W.codeIn K cd18 "Reader.onward" = true)
    (k18 : PySem.W.keepIn K (.ref f18) = true)
    (is18 : PySem.W.isFn K (.ref f18) = true)
    (fn18 : PySem.W.fnIn K f18 = true)
    (a19 : PySem.W.findIn K (.ref Y_Reader) "__len__" = some (some (.ref f19)))
    (l19 : K.lookup f19 = some ⟨oc19, od19, .func (PySem.W.fnOf "__len__" "Reader.__len__" (defArgs s_Reader_len_d) (defBody s_Reader_len_d) (defScope s_Reader_len_d) .none kV19 dc19 pm19 an19 cd19 ct19), sl19⟩)
    (c19 : PySem.W.codeIn K cd19 "Reader.__len__" = true)
    (k19 : PySem.W.keepIn K (.ref f19) = true)
    (is19 : PySem.W.isFn K (.ref f19) = true)
    (fn19 : PySem.W.fnIn K f19 = true)
    (a20 : PySem.W.nsIn K mainGlobals "check_reader" = some (some (.ref f20)))
    (l20 : K.lookup f20 = some ⟨oc20, od20, .func (PySem.W.fnOf "check_reader" "check_reader" (defArgs s_check_reader) (defBody s_check_reader) (defScope s_check_reader) .none kV20 dc20 pm20 an20 cd20 ct20), sl20⟩)
    (c20 : PySem.W.codeIn K cd20 "check_reader" = true)
    (k20 : PySem.W.keepIn K (.ref f20) = true)
    (a21 : PySem.W.nsIn K mainGlobals "_below" = some (some (.ref f21)))
    (l21 : K.lookup f21 = some ⟨oc21, od21, .func (PySem.W.fnOf "_below" "_below" (defArgs s_below) (defBody s_below) (defScope s_below) .none kV21 dc21 pm21 an21 cd21 ct21), sl21⟩)
    (c21 : PySem.W.codeIn K cd21 "_below" = true)
    (k21 : PySem.W.keepIn K (.ref f21) = true)
    (a22 : PySem.W.nsIn K mainGlobals "_led" = some (some (.ref f22)))
    (l22 : K.lookup f22 = some ⟨oc22, od22, .func (PySem.W.fnOf "_led" "_led" (defArgs s_led) (defBody s_led) (defScope s_led) .none kV22 dc22 pm22 an22 cd22 ct22), sl22⟩)
    (c22 : PySem.W.codeIn K cd22 "_led" = true)
    (k22 : PySem.W.keepIn K (.ref f22) = true)
    (a23 : PySem.W.nsIn K mainGlobals "_met" = some (some (.ref f23)))
    (l23 : K.lookup f23 = some ⟨oc23, od23, .func (PySem.W.fnOf "_met" "_met" (defArgs s_met) (defBody s_met) (defScope s_met) .none kV23 dc23 pm23 an23 cd23 ct23), sl23⟩)
    (c23 : PySem.W.codeIn K cd23 "_met" = true)
    (k23 : PySem.W.keepIn K (.ref f23) = true)
    (a24 : PySem.W.nsIn K mainGlobals "careful" = some (some (.ref f24)))
    (l24 : K.lookup f24 = some ⟨oc24, od24, .func (PySem.W.fnOf "careful" "careful" (defArgs s_careful) (defBody s_careful) (defScope s_careful) .none kV24 dc24 pm24 an24 cd24 ct24), sl24⟩)
    (c24 : PySem.W.codeIn K cd24 "careful" = true)
    (k24 : PySem.W.keepIn K (.ref f24) = true)
    (a25 : PySem.W.nsIn K mainGlobals "lone_of" = some (some (.ref f25)))
    (l25 : K.lookup f25 = some ⟨oc25, od25, .func (PySem.W.fnOf "lone_of" "lone_of" (defArgs s_lone_of) (defBody s_lone_of) (defScope s_lone_of) .none kV25 dc25 pm25 an25 cd25 ct25), sl25⟩)
    (c25 : PySem.W.codeIn K cd25 "lone_of" = true)
    (k25 : PySem.W.keepIn K (.ref f25) = true)
    (a26 : PySem.W.nsIn K mainGlobals "_law_pot" = some (some (.ref f26)))
    (l26 : K.lookup f26 = some ⟨oc26, od26, .func (PySem.W.fnOf "_law_pot" "_law_pot" (defArgs s_l_pot) (defBody s_l_pot) (defScope s_l_pot) .none kV26 dc26 pm26 an26 cd26 ct26), sl26⟩)
    (c26 : PySem.W.codeIn K cd26 "_law_pot" = true)
    (k26 : PySem.W.keepIn K (.ref f26) = true)
    (a27 : PySem.W.nsIn K mainGlobals "_law_bit" = some (some (.ref f27)))
    (l27 : K.lookup f27 = some ⟨oc27, od27, .func (PySem.W.fnOf "_law_bit" "_law_bit" (defArgs s_l_bit) (defBody s_l_bit) (defScope s_l_bit) .none kV27 dc27 pm27 an27 cd27 ct27), sl27⟩)
    (c27 : PySem.W.codeIn K cd27 "_law_bit" = true)
    (k27 : PySem.W.keepIn K (.ref f27) = true)
    (a28 : PySem.W.nsIn K mainGlobals "_law_pick" = some (some (.ref f28)))
    (l28 : K.lookup f28 = some ⟨oc28, od28, .func (PySem.W.fnOf "_law_pick" "_law_pick" (defArgs s_l_pick) (defBody s_l_pick) (defScope s_l_pick) .none kV28 dc28 pm28 an28 cd28 ct28), sl28⟩)
    (c28 : PySem.W.codeIn K cd28 "_law_pick" = true)
    (k28 : PySem.W.keepIn K (.ref f28) = true)
    (a29 : PySem.W.nsIn K mainGlobals "_law_dealt" = some (some (.ref f29)))
    (l29 : K.lookup f29 = some ⟨oc29, od29, .func (PySem.W.fnOf "_law_dealt" "_law_dealt" (defArgs s_l_dealt) (defBody s_l_dealt) (defScope s_l_dealt) .none kV29 dc29 pm29 an29 cd29 ct29), sl29⟩)
    (c29 : PySem.W.codeIn K cd29 "_law_dealt" = true)
    (k29 : PySem.W.keepIn K (.ref f29) = true)
    (a30 : PySem.W.nsIn K mainGlobals "_law_some_of" = some (some (.ref f30)))
    (l30 : K.lookup f30 = some ⟨oc30, od30, .func (PySem.W.fnOf "_law_some_of" "_law_some_of" (defArgs s_l_some_of) (defBody s_l_some_of) (defScope s_l_some_of) .none kV30 dc30 pm30 an30 cd30 ct30), sl30⟩)
    (c30 : PySem.W.codeIn K cd30 "_law_some_of" = true)
    (k30 : PySem.W.keepIn K (.ref f30) = true)
    (a31 : PySem.W.nsIn K mainGlobals "_law_told_reader" = some (some (.ref f31)))
    (l31 : K.lookup f31 = some ⟨oc31, od31, .func (PySem.W.fnOf "_law_told_reader" "_law_told_reader" (defArgs s_l_told_reader) (defBody s_l_told_reader) (defScope s_l_told_reader) .none kV31 dc31 pm31 an31 cd31 ct31), sl31⟩)
    (c31 : PySem.W.codeIn K cd31 "_law_told_reader" = true)
    (k31 : PySem.W.keepIn K (.ref f31) = true)
    (a32 : PySem.W.nsIn K mainGlobals "_law_any_reader" = some (some (.ref f32)))
    (l32 : K.lookup f32 = some ⟨oc32, od32, .func (PySem.W.fnOf "_law_any_reader" "_law_any_reader" (defArgs s_l_any_reader) (defBody s_l_any_reader) (defScope s_l_any_reader) .none kV32 dc32 pm32 an32 cd32 ct32), sl32⟩)
    (c32 : PySem.W.codeIn K cd32 "_law_any_reader" = true)
    (k32 : PySem.W.keepIn K (.ref f32) = true)
    (a33 : PySem.W.nsIn K mainGlobals "_law_right" = some (some (.ref f33)))
    (l33 : K.lookup f33 = some ⟨oc33, od33, .func (PySem.W.fnOf "_law_right" "_law_right" (defArgs s_l_right) (defBody s_l_right) (defScope s_l_right) .none kV33 dc33 pm33 an33 cd33 ct33), sl33⟩)
    (c33 : PySem.W.codeIn K cd33 "_law_right" = true)
    (k33 : PySem.W.keepIn K (.ref f33) = true)
    (a34 : PySem.W.nsIn K mainGlobals "law" = some (some (.ref f34)))
    (l34 : K.lookup f34 = some ⟨oc34, od34, .func (PySem.W.fnOf "law" "law" (defArgs s_law) (defBody s_law) (defScope s_law) .none kV34 dc34 pm34 an34 cd34 ct34), sl34⟩)
    (c34 : PySem.W.codeIn K cd34 "law" = true)
    (k34 : PySem.W.keepIn K (.ref f34) = true)
    (z_abs : PySem.W.nsIn K mainGlobals "abs" = some (none))
    (z_all : PySem.W.nsIn K mainGlobals "all" = some (none))
    (z_bool : PySem.W.nsIn K mainGlobals "bool" = some (none))
    (z_enumerate : PySem.W.nsIn K mainGlobals "enumerate" = some (none))
    (z_int : PySem.W.nsIn K mainGlobals "int" = some (none))
    (z_isinstance : PySem.W.nsIn K mainGlobals "isinstance" = some (none))
    (z_len : PySem.W.nsIn K mainGlobals "len" = some (none))
    (z_list : PySem.W.nsIn K mainGlobals "list" = some (none))
    (z_max : PySem.W.nsIn K mainGlobals "max" = some (none))
    (z_min : PySem.W.nsIn K mainGlobals "min" = some (none))
    (z_range : PySem.W.nsIn K mainGlobals "range" = some (none))
    (z_repr : PySem.W.nsIn K mainGlobals "repr" = some (none))
    (z_sorted : PySem.W.nsIn K mainGlobals "sorted" = some (none))
    (z_str : PySem.W.nsIn K mainGlobals "str" = some (none))
    (z_sum : PySem.W.nsIn K mainGlobals "sum" = some (none))
    (z_tuple : PySem.W.nsIn K mainGlobals "tuple" = some (none))
    (z_zip : PySem.W.nsIn K mainGlobals "zip" = some (none))
    (aL_l_came : PySem.W.nsIn K mainGlobals "_law_came" = some (some (.ref fL_l_came)))
    (lL_l_came : K.lookup fL_l_came = some ⟨ocL_l_came, odL_l_came, .func (PySem.W.fnOf "_law_came" "_law_came" (defArgs s_l_came) (defBody s_l_came) (defScope s_l_came) .none kVL_l_came dcL_l_came pmL_l_came anL_l_came cdL_l_came ctL_l_came), slL_l_came⟩)
    (cL_l_came : PySem.W.codeIn K cdL_l_came "_law_came" = true)
    (kL_l_came : PySem.W.keepIn K (.ref fL_l_came) = true)
    (t_l_right : PySem.W.tabIn K "_law_right" = some (cc_l_right, P_l_right))
    (u_l_right : K.lookup P_l_right = none)
    (t_law : PySem.W.tabIn K "law" = some (cc_law, P_law))
    (u_law : K.lookup P_law = none)
    (ne_law_l_right : (P_law == P_l_right) = false)
    (v_MAX_DIGITS : PySem.W.nsIn K mainGlobals "MAX_DIGITS" = some (some (.int 200 tk_MAX_DIGITS)))
    (v_MAX_STATES : PySem.W.nsIn K mainGlobals "MAX_STATES" = some (some (.int 60 tk_MAX_STATES)))
    (v_MAX_ALPHABET : PySem.W.nsIn K mainGlobals "_MAX_ALPHABET" = some (some (.int 4 tk_MAX_ALPHABET)))
    (xa0 : PySem.W.nsIn K mainGlobals "InvalidLetters" = some (some (.ref C0)))
    (xs0 : PySem.W.subIn K (.ref C0) (.type "BaseException") = some true)
    (xt0 : PySem.W.typeIn K (.ref C0) = some (.type "type"))
    (xh0 : PySem.W.hasDictIn K C0 = true)
    (xq0 : PySem.W.excIn K C0 [.type "ValueError", .type "Exception", .type "BaseException", .type "object"] "ValueError.__new__" = true)
    (xk0 : PySem.W.keepIn K (.ref C0) = true)
    (xa1 : PySem.W.nsIn K mainGlobals "InvalidNumber" = some (some (.ref C1)))
    (xs1 : PySem.W.subIn K (.ref C1) (.type "BaseException") = some true)
    (xt1 : PySem.W.typeIn K (.ref C1) = some (.type "type"))
    (xh1 : PySem.W.hasDictIn K C1 = true)
    (xk1 : PySem.W.keepIn K (.ref C1) = true)
    (xq1 : PySem.W.excInitIn K C1 [.type "IndexError", .type "LookupError", .type "Exception", .type "BaseException", .type "object"] "IndexError.__new__" = true)
    (xo1 : PySem.W.excOver K C1 [.type "IndexError", .type "LookupError", .type "Exception", .type "BaseException", .type "object"] = true)
    (xr1 : PySem.W.takerIn K C1 "value" = some none)
    (xf1 : PySem.W.findIn K (.ref C1) "__setattr__" = some (some (.builtin "object.__setattr__")))
    (xg1 : PySem.W.findIn K (.ref C1) "__getattribute__" = some (some (.builtin "BaseException.__getattribute__")))
    (xd1 : PySem.W.findIn K (.ref C1) "__getattr__" = some none)
    (xn1 : PySem.W.findIn K (.ref C1) "value" = some none)
    (xi1 : PySem.W.findIn K (.ref C1) "__init__" = some (some (.ref fX1)))
    (xy1 : PySem.W.typeIn K (.ref fX1) = some (.type "function"))
    (xl1 : K.lookup fX1 = some ⟨ocX1, odX1, .func (PySem.W.fnOf "__init__" "InvalidNumber.__init__" (defArgs s_X_InvalidNumber) (defBody s_X_InvalidNumber) (defScope s_X_InvalidNumber) .none .none dcX1 pmX1 anX1 cdX1 ctX1), slX1⟩)
    (xc1 : PySem.W.codeIn K cdX1 "InvalidNumber.__init__" = true)
    (xa2 : PySem.W.nsIn K mainGlobals "InvalidReader" = some (some (.ref C2)))
    (xs2 : PySem.W.subIn K (.ref C2) (.type "BaseException") = some true)
    (xt2 : PySem.W.typeIn K (.ref C2) = some (.type "type"))
    (xh2 : PySem.W.hasDictIn K C2 = true)
    (xq2 : PySem.W.excIn K C2 [.type "ValueError", .type "Exception", .type "BaseException", .type "object"] "ValueError.__new__" = true)
    (xk2 : PySem.W.keepIn K (.ref C2) = true)
    (xa3 : PySem.W.nsIn K mainGlobals "TooMany" = some (some (.ref C3)))
    (xs3 : PySem.W.subIn K (.ref C3) (.type "BaseException") = some true)
    (xt3 : PySem.W.typeIn K (.ref C3) = some (.type "type"))
    (xh3 : PySem.W.hasDictIn K C3 = true)
    (xk3 : PySem.W.keepIn K (.ref C3) = true)
    (xq3 : PySem.W.excInitIn K C3 [.type "OverflowError", .type "ArithmeticError", .type "Exception", .type "BaseException", .type "object"] "OverflowError.__new__" = true)
    (xo3 : PySem.W.excOver K C3 [.type "OverflowError", .type "ArithmeticError", .type "Exception", .type "BaseException", .type "object"] = true)
    (xr3 : PySem.W.takerIn K C3 "limit" = some none)
    (xf3 : PySem.W.findIn K (.ref C3) "__setattr__" = some (some (.builtin "object.__setattr__")))
    (xg3 : PySem.W.findIn K (.ref C3) "__getattribute__" = some (some (.builtin "BaseException.__getattribute__")))
    (xd3 : PySem.W.findIn K (.ref C3) "__getattr__" = some none)
    (xn3 : PySem.W.findIn K (.ref C3) "limit" = some none)
    (xi3 : PySem.W.findIn K (.ref C3) "__init__" = some (some (.ref fX3)))
    (xy3 : PySem.W.typeIn K (.ref fX3) = some (.type "function"))
    (xl3 : K.lookup fX3 = some ⟨ocX3, odX3, .func (PySem.W.fnOf "__init__" "TooMany.__init__" (defArgs s_X_TooMany) (defBody s_X_TooMany) (defScope s_X_TooMany) .none .none dcX3 pmX3 anX3 cdX3 ctX3), slX3⟩)
    (xc3 : PySem.W.codeIn K cdX3 "TooMany.__init__" = true)
    (xe2_0 : PySem.W.subIn K (.ref C0) (.ref C2) = some false)
    (xe2_1 : PySem.W.subIn K (.ref C1) (.ref C2) = some false)
    (xe2_2 : PySem.W.subIn K (.ref C2) (.ref C2) = some true)
    (xe2_3 : PySem.W.subIn K (.ref C3) (.ref C2) = some false)
    (xe3_0 : PySem.W.subIn K (.ref C0) (.ref C3) = some false)
    (xe3_1 : PySem.W.subIn K (.ref C1) (.ref C3) = some false)
    (xe3_2 : PySem.W.subIn K (.ref C2) (.ref C3) = some false)
    (xe3_3 : PySem.W.subIn K (.ref C3) (.ref C3) = some true) :
    ∃ (fd : FuncData) (cs : List (Addr × Addr)) (T : List (Addr × Str)), (∀ p ∈ cs, ∃ y ∈ (["_law_right", "law"] : List Str), PySem.W.tabIn K y = some p) ∧ (∀ p ∈ cs, K.lookup p.2 = none) ∧ (∀ t ∈ T, ∃ p ∈ cs, p.2 = t.1) ∧ (∀ (s : Shared) (v : Value), BindsTo s fd ⟨[v], []⟩ [("_law_script", v)]) ∧ ∀ base : Heap, K.In base → base.Ns mainGlobals mg → (∀ p ∈ cs, LamX.TabB base mg p.1 p.2) → FnG PySem.Challenge.pw_loneguess_k65_errors_of_first_ways w K mg base 13 fa fd ["_law_script"] (spD ⟨mg, K, T⟩ g_law) := by
  have e := hfa.symm.trans (PySem.W.mg_of X G a34)
  cases e
  have M_Reader : mg "Reader" = some (.ref Y_Reader) := PySem.W.mg_of X G ya_Reader
  have Cls_Reader : Cls K Y_Reader := ⟨yp_Reader, yh_Reader, yo_Reader, ys_Reader⟩
  have hT_Reader : InsTy ⟨mg, K, [(P_l_right, ("_law_right" : Str) ++ ".<locals>." ++ "<lambda>"), (P_law, ("law" : Str) ++ ".<locals>." ++ "<lambda>")]⟩ "Reader" := ⟨Y_Reader, M_Reader, Cls_Reader, yc_Reader, yg_Reader, yt_Reader, ym_Reader⟩
  have hC_Reader : isCls ⟨mg, K, [(P_l_right, ("_law_right" : Str) ++ ".<locals>." ++ "<lambda>"), (P_law, ("law" : Str) ++ ".<locals>." ++ "<lambda>")]⟩ "Reader" := ⟨Y_Reader, M_Reader, yi_Reader, yy_Reader⟩
  have hf_arrows : ∀ cn ∈ (["Reader"] : List Str), AtC ⟨mg, K, [(P_l_right, ("_law_right" : Str) ++ ".<locals>." ++ "<lambda>"), (P_law, ("law" : Str) ++ ".<locals>." ++ "<lambda>")]⟩ cn fun C => Cls K C ∧ NoAttr K C "_arrows" := by
    intro cn hcn
    obtain rfl := List.mem_singleton.mp hcn
    exact ⟨Y_Reader, M_Reader, Cls_Reader, yf_Reader_arrows⟩
  have hf_backward : ∀ cn ∈ (["Reader"] : List Str), AtC ⟨mg, K, [(P_l_right, ("_law_right" : Str) ++ ".<locals>." ++ "<lambda>"), (P_law, ("law" : Str) ++ ".<locals>." ++ "<lambda>")]⟩ cn fun C => Cls K C ∧ NoAttr K C "_backward" := by
    intro cn hcn
    obtain rfl := List.mem_singleton.mp hcn
    exact ⟨Y_Reader, M_Reader, Cls_Reader, yf_Reader_backward⟩
  have hf_firsts : ∀ cn ∈ (["Reader"] : List Str), AtC ⟨mg, K, [(P_l_right, ("_law_right" : Str) ++ ".<locals>." ++ "<lambda>"), (P_law, ("law" : Str) ++ ".<locals>." ++ "<lambda>")]⟩ cn fun C => Cls K C ∧ NoAttr K C "_firsts" := by
    intro cn hcn
    obtain rfl := List.mem_singleton.mp hcn
    exact ⟨Y_Reader, M_Reader, Cls_Reader, yf_Reader_firsts⟩
  have hf_lasts : ∀ cn ∈ (["Reader"] : List Str), AtC ⟨mg, K, [(P_l_right, ("_law_right" : Str) ++ ".<locals>." ++ "<lambda>"), (P_law, ("law" : Str) ++ ".<locals>." ++ "<lambda>")]⟩ cn fun C => Cls K C ∧ NoAttr K C "_lasts" := by
    intro cn hcn
    obtain rfl := List.mem_singleton.mp hcn
    exact ⟨Y_Reader, M_Reader, Cls_Reader, yf_Reader_lasts⟩
  have hf_letters : ∀ cn ∈ (["Reader"] : List Str), AtC ⟨mg, K, [(P_l_right, ("_law_right" : Str) ++ ".<locals>." ++ "<lambda>"), (P_law, ("law" : Str) ++ ".<locals>." ++ "<lambda>")]⟩ cn fun C => Cls K C ∧ NoAttr K C "_letters" := by
    intro cn hcn
    obtain rfl := List.mem_singleton.mp hcn
    exact ⟨Y_Reader, M_Reader, Cls_Reader, yf_Reader_letters⟩
  have hf_onward : ∀ cn ∈ (["Reader"] : List Str), AtC ⟨mg, K, [(P_l_right, ("_law_right" : Str) ++ ".<locals>." ++ "<lambda>"), (P_law, ("law" : Str) ++ ".<locals>." ++ "<lambda>")]⟩ cn fun C => Cls K C ∧ NoAttr K C "_onward" := by
    intro cn hcn
    obtain rfl := List.mem_singleton.mp hcn
    exact ⟨Y_Reader, M_Reader, Cls_Reader, yf_Reader_onward⟩
  have hf_states : ∀ cn ∈ (["Reader"] : List Str), AtC ⟨mg, K, [(P_l_right, ("_law_right" : Str) ++ ".<locals>." ++ "<lambda>"), (P_law, ("law" : Str) ++ ".<locals>." ++ "<lambda>")]⟩ cn fun C => Cls K C ∧ NoAttr K C "_states" := by
    intro cn hcn
    obtain rfl := List.mem_singleton.mp hcn
    exact ⟨Y_Reader, M_Reader, Cls_Reader, yf_Reader_states⟩
  have T_InvalidNumber : PySem.KepX.KTxt K mg "InvalidNumber" "value" "IndexError" "IndexError.__new__" "IndexError.__init__" [.type "IndexError", .type "LookupError", .type "Exception", .type "BaseException", .type "object"] C1 fX1 := ⟨PySem.W.mg_of X G xa1, F.excBase_IndexError, F.store_IndexError, xq1, xo1, xr1, DL.cd_of xh1, xf1, xg1, xd1, xn1, xi1, xy1, xk1, xs1, xt1, xh1, PySem.KepX.kn_value, ⟨_, _, _, _, _, _, _, _, _, _, _, _, _, _, _, xl1, xc1⟩⟩
  have x_InvalidNumber : Exc1 K mg "InvalidNumber" "value" := ⟨_, _, _, _, _, _, T_InvalidNumber⟩
  have T_TooMany : PySem.KepX.KTxt K mg "TooMany" "limit" "OverflowError" "OverflowError.__new__" "OverflowError.__init__" [.type "OverflowError", .type "ArithmeticError", .type "Exception", .type "BaseException", .type "object"] C3 fX3 := ⟨PySem.W.mg_of X G xa3, F.excBase_OverflowError, F.store_OverflowError, xq3, xo3, xr3, DL.cd_of xh3, xf3, xg3, xd3, xn3, xi3, xy3, xk3, xs3, xt3, xh3, PySem.KepX.kn_limit, ⟨_, _, _, _, _, _, _, _, _, _, _, _, _, _, _, xl3, xc3⟩⟩
  have x_TooMany : Exc1 K mg "TooMany" "limit" := ⟨_, _, _, _, _, _, T_TooMany⟩
  have x_InvalidLetters : Exc0 K mg "InvalidLetters" := ⟨_, _, _, _, _, F.excBase_ValueError, xq0, PySem.W.mg_of X G xa0, xk0, xs0, xt0⟩
  have x_InvalidReader : Exc0 K mg "InvalidReader" := ⟨_, _, _, _, _, F.excBase_ValueError, xq2, PySem.W.mg_of X G xa2, xk2, xs2, xt2⟩
  have e_InvalidReader : Hand0 K mg "InvalidReader" is_InvalidReader := by
    refine ⟨.ref C2, PySem.W.mg_of X G xa2, ⟨fun cn b hb => ?_⟩⟩
    unfold is_InvalidReader at hb
    split at hb
    · rename_i hn; cases hb; subst hn; exact hd_one (x := "InvalidReader") (PySem.W.mg_of X G xa0) (PySem.W.exm_ref xs2 xh2 xt2 xe2_0)
    split at hb
    · rename_i hn; cases hb; subst hn; exact hd_one (x := "InvalidReader") (PySem.W.mg_of X G xa1) (PySem.W.exm_ref xs2 xh2 xt2 xe2_1)
    split at hb
    · rename_i hn; cases hb; subst hn; exact hd_one (x := "InvalidReader") (PySem.W.mg_of X G xa2) (PySem.W.exm_ref xs2 xh2 xt2 xe2_2)
    split at hb
    · rename_i hn; cases hb; subst hn; exact hd_one (x := "InvalidReader") (PySem.W.mg_of X G xa3) (PySem.W.exm_ref xs2 xh2 xt2 xe2_3)
    cases hb
  have ho1_TooMany : HdOk ⟨mg, K, []⟩ is_TooMany (.ref C3) := ⟨fun cn b hb => by
    unfold is_TooMany at hb
    split at hb
    · rename_i hn; cases hb; subst hn; exact hd_one (x := "TooMany") (PySem.W.mg_of X G xa0) (PySem.W.exm_ref xs3 xh3 xt3 xe3_0)
    split at hb
    · rename_i hn; cases hb; subst hn; exact hd_one (x := "TooMany") (PySem.W.mg_of X G xa1) (PySem.W.exm_ref xs3 xh3 xt3 xe3_1)
    split at hb
    · rename_i hn; cases hb; subst hn; exact hd_one (x := "TooMany") (PySem.W.mg_of X G xa2) (PySem.W.exm_ref xs3 xh3 xt3 xe3_2)
    split at hb
    · rename_i hn; cases hb; subst hn; exact hd_one (x := "TooMany") (PySem.W.mg_of X G xa3) (PySem.W.exm_ref xs3 xh3 xt3 xe3_3)
    cases hb⟩
  have on1_TooMany : ∀ y, is_TooMany y = some true → y = "TooMany" := fun cn hb => by
    unfold is_TooMany at hb
    split at hb
    · rename_i hn; first | exact hn | cases hb
    split at hb
    · rename_i hn; first | exact hn | cases hb
    split at hb
    · rename_i hn; first | exact hn | cases hb
    split at hb
    · rename_i hn; first | exact hn | cases hb
    cases hb
  have e1_TooMany : Hand1 K mg "TooMany" "limit" is_TooMany := ⟨_, _, _, _, _, _, T_TooMany, ho1_TooMany, on1_TooMany⟩
  obtain ⟨cw_InvalidReader, hw_InvalidReader, ow_InvalidReader⟩ := e_InvalidReader.ex
  have FL_l_came := fun_mk (st := s_l_came) lL_l_came cL_l_came kL_l_came
  have BL_l_came := FL_l_came.binds (ps := ["_law_call_it"]) fun _ _ _ _ _ _ us hl => match us, hl with | [_], _ => rfl
  have LX_l_came : LamDefG ⟨mg, K, [(P_l_right, ("_law_right" : Str) ++ ".<locals>." ++ "<lambda>"), (P_law, ("law" : Str) ++ ".<locals>." ++ "<lambda>")]⟩ "_law_came" "_law_call_it" "" hs_l_came := ⟨⟨fL_l_came, _, s_l_came, ["_law_call_it", "e"], _, _, _, _, _, _, _, _, _, _, PySem.W.mg_of X G aL_l_came, kL_l_came, FL_l_came, rfl, BL_l_came, ⟨rfl, rfl, rfl, by decide +kernel, rfl, by decide +kernel, by decide +kernel⟩, rfl, .inl rfl, fun _ => rfl, (.txt rfl hw_InvalidReader (by decide) ⟨ow_InvalidReader.ok⟩ (.rep (i := 1) rfl T_TooMany (by decide) ⟨ho1_TooMany.ok⟩ on1_TooMany rfl rfl (.inl rfl) rfl (PySem.W.mg_none_of X G z_repr) (by decide) (by decide) .nil))⟩⟩
  have A_l_right : ∀ (base : Heap) (TBs : ∀ p ∈ ([(cc_l_right, P_l_right), (cc_law, P_law)] : List (Addr × Addr)), LamX.TabB base mg p.1 p.2), LamAt ⟨mg, K, [(P_l_right, ("_law_right" : Str) ++ ".<locals>." ++ "<lambda>"), (P_law, ("law" : Str) ++ ".<locals>." ++ "<lambda>")]⟩ base cc_l_right P_l_right (("_law_right" : Str) ++ ".<locals>." ++ "<lambda>") := fun base TBs => ⟨TBs _ List.mem_cons_self, List.mem_cons_self, fun p hp e => by
    simp only [List.mem_cons, List.not_mem_nil, or_false] at hp
    rcases hp with rfl | rfl
    · exact rfl
    · exact absurd (beq_iff_eq.mpr (show P_law = P_l_right from e)) (by rw [ne_law_l_right]; exact Bool.false_ne_true)⟩
  have A_law : ∀ (base : Heap) (TBs : ∀ p ∈ ([(cc_l_right, P_l_right), (cc_law, P_law)] : List (Addr × Addr)), LamX.TabB base mg p.1 p.2), LamAt ⟨mg, K, [(P_l_right, ("_law_right" : Str) ++ ".<locals>." ++ "<lambda>"), (P_law, ("law" : Str) ++ ".<locals>." ++ "<lambda>")]⟩ base cc_law P_law (("law" : Str) ++ ".<locals>." ++ "<lambda>") := fun base TBs => ⟨TBs _ (List.mem_cons_of_mem _ List.mem_cons_self), (List.mem_cons_of_mem _ List.mem_cons_self), fun p hp e => by
    simp only [List.mem_cons, List.not_mem_nil, or_false] at hp
    rcases hp with rfl | rfl
    · exact absurd (beq_iff_eq.mpr (show P_law = P_l_right from e.symm)) (by rw [ne_law_l_right]; exact Bool.false_ne_true)
    · exact rfl⟩
  have F_mask_of := fun_mk (st := s_mask_of) l0 c0 k0
  have B_mask_of := F_mask_of.binds (ps := ["states"]) fun _ _ _ _ _ _ us hl => match us, hl with | [_], _ => rfl
  have D_mask_of : ∀ (base : Heap) (TBs : ∀ p ∈ ([(cc_l_right, P_l_right), (cc_law, P_law)] : List (Addr × Addr)), LamX.TabB base mg p.1 p.2), Cal PySem.Challenge.pw_loneguess_k65_errors_of_first_ways w K mg base 1 "mask_of" (spD ⟨mg, K, [(P_l_right, ("_law_right" : Str) ++ ".<locals>." ++ "<lambda>"), (P_law, ("law" : Str) ++ ".<locals>." ++ "<lambda>")]⟩ g_mask_of) := fun base TBs => ⟨_, _, _, ok_mask_of F_mask_of (PySem.W.mg_none_of X G z_sum), PySem.W.mg_of X G a0, k0, B_mask_of⟩
  have F_states_of := fun_mk (st := s_states_of) l1 c1 k1
  have B_states_of := F_states_of.binds (ps := ["mask"]) fun _ _ _ _ _ _ us hl => match us, hl with | [_], _ => rfl
  have D_states_of : ∀ (base : Heap) (TBs : ∀ p ∈ ([(cc_l_right, P_l_right), (cc_law, P_law)] : List (Addr × Addr)), LamX.TabB base mg p.1 p.2), Cal PySem.Challenge.pw_loneguess_k65_errors_of_first_ways w K mg base 1 "states_of" (spD ⟨mg, K, [(P_l_right, ("_law_right" : Str) ++ ".<locals>." ++ "<lambda>"), (P_law, ("law" : Str) ++ ".<locals>." ++ "<lambda>")]⟩ g_states_of) := fun base TBs => ⟨_, _, _, ok_states_of F_states_of (PySem.W.mg_none_of X G z_range) (PySem.W.mg_none_of X G z_tuple), PySem.W.mg_of X G a1, k1, B_states_of⟩
  have F_image := fun_mk (st := s_image) l2 c2 k2
  have B_image := F_image.binds (ps := ["leads", "mask"]) fun _ _ _ _ _ _ us hl => match us, hl with | [_, _], _ => rfl
  have D_image : ∀ (base : Heap) (TBs : ∀ p ∈ ([(cc_l_right, P_l_right), (cc_law, P_law)] : List (Addr × Addr)), LamX.TabB base mg p.1 p.2), Cal PySem.Challenge.pw_loneguess_k65_errors_of_first_ways w K mg base 1 "image" (spD ⟨mg, K, [(P_l_right, ("_law_right" : Str) ++ ".<locals>." ++ "<lambda>"), (P_law, ("law" : Str) ++ ".<locals>." ++ "<lambda>")]⟩ g_image) := fun base TBs => ⟨_, _, _, ok_image F_image (PySem.W.mg_none_of X G z_enumerate), PySem.W.mg_of X G a2, k2, B_image⟩
  have F_table_of := fun_mk (st := s_table_of) l3 c3 k3
  have B_table_of := F_table_of.binds (ps := ["letters", "size", "arrows"]) fun _ _ _ _ _ _ us hl => match us, hl with | [_, _, _], _ => rfl
  have D_table_of : ∀ (base : Heap) (TBs : ∀ p ∈ ([(cc_l_right, P_l_right), (cc_law, P_law)] : List (Addr × Addr)), LamX.TabB base mg p.1 p.2), Cal PySem.Challenge.pw_loneguess_k65_errors_of_first_ways w K mg base 1 "table_of" (spD ⟨mg, K, [(P_l_right, ("_law_right" : Str) ++ ".<locals>." ++ "<lambda>"), (P_law, ("law" : Str) ++ ".<locals>." ++ "<lambda>")]⟩ g_table_of) := fun base TBs => ⟨_, _, _, ok_table_of F_table_of (PySem.W.mg_none_of X G z_tuple), PySem.W.mg_of X G a3, k3, B_table_of⟩
  have F_is_integer := fun_mk (st := s_is_integer) l4 c4 k4
  have B_is_integer := F_is_integer.binds (ps := ["value"]) fun _ _ _ _ _ _ us hl => match us, hl with | [_], _ => rfl
  have D_is_integer : ∀ (base : Heap) (TBs : ∀ p ∈ ([(cc_l_right, P_l_right), (cc_law, P_law)] : List (Addr × Addr)), LamX.TabB base mg p.1 p.2), Cal PySem.Challenge.pw_loneguess_k65_errors_of_first_ways w K mg base 1 "is_integer" (spD ⟨mg, K, [(P_l_right, ("_law_right" : Str) ++ ".<locals>." ++ "<lambda>"), (P_law, ("law" : Str) ++ ".<locals>." ++ "<lambda>")]⟩ g_is_integer) := fun base TBs => ⟨_, _, _, ok_is_integer F_is_integer (PySem.W.mg_none_of X G z_abs) (PySem.W.mg_none_of X G z_bool) (PySem.W.mg_none_of X G z_int) (PySem.W.mg_none_of X G z_isinstance) (PySem.W.mg_none_of X G z_len) (PySem.W.mg_none_of X G z_str) ⟨_, PySem.W.mg_of X G v_MAX_DIGITS⟩, PySem.W.mg_of X G a4, k4, B_is_integer⟩
  have F_is_plain := fun_mk (st := s_is_plain) l5 c5 k5
  have B_is_plain := F_is_plain.binds (ps := ["text"]) fun _ _ _ _ _ _ us hl => match us, hl with | [_], _ => rfl
  have D_is_plain : ∀ (base : Heap) (TBs : ∀ p ∈ ([(cc_l_right, P_l_right), (cc_law, P_law)] : List (Addr × Addr)), LamX.TabB base mg p.1 p.2), Cal PySem.Challenge.pw_loneguess_k65_errors_of_first_ways w K mg base 1 "is_plain" (spD ⟨mg, K, [(P_l_right, ("_law_right" : Str) ++ ".<locals>." ++ "<lambda>"), (P_law, ("law" : Str) ++ ".<locals>." ++ "<lambda>")]⟩ g_is_plain) := fun base TBs => ⟨_, _, _, ok_is_plain F_is_plain (PySem.W.mg_none_of X G z_all), PySem.W.mg_of X G a5, k5, B_is_plain⟩
  have F_is_ascending := fun_mk (st := s_is_ascending) l6 c6 k6
  have B_is_ascending := F_is_ascending.binds (ps := ["values"]) fun _ _ _ _ _ _ us hl => match us, hl with | [_], _ => rfl
  have D_is_ascending : ∀ (base : Heap) (TBs : ∀ p ∈ ([(cc_l_right, P_l_right), (cc_law, P_law)] : List (Addr × Addr)), LamX.TabB base mg p.1 p.2), Cal PySem.Challenge.pw_loneguess_k65_errors_of_first_ways w K mg base 1 "is_ascending" (spD ⟨mg, K, [(P_l_right, ("_law_right" : Str) ++ ".<locals>." ++ "<lambda>"), (P_law, ("law" : Str) ++ ".<locals>." ++ "<lambda>")]⟩ g_is_ascending) := fun base TBs => ⟨_, _, _, ok_is_ascending F_is_ascending (PySem.W.mg_none_of X G z_all) (PySem.W.mg_none_of X G z_zip), PySem.W.mg_of X G a6, k6, B_is_ascending⟩
  have F_is_letters := fun_mk (st := s_is_letters) l7 c7 k7
  have B_is_letters := F_is_letters.binds (ps := ["value"]) fun _ _ _ _ _ _ us hl => match us, hl with | [_], _ => rfl
  have D_is_letters : ∀ (base : Heap) (TBs : ∀ p ∈ ([(cc_l_right, P_l_right), (cc_law, P_law)] : List (Addr × Addr)), LamX.TabB base mg p.1 p.2), Cal PySem.Challenge.pw_loneguess_k65_errors_of_first_ways w K mg base 2 "is_letters" (spD ⟨mg, K, [(P_l_right, ("_law_right" : Str) ++ ".<locals>." ++ "<lambda>"), (P_law, ("law" : Str) ++ ".<locals>." ++ "<lambda>")]⟩ g_is_letters) := fun base TBs => ⟨_, _, _, ok_is_letters F_is_letters (PySem.W.mg_none_of X G z_isinstance) (PySem.W.mg_none_of X G z_len) (PySem.W.mg_none_of X G z_str) ⟨_, PySem.W.mg_of X G v_MAX_ALPHABET⟩ (D_is_ascending base TBs) (D_is_plain base TBs), PySem.W.mg_of X G a7, k7, B_is_letters⟩
  have F_is_letter := fun_mk (st := s_is_letter) l8 c8 k8
  have B_is_letter := F_is_letter.binds (ps := ["letters", "value"]) fun _ _ _ _ _ _ us hl => match us, hl with | [_, _], _ => rfl
  have D_is_letter : ∀ (base : Heap) (TBs : ∀ p ∈ ([(cc_l_right, P_l_right), (cc_law, P_law)] : List (Addr × Addr)), LamX.TabB base mg p.1 p.2), Cal PySem.Challenge.pw_loneguess_k65_errors_of_first_ways w K mg base 1 "is_letter" (spD ⟨mg, K, [(P_l_right, ("_law_right" : Str) ++ ".<locals>." ++ "<lambda>"), (P_law, ("law" : Str) ++ ".<locals>." ++ "<lambda>")]⟩ g_is_letter) := fun base TBs => ⟨_, _, _, ok_is_letter F_is_letter (PySem.W.mg_none_of X G z_isinstance) (PySem.W.mg_none_of X G z_len) (PySem.W.mg_none_of X G z_str), PySem.W.mg_of X G a8, k8, B_is_letter⟩
  have F_check_letters := fun_mk (st := s_check_letters) l9 c9 k9
  have B_check_letters := F_check_letters.binds (ps := ["value"]) fun _ _ _ _ _ _ us hl => match us, hl with | [_], _ => rfl
  have D_check_letters : ∀ (base : Heap) (TBs : ∀ p ∈ ([(cc_l_right, P_l_right), (cc_law, P_law)] : List (Addr × Addr)), LamX.TabB base mg p.1 p.2), Cal PySem.Challenge.pw_loneguess_k65_errors_of_first_ways w K mg base 3 "check_letters" (spD ⟨mg, K, [(P_l_right, ("_law_right" : Str) ++ ".<locals>." ++ "<lambda>"), (P_law, ("law" : Str) ++ ".<locals>." ++ "<lambda>")]⟩ g_check_letters) := fun base TBs => ⟨_, _, _, ok_check_letters F_check_letters (D_is_letters base TBs) x_InvalidLetters, PySem.W.mg_of X G a9, k9, B_check_letters⟩
  have F_is_state := fun_mk (st := s_is_state) l10 c10 k10
  have B_is_state := F_is_state.binds (ps := ["size", "value"]) fun _ _ _ _ _ _ us hl => match us, hl with | [_, _], _ => rfl
  have D_is_state : ∀ (base : Heap) (TBs : ∀ p ∈ ([(cc_l_right, P_l_right), (cc_law, P_law)] : List (Addr × Addr)), LamX.TabB base mg p.1 p.2), Cal PySem.Challenge.pw_loneguess_k65_errors_of_first_ways w K mg base 2 "is_state" (spD ⟨mg, K, [(P_l_right, ("_law_right" : Str) ++ ".<locals>." ++ "<lambda>"), (P_law, ("law" : Str) ++ ".<locals>." ++ "<lambda>")]⟩ g_is_state) := fun base TBs => ⟨_, _, _, ok_is_state F_is_state (D_is_integer base TBs), PySem.W.mg_of X G a10, k10, B_is_state⟩
  have F_is_arrow := fun_mk (st := s_is_arrow) l11 c11 k11
  have B_is_arrow := F_is_arrow.binds (ps := ["letters", "size", "value"]) fun _ _ _ _ _ _ us hl => match us, hl with | [_, _, _], _ => rfl
  have D_is_arrow : ∀ (base : Heap) (TBs : ∀ p ∈ ([(cc_l_right, P_l_right), (cc_law, P_law)] : List (Addr × Addr)), LamX.TabB base mg p.1 p.2), Cal PySem.Challenge.pw_loneguess_k65_errors_of_first_ways w K mg base 3 "_is_arrow" (spD ⟨mg, K, [(P_l_right, ("_law_right" : Str) ++ ".<locals>." ++ "<lambda>"), (P_law, ("law" : Str) ++ ".<locals>." ++ "<lambda>")]⟩ g_is_arrow) := fun base TBs => ⟨_, _, _, ok_is_arrow F_is_arrow (PySem.W.mg_none_of X G z_isinstance) (PySem.W.mg_none_of X G z_len) (PySem.W.mg_none_of X G z_tuple) (D_is_letter base TBs) (D_is_state base TBs), PySem.W.mg_of X G a11, k11, B_is_arrow⟩
  have F_is_arrow_set := fun_mk (st := s_is_arrow_set) l12 c12 k12
  have B_is_arrow_set := F_is_arrow_set.binds (ps := ["letters", "size", "value"]) fun _ _ _ _ _ _ us hl => match us, hl with | [_, _, _], _ => rfl
  have D_is_arrow_set : ∀ (base : Heap) (TBs : ∀ p ∈ ([(cc_l_right, P_l_right), (cc_law, P_law)] : List (Addr × Addr)), LamX.TabB base mg p.1 p.2), Cal PySem.Challenge.pw_loneguess_k65_errors_of_first_ways w K mg base 4 "_is_arrow_set" (spD ⟨mg, K, [(P_l_right, ("_law_right" : Str) ++ ".<locals>." ++ "<lambda>"), (P_law, ("law" : Str) ++ ".<locals>." ++ "<lambda>")]⟩ g_is_arrow_set) := fun base TBs => ⟨_, _, _, ok_is_arrow_set F_is_arrow_set (PySem.W.mg_none_of X G z_all) (PySem.W.mg_none_of X G z_isinstance) (PySem.W.mg_none_of X G z_tuple) (D_is_arrow base TBs) (D_is_ascending base TBs), PySem.W.mg_of X G a12, k12, B_is_arrow_set⟩
  have F_is_state_set := fun_mk (st := s_is_state_set) l13 c13 k13
  have B_is_state_set := F_is_state_set.binds (ps := ["size", "value"]) fun _ _ _ _ _ _ us hl => match us, hl with | [_, _], _ => rfl
  have D_is_state_set : ∀ (base : Heap) (TBs : ∀ p ∈ ([(cc_l_right, P_l_right), (cc_law, P_law)] : List (Addr × Addr)), LamX.TabB base mg p.1 p.2), Cal PySem.Challenge.pw_loneguess_k65_errors_of_first_ways w K mg base 3 "is_state_set" (spD ⟨mg, K, [(P_l_right, ("_law_right" : Str) ++ ".<locals>." ++ "<lambda>"), (P_law, ("law" : Str) ++ ".<locals>." ++ "<lambda>")]⟩ g_is_state_set) := fun base TBs => ⟨_, _, _, ok_is_state_set F_is_state_set (PySem.W.mg_none_of X G z_all) (PySem.W.mg_none_of X G z_isinstance) (PySem.W.mg_none_of X G z_tuple) (D_is_ascending base TBs) (D_is_state base TBs), PySem.W.mg_of X G a13, k13, B_is_state_set⟩
  have F_Reader_init_d := fun_mk (st := s_Reader_init_d) l14 c14 k14
  have B_Reader_init_d := F_Reader_init_d.binds (ps := ["self", "letters", "size", "firsts", "lasts", "arrows"]) fun _ _ _ _ _ _ us hl => match us, hl with | [_, _, _, _, _, _], _ => rfl
  have D_Reader_init_d : ∀ (base : Heap) (TBs : ∀ p ∈ ([(cc_l_right, P_l_right), (cc_law, P_law)] : List (Addr × Addr)), LamX.TabB base mg p.1 p.2), CalI PySem.Challenge.pw_loneguess_k65_errors_of_first_ways w ⟨mg, K, [(P_l_right, ("_law_right" : Str) ++ ".<locals>." ++ "<lambda>"), (P_law, ("law" : Str) ++ ".<locals>." ++ "<lambda>")]⟩ base 5 "Reader" g_Reader_init_d := fun base TBs => ⟨⟨_, _, _, ⟨Y_Reader, M_Reader, ⟨mk14, a14, is14, yk_Reader⟩⟩, ok_Reader_init_d F_Reader_init_d (PySem.W.mg_none_of X G z_range) (PySem.W.mg_none_of X G z_tuple) ⟨_, PySem.W.mg_of X G v_MAX_STATES⟩ (D_is_arrow_set base TBs) (D_check_letters base TBs) (D_is_integer base TBs) (D_is_state_set base TBs) (D_table_of base TBs) x_InvalidReader x_InvalidNumber hf_arrows hf_backward hf_firsts hf_lasts hf_letters hf_onward hf_states, B_Reader_init_d⟩⟩
  have F_Reader_letters := fun_mk (st := s_Reader_letters) l15 c15 k15
  have B_Reader_letters := F_Reader_letters.binds (ps := ["self"]) fun _ _ _ _ _ _ us hl => match us, hl with | [_], _ => rfl
  have D_Reader_letters : ∀ (base : Heap) (TBs : ∀ p ∈ ([(cc_l_right, P_l_right), (cc_law, P_law)] : List (Addr × Addr)), LamX.TabB base mg p.1 p.2), CalP PySem.Challenge.pw_loneguess_k65_errors_of_first_ways w ⟨mg, K, [(P_l_right, ("_law_right" : Str) ++ ".<locals>." ++ "<lambda>"), (P_law, ("law" : Str) ++ ".<locals>." ++ "<lambda>")]⟩ base 1 "Reader" "letters" g_Reader_letters := fun base TBs => ⟨⟨_, _, _, ⟨Y_Reader, M_Reader, Cls_Reader, p15, ⟨a15, pg15, pt15, ⟨_, pr15⟩⟩⟩, ok_Reader_letters F_Reader_letters hf_letters, B_Reader_letters⟩⟩
  have F_Reader_firsts := fun_mk (st := s_Reader_firsts) l16 c16 k16
  have B_Reader_firsts := F_Reader_firsts.binds (ps := ["self"]) fun _ _ _ _ _ _ us hl => match us, hl with | [_], _ => rfl
  have D_Reader_firsts : ∀ (base : Heap) (TBs : ∀ p ∈ ([(cc_l_right, P_l_right), (cc_law, P_law)] : List (Addr × Addr)), LamX.TabB base mg p.1 p.2), CalP PySem.Challenge.pw_loneguess_k65_errors_of_first_ways w ⟨mg, K, [(P_l_right, ("_law_right" : Str) ++ ".<locals>." ++ "<lambda>"), (P_law, ("law" : Str) ++ ".<locals>." ++ "<lambda>")]⟩ base 1 "Reader" "firsts" g_Reader_firsts := fun base TBs => ⟨⟨_, _, _, ⟨Y_Reader, M_Reader, Cls_Reader, p16, ⟨a16, pg16, pt16, ⟨_, pr16⟩⟩⟩, ok_Reader_firsts F_Reader_firsts hf_firsts, B_Reader_firsts⟩⟩
  have F_Reader_lasts := fun_mk (st := s_Reader_lasts) l17 c17 k17
  have B_Reader_lasts := F_Reader_lasts.binds (ps := ["self"]) fun _ _ _ _ _ _ us hl => match us, hl with | [_], _ => rfl
  have D_Reader_lasts : ∀ (base : Heap) (TBs : ∀ p ∈ ([(cc_l_right, P_l_right), (cc_law, P_law)] : List (Addr × Addr)), LamX.TabB base mg p.1 p.2), CalP PySem.Challenge.pw_loneguess_k65_errors_of_first_ways w ⟨mg, K, [(P_l_right, ("_law_right" : Str) ++ ".<locals>." ++ "<lambda>"), (P_law, ("law" : Str) ++ ".<locals>." ++ "<lambda>")]⟩ base 1 "Reader" "lasts" g_Reader_lasts := fun base TBs => ⟨⟨_, _, _, ⟨Y_Reader, M_Reader, Cls_Reader, p17, ⟨a17, pg17, pt17, ⟨_, pr17⟩⟩⟩, ok_Reader_lasts F_Reader_lasts hf_lasts, B_Reader_lasts⟩⟩
  have F_Reader_onward := fun_mk (st := s_Reader_onward) l18 c18 k18
  have B_Reader_onward := F_Reader_onward.binds (ps := ["self", "letter"]) fun _ _ _ _ _ _ us hl => match us, hl with | [_, _], _ => rfl
  have D_Reader_onward : ∀ (base : Heap) (TBs : ∀ p ∈ ([(cc_l_right, P_l_right), (cc_law, P_law)] : List (Addr × Addr)), LamX.TabB base mg p.1 p.2), CalM PySem.Challenge.pw_loneguess_k65_errors_of_first_ways w ⟨mg, K, [(P_l_right, ("_law_right" : Str) ++ ".<locals>." ++ "<lambda>"), (P_law, ("law" : Str) ++ ".<locals>." ++ "<lambda>")]⟩ base 1 "Reader" "onward" g_Reader_onward := fun base TBs => ⟨⟨_, _, _, ⟨Y_Reader, M_Reader, Cls_Reader, ⟨a18, is18, k18⟩⟩, ok_Reader_onward F_Reader_onward hf_onward, B_Reader_onward, fn18⟩⟩
  have F_Reader_len_d := fun_mk (st := s_Reader_len_d) l19 c19 k19
  have B_Reader_len_d := F_Reader_len_d.binds (ps := ["self"]) fun _ _ _ _ _ _ us hl => match us, hl with | [_], _ => rfl
  have D_Reader_len_d : ∀ (base : Heap) (TBs : ∀ p ∈ ([(cc_l_right, P_l_right), (cc_law, P_law)] : List (Addr × Addr)), LamX.TabB base mg p.1 p.2), CalM PySem.Challenge.pw_loneguess_k65_errors_of_first_ways w ⟨mg, K, [(P_l_right, ("_law_right" : Str) ++ ".<locals>." ++ "<lambda>"), (P_law, ("law" : Str) ++ ".<locals>." ++ "<lambda>")]⟩ base 1 "Reader" "__len__" g_Reader_len_d := fun base TBs => ⟨⟨_, _, _, ⟨Y_Reader, M_Reader, Cls_Reader, ⟨a19, is19, k19⟩⟩, ok_Reader_len_d F_Reader_len_d (PySem.W.mg_none_of X G z_len) hf_states, B_Reader_len_d, fn19⟩⟩
  have F_check_reader := fun_mk (st := s_check_reader) l20 c20 k20
  have B_check_reader := F_check_reader.binds (ps := ["value"]) fun _ _ _ _ _ _ us hl => match us, hl with | [_], _ => rfl
  have D_check_reader : ∀ (base : Heap) (TBs : ∀ p ∈ ([(cc_l_right, P_l_right), (cc_law, P_law)] : List (Addr × Addr)), LamX.TabB base mg p.1 p.2), Cal PySem.Challenge.pw_loneguess_k65_errors_of_first_ways w K mg base 1 "check_reader" (spD ⟨mg, K, [(P_l_right, ("_law_right" : Str) ++ ".<locals>." ++ "<lambda>"), (P_law, ("law" : Str) ++ ".<locals>." ++ "<lambda>")]⟩ g_check_reader) := fun base TBs => ⟨_, _, _, ok_check_reader F_check_reader (PySem.W.mg_none_of X G z_isinstance) x_InvalidReader hC_Reader hT_Reader, PySem.W.mg_of X G a20, k20, B_check_reader⟩
  have F_below := fun_mk (st := s_below) l21 c21 k21
  have B_below := F_below.binds (ps := ["mask", "state"]) fun _ _ _ _ _ _ us hl => match us, hl with | [_, _], _ => rfl
  have D_below : ∀ (base : Heap) (TBs : ∀ p ∈ ([(cc_l_right, P_l_right), (cc_law, P_law)] : List (Addr × Addr)), LamX.TabB base mg p.1 p.2), Cal PySem.Challenge.pw_loneguess_k65_errors_of_first_ways w K mg base 1 "_below" (spD ⟨mg, K, [(P_l_right, ("_law_right" : Str) ++ ".<locals>." ++ "<lambda>"), (P_law, ("law" : Str) ++ ".<locals>." ++ "<lambda>")]⟩ g_below) := fun base TBs => ⟨_, _, _, ok_below F_below , PySem.W.mg_of X G a21, k21, B_below⟩
  have F_led := fun_mk (st := s_led) l22 c22 k22
  have B_led := F_led.binds (ps := ["leads", "pair"]) fun _ _ _ _ _ _ us hl => match us, hl with | [_, _], _ => rfl
  have D_led : ∀ (base : Heap) (TBs : ∀ p ∈ ([(cc_l_right, P_l_right), (cc_law, P_law)] : List (Addr × Addr)), LamX.TabB base mg p.1 p.2), Cal PySem.Challenge.pw_loneguess_k65_errors_of_first_ways w K mg base 2 "_led" (spD ⟨mg, K, [(P_l_right, ("_law_right" : Str) ++ ".<locals>." ++ "<lambda>"), (P_law, ("law" : Str) ++ ".<locals>." ++ "<lambda>")]⟩ g_led) := fun base TBs => ⟨_, _, _, ok_led F_led (D_below base TBs) (D_image base TBs) (D_states_of base TBs), PySem.W.mg_of X G a22, k22, B_led⟩
  have F_met := fun_mk (st := s_met) l23 c23 k23
  have B_met := F_met.binds (ps := ["reader"]) fun _ _ _ _ _ _ us hl => match us, hl with | [_], _ => rfl
  have D_met : ∀ (base : Heap) (TBs : ∀ p ∈ ([(cc_l_right, P_l_right), (cc_law, P_law)] : List (Addr × Addr)), LamX.TabB base mg p.1 p.2), Cal PySem.Challenge.pw_loneguess_k65_errors_of_first_ways w K mg base 3 "_met" (spD ⟨mg, K, [(P_l_right, ("_law_right" : Str) ++ ".<locals>." ++ "<lambda>"), (P_law, ("law" : Str) ++ ".<locals>." ++ "<lambda>")]⟩ g_met) := fun base TBs => ⟨_, _, _, ok_met F_met (PySem.W.mg_none_of X G z_enumerate) (PySem.W.mg_none_of X G z_len) ⟨_, PySem.W.mg_of X G v_MAX_STATES⟩ (D_below base TBs) (D_led base TBs) (D_mask_of base TBs) x_TooMany (D_Reader_onward base TBs) (D_Reader_firsts base TBs) (D_Reader_letters base TBs), PySem.W.mg_of X G a23, k23, B_met⟩
  have F_careful := fun_mk (st := s_careful) l24 c24 k24
  have B_careful := F_careful.binds (ps := ["reader"]) fun _ _ _ _ _ _ us hl => match us, hl with | [_], _ => rfl
  have D_careful : ∀ (base : Heap) (TBs : ∀ p ∈ ([(cc_l_right, P_l_right), (cc_law, P_law)] : List (Addr × Addr)), LamX.TabB base mg p.1 p.2), Cal PySem.Challenge.pw_loneguess_k65_errors_of_first_ways w K mg base 4 "careful" (spD ⟨mg, K, [(P_l_right, ("_law_right" : Str) ++ ".<locals>." ++ "<lambda>"), (P_law, ("law" : Str) ++ ".<locals>." ++ "<lambda>")]⟩ g_careful) := fun base TBs => ⟨_, _, _, ok_careful F_careful (PySem.W.mg_none_of X G z_tuple) (D_met base TBs) (D_check_reader base TBs) (D_states_of base TBs), PySem.W.mg_of X G a24, k24, B_careful⟩
  have F_lone_of := fun_mk (st := s_lone_of) l25 c25 k25
  have B_lone_of := F_lone_of.binds (ps := ["reader"]) fun _ _ _ _ _ _ us hl => match us, hl with | [_], _ => rfl
  have D_lone_of : ∀ (base : Heap) (TBs : ∀ p ∈ ([(cc_l_right, P_l_right), (cc_law, P_law)] : List (Addr × Addr)), LamX.TabB base mg p.1 p.2), Cal PySem.Challenge.pw_loneguess_k65_errors_of_first_ways w K mg base 7 "lone_of" (spD ⟨mg, K, [(P_l_right, ("_law_right" : Str) ++ ".<locals>." ++ "<lambda>"), (P_law, ("law" : Str) ++ ".<locals>." ++ "<lambda>")]⟩ g_lone_of) := fun base TBs => ⟨_, _, _, ok_lone_of F_lone_of (PySem.W.mg_none_of X G z_enumerate) (PySem.W.mg_none_of X G z_len) (PySem.W.mg_none_of X G z_max) (PySem.W.mg_none_of X G z_range) (PySem.W.mg_none_of X G z_sorted) (PySem.W.mg_none_of X G z_tuple) (D_met base TBs) (D_check_reader base TBs) (D_mask_of base TBs) (D_Reader_init_d base TBs) (D_Reader_firsts base TBs) (D_Reader_lasts base TBs) (D_Reader_letters base TBs), PySem.W.mg_of X G a25, k25, B_lone_of⟩
  have F_l_pot := fun_mk (st := s_l_pot) l26 c26 k26
  have B_l_pot := F_l_pot.binds (ps := ["_law_script", "_law_at"]) fun _ _ _ _ _ _ us hl => match us, hl with | [_, _], _ => rfl
  have D_l_pot : ∀ (base : Heap) (TBs : ∀ p ∈ ([(cc_l_right, P_l_right), (cc_law, P_law)] : List (Addr × Addr)), LamX.TabB base mg p.1 p.2), Cal PySem.Challenge.pw_loneguess_k65_errors_of_first_ways w K mg base 1 "_law_pot" (spF ⟨mg, K, [(P_l_right, ("_law_right" : Str) ++ ".<locals>." ++ "<lambda>"), (P_law, ("law" : Str) ++ ".<locals>." ++ "<lambda>")]⟩ g_l_pot) := fun base TBs => ⟨_, _, _, ok_l_pot F_l_pot (PySem.W.mg_none_of X G z_abs) (PySem.W.mg_none_of X G z_int) (PySem.W.mg_none_of X G z_len) (PySem.W.mg_none_of X G z_max), PySem.W.mg_of X G a26, k26, B_l_pot⟩
  have F_l_bit := fun_mk (st := s_l_bit) l27 c27 k27
  have B_l_bit := F_l_bit.binds (ps := ["_law_pot_here", "_law_much"]) fun _ _ _ _ _ _ us hl => match us, hl with | [_, _], _ => rfl
  have D_l_bit : ∀ (base : Heap) (TBs : ∀ p ∈ ([(cc_l_right, P_l_right), (cc_law, P_law)] : List (Addr × Addr)), LamX.TabB base mg p.1 p.2), Cal PySem.Challenge.pw_loneguess_k65_errors_of_first_ways w K mg base 1 "_law_bit" (spD ⟨mg, K, [(P_l_right, ("_law_right" : Str) ++ ".<locals>." ++ "<lambda>"), (P_law, ("law" : Str) ++ ".<locals>." ++ "<lambda>")]⟩ g_l_bit) := fun base TBs => ⟨_, _, _, ok_l_bit F_l_bit (PySem.W.mg_none_of X G z_int), PySem.W.mg_of X G a27, k27, B_l_bit⟩
  have F_l_pick := fun_mk (st := s_l_pick) l28 c28 k28
  have B_l_pick := F_l_pick.binds (ps := ["_law_pot_here", "_law_items"]) fun _ _ _ _ _ _ us hl => match us, hl with | [_, _], _ => rfl
  have D_l_pick : ∀ (base : Heap) (TBs : ∀ p ∈ ([(cc_l_right, P_l_right), (cc_law, P_law)] : List (Addr × Addr)), LamX.TabB base mg p.1 p.2), Cal PySem.Challenge.pw_loneguess_k65_errors_of_first_ways w K mg base 2 "_law_pick" (spD ⟨mg, K, [(P_l_right, ("_law_right" : Str) ++ ".<locals>." ++ "<lambda>"), (P_law, ("law" : Str) ++ ".<locals>." ++ "<lambda>")]⟩ g_l_pick) := fun base TBs => ⟨_, _, _, ok_l_pick F_l_pick (PySem.W.mg_none_of X G z_len) (D_l_bit base TBs), PySem.W.mg_of X G a28, k28, B_l_pick⟩
  have F_l_dealt := fun_mk (st := s_l_dealt) l29 c29 k29
  have B_l_dealt := F_l_dealt.binds (ps := ["_law_pot_here", "_law_items"]) fun _ _ _ _ _ _ us hl => match us, hl with | [_, _], _ => rfl
  have D_l_dealt : ∀ (base : Heap) (TBs : ∀ p ∈ ([(cc_l_right, P_l_right), (cc_law, P_law)] : List (Addr × Addr)), LamX.TabB base mg p.1 p.2), Cal PySem.Challenge.pw_loneguess_k65_errors_of_first_ways w K mg base 2 "_law_dealt" (spD ⟨mg, K, [(P_l_right, ("_law_right" : Str) ++ ".<locals>." ++ "<lambda>"), (P_law, ("law" : Str) ++ ".<locals>." ++ "<lambda>")]⟩ g_l_dealt) := fun base TBs => ⟨_, _, _, ok_l_dealt F_l_dealt (PySem.W.mg_none_of X G z_len) (PySem.W.mg_none_of X G z_list) (PySem.W.mg_none_of X G z_range) (D_l_bit base TBs), PySem.W.mg_of X G a29, k29, B_l_dealt⟩
  have F_l_some_of := fun_mk (st := s_l_some_of) l30 c30 k30
  have B_l_some_of := F_l_some_of.binds (ps := ["_law_pot_here", "_law_items", "_law_least"]) fun _ _ _ _ _ _ us hl => match us, hl with | [_, _, _], _ => rfl
  have D_l_some_of : ∀ (base : Heap) (TBs : ∀ p ∈ ([(cc_l_right, P_l_right), (cc_law, P_law)] : List (Addr × Addr)), LamX.TabB base mg p.1 p.2), Cal PySem.Challenge.pw_loneguess_k65_errors_of_first_ways w K mg base 3 "_law_some_of" (spD ⟨mg, K, [(P_l_right, ("_law_right" : Str) ++ ".<locals>." ++ "<lambda>"), (P_law, ("law" : Str) ++ ".<locals>." ++ "<lambda>")]⟩ g_l_some_of) := fun base TBs => ⟨_, _, _, ok_l_some_of F_l_some_of (PySem.W.mg_none_of X G z_len) (PySem.W.mg_none_of X G z_sorted) (PySem.W.mg_none_of X G z_tuple) (D_l_bit base TBs) (D_l_dealt base TBs), PySem.W.mg_of X G a30, k30, B_l_some_of⟩
  have F_l_told_reader := fun_mk (st := s_l_told_reader) l31 c31 k31
  have B_l_told_reader := F_l_told_reader.binds (ps := ["_law_signs", "_law_much", "_law_heads", "_law_tails", "_law_links"]) fun _ _ _ _ _ _ us hl => match us, hl with | [_, _, _, _, _], _ => rfl
  have D_l_told_reader : ∀ (base : Heap) (TBs : ∀ p ∈ ([(cc_l_right, P_l_right), (cc_law, P_law)] : List (Addr × Addr)), LamX.TabB base mg p.1 p.2), Cal PySem.Challenge.pw_loneguess_k65_errors_of_first_ways w K mg base 1 "_law_told_reader" (spD ⟨mg, K, [(P_l_right, ("_law_right" : Str) ++ ".<locals>." ++ "<lambda>"), (P_law, ("law" : Str) ++ ".<locals>." ++ "<lambda>")]⟩ g_l_told_reader) := fun base TBs => ⟨_, _, _, ok_l_told_reader F_l_told_reader (PySem.W.mg_none_of X G z_sorted) (PySem.W.mg_none_of X G z_tuple), PySem.W.mg_of X G a31, k31, B_l_told_reader⟩
  have F_l_any_reader := fun_mk (st := s_l_any_reader) l32 c32 k32
  have B_l_any_reader := F_l_any_reader.binds (ps := ["_law_pot_here", "_law_signs", "_law_most"]) fun _ _ _ _ _ _ us hl => match us, hl with | [_, _, _], _ => rfl
  have D_l_any_reader : ∀ (base : Heap) (TBs : ∀ p ∈ ([(cc_l_right, P_l_right), (cc_law, P_law)] : List (Addr × Addr)), LamX.TabB base mg p.1 p.2), Cal PySem.Challenge.pw_loneguess_k65_errors_of_first_ways w K mg base 4 "_law_any_reader" (spD ⟨mg, K, [(P_l_right, ("_law_right" : Str) ++ ".<locals>." ++ "<lambda>"), (P_law, ("law" : Str) ++ ".<locals>." ++ "<lambda>")]⟩ g_l_any_reader) := fun base TBs => ⟨_, _, _, ok_l_any_reader F_l_any_reader (PySem.W.mg_none_of X G z_list) (PySem.W.mg_none_of X G z_min) (PySem.W.mg_none_of X G z_range) (D_l_bit base TBs) (D_l_pick base TBs) (D_l_some_of base TBs) (D_l_told_reader base TBs), PySem.W.mg_of X G a32, k32, B_l_any_reader⟩
  have F_l_right := fun_mk (st := s_l_right) l33 c33 k33
  have B_l_right := F_l_right.binds (ps := ["_law_pot_here"]) fun _ _ _ _ _ _ us hl => match us, hl with | [_], _ => rfl
  have D_l_right : ∀ (base : Heap) (TBs : ∀ p ∈ ([(cc_l_right, P_l_right), (cc_law, P_law)] : List (Addr × Addr)), LamX.TabB base mg p.1 p.2), Cal PySem.Challenge.pw_loneguess_k65_errors_of_first_ways w K mg base 12 "_law_right" (spD ⟨mg, K, [(P_l_right, ("_law_right" : Str) ++ ".<locals>." ++ "<lambda>"), (P_law, ("law" : Str) ++ ".<locals>." ++ "<lambda>")]⟩ g_l_right) := fun base TBs => ⟨_, _, _, ok_l_right F_l_right (PySem.W.mg_none_of X G z_len) (PySem.W.mg_none_of X G z_range) (PySem.W.mg_none_of X G z_repr) (PySem.W.mg_none_of X G z_tuple) (D_l_any_reader base TBs) (D_l_pick base TBs) (D_careful base TBs) (D_lone_of base TBs) (A_l_right base TBs) (code_at a33 l33 t_l_right) LX_l_came (D_Reader_init_d base TBs) (D_Reader_len_d base TBs), PySem.W.mg_of X G a33, k33, B_l_right⟩
  have F_law := fun_mk (st := s_law) l34 c34 k34
  have B_law := F_law.binds (ps := ["_law_script"]) fun _ _ _ _ _ _ us hl => match us, hl with | [_], _ => rfl
  exact ⟨_, [(cc_l_right, P_l_right), (cc_law, P_law)], [(P_l_right, ("_law_right" : Str) ++ ".<locals>." ++ "<lambda>"), (P_law, ("law" : Str) ++ ".<locals>." ++ "<lambda>")], fun p hp => (by simp only [List.mem_cons, List.not_mem_nil, or_false] at hp; rcases hp with rfl | rfl; all_goals first | exact ⟨_, List.mem_cons_self, t_l_right⟩ | exact ⟨_, (List.mem_cons_of_mem _ List.mem_cons_self), t_law⟩), fun p hp => (by simp only [List.mem_cons, List.not_mem_nil, or_false] at hp; rcases hp with rfl | rfl; all_goals first | exact u_l_right | exact u_law), fun p hp => (by simp only [List.mem_cons, List.not_mem_nil, or_false] at hp; rcases hp with rfl | rfl; all_goals first | exact ⟨_, List.mem_cons_self, rfl⟩ | exact ⟨_, (List.mem_cons_of_mem _ List.mem_cons_self), rfl⟩), fun s v => .of_eq rfl, fun base _ _ TBs => ok_law F_law (PySem.W.mg_none_of X G z_len) (PySem.W.mg_none_of X G z_max) (PySem.W.mg_none_of X G z_min) (PySem.W.mg_none_of X G z_range) (PySem.W.mg_none_of X G z_repr) (PySem.W.mg_none_of X G z_tuple) (D_l_pot base TBs) (D_l_right base TBs) (D_careful base TBs) (A_law base TBs) (code_at a34 l34 t_law) LX_l_came (D_Reader_init_d base TBs)⟩
end
end KX
open PySem PySem.W PyProof.Rows in
set_option maxRecDepth 100000 in
set_option maxHeartbeats 0 in
theorem PySem.Challenge.cw_loneguess_k65_errors_of_first_ways_holds : PySem.Challenge.rw_loneguess_k65_errors_of_first_ways.Holds := by
  refine topK ?_
  k_fill
  refine DL.walkGA (ys := ["_law_right", "law"]) (by decide +kernel) (l := PySem.Challenge.rw_loneguess_k65_errors_of_first_ways) (n := 63) (k := 13) (x := "_law_script") (mf := KX.g_law) rfl (by decide) rfl ⟨rfl, by decide, by decide⟩ (fun w h Y => PySem.W.kIn_of Y) ?F ?Hm
  case F =>
    intro w mg fa h kx G hmg
    refine' KX.all_mk kx G hmg ?ya_Reader ?yp_Reader ?yh_Reader ?yo_Reader ?ys_Reader ?yc_Reader ?yg_Reader ?yt_Reader ?ym_Reader ?yi_Reader ?yy_Reader ?yk_Reader ?yf_Reader_arrows ?yf_Reader_backward ?yf_Reader_firsts ?yf_Reader_lasts ?yf_Reader_letters ?yf_Reader_onward ?yf_Reader_states ?a0 ?l0 ?c0 ?k0 ?a1 ?l1 ?c1 ?k1 ?a2 ?l2 ?c2 ?k2 ?a3 ?l3 ?c3 ?k3 ?a4 ?l4 ?c4 ?k4 ?a5 ?l5 ?c5 ?k5 ?a6 ?l6 ?c6 ?k6 ?a7 ?l7 ?c7 ?k7 ?a8 ?l8 ?c8 ?k8 ?a9 ?l9 ?c9 ?k9 ?a10 ?l10 ?c10 ?k10 ?a11 ?l11 ?c11 ?k11 ?a12 ?l12 ?c12 ?k12 ?a13 ?l13 ?c13 ?k13 ?a14 ?l14 ?c14 ?k14 ?is14 ?mk14 ?a15 ?pg15 ?pt15 ?pr15 ?l15 ?c15 ?k15 ?a16 ?pg16 ?pt16 ?pr16 ?l16 ?c16 ?k16 ?a17 ?pg17 ?pt17 ?pr17 ?l17 ?c17 ?k17 ?a18 ?l18 ?c18 ?k18 ?is18 ?fn18 ?a19 ?l19 ?c19 ?k19 ?is19 ?fn19 ?a20 ?l20 ?c20 ?k20 ?a21 ?l21 ?c21 ?k21 ?a22 ?l22 ?c22 ?k22 ?a23 ?l23 ?c23 ?k23 ?a24 ?l24 ?c24 ?k24 ?a25 ?l25 ?c25 ?k25 ?a26 ?l26 ?c26 ?k26 ?a27 ?l27 ?c27 ?k27 ?a28 ?l28 ?c28 ?k28 ?a29 ?l29 ?c29 ?k29 ?a30 ?l30 ?c30 ?k30 ?a31 ?l31 ?c31 ?k31 ?a32 ?l32 ?c32 ?k32 ?a33 ?l33 ?c33 ?k33 ?a34 ?l34 ?c34 ?k34 ?z_abs ?z_all ?z_bool ?z_enumerate ?z_int ?z_isinstance ?z_len ?z_list ?z_max ?z_min ?z_range ?z_repr ?z_sorted ?z_str ?z_sum ?z_tuple ?z_zip ?aL_l_came ?lL_l_came ?cL_l_came ?kL_l_came ?t_l_right ?u_l_right ?t_law ?u_law ?ne_law_l_right ?v_MAX_DIGITS ?v_MAX_STATES ?v_MAX_ALPHABET ?xa0 ?xs0 ?xt0 ?xh0 ?xq0 ?xk0 ?xa1 ?xs1 ?xt1 ?xh1 ?xk1 ?xq1 ?xo1 ?xr1 ?xf1 ?xg1 ?xd1 ?xn1 ?xi1 ?xy1 ?xl1 ?xc1 ?xa2 ?xs2 ?xt2 ?xh2 ?xq2 ?xk2 ?xa3 ?xs3 ?xt3 ?xh3 ?xk3 ?xq3 ?xo3 ?xr3 ?xf3 ?xg3 ?xd3 ?xn3 ?xi3 ?xy3 ?xl3 ?xc3 ?xe2_0 ?xe2_1 ?xe2_2 ?xe2_3 ?xe3_0 ?xe3_1 ?xe3_2 ?xe3_3
    (case ya_Reader => k_is)
    (case yp_Reader => k_is)
    (case yh_Reader => k_is)
    (case yo_Reader => k_is)
    (case ys_Reader => k_is)
    (case yc_Reader => k_is)
    (case yg_Reader => k_is)
    (case yt_Reader => k_is)
    (case ym_Reader => k_is)
    (case yi_Reader => k_is)
    (case yy_Reader => k_is)
    (case yk_Reader => k_is)
    (case yf_Reader_arrows => k_is)
    (case yf_Reader_backward => k_is)
    (case yf_Reader_firsts => k_is)
    (case yf_Reader_lasts => k_is)
    (case yf_Reader_letters => k_is)
    (case yf_Reader_onward => k_is)
    (case yf_Reader_states => k_is)
    (case a0 => k_is)
    (case l0 => k_is)
    (case c0 => k_is)
    (case k0 => k_is)
    (case a1 => k_is)
    (case l1 => k_is)
    (case c1 => k_is)
    (case k1 => k_is)
    (case a2 => k_is)
    (case l2 => k_is)
    (case c2 => k_is)
    (case k2 => k_is)
    (case a3 => k_is)
    (case l3 => k_is)
    (case c3 => k_is)
    (case k3 => k_is)
    (case a4 => k_is)
    (case l4 => k_is)
    (case c4 => k_is)
    (case k4 => k_is)
    (case a5 => k_is)
    (case l5 => k_is)
    (case c5 => k_is)
    (case k5 => k_is)
    (case a6 => k_is)
    (case l6 => k_is)
    (case c6 => k_is)
    (case k6 => k_is)
    (case a7 => k_is)
    (case l7 => k_is)
    (case c7 => k_is)
    (case k7 => k_is)
    (case a8 => k_is)
    (case l8 => k_is)
    (case c8 => k_is)
    (case k8 => k_is)
    (case a9 => k_is)
    (case l9 => k_is)
    (case c9 => k_is)
    (case k9 => k_is)
    (case a10 => k_is)
    (case l10 => k_is)
    (case c10 => k_is)
    (case k10 => k_is)
    (case a11 => k_is)
    (case l11 => k_is)
    (case c11 => k_is)
    (case k11 => k_is)
    (case a12 => k_is)
    (case l12 => k_is)
    (case c12 => k_is)
    (case k12 => k_is)
    (case a13 => k_is)
    (case l13 => k_is)
    (case c13 => k_is)
    (case k13 => k_is)
    (case a14 => k_is)
    (case l14 => k_is)
    (case c14 => k_is)
    (case k14 => k_is)
    (case is14 => k_is)
    (case mk14 => k_is)
    (case a15 => k_is)
    (case pg15 => k_is)
    (case pt15 => k_is)
    (case pr15 => k_is)
    (case l15 => k_is)
    (case c15 => k_is)
    (case k15 => k_is)
    (case a16 => k_is)
    (case pg16 => k_is)
    (case pt16 => k_is)
    (case pr16 => k_is)
    (case l16 => k_is)
    (case c16 => k_is)
    (case k16 => k_is)
    (case a17 => k_is)
    (case pg17 => k_is)
    (case pt17 => k_is)
    (case pr17 => k_is)
    (case l17 => k_is)
    (case c17 => k_is)
    (case k17 => k_is)
    (case a18 => k_is)
    (case l18 => k_is)
    (case c18 => k_is)
    (case k18 => k_is)
    (case is18 => k_is)
    (case fn18 => k_is)
    (case a19 => k_is)
    (case l19 => k_is)
    (case c19 => k_is)
    (case k19 => k_is)
    (case is19 => k_is)
    (case fn19 => k_is)
    (case a20 => k_is)
    (case l20 => k_is)
    (case c20 => k_is)
    (case k20 => k_is)
    (case a21 => k_is)
    (case l21 => k_is)
    (case c21 => k_is)
    (case k21 => k_is)
    (case a22 => k_is)
    (case l22 => k_is)
    (case c22 => k_is)
    (case k22 => k_is)
    (case a23 => k_is)
    (case l23 => k_is)
    (case c23 => k_is)
    (case k23 => k_is)
    (case a24 => k_is)
    (case l24 => k_is)
    (case c24 => k_is)
    (case k24 => k_is)
    (case a25 => k_is)
    (case l25 => k_is)
    (case c25 => k_is)
    (case k25 => k_is)
    (case a26 => k_is)
    (case l26 => k_is)
    (case c26 => k_is)
    (case k26 => k_is)
    (case a27 => k_is)
    (case l27 => k_is)
    (case c27 => k_is)
    (case k27 => k_is)
    (case a28 => k_is)
    (case l28 => k_is)
    (case c28 => k_is)
    (case k28 => k_is)
    (case a29 => k_is)
    (case l29 => k_is)
    (case c29 => k_is)
    (case k29 => k_is)
    (case a30 => k_is)
    (case l30 => k_is)
    (case c30 => k_is)
    (case k30 => k_is)
    (case a31 => k_is)
    (case l31 => k_is)
    (case c31 => k_is)
    (case k31 => k_is)
    (case a32 => k_is)
    (case l32 => k_is)
    (case c32 => k_is)
    (case k32 => k_is)
    (case a33 => k_is)
    (case l33 => k_is)
    (case c33 => k_is)
    (case k33 => k_is)
    (case a34 => k_is)
    (case l34 => k_is)
    (case c34 => k_is)
    (case k34 => k_is)
    (case z_abs => k_is)
    (case z_all => k_is)
    (case z_bool => k_is)
    (case z_enumerate => k_is)
    (case z_int => k_is)
    (case z_isinstance => k_is)
    (case z_len => k_is)
    (case z_list => k_is)
    (case z_max => k_is)
    (case z_min => k_is)
    (case z_range => k_is)
    (case z_repr => k_is)
    (case z_sorted => k_is)
    (case z_str => k_is)
    (case z_sum => k_is)
    (case z_tuple => k_is)
    (case z_zip => k_is)
    (case aL_l_came => k_is)
    (case lL_l_came => k_is)
    (case cL_l_came => k_is)
    (case kL_l_came => k_is)
    (case t_l_right => refine' DL.tab_eq ?tba ?tbl ?tbc ?tbd ?tbp; (case tba => k_is); (case tbl => k_is); (case tbc => exact rfl); (case tbd => k_is); (case tbp => exact rfl))
    (case u_l_right => kernel_rfl)
    (case t_law => refine' DL.tab_eq ?tba ?tbl ?tbc ?tbd ?tbp; (case tba => k_is); (case tbl => k_is); (case tbc => exact rfl); (case tbd => k_is); (case tbp => exact rfl))
    (case u_law => kernel_rfl)
    (case ne_law_l_right => first | rfl | decide)
    (case v_MAX_DIGITS => k_is)
    (case v_MAX_STATES => k_is)
    (case v_MAX_ALPHABET => k_is)
    (case xa0 => k_is)
    (case xs0 => k_is)
    (case xt0 => k_is)
    (case xh0 => k_is)
    (case xq0 => k_exc)
    (case xk0 => k_is)
    (case xa1 => k_is)
    (case xs1 => k_is)
    (case xt1 => k_is)
    (case xh1 => k_is)
    (case xk1 => k_is)
    (case xq1 => kernel_rfl)
    (case xo1 => kernel_rfl)
    (case xr1 => kernel_rfl)
    (case xf1 => k_is)
    (case xg1 => k_is)
    (case xd1 => k_is)
    (case xn1 => k_is)
    (case xi1 => k_is)
    (case xy1 => k_is)
    (case xl1 => k_is)
    (case xc1 => k_is)
    (case xa2 => k_is)
    (case xs2 => k_is)
    (case xt2 => k_is)
    (case xh2 => k_is)
    (case xq2 => k_exc)
    (case xk2 => k_is)
    (case xa3 => k_is)
    (case xs3 => k_is)
    (case xt3 => k_is)
    (case xh3 => k_is)
    (case xk3 => k_is)
    (case xq3 => kernel_rfl)
    (case xo3 => kernel_rfl)
    (case xr3 => kernel_rfl)
    (case xf3 => k_is)
    (case xg3 => k_is)
    (case xd3 => k_is)
    (case xn3 => k_is)
    (case xi3 => k_is)
    (case xy3 => k_is)
    (case xl3 => k_is)
    (case xc3 => k_is)
    (case xe2_0 => k_is)
    (case xe2_1 => k_is)
    (case xe2_2 => k_is)
    (case xe2_3 => k_is)
    (case xe3_0 => k_is)
    (case xe3_1 => k_is)
    (case xe3_2 => k_is)
    (case xe3_3 => k_is)
  case Hm => exact fun ns h1 h2 => KX.math ns h1 h2
