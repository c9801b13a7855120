import PyProof.Rows.All
import Wide.All
import OpenK.AllK
import Wide.FinOn
import HandS.ForMost
import HandS.Zip
import HandS.Conv
import HandS.TupAny
import HandS.TupLe
import HandS.Wide
import HandS.Style
import HandS.IsInst
import HandS.Flow
import HandS.More
import HandS.Walk
import HandS.MakeKwOnly
import HandS.Evl
import HandS.TupSets
import HandS.TupMul
import HandS.Deep
import HandS.DictComp
import HandS.DictTup
import HandS.SortInts
import HandS.SortRule
import HandS.ListItems
import PySem.Challenge.RW_deltamill_k12_terms_by_values
set_option Elab.async false
set_option linter.all false
set_option maxRecDepth 100000
set_option maxHeartbeats 8000000
/-! The common layer of the laws about deltamill: defs by name, moments, pots. -/
namespace L2
open PySem PySem.Spec PyProof.Rows

/-! ### defs by name -/
/-- the def x stands behind the top -/
def Top (K : PySem.W.Frag) (mg : Str → Option Value) (x : Str) (st : Stmt) (ps : List Str) : Prop :=
  ∃ (f : Addr) (fd : FuncData), Fun K x x st f fd ∧ mg x = some (.ref f) ∧ Binds K fd ps []
/-- the def x keeps the promise sp -/
def Def (P : Program) (w : World) (K : PySem.W.Frag) (mg : Str → Option Value) (base : Heap) (x : Str) (k : Nat) (ps : List Str) (sp : Sp) : Prop :=
  ∃ (f : Addr) (fd : FuncData), FnOk P w K mg base CX0 k f fd ps sp ∧ mg x = some (.ref f) ∧ PySem.W.keepIn K (.ref f) = true ∧ Binds K fd ps [] ∧ ∃ (oc : Value) (od : Option Addr) (osl : Array (Option Value)), K.lookup f = some ⟨oc, od, .func fd, osl⟩
/-- .. and is called by keywords -/
def DefK (P : Program) (w : World) (K : PySem.W.Frag) (mg : Str → Option Value) (base : Heap) (x : Str) (k : Nat) (ps ks : List Str) (gV : List V → List V → List V) (sp : Sp) : Prop :=
  ∃ (f : Addr) (fd : FuncData) (g : List Value → List Value → List Value), FnOk P w K mg base CX0 k f fd ps sp ∧ mg x = some (.ref f) ∧ PySem.W.keepIn K (.ref f) = true ∧ KBinds K fd ps ks g gV
def TopK (K : PySem.W.Frag) (mg : Str → Option Value) (x : Str) (st : Stmt) (ps ks : List Str) (gV : List V → List V → List V) : Prop :=
  ∃ (f : Addr) (fd : FuncData) (g : List Value → List Value → List Value), Fun K x x st f fd ∧ mg x = some (.ref f) ∧ KBinds K fd ps ks g gV
section
variable {P : Program} {w : World} {K : PySem.W.Frag} {mg : Str → Option Value} {base : Heap} {x : Str} {st : Stmt} {ps N : List Str} {k : Nat} {sp : Sp}
theorem mk_def (T : Top K mg x st ps) (S : FnScope N ps (defScope st)) (len : ∀ vs H Q E, sp vs H Q E → vs.length = ps.length)
    (hbody : ∀ (f : Addr) (cdv : Value) (A : Around) (outer : List Env) (s : Shared) (H : Hp) (vs : List V) (Q : VK) (E : XK), Room k (A.deeper (envOfC x (defScope st) s.heap.objs.size f cdv)) → sp vs H Q E →
      ∃ t, PSs (cxOf CX0 P w K mg base N x (defScope st) f cdv A outer s H E).nox (defBody st) t ∧ t { nx := fun _ H' => Q .non H', rt := Q } (start N vs) H) :
    Def P w K mg base x (k + 1) ps sp := by
  obtain ⟨f, fd, F, g, b⟩ := T
  obtain ⟨oc, _, _, _, _, _, _, _, osl, _, lk, _⟩ := id F.ex
  exact ⟨f, fd, F.ok S len (hbody f), g, F.kp, b, _, _, _, lk⟩
theorem Def.kw {ks : List Str} {gV : List V → List V → List V} (D : Def P w K mg base x k ps sp) (T : TopK K mg x st ps ks gV) : DefK P w K mg base x k ps ks gV sp := by
  obtain ⟨f, fd, F, g, kp, _, _, _, _, lk⟩ := D
  obtain ⟨f', fd', g', F', m', b'⟩ := T
  obtain rfl : f' = f := Value.ref.inj (Option.some.inj (m'.symm.trans g))
  obtain ⟨oc, _, _, _, _, _, _, _, osl, _, lk', _⟩ := id F'.ex
  rw [lk] at lk'
  cases lk'
  exact ⟨f', fd, g', F, g, kp, b'⟩
theorem Def.mono {j : Nat} (h : Def P w K mg base x j ps sp) (hk : j ≤ k) : Def P w K mg base x k ps sp := by
  obtain ⟨f, fd, F, r⟩ := h
  exact ⟨f, fd, F.mono hk, r⟩
end
section
variable {X : Cx} {x : Str} {k : Nat} {ps : List Str} {sp : Sp} {p pos : Pos} {e : Expr} {es : List Expr} {t : TA}
/-- f(e, ..) -/
theorem pe_def (D : Def X.prog X.w X.K X.mg X.base x k ps sp) (hr : Room k X.A) (hg : Gl X x) (ha : PA X (e :: es) t) (hdb : (x == ("__debug__" : Str)) = false := by decide)
    (he : starEach (e :: es) X.env = (false, eval e X.env) :: starEach es X.env := by rfl) (hpl : (backTo pos (starEach es X.env)).any (·.1) = false := by rfl) :
    PE X (.Call (.Name x p) (e :: es) [] pos) (tCall sp [] E0 t) := by
  obtain ⟨f, fd, F, g, kp, b, _⟩ := D
  exact pe_call F hr hg g kp b .nil pass0 ha hdb he hpl
/-- f(k = v, ..) -/
theorem pe_defK0 {ks : List Str} {gV : List V → List V → List V} {kws : List Keyword} {tk : TA} (D : DefK X.prog X.w X.K X.mg X.base x k ps ks gV sp) (hr : Room k X.A) (hg : Gl X x) (hkw : PK X kws tk)
    (hall : (backToKw pos (keywordEach kws X.env)).all (·.1.isSome) = true := by rfl) (hks : (backToKw pos (keywordEach kws X.env)).filterMap (·.1) = ks := by rfl) (hdb : (x == ("__debug__" : Str)) = false := by decide)
    (hpl : ((backTo pos (starEach [] X.env)).any (·.1) || (backToKw pos (keywordEach kws X.env)).any (·.1.isNone)) = false := by rfl) :
    PE X (.Call (.Name x p) [] kws pos) (tCallK sp gV E0 tNil tk) := by
  obtain ⟨f, fd, g, F, hm, kp, b⟩ := D
  refine ⟨fun pins s σ H Q I h => ?_⟩
  refine wpAny_Call_Name_kw (ld_glob I hg hm ?_ hdb)
  refine PySem.W.callWith_KW0 (h₀ := X.base) I.ok.mod.kin kp hall ?_ hpl
  refine thn (hkw.run pos pins s σ H _ I h) fun ws s2 ⟨zs, H2, I2, rz, q2⟩ => ⟨I2.kIn, ?_⟩
  rw [hks]
  exact run_fnk (us := []) (vs := []) F hr b pass0 I2 .nil rz q2
end
/-! ### heaps -/
/-- all that was tracked but p stays -/
def SameB (p : Addr) (H H' : Hp) : Prop := ∀ b o, b ≠ p → H b = some o → H' b = some o
theorem SameB.refl (p : Addr) (H : Hp) : SameB p H H := fun _ _ _ h => h
theorem SameB.trans {p : Addr} {H H1 H2 : Hp} (a : SameB p H H1) (b : SameB p H1 H2) : SameB p H H2 := fun c o n h => b c o n (a c o n h)
theorem Same.b {p : Addr} {H H' : Hp} (a : Same H H') : SameB p H H' := fun c o _ h => a c o h
theorem SameB.upd {p : Addr} {H : Hp} {o : HO} : SameB p H (upd H p o) := fun b u n h => by
  rw [upd_ne n]
  exact h
theorem same_upd {H : Hp} {p : Addr} {o : HO} (h : H p = none) : Same H (upd H p o) := fun b x e => by
  rw [upd_ne (ne_of_none e h)]
  exact e
/-- a new object may change -/
theorem Same.mut {H H' : Hp} {p : Addr} {o : HO} (e : Same H H') (h : H p = none) : Same H (upd H' p o) := fun a u ha => by
  rw [upd_ne (ne_of_none ha h)]
  exact e a u ha
theorem Same.seqT {K : PySem.W.Frag} {H H' : Hp} {a : Addr} {xs : List V} (e : Same H H') (h : SqT K H a xs) : SqT K H' a xs := by
  rcases h with (h | ⟨o, h⟩) | h
  · exact .inl (.inl (e _ _ h))
  · exact .inl (.inr ⟨o, e _ _ h⟩)
  · exact .inr h
theorem Same.new {H H1 : Hp} {p : Addr} (e : Same H H1) (h : H1 p = none) : H p = none := by
  cases q : H p with
  | none => rfl
  | some o =>
    rw [e p o q] at h
    cases h
end L2

namespace L2
open PySem PySem.Spec PyProof.Rows

/-! ### data: tuples are tracked -/
mutual
inductive Da (K : PySem.W.Frag) (H : Hp) : V → PyData → Prop
  | non : Da K H .non .none
  | bl (b : Bool) : Da K H (.bl b) (.bool b)
  | int (i : Int) : Da K H (.int i) (.int i)
  | str (x : Str) : Da K H (.str x) (.str x)
  | lst {a : Addr} {xs : List V} {ds : List PyData} : SqL K H a xs → DaAll K H xs ds → Da K H (.ref a) (.list ds)
  | tup {a : Addr} {xs : List V} {ds : List PyData} : H a = some (.tup xs) → DaAll K H xs ds → Da K H (.ref a) (.tuple ds)
inductive DaAll (K : PySem.W.Frag) (H : Hp) : List V → List PyData → Prop
  | nil : DaAll K H [] []
  | cons {v : V} {vs : List V} {d : PyData} {ds : List PyData} : Da K H v d → DaAll K H vs ds → DaAll K H (v :: vs) (d :: ds)
end
mutual
theorem Da.dp {K : PySem.W.Frag} {H : Hp} : ∀ (d : PyData) (v : V), Da K H v d → Dp K H v d
  | .none, _, h => by
    cases h
    exact .non
  | .bool b, _, h => by
    cases h
    exact .bl b
  | .int i, _, h => by
    cases h
    exact .int i
  | .str x, _, h => by
    cases h
    exact .str x
  | .tuple ds, _, h => by
    cases h with
    | tup hs ha => exact .tup (SqT.of hs) (Da.dpAll ds _ ha)
  | .list ds, _, h => by
    cases h with
    | lst hs ha => exact .lst hs (Da.dpAll ds _ ha)
  | .dict _, _, h => by cases h
theorem Da.dpAll {K : PySem.W.Frag} {H : Hp} : ∀ (ds : List PyData) (vs : List V), DaAll K H vs ds → DpAll K H vs ds
  | [], _, h => by
    cases h
    exact .nil
  | d :: ds, _, h => by
    cases h with
    | cons h1 h2 => exact .cons (Da.dp d _ h1) (Da.dpAll ds _ h2)
end
/-! ### tuples stay -/
def ST (_ : PySem.W.Frag) (H H' : Hp) : Prop := ∀ a xs, H a = some (.tup xs) → H' a = some (.tup xs)
theorem ST.refl {K : PySem.W.Frag} (H : Hp) : ST K H H := fun _ _ h => h
theorem ST.trans {K : PySem.W.Frag} {H H1 H2 : Hp} (a : ST K H H1) (b : ST K H1 H2) : ST K H H2 := fun x o h => b x o (a x o h)
theorem Same.st {K : PySem.W.Frag} {H H' : Hp} (e : Same H H') : ST K H H' := fun _ _ h => e _ _ h
/-- what is no tuple may change -/
def NoTup : HO → Prop
  | .tup _ => False
  | _ => True
theorem SameB.st {K : PySem.W.Frag} {H H' : Hp} {p : Addr} {o : HO} (e : SameB p H H') (h : H p = some o) (n : NoTup o) : ST K H H' := fun a xs q => by
  refine e a _ (fun z => ?_) q
  subst z
  rw [h] at q
  cases q
  exact n
theorem st_upd {K : PySem.W.Frag} {H : Hp} {p : Addr} {o u : HO} (h : H p = some o) (n : NoTup o) : ST K H (upd H p u) := SameB.st SameB.upd h n

/-! ### immutable data -/
mutual
def imm : PyData → Bool
  | .none => true
  | .bool _ => true
  | .int _ => true
  | .str _ => true
  | .tuple ds => immAll ds
  | .list _ => false
  | .dict _ => false
def immAll : List PyData → Bool
  | [] => true
  | d :: ds => imm d && immAll ds
end
mutual
theorem Da.st {K : PySem.W.Frag} {H H' : Hp} (e : ST K H H') : ∀ (d : PyData) (v : V), imm d = true → Da K H v d → Da K H' v d
  | .none, _, _, h => by
    cases h
    exact .non
  | .bool b, _, _, h => by
    cases h
    exact .bl b
  | .int i, _, _, h => by
    cases h
    exact .int i
  | .str x, _, _, h => by
    cases h
    exact .str x
  | .tuple ds, _, hi, h => by
    cases h with
    | tup hs ha => exact .tup (e _ _ hs) (Da.stAll e ds _ hi ha)
  | .list _, _, hi, _ => by cases hi
  | .dict _, _, hi, _ => by cases hi
theorem Da.stAll {K : PySem.W.Frag} {H H' : Hp} (e : ST K H H') : ∀ (ds : List PyData) (vs : List V), immAll ds = true → DaAll K H vs ds → DaAll K H' vs ds
  | [], _, _, h => by
    cases h
    exact .nil
  | d :: ds, _, hi, h => by
    cases h with
    | cons h1 h2 =>
      have hi' : (imm d && immAll ds) = true := hi
      rw [Bool.and_eq_true] at hi'
      exact .cons (Da.st e d _ hi'.1 h1) (Da.stAll e ds _ hi'.2 h2)
end
mutual
/-- all that was tracked stays: data of any kind -/
theorem Da.same {K : PySem.W.Frag} {H H' : Hp} (e : Same H H') : ∀ (d : PyData) (v : V), Da K H v d → Da K H' v d
  | .none, _, h => by
    cases h
    exact .non
  | .bool b, _, h => by
    cases h
    exact .bl b
  | .int i, _, h => by
    cases h
    exact .int i
  | .str x, _, h => by
    cases h
    exact .str x
  | .tuple ds, _, h => by
    cases h with
    | tup hs ha => exact .tup (e _ _ hs) (Da.sameAll e ds _ ha)
  | .list ds, _, h => by
    cases h with
    | lst hs ha => exact .lst (e.seq hs) (Da.sameAll e ds _ ha)
  | .dict _, _, h => by cases h
theorem Da.sameAll {K : PySem.W.Frag} {H H' : Hp} (e : Same H H') : ∀ (ds : List PyData) (vs : List V), DaAll K H vs ds → DaAll K H' vs ds
  | [], _, h => by
    cases h
    exact .nil
  | d :: ds, _, h => by
    cases h with
    | cons h1 h2 => exact .cons (Da.same e d _ h1) (Da.sameAll e ds _ h2)
end
theorem DaAll.length {K : PySem.W.Frag} {H : Hp} : ∀ {vs : List V} {ds : List PyData}, DaAll K H vs ds → vs.length = ds.length
  | _, _, .nil => rfl
  | _, _, .cons _ t => congrArg (· + 1) (DaAll.length t)
theorem DaAll.snoc {K : PySem.W.Frag} {H : Hp} {v : V} {d : PyData} (h : Da K H v d) : ∀ {vs : List V} {ds : List PyData}, DaAll K H vs ds → DaAll K H (vs ++ [v]) (ds ++ [d])
  | _, _, .nil => .cons h .nil
  | _, _, .cons r t => .cons r (DaAll.snoc h t)
theorem DaAll.append {K : PySem.W.Frag} {H : Hp} {us : List V} {es : List PyData} (h : DaAll K H us es) : ∀ {vs : List V} {ds : List PyData}, DaAll K H vs ds → DaAll K H (vs ++ us) (ds ++ es)
  | _, _, .nil => h
  | _, _, .cons r t => .cons r (DaAll.append h t)
theorem DaAll.get {K : PySem.W.Frag} {H : Hp} : ∀ {vs : List V} {ds : List PyData} {i : Nat} {v : V}, DaAll K H vs ds → vs[i]? = some v → ∃ d, ds[i]? = some d ∧ Da K H v d
  | _, _, _, _, .nil, e => by simp at e
  | _, _, 0, _, .cons r _, e => by
    simp at e
    subst e
    exact ⟨_, rfl, r⟩
  | _, _, i + 1, v, .cons _ t, e => by
    obtain ⟨d, h1, h2⟩ := DaAll.get (i := i) (v := v) t (by simpa using e)
    exact ⟨d, by simpa using h1, h2⟩
theorem DaAll.at {K : PySem.W.Frag} {H : Hp} : ∀ {vs : List V} {ds : List PyData} {i : Nat} {d : PyData}, DaAll K H vs ds → ds[i]? = some d → ∃ v, vs[i]? = some v ∧ Da K H v d
  | _, _, _, _, .nil, e => by simp at e
  | _, _, 0, _, .cons r _, e => by
    simp at e
    subst e
    exact ⟨_, rfl, r⟩
  | _, _, i + 1, d, .cons _ t, e => by
    obtain ⟨v, h1, h2⟩ := DaAll.at (i := i) (d := d) t (by simpa using e)
    exact ⟨v, by simpa using h1, h2⟩
theorem DaAll.ints {K : PySem.W.Frag} {H : Hp} : ∀ {vs : List V} {ns : List Int}, DaAll K H vs (ns.map PyData.int) → vs = ns.map V.int
  | _, [], .nil => rfl
  | _, n :: ns, .cons r t => by
    cases r
    rw [DaAll.ints (ns := ns) t]
    rfl
theorem da_ints {K : PySem.W.Frag} {H : Hp} : ∀ ns : List Int, DaAll K H (ns.map V.int) (ns.map PyData.int)
  | [] => .nil
  | n :: ns => .cons (.int n) (da_ints ns)
theorem imm_ints : ∀ ns : List Int, immAll (ns.map PyData.int) = true
  | [] => rfl
  | n :: ns => by
    show (imm (.int n) && immAll (ns.map PyData.int)) = true
    rw [imm_ints ns]
    rfl
/-- a moment (or a row of ints) -/
def mo (m : List Int) : PyData := .tuple (m.map .int)
abbrev Mo (K : PySem.W.Frag) (H : Hp) (v : V) (m : List Int) : Prop := Da K H v (mo m)
theorem imm_mo (m : List Int) : imm (mo m) = true := imm_ints m
theorem Mo.inv {K : PySem.W.Frag} {H : Hp} {v : V} {m : List Int} (h : Mo K H v m) : ∃ a, v = .ref a ∧ SqT K H a (m.map V.int) := by
  cases h with
  | tup hs ha =>
    rw [DaAll.ints ha] at hs
    exact ⟨_, rfl, SqT.of hs⟩
theorem Mo.trk {K : PySem.W.Frag} {H : Hp} {v : V} {m : List Int} (h : Mo K H v m) : ∃ a, v = .ref a ∧ H a = some (.tup (m.map V.int)) := by
  cases h with
  | tup hs ha =>
    rw [DaAll.ints ha] at hs
    exact ⟨_, rfl, hs⟩
theorem Mo.of {K : PySem.W.Frag} {H : Hp} {a : Addr} {m : List Int} (h : H a = some (.tup (m.map V.int))) : Mo K H (.ref a) m := .tup h (da_ints m)
theorem Mo.st {K : PySem.W.Frag} {H H' : Hp} {v : V} {m : List Int} (h : Mo K H v m) (e : ST K H H') : Mo K H' v m := Da.st e _ _ (imm_mo m) h
theorem Mo.same {K : PySem.W.Frag} {H H' : Hp} {v : V} {m : List Int} (h : Mo K H v m) (e : Same H H') : Mo K H' v m := h.st e.st

/-! ### walks -/
theorem walk_zipT {K : PySem.W.Frag} {a b : Addr} {xs ys : List V} (hl : xs.length = ys.length) : Walk (RZ.ItzT K a b) xs.length (fun H => SqT K H a xs ∧ SqT K H b ys) (YPair (fun i => xs[i]?) (fun i => ys[i]?)) := by
  refine ⟨fun i _ hi q => ?_, fun _ q => ⟨xs, ys, q.1, q.2, .inl (Nat.le_refl _)⟩, fun i H v H' _ q y => ?_⟩
  · have h2 : i < ys.length := by omega
    exact ⟨xs, ys, xs[i], ys[i], q.1, q.2, by simp [hi], by simp [h2]⟩
  · obtain ⟨T, x, z, h1, h2, h3, h4, h5⟩ := y
    exact ⟨T, x, z, h1, h2, h3, h4 xs q.1, h5 ys q.2⟩

/-! ### comprehensions -/
section
variable {J : It} {n : Nat} {G : Hp → Prop} {Y : Nat → Hp → V → Hp → Prop} {K : PySem.W.Frag}
/-- what lc_it gives, by name -/
abbrev LcGoal (J : It) (g : TG) (tt : TT) (te : TE) (vs : List Nat) (σ : L2.St) (H1 : Hp) (D : Addr) (Qd : Hp → Prop) : Prop :=
  ∃ W : Nat → Nat → Hp → Prop, (∃ m, W 0 m (upd H1 D (.lst []))) ∧ ∀ i m H, W i m H →
      (J.stop i H ∧ Qd H) ∨ (J.go i H ∧ ∃ Nx : Hp → Prop, (∀ H', Nx H' → ∃ m', m' < m ∧ W (i + 1) m' H') ∧ ∀ x H', J.yld i H x H' → g x (wipe σ vs) H' fun σ2 H2 => wipe σ2 vs = wipe σ vs ∧ tt σ2 H2 fun b H3 =>
        if b = true then te σ2 H3 fun y H4 => ∃ acc, H4 D = some (.lst acc) ∧ acc.length < sizeLine ∧ Nx (upd H4 D (.lst (acc ++ [y]))) else Nx H3)
/-- all elements are values told ahead -/
theorem lc_val (w : Walk J n G Y) {g : TG} {te : TE} {vs : List Nat} {σ : L2.St} {H1 : Hp} {D : Addr} {Qd : Hp → Prop} (hD : H1 D = none) (hn : n ≤ 100000) (hG : ∀ H, Same H1 H → G H) (fs : List V) (hl : fs.length = n)
    (step : ∀ i x H H' (Q : VK), i < n → Same H1 H → Y i H x H' → (∀ y H4, Same H H4 → fs[i]? = some y → Q y H4) → g x (wipe σ vs) H' fun σ2 H2 => wipe σ2 vs = wipe σ vs ∧ te σ2 H2 Q)
    (hd : ∀ H, Same H1 H → H D = some (.lst fs) → Qd H) : LcGoal J g tYes te vs σ H1 D Qd := by
  refine lc_it w (fun i H => Same H1 H ∧ H D = some (.lst (fs.take i))) ⟨same_upd hD, upd_same⟩ (fun i H _ p => hG H p.1) (fun i x H H' hi p y => ?_) (fun H p => ?_)
  · refine step i x H H' _ hi p.1 y fun v H4 e he => ⟨_, e _ _ p.2, ?_, (p.1.trans e).mut hD, ?_⟩
    · rw [List.length_take]
      exact Nat.lt_of_le_of_lt (Nat.min_le_left _ _) (Nat.lt_of_lt_of_le hi (Nat.le_trans hn (by decide)))
    · rw [upd_same, List.take_add_one, he]
      rfl
  · refine hd H p.1 ?_
    rw [p.2, List.take_of_length_le (Nat.le_of_eq hl)]
/-- all elements are immutable data told ahead -/
theorem lc_dat (w : Walk J n G Y) {g : TG} {te : TE} {vs : List Nat} {σ : L2.St} {H1 : Hp} {D : Addr} {Qd : Hp → Prop} (hD : H1 D = none) (hn : n ≤ 100000) (hG : ∀ H, Same H1 H → G H) (ds : List PyData) (hl : ds.length = n) (him : immAll ds = true)
    (step : ∀ i x H H' (Q : VK), i < n → Same H1 H → Y i H x H' → (∀ y H4 d, Same H H4 → ds[i]? = some d → Da K H4 y d → Q y H4) → g x (wipe σ vs) H' fun σ2 H2 => wipe σ2 vs = wipe σ vs ∧ te σ2 H2 Q)
    (hd : ∀ H acc, Same H1 H → H D = some (.lst acc) → DaAll K H acc ds → Qd H) : LcGoal J g tYes te vs σ H1 D Qd := by
  have himt : ∀ i, immAll (ds.take i) = true := by
    have : ∀ (l : List PyData) (i : Nat), immAll l = true → immAll (l.take i) = true := by
      intro l
      induction l with
      | nil => intro i _; cases i <;> rfl
      | cons d l ih =>
        intro i h
        have h' : (imm d && immAll l) = true := h
        rw [Bool.and_eq_true] at h'
        cases i with
        | zero => rfl
        | succ i =>
          show (imm d && immAll (l.take i)) = true
          rw [h'.1, ih i h'.2]
          rfl
    exact fun i => this ds i him
  refine lc_it w (fun i H => Same H1 H ∧ ∃ acc, H D = some (.lst acc) ∧ DaAll K H acc (ds.take i)) ⟨same_upd hD, [], upd_same, .nil⟩ (fun i H _ p => hG H p.1) (fun i x H H' hi p y => ?_) (fun H p => ?_)
  · obtain ⟨p1, acc, p2, p3⟩ := p
    refine step i x H H' _ hi p1 y fun v H4 d e he hv => ⟨acc, e _ _ p2, ?_, (p1.trans e).mut hD, _, upd_same, ?_⟩
    · rw [p3.length, List.length_take]
      exact Nat.lt_of_le_of_lt (Nat.min_le_left _ _) (Nat.lt_of_lt_of_le hi (Nat.le_trans hn (by decide)))
    · rw [List.take_add_one, he]
      have e4 : H4 D = some (.lst acc) := e _ _ p2
      have st : ST K H4 (upd H4 D (.lst (acc ++ [v]))) := st_upd e4 True.intro
      have hid : imm d = true := by
        have : ∀ (l : List PyData) (i : Nat), immAll l = true → l[i]? = some d → imm d = true := by
          intro l
          induction l with
          | nil => intro i _ h; simp at h
          | cons d' l ih =>
            intro i h h2
            have h' : (imm d' && immAll l) = true := h
            rw [Bool.and_eq_true] at h'
            cases i with
            | zero =>
              simp at h2
              subst h2
              exact h'.1
            | succ i => exact ih i h'.2 (by simpa using h2)
        exact this ds i him he
      exact DaAll.snoc (Da.st st _ _ hid hv) (Da.stAll (e.st.trans st) _ _ (himt i) p3)
  · obtain ⟨p1, acc, p2, p3⟩ := p
    rw [List.take_of_length_le (Nat.le_of_eq hl)] at p3
    exact hd H acc p1 p2 p3
end
/-! ### short names of readings -/
abbrev yAdd : R2 := rI0 fun i j => .int (i + j)
abbrev ySub : R2 := rI0 fun i j => .int (i - j)
abbrev yMul : R2 := rI CMul fun i j => .int (i * j)
abbrev yDiv : R2 := rI CDivW fun i j => .int (i / j)
abbrev yMod : R2 := rI (fun _ j => 0 < j) fun i j => .int (i % j)
abbrev yPow : R2 := rI CPow fun i j => .int (i ^ j.toNat)
abbrev yLt : R2 := rI0 fun i j => .bl (decide (i < j))
abbrev yLe : R2 := rI0 fun i j => .bl (decide (i ≤ j))
abbrev yGt : R2 := rI0 fun i j => .bl (decide (j < i))
abbrev yGe : R2 := rI0 fun i j => .bl (decide (j ≤ i))
abbrev yNeg : V → Hp → VK → Prop := rU fun i => .int (-i)
abbrev yLen (K : PySem.W.Frag) : List V → Hp → VK → Prop := fun vs H Q => ∃ p ys, vs = [.ref p] ∧ (SqL K H p ys ∨ SqT K H p ys) ∧ Q (.int ys.length) H
abbrev yMax : List V → Hp → VK → Prop := fun vs H Q => ∃ i j, vs = [.int i, .int j] ∧ Q (.int (if j > i then j else i)) H
abbrev yMin : List V → Hp → VK → Prop := fun vs H Q => ∃ i j, vs = [.int i, .int j] ∧ Q (.int (if j < i then j else i)) H
abbrev yInt : List V → Hp → VK → Prop := fun vs H Q => (∃ i, vs = [.int i] ∧ Q (.int i) H) ∨ ∃ k, vs = [.bl k] ∧ Q (.int (if k then 1 else 0)) H
abbrev yTup (K : PySem.W.Frag) : List V → Hp → VK → Prop := fun vs H Q => ∃ p ys, vs = [.ref p] ∧ ((SqL K H p ys ∧ ∀ l, H l = none → Q (.ref l) (upd H l (.tup ys))) ∨ (SqT K H p ys ∧ Q (.ref p) H))
abbrev yLst (K : PySem.W.Frag) : List V → Hp → VK → Prop := fun vs H Q => ∃ p ys, vs = [.ref p] ∧ (SqL K H p ys ∨ SqT K H p ys) ∧ ∀ l, H l = none → Q (.ref l) (upd H l (.lst ys))
theorem hu64 {A : Around} {k : Nat} (hr : Room k A) : A.units + 64 < cLine := by
  have := hr.un
  omega
theorem hu0 {A : Around} {k : Nat} (hr : Room k A) : A.units < cLine := by
  have := hr.un
  omega
end L2

namespace L2
open PySem PySem.Spec PyProof.Rows
theorem immAll_append : ∀ {a b : List PyData}, immAll a = true → immAll b = true → immAll (a ++ b) = true
  | [], _, _, h => h
  | d :: a, b, h1, h2 => by
    have h' : (imm d && immAll a) = true := h1
    rw [Bool.and_eq_true] at h'
    show (imm d && immAll (a ++ b)) = true
    rw [h'.1, immAll_append h'.2 h2]
    rfl
theorem immAll_at {d : PyData} : ∀ {l : List PyData} {i : Nat}, immAll l = true → l[i]? = some d → imm d = true
  | [], _, _, h => by simp at h
  | e :: l, i, h1, h2 => by
    have h' : (imm e && immAll l) = true := h1
    rw [Bool.and_eq_true] at h'
    cases i with
    | zero =>
      simp at h2
      subst h2
      exact h'.1
    | succ i => exact immAll_at h'.2 (by simpa using h2)
theorem immAll_take : ∀ {l : List PyData} (i : Nat), immAll l = true → immAll (l.take i) = true
  | [], i, _ => by cases i <;> rfl
  | e :: l, i, h1 => by
    have h' : (imm e && immAll l) = true := h1
    rw [Bool.and_eq_true] at h'
    cases i with
    | zero => rfl
    | succ i =>
      show (imm e && immAll (l.take i)) = true
      rw [h'.1, immAll_take i h'.2]
      rfl
theorem immAll_of : ∀ {l : List PyData}, (∀ d ∈ l, imm d = true) → immAll l = true
  | [], _ => rfl
  | e :: l, h => by
    show (imm e && immAll l) = true
    rw [h e List.mem_cons_self, immAll_of fun d hd => h d (List.mem_cons_of_mem _ hd)]
    rfl
theorem sz1000' {n : Nat} (h : n ≤ 100000) : n ≤ sizeLine := Nat.le_trans h (by decide)
section
variable {J J1 : It} {n n1 : Nat} {G G1 : Hp → Prop} {Y Y1 : Nat → Hp → V → Hp → Prop} {K : PySem.W.Frag}
/-- two clauses, the inner one over a thing that stands still; immutable data told ahead -/
theorem lc2_dat (w : Walk J n G Y) (w1 : Walk J1 n1 G1 Y1) {wi1 : TI} {g g1 : TG} {te : TE} {vs vs1 : List Nat} {σ : L2.St} {H1 : Hp} {D : Addr} {Qd : Hp → Prop} (hD : H1 D = none) (hn : n * n1 ≤ 100000)
    (hG : ∀ H, Same H1 H → G H) (hG1 : ∀ H, Same H1 H → G1 H) (ds : Nat → List PyData) (hl : ∀ i, i < n → (ds i).length = n1) (him : ∀ i, i < n → immAll (ds i) = true)
    (step : ∀ i x H H' (Q : L2.St → Hp → Prop), i < n → Same H1 H → Y i H x H' →
      (∀ σ2 H2, Same H H2 → wipe σ2 vs = wipe σ vs → ((∀ H3 R, Same H2 H3 → R J1 H3 → wi1 σ2 H3 R) ∧
        (∀ j y H3 H3' (Q' : VK), j < n1 → Same H1 H3 → ST K H2 H3 → Y1 j H3 y H3' → (∀ z H4 d, Same H3 H4 → (ds i)[j]? = some d → Da K H4 z d → Q' z H4) → g1 y (wipe σ2 vs1) H3' fun σ3 H5 => wipe σ3 vs1 = wipe σ2 vs1 ∧ te σ3 H5 Q')) → Q σ2 H2) → g x (wipe σ vs) H' Q)
    (hd : ∀ H acc, Same H1 H → H D = some (.lst acc) → DaAll K H acc ((List.range n).map ds).flatten → Qd H) :
    ∃ W : Nat → Nat → Hp → Prop, (∃ m, W 0 m (upd H1 D (.lst []))) ∧ ∀ i m H, W i m H →
      (J.stop i H ∧ Qd H) ∨ (J.go i H ∧ ∃ Nx : Hp → Prop, (∀ H', Nx H' → ∃ m', m' < m ∧ W (i + 1) m' H') ∧ ∀ x H', J.yld i H x H' → g x (wipe σ vs) H' fun σ2 H2 => wipe σ2 vs = wipe σ vs ∧ tYes σ2 H2 fun b H3 =>
        if b = true then wi1 σ2 H3 fun J1 H4 => ∃ W1 : Nat → Nat → Hp → Prop, (∃ m, W1 0 m H4) ∧ ∀ j k H, W1 j k H →
          (J1.stop j H ∧ Nx H) ∨ (J1.go j H ∧ ∃ Nx1 : Hp → Prop, (∀ H', Nx1 H' → ∃ k', k' < k ∧ W1 (j + 1) k' H') ∧ ∀ x H', J1.yld j H x H' → g1 x (wipe σ2 vs1) H' fun σ3 H5 => wipe σ3 vs1 = wipe σ2 vs1 ∧ tYes σ3 H5 fun b H6 =>
            if b = true then te σ3 H6 fun y H7 => ∃ acc, H7 D = some (.lst acc) ∧ acc.length < sizeLine ∧ Nx1 (upd H7 D (.lst (acc ++ [y]))) else Nx1 H6)
        else Nx H3) := by
  have flen : ∀ i, i ≤ n → ((List.range i).map ds).flatten.length = i * n1 := by
    intro i
    induction i with
    | zero => intro _; simp
    | succ i ih =>
      intro h
      rw [List.range_succ, List.map_append, List.flatten_append, List.length_append, ih (by omega)]
      simp [hl i (by omega), Nat.succ_mul]
  have fimm : ∀ i, i ≤ n → immAll ((List.range i).map ds).flatten = true := by
    intro i
    induction i with
    | zero => intro _; rfl
    | succ i ih =>
      intro h
      rw [List.range_succ, List.map_append, List.flatten_append]
      refine immAll_append (ih (by omega)) ?_
      simpa using him i (by omega)
  have fsnoc : ∀ i, ((List.range (i + 1)).map ds).flatten = ((List.range i).map ds).flatten ++ ds i := by
    intro i
    rw [List.range_succ, List.map_append, List.flatten_append]
    simp
  refine ⟨fun i m H => m = n - i ∧ i ≤ n ∧ Same H1 H ∧ ∃ acc, H D = some (.lst acc) ∧ DaAll K H acc ((List.range i).map ds).flatten, ⟨n, by simp, Nat.zero_le _, same_upd hD, [], upd_same, .nil⟩, ?_⟩
  rintro i m H ⟨rfl, hi, p1, acc, p2, p3⟩
  by_cases hlt : i < n
  · refine .inr ⟨w.goes i H hlt (hG H p1), fun H' => Same H1 H' ∧ ∃ acc, H' D = some (.lst acc) ∧ DaAll K H' acc ((List.range (i + 1)).map ds).flatten, fun H' ⟨q1, q2⟩ => ⟨n - (i + 1), by omega, rfl, hlt, q1, q2⟩, fun x H' y => ?_⟩
    refine step i x H H' _ hlt p1 (w.yields i H x H' hlt (hG H p1) y) fun σ2 H2 e2 ws ⟨hin, el⟩ => ?_
    refine ⟨ws, ?_⟩
    show wi1 σ2 H2 _
    refine hin H2 _ (Same.refl _) ?_
    refine ⟨fun j k H => k = n1 - j ∧ j ≤ n1 ∧ Same H1 H ∧ ST K H2 H ∧ ∃ acc, H D = some (.lst acc) ∧ DaAll K H acc (((List.range i).map ds).flatten ++ (ds i).take j), ⟨n1, by simp, Nat.zero_le _, p1.trans e2, ST.refl _, acc, e2 _ _ p2, ?_⟩, ?_⟩
    · rw [List.take_zero, List.append_nil]
      exact Da.sameAll e2 _ _ p3
    · rintro j k H3 ⟨rfl, hj, q1, qb, acc3, q2, q3⟩
      by_cases hjl : j < n1
      · refine .inr ⟨w1.goes j H3 hjl (hG1 H3 q1), fun H' => Same H1 H' ∧ ST K H2 H' ∧ ∃ acc, H' D = some (.lst acc) ∧ DaAll K H' acc (((List.range i).map ds).flatten ++ (ds i).take (j + 1)), fun H' ⟨r1, r2⟩ => ⟨n1 - (j + 1), by omega, rfl, hjl, r1, r2⟩, fun x3 H3' y3 => ?_⟩
        refine el j x3 H3 H3' _ hjl q1 qb (w1.yields j H3 x3 H3' hjl (hG1 H3 q1) y3) fun z H4 d e4 hd4 hz => ?_
        have e5 : H4 D = some (.lst acc3) := e4 _ _ q2
        have st : ST K H4 (upd H4 D (.lst (acc3 ++ [z]))) := st_upd e5 True.intro
        refine ⟨acc3, e5, ?_, (q1.trans e4).mut hD, (qb.trans e4.st).trans st, _, upd_same, ?_⟩
        · have l3 := q3.length
          rw [List.length_append, flen i hi, List.length_take] at l3
          have hle : (i + 1) * n1 ≤ n * n1 := Nat.mul_le_mul_right _ hlt
          rw [Nat.succ_mul] at hle
          refine Nat.lt_of_lt_of_le ?_ (sz1000' hn)
          have : min j (ds i).length ≤ j := Nat.min_le_left _ _
          omega
        · rw [List.take_add_one, hd4, ← List.append_assoc]
          exact DaAll.snoc (Da.st st _ _ (immAll_at (him i hlt) hd4) hz) (Da.stAll (e4.st.trans st) _ _ (immAll_append (fimm i hi) (immAll_take j (him i hlt))) q3)
      · have ej : j = n1 := by omega
        subst ej
        refine .inl ⟨w1.stops H3 (hG1 H3 q1), q1, acc3, q2, ?_⟩
        rw [fsnoc]
        rw [List.take_of_length_le (Nat.le_of_eq (hl i hlt))] at q3
        exact q3
  · have e : i = n := by omega
    subst e
    exact .inl ⟨w.stops H (hG H p1), hd H acc p1 p2 p3⟩
/-- a comprehension with a test: values told ahead -/
theorem lc_val_if (w : Walk J n G Y) {g : TG} {tt : TT} {te : TE} {vs : List Nat} {σ : L2.St} {H1 : Hp} {D : Addr} {Qd : Hp → Prop} (hD : H1 D = none) (hn : n ≤ 100000) (hG : ∀ H, Same H1 H → G H) (bs : Nat → Bool) (fs : Nat → V)
    (step : ∀ i x H H' (Q : VK) (R : Hp → Prop), i < n → Same H1 H → Y i H x H' → (∀ H4, bs i = true → Same H H4 → Q (fs i) H4) → (∀ H3, bs i = false → Same H H3 → R H3) →
      g x (wipe σ vs) H' fun σ2 H2 => wipe σ2 vs = wipe σ vs ∧ tt σ2 H2 fun b H3 => if b = true then te σ2 H3 Q else R H3)
    (hd : ∀ H, Same H1 H → H D = some (.lst (((List.range n).filter bs).map fs)) → Qd H) : LcGoal J g tt te vs σ H1 D Qd := by
  refine lc_it w (fun i H => Same H1 H ∧ H D = some (.lst (((List.range i).filter bs).map fs))) ⟨same_upd hD, upd_same⟩ (fun i H _ p => hG H p.1) (fun i x H H' hi p y => ?_) (fun H p => hd H p.1 p.2)
  refine step i x H H' _ _ hi p.1 y (fun H4 hb e => ⟨_, e _ _ p.2, ?_, (p.1.trans e).mut hD, ?_⟩) fun H3 hb e => ⟨p.1.trans e, ?_⟩
  · rw [List.length_map]
    refine Nat.lt_of_le_of_lt (List.length_filter_le _ _) ?_
    rw [List.length_range]
    exact Nat.lt_of_lt_of_le hi (Nat.le_trans hn (by decide))
  · rw [upd_same, List.range_succ, List.filter_append, List.map_append]
    simp [hb]
  · rw [e _ _ p.2, List.range_succ, List.filter_append, List.map_append]
    simp [hb]
end
theorem SameB.mut {p q : Addr} {H H' : Hp} {o : HO} (e : SameB p H H') (h : H q = none) : SameB p H (L2.upd H' q o) := fun a u n ha => by
  rw [upd_ne (ne_of_none ha h)]
  exact e a u n ha
theorem SameB.fresh {p q : Addr} {H H' : Hp} (e : SameB p H H') (hp : ∃ o, H p = some o) (h : H' q = none) (hp' : ∃ o, H' p = some o) : H q = none := by
  cases z : H q with
  | none => rfl
  | some o =>
    by_cases hq : q = p
    · subst hq
      obtain ⟨o', ho'⟩ := hp'
      rw [h] at ho'
      cases ho'
    · rw [e q o hq z] at h
      cases h
theorem SameB.seqT {K : PySem.W.Frag} {p a : Addr} {H H' : Hp} {l xs : List V} (e : SameB p H H') (hp : H p = some (.lst l)) (h : SqT K H a xs) : SqT K H' a xs := by
  rcases h with (h | ⟨o, h⟩) | h
  · exact .inl (.inl (e _ _ (ne_of h hp (by intro z; cases z)) h))
  · exact .inl (.inr ⟨o, e _ _ (ne_of h hp (by intro z; cases z)) h⟩)
  · exact .inr h
/-- a lock and its key: behind the unlocking all is as it was -/
theorem same_unlock {d : Addr} {o : Obj} {u : HO} {H H' : Hp} (h : H d = some u) (e : Same (upd H d (.frz o u)) H') : Same H (upd H' d u) := fun a x ha => by
  by_cases z : a = d
  · subst z
    rw [upd_same, ← h, ha]
  · rw [upd_ne z]
    exact e a x (by rw [upd_ne z]; exact ha)
theorem same_lock {d : Addr} {o : Obj} {u : HO} {H H' : Hp} (e : Same (upd H d (.frz o u)) H') : SameB d H H' := fun a x n ha => e a x (by rw [upd_ne n]; exact ha)
end L2

namespace L2
open PySem PySem.Spec PyProof.Rows
/-! ### x in o, by the class's own __contains__ -/
def rInOwn (C : Addr) (sp : Sp) (E : XK) : R2 := fun x y H Q => ∃ a dx fs, y = .ref a ∧ H a = some (.ins C dx fs) ∧ sp [.ref a, x] H (fun v H' => ∃ b, v = .bl b ∧ Q (.bl b) H') E
section
variable {X : Cx} {CX : CXT} {k : Nat} {C f : Addr} {fd : FuncData} {ps : List Str} {sp : Sp} {E : XK}
theorem op_inOwn (F : FnOk X.prog X.w X.K X.mg X.base CX k f fd ps sp) (hs : PySem.W.findIn X.K (.ref C) "__contains__" = some (some (.ref f))) (hf : PySem.W.isFn X.K (.ref f) = true) (hb : Binds X.K fd ps []) (hx : Passes CX X E) (hr : Room k X.A) : OpR X (compareOp .In) (rInOwn C sp E) := by
  intro pins s σ H x y v u Q I rx ry h
  obtain ⟨a, dx, fs, rfl, ha, q⟩ := h
  cases ry
  obtain ⟨mA, J, _⟩ := ins_get I.hok ha
  obtain ⟨od, J, _⟩ := J.look
  obtain ⟨m, hF⟩ := I.fr
  refine PySem.W.in_K hF I.ok.mod.kin J hs hf ?_
  have q2 : sp ([V.ref a, x] ++ []) H (fun v H' => ∃ b, v = V.bl b ∧ Q (.bl b) H') E := q
  refine thn (run_fn (us := [.ref a, v]) (vs := [.ref a, x]) (dvs := []) F hr hb .nil hx I (.cons rfl (.cons rx .nil)) q2) fun r s' hz => ?_
  obtain ⟨z, H', I', rz, b, ez, q'⟩ := hz
  subst ez
  cases rz
  exact wpAny_truthy_bool ⟨V.bl b, H', I', rfl, q'⟩
/-- o.m(k = v, ..) -/
def tMethK0 (m : Str) (C : Addr) (sp : Sp) (gV : List V → List V → List V) (E : XK) (ta : TE) (tk : TA) : TE := fun σ H Q => ta σ H fun x H1 => ∃ a dx fs, x = .ref a ∧ H1 a = some (.ins C dx fs) ∧ fs.lookup m = none ∧ tk σ H1 fun zs H2 => sp (gV [x] zs) H2 Q E
theorem pe_methK0 {m : Str} {o : Expr} {apos pos : Pos} {ta : TE} {tk : TA} {kws : List Keyword} {ks : List Str} {g : List Value → List Value → List Value} {gV : List V → List V → List V} {pl : Sem Bool} (he : PE X o ta) (c : Cls X.K C) (hm : Meth X.K C m f)
    (F : FnOk X.prog X.w X.K X.mg X.base CX k f fd ps sp) (hr : Room k X.A) (hb : KBinds X.K fd ps ks g gV) (hx : Passes CX X E) (hkw : PK X kws tk)
    (hall : (backToKw pos (keywordEach kws X.env)).all (·.1.isSome) = true := by rfl) (hks : (backToKw pos (keywordEach kws X.env)).filterMap (·.1) = ks := by rfl)
    (hpl : ((backTo pos (starEach [] X.env)).any (·.1) || (backToKw pos (keywordEach kws X.env)).any (·.1.isNone)) = false := by rfl)
    (ht : eval (.Call (.Attribute o m apos) [] kws pos) X.env = (do
      let ov ← eval o X.env
      standAt apos.atName
      let (f, first) ← holding [ov] (getMethod ov m pl)
      callWith pos f first (backTo pos (starEach [] X.env)) (backToKw pos (keywordEach kws X.env))) := by rfl) :
    PE X (.Call (.Attribute o m apos) [] kws pos) (tMethK0 m C sp gV E ta tk) := by
  refine ⟨fun pins s σ H Q I h => ?_⟩
  refine PySem.W.methodCall_KW (pl := pl) (thn (he.run pins s σ H _ I h) fun u s1 ⟨x, H1, I1, rx, a, dx, fs, ex, ea, l, q⟩ => ?_) ht
  subst ex
  obtain rfl : u = Value.ref a := rx
  refine getmeth_ok I1 ea c hm l ?_
  refine PySem.W.callWith_KW0 (first := [.ref a]) (h₀ := X.base) I.ok.mod.kin hm.kp hall ?_ hpl
  refine thn (hkw.run pos pins s1 σ H1 _ I1 q) fun ws s2 ⟨zs, H2, I2, rz, q2⟩ => ⟨I2.kIn, ?_⟩
  rw [hks]
  exact run_fnk (us := [.ref a]) (vs := [.ref a]) F hr hb hx I2 (.cons rfl .nil) rz q2
end
/-! ### tuple * int, 1 included -/
theorem tuple_mul1 (l : Addr) (items : Array Value) (n : Nat) (dd : Option Addr) (sl : Array (Option Value)) (u : Tok) :
    Meets (Builtin.«tuple.__mul__» ⟨[.ref l, .int 1 u], []⟩) (fun _ R s => s.heap.get? l = some { cls := .type "tuple", dict := dd, data := .seq items n, slots := sl } ∧ R (.ok (.ret (Value.ref l))) s) :=
  .of_wp fun prog w A R s h => by
    obtain ⟨hp, g, d, tk, os⟩ := s
    obtain ⟨hl, h⟩ := h
    have f1 := AutoSeq1.idx_int
    wp_walk using wpAny_loadPart' hl
    exact ⟨_, rfl, h⟩
def rRepA (K : PySem.W.Frag) : R2 := fun x y H Q => (∃ l xs, x = .ref l ∧ y = .int 1 ∧ SqT K H l xs ∧ Q (.ref l) H) ∨ rRepT K x y H Q
theorem op_repA {X : Cx} : OpR X (binaryOp .Mult) (rRepA X.K) := by
  intro pins s σ H x y v u Q I rx ry h
  rcases h with h | h
  · obtain ⟨l, xs, rfl, rfl, hT, q⟩ := h
    cases rx
    obtain ⟨t, rfl⟩ := ry
    obtain ⟨its, r, ⟨⟨cls, dd, data, sl⟩, ho, hc, n, hd⟩, hs⟩ := I.tuple hT
    simp only at hc hd
    subst hc hd
    refine wpAny_binaryOp_repeat_ref (T := "tuple") (U := "int") (by decide) ⟨_, ho, rfl⟩ (fun s' => typeIs_int s' 1 t) noFill_tuple_mul F.fills_int_mul F.slot_int_rmul repeat_tuple F.slot_int_index.lookup
      (call_meets F.slot_int_rmul (typeIs_int s 1 t) F.entry_int_rmul (F.args_int_rmul_2 _ _) (int_rmul_tuple 1 t l its.toArray n dd sl)
        ⟨ho, rfl, ⟨_, ho, rfl⟩, call_meets F.slot_tuple_mul ⟨_, ho, rfl⟩ F.entry_tuple_mul (F.args_tuple_mul_2 _ _) (tuple_mul1 l its.toArray n dd sl t) ⟨ho, ?_⟩⟩)
    exact ⟨.ref l, H, I, rfl, q⟩
  · exact op_repT pins s σ H x y v u Q I rx ry h

theorem hu65 {A : Around} {k : Nat} (hr : Room k A) : A.units + 65 < cLine := by
  have := hr.un
  omega
theorem pe_globI {X : Cx} {x : Str} {i : Int} {pos : Pos} (h : ∃ t, X.mg x = some (.int i t)) (hg : Gl X x) (hdb : (x == ("__debug__" : Str)) = false := by decide) : PE X (.Name x pos) (tC (.int i)) := by
  obtain ⟨t, h⟩ := h
  exact pe_glob hg h ⟨t, rfl⟩ hdb
/-- sorted(xs), fewer than 64 tuples of d ints in [0, B) -/
def rSortM (K : PySem.W.Frag) : List V → Hp → VK → Prop := fun vs H Q => ∃ d B, 1 ≤ d ∧ rSortU K d B vs H Q
theorem cr_sortM {X : Cx} : CallR X (.builtin "sorted") (rSortM X.K) := by
  intro pins s σ H vs us Q I r h
  obtain ⟨d, B, hd, h⟩ := h
  exact cr_sortT hd pins s σ H vs us Q I r h
/-! ### classes by name -/
/-- the def m stands in the class at C -/
def TopM (K : PySem.W.Frag) (C : Addr) (m qual : Str) (st : Stmt) (ps : List Str) : Prop :=
  ∃ (f : Addr) (fd : FuncData), Fun K m qual st f fd ∧ Meth K C m f ∧ Binds K fd ps []
def TopMK (K : PySem.W.Frag) (C : Addr) (m qual : Str) (st : Stmt) (ps ks : List Str) (gV : List V → List V → List V) : Prop :=
  ∃ (f : Addr) (fd : FuncData) (g : List Value → List Value → List Value), Fun K m qual st f fd ∧ Meth K C m f ∧ KBinds K fd ps ks g gV
def MethD (P : Program) (w : World) (K : PySem.W.Frag) (mg : Str → Option Value) (base : Heap) (C : Addr) (m : Str) (k : Nat) (ps : List Str) (sp : Sp) : Prop :=
  ∃ (f : Addr) (fd : FuncData), Meth K C m f ∧ FnOk P w K mg base CX0 k f fd ps sp ∧ Binds K fd ps [] ∧ ∃ (oc : Value) (od : Option Addr) (osl : Array (Option Value)), K.lookup f = some ⟨oc, od, .func fd, osl⟩
def MethDK (P : Program) (w : World) (K : PySem.W.Frag) (mg : Str → Option Value) (base : Heap) (C : Addr) (m : Str) (k : Nat) (ps ks : List Str) (gV : List V → List V → List V) (sp : Sp) : Prop :=
  ∃ (f : Addr) (fd : FuncData) (g : List Value → List Value → List Value), Meth K C m f ∧ FnOk P w K mg base CX0 k f fd ps sp ∧ KBinds K fd ps ks g gV
def MakeD (P : Program) (w : World) (K : PySem.W.Frag) (mg : Str → Option Value) (base : Heap) (C : Addr) (x : Str) (k : Nat) (ps : List Str) (sp : Sp) : Prop :=
  ∃ (f : Addr) (fd : FuncData), Mk K C f ∧ mg x = some (.ref C) ∧ FnOk P w K mg base CX0 k f fd ps sp ∧ Binds K fd ps []
section
variable {P : Program} {w : World} {K : PySem.W.Frag} {mg : Str → Option Value} {base : Heap} {C : Addr} {m qual x : Str} {st : Stmt} {ps N : List Str} {k : Nat} {sp : Sp}
theorem mk_meth (T : TopM K C m qual st ps) (S : FnScope N ps (defScope st)) (len : ∀ vs H Q E, sp vs H Q E → vs.length = ps.length)
    (hbody : ∀ (f : Addr) (cdv : Value) (A : Around) (outer : List Env) (s : Shared) (H : Hp) (vs : List V) (Q : VK) (E : XK), Room k (A.deeper (envOfC qual (defScope st) s.heap.objs.size f cdv)) → sp vs H Q E →
      ∃ t, PSs (cxOf CX0 P w K mg base N qual (defScope st) f cdv A outer s H E).nox (defBody st) t ∧ t { nx := fun _ H' => Q .non H', rt := Q } (start N vs) H) :
    MethD P w K mg base C m (k + 1) ps sp := by
  obtain ⟨f, fd, F, M, b⟩ := T
  obtain ⟨oc, _, _, _, _, _, _, _, osl, _, lk, _⟩ := id F.ex
  exact ⟨f, fd, M, F.ok S len (hbody f), b, _, _, _, lk⟩
theorem MethD.kw {ks : List Str} {gV : List V → List V → List V} (D : MethD P w K mg base C m k ps sp) (T : TopMK K C m qual st ps ks gV) : MethDK P w K mg base C m k ps ks gV sp := by
  obtain ⟨f, fd, M, F, b, _, _, _, lk⟩ := D
  obtain ⟨f', fd', g', F', M', b'⟩ := T
  have e := M'.at_.symm.trans M.at_
  obtain rfl : f' = f := Value.ref.inj (Option.some.inj (Option.some.inj e))
  obtain ⟨oc, _, _, _, _, _, _, _, osl, _, lk', _⟩ := id F'.ex
  rw [lk] at lk'
  cases lk'
  exact ⟨f', fd, g', M, F, b'⟩
theorem MethD.make (D : MethD P w K mg base C "__init__" k ps sp) (hm : PySem.W.makesIn K C = true) (hk : PySem.W.keepIn K (.ref C) = true) (hg : mg x = some (.ref C)) : MakeD P w K mg base C x k ps sp := by
  obtain ⟨f, fd, M, F, b, _⟩ := D
  exact ⟨f, fd, ⟨hm, M.at_, M.fn, hk⟩, hg, F, b⟩
end
section
variable {X : Cx} {C : Addr} {m x : Str} {k : Nat} {ps : List Str} {sp : Sp} {p pos apos : Pos} {o e : Expr} {es : List Expr} {ta : TE} {t : TA}
theorem pe_methM {pl : Sem Bool} (he : PE X o ta) (c : Cls X.K C) (D : MethD X.prog X.w X.K X.mg X.base C m k ps sp) (hr : Room k X.A) (ha : PA X (e :: es) t)
    (hst : starEach (e :: es) X.env = (false, eval e X.env) :: starEach es X.env := by rfl) (hpl : (backTo pos (starEach es X.env)).any (·.1) = false := by rfl)
    (ht : eval (.Call (.Attribute o m apos) (e :: es) [] pos) X.env = (do
      let ov ← eval o X.env
      standAt apos.atName
      let (f, first) ← holding [ov] (getMethod ov m pl)
      callWith pos f first (backTo pos (starEach (e :: es) X.env)) (backToKw pos (keywordEach [] X.env))) := by rfl) :
    PE X (.Call (.Attribute o m apos) (e :: es) [] pos) (tMeth C m sp [] E0 ta t) := by
  obtain ⟨f, fd, M, F, b, _⟩ := D
  exact pe_meth he c M F hr b .nil pass0 ha hst hpl ht
theorem pe_methM0 {pl : Sem Bool} (he : PE X o ta) (c : Cls X.K C) (D : MethD X.prog X.w X.K X.mg X.base C m k ps sp) (hr : Room k X.A)
    (ht : eval (.Call (.Attribute o m apos) [] [] pos) X.env = (do
      let ov ← eval o X.env
      standAt apos.atName
      let (f, first) ← holding [ov] (getMethod ov m pl)
      callWith pos f first (backTo pos (starEach [] X.env)) (backToKw pos (keywordEach [] X.env))) := by rfl) :
    PE X (.Call (.Attribute o m apos) [] [] pos) (tMeth C m sp [] E0 ta tNil) := by
  obtain ⟨f, fd, M, F, b, _⟩ := D
  exact pe_meth0 he c M F hr b .nil pass0 ht
theorem pe_methMK0 {pl : Sem Bool} {ks : List Str} {gV : List V → List V → List V} {kws : List Keyword} {tk : TA} (he : PE X o ta) (c : Cls X.K C) (D : MethDK X.prog X.w X.K X.mg X.base C m k ps ks gV sp) (hr : Room k X.A) (hkw : PK X kws tk)
    (hall : (backToKw pos (keywordEach kws X.env)).all (·.1.isSome) = true := by rfl) (hks : (backToKw pos (keywordEach kws X.env)).filterMap (·.1) = ks := by rfl)
    (hpl : ((backTo pos (starEach [] X.env)).any (·.1) || (backToKw pos (keywordEach kws X.env)).any (·.1.isNone)) = false := by rfl)
    (ht : eval (.Call (.Attribute o m apos) [] kws pos) X.env = (do
      let ov ← eval o X.env
      standAt apos.atName
      let (f, first) ← holding [ov] (getMethod ov m pl)
      callWith pos f first (backTo pos (starEach [] X.env)) (backToKw pos (keywordEach kws X.env))) := by rfl) :
    PE X (.Call (.Attribute o m apos) [] kws pos) (tMethK0 m C sp gV E0 ta tk) := by
  obtain ⟨f, fd, g, M, F, b⟩ := D
  exact pe_methK0 he c M F hr b pass0 hkw hall hks hpl ht
theorem pe_makeM (D : MakeD X.prog X.w X.K X.mg X.base C x k ps sp) (hr : Room (k + 1) X.A) (hg : Gl X x) (ha : PA X (e :: es) t) (hdb : (x == ("__debug__" : Str)) = false := by decide)
    (he : starEach (e :: es) X.env = (false, eval e X.env) :: starEach es X.env := by rfl) (hpl : (backTo pos (starEach es X.env)).any (·.1) = false := by rfl) :
    PE X (.Call (.Name x p) (e :: es) [] pos) (tMake C sp [] E0 t) := by
  obtain ⟨f, fd, M, hm, F, b⟩ := D
  exact pe_make M F hr hg hm b .nil pass0 ha hdb he hpl
theorem op_inM (D : MethD X.prog X.w X.K X.mg X.base C "__contains__" k ps sp) (hr : Room k X.A) : OpR X (compareOp .In) (rInOwn C sp E0) := by
  obtain ⟨f, fd, M, F, b, _⟩ := D
  exact op_inOwn F M.at_ M.fn b pass0 hr
end
/-- o.m(k = v): the object, then the value -/
def kwG {α : Type} : List α → List α → List α
  | [u], [w] => [u, w]
  | _, _ => []
theorem kw_rel : ∀ {vs : List V} {us : List Value} {zs : List V} {ws : List Value}, Vals vs us → Vals zs ws → Vals (kwG vs zs) (kwG us ws)
  | _, _, _, _, .nil, _ => .nil
  | _, _, _, _, .cons r .nil, .cons r' .nil => .cons r (.cons r' .nil)
  | _, _, _, _, .cons r .nil, .nil => .nil
  | _, _, _, _, .cons r .nil, .cons _ (.cons _ _) => .nil
  | _, _, _, _, .cons _ (.cons _ _), _ => .nil
theorem kw_binds {K : PySem.W.Frag} {fd : FuncData} {a b : Str} (h : ∀ (s : Shared) (u w : Value), K.In s.heap → BindsTo s fd ⟨[u], [(b, w)]⟩ [(a, u), (b, w)]) : KBinds K fd [a, b] [b] kwG kwG :=
  ⟨(fun s us ws X hl => match us, ws, hl with
    | [u], [w], _ => h s u w X
    | [], _, hl => nomatch hl
    | [_], [], hl => nomatch hl
    | [_], _ :: _ :: _, hl => nomatch hl
    | _ :: _ :: _, _, hl => nomatch hl), kw_rel⟩
end L2

namespace L2
open PySem PySem.Spec PyProof.Rows
/-- x & y, x | y by the class's own method; an object comes back -/
def rBinOwn (C : Addr) (sp : Sp) (E : XK) : R2 := fun x y H Q => ∃ a dx fs b dy gs, x = .ref a ∧ y = .ref b ∧ H a = some (.ins C dx fs) ∧ H b = some (.ins C dy gs) ∧ sp [.ref a, .ref b] H (fun v H' => ∃ c, v = .ref c ∧ Q (.ref c) H') E
theorem op_binM {X : Cx} {k : Nat} {C : Addr} {m : Str} {ps : List Str} {sp : Sp} {op : Operator} (hd : PySem.dunder op.info.2 = m) (D : MethD X.prog X.w X.K X.mg X.base C m k ps sp) (SF : PySem.W.selfFirst X.K C = true) (hr : Room k X.A) : OpR X (binaryOp op) (rBinOwn C sp E0) := by
  obtain ⟨f, fd, M, F, bd, _⟩ := D
  subst hd
  intro pins s σ H x y v u Q I rx ry h
  obtain ⟨a, dx, fs, b, dy, gs, rfl, rfl, ha, hb, q⟩ := h
  cases rx
  cases ry
  obtain ⟨mA, J, _⟩ := ins_get I.hok ha
  obtain ⟨mB, J', _⟩ := ins_get I.hok hb
  obtain ⟨od, J, _⟩ := J.look
  obtain ⟨od', J', _⟩ := J'.look
  obtain ⟨mm, hF⟩ := I.fr
  refine PySem.W.binop_K hF I.ok.mod.kin J J'.type SF M.at_ M.fn ?_
  have q2 : sp ([V.ref a, V.ref b] ++ []) H (fun v H' => ∃ c, v = V.ref c ∧ Q (.ref c) H') E0 := q
  refine thn (run_fn (us := [.ref a, .ref b]) (vs := [.ref a, .ref b]) (dvs := []) F hr bd .nil pass0 I (.cons rfl (.cons rfl .nil)) q2) fun r s' hz => ?_
  obtain ⟨z, H', I', rz, c, ez, q'⟩ := hz
  subst ez
  cases rz
  exact ⟨V.ref c, H', I', rfl, q'⟩
/-- what isinstance asks of a class -/
structure TxI (K : PySem.W.Frag) (C : Addr) : Prop where
  ha : PySem.W.findIn K (.ref C) "__class__" = some (some (.builtin "object.__class__"))
  hn : PySem.W.specialIn K (.builtin "object.__class__") "__get__" = some (some (.builtin "getset_descriptor.__get__"))
  htk : PySem.W.takesIn K (.builtin "object.__class__") = some true
  hm : PySem.W.mroIn K C (.type "object") = some true
  ko : PySem.W.kitOne K (.ref C) (.ref C) = some true
end L2
namespace L2
open PySem PySem.Spec PyProof.Rows
theorem kit_self {K : PySem.W.Frag} {C : Addr} : PySem.W.kitOne K (.ref C) (.ref C) = some true := by
  unfold PySem.W.kitOne
  rw [if_pos]
  simp
end L2

/-! sorted(d.items()) of a dict of whole numbers -/
namespace L2
open PySem PySem.Spec PyProof.Rows
abbrev yMulW : R2 := rI CMulW fun i j => .int (i * j)
abbrev yAbs : List V → Hp → VK → Prop := fun vs H Q => ∃ i, vs = [.int i] ∧ Q (.int (if i < 0 then -i else i)) H
def rItemsK : V → List V → Hp → VK → Prop := fun x xs H Q => ∃ (a : Addr) (kvs : List (Key × V)), x = .ref a ∧ xs = [] ∧ H a = some (.dK kvs) ∧ ∀ v, H v = none → Q (.ref v) (upd H v (DX.itemsO v a))
theorem mt_itemsK {X : Cx} : MtR X "dict.items" rItemsK := by
  intro pins s σ H x xs v us Q I rx rxs h
  obtain ⟨a, kvs, rfl, rfl, ha, q⟩ := h
  cases rx
  cases rxs
  obtain ⟨z, hd, vs, rel, o, es, ep, ho, hx, hdat, _⟩ := dk_of I.hok ha
  refine DT.callItems (es := es) (ep := ep) hd ⟨o, ho, hx, hdat⟩ ?_
  have hnew := I.hok.fresh (Nat.le_refl s.heap.objs.size)
  exact ⟨.ref s.heap.objs.size, _, I.laid (t' := s.toks) (fun b u e => Heap.get?_push_of_some _ e) (Nat.le_refl _) (DX.itemsO_ok (p := s.heap.objs.size) (d := a) (Heap.get?_push_size _ rfl)), rfl, q _ hnew⟩
theorem isPair_one {h : Heap} {v : Value} {x y x' y' : Int} (p : Srt.IsPair h v x y) (q : Srt.IsPair h v x' y') : (x, y) = (x', y') := by
  obtain ⟨a, o, t, u, n, e, ho, _, hd⟩ := p
  obtain ⟨a', o', t', u', n', e', ho', _, hd'⟩ := q
  rw [e] at e'
  cases e'
  rw [ho] at ho'
  cases ho'
  rw [hd] at hd'
  cases hd'
  rfl
theorem pairs_at {P : Program} {w : World} {es : List DictEntry} {vs : List (Key × Value)} (r : Pairs (mixKind P w) es vs) : ∀ {j : Nat} {e : DictEntry}, es[j]? = some e → ∃ k v, vs[j]? = some (k, v) ∧ keyIs k e.key = true ∧ e.val = v := by
  induction r with
  | nil => intro j e h; simp at h
  | @cons e0 kv es kvs h1 h2 _ ih =>
    intro j e h
    cases j with
    | zero =>
      simp at h
      subst h
      exact ⟨kv.1, kv.2, rfl, h1, h2⟩
    | succ j => exact ih (by simpa using h)
/-- a dict from whole numbers to whole numbers -/
abbrev dkI (L : List (Int × Int)) : List (Key × V) := L.map fun q => (Sum.inl q.1, V.int q.2)
def rSortItK : List V → Hp → VK → Prop := fun vs H Q => ∃ (p a : Addr) (L : List (Int × Int)), vs = [.ref p] ∧ H p = some (DX.itemsO p a) ∧ H a = some (.dK (dkI L)) ∧
  ∀ (H' : Hp) (l : Addr) (ts : List Addr) (M : List (Int × Int)), Same H H' → H l = none → M.Perm L → SrtO.Srtd SrtO.lexB M → H' l = some (.lst (ts.map V.ref)) → Paired (fun (t : Addr) (q : Int × Int) => H' t = some (.tup [.int q.1, .int q.2])) ts M → Q (.ref l) H'
theorem paired_map {α β : Type} {F : α → β → Prop} {f : α → β} : ∀ {l : List α}, (∀ x ∈ l, F x (f x)) → Paired F l (l.map f)
  | [], _ => .nil
  | x :: l, h => .cons (h x List.mem_cons_self) (paired_map fun y hy => h y (List.mem_cons_of_mem _ hy))
theorem cr_sortedItemsK {X : Cx} (hc : X.calm = true) : CallR X (.builtin "sorted") rSortItK := by
  intro pins s σ H xs us Q I r h
  obtain ⟨p, a, L, rfl, hp, ha, q⟩ := h
  obtain rfl := Vals.ref1 r
  have view : s.heap.IsItemsView p a := (show ObjOk X.prog X.w H s.heap p (DX.itemsO p a) from I.hok p _ hp).1
  obtain ⟨z, hd, vs, rel, o, es, ep, ho, hx, hdat, hk, hpr, hn⟩ := dk_of I.hok ha
  have l1 : L.length = vs.length := by
    have e := rel.length
    rwa [List.length_map] at e
  have l2 : es.size = vs.length := by
    have e := hpr.length
    simpa using e
  rw [List.length_map] at z
  have hh : X.A.handled = none := I.ok.hd hc
  refine DT.sortedI (es := es) (ep := ep) hh view ⟨o, ho, hx, hdat⟩ (by omega) fun h' tk as hk' hlt hl hG => ?_
  have nd : as.Nodup := List.Pairwise.imp (fun h => Nat.ne_of_lt h) hG.rise
  have asl : as.length = L.length := by omega
  -- what stands at each of the new pairs
  have made : ∀ (j : Nat) (b : Addr), as[j]? = some b → ∃ q : Int × Int, L[j]? = some q ∧ Srt.IsPair h' (.ref b) q.1 q.2 := by
    intro j b hj
    obtain ⟨en, he, hg⟩ := hG.pairs j b hj
    obtain ⟨k, v, hv, hkey, hval⟩ := pairs_at hpr (j := j) (e := en) (by simpa using he)
    obtain ⟨x, hx1, hx2⟩ := KV.at' rel hv
    rw [List.getElem?_map] at hx1
    cases hL : L[j]? with
    | none =>
      rw [hL] at hx1
      cases hx1
    | some qq =>
      rw [hL] at hx1
      have e1 : (Sum.inl qq.1, V.int qq.2) = (k, x) := Option.some.inj hx1
      injection e1 with e2 e3
      subst e2
      subst e3
      obtain ⟨t, ht⟩ := relV_key hkey
      obtain ⟨u, hu⟩ := hx2
      refine ⟨qq, rfl, b, _, t, u, 0, rfl, hg, rfl, ?_⟩
      rw [ht, hval, hu]
  obtain ⟨kf, hkf⟩ : ∃ kf : Addr → Int × Int, ∀ b ∈ as, Srt.IsPair h' (.ref b) (kf b).1 (kf b).2 := by
    have : ∀ b : Addr, ∃ qq : Int × Int, b ∈ as → Srt.IsPair h' (.ref b) qq.1 qq.2 := by
      intro b
      by_cases hb : b ∈ as
      · obtain ⟨j, hj⟩ := List.mem_iff_getElem?.mp hb
        obtain ⟨qq, _, hq⟩ := made j b hj
        exact ⟨qq, fun _ => hq⟩
      · exact ⟨(0, 0), fun y => absurd y hb⟩
    exact Classical.skolem.mp this
  have eL : as.map kf = L := by
    refine List.ext_getElem? fun j => ?_
    rw [List.getElem?_map]
    cases hj : as[j]? with
    | none =>
      have : L.length ≤ j := by
        have := List.getElem?_eq_none_iff.mp hj
        omega
      rw [List.getElem?_eq_none_iff.mpr this]
      rfl
    | some b =>
      obtain ⟨qq, h1, h2⟩ := made j b hj
      rw [h1]
      have := isPair_one (hkf b (List.mem_of_getElem? hj)) h2
      exact congrArg some this
  let kV2 : Value → Int × Int := fun v => match v with
    | .ref b => kf b
    | _ => (0, 0)
  have hob : (h'.push { cls := .type "list", data := .seq (as.map Value.ref).toArray }).get? h'.objs.size = some (seqObj "list" (as.map Value.ref).toArray 0) := Heap.get?_push_size _ rfl
  have ka : ∀ b o, h'.get? b = some o → (h'.push { cls := .type "list", data := .seq (as.map Value.ref).toArray }).get? b = some o := fun b o e => Heap.get?_push_of_some _ e
  have off : ∀ b o, h'.get? b = some o → b ≠ h'.objs.size := fun b o e => Nat.ne_of_lt (Heap.lt_size e)
  generalize hh2 : h'.push { cls := .type "list", data := .seq (as.map Value.ref).toArray } = h2 at hob ka ⊢
  have hp2 : ∀ v ∈ as.map Value.ref, Srt.IsPair h2 v (kV2 v).1 (kV2 v).2 := by
    intro v hv
    obtain ⟨b, hb, rfl⟩ := List.mem_map.mp hv
    exact (hkf b hb).keeps fun c oc e _ => ka c oc e
  have lenV : (as.map Value.ref).length ≤ sizeLine := by rw [List.length_map]; omega
  refine wpAny_call_entry PyProof.Rows.slot_list_sort ⟨_, hob, rfl⟩ PyProof.Rows.entry_list_sort
    (SrtO.list_sort_ord (s := { s with heap := h2, toks := tk }) (SrtO.swo_lex kV2) hob lenV (fun h2' => SrtO.pairs_sortableO (s := { s with heap := h2, toks := tk }) (by omega) hp2 fun oo e => ?_) fun out o1 o2 => ⟨.none, rfl, ?_⟩) (PyProof.Rows.args_list_sort _)
  · have e' : some oo = some (seqObj "list" (as.map Value.ref).toArray 0) := e.symm.trans hob
    cases e'
    intro c
    exact absurd (Value.type.inj c) (by decide)
  · show EP X pins σ Q (.ref h'.objs.size) { s with heap := sortedHeap h2 h'.objs.size (as.map Value.ref) out.toArray, toks := tk }
    have inV : ∀ v ∈ out, ∃ b ∈ as, v = Value.ref b := fun v hv => by
      obtain ⟨b, hb, e⟩ := List.mem_map.mp (o2.perm.mem_iff.mp hv)
      exact ⟨b, hb, e.symm⟩
    obtain ⟨ts, ets⟩ : ∃ ts : List Addr, out = ts.map Value.ref := by
      have : ∀ l : List Value, (∀ v ∈ l, ∃ b ∈ as, v = Value.ref b) → ∃ ts : List Addr, l = ts.map Value.ref := by
        intro l
        induction l with
        | nil => intro _; exact ⟨[], rfl⟩
        | cons v l ih =>
          intro hl'
          obtain ⟨b, _, e⟩ := hl' v List.mem_cons_self
          obtain ⟨ts, e2⟩ := ih fun y hy => hl' y (List.mem_cons_of_mem _ hy)
          exact ⟨b :: ts, by rw [e, e2]; rfl⟩
      exact this out inV
    subst ets
    have tsIn : ∀ b ∈ ts, b ∈ as := fun b hb => by
      obtain ⟨c, hc', e⟩ := inV (.ref b) (List.mem_map.mpr ⟨b, hb, rfl⟩)
      cases e
      exact hc'
    have tperm : ts.Perm as := by
      have e := o2.perm.map (fun v : Value => match v with
        | .ref b => b
        | _ => 0)
      have back : ∀ l : List Addr, (l.map Value.ref).map (fun v : Value => match v with
        | .ref b => b
        | _ => 0) = l := by
        intro l
        rw [List.map_map]
        exact List.map_id' l
      rwa [back, back] at e
    have M1 : (ts.map kf).Perm L := by
      rw [← eL]
      exact tperm.map kf
    have M2 : SrtO.Srtd SrtO.lexB (ts.map kf) := by
      have e : SrtO.Srtd SrtO.lexB ((ts.map Value.ref).map kV2) := SrtO.srtd_map o1
      rwa [List.map_map] at e
    have kF : ∀ b oo, b ≠ h'.objs.size → h2.get? b = some oo → (sortedHeap h2 h'.objs.size (as.map Value.ref) (ts.map Value.ref).toArray).get? b = some oo := fun b oo hb e => (PyProof.Rows.sortedHeap_old hb (Heap.lt_size e)).trans e
    have kS : ∀ b oo, s.heap.get? b = some oo → (sortedHeap h2 h'.objs.size (as.map Value.ref) (ts.map Value.ref).toArray).get? b = some oo := fun b oo e => kF b oo (off _ _ (hk' b oo e)) (ka b oo (hk' b oo e))
    obtain ⟨eF, heF⟩ := PyProof.Rows.sortedHeap_at (vs := as.map Value.ref) (out := (ts.map Value.ref).toArray) hob
    have I1 : Inv X pins σ H { s with heap := sortedHeap h2 h'.objs.size (as.map Value.ref) (ts.map Value.ref).toArray, toks := tk } := I.kept (t' := tk) kS
    have newL : H h'.objs.size = none := I.hok.fresh (Nat.le_of_lt hlt)
    have I2 : Inv X pins σ (upd H h'.objs.size (.lst (ts.map V.ref))) { s with heap := sortedHeap h2 h'.objs.size (as.map Value.ref) (ts.map Value.ref).toArray, toks := tk } :=
      I1.take (h' := sortedHeap h2 h'.objs.size (as.map Value.ref) (ts.map Value.ref).toArray) (t' := tk) (fun b ob _ e => e) (I.fpOk (Nat.le_of_lt hlt) newL) ⟨by rw [List.length_map, tperm.length_eq]; omega, ts.map Value.ref, eF, LiI.vals_refs ts, heF⟩
    obtain ⟨H2, I3, g, qt⟩ := DX.takeT (P := fun b us => us = [V.int (kf b).1, V.int (kf b).2]) I as _ I2 nd fun b hb => by
      have hbl : s.heap.objs.size ≤ b := Nat.le_of_lt (hG.above b hb)
      obtain ⟨c, oc, t, u, n, e, hoc, hcc, hdc⟩ := hkf b hb
      cases e
      refine ⟨hbl, ?_, _, rfl, fun H3 => ⟨by show 2 ≤ sizeLine; decide, [Value.int (kf b).1 t, Value.int (kf b).2 u], .cons ⟨t, rfl⟩ (.cons ⟨u, rfl⟩ .nil), ⟨oc, kF _ _ (off _ _ hoc) (ka _ _ hoc), hcc, n, hdc⟩⟩⟩
      rw [upd_ne (off _ _ hoc)]
      exact I.hok.fresh hbl
    have gr : Same H H2 := fun b oo e => g b oo (by rw [upd_ne (ne_of_none e newL)]; exact e)
    refine ⟨.ref h'.objs.size, H2, I3, rfl, q H2 h'.objs.size ts (ts.map kf) gr newL M1 M2 (g _ _ upd_same) (paired_map fun b hb => ?_)⟩
    obtain ⟨us, eu, hu⟩ := qt b (tsIn b hb)
    rw [hu, eu]
end L2

namespace L2
open PySem PySem.Spec PyProof.Rows
section
variable {J : It} {n : Nat} {G : Hp → Prop} {Y : Nat → Hp → V → Hp → Prop} {K : PySem.W.Frag}
/-- two clauses, the inner one over a thing of the turn; immutable data told ahead -/
theorem lc2_datV (w : Walk J n G Y) {wi1 : TI} {g g1 : TG} {te : TE} {vs vs1 : List Nat} {σ : L2.St} {H1 : Hp} {D : Addr} {Qd : Hp → Prop} (hD : H1 D = none)
    (hG : ∀ H, Same H1 H → G H) (ds : Nat → List PyData) (hn : ((List.range n).map ds).flatten.length ≤ 100000) (him : ∀ i, i < n → immAll (ds i) = true)
    (step : ∀ i x H H' (Q : L2.St → Hp → Prop), i < n → Same H1 H → Y i H x H' →
      (∀ σ2 H2, Same H H2 → wipe σ2 vs = wipe σ vs → (∃ (J1 : It) (G1 : Hp → Prop) (Y1 : Nat → Hp → V → Hp → Prop), Walk J1 (ds i).length G1 Y1 ∧ (∀ H, Same H2 H ∨ (Same H1 H ∧ ST K H2 H) → G1 H) ∧ (∀ H3 R, Same H2 H3 → R J1 H3 → wi1 σ2 H3 R) ∧
        (∀ j y H3 H3' (Q' : VK), j < (ds i).length → Same H1 H3 → ST K H2 H3 → Y1 j H3 y H3' → (∀ z H4 d, Same H3 H4 → (ds i)[j]? = some d → Da K H4 z d → Q' z H4) → g1 y (wipe σ2 vs1) H3' fun σ3 H5 => wipe σ3 vs1 = wipe σ2 vs1 ∧ te σ3 H5 Q')) → Q σ2 H2) → g x (wipe σ vs) H' Q)
    (hd : ∀ H acc, Same H1 H → H D = some (.lst acc) → DaAll K H acc ((List.range n).map ds).flatten → Qd H) :
    ∃ W : Nat → Nat → Hp → Prop, (∃ m, W 0 m (upd H1 D (.lst []))) ∧ ∀ i m H, W i m H →
      (J.stop i H ∧ Qd H) ∨ (J.go i H ∧ ∃ Nx : Hp → Prop, (∀ H', Nx H' → ∃ m', m' < m ∧ W (i + 1) m' H') ∧ ∀ x H', J.yld i H x H' → g x (wipe σ vs) H' fun σ2 H2 => wipe σ2 vs = wipe σ vs ∧ tYes σ2 H2 fun b H3 =>
        if b = true then wi1 σ2 H3 fun J1 H4 => ∃ W1 : Nat → Nat → Hp → Prop, (∃ m, W1 0 m H4) ∧ ∀ j k H, W1 j k H →
          (J1.stop j H ∧ Nx H) ∨ (J1.go j H ∧ ∃ Nx1 : Hp → Prop, (∀ H', Nx1 H' → ∃ k', k' < k ∧ W1 (j + 1) k' H') ∧ ∀ x H', J1.yld j H x H' → g1 x (wipe σ2 vs1) H' fun σ3 H5 => wipe σ3 vs1 = wipe σ2 vs1 ∧ tYes σ3 H5 fun b H6 =>
            if b = true then te σ3 H6 fun y H7 => ∃ acc, H7 D = some (.lst acc) ∧ acc.length < sizeLine ∧ Nx1 (upd H7 D (.lst (acc ++ [y]))) else Nx1 H6)
        else Nx H3) := by
  have fsnoc : ∀ i, ((List.range (i + 1)).map ds).flatten = ((List.range i).map ds).flatten ++ ds i := by
    intro i
    rw [List.range_succ, List.map_append, List.flatten_append]
    simp
  have fimm : ∀ i, i ≤ n → immAll ((List.range i).map ds).flatten = true := by
    intro i
    induction i with
    | zero => intro _; rfl
    | succ i ih =>
      intro h
      rw [fsnoc]
      exact immAll_append (ih (by omega)) (him i (by omega))
  have fle : ∀ k i, i + k = n → ((List.range i).map ds).flatten.length ≤ ((List.range n).map ds).flatten.length := by
    intro k
    induction k with
    | zero => intro i e; rw [show i = n by omega]; exact Nat.le_refl _
    | succ k ih =>
      intro i e
      have := ih (i + 1) (by omega)
      rw [fsnoc i, List.length_append] at this
      omega
  refine ⟨fun i m H => m = n - i ∧ i ≤ n ∧ Same H1 H ∧ ∃ acc, H D = some (.lst acc) ∧ DaAll K H acc ((List.range i).map ds).flatten, ⟨n, by simp, Nat.zero_le _, same_upd hD, [], upd_same, .nil⟩, ?_⟩
  rintro i m H ⟨rfl, hi, p1, acc, p2, p3⟩
  by_cases hlt : i < n
  · refine .inr ⟨w.goes i H hlt (hG H p1), fun H' => Same H1 H' ∧ ∃ acc, H' D = some (.lst acc) ∧ DaAll K H' acc ((List.range (i + 1)).map ds).flatten, fun H' ⟨q1, q2⟩ => ⟨n - (i + 1), by omega, rfl, hlt, q1, q2⟩, fun x H' y => ?_⟩
    refine step i x H H' _ hlt p1 (w.yields i H x H' hlt (hG H p1) y) fun σ2 H2 e2 ws ⟨J1, G1, Y1, w1, hG1, hin, el⟩ => ?_
    refine ⟨ws, ?_⟩
    show wi1 σ2 H2 _
    refine hin H2 _ (Same.refl _) ?_
    refine ⟨fun j k H => k = (ds i).length - j ∧ j ≤ (ds i).length ∧ Same H1 H ∧ ST K H2 H ∧ ∃ acc, H D = some (.lst acc) ∧ DaAll K H acc (((List.range i).map ds).flatten ++ (ds i).take j), ⟨(ds i).length, by simp, Nat.zero_le _, p1.trans e2, ST.refl _, acc, e2 _ _ p2, ?_⟩, ?_⟩
    · rw [List.take_zero, List.append_nil]
      exact Da.sameAll e2 _ _ p3
    · rintro j k H3 ⟨rfl, hj, q1, qb, acc3, q2, q3⟩
      by_cases hjl : j < (ds i).length
      · refine .inr ⟨w1.goes j H3 hjl (hG1 H3 (.inr ⟨q1, qb⟩)), fun H' => Same H1 H' ∧ ST K H2 H' ∧ ∃ acc, H' D = some (.lst acc) ∧ DaAll K H' acc (((List.range i).map ds).flatten ++ (ds i).take (j + 1)), fun H' ⟨r1, r2⟩ => ⟨(ds i).length - (j + 1), by omega, rfl, hjl, r1, r2⟩, fun x3 H3' y3 => ?_⟩
        refine el j x3 H3 H3' _ hjl q1 qb (w1.yields j H3 x3 H3' hjl (hG1 H3 (.inr ⟨q1, qb⟩)) y3) fun z H4 d e4 hd4 hz => ?_
        have e5 : H4 D = some (.lst acc3) := e4 _ _ q2
        have st : ST K H4 (upd H4 D (.lst (acc3 ++ [z]))) := st_upd e5 True.intro
        refine ⟨acc3, e5, ?_, (q1.trans e4).mut hD, (qb.trans e4.st).trans st, _, upd_same, ?_⟩
        · have l3 := q3.length
          rw [List.length_append, List.length_take] at l3
          have hle := fle (n - (i + 1)) (i + 1) (by omega)
          rw [fsnoc i, List.length_append] at hle
          refine Nat.lt_of_lt_of_le ?_ (sz1000' hn)
          have : min j (ds i).length ≤ j := Nat.min_le_left _ _
          omega
        · rw [List.take_add_one, hd4, ← List.append_assoc]
          exact DaAll.snoc (Da.st st _ _ (immAll_at (him i hlt) hd4) hz) (Da.stAll (e4.st.trans st) _ _ (immAll_append (fimm i hi) (immAll_take j (him i hlt))) q3)
      · have ej : j = (ds i).length := by omega
        subst ej
        refine .inl ⟨w1.stops H3 (hG1 H3 (.inr ⟨q1, qb⟩)), q1, acc3, q2, ?_⟩
        rw [fsnoc]
        rw [List.take_length] at q3
        exact q3
  · have e : i = n := by omega
    subst e
    exact .inl ⟨w.stops H (hG H p1), hd H acc p1 p2 p3⟩
end
end L2

namespace K12
open PySem PySem.Spec PyProof.Rows L2
def topS (i : Nat) : Stmt := PySem.Challenge.pw_deltamill_k12_terms_by_values.main.body.getD i (.Pass ⟨0, 0, 0, 0⟩)
abbrev swithout_zeros : Stmt := topS 1
abbrev Nwithout_zeros : List Str := ["counts", "key"]
theorem scwithout_zeros : FnScope Nwithout_zeros ["counts"] (defScope swithout_zeros) := ⟨rfl, rfl, rfl, by decide +kernel, rfl, by decide +kernel, by decide +kernel⟩

abbrev stally_of : Stmt := topS 2
abbrev Ntally_of : List Str := ["pairs", "made", "key", "count"]
theorem sctally_of : FnScope Ntally_of ["pairs"] (defScope stally_of) := ⟨rfl, rfl, rfl, by decide +kernel, rfl, by decide +kernel, by decide +kernel⟩

abbrev scol : Stmt := topS 4
abbrev Ncol : List Str := ["column"]
theorem sccol : FnScope Ncol ["column"] (defScope scol) := ⟨rfl, rfl, rfl, by decide +kernel, rfl, by decide +kernel, by decide +kernel⟩

abbrev snum : Stmt := topS 5
abbrev Nnum : List Str := ["number"]
theorem scnum : FnScope Nnum ["number"] (defScope snum) := ⟨rfl, rfl, rfl, by decide +kernel, rfl, by decide +kernel, by decide +kernel⟩

abbrev svalue_of : Stmt := topS 6
abbrev Nvalue_of : List Str := ["term", "row", "constant", "parts", "column", "factor"]
theorem scvalue_of : FnScope Nvalue_of ["term", "row"] (defScope svalue_of) := ⟨rfl, rfl, rfl, by decide +kernel, rfl, by decide +kernel, by decide +kernel⟩

abbrev svalues_of : Stmt := topS 7
abbrev Nvalues_of : List Str := ["terms", "row", "term"]
theorem scvalues_of : FnScope Nvalues_of ["terms", "row"] (defScope svalues_of) := ⟨rfl, rfl, rfl, by decide +kernel, rfl, by decide +kernel, by decide +kernel⟩

abbrev scompares : Stmt := topS 8
abbrev Ncompares : List Str := ["left", "op", "right"]
theorem sccompares : FnScope Ncompares ["left", "op", "right"] (defScope scompares) := ⟨rfl, rfl, rfl, by decide +kernel, rfl, by decide +kernel, by decide +kernel⟩

abbrev sholds : Stmt := topS 9
abbrev Nholds : List Str := ["tests", "row", "left", "op", "right"]
theorem scholds : FnScope Nholds ["tests", "row"] (defScope sholds) := ⟨rfl, rfl, rfl, by decide +kernel, rfl, by decide +kernel, by decide +kernel⟩

abbrev scomposed : Stmt := topS 10
abbrev Ncomposed : List Str := ["term", "terms", "constant", "parts", "factors", "at", "outer", "column", "inner", "total"]
theorem sccomposed : FnScope Ncomposed ["term", "terms"] (defScope scomposed) := ⟨rfl, rfl, rfl, by decide +kernel, rfl, by decide +kernel, by decide +kernel⟩

abbrev sis_plain : Stmt := topS 11
abbrev Nis_plain : List Str := ["term", "constant", "parts"]
theorem scis_plain : FnScope Nis_plain ["term"] (defScope sis_plain) := ⟨rfl, rfl, rfl, by decide +kernel, rfl, by decide +kernel, by decide +kernel⟩

abbrev s_law_source : Stmt := topS 13
abbrev N_law_source : List Str := ["script", "cells", "cell", "spare"]
theorem sc_law_source : FnScope N_law_source ["script"] (defScope s_law_source) := ⟨rfl, rfl, rfl, by decide +kernel, rfl, by decide +kernel, by decide +kernel⟩

abbrev s_law_mixed : Stmt := topS 14
abbrev N_law_mixed : List Str := ["seed", "count", "value"]
theorem sc_law_mixed : FnScope N_law_mixed ["seed", "count"] (defScope s_law_mixed) := ⟨rfl, rfl, rfl, by decide +kernel, rfl, by decide +kernel, by decide +kernel⟩

abbrev s_law_draw : Stmt := topS 15
abbrev N_law_draw : List Str := ["source", "many", "cell", "digit"]
theorem sc_law_draw : FnScope N_law_draw ["source", "many"] (defScope s_law_draw) := ⟨rfl, rfl, rfl, by decide +kernel, rfl, by decide +kernel, by decide +kernel⟩

abbrev s_law_number : Stmt := topS 16
abbrev N_law_number : List Str := ["source", "choice", "number", "k"]
theorem sc_law_number : FnScope N_law_number ["source"] (defScope s_law_number) := ⟨rfl, rfl, rfl, by decide +kernel, rfl, by decide +kernel, by decide +kernel⟩

abbrev s_law_same : Stmt := topS 17
abbrev N_law_same : List Str := ["told", "due", "k"]
theorem sc_law_same : FnScope N_law_same ["told", "due"] (defScope s_law_same) := ⟨rfl, rfl, rfl, by decide +kernel, rfl, by decide +kernel, by decide +kernel⟩

abbrev s_law_size : Stmt := topS 18
abbrev N_law_size : List Str := ["source"]
theorem sc_law_size : FnScope N_law_size ["source"] (defScope s_law_size) := ⟨rfl, rfl, rfl, by decide +kernel, rfl, by decide +kernel, by decide +kernel⟩

abbrev s_law_factor : Stmt := topS 19
abbrev N_law_factor : List Str := ["source", "last", "factor"]
theorem sc_law_factor : FnScope N_law_factor ["source", "last"] (defScope s_law_factor) := ⟨rfl, rfl, rfl, by decide +kernel, rfl, by decide +kernel, by decide +kernel⟩

abbrev s_law_parts : Stmt := topS 20
abbrev N_law_parts : List Str := ["source", "width", "parts", "place", "last", "k"]
theorem sc_law_parts : FnScope N_law_parts ["source", "width"] (defScope s_law_parts) := ⟨rfl, rfl, rfl, by decide +kernel, rfl, by decide +kernel, by decide +kernel⟩

abbrev s_law_expr : Stmt := topS 21
abbrev N_law_expr : List Str := ["source", "width", "choice", "parts"]
theorem sc_law_expr : FnScope N_law_expr ["source", "width"] (defScope s_law_expr) := ⟨rfl, rfl, rfl, by decide +kernel, rfl, by decide +kernel, by decide +kernel⟩

abbrev s_law_exprs : Stmt := topS 22
abbrev N_law_exprs : List Str := ["source", "many", "width", "exprs", "k"]
theorem sc_law_exprs : FnScope N_law_exprs ["source", "many", "width"] (defScope s_law_exprs) := ⟨rfl, rfl, rfl, by decide +kernel, rfl, by decide +kernel, by decide +kernel⟩

abbrev s_law_value : Stmt := topS 23
abbrev N_law_value : List Str := ["expr", "values", "total", "part"]
theorem sc_law_value : FnScope N_law_value ["expr", "values"] (defScope s_law_value) := ⟨rfl, rfl, rfl, by decide +kernel, rfl, by decide +kernel, by decide +kernel⟩

abbrev s_law_compares : Stmt := topS 24
abbrev N_law_compares : List Str := ["left", "op", "right"]
theorem sc_law_compares : FnScope N_law_compares ["left", "op", "right"] (defScope s_law_compares) := ⟨rfl, rfl, rfl, by decide +kernel, rfl, by decide +kernel, by decide +kernel⟩

abbrev s_law_check : Stmt := topS 25
abbrev N_law_check : List Str := ["source", "values", "ops", "left", "right", "found", "gap", "against", "good", "op"]
theorem sc_law_check : FnScope N_law_check ["source", "values"] (defScope s_law_check) := ⟨rfl, rfl, rfl, by decide +kernel, rfl, by decide +kernel, by decide +kernel⟩

abbrev s_law_holds : Stmt := topS 26
abbrev N_law_holds : List Str := ["checks", "values", "check", "left"]
theorem sc_law_holds : FnScope N_law_holds ["checks", "values"] (defScope s_law_holds) := ⟨rfl, rfl, rfl, by decide +kernel, rfl, by decide +kernel, by decide +kernel⟩

abbrev s_law_composed : Stmt := topS 27
abbrev N_law_composed : List Str := ["outer", "exprs", "constant", "factors", "part", "inner", "deep", "places", "place"]
theorem sc_law_composed : FnScope N_law_composed ["outer", "exprs"] (defScope s_law_composed) := ⟨rfl, rfl, rfl, by decide +kernel, rfl, by decide +kernel, by decide +kernel⟩

abbrev s_law_small : Stmt := topS 28
abbrev N_law_small : List Str := ["numbers", "number"]
theorem sc_law_small : FnScope N_law_small ["numbers"] (defScope s_law_small) := ⟨rfl, rfl, rfl, by decide +kernel, rfl, by decide +kernel, by decide +kernel⟩

abbrev s_law_is_plain : Stmt := topS 29
abbrev N_law_is_plain : List Str := ["expr"]
theorem sc_law_is_plain : FnScope N_law_is_plain ["expr"] (defScope s_law_is_plain) := ⟨rfl, rfl, rfl, by decide +kernel, rfl, by decide +kernel, by decide +kernel⟩

abbrev s_law_plain_ones : Stmt := topS 30
abbrev N_law_plain_ones : List Str := ["source", "exprs", "place", "far", "amount", "factor", "near", "expr", "due"]
theorem sc_law_plain_ones : FnScope N_law_plain_ones ["source", "exprs"] (defScope s_law_plain_ones) := ⟨rfl, rfl, rfl, by decide +kernel, rfl, by decide +kernel, by decide +kernel⟩

abbrev s_law_composes : Stmt := topS 31
abbrev N_law_composes : List Str := ["outer", "exprs", "due"]
theorem sc_law_composes : FnScope N_law_composes ["outer", "exprs"] (defScope s_law_composes) := ⟨rfl, rfl, rfl, by decide +kernel, rfl, by decide +kernel, by decide +kernel⟩

abbrev s_law_wide : Stmt := topS 32
abbrev N_law_wide : List Str := ["source", "menu", "first", "exprs", "k", "outer"]
theorem sc_law_wide : FnScope N_law_wide ["source"] (defScope s_law_wide) := ⟨rfl, rfl, rfl, by decide +kernel, rfl, by decide +kernel, by decide +kernel⟩

abbrev s_law_valued : Stmt := topS 33
abbrev N_law_valued : List Str := ["expr", "values", "due"]
theorem sc_law_valued : FnScope N_law_valued ["expr", "values"] (defScope s_law_valued) := ⟨rfl, rfl, rfl, by decide +kernel, rfl, by decide +kernel, by decide +kernel⟩

abbrev slaw : Stmt := topS 34
abbrev Nlaw : List Str := ["script", "source", "values", "k", "exprs", "outer", "checks", "middle", "expr", "whole", "part", "due", "check"]
theorem sclaw : FnScope Nlaw ["script"] (defScope slaw) := ⟨rfl, rfl, rfl, by decide +kernel, rfl, by decide +kernel, by decide +kernel⟩

/-- the built-in names that the text uses are the built-in ones -/
structure Bt (mg : Str → Option Value) : Prop where
  m_all : mg "all" = none
  m_tuple : mg "tuple" = none
  m_sum : mg "sum" = none
  m_abs : mg "abs" = none
  m_int : mg "int" = none
  m_bool : mg "bool" = none
  m_str : mg "str" = none
  m_list : mg "list" = none
  m_len : mg "len" = none
  m_range : mg "range" = none
  m_isinstance : mg "isinstance" = none
  m_sorted : mg "sorted" = none
  m_max : mg "max" = none
end K12

namespace K12
open PySem PySem.Spec PyProof.Rows L2
/-! ### the source of the draws -/
abbrev srcD (c : Addr) (ix rest uses seed cnt spare : Int) : List (Key × V) := [(Sum.inr "cells", .ref c), (Sum.inr "index", .int ix), (Sum.inr "rest", .int rest), (Sum.inr "uses", .int uses), (Sum.inr "seed", .int seed), (Sum.inr "count", .int cnt), (Sum.inr "spare", .int spare)]
section
variable {H : Hp} {p c : Addr} {ix rest uses seed cnt spare x : Int}
theorem gCells (h : H p = some (.dK (srcD c ix rest uses seed cnt spare))) : DGet H p (.str "cells") (some (.ref c)) := DGet.k (k := Sum.inr "cells") h
theorem gIndex (h : H p = some (.dK (srcD c ix rest uses seed cnt spare))) : DGet H p (.str "index") (some (.int ix)) := DGet.k (k := Sum.inr "index") h
theorem gRest (h : H p = some (.dK (srcD c ix rest uses seed cnt spare))) : DGet H p (.str "rest") (some (.int rest)) := DGet.k (k := Sum.inr "rest") h
theorem gUses (h : H p = some (.dK (srcD c ix rest uses seed cnt spare))) : DGet H p (.str "uses") (some (.int uses)) := DGet.k (k := Sum.inr "uses") h
theorem gSeed (h : H p = some (.dK (srcD c ix rest uses seed cnt spare))) : DGet H p (.str "seed") (some (.int seed)) := DGet.k (k := Sum.inr "seed") h
theorem gCount (h : H p = some (.dK (srcD c ix rest uses seed cnt spare))) : DGet H p (.str "count") (some (.int cnt)) := DGet.k (k := Sum.inr "count") h
theorem gSpare (h : H p = some (.dK (srcD c ix rest uses seed cnt spare))) : DGet H p (.str "spare") (some (.int spare)) := DGet.k (k := Sum.inr "spare") h
theorem pIndex (h : H p = some (.dK (srcD c ix rest uses seed cnt spare))) : DPut H p (.str "index") (.int x) (upd H p (.dK (srcD c x rest uses seed cnt spare))) := DPut.k (k := Sum.inr "index") h (by show 7 < sizeLine; decide)
theorem pRest (h : H p = some (.dK (srcD c ix rest uses seed cnt spare))) : DPut H p (.str "rest") (.int x) (upd H p (.dK (srcD c ix x uses seed cnt spare))) := DPut.k (k := Sum.inr "rest") h (by show 7 < sizeLine; decide)
theorem pUses (h : H p = some (.dK (srcD c ix rest uses seed cnt spare))) : DPut H p (.str "uses") (.int x) (upd H p (.dK (srcD c ix rest x seed cnt spare))) := DPut.k (k := Sum.inr "uses") h (by show 7 < sizeLine; decide)
theorem pSeed (h : H p = some (.dK (srcD c ix rest uses seed cnt spare))) : DPut H p (.str "seed") (.int x) (upd H p (.dK (srcD c ix rest uses x cnt spare))) := DPut.k (k := Sum.inr "seed") h (by show 7 < sizeLine; decide)
theorem pCount (h : H p = some (.dK (srcD c ix rest uses seed cnt spare))) : DPut H p (.str "count") (.int x) (upd H p (.dK (srcD c ix rest uses seed x spare))) := DPut.k (k := Sum.inr "count") h (by show 7 < sizeLine; decide)
end
/-- p is a source whose cells stand at c -/
def SrcAt (c : Addr) (H : Hp) (p : Addr) : Prop := ∃ (cells : List Int) (ix rest uses seed cnt spare : Int), H p = some (.dK (srcD c ix rest uses seed cnt spare)) ∧ H c = some (.lst (cells.map V.int)) ∧ (∀ x ∈ cells, 0 ≤ x) ∧ 0 ≤ ix ∧ 0 ≤ rest
theorem SrcAt.upd {c p : Addr} {H : Hp} (h : SrcAt c H p) {q : Addr} {o : HO} (n : H q = none) : SrcAt c (L2.upd H q o) p := by
  obtain ⟨cells, ix, rest, uses, seed, cnt, spare, h1, h2, r⟩ := h
  exact ⟨cells, ix, rest, uses, seed, cnt, spare, by rw [upd_ne (ne_of_none h1 n)]; exact h1, by rw [upd_ne (ne_of_none h2 n)]; exact h2, r⟩
theorem SrcAt.same {c p : Addr} {H H' : Hp} (h : SrcAt c H p) (e : Same H H') : SrcAt c H' p := by
  obtain ⟨cells, ix, rest, uses, seed, cnt, spare, h1, h2, r⟩ := h
  exact ⟨cells, ix, rest, uses, seed, cnt, spare, e _ _ h1, e _ _ h2, r⟩
theorem SrcAt.st {c p : Addr} {K : PySem.W.Frag} {H H' : Hp} (h : SrcAt c H p) (e : SameB p H H') : ST K H H' := by
  obtain ⟨cells, ix, rest, uses, seed, cnt, spare, h1, _⟩ := h
  exact e.st h1 True.intro
theorem SrcAt.some {c p : Addr} {H : Hp} (h : SrcAt c H p) : ∃ o, H p = some o := by
  obtain ⟨cells, ix, rest, uses, seed, cnt, spare, h1, _⟩ := h
  exact ⟨_, h1⟩
section
variable {P : Program} {w : World} {K : PySem.W.Frag} {mg : Str → Option Value} {base : Heap}
def spMixed : Sp := fun vs H Q _ => ∃ a b : Int, vs = [.int a, .int b] ∧ ∀ r : Int, 0 ≤ r → Q (.int r) H
theorem d_law_mixed (B : Bt mg) (T : Top K mg "_law_mixed" s_law_mixed ["seed", "count"]) : Def P w K mg base "_law_mixed" 1 ["seed", "count"] spMixed := by
  refine mk_def T sc_law_mixed (by rintro _ _ _ _ ⟨a, b, rfl, _⟩; rfl) fun f cdv A outer s H vs Q E hr h => ?_
  obtain ⟨a, b, rfl, q⟩ := h
  refine ⟨_, (Evl.pss_cut (ps_set (i := 2) sc_law_mixed.nd rfl (Or.inl rfl) (pe_op op_mod (pe_callTy call_int1 (by rfl) B.m_int (by decide +kernel) (pa_cons (pe_op op_add (pe_op op_add (pe_op op_mul (pv 0) pe_int) (pe_op op_mul (pv 1) pe_int)) pe_int) pa_nil)) pe_int))
      (Evl.pss_cut (ps_set (i := 2) sc_law_mixed.nd rfl (Or.inl rfl) (pe_op op_mod (pe_callTy call_int1 (by rfl) B.m_int (by decide +kernel) (pa_cons (pe_op op_add (pe_op op_add (pe_op op_mul (pv 2) (pv 2)) (pe_op op_mul (pv 1) pe_int)) (pv 0)) pa_nil)) pe_int))
      (Evl.pss_cut (ps_set (i := 2) sc_law_mixed.nd rfl (Or.inl rfl) (pe_op op_mod (pe_callTy call_int1 (by rfl) B.m_int (by decide +kernel) (pa_cons (pe_op op_add (pe_op op_mul (pe_op op_fdivW (pv 2) pe_int) (pe_op op_add (pe_op op_fdivW (pv 2) pe_int) pe_int)) (pv 1)) pa_nil)) pe_int))
      (pss_one (ps_ret (pe_op op_fdivW (pv 2) pe_int)))))), ?_⟩
  refine ⟨fun σ' H3 => ∃ u : Int, σ' = [some (.int a), some (.int b), some (.int u)] ∧ H3 = H ∧ 0 ≤ u ∧ u < 2147483647, ?_, ?_⟩
  · exact ⟨.int a, rfl, _, _, rfl, rfl, .inr ⟨by decide, by decide⟩, .int b, rfl, _, _, rfl, rfl, .inr ⟨by decide, by decide⟩, _, _, rfl, rfl, _, _, rfl, rfl, .inl ⟨_, rfl, _, _, rfl, rfl, (by show (0:Int) < _; decide), _, rfl, rfl, Int.emod_nonneg _ (by decide), Int.emod_lt_of_pos _ (by decide)⟩⟩
  rintro σ' H3 ⟨u, rfl, rfl, u0, u1⟩
  refine ⟨fun σ' H4 => ∃ v : Int, σ' = [some (.int a), some (.int b), some (.int v)] ∧ H4 = H3 ∧ 0 ≤ v ∧ v < 2147483629, ?_, ?_⟩
  · exact ⟨.int u, rfl, .int u, rfl, _, _, rfl, rfl, .inl ⟨by omega, by omega⟩, .int b, rfl, _, _, rfl, rfl, .inr ⟨by decide, by decide⟩, _, _, rfl, rfl, .int a, rfl, _, _, rfl, rfl, .inl ⟨_, rfl, _, _, rfl, rfl, (by show (0:Int) < _; decide), _, rfl, rfl, Int.emod_nonneg _ (by decide), Int.emod_lt_of_pos _ (by decide)⟩⟩
  rintro σ' H4 ⟨v, rfl, rfl, v0, v1⟩
  refine ⟨fun σ' H5 => ∃ z : Int, σ' = [some (.int a), some (.int b), some (.int z)] ∧ H5 = H4 ∧ 0 ≤ z, ?_, ?_⟩
  · have h7 : v / 7 < 2147483629 := by omega
    have h8 : 0 ≤ v / 7 := by omega
    exact ⟨.int v, rfl, _, _, rfl, rfl, ⟨by decide, by decide⟩, .int v, rfl, _, _, rfl, rfl, ⟨by decide, by decide⟩, _, _, rfl, rfl, _, _, rfl, rfl, .inl ⟨by show -(2 ^ 64 : Int) < v / 7; omega, by show v / 7 < (2 ^ 64 : Int); omega⟩, .int b, rfl, _, _, rfl, rfl, .inl ⟨_, rfl, _, _, rfl, rfl, (by show (0:Int) < _; decide), _, rfl, rfl, Int.emod_nonneg _ (by decide)⟩⟩
  rintro σ' H5 ⟨z, rfl, rfl, z0⟩
  exact ⟨.int z, rfl, _, _, rfl, rfl, ⟨by decide, by decide⟩, q _ (Int.ediv_nonneg z0 (by decide))⟩
def spDraw (K : PySem.W.Frag) : Sp := fun vs H Q _ => ∃ (p c : Addr) (n : Int), vs = [.ref p, .int n] ∧ SrcAt c H p ∧ 0 < n ∧ n ≤ 1000000000000000 ∧ ∀ H' r, SameB p H H' → SrcAt c H' p → 0 ≤ r → r < n → Q (.int r) H'
theorem d_law_draw (B : Bt mg) (T : Top K mg "_law_draw" s_law_draw ["source", "many"]) (D_law_mixed : Def P w K mg base "_law_mixed" 1 ["seed", "count"] spMixed) : Def P w K mg base "_law_draw" 2 ["source", "many"] (spDraw K) := by
  refine mk_def T sc_law_draw (by rintro _ _ _ _ ⟨p, c, n, rfl, _⟩; rfl) fun f cdv A outer s H vs Q E hr h => ?_
  obtain ⟨p, c, n, rfl, ⟨cells, ix, rest, uses, seed, cnt, spare, h1, h2, hpos, hix, hrest⟩, hn, hn2, q⟩ := h
  have ncp : c ≠ p := ne_of h2 h1 (by intro z; cases z)
  refine ⟨_, (pss_cons (ps_dput (hu_of hr) (pv 0) pe_str (pe_op op_add (pe_dget (hu_of hr) (pv 0) pe_str (fun _ _ => rfl)) pe_int) rfl)
      (Evl.pss_cut (ps_if (pw_and (pt_cmpR op_eq (pe_dget (hu_of hr) (pv 0) pe_str (fun _ _ => rfl)) pe_int (nomark _)) (pw_and (pt_cmpR op_eq (pe_dget (hu_of hr) (pv 0) pe_str (fun _ _ => rfl)) pe_int (nomark _)) (pw_and1 (pt_cmpR op_lt (pe_dget (hu_of hr) (pv 0) pe_str (fun _ _ => rfl)) (pe_callB call_len_seq (by rfl) B.m_len PySem.boot_len (pa_cons (pe_dget (hu_of hr) (pv 0) pe_str (fun _ _ => rfl)) pa_nil)) (nomark _))))).pt (pss_cons (ps_set (i := 2) sc_law_draw.nd rfl (Or.inl rfl) (pe_ix ix_list (pe_dget (hu_of hr) (pv 0) pe_str (fun _ _ => rfl)) (pe_dget (hu_of hr) (pv 0) pe_str (fun _ _ => rfl)) (fun _ _ => rfl)))
      (pss_cons (ps_dput (hu_of hr) (pv 0) pe_str (pe_op op_add (pe_dget (hu_of hr) (pv 0) pe_str (fun _ _ => rfl)) pe_int) rfl)
      (pss_one (ps_if (pt_cmpR op_ge (pv 2) (pe_op op_pow pe_int pe_int) (nomark _)) (pss_one (ps_dput (hu_of hr) (pv 0) pe_str (pv 2) rfl)) (pss_cons (ps_dput (hu_of hr) (pv 0) pe_str (pv 2) rfl)
      (pss_one (ps_dput (hu_of hr) (pv 0) pe_str pe_int rfl))))))) pss_nil)
      (pss_cons (ps_if (pt_cmpR op_gt (pe_dget (hu_of hr) (pv 0) pe_str (fun _ _ => rfl)) pe_int (nomark _)) (pss_cons (ps_set (i := 3) sc_law_draw.nd rfl (Or.inl rfl) (pe_op op_mod (pe_callTy call_int1 (by rfl) B.m_int (by decide +kernel) (pa_cons (pe_dget (hu_of hr) (pv 0) pe_str (fun _ _ => rfl)) pa_nil)) (pv 1)))
      (pss_cons (ps_dput (hu_of hr) (pv 0) pe_str (pe_op op_fdivW (pe_dget (hu_of hr) (pv 0) pe_str (fun _ _ => rfl)) (pv 1)) rfl)
      (pss_one (ps_ret (pv 3))))) pss_nil)
      (pss_cons (ps_if (pt_cmpR op_eq (pe_dget (hu_of hr) (pv 0) pe_str (fun _ _ => rfl)) pe_int (nomark _)) (pss_one (ps_ret (pe_op op_mod (pe_callTy call_int1 (by rfl) B.m_int (by decide +kernel) (pa_cons (pe_def D_law_mixed (hr.mono (by first | decide | omega)) (by rfl) (pa_cons (pe_dget (hu_of hr) (pv 0) pe_str (fun _ _ => rfl)) (pa_cons (pe_dget (hu_of hr) (pv 0) pe_str (fun _ _ => rfl)) pa_nil))) pa_nil)) (pv 1)))) pss_nil)
      (pss_cons (ps_dput (hu_of hr) (pv 0) pe_str (pe_op op_sub (pe_dget (hu_of hr) (pv 0) pe_str (fun _ _ => rfl)) pe_int) rfl)
      (pss_one (ps_ret (pe_op op_mod (pe_callTy call_int1 (by rfl) B.m_int (by decide +kernel) (pa_cons (pe_def D_law_mixed (hr.mono (by first | decide | omega)) (by rfl) (pa_cons (pe_dget (hu_of hr) (pv 0) pe_str (fun _ _ => rfl)) (pa_cons (pe_dget (hu_of hr) (pv 0) pe_str (fun _ _ => rfl)) pa_nil))) pa_nil)) (pv 1))))))))), ?_⟩
  refine ⟨.ref p, rfl, p, _, rfl, gCount h1, _, _, rfl, rfl, .ref p, rfl, p, _, rfl, pCount h1, ?_⟩
  have e1 : upd H p (.dK (srcD c ix rest uses seed (cnt + 1) spare)) p = some (.dK (srcD c ix rest uses seed (cnt + 1) spare)) := upd_same
  have e2 : upd H p (.dK (srcD c ix rest uses seed (cnt + 1) spare)) c = some (.lst (cells.map V.int)) := by rw [upd_ne ncp]; exact h2
  have e3 : SameB p H (upd H p (.dK (srcD c ix rest uses seed (cnt + 1) spare))) := SameB.upd
  generalize upd H p (.dK (srcD c ix rest uses seed (cnt + 1) spare)) = H1 at e1 e2 e3 ⊢
  generalize cnt + 1 = cnt' at e1 ⊢
  refine ⟨fun σ' H3 => ∃ y2, σ' = [some (.ref p), some (.int n), y2, none] ∧ SrcAt c H3 p ∧ SameB p H H3, ?_, ?_⟩
  · have done : ∃ y2, [some (V.ref p), some (.int n), none, none] = [some (.ref p), some (.int n), y2, none] ∧ SrcAt c H1 p ∧ SameB p H H1 := ⟨none, rfl, ⟨cells, ix, rest, uses, seed, cnt', spare, e1, e2, hpos, hix, hrest⟩, e3⟩
    refine ⟨.ref p, rfl, p, _, rfl, gRest e1, rfl, _, rfl, ite2 (fun z => ?_) (fun z => iteF done)⟩
    refine ⟨.ref p, rfl, p, _, rfl, gUses e1, rfl, _, rfl, ite2 (fun z2 => ?_) (fun z2 => iteF done)⟩
    refine ⟨.ref p, rfl, p, _, rfl, gIndex e1, .ref p, rfl, p, _, rfl, gCells e1, c, _, rfl, .inl (SqL.of e2), _, _, rfl, rfl, _, rfl, ite2 (fun z3 => ?_) (fun z3 => done)⟩
    obtain ⟨j, rfl⟩ := Int.eq_ofNat_of_zero_le hix
    have hj : j < cells.length := by
      have := of_decide_eq_true z3
      rw [List.length_map] at this
      omega
    have hx : 0 ≤ cells[j] := hpos _ (List.getElem_mem hj)
    refine ⟨.ref p, rfl, p, _, rfl, gCells e1, .ref p, rfl, p, _, rfl, gIndex e1, c, _, _, .int cells[j], rfl, rfl, SqL.of e2, atI_nat (j := j) (by simp [hj]), ?_⟩
    generalize cells[j] = x at hx ⊢
    refine ⟨.ref p, rfl, p, _, rfl, gIndex e1, _, _, rfl, rfl, .ref p, rfl, p, _, rfl, pIndex e1, ?_⟩
    have f1 : upd H1 p (.dK (srcD c ((j : Int) + 1) rest uses seed cnt' spare)) p = some (.dK (srcD c ((j : Int) + 1) rest uses seed cnt' spare)) := upd_same
    have f2 : upd H1 p (.dK (srcD c ((j : Int) + 1) rest uses seed cnt' spare)) c = some (.lst (cells.map V.int)) := by rw [upd_ne ncp]; exact e2
    have f3 : SameB p H (upd H1 p (.dK (srcD c ((j : Int) + 1) rest uses seed cnt' spare))) := e3.trans SameB.upd
    refine ⟨.int x, rfl, _, _, rfl, rfl, ⟨by decide, by decide, by decide⟩, _, _, rfl, rfl, _, rfl, ite2 (fun z4 => ?_) (fun z4 => ?_)⟩
    · exact ⟨.int x, rfl, .ref p, rfl, p, _, rfl, pRest f1, some (.int x), rfl, ⟨cells, _, x, uses, seed, cnt', spare, upd_same, by rw [upd_ne ncp]; exact f2, hpos, by omega, hx⟩, f3.trans SameB.upd⟩
    · refine ⟨.int x, rfl, .ref p, rfl, p, _, rfl, pSeed f1, ?_⟩
      have g1 : upd (upd H1 p (.dK (srcD c ((j : Int) + 1) rest uses seed cnt' spare))) p (.dK (srcD c ((j : Int) + 1) rest uses x cnt' spare)) p = some (.dK (srcD c ((j : Int) + 1) rest uses x cnt' spare)) := upd_same
      exact ⟨.ref p, rfl, p, _, rfl, pUses g1, some (.int x), rfl, ⟨cells, _, rest, 6, x, cnt', spare, upd_same, by rw [upd_ne ncp, upd_ne ncp]; exact f2, hpos, by omega, hrest⟩, (f3.trans SameB.upd).trans SameB.upd⟩
  · clear e1 e2 e3
    clear h1 h2 hpos hix hrest
    rintro σ' H3 ⟨y2, rfl, ⟨cells, ix, rest, uses, seed, cnt, spare, e1, e2, hpos, hix, hrest⟩, e3⟩
    have hdiv : CDivW rest n := wide_div (b := 60) hn (by omega) (by decide) (by decide)
    refine ⟨.ref p, rfl, p, _, rfl, gRest e1, _, _, rfl, rfl, _, rfl, ite2 (fun z => ?_) (fun z => ?_)⟩
    · refine ⟨.ref p, rfl, p, _, rfl, gRest e1, .inl ⟨_, rfl, .int n, rfl, _, _, rfl, rfl, hn, ?_⟩⟩
      refine ⟨.ref p, rfl, p, _, rfl, gRest e1, .int n, rfl, _, _, rfl, rfl, hdiv, .ref p, rfl, p, _, rfl, pRest e1, ?_⟩
      exact ⟨_, rfl, q _ _ (e3.trans SameB.upd) ⟨cells, ix, _, uses, seed, cnt, spare, upd_same, by rw [upd_ne ncp]; exact e2, hpos, hix, Int.ediv_nonneg hrest (Int.le_of_lt hn)⟩ (Int.emod_nonneg _ (by omega)) (Int.emod_lt_of_pos _ hn)⟩
    · refine ⟨.ref p, rfl, p, _, rfl, gUses e1, rfl, _, rfl, ite2 (fun z2 => ?_) (fun z2 => ?_)⟩
      · refine ⟨.ref p, rfl, p, _, rfl, gSpare e1, .ref p, rfl, p, _, rfl, gCount e1, _, _, rfl, fun r hr => .inl ⟨_, rfl, .int n, rfl, _, _, rfl, rfl, hn, ?_⟩⟩
        exact q _ _ e3 ⟨cells, ix, rest, uses, seed, cnt, spare, e1, e2, hpos, hix, hrest⟩ (Int.emod_nonneg _ (by omega)) (Int.emod_lt_of_pos _ hn)
      · refine ⟨.ref p, rfl, p, _, rfl, gUses e1, _, _, rfl, rfl, .ref p, rfl, p, _, rfl, pUses e1, ?_⟩
        have f1 : upd H3 p (.dK (srcD c ix rest (uses - 1) seed cnt spare)) p = some (.dK (srcD c ix rest (uses - 1) seed cnt spare)) := upd_same
        refine ⟨.ref p, rfl, p, _, rfl, gSeed f1, .ref p, rfl, p, _, rfl, gCount f1, _, _, rfl, fun r hr => .inl ⟨_, rfl, .int n, rfl, _, _, rfl, rfl, hn, ?_⟩⟩
        exact q _ _ (e3.trans SameB.upd) ⟨cells, ix, rest, _, seed, cnt, spare, f1, by rw [upd_ne ncp]; exact e2, hpos, hix, hrest⟩ (Int.emod_nonneg _ (by omega)) (Int.emod_lt_of_pos _ hn)
/-- a number of at most 40 digits -/
def Small (i : Int) : Prop := i.natAbs < 10 ^ 40
def spNumber : Sp := fun vs H Q _ => ∃ (p c : Addr), vs = [.ref p] ∧ SrcAt c H p ∧ ∀ H' r, SameB p H H' → SrcAt c H' p → Small r → Q (.int r) H'
theorem d_law_number (B : Bt mg) (T : Top K mg "_law_number" s_law_number ["source"]) (D_law_draw : Def P w K mg base "_law_draw" 2 ["source", "many"] (spDraw K)) : Def P w K mg base "_law_number" 3 ["source"] spNumber := by
  refine mk_def T sc_law_number (by rintro _ _ _ _ ⟨p, c, rfl, _⟩; rfl) fun f cdv A outer s H vs Q E hr h => ?_
  obtain ⟨p, c, rfl, hs, q⟩ := h
  refine ⟨_, (pss_cons (ps_set (i := 1) sc_law_number.nd rfl (Or.inl rfl) (pe_def D_law_draw (hr.mono (by first | decide | omega)) (by rfl) (pa_cons (pv 0) (pa_cons pe_int pa_nil))))
      (pss_cons (ps_if (pt_cmpR op_lt (pv 1) pe_int (nomark _)) (pss_one (ps_ret (pe_op op_sub (pv 1) pe_int))) pss_nil)
      (pss_cons (ps_set (i := 2) sc_law_number.nd rfl (Or.inl rfl) (pe_def D_law_draw (hr.mono (by first | decide | omega)) (by rfl) (pa_cons (pv 0) (pa_cons (pe_op op_pow pe_int pe_int) pa_nil))))
      (Evl.pss_cut (ps_if (pt_cmpR op_eq (pv 1) pe_int (nomark _)) (pss_one (ps_for PassesOwn.never rfl (pi_range1 (by rfl) B.m_range (pa_cons pe_int pa_nil)) (pg_name (i := 3) sc_law_number.nd rfl (Or.inl rfl)) (pss_one (ps_set (i := 2) sc_law_number.nd rfl (Or.inl rfl) (pe_op op_add (pe_op op_mul (pv 2) (pe_op op_pow pe_int pe_int)) (pe_def D_law_draw (hr.mono (by first | decide | omega)) (by rfl) (pa_cons (pv 0) (pa_cons (pe_op op_pow pe_int pe_int) pa_nil)))))))) pss_nil)
      (pss_cons (ps_if (pt_cmpR op_eq (pe_def D_law_draw (hr.mono (by first | decide | omega)) (by rfl) (pa_cons (pv 0) (pa_cons pe_int pa_nil))) pe_int (nomark _)) (pss_one (ps_ret (pe_un un_neg (pv 2)))) pss_nil)
      (pss_one (ps_ret (pv 2)))))))), ?_⟩
  have h8 : (10 : Int) ^ (8 : Int).toNat = 100000000 := by decide
  refine ⟨.ref p, rfl, p, c, _, rfl, hs, by decide, by decide, fun H1 ch s1 a1 ch0 ch1 => ?_⟩
  refine ⟨.int ch, rfl, _, _, rfl, rfl, _, rfl, ite2 (fun z => ?_) (fun z => ?_)⟩
  · have hc := of_decide_eq_true z
    exact ⟨.int ch, rfl, _, _, rfl, rfl, q H1 _ s1 a1 (by unfold Small; omega)⟩
  refine ⟨.ref p, rfl, _, _, rfl, rfl, ⟨by decide, by decide, by decide⟩, p, c, _, rfl, a1, by decide, by decide, fun H2 nu s2 a2 n0 n1 => ?_⟩
  rw [h8] at n1
  refine ⟨fun σ' H3 => ∃ (nu : Int) (y3 : Option V), σ' = [some (.ref p), some (.int ch), some (.int nu), y3] ∧ SameB p H H3 ∧ SrcAt c H3 p ∧ 0 ≤ nu ∧ nu < 10 ^ 40, ?_, ?_⟩
  · refine ⟨.int ch, rfl, rfl, _, rfl, ite2 (fun z => ?_) (fun z => ⟨nu, none, rfl, s1.trans s2, a2, n0, by omega⟩)⟩
    refine ⟨4, rfl, by decide, by decide, for_range (n := 4) (fun i σ' H3 => ∃ (nu : Int) (y3 : Option V), σ' = [some (.ref p), some (.int ch), some (.int nu), y3] ∧ SameB p H H3 ∧ SrcAt c H3 p ∧ 0 ≤ nu ∧ nu < 10 ^ (8 * (i + 1))) ?_ ?_ ?_⟩
    · exact ⟨nu, none, rfl, s1.trans s2, a2, n0, by omega⟩
    · rintro i σ' H3 hi ⟨nu, y3, rfl, t1, t2, t3, t4⟩
      refine ⟨.int nu, rfl, _, _, rfl, rfl, ⟨by decide, by decide, by decide⟩, _, _, rfl, rfl, .inr ⟨by decide, by decide⟩, .ref p, rfl, _, _, rfl, rfl, ⟨by decide, by decide, by decide⟩, p, c, _, rfl, t2, by decide, by decide, fun H4 d s4 a4 d0 d1 => ?_⟩
      rw [h8] at d1
      refine ⟨_, _, rfl, rfl, nu * 100000000 + d, some (.int (0 + (i : Int))), ?_, t1.trans s4, a4, by omega, ?_⟩
      · rw [← h8]
        rfl
      · have e : (10 : Int) ^ (8 * (i + 1 + 1)) = 10 ^ (8 * (i + 1)) * 100000000 := by
          rw [show 8 * (i + 1 + 1) = 8 * (i + 1) + 8 from by omega, Int.pow_add]
          rfl
        rw [e]
        omega
    · rintro σ' H3 ⟨nu, y3, rfl, t1, t2, t3, t4⟩
      exact ⟨nu, y3, rfl, t1, t2, t3, t4⟩
  · rintro σ' H3 ⟨nu, y3, rfl, t1, t2, t3, t4⟩
    have t5 : nu.natAbs < 10 ^ 40 := by omega
    refine ⟨.ref p, rfl, p, c, _, rfl, t2, by decide, by decide, fun H4 d s4 a4 d0 d1 => ⟨rfl, _, rfl, ite2 (fun z => ?_) (fun z => ?_)⟩⟩
    · exact ⟨.int nu, rfl, _, rfl, q H4 _ (t1.trans s4) a4 (by unfold Small; omega)⟩
    · exact ⟨.int nu, rfl, q H4 _ (t1.trans s4) a4 t5⟩
def spSize : Sp := fun vs H Q _ => ∃ (p c : Addr), vs = [.ref p] ∧ SrcAt c H p ∧ ∀ H' r, SameB p H H' → SrcAt c H' p → 0 ≤ r → r ≤ 12 → Q (.int r) H'
theorem d_law_size (B : Bt mg) (T : Top K mg "_law_size" s_law_size ["source"]) (D_law_draw : Def P w K mg base "_law_draw" 2 ["source", "many"] (spDraw K)) : Def P w K mg base "_law_size" 3 ["source"] spSize := by
  refine mk_def T sc_law_size (by rintro _ _ _ _ ⟨p, c, rfl, _⟩; rfl) fun f cdv A outer s H vs Q E hr h => ?_
  obtain ⟨p, c, rfl, hs, q⟩ := h
  refine ⟨_, (pss_cons (ps_if (pt_cmpR op_eq (pe_def D_law_draw (hr.mono (by first | decide | omega)) (by rfl) (pa_cons (pv 0) (pa_cons pe_int pa_nil))) pe_int (nomark _)) (pss_one (ps_ret (pe_op op_add pe_int (pe_def D_law_draw (hr.mono (by first | decide | omega)) (by rfl) (pa_cons (pv 0) (pa_cons pe_int pa_nil)))))) pss_nil)
      (pss_one (ps_ret (pe_def D_law_draw (hr.mono (by first | decide | omega)) (by rfl) (pa_cons (pv 0) (pa_cons pe_int pa_nil)))))), ?_⟩
  refine ⟨.ref p, rfl, p, c, _, rfl, hs, by decide, by decide, fun H1 ch s1 a1 ch0 ch1 => ⟨rfl, _, rfl, ite2 (fun z => ?_) (fun z => ?_)⟩⟩
  · exact ⟨.ref p, rfl, p, c, _, rfl, a1, by decide, by decide, fun H2 r s2 a2 r0 r1 => ⟨_, _, rfl, rfl, q H2 _ (s1.trans s2) a2 (by omega) (by omega)⟩⟩
  · exact ⟨.ref p, rfl, p, c, _, rfl, a1, by decide, by decide, fun H2 r s2 a2 r0 r1 => q H2 _ (s1.trans s2) a2 (by omega) (by omega)⟩
def spFactor : Sp := fun vs H Q _ => ∃ (p c : Addr) (l : Int), vs = [.ref p, .int l] ∧ SrcAt c H p ∧ Small l ∧ ∀ H' r, SameB p H H' → SrcAt c H' p → r ≠ 0 → Small r → Q (.int r) H'
theorem d_law_factor (B : Bt mg) (T : Top K mg "_law_factor" s_law_factor ["source", "last"]) (D_law_draw : Def P w K mg base "_law_draw" 2 ["source", "many"] (spDraw K)) (D_law_number : Def P w K mg base "_law_number" 3 ["source"] spNumber) : Def P w K mg base "_law_factor" 4 ["source", "last"] spFactor := by
  refine mk_def T sc_law_factor (by rintro _ _ _ _ ⟨p, c, l, rfl, _⟩; rfl) fun f cdv A outer s H vs Q E hr h => ?_
  obtain ⟨p, c, l, rfl, hs, hl, q⟩ := h
  refine ⟨_, (Evl.pss_cut (ps_if (pw_and (pt_cmpR op_ne (pv 1) pe_int (nomark _)) (pw_and1 (pt_cmpR op_eq (pe_def D_law_draw (hr.mono (by first | decide | omega)) (by rfl) (pa_cons (pv 0) (pa_cons pe_int pa_nil))) pe_int (nomark _)))).pt (pss_one (ps_ret (pe_un un_neg (pv 1)))) pss_nil)
      (pss_cons (ps_set (i := 2) sc_law_factor.nd rfl (Or.inl rfl) (pe_def D_law_number (hr.mono (by first | decide | omega)) (by rfl) (pa_cons (pv 0) pa_nil)))
      (pss_cons (ps_if (pt_cmpR op_eq (pv 2) pe_int (nomark _)) (pss_one (ps_ret pe_int)) pss_nil)
      (pss_one (ps_ret (pv 2)))))), ?_⟩
  refine ⟨fun σ' H1 => σ' = [some (.ref p), some (.int l), none] ∧ SameB p H H1 ∧ SrcAt c H1 p, ?_, ?_⟩
  · refine ⟨.int l, rfl, rfl, _, rfl, ite2 (fun z => ?_) (fun z => iteF ⟨rfl, SameB.refl p H, hs⟩)⟩
    refine ⟨.ref p, rfl, p, c, _, rfl, hs, by decide, by decide, fun H1 ch s1 a1 ch0 ch1 => ⟨rfl, _, rfl, ite2 (fun z2 => ?_) (fun z2 => ⟨rfl, s1, a1⟩)⟩⟩
    have hl0 : l ≠ 0 := by
      intro e
      rw [e] at z
      exact absurd z (by decide)
    exact ⟨.int l, rfl, _, rfl, q H1 _ s1 a1 (by omega) (by unfold Small at hl ⊢; omega)⟩
  · rintro σ' H1 ⟨rfl, s1, a1⟩
    refine ⟨.ref p, rfl, p, c, rfl, a1, fun H2 r s2 a2 hr2 => ?_⟩
    refine ⟨.int r, rfl, rfl, _, rfl, ite2 (fun z => ?_) (fun z => ?_)⟩
    · exact q H2 _ (s1.trans s2) a2 (by decide) (by unfold Small; decide)
    · refine ⟨.int r, rfl, q H2 _ (s1.trans s2) a2 (fun e => ?_) hr2⟩
      rw [e] at z
      exact absurd z (by decide)
end
end K12

namespace K12
open PySem PySem.Spec PyProof.Rows L2
theorem small0 : Small 0 := by unfold Small; decide
theorem small1 : Small 1 := by unfold Small; decide
theorem SrcAt.upd2 {c p : Addr} {H : Hp} (h : SrcAt c H p) {q : Addr} {o : HO} (n1 : p ≠ q) (n2 : c ≠ q) : SrcAt c (L2.upd H q o) p := by
  obtain ⟨cells, ix, rest, uses, seed, cnt, spare, h1, h2, r⟩ := h
  exact ⟨cells, ix, rest, uses, seed, cnt, spare, by rw [upd_ne n1]; exact h1, by rw [upd_ne n2]; exact h2, r⟩
theorem SrcAt.cne {c p : Addr} {H : Hp} (h : SrcAt c H p) {q : Addr} (n : H q = none) : c ≠ q := by
  obtain ⟨cells, ix, rest, uses, seed, cnt, spare, h1, h2, r⟩ := h
  exact ne_of_none h2 n
theorem SrcAt.pne {c p : Addr} {H : Hp} (h : SrcAt c H p) {q : Addr} (n : H q = none) : p ≠ q := by
  obtain ⟨cells, ix, rest, uses, seed, cnt, spare, h1, h2, r⟩ := h
  exact ne_of_none h1 n
/-! ### terms -/
abbrev Tm := Int × List (Int × Int)
def prD (q : Int × Int) : PyData := .tuple [.int q.1, .int q.2]
def ptD (l : List (Int × Int)) : PyData := .tuple (l.map prD)
def tmD (t : Tm) : PyData := .tuple [.int t.1, ptD t.2]
def tsD (ts : List Tm) : PyData := .tuple (ts.map tmD)
theorem imm_pr (q : Int × Int) : imm (prD q) = true := rfl
theorem imm_prs (l : List (Int × Int)) : immAll (l.map prD) = true := immAll_of fun d hd => by
  obtain ⟨q, _, rfl⟩ := List.mem_map.mp hd
  rfl
theorem imm_pt (l : List (Int × Int)) : imm (ptD l) = true := imm_prs l
theorem imm_tm (t : Tm) : imm (tmD t) = true := by
  show (true && (imm (ptD t.2) && true)) = true
  rw [imm_pt]
  rfl
theorem imm_tms (ts : List Tm) : immAll (ts.map tmD) = true := immAll_of fun d hd => by
  obtain ⟨q, _, rfl⟩ := List.mem_map.mp hd
  exact imm_tm q
/-- columns below w, factors of at most 40 digits -/
def PtIn (w : Int) (l : List (Int × Int)) : Prop := ∀ q ∈ l, 0 ≤ q.1 ∧ q.1 < w ∧ Small q.2
structure TmOk (w : Int) (t : Tm) : Prop where
  con : Small t.1
  len : t.2.length ≤ 4
  col : PtIn w t.2
theorem da_pr {K : PySem.W.Frag} {H : Hp} {t : Addr} {a b : Int} (h : H t = some (.tup [.int a, .int b])) : Da K H (.ref t) (prD (a, b)) := .tup h (.cons (.int a) (.cons (.int b) .nil))
theorem da_tm {K : PySem.W.Frag} {H : Hp} {t : Addr} {v : V} {a : Int} {l : List (Int × Int)} (h : H t = some (.tup [.int a, v])) (hv : Da K H v (ptD l)) : Da K H (.ref t) (tmD (a, l)) := .tup h (.cons (.int a) (.cons hv .nil))
section
variable {P : Program} {w : World} {K : PySem.W.Frag} {mg : Str → Option Value} {base : Heap}
def spParts (K : PySem.W.Frag) : Sp := fun vs H Q _ => ∃ (p c : Addr) (n : Int), vs = [.ref p, .int n] ∧ SrcAt c H p ∧ n ≤ 100 ∧ ∀ H' v l, SameB p H H' → SrcAt c H' p → Da K H' v (ptD l) → l.length ≤ 4 → PtIn n l → Q v H'
theorem d_law_parts (B : Bt mg) (T : Top K mg "_law_parts" s_law_parts ["source", "width"]) (D_law_draw : Def P w K mg base "_law_draw" 2 ["source", "many"] (spDraw K)) (D_law_factor : Def P w K mg base "_law_factor" 4 ["source", "last"] spFactor) : Def P w K mg base "_law_parts" 5 ["source", "width"] (spParts K) := by
  refine mk_def T sc_law_parts (by rintro _ _ _ _ ⟨p, c, n, rfl, _⟩; rfl) fun f cdv A outer s H vs Q E hr h => ?_
  obtain ⟨p, c, n, rfl, hs, hn, q⟩ := h
  refine ⟨_, (pss_cons (ps_set (i := 2) sc_law_parts.nd rfl (Or.inl rfl) (pe_lst pa_nil))
      (pss_cons (ps_set (i := 3) sc_law_parts.nd rfl (Or.inl rfl) (pe_un un_neg pe_int))
      (pss_cons (ps_set (i := 4) sc_law_parts.nd rfl (Or.inl rfl) pe_int)
      (pss_cons (ps_for PassesOwn.never rfl (pi_range1 (by rfl) B.m_range (pa_cons (pe_def D_law_draw (hr.mono (by first | decide | omega)) (by rfl) (pa_cons (pv 0) (pa_cons pe_int pa_nil))) pa_nil)) (pg_name (i := 5) sc_law_parts.nd rfl (Or.inl rfl)) (pss_cons (ps_set (i := 3) sc_law_parts.nd rfl (Or.inl rfl) (pe_op op_add (pe_op op_add (pv 3) pe_int) (pe_def D_law_draw (hr.mono (by first | decide | omega)) (by rfl) (pa_cons (pv 0) (pa_cons (pe_callB (call_max2 rfl) (by rfl) B.m_max (by decide +kernel) (pa_cons pe_int (pa_cons (pv 1) pa_nil))) pa_nil)))))
      (pss_cons (ps_if (pt_cmpR op_ge (pv 3) (pv 1) (nomark _)) (pss_one (ps_ret (pe_callTy call_tuple_of (by rfl) B.m_tuple (by decide +kernel) (pa_cons (pv 2) pa_nil)))) pss_nil)
      (pss_cons (ps_set (i := 4) sc_law_parts.nd rfl (Or.inl rfl) (pe_def D_law_factor (hr.mono (by first | decide | omega)) (by rfl) (pa_cons (pv 0) (pa_cons (pv 4) pa_nil))))
      (pss_one (ps_expr (pe_bm PySem.F.plainAttrs_list PySem.F.slot_list_append PySem.F.type_list_append mt_append (pv 2) (pa_cons (pe_tup (pa_cons (pv 3) (pa_cons (pv 4) pa_nil))) pa_nil))))))))
      (pss_one (ps_ret (pe_callTy call_tuple_of (by rfl) B.m_tuple (by decide +kernel) (pa_cons (pv 2) pa_nil)))))))), ?_⟩
  refine ⟨by show 0 ≤ sizeLine; decide, fun L hL => ?_⟩
  have npL : L ≠ p := by
    obtain ⟨o, ho⟩ := hs.some
    exact (ne_of_none ho hL).symm
  refine ⟨_, rfl, .ref p, rfl, p, c, _, rfl, hs.upd hL, by decide, by decide, fun H1 m s1 a1 m0 m1 => ⟨m, rfl, by omega, by omega, ?_⟩⟩
  have eL1 := s1 _ _ npL upd_same
  refine for_range (lo := 0) (n := m.toNat) (fun i σ H' => ∃ (place last : Int) (y5 : Option V) (acc : List V) (l : List (Int × Int)), σ = [some (.ref p), some (.int n), some (.ref L), some (.int place), some (.int last), y5] ∧ SameB p H H' ∧ SrcAt c H' p ∧ H' L = some (.lst acc) ∧ DaAll K H' acc (l.map prD) ∧ l.length ≤ i ∧ PtIn n l ∧ -1 ≤ place ∧ Small last)
    ⟨-1, 0, none, [], [], rfl, (Same.b (same_upd hL)).trans s1, a1, eL1, .nil, Nat.le_refl _, fun q hq => (by cases hq), by omega, small0⟩ (fun i σ H' hi pv' => ?_) (fun σ H' pv' => ?_)
  · obtain ⟨place, last, y5, acc, l, rfl, e, a, eL, hd, hl, hp, hplace, hlast⟩ := pv'
    refine ⟨.int place, rfl, _, _, rfl, rfl, .ref p, rfl, .int n, rfl, 1, n, rfl, p, c, _, rfl, a, by split <;> omega, by split <;> omega, fun H2 d s2 a2 d0 d1 => ⟨_, _, rfl, rfl, ?_⟩⟩
    have eL2 := s2 _ _ npL eL
    have hd2 := Da.stAll (a.st s2) _ _ (imm_prs l) hd
    refine ⟨.int (place + 1 + d), rfl, .int n, rfl, _, _, rfl, rfl, _, rfl, ite2 (fun z => ?_) (fun z => ?_)⟩
    · refine ⟨.ref L, rfl, L, _, rfl, .inl ⟨SqL.of eL2, fun t ht => ?_⟩⟩
      exact q _ _ l ((e.trans s2).trans (Same.b (same_upd ht))) (a2.upd ht) (.tup upd_same (Da.sameAll (same_upd ht) _ _ hd2)) (by omega) hp
    · have hlt : place + 1 + d < n := by
        have : ¬ n ≤ place + 1 + d := fun y => z (decide_eq_true y)
        omega
      refine ⟨.ref p, rfl, .int last, rfl, p, c, _, rfl, a2, hlast, fun H3 fc s3 a3 f0 f1 => ?_⟩
      have eL3 := s3 _ _ npL eL2
      have hd3 := Da.stAll (a2.st s3) _ _ (imm_prs l) hd2
      refine ⟨.ref L, rfl, .inl ⟨rfl, _, SqL.of eL3⟩, .int (place + 1 + d), rfl, .int fc, rfl, by show 2 ≤ sizeLine; decide, fun t ht => ?_⟩
      have ntL : L ≠ t := ne_of_none eL3 ht
      have eL4 : upd H3 t (.tup [.int (place + 1 + d), .int fc]) L = some (.lst acc) := by rw [upd_ne ntL]; exact eL3
      have st4 : ST K (upd H3 t (.tup [.int (place + 1 + d), .int fc])) (upd (upd H3 t (.tup [.int (place + 1 + d), .int fc])) L (.lst (acc ++ [.ref t]))) := st_upd eL4 True.intro
      have hal : acc.length = l.length := by
        rw [hd.length, List.length_map]
      have nL : H L = none := hL
      refine ⟨L, _, _, rfl, rfl, eL4, Nat.lt_of_le_of_lt (show acc.length ≤ 5 by omega) (by decide), _, _, _, _, l ++ [(place + 1 + d, fc)], rfl, ?_, ?_, upd_same, ?_, by simp; omega, ?_, by omega, f1⟩
      · exact (((e.trans s2).trans s3).trans (Same.b (same_upd ht))).mut nL
      · exact (a3.upd ht).upd2 npL.symm (hs.cne hL)
      · rw [List.map_append]
        refine DaAll.snoc ?_ ?_
        · exact Da.st st4 _ _ (imm_pr _) (da_pr upd_same)
        · exact Da.stAll st4 _ _ (imm_prs l) (Da.sameAll (same_upd ht) _ _ hd3)
      · intro q' hq'
        rcases List.mem_append.mp hq' with hq' | hq'
        · exact hp q' hq'
        · rw [List.mem_singleton.mp hq']
          exact ⟨by show 0 ≤ place + 1 + d; omega, hlt, f1⟩
  · obtain ⟨place, last, y5, acc, l, rfl, e, a, eL, hd, hl, hp, hplace, hlast⟩ := pv'
    refine ⟨.ref L, rfl, L, _, rfl, .inl ⟨SqL.of eL, fun t ht => ?_⟩⟩
    exact q _ _ l (e.trans (Same.b (same_upd ht))) (a.upd ht) (.tup upd_same (Da.sameAll (same_upd ht) _ _ hd)) (by omega) hp
def spExpr (K : PySem.W.Frag) : Sp := fun vs H Q _ => ∃ (p c : Addr) (n : Int), vs = [.ref p, .int n] ∧ SrcAt c H p ∧ n ≤ 100 ∧ ∀ H' v t, SameB p H H' → SrcAt c H' p → Da K H' v (tmD t) → TmOk n t → Q v H'
theorem d_law_expr (B : Bt mg) (T : Top K mg "_law_expr" s_law_expr ["source", "width"]) (D_law_draw : Def P w K mg base "_law_draw" 2 ["source", "many"] (spDraw K)) (D_law_number : Def P w K mg base "_law_number" 3 ["source"] spNumber) (D_law_parts : Def P w K mg base "_law_parts" 5 ["source", "width"] (spParts K)) : Def P w K mg base "_law_expr" 6 ["source", "width"] (spExpr K) := by
  refine mk_def T sc_law_expr (by rintro _ _ _ _ ⟨p, c, n, rfl, _⟩; rfl) fun f cdv A outer s H vs Q E hr h => ?_
  obtain ⟨p, c, n, rfl, hs, hn, q⟩ := h
  refine ⟨_, (pss_cons (ps_set (i := 2) sc_law_expr.nd rfl (Or.inl rfl) (pe_def D_law_draw (hr.mono (by first | decide | omega)) (by rfl) (pa_cons (pv 0) (pa_cons pe_int pa_nil))))
      (Evl.pss_cut (ps_if (pw_and (pt_cmpR op_eq (pv 2) pe_int (nomark _)) (pw_and1 (pt_cmpR op_gt (pv 1) pe_int (nomark _)))).pt (pss_one (ps_ret (pe_tup (pa_cons pe_int (pa_cons (pe_tup (pa_cons (pe_tup (pa_cons (pe_def D_law_draw (hr.mono (by first | decide | omega)) (by rfl) (pa_cons (pv 0) (pa_cons (pv 1) pa_nil))) (pa_cons pe_int pa_nil))) pa_nil)) pa_nil))))) pss_nil)
      (pss_cons (ps_if (pt_cmpR op_eq (pv 2) pe_int (nomark _)) (pss_one (ps_ret (pe_tup (pa_cons (pe_def D_law_number (hr.mono (by first | decide | omega)) (by rfl) (pa_cons (pv 0) pa_nil)) (pa_cons (pe_tup pa_nil) pa_nil))))) pss_nil)
      (pss_cons (ps_set (i := 3) sc_law_expr.nd rfl (Or.inl rfl) (pe_def D_law_parts (hr.mono (by first | decide | omega)) (by rfl) (pa_cons (pv 0) (pa_cons (pv 1) pa_nil))))
      (pss_cons (ps_if (pt_cmpR op_lt (pv 2) pe_int (nomark _)) (pss_one (ps_ret (pe_tup (pa_cons pe_int (pa_cons (pv 3) pa_nil))))) pss_nil)
      (pss_one (ps_ret (pe_tup (pa_cons (pe_def D_law_number (hr.mono (by first | decide | omega)) (by rfl) (pa_cons (pv 0) pa_nil)) (pa_cons (pv 3) pa_nil)))))))))), ?_⟩
  refine ⟨.ref p, rfl, p, c, _, rfl, hs, by decide, by decide, fun H1 ch s1 a1 c0 c1 => ?_⟩
  refine ⟨fun σ' H3 => σ' = [some (.ref p), some (.int n), some (.int ch), none] ∧ H3 = H1, ?_, ?_⟩
  · refine ⟨.int ch, rfl, rfl, _, rfl, ite2 (fun z => ?_) (fun z => iteF ⟨rfl, rfl⟩)⟩
    refine ⟨.int n, rfl, _, _, rfl, rfl, _, rfl, ite2 (fun z2 => ?_) (fun z2 => ⟨rfl, rfl⟩)⟩
    have hn0 : 0 < n := of_decide_eq_true z2
    refine ⟨.ref p, rfl, .int n, rfl, p, c, _, rfl, a1, hn0, by omega, fun H2 d s2 a2 d0 d1 => ⟨by show 2 ≤ sizeLine; decide, fun t1 h1 => ⟨by show 1 ≤ sizeLine; decide, fun t2 h2 => ⟨by show 2 ≤ sizeLine; decide, fun t3 h3 => ?_⟩⟩⟩⟩
    refine q _ _ (0, [(d, 1)]) ((((s1.trans s2).trans (Same.b (same_upd h1))).trans (Same.b (same_upd h2))).trans (Same.b (same_upd h3))) (((a2.upd h1).upd h2).upd h3) (da_tm upd_same ?_) ⟨small0, (by show 1 ≤ 4; decide), fun q' hq' => ?_⟩
    · refine Da.same (same_upd h3) _ _ (.tup upd_same (.cons ?_ .nil))
      exact Da.same (same_upd h2) _ _ (da_pr upd_same)
    · rw [List.mem_singleton.mp hq']
      exact ⟨d0, d1, small1⟩
  rintro σ' H3 ⟨rfl, rfl⟩
  refine ⟨.int ch, rfl, rfl, _, rfl, ite2 (fun z => ?_) (fun z => ?_)⟩
  · refine ⟨.ref p, rfl, p, c, rfl, a1, fun H2 r s2 a2 hr2 => ⟨by show 0 ≤ sizeLine; decide, fun t1 h1 => ⟨by show 2 ≤ sizeLine; decide, fun t2 h2 => ?_⟩⟩⟩
    exact q _ _ (r, []) (((s1.trans s2).trans (Same.b (same_upd h1))).trans (Same.b (same_upd h2))) ((a2.upd h1).upd h2) (da_tm upd_same (Da.same (same_upd h2) _ _ (.tup upd_same .nil))) ⟨hr2, Nat.zero_le _, fun q' hq' => (by cases hq')⟩
  · refine ⟨.ref p, rfl, .int n, rfl, p, c, n, rfl, a1, hn, fun H2 v l s2 a2 hv hl hp => ?_⟩
    refine ⟨.int ch, rfl, _, _, rfl, rfl, _, rfl, ite2 (fun z2 => ?_) (fun z2 => ?_)⟩
    · refine ⟨v, rfl, by show 2 ≤ sizeLine; decide, fun t1 h1 => ?_⟩
      exact q _ _ (0, l) ((s1.trans s2).trans (Same.b (same_upd h1))) (a2.upd h1) (da_tm upd_same (Da.same (same_upd h1) _ _ hv)) ⟨small0, hl, hp⟩
    · refine ⟨.ref p, rfl, p, c, rfl, a2, fun H4 r s4 a4 hr4 => ⟨v, rfl, by show 2 ≤ sizeLine; decide, fun t1 h1 => ?_⟩⟩
      have hv4 := Da.st (a2.st s4) _ _ (imm_pt l) hv
      exact q _ _ (r, l) (((s1.trans s2).trans s4).trans (Same.b (same_upd h1))) (a4.upd h1) (da_tm upd_same (Da.same (same_upd h1) _ _ hv4)) ⟨hr4, hl, hp⟩
def spExprs (K : PySem.W.Frag) : Sp := fun vs H Q _ => ∃ (p c : Addr) (m n : Int), vs = [.ref p, .int m, .int n] ∧ SrcAt c H p ∧ 0 ≤ m ∧ m ≤ 12 ∧ n ≤ 100 ∧ ∀ H' v ts, SameB p H H' → SrcAt c H' p → Da K H' v (tsD ts) → (ts.length : Int) = m → (∀ t ∈ ts, TmOk n t) → Q v H'
theorem d_law_exprs (B : Bt mg) (T : Top K mg "_law_exprs" s_law_exprs ["source", "many", "width"]) (D_law_draw : Def P w K mg base "_law_draw" 2 ["source", "many"] (spDraw K)) (D_law_expr : Def P w K mg base "_law_expr" 6 ["source", "width"] (spExpr K)) : Def P w K mg base "_law_exprs" 7 ["source", "many", "width"] (spExprs K) := by
  refine mk_def T sc_law_exprs (by rintro _ _ _ _ ⟨p, c, m, n, rfl, _⟩; rfl) fun f cdv A outer s H vs Q E hr h => ?_
  obtain ⟨p, c, m, n, rfl, hs, hm, hm2, hn, q⟩ := h
  refine ⟨_, (pss_cons (ps_set (i := 3) sc_law_exprs.nd rfl (Or.inl rfl) (pe_lst pa_nil))
      (pss_cons (ps_for PassesOwn.never rfl (pi_range1 (by rfl) B.m_range (pa_cons (pv 1) pa_nil)) (pg_name (i := 4) sc_law_exprs.nd rfl (Or.inl rfl)) (pss_one (ps_if (pw_and (pt_cmpR op_gt (pv 4) pe_int (nomark _)) (pw_and1 (pt_cmpR op_eq (pe_def D_law_draw (hr.mono (by first | decide | omega)) (by rfl) (pa_cons (pv 0) (pa_cons pe_int pa_nil))) pe_int (nomark _)))).pt (pss_one (ps_expr (pe_bm PySem.F.plainAttrs_list PySem.F.slot_list_append PySem.F.type_list_append mt_append (pv 3) (pa_cons (pe_ix ix_list (pv 3) (pe_def D_law_draw (hr.mono (by first | decide | omega)) (by rfl) (pa_cons (pv 0) (pa_cons (pv 4) pa_nil))) (fun _ _ => rfl)) pa_nil)))) (pss_one (ps_expr (pe_bm PySem.F.plainAttrs_list PySem.F.slot_list_append PySem.F.type_list_append mt_append (pv 3) (pa_cons (pe_def D_law_expr (hr.mono (by first | decide | omega)) (by rfl) (pa_cons (pv 0) (pa_cons (pv 2) pa_nil))) pa_nil)))))))
      (pss_one (ps_ret (pe_callTy call_tuple_of (by rfl) B.m_tuple (by decide +kernel) (pa_cons (pv 3) pa_nil)))))), ?_⟩
  refine ⟨by show 0 ≤ sizeLine; decide, fun L hL => ?_⟩
  have npL : p ≠ L := hs.pne hL
  have ncL : c ≠ L := hs.cne hL
  refine ⟨.int m, rfl, m, rfl, by omega, by omega, ?_⟩
  refine for_range (lo := 0) (n := m.toNat) (fun i σ H' => ∃ (y4 : Option V) (acc : List V) (ts : List Tm), σ = [some (.ref p), some (.int m), some (.int n), some (.ref L), y4] ∧ SameB p H H' ∧ SrcAt c H' p ∧ H' L = some (.lst acc) ∧ DaAll K H' acc (ts.map tmD) ∧ ts.length = i ∧ ∀ t ∈ ts, TmOk n t)
    ⟨none, [], [], rfl, Same.b (same_upd hL), hs.upd hL, upd_same, .nil, rfl, fun q hq => (by cases hq)⟩ (fun i σ H' hi pv' => ?_) (fun σ H' pv' => ?_)
  · obtain ⟨y4, acc, ts, rfl, e, a, eL, hd, hl, hp⟩ := pv'
    have hal : acc.length = i := by rw [hd.length, List.length_map, hl]
    -- a term of the list once more, or a new one
    have put : ∀ (H2 : Hp) (v : V) (t : Tm), SameB p H H2 → SrcAt c H2 p → H2 L = some (.lst acc) → DaAll K H2 acc (ts.map tmD) → Da K H2 v (tmD t) → TmOk n t →
        ∃ (acc' : List V) (ts' : List Tm), SameB p H (upd H2 L (.lst (acc ++ [v]))) ∧ SrcAt c (upd H2 L (.lst (acc ++ [v]))) p ∧ upd H2 L (.lst (acc ++ [v])) L = some (.lst acc') ∧ DaAll K (upd H2 L (.lst (acc ++ [v]))) acc' (ts'.map tmD) ∧ ts'.length = i + 1 ∧ ∀ t ∈ ts', TmOk n t := by
      intro H2 v t e2 a2 eL2 hd2 hv ht
      have st2 : ST K H2 (upd H2 L (.lst (acc ++ [v]))) := st_upd eL2 True.intro
      refine ⟨_, ts ++ [t], e2.mut hL, a2.upd2 npL ncL, upd_same, ?_, by simp [hl], ?_⟩
      · rw [List.map_append]
        exact DaAll.snoc (Da.st st2 _ _ (imm_tm t) hv) (Da.stAll st2 _ _ (imm_tms ts) hd2)
      · intro t' ht'
        rcases List.mem_append.mp ht' with h' | h'
        · exact hp t' h'
        · rw [List.mem_singleton.mp h']
          exact ht
    have lt : acc.length < sizeLine := Nat.lt_of_le_of_lt (show acc.length ≤ 12 by omega) (by decide)
    refine ⟨.int (0 + (i : Nat)), rfl, _, _, rfl, rfl, _, rfl, ite2 (fun z => ?_) (fun z => iteF ?_)⟩
    · have hi0 : 0 < (0 + (i : Int)) := of_decide_eq_true z
      refine ⟨.ref p, rfl, p, c, _, rfl, a, by decide, by decide, fun H1 d s1 a1 d0 d1 => ⟨rfl, _, rfl, ite2 (fun z2 => ?_) (fun z2 => ?_)⟩⟩
      · have eL1 := s1 _ _ npL.symm eL
        have hd1 := Da.stAll (a.st s1) _ _ (imm_tms ts) hd
        refine ⟨.ref L, rfl, .inl ⟨rfl, _, SqL.of eL1⟩, .ref L, rfl, .ref p, rfl, .int (0 + (i : Nat)), rfl, p, c, _, rfl, a1, hi0, by omega, fun H2 g s2 a2 g0 g1 => ?_⟩
        obtain ⟨j, rfl⟩ := Int.eq_ofNat_of_zero_le g0
        have hj : j < acc.length := by omega
        have eL2 := s2 _ _ npL.symm eL1
        have hd2 := Da.stAll (a1.st s2) _ _ (imm_tms ts) hd1
        obtain ⟨dd, hd3, hd4⟩ := hd2.get (i := j) (v := acc[j]) (by simp [hj])
        rw [List.getElem?_map] at hd3
        have hjt : j < ts.length := by omega
        rw [List.getElem?_eq_getElem hjt] at hd3
        have ed : tmD ts[j] = dd := Option.some.inj hd3
        rw [← ed] at hd4
        refine ⟨L, _, _, acc[j], rfl, rfl, SqL.of eL2, atI_nat (j := j) (by simp [hj]), L, _, _, rfl, rfl, eL2, lt, ?_⟩
        obtain ⟨acc', ts', k⟩ := put H2 acc[j] ts[j] ((e.trans s1).trans s2) a2 eL2 hd2 hd4 (hp _ (List.getElem_mem hjt))
        exact ⟨_, acc', ts', rfl, k⟩
      · have eL1 := s1 _ _ npL.symm eL
        have hd1 := Da.stAll (a.st s1) _ _ (imm_tms ts) hd
        refine ⟨.ref L, rfl, .inl ⟨rfl, _, SqL.of eL1⟩, .ref p, rfl, .int n, rfl, p, c, n, rfl, a1, hn, fun H2 v t s2 a2 hv ht => ?_⟩
        have eL2 := s2 _ _ npL.symm eL1
        have hd2 := Da.stAll (a1.st s2) _ _ (imm_tms ts) hd1
        obtain ⟨acc', ts', k⟩ := put H2 v t ((e.trans s1).trans s2) a2 eL2 hd2 hv ht
        exact ⟨L, _, _, rfl, rfl, eL2, lt, _, acc', ts', rfl, k⟩
    · refine ⟨.ref L, rfl, .inl ⟨rfl, _, SqL.of eL⟩, .ref p, rfl, .int n, rfl, p, c, n, rfl, a, hn, fun H2 v t s2 a2 hv ht => ?_⟩
      have eL2 := s2 _ _ npL.symm eL
      have hd2 := Da.stAll (a.st s2) _ _ (imm_tms ts) hd
      obtain ⟨acc', ts', k⟩ := put H2 v t (e.trans s2) a2 eL2 hd2 hv ht
      exact ⟨L, _, _, rfl, rfl, eL2, lt, _, acc', ts', rfl, k⟩
  · obtain ⟨y4, acc, ts, rfl, e, a, eL, hd, hl, hp⟩ := pv'
    refine ⟨.ref L, rfl, L, _, rfl, .inl ⟨SqL.of eL, fun t ht => ?_⟩⟩
    exact q _ _ ts (e.trans (Same.b (same_upd ht))) (a.upd ht) (.tup upd_same (Da.sameAll (same_upd ht) _ _ hd)) (by omega) hp
end
end K12

namespace K12
open PySem PySem.Spec PyProof.Rows L2
/-- data less deep than n, of no long tuples -/
def okD : Nat → PyData → Bool
  | 0, _ => false
  | n + 1, .tuple ds => decide (ds.length ≤ 1000) && ds.all (okD n)
  | _ + 1, .int _ => true
  | _ + 1, .bool _ => true
  | _ + 1, .str _ => true
  | _ + 1, _ => false
section
variable {P : Program} {w : World} {K : PySem.W.Frag} {mg : Str → Option Value} {base : Heap}
def spSame (K : PySem.W.Frag) (n : Nat) : Sp := fun vs H Q _ => ∃ (u v : V) (d : PyData), vs = [u, v] ∧ Da K H u d ∧ Da K H v d ∧ okD n d = true ∧ ∀ H', Same H H' → Q (.bl true) H'
theorem d_law_same (B : Bt mg) (T : Top K mg "_law_same" s_law_same ["told", "due"]) : ∀ n : Nat, Def P w K mg base "_law_same" (n + 1) ["told", "due"] (spSame K n)
  | 0 => mk_def T sc_law_same (by rintro _ _ _ _ ⟨u, v, d, rfl, _⟩; rfl) fun f cdv A outer s H vs Q E hr h => by
    obtain ⟨u, v, d, _, _, _, h, _⟩ := h
    exact absurd h (by simp [okD])
  | n + 1 => by
    have D_law_same := d_law_same B T n
    refine mk_def T sc_law_same (by rintro _ _ _ _ ⟨u, v, d, rfl, _⟩; rfl) fun f cdv A outer s H vs Q E hr h => ?_
    obtain ⟨u, v, d, rfl, hu, hv, hok, q⟩ := h
    refine ⟨_, (pss_cons (ps_if (pt_val (pe_callB call_isi (by rfl) B.m_isinstance (by decide +kernel) (pa_cons (pv 1) (pa_cons (pe_bltn (v := .ty "tuple") (by rfl) B.m_tuple (by decide +kernel) rfl) pa_nil)))) (pss_cons (ps_if (pw_or (pt_not (pt_val (pe_callB call_isi (by rfl) B.m_isinstance (by decide +kernel) (pa_cons (pv 0) (pa_cons (pe_bltn (v := .ty "tuple") (by rfl) B.m_tuple (by decide +kernel) rfl) pa_nil))))) (pw_or1 (pt_cmpR op_ne (pe_callB call_len_seq (by rfl) B.m_len PySem.boot_len (pa_cons (pv 0) pa_nil)) (pe_callB call_len_seq (by rfl) B.m_len PySem.boot_len (pa_cons (pv 1) pa_nil)) (nomark _)))).pt (pss_one (ps_ret pe_bl)) pss_nil)
      (pss_one (ps_ret (pe_callB (cr_all rfl) (by rfl) B.m_all (by decide +kernel) (pa_cons (pe_lc (own := [("k", 2)]) (g := (gName 2)) (tt := tYes) (te := (tCall (spSame K n) [] E0 (tCons (tOp (rIxT K) (tVar 0) (tVar 2)) (tCons (tOp (rIxT K) (tVar 1) (tVar 2)) tNil)))) rfl sc_law_same.nd (pi_range1 (by rfl) B.m_range (pa_cons (pe_callB call_len_seq (by rfl) B.m_len PySem.boot_len (pa_cons (pv 1) pa_nil)) pa_nil)) (blkOk_by (own := [("k", 2)]) (N := N_law_same) (sc := defScope s_law_same) (by decide +kernel)) (fun _ _ _ _ _ => (pg_name (i := 2) sc_law_same.nd rfl (Or.inl rfl))) (fun _ _ _ _ _ => pts_nil) (fun _ _ _ _ _ => (pe_def D_law_same (hr.mono (by first | decide | omega)) (by rfl) (pa_cons (pe_ix ix_tup (pv 0) (pv 2) (fun _ _ => rfl)) (pa_cons (pe_ix ix_tup (pv 1) (pv 2) (fun _ _ => rfl)) pa_nil))))) pa_nil))))) pss_nil)
      (pss_cons (ps_if (pt_val (pe_callB call_isi (by rfl) B.m_isinstance (by decide +kernel) (pa_cons (pv 1) (pa_cons (pe_bltn (v := .ty "list") (by rfl) B.m_list (by decide +kernel) rfl) pa_nil)))) (pss_cons ps_never (pss_one ps_never)) pss_nil)
      (pss_cons (ps_if (pt_val (pe_callB call_isi (by rfl) B.m_isinstance (by decide +kernel) (pa_cons (pv 1) (pa_cons (pe_bltn (v := .ty "bool") (by rfl) B.m_bool (by decide +kernel) rfl) pa_nil)))) (pss_one (ps_ret (pe_and (pe_callB call_isi (by rfl) B.m_isinstance (by decide +kernel) (pa_cons (pv 0) (pa_cons (pe_bltn (v := .ty "bool") (by rfl) B.m_bool (by decide +kernel) rfl) pa_nil))) (pe_one (pe_cmpR op_eq (pv 0) (pv 1) (nomark _)))))) pss_nil)
      (pss_cons (ps_if (pt_val (pe_callB call_isi (by rfl) B.m_isinstance (by decide +kernel) (pa_cons (pv 1) (pa_cons (pe_bltn (v := .ty "int") (by rfl) B.m_int (by decide +kernel) rfl) pa_nil)))) (pss_one (ps_ret (pe_and (pe_callB call_isi (by rfl) B.m_isinstance (by decide +kernel) (pa_cons (pv 0) (pa_cons (pe_bltn (v := .ty "int") (by rfl) B.m_int (by decide +kernel) rfl) pa_nil))) (pe_and (pe_not (pe_callB call_isi (by rfl) B.m_isinstance (by decide +kernel) (pa_cons (pv 0) (pa_cons (pe_bltn (v := .ty "bool") (by rfl) B.m_bool (by decide +kernel) rfl) pa_nil)))) (pe_one (pe_cmpR op_eq (pv 0) (pv 1) (nomark _))))))) pss_nil)
      (pss_cons (ps_if (pt_val (pe_callB call_isi (by rfl) B.m_isinstance (by decide +kernel) (pa_cons (pv 1) (pa_cons (pe_bltn (v := .ty "str") (by rfl) B.m_str (by decide +kernel) rfl) pa_nil)))) (pss_one (ps_ret (pe_and (pe_callB call_isi (by rfl) B.m_isinstance (by decide +kernel) (pa_cons (pv 0) (pa_cons (pe_bltn (v := .ty "str") (by rfl) B.m_str (by decide +kernel) rfl) pa_nil))) (pe_one (pe_cmpR op_eq (pv 0) (pv 1) (nomark _)))))) pss_nil)
      (pss_one (ps_ret (pe_cmpR op_isN (pv 0) pe_non (nomark _))))))))), ?_⟩
    cases d with
    | none => exact absurd hok (by simp [okD])
    | list ds => exact absurd hok (by simp [okD])
    | dict ds => exact absurd hok (by simp [okD])
    | int i =>
      cases hu
      cases hv
      refine ⟨.int i, rfl, _, _, .type "int", .type "tuple", false, rfl, .ty _, .base (.int i), kit_ty (by decide +kernel), _, rfl, ?_⟩
      refine ⟨.int i, rfl, _, _, .type "int", .type "list", false, rfl, .ty _, .base (.int i), kit_ty (by decide +kernel), _, rfl, ?_⟩
      refine ⟨.int i, rfl, _, _, .type "int", .type "bool", false, rfl, .ty _, .base (.int i), kit_ty (by decide +kernel), _, rfl, ?_⟩
      refine ⟨.int i, rfl, _, _, .type "int", .type "int", true, rfl, .ty _, .base (.int i), kit_ty (by decide +kernel), _, rfl, ?_⟩
      refine ⟨.int i, rfl, _, _, .type "int", .type "int", true, rfl, .ty _, .base (.int i), kit_ty (by decide +kernel), _, rfl, ?_⟩
      refine ⟨.int i, rfl, _, _, .type "int", .type "bool", false, rfl, .ty _, .base (.int i), kit_ty (by decide +kernel), _, rfl, ?_⟩
      refine ⟨_, rfl, .int i, rfl, .int i, rfl, rfl, ?_⟩
      rw [decide_eq_true rfl]
      exact q H (Same.refl _)
    | bool b =>
      cases hu
      cases hv
      refine ⟨.bl b, rfl, _, _, .type "bool", .type "tuple", false, rfl, .ty _, .base (.bl b), kit_ty (by decide +kernel), _, rfl, ?_⟩
      refine ⟨.bl b, rfl, _, _, .type "bool", .type "list", false, rfl, .ty _, .base (.bl b), kit_ty (by decide +kernel), _, rfl, ?_⟩
      refine ⟨.bl b, rfl, _, _, .type "bool", .type "bool", true, rfl, .ty _, .base (.bl b), kit_ty (by decide +kernel), _, rfl, ?_⟩
      refine ⟨.bl b, rfl, _, _, .type "bool", .type "bool", true, rfl, .ty _, .base (.bl b), kit_ty (by decide +kernel), _, rfl, ?_⟩
      refine ⟨.bl b, rfl, .bl b, rfl, rfl, ?_⟩
      rw [decide_eq_true rfl]
      exact q H (Same.refl _)
    | str x =>
      cases hu
      cases hv
      refine ⟨.str x, rfl, _, _, .type "str", .type "tuple", false, rfl, .ty _, .base (.str x), kit_ty (by decide +kernel), _, rfl, ?_⟩
      refine ⟨.str x, rfl, _, _, .type "str", .type "list", false, rfl, .ty _, .base (.str x), kit_ty (by decide +kernel), _, rfl, ?_⟩
      refine ⟨.str x, rfl, _, _, .type "str", .type "bool", false, rfl, .ty _, .base (.str x), kit_ty (by decide +kernel), _, rfl, ?_⟩
      refine ⟨.str x, rfl, _, _, .type "str", .type "int", false, rfl, .ty _, .base (.str x), kit_ty (by decide +kernel), _, rfl, ?_⟩
      refine ⟨.str x, rfl, _, _, .type "str", .type "str", true, rfl, .ty _, .base (.str x), kit_ty (by decide +kernel), _, rfl, ?_⟩
      refine ⟨.str x, rfl, _, _, .type "str", .type "str", true, rfl, .ty _, .base (.str x), kit_ty (by decide +kernel), _, rfl, ?_⟩
      refine ⟨.str x, rfl, .str x, rfl, rfl, ?_⟩
      rw [decide_eq_true rfl]
      exact q H (Same.refl _)
    | tuple ds =>
      cases hu with
      | @tup a xs _ ha hda =>
      cases hv with
      | @tup b ys _ hb hdb =>
      have hok' : (decide (ds.length ≤ 1000) && ds.all (okD n)) = true := hok
      rw [Bool.and_eq_true] at hok'
      have hsz : ds.length ≤ 1000 := of_decide_eq_true hok'.1
      have lx := hda.length
      have ly := hdb.length
      refine ⟨.ref b, rfl, _, _, .type "tuple", .type "tuple", true, rfl, .ty _, .base (.tup hb), kit_ty (by decide +kernel), _, rfl, ?_⟩
      refine ⟨.ref a, rfl, _, _, .type "tuple", .type "tuple", true, rfl, .ty _, .base (.tup ha), kit_ty (by decide +kernel), _, rfl, iteF ⟨.ref a, rfl, a, _, rfl, .inr (SqT.of ha), .ref b, rfl, b, _, rfl, .inr (SqT.of hb), rfl, _, rfl, ?_⟩⟩
      refine iteNS (by rw [lx, ly]) ?_
      refine ⟨.ref b, rfl, b, _, rfl, .inr (SqT.of hb), _, rfl, by omega, by omega, fun D hD => ?_⟩
      refine lc_val walk_range hD (by simp; omega) (fun H1 e => True.intro) (List.replicate ds.length (V.bl true)) (by simp [ly]) (fun i x H1 H2 Q' hi e y k => ?_) (fun H1 e eD => ?_)
      · obtain ⟨rfl, rfl⟩ := y
        have hi' : i < ds.length := by simp at hi; omega
        obtain ⟨x1, hx1, hx2⟩ := hda.at (i := i) (d := ds[i]) (by simp [hi'])
        obtain ⟨y1, hy1, hy2⟩ := hdb.at (i := i) (d := ds[i]) (by simp [hi'])
        refine ⟨rfl, .ref a, rfl, .int (0 + (i : Nat)), rfl, a, _, _, x1, rfl, rfl, SqT.of (e _ _ ha), by rw [Int.zero_add]; exact atI_nat hx1, .ref b, rfl, .int (0 + (i : Nat)), rfl, b, _, _, y1, rfl, rfl, SqT.of (e _ _ hb), by rw [Int.zero_add]; exact atI_nat hy1, ?_⟩
        refine ⟨x1, y1, ds[i], rfl, Da.same e _ _ hx2, Da.same e _ _ hy2, List.all_eq_true.mp hok'.2 _ (List.getElem_mem hi'), fun H3 s3 => k _ _ s3 ?_⟩
        simp [hi']
      · refine ⟨D, List.replicate ds.length true, rfl, SqL.of (by rw [eD, List.map_replicate]), ?_⟩
        rw [show (List.replicate ds.length true).all id = true by simp]
        exact q H1 e
end
end K12

namespace K12
open PySem PySem.Spec PyProof.Rows L2
theorem iteY {c A B : Prop} [Decidable c] (hc : c) (h : A) : if decide c = true then A else B := by
  rw [decide_eq_true hc]
  exact iteT h
theorem iteN {c A B : Prop} [Decidable c] (hc : ¬ c) (h : B) : if decide c = true then A else B := by
  rw [decide_eq_false hc]
  exact iteF h
theorem strNe {x y : Str} (h : x ≠ y) : ¬ V.str x = V.str y := fun e => h (V.str.inj e)
/-! ### values -/
def valP (l : List (Int × Int)) (row : List Int) : Int := (l.map fun q => q.2 * row.getD q.1.toNat 0).sum
def valT (t : Tm) (row : List Int) : Int := t.1 + valP t.2 row
theorem valP_snoc (l : List (Int × Int)) (q : Int × Int) (row : List Int) : valP (l ++ [q]) row = valP l row + q.2 * row.getD q.1.toNat 0 := by
  simp [valP]
structure VOk (t : Tm) (row : List Int) : Prop where
  len : t.2.length ≤ 1000
  col : ∀ q ∈ t.2, 0 ≤ q.1 ∧ q.1 < row.length
  mul : ∀ q ∈ t.2, CMulW q.2 (row.getD q.1.toNat 0)
theorem Da.tmI {K : PySem.W.Frag} {H : Hp} {v : V} {t : Tm} (h : Da K H v (tmD t)) : ∃ a b, v = .ref a ∧ H a = some (.tup [.int t.1, .ref b]) ∧ Da K H (.ref b) (ptD t.2) := by
  cases h with
  | @tup a xs ds hs ha =>
    cases ha with
    | cons h1 h2 =>
      cases h2 with
      | cons h2 h3 =>
        cases h3
        cases h1
        cases h2 with
        | @tup b ys es hb hd => exact ⟨a, b, rfl, hs, .tup hb hd⟩
theorem Da.ptI {K : PySem.W.Frag} {H : Hp} {v : V} {l : List (Int × Int)} (h : Da K H v (ptD l)) : ∃ a xs, v = .ref a ∧ H a = some (.tup xs) ∧ DaAll K H xs (l.map prD) := by
  cases h with
  | @tup a xs ds hs ha => exact ⟨a, xs, rfl, hs, ha⟩
theorem Da.tsI {K : PySem.W.Frag} {H : Hp} {v : V} {l : List Tm} (h : Da K H v (tsD l)) : ∃ a xs, v = .ref a ∧ H a = some (.tup xs) ∧ DaAll K H xs (l.map tmD) := by
  cases h with
  | @tup a xs ds hs ha => exact ⟨a, xs, rfl, hs, ha⟩
theorem Da.prI {K : PySem.W.Frag} {H : Hp} {v : V} {q : Int × Int} (h : Da K H v (prD q)) : ∃ a, v = .ref a ∧ H a = some (.tup [.int q.1, .int q.2]) := by
  cases h with
  | @tup a xs ds hs ha =>
    cases ha with
    | cons h1 h2 =>
      cases h2 with
      | cons h2 h3 =>
        cases h3
        cases h1
        cases h2
        exact ⟨a, rfl, hs⟩
theorem at_map {α β : Type} {f : α → β} {l : List α} {i : Nat} {d : β} (h : (l.map f)[i]? = some d) : ∃ x, l[i]? = some x ∧ f x = d := by
  rw [List.getElem?_map] at h
  cases e : l[i]? with
  | none =>
    rw [e] at h
    cases h
  | some x =>
    rw [e] at h
    exact ⟨x, rfl, Option.some.inj h⟩
/-- the item of a row of ints at a column -/
theorem row_at {row : List Int} {i : Int} (h0 : 0 ≤ i) (h1 : i < row.length) : atI (row.map V.int) i = some (.int (row.getD i.toNat 0)) := by
  obtain ⟨j, rfl⟩ := Int.eq_ofNat_of_zero_le h0
  have hj : j < row.length := by omega
  refine atI_nat ?_
  rw [List.getElem?_map, List.getElem?_eq_getElem hj]
  simp [hj]
section
variable {P : Program} {w : World} {K : PySem.W.Frag} {mg : Str → Option Value} {base : Heap}
def spValue (K : PySem.W.Frag) : Sp := fun vs H Q _ => ∃ (u v : V) (t : Tm) (row : List Int), vs = [u, v] ∧ Da K H u (tmD t) ∧ Mo K H v row ∧ VOk t row ∧ ∀ H', Same H H' → Q (.int (valT t row)) H'
theorem d_value_of (B : Bt mg) (T : Top K mg "value_of" svalue_of ["term", "row"]) : Def P w K mg base "value_of" 1 ["term", "row"] (spValue K) := by
  refine mk_def T scvalue_of (by rintro _ _ _ _ ⟨_, _, _, _, rfl, _⟩; rfl) fun f cdv A outer s H vs Q E hr h => ?_
  obtain ⟨u, v, t, row, rfl, hu, hv, ok, q⟩ := h
  refine ⟨_, (pss_cons (ps_asg (pv 0) (pg_tup rfl (pgs_cons (pg_name (i := 2) scvalue_of.nd rfl (Or.inl rfl)) (pgs_cons (pg_name (i := 3) scvalue_of.nd rfl (Or.inl rfl)) pgs_nil))))
      (pss_one (ps_ret (pe_op op_add (pv 2) (pe_callB (cr_sum rfl) (by rfl) B.m_sum (by decide +kernel) (pa_cons (pe_lc (own := [("column", 4), ("factor", 5)]) (g := (gTup K 2 (gCons (gName 4) (gCons (gName 5) gNil)))) (tt := tYes) (te := (tOp yMulW (tVar 5) (tOp (rIxT K) (tVar 1) (tVar 4)))) rfl scvalue_of.nd (pi_tup (pv 3)) (blkOk_by (own := [("column", 4), ("factor", 5)]) (N := Nvalue_of) (sc := defScope svalue_of) (by decide +kernel)) (fun _ _ _ _ _ => (pg_tup rfl (pgs_cons (pg_name (i := 4) scvalue_of.nd rfl (Or.inl rfl)) (pgs_cons (pg_name (i := 5) scvalue_of.nd rfl (Or.inl rfl)) pgs_nil)))) (fun _ _ _ _ _ => pts_nil) (fun _ _ _ _ _ => (pe_op op_mulW (pv 5) (pe_ix ix_tup (pv 1) (pv 4) (fun _ _ => rfl))))) pa_nil)))))), ?_⟩
  obtain ⟨a, b, rfl, ha, hb⟩ := Da.tmI hu
  obtain ⟨c, rfl, hc⟩ := hv.trk
  obtain ⟨_, xs, e, hb, hx⟩ := Da.ptI hb
  cases e
  refine ⟨.ref a, rfl, a, _, rfl, SqT.of ha, rfl, _, _, rfl, _, _, rfl, rfl, ?_⟩
  refine ⟨.int t.1, rfl, .ref b, rfl, b, rfl, ⟨_, SqT.of hb⟩, fun D hD => ?_⟩
  have hl : xs.length = t.2.length := by rw [hx.length, List.length_map]
  refine lc_val (walk_tup (K := K)) hD (by have := ok.len; omega) (fun H1 e => e.seqT (SqT.of hb)) (t.2.map fun q => V.int (q.2 * row.getD q.1.toNat 0)) (by simp [hl]) (fun i x H1 H2 Q' hi e y k => ?_) (fun H1 e eD => ?_)
  · obtain ⟨rfl, hxi⟩ := y
    obtain ⟨d, hd, hdx⟩ := hx.get hxi
    obtain ⟨q0, hq0, rfl⟩ := at_map hd
    obtain ⟨r, rfl, hr0⟩ := Da.prI (Da.same e _ _ hdx)
    obtain ⟨c0, c1⟩ := ok.col q0 (List.mem_of_getElem? hq0)
    refine ⟨r, _, rfl, SqT.of hr0, rfl, _, _, rfl, _, _, rfl, rfl, rfl, .int q0.2, rfl, .ref c, rfl, .int q0.1, rfl, c, _, _, _, rfl, rfl, SqT.of (e _ _ hc), row_at c0 c1, _, _, rfl, rfl, ok.mul q0 (List.mem_of_getElem? hq0), k _ _ (Same.refl _) ?_⟩
    rw [List.getElem?_map, hq0]
    rfl
  · refine ⟨D, t.2.map fun q => q.2 * row.getD q.1.toNat 0, rfl, SqL.of (by rw [eD, List.map_map]; rfl), _, _, rfl, rfl, ?_⟩
    exact q H1 e
theorem d_law_value (B : Bt mg) (T : Top K mg "_law_value" s_law_value ["expr", "values"]) : Def P w K mg base "_law_value" 1 ["expr", "values"] (spValue K) := by
  refine mk_def T sc_law_value (by rintro _ _ _ _ ⟨_, _, _, _, rfl, _⟩; rfl) fun f cdv A outer s H vs Q E hr h => ?_
  obtain ⟨u, v, t, row, rfl, hu, hv, ok, q⟩ := h
  refine ⟨_, (pss_cons (ps_set (i := 2) sc_law_value.nd rfl (Or.inl rfl) (pe_ix ix_tup (pv 0) pe_int (fun _ _ => rfl)))
      (pss_cons (ps_for PassesOwn.never rfl (pi_tup (pe_ix ix_tup (pv 0) pe_int (fun _ _ => rfl))) (pg_name (i := 3) sc_law_value.nd rfl (Or.inl rfl)) (pss_one (ps_set (i := 2) sc_law_value.nd rfl (Or.inl rfl) (pe_op op_add (pv 2) (pe_op op_mulW (pe_ix ix_tup (pv 3) pe_int (fun _ _ => rfl)) (pe_ix ix_tup (pv 1) (pe_ix ix_tup (pv 3) pe_int (fun _ _ => rfl)) (fun _ _ => rfl)))))))
      (pss_one (ps_ret (pv 2))))), ?_⟩
  obtain ⟨a, b, rfl, ha, hb⟩ := Da.tmI hu
  obtain ⟨c, rfl, hc⟩ := hv.trk
  obtain ⟨_, xs, e, hb, hx⟩ := Da.ptI hb
  cases e
  have hl : xs.length = t.2.length := by rw [hx.length, List.length_map]
  refine ⟨.ref a, rfl, a, _, _, .int t.1, rfl, rfl, SqT.of ha, atI_nat (j := 0) rfl, ?_⟩
  refine ⟨.ref a, rfl, a, _, _, .ref b, rfl, rfl, SqT.of ha, atI_nat (j := 1) rfl, b, rfl, ⟨_, SqT.of hb⟩, ?_⟩
  refine for_tup (xs := xs) (fun i σ H' => ∃ y3, σ = [some (.ref a), some (.ref c), some (.int (t.1 + valP (t.2.take i) row)), y3] ∧ Same H H') ⟨none, by simp [valP]; rfl, Same.refl H⟩ (fun i σ H' _ pv' => ?_) (fun i x σ H' hxi pv' => ?_) (fun σ H' pv' => ?_)
  · obtain ⟨_, _, e⟩ := pv'
    exact e.seqT (SqT.of hb)
  · obtain ⟨y3, rfl, e⟩ := pv'
    obtain ⟨d, hd, hdx⟩ := hx.get hxi
    obtain ⟨q0, hq0, rfl⟩ := at_map hd
    obtain ⟨r, rfl, hr0⟩ := Da.prI (Da.same e _ _ hdx)
    obtain ⟨c0, c1⟩ := ok.col q0 (List.mem_of_getElem? hq0)
    refine ⟨_, rfl, .ref r, rfl, r, _, _, .int q0.2, rfl, rfl, SqT.of hr0, atI_nat (j := 1) rfl, .ref c, rfl, .ref r, rfl, r, _, _, .int q0.1, rfl, rfl, SqT.of hr0, atI_nat (j := 0) rfl, c, _, _, _, rfl, rfl, SqT.of (e _ _ hc), row_at c0 c1, _, _, rfl, rfl, ok.mul q0 (List.mem_of_getElem? hq0), _, _, rfl, rfl, some (.ref r), ?_, e⟩
    rw [List.take_add_one, hq0, Option.toList_some, valP_snoc, ← Int.add_assoc]
    rfl
  · obtain ⟨y3, rfl, e⟩ := pv'
    rw [hl, List.take_length]
    exact ⟨_, rfl, q H' e⟩
def opS : Nat → Str
  | 0 => "="
  | 1 => "!="
  | 2 => "<"
  | _ => "<="
def cmpO (a : Int) : Nat → Int → Bool
  | 0, b => decide (a = b)
  | 1, b => !decide (a = b)
  | 2, b => decide (a < b)
  | _, b => decide (a ≤ b)
def spCompares : Sp := fun vs H Q _ => ∃ (a b : Int) (k : Nat), vs = [.int a, .str (opS k), .int b] ∧ k < 4 ∧ Q (.bl (cmpO a k b)) H
theorem d_compares (B : Bt mg) (T : Top K mg "compares" scompares ["left", "op", "right"]) : Def P w K mg base "compares" 1 ["left", "op", "right"] spCompares := by
  refine mk_def T sccompares (by rintro _ _ _ _ ⟨_, _, _, rfl, _⟩; rfl) fun f cdv A outer s H vs Q E hr h => ?_
  obtain ⟨a, b, k, rfl, hk, q⟩ := h
  refine ⟨_, (pss_cons (ps_if (pt_cmpR op_eq (pv 1) pe_str (nomark _)) (pss_one (ps_ret (pe_cmpR op_eq (pv 0) (pv 2) (nomark _)))) pss_nil)
      (pss_cons (ps_if (pt_cmpR op_eq (pv 1) pe_str (nomark _)) (pss_one (ps_ret (pe_cmpR op_ne (pv 0) (pv 2) (nomark _)))) pss_nil)
      (pss_cons (ps_if (pt_cmpR op_eq (pv 1) pe_str (nomark _)) (pss_one (ps_ret (pe_cmpR op_lt (pv 0) (pv 2) (nomark _)))) pss_nil)
      (pss_one (ps_ret (pe_cmpR op_le (pv 0) (pv 2) (nomark _))))))), ?_⟩
  match k, hk with
  | 0, _ => 
    refine ⟨_, rfl, rfl, _, rfl, iteY rfl ⟨.int a, rfl, .int b, rfl, rfl, ?_⟩⟩
    rw [show decide (V.int a = V.int b) = decide (a = b) by simp]
    exact q
  | 1, _ => 
    refine ⟨_, rfl, rfl, _, rfl, iteN (strNe (by decide +kernel)) ⟨_, rfl, rfl, _, rfl, iteY rfl ⟨.int a, rfl, .int b, rfl, rfl, ?_⟩⟩⟩
    rw [show decide (V.int a = V.int b) = decide (a = b) by simp]
    exact q
  | 2, _ => exact ⟨_, rfl, rfl, _, rfl, iteN (strNe (by decide +kernel)) ⟨_, rfl, rfl, _, rfl, iteN (strNe (by decide +kernel)) ⟨_, rfl, rfl, _, rfl, iteY rfl ⟨.int a, rfl, .int b, rfl, _, _, rfl, rfl, q⟩⟩⟩⟩
  | 3, _ => exact ⟨_, rfl, rfl, _, rfl, iteN (strNe (by decide +kernel)) ⟨_, rfl, rfl, _, rfl, iteN (strNe (by decide +kernel)) ⟨_, rfl, rfl, _, rfl, iteN (strNe (by decide +kernel)) ⟨.int a, rfl, .int b, rfl, _, _, rfl, rfl, q⟩⟩⟩⟩
theorem d_law_compares (B : Bt mg) (T : Top K mg "_law_compares" s_law_compares ["left", "op", "right"]) : Def P w K mg base "_law_compares" 1 ["left", "op", "right"] spCompares := by
  refine mk_def T sc_law_compares (by rintro _ _ _ _ ⟨_, _, _, rfl, _⟩; rfl) fun f cdv A outer s H vs Q E hr h => ?_
  obtain ⟨a, b, k, rfl, hk, q⟩ := h
  refine ⟨_, (pss_cons (ps_if (pt_cmpR op_eq (pv 1) pe_str (nomark _)) (pss_one (ps_ret (pe_cmpR op_eq (pv 0) (pv 2) (nomark _)))) pss_nil)
      (pss_cons (ps_if (pt_cmpR op_eq (pv 1) pe_str (nomark _)) (pss_one (ps_ret (pe_cmpR op_ne (pv 0) (pv 2) (nomark _)))) pss_nil)
      (pss_cons (ps_if (pt_cmpR op_eq (pv 1) pe_str (nomark _)) (pss_one (ps_ret (pe_cmpR op_lt (pv 0) (pv 2) (nomark _)))) pss_nil)
      (pss_one (ps_ret (pe_cmpR op_le (pv 0) (pv 2) (nomark _))))))), ?_⟩
  match k, hk with
  | 0, _ => 
    refine ⟨_, rfl, rfl, _, rfl, iteY rfl ⟨.int a, rfl, .int b, rfl, rfl, ?_⟩⟩
    rw [show decide (V.int a = V.int b) = decide (a = b) by simp]
    exact q
  | 1, _ => 
    refine ⟨_, rfl, rfl, _, rfl, iteN (strNe (by decide +kernel)) ⟨_, rfl, rfl, _, rfl, iteY rfl ⟨.int a, rfl, .int b, rfl, rfl, ?_⟩⟩⟩
    rw [show decide (V.int a = V.int b) = decide (a = b) by simp]
    exact q
  | 2, _ => exact ⟨_, rfl, rfl, _, rfl, iteN (strNe (by decide +kernel)) ⟨_, rfl, rfl, _, rfl, iteN (strNe (by decide +kernel)) ⟨_, rfl, rfl, _, rfl, iteY rfl ⟨.int a, rfl, .int b, rfl, _, _, rfl, rfl, q⟩⟩⟩⟩
  | 3, _ => exact ⟨_, rfl, rfl, _, rfl, iteN (strNe (by decide +kernel)) ⟨_, rfl, rfl, _, rfl, iteN (strNe (by decide +kernel)) ⟨_, rfl, rfl, _, rfl, iteN (strNe (by decide +kernel)) ⟨.int a, rfl, .int b, rfl, _, _, rfl, rfl, q⟩⟩⟩⟩
/-! ### rows of values -/
def midT (ts : List Tm) (row : List Int) : List Int := ts.map fun t => valT t row
def spValues (K : PySem.W.Frag) : Sp := fun vs H Q _ => ∃ (u v : V) (ts : List Tm) (row : List Int), vs = [u, v] ∧ Da K H u (tsD ts) ∧ Mo K H v row ∧ ts.length ≤ 1000 ∧ (∀ t ∈ ts, VOk t row) ∧ ∀ H' a, Same H H' → Mo K H' a (midT ts row) → Q a H'
theorem d_values_of (B : Bt mg) (T : Top K mg "values_of" svalues_of ["terms", "row"]) (Dvalue_of : Def P w K mg base "value_of" 1 ["term", "row"] (spValue K)) : Def P w K mg base "values_of" 2 ["terms", "row"] (spValues K) := by
  refine mk_def T scvalues_of (by rintro _ _ _ _ ⟨_, _, _, _, rfl, _⟩; rfl) fun f cdv A outer s H vs Q E hr h => ?_
  obtain ⟨u, v, ts, row, rfl, hu, hv, hn, ok, q⟩ := h
  refine ⟨_, (pss_one (ps_ret (pe_callTy call_tuple_of (by rfl) B.m_tuple (by decide +kernel) (pa_cons (pe_lc (own := [("term", 2)]) (g := (gName 2)) (tt := tYes) (te := (tCall (spValue K) [] E0 (tCons (tVar 2) (tCons (tVar 1) tNil)))) rfl scvalues_of.nd (pi_tup (pv 0)) (blkOk_by (own := [("term", 2)]) (N := Nvalues_of) (sc := defScope svalues_of) (by decide +kernel)) (fun _ _ _ _ _ => (pg_name (i := 2) scvalues_of.nd rfl (Or.inl rfl))) (fun _ _ _ _ _ => pts_nil) (fun _ _ _ _ _ => (pe_def Dvalue_of (hr.mono (by first | decide | omega)) (by rfl) (pa_cons (pv 2) (pa_cons (pv 1) pa_nil))))) pa_nil)))), ?_⟩
  obtain ⟨a, xs, rfl, ha, hx⟩ := Da.tsI hu
  have hl : xs.length = ts.length := by rw [hx.length, List.length_map]
  refine ⟨.ref a, rfl, a, rfl, ⟨_, SqT.of ha⟩, fun D hD => ?_⟩
  refine lc_val (walk_tup (K := K)) hD (by omega) (fun H1 e => e.seqT (SqT.of ha)) ((midT ts row).map V.int) (by simp [midT, hl]) (fun i x H1 H2 Q' hi e y k => ?_) (fun H1 e eD => ?_)
  · obtain ⟨rfl, hxi⟩ := y
    obtain ⟨d, hd, hdx⟩ := hx.get hxi
    obtain ⟨t0, ht0, rfl⟩ := at_map hd
    refine ⟨rfl, x, rfl, v, rfl, x, v, t0, row, rfl, Da.same e _ _ hdx, hv.same e, ok t0 (List.mem_of_getElem? ht0), fun H3 s3 => k _ _ s3 ?_⟩
    rw [midT, List.map_map, List.getElem?_map, ht0]
    rfl
  · refine ⟨D, _, rfl, .inl ⟨SqL.of eD, fun t ht => ?_⟩⟩
    exact q _ _ (e.trans (same_upd ht)) (Mo.of upd_same)
/-! ### tests -/
structure Tst where
  l : Tm
  k : Nat
  r : Tm
def tstD (x : Tst) : PyData := .tuple [tmD x.l, .str (opS x.k), tmD x.r]
def tstsD (l : List Tst) : PyData := .tuple (l.map tstD)
def tstB (x : Tst) (row : List Int) : Bool := cmpO (valT x.l row) x.k (valT x.r row)
structure TstOk (x : Tst) (row : List Int) : Prop where
  l : VOk x.l row
  k : x.k < 4
  r : VOk x.r row
theorem imm_tst (x : Tst) : imm (tstD x) = true := by
  show (imm (tmD x.l) && (true && (imm (tmD x.r) && true))) = true
  rw [imm_tm, imm_tm]
  rfl
theorem imm_tsts (l : List Tst) : immAll (l.map tstD) = true := immAll_of fun d hd => by
  obtain ⟨q, _, rfl⟩ := List.mem_map.mp hd
  exact imm_tst q
theorem Da.tstI {K : PySem.W.Frag} {H : Hp} {v : V} {x : Tst} (h : Da K H v (tstD x)) : ∃ a u z, v = .ref a ∧ H a = some (.tup [u, .str (opS x.k), z]) ∧ Da K H u (tmD x.l) ∧ Da K H z (tmD x.r) := by
  cases h with
  | @tup a xs ds hs ha =>
    cases ha with
    | cons h1 h2 =>
      cases h2 with
      | cons h2 h3 =>
        cases h3 with
        | cons h3 h4 =>
          cases h4
          cases h2
          exact ⟨a, _, _, rfl, hs, h1, h3⟩
theorem Da.tstsI {K : PySem.W.Frag} {H : Hp} {v : V} {l : List Tst} (h : Da K H v (tstsD l)) : ∃ a xs, v = .ref a ∧ H a = some (.tup xs) ∧ DaAll K H xs (l.map tstD) := by
  cases h with
  | @tup a xs ds hs ha => exact ⟨a, xs, rfl, hs, ha⟩
def holdsB (l : List Tst) (row : List Int) : Bool := l.all fun x => tstB x row
def spHolds (K : PySem.W.Frag) : Sp := fun vs H Q _ => ∃ (u v : V) (l : List Tst) (row : List Int), vs = [u, v] ∧ Da K H u (tstsD l) ∧ Mo K H v row ∧ l.length ≤ 1000 ∧ (∀ x ∈ l, TstOk x row) ∧ ∀ H', Same H H' → Q (.bl (holdsB l row)) H'
theorem d_holds (B : Bt mg) (T : Top K mg "holds" sholds ["tests", "row"]) (Dvalue_of : Def P w K mg base "value_of" 1 ["term", "row"] (spValue K)) (Dcompares : Def P w K mg base "compares" 1 ["left", "op", "right"] spCompares) : Def P w K mg base "holds" 2 ["tests", "row"] (spHolds K) := by
  refine mk_def T scholds (by rintro _ _ _ _ ⟨_, _, _, _, rfl, _⟩; rfl) fun f cdv A outer s H vs Q E hr h => ?_
  obtain ⟨u, v, l, row, rfl, hu, hv, hn, ok, q⟩ := h
  refine ⟨_, (pss_one (ps_ret (pe_callB (cr_all rfl) (by rfl) B.m_all (by decide +kernel) (pa_cons (pe_lc (own := [("left", 2), ("op", 3), ("right", 4)]) (g := (gTup K 3 (gCons (gName 2) (gCons (gName 3) (gCons (gName 4) gNil))))) (tt := tYes) (te := (tCall spCompares [] E0 (tCons (tCall (spValue K) [] E0 (tCons (tVar 2) (tCons (tVar 1) tNil))) (tCons (tVar 3) (tCons (tCall (spValue K) [] E0 (tCons (tVar 4) (tCons (tVar 1) tNil))) tNil))))) rfl scholds.nd (pi_tup (pv 0)) (blkOk_by (own := [("left", 2), ("op", 3), ("right", 4)]) (N := Nholds) (sc := defScope sholds) (by decide +kernel)) (fun _ _ _ _ _ => (pg_tup rfl (pgs_cons (pg_name (i := 2) scholds.nd rfl (Or.inl rfl)) (pgs_cons (pg_name (i := 3) scholds.nd rfl (Or.inl rfl)) (pgs_cons (pg_name (i := 4) scholds.nd rfl (Or.inl rfl)) pgs_nil))))) (fun _ _ _ _ _ => pts_nil) (fun _ _ _ _ _ => (pe_def Dcompares (hr.mono (by first | decide | omega)) (by rfl) (pa_cons (pe_def Dvalue_of (hr.mono (by first | decide | omega)) (by rfl) (pa_cons (pv 2) (pa_cons (pv 1) pa_nil))) (pa_cons (pv 3) (pa_cons (pe_def Dvalue_of (hr.mono (by first | decide | omega)) (by rfl) (pa_cons (pv 4) (pa_cons (pv 1) pa_nil))) pa_nil)))))) pa_nil)))), ?_⟩
  obtain ⟨a, xs, rfl, ha, hx⟩ := Da.tstsI hu
  have hl : xs.length = l.length := by rw [hx.length, List.length_map]
  refine ⟨.ref a, rfl, a, rfl, ⟨_, SqT.of ha⟩, fun D hD => ?_⟩
  refine lc_val (walk_tup (K := K)) hD (by omega) (fun H1 e => e.seqT (SqT.of ha)) ((l.map fun x => tstB x row).map V.bl) (by simp [hl]) (fun i x H1 H2 Q' hi e y k => ?_) (fun H1 e eD => ?_)
  · obtain ⟨rfl, hxi⟩ := y
    obtain ⟨d, hd, hdx⟩ := hx.get hxi
    obtain ⟨t0, ht0, rfl⟩ := at_map hd
    obtain ⟨b, z1, z2, rfl, hb, h1, h2⟩ := Da.tstI (Da.same e _ _ hdx)
    have ok0 := ok t0 (List.mem_of_getElem? ht0)
    refine ⟨b, _, rfl, SqT.of hb, rfl, _, _, rfl, _, _, rfl, _, _, rfl, rfl, rfl, z1, rfl, v, rfl, z1, v, t0.l, row, rfl, h1, hv.same e, ok0.l, fun H3 s3 => ?_⟩
    refine ⟨_, rfl, z2, rfl, v, rfl, z2, v, t0.r, row, rfl, Da.same s3 _ _ h2, (hv.same e).same s3, ok0.r, fun H4 s4 => ?_⟩
    refine ⟨_, _, t0.k, rfl, ok0.k, k _ _ (s3.trans s4) ?_⟩
    rw [List.map_map, List.getElem?_map, ht0]
    rfl
  · refine ⟨D, l.map fun x => tstB x row, rfl, SqL.of eD, ?_⟩
    rw [show (l.map fun x => tstB x row).all id = holdsB l row by simp [holdsB]]
    exact q H1 e
theorem d_law_holds (B : Bt mg) (T : Top K mg "_law_holds" s_law_holds ["checks", "values"]) (D_law_value : Def P w K mg base "_law_value" 1 ["expr", "values"] (spValue K)) (D_law_compares : Def P w K mg base "_law_compares" 1 ["left", "op", "right"] spCompares) : Def P w K mg base "_law_holds" 2 ["checks", "values"] (spHolds K) := by
  refine mk_def T sc_law_holds (by rintro _ _ _ _ ⟨_, _, _, _, rfl, _⟩; rfl) fun f cdv A outer s H vs Q E hr h => ?_
  obtain ⟨u, v, l, row, rfl, hu, hv, hn, ok, q⟩ := h
  refine ⟨_, (pss_cons (ps_for PassesOwn.never rfl (pi_tup (pv 0)) (pg_name (i := 2) sc_law_holds.nd rfl (Or.inl rfl)) (pss_cons (ps_set (i := 3) sc_law_holds.nd rfl (Or.inl rfl) (pe_def D_law_value (hr.mono (by first | decide | omega)) (by rfl) (pa_cons (pe_ix ix_tup (pv 2) pe_int (fun _ _ => rfl)) (pa_cons (pv 1) pa_nil))))
      (pss_one (ps_if (pt_not (pt_val (pe_def D_law_compares (hr.mono (by first | decide | omega)) (by rfl) (pa_cons (pv 3) (pa_cons (pe_ix ix_tup (pv 2) pe_int (fun _ _ => rfl)) (pa_cons (pe_def D_law_value (hr.mono (by first | decide | omega)) (by rfl) (pa_cons (pe_ix ix_tup (pv 2) pe_int (fun _ _ => rfl)) (pa_cons (pv 1) pa_nil))) pa_nil)))))) (pss_one (ps_ret pe_bl)) pss_nil))))
      (pss_one (ps_ret pe_bl))), ?_⟩
  obtain ⟨a, xs, rfl, ha, hx⟩ := Da.tstsI hu
  have hl : xs.length = l.length := by rw [hx.length, List.length_map]
  refine ⟨.ref a, rfl, a, rfl, ⟨_, SqT.of ha⟩, ?_⟩
  refine for_tup (xs := xs) (fun i σ H' => ∃ y2 y3, σ = [some (.ref a), some v, y2, y3] ∧ Same H H' ∧ (l.take i).all (fun x => tstB x row) = true) ⟨none, none, rfl, Same.refl H, by simp⟩ (fun i σ H' _ pv' => ?_) (fun i x σ H' hxi pv' => ?_) (fun σ H' pv' => ?_)
  · obtain ⟨_, _, _, e, _⟩ := pv'
    exact e.seqT (SqT.of ha)
  · obtain ⟨y2, y3, rfl, e, hb0⟩ := pv'
    obtain ⟨d, hd, hdx⟩ := hx.get hxi
    obtain ⟨t0, ht0, rfl⟩ := at_map hd
    obtain ⟨b, z1, z2, rfl, hb, h1, h2⟩ := Da.tstI (Da.same e _ _ hdx)
    have ok0 := ok t0 (List.mem_of_getElem? ht0)
    refine ⟨.ref b, rfl, b, _, _, z1, rfl, rfl, SqT.of hb, atI_nat (j := 0) rfl, v, rfl, z1, v, t0.l, row, rfl, h1, hv.same e, ok0.l, fun H3 s3 => ?_⟩
    refine ⟨_, rfl, .ref b, rfl, b, _, _, .str (opS t0.k), rfl, rfl, SqT.of (s3 _ _ hb), atI_nat (j := 1) rfl, .ref b, rfl, b, _, _, z2, rfl, rfl, SqT.of (s3 _ _ hb), atI_nat (j := 2) rfl, v, rfl, z2, v, t0.r, row, rfl, Da.same s3 _ _ h2, (hv.same e).same s3, ok0.r, fun H4 s4 => ?_⟩
    refine ⟨_, _, t0.k, rfl, ok0.k, _, rfl, ?_⟩
    cases hv0 : tstB t0 row with
    | true =>
      have e1 : cmpO (valT t0.l row) t0.k (valT t0.r row) = true := hv0
      rw [e1]
      refine iteF ⟨_, _, rfl, (e.trans s3).trans s4, ?_⟩
      rw [List.take_add_one, ht0, List.all_append, hb0]
      simp [hv0]
    | false =>
      have e1 : cmpO (valT t0.l row) t0.k (valT t0.r row) = false := hv0
      rw [e1]
      have : holdsB l row = false := by
        refine List.all_eq_false.mpr ⟨t0, List.mem_of_getElem? ht0, ?_⟩
        rw [hv0]
        exact Bool.false_ne_true
      rw [this] at q
      exact iteT (q H4 ((e.trans s3).trans s4))
  · obtain ⟨y2, y3, rfl, e, hb0⟩ := pv'
    rw [hl, List.take_length] at hb0
    have : holdsB l row = true := hb0
    rw [this] at q
    exact q H' e
end
end K12

namespace K12
open PySem PySem.Spec PyProof.Rows L2
/-! ### tallies -/
def getI (L : List (Int × Int)) (k : Int) : Int := ((L.find? fun p => decide (p.1 = k)).map (·.2)).getD 0
def putI (L : List (Int × Int)) (k v : Int) : List (Int × Int) := if (L.any fun p => decide (p.1 = k)) = true then L.map (fun p => if p.1 = k then (p.1, v) else p) else L ++ [(k, v)]
def addI (L : List (Int × Int)) (q : Int × Int) : List (Int × Int) := putI L q.1 (getI L q.1 + q.2)
def tallyL (ps : List (Int × Int)) : List (Int × Int) := ps.foldl addI []
def nz (L : List (Int × Int)) : List (Int × Int) := L.filter fun p => decide (p.2 ≠ 0)
theorem inlI (a b : Int) : decide ((Sum.inl a : Key) = Sum.inl b) = decide (a = b) := by
  by_cases e : a = b
  · rw [decide_eq_true e, e]
    exact decide_eq_true rfl
  · rw [decide_eq_false e]
    exact decide_eq_false fun h => e (Sum.inl.inj h)
theorem valV_dkI (k : Int) : ∀ L : List (Int × Int), valV (dkI L) (Sum.inl k) = (L.find? fun p => decide (p.1 = k)).map fun p => V.int p.2
  | [] => rfl
  | p :: L => by
    have ih := valV_dkI k L
    by_cases e : p.1 = k
    · rw [show dkI (p :: L) = (Sum.inl p.1, V.int p.2) :: dkI L from rfl, valV_pos (show (Sum.inl p.1, V.int p.2).1 = (Sum.inl k : Key) by rw [e]), List.find?_cons_of_pos (by simp [e])]
      rfl
    · rw [show dkI (p :: L) = (Sum.inl p.1, V.int p.2) :: dkI L from rfl, valV_neg (show ¬ (Sum.inl p.1, V.int p.2).1 = (Sum.inl k : Key) from fun h => e (Sum.inl.inj h)), List.find?_cons_of_neg (by simp [e])]
      exact ih
theorem putK_dkI (L : List (Int × Int)) (k v : Int) : putK (dkI L) (Sum.inl k) (V.int v) = dkI (putI L k v) := by
  have ha : ((dkI L).any fun kv => decide (kv.1 = (Sum.inl k : Key))) = L.any fun p => decide (p.1 = k) := by
    unfold dkI
    rw [List.any_map]
    congr 1
    funext p
    exact inlI p.1 k
  unfold putK putI
  rw [ha]
  split
  · unfold dkI
    rw [List.map_map, List.map_map]
    refine List.map_congr_left fun p _ => ?_
    show (if (Sum.inl p.1 : Key) = Sum.inl k then ((Sum.inl p.1 : Key), V.int v) else (Sum.inl p.1, V.int p.2)) = _
    by_cases e : p.1 = k
    · rw [if_pos (by rw [e])]
      simp [e]
    · rw [if_neg fun h => e (Sum.inl.inj h)]
      simp [e]
  · unfold dkI
    rw [List.map_append]
    rfl
theorem get_dkI (L : List (Int × Int)) (k : Int) : (valV (dkI L) (Sum.inl k)).getD (V.int 0) = V.int (getI L k) := by
  rw [valV_dkI]
  unfold getI
  cases L.find? fun p => decide (p.1 = k) <;> rfl
def keys (L : List (Int × Int)) : List Int := L.map (·.1)
theorem put_keys_old {L : List (Int × Int)} {k v : Int} (h : (L.any fun p => decide (p.1 = k)) = true) : keys (putI L k v) = keys L := by
  unfold putI keys
  rw [if_pos h, List.map_map]
  refine List.map_congr_left fun p _ => ?_
  show (if p.1 = k then (p.1, v) else p).1 = p.1
  split <;> rfl
theorem put_keys_new {L : List (Int × Int)} {k v : Int} (h : ¬ (L.any fun p => decide (p.1 = k)) = true) : keys (putI L k v) = keys L ++ [k] := by
  unfold putI keys
  rw [if_neg h, List.map_append]
  rfl
theorem put_nodup {L : List (Int × Int)} {k v : Int} (h : (keys L).Nodup) : (keys (putI L k v)).Nodup := by
  by_cases e : (L.any fun p => decide (p.1 = k)) = true
  · rw [put_keys_old e]
    exact h
  · rw [put_keys_new e]
    refine List.nodup_append.mpr ⟨h, by simp, fun a ha b hb => ?_⟩
    rw [List.mem_singleton.mp hb]
    intro z
    subst z
    obtain ⟨p, hp, rfl⟩ := List.mem_map.mp ha
    exact e (List.any_eq_true.mpr ⟨p, hp, by simp⟩)
theorem tally_snoc (ps : List (Int × Int)) (q : Int × Int) : tallyL (ps ++ [q]) = addI (tallyL ps) q := by
  unfold tallyL
  rw [List.foldl_append]
  rfl
theorem fold_nodup : ∀ (ps L : List (Int × Int)), (keys L).Nodup → (keys (ps.foldl addI L)).Nodup
  | [], _, h => h
  | q :: ps, L, h => fold_nodup ps (addI L q) (put_nodup h)
theorem tally_nodup (ps : List (Int × Int)) : (keys (tallyL ps)).Nodup := fold_nodup ps [] (by simp [keys])
theorem put_len {L : List (Int × Int)} {k v : Int} : (putI L k v).length ≤ L.length + 1 := by
  unfold putI
  split
  · simp
  · simp
theorem fold_len : ∀ (ps L : List (Int × Int)), (ps.foldl addI L).length ≤ L.length + ps.length
  | [], _ => Nat.le_refl _
  | q :: ps, L => by
    have h1 := fold_len ps (addI L q)
    have h2 : (addI L q).length ≤ L.length + 1 := put_len
    show (ps.foldl addI (addI L q)).length ≤ _
    rw [List.length_cons]
    omega
theorem tally_len (ps : List (Int × Int)) : (tallyL ps).length ≤ ps.length := by
  have := fold_len ps []
  simpa [tallyL] using this
/-! the value of a tally is that of its pairs -/
theorem valP_cons (q : Int × Int) (l : List (Int × Int)) (row : List Int) : valP (q :: l) row = q.2 * row.getD q.1.toNat 0 + valP l row := by
  simp [valP]
theorem getI_cons_ne {p : Int × Int} {L : List (Int × Int)} {k : Int} (e : ¬ p.1 = k) : getI (p :: L) k = getI L k := by
  unfold getI
  rw [List.find?_cons_of_neg (by simp [e])]
theorem getI_cons_eq {p : Int × Int} {L : List (Int × Int)} : getI (p :: L) p.1 = p.2 := by
  unfold getI
  rw [List.find?_cons_of_pos (by simp)]
  rfl
theorem map_same {L : List (Int × Int)} {k v : Int} (h : k ∉ keys L) : L.map (fun p => if p.1 = k then (p.1, v) else p) = L := by
  have : ∀ p ∈ L, (if p.1 = k then (p.1, v) else p) = p := fun p hp => by
    rw [if_neg]
    intro e
    exact h (List.mem_map.mpr ⟨p, hp, e⟩)
  rw [List.map_congr_left this, List.map_id']
theorem any_keys {L : List (Int × Int)} {k : Int} : (L.any fun p => decide (p.1 = k)) = true ↔ k ∈ keys L := by
  rw [List.any_eq_true]
  constructor
  · rintro ⟨p, hp, e⟩
    exact List.mem_map.mpr ⟨p, hp, of_decide_eq_true e⟩
  · intro h
    obtain ⟨p, hp, e⟩ := List.mem_map.mp h
    exact ⟨p, hp, decide_eq_true e⟩
theorem valP_put (row : List Int) (k c : Int) : ∀ L : List (Int × Int), (keys L).Nodup → valP (putI L k (getI L k + c)) row = valP L row + c * row.getD k.toNat 0
  | [], _ => by
    simp [putI, getI, valP]
  | p :: L, h => by
    have h' := List.nodup_cons.mp (show (p.1 :: keys L).Nodup from h)
    by_cases e : p.1 = k
    · subst e
      have ha : ((p :: L).any fun q => decide (q.1 = p.1)) = true := by simp
      unfold putI
      rw [if_pos ha, List.map_cons, map_same h'.1, getI_cons_eq]
      simp only [if_pos]
      rw [valP_cons, valP_cons]
      show (p.2 + c) * row.getD p.1.toNat 0 + valP L row = p.2 * row.getD p.1.toNat 0 + valP L row + c * row.getD p.1.toNat 0
      rw [Int.add_mul]
      omega
    · have ih := valP_put row k c L h'.2
      rw [getI_cons_ne e]
      have hput : putI (p :: L) k (getI L k + c) = p :: putI L k (getI L k + c) := by
        unfold putI
        have ha : ((p :: L).any fun q => decide (q.1 = k)) = (L.any fun q => decide (q.1 = k)) := by simp [e]
        rw [ha]
        split
        · rw [List.map_cons, if_neg e]
        · rfl
      rw [hput, valP_cons, valP_cons, ih]
      omega
theorem valP_fold (row : List Int) : ∀ (ps L : List (Int × Int)), (keys L).Nodup → valP (ps.foldl addI L) row = valP L row + valP ps row
  | [], L, _ => by simp [valP]
  | q :: ps, L, h => by
    show valP (ps.foldl addI (addI L q)) row = _
    have h2 : (keys (addI L q)).Nodup := put_nodup h
    rw [valP_fold row ps (addI L q) h2, show addI L q = putI L q.1 (getI L q.1 + q.2) from rfl, valP_put row q.1 q.2 L h, valP_cons]
    omega
theorem valP_tally (row : List Int) (ps : List (Int × Int)) : valP (tallyL ps) row = valP ps row := by
  have := valP_fold row ps [] (by simp [keys])
  simpa [tallyL, valP] using this
theorem valP_nz (row : List Int) : ∀ L : List (Int × Int), valP (nz L) row = valP L row
  | [] => rfl
  | p :: L => by
    have ih := valP_nz row L
    by_cases e : p.2 = 0
    · rw [show nz (p :: L) = nz L from List.filter_cons_of_neg (by simp [e]), ih, valP_cons, e]
      simp
    · rw [show nz (p :: L) = p :: nz L from List.filter_cons_of_pos (by simp [e]), valP_cons, valP_cons, ih]
theorem valP_perm {L M : List (Int × Int)} (row : List Int) (h : L.Perm M) : valP L row = valP M row := by
  induction h with
  | nil => rfl
  | cons x _ ih => rw [valP_cons, valP_cons, ih]
  | swap x y l =>
    rw [valP_cons, valP_cons, valP_cons, valP_cons]
    omega
  | trans _ _ h1 h2 => exact h1.trans h2
/-! its counts are no greater than the sum of what was added -/
def sizeP (ps : List (Int × Int)) : Nat := (ps.map fun q => q.2.natAbs).sum
theorem getI_le {L : List (Int × Int)} {S : Nat} (h : ∀ p ∈ L, p.2.natAbs ≤ S) (k : Int) : (getI L k).natAbs ≤ S := by
  unfold getI
  cases e : L.find? fun p => decide (p.1 = k) with
  | none => exact Nat.zero_le _
  | some p => exact h p (List.mem_of_find?_eq_some e)
theorem fold_le : ∀ (ps L : List (Int × Int)) (S : Nat), (∀ p ∈ L, p.2.natAbs ≤ S) → ∀ p ∈ ps.foldl addI L, p.2.natAbs ≤ S + sizeP ps
  | [], L, S, h, p, hp => by simpa [sizeP] using h p hp
  | q :: ps, L, S, h, p, hp => by
    have hg := getI_le h q.1
    have := fold_le ps (addI L q) (S + q.2.natAbs) (fun r hr => ?_) p hp
    · have e : sizeP (q :: ps) = q.2.natAbs + sizeP ps := by simp [sizeP]
      omega
    · have hr' : r ∈ putI L q.1 (getI L q.1 + q.2) := hr
      unfold putI at hr'
      split at hr'
      · obtain ⟨r0, h0, e0⟩ := List.mem_map.mp hr'
        have := h r0 h0
        split at e0
        · rw [← e0]
          show (getI L q.1 + q.2).natAbs ≤ _
          omega
        · rw [← e0]
          omega
      · rcases List.mem_append.mp hr' with h1 | h1
        · have := h r h1
          omega
        · rw [List.mem_singleton.mp h1]
          show (getI L q.1 + q.2).natAbs ≤ _
          omega
theorem tally_le (ps : List (Int × Int)) : ∀ p ∈ tallyL ps, p.2.natAbs ≤ sizeP ps := fun p hp => by
  have := fold_le ps [] 0 (fun p hp => by cases hp) p hp
  omega
theorem tally_keys {P : Int → Prop} : ∀ (ps L : List (Int × Int)), (∀ p ∈ L, P p.1) → (∀ q ∈ ps, P q.1) → ∀ p ∈ ps.foldl addI L, P p.1
  | [], _, h, _, p, hp => h p hp
  | q :: ps, L, h, h2, p, hp => by
    refine tally_keys ps (addI L q) (fun r hr => ?_) (fun x hx => h2 x (List.mem_cons_of_mem _ hx)) p hp
    have hr' : r ∈ putI L q.1 (getI L q.1 + q.2) := hr
    unfold putI at hr'
    split at hr'
    · obtain ⟨r0, h0, e0⟩ := List.mem_map.mp hr'
      have := h r0 h0
      split at e0
      · rw [← e0]
        exact this
      · rw [← e0]
        exact this
    · rcases List.mem_append.mp hr' with h1 | h1
      · exact h r h1
      · rw [List.mem_singleton.mp h1]
        exact h2 q List.mem_cons_self
/-! ### ascending lists of pairs -/
def Asc (l : List (Int × Int)) : Prop := l.Pairwise fun x y => x.1 < y.1
theorem asc_uniq : ∀ {l m : List (Int × Int)}, Asc l → Asc m → l.Perm m → l = m
  | [], m, _, _, h => (List.Perm.eq_nil h.symm).symm
  | x :: l, [], _, _, h => absurd h.length_eq (by simp)
  | x :: l, y :: m, hl, hm, h => by
    obtain ⟨h1, h2⟩ := List.pairwise_cons.mp hl
    obtain ⟨h3, h4⟩ := List.pairwise_cons.mp hm
    have e : x = y := by
      rcases List.mem_cons.mp (h.mem_iff.mp (List.mem_cons_self (a := x) (l := l))) with e | hx
      · exact e
      · rcases List.mem_cons.mp (h.mem_iff.mpr (List.mem_cons_self (a := y) (l := m))) with e | hy
        · exact e.symm
        · have a := h1 y hy
          have b := h3 x hx
          omega
    subst e
    rw [asc_uniq h2 h4 h.cons_inv]
theorem srtd_asc {l : List (Int × Int)} (h : SrtO.Srtd SrtO.lexB l) (hn : (keys l).Nodup) : Asc l := by
  have hn' : l.Pairwise fun x y => x.1 ≠ y.1 := List.pairwise_map.mp hn
  have h' : l.Pairwise fun x y => SrtO.lexB y x = false := h
  refine (hn'.and h').imp fun {x y} hxy => ?_
  have := SrtO.lexB_no.mp hxy.2
  have := hxy.1
  omega
theorem nz_keys {L : List (Int × Int)} (h : (keys L).Nodup) : (keys (nz L)).Nodup := by
  unfold keys nz at *
  exact h.sublist (List.Sublist.map _ List.filter_sublist)
end K12

namespace L2
open PySem PySem.Spec PyProof.Rows
/-- a dict comprehension over a walk: what is kept from turn to turn -/
theorem dc_it {J : It} {n : Nat} {G : Hp → Prop} {Y : Nat → Hp → V → Hp → Prop} (w : Walk J n G Y) {g : TG} {tt : TT} {tk tv : TE} {vs : List Nat} {σ : L2.St} {H1 : Hp} {D : Addr} {Qd : Hp → Prop} (Pv : Nat → Hp → Prop) (h0 : Pv 0 (upd H1 D (.dK []))) (hG : ∀ i H, i ≤ n → Pv i H → G H)
    (hs : ∀ i x H H', i < n → Pv i H → Y i H x H' → g x (wipe σ vs) H' fun σ2 H2 => wipe σ2 vs = wipe σ vs ∧ tt σ2 H2 fun b H3 =>
      if b = true then tk σ2 H3 fun y H4 => tv σ2 H4 fun z H5 => ∃ kvs k, y = kV k ∧ H5 D = some (.dK kvs) ∧ kvs.length < sizeLine ∧ Pv (i + 1) (upd H5 D (.dK (putK kvs k z))) else Pv (i + 1) H3)
    (hd : ∀ H, Pv n H → Qd H) :
    ∃ W : Nat → Nat → Hp → Prop, (∃ m, W 0 m (upd H1 D (.dK []))) ∧ ∀ i m H, W i m H →
      (J.stop i H ∧ Qd H) ∨ (J.go i H ∧ ∃ Nx : Hp → Prop, (∀ H', Nx H' → ∃ m', m' < m ∧ W (i + 1) m' H') ∧ ∀ x H', J.yld i H x H' → g x (wipe σ vs) H' fun σ2 H2 => wipe σ2 vs = wipe σ vs ∧ tt σ2 H2 fun b H3 =>
        if b = true then tk σ2 H3 fun y H4 => tv σ2 H4 fun z H5 => ∃ kvs k, y = kV k ∧ H5 D = some (.dK kvs) ∧ kvs.length < sizeLine ∧ Nx (upd H5 D (.dK (putK kvs k z))) else Nx H3) := by
  refine ⟨fun i m H => m = n - i ∧ i ≤ n ∧ Pv i H, ⟨n, by simp, Nat.zero_le _, h0⟩, ?_⟩
  rintro i m H ⟨rfl, hi, p⟩
  have q := hG i H hi p
  by_cases hlt : i < n
  · exact .inr ⟨w.goes i H hlt q, Pv (i + 1), fun H' p' => ⟨n - (i + 1), by omega, rfl, hlt, p'⟩, fun x H' y => hs i x H H' hlt p (w.yields i H x H' hlt q y)⟩
  · have e : i = n := by omega
    subst e
    exact .inl ⟨w.stops H q, hd H p⟩
end L2
namespace K12
open PySem PySem.Spec PyProof.Rows L2
theorem getD_I {H : Hp} {a : Addr} {L : List (Int × Int)} (h : H a = some (.dK (dkI L))) (k : Int) : ∃ o, DGet H a (.int k) o ∧ o.getD (.int 0) = .int (getI L k) := ⟨_, DGet.k (k := Sum.inl k) h, get_dkI L k⟩
theorem put_I {H : Hp} {a : Addr} {L : List (Int × Int)} (h : H a = some (.dK (dkI L))) (hl : L.length ≤ 1000) (k v : Int) : DPut H a (.int k) (.int v) (upd H a (.dK (dkI (putI L k v)))) := by
  rw [← putK_dkI]
  exact DPut.k (k := Sum.inl k) h (Nat.lt_of_le_of_lt (show (dkI L).length ≤ 1000 by simp [hl]) (by decide))
/-- a key that is there -/
theorem get_I {H : Hp} {a : Addr} {L : List (Int × Int)} (h : Rd H a (.dK (dkI L))) (hn : (keys L).Nodup) {p : Int × Int} (hp : p ∈ L) : DGet H a (.int p.1) (some (.int p.2)) := by
  refine .inl ⟨_, Sum.inl p.1, h, rfl, ?_⟩
  rw [valV_dkI]
  have : L.find? (fun q => decide (q.1 = p.1)) = some p := by
    clear h
    induction L with
    | nil => cases hp
    | cons q L ih =>
      have hn' := List.nodup_cons.mp (show (q.1 :: keys L).Nodup from hn)
      rcases List.mem_cons.mp hp with e | hp'
      · subst e
        exact List.find?_cons_of_pos (by simp)
      · rw [List.find?_cons_of_neg]
        · exact ih hn'.2 hp'
        · intro e
          have e' : q.1 = p.1 := of_decide_eq_true e
          exact hn'.1 (List.mem_map.mpr ⟨p, hp', e'.symm⟩)
  rw [this]
  rfl
theorem putI_new {L : List (Int × Int)} {k v : Int} (h : k ∉ keys L) : putI L k v = L ++ [(k, v)] := by
  unfold putI
  rw [if_neg]
  exact fun e => h (any_keys.mp e)
theorem nz_snoc (L : List (Int × Int)) (p : Int × Int) : nz (L ++ [p]) = if p.2 ≠ 0 then nz L ++ [p] else nz L := by
  unfold nz
  rw [List.filter_append]
  by_cases e : p.2 = 0
  · simp [e]
  · simp [e]
section
variable {P : Program} {w : World} {K : PySem.W.Frag} {mg : Str → Option Value} {base : Heap}
def spWz : Sp := fun vs H Q _ => ∃ (a : Addr) (L : List (Int × Int)), vs = [.ref a] ∧ H a = some (.dK (dkI L)) ∧ (keys L).Nodup ∧ L.length ≤ 1000 ∧ ∀ H' b, Same H H' → H' b = some (.dK (dkI (nz L))) → Q (.ref b) H'
theorem d_without_zeros (B : Bt mg) (T : Top K mg "without_zeros" swithout_zeros ["counts"]) : Def P w K mg base "without_zeros" 1 ["counts"] spWz := by
  refine mk_def T scwithout_zeros (by rintro _ _ _ _ ⟨_, _, rfl, _⟩; rfl) fun f cdv A outer s H vs Q E hr h => ?_
  obtain ⟨a, L, rfl, ha, hn, hl, q⟩ := h
  refine ⟨_, (pss_one (ps_ret (pe_lock (pe_dc (own := [("key", 1)]) (g := (gName 1)) (tt := (tTest (tOp rNe (tDGet (tVar 0) (tVar 1)) (tC (.int 0))))) (tk := (tVar 1)) (tv := (tDGet (tVar 0) (tVar 1))) rfl scwithout_zeros.nd (pi_keys (pv 0)) (blkOk_by (own := [("key", 1)]) (N := Nwithout_zeros) (sc := defScope swithout_zeros) (by decide +kernel)) (fun _ _ _ _ _ => (pg_name (i := 1) scwithout_zeros.nd rfl (Or.inl rfl))) (fun _ _ _ _ _ => (pts_one (pt_cmpR op_ne (pe_dget (hu_of hr) (pv 0) (pv 1) (fun _ _ => rfl)) pe_int (nomark _)))) (fun _ _ _ _ _ => (pv 1)) (fun _ _ _ _ _ => (pe_dget (hu_of hr) (pv 0) (pv 1) (fun _ _ => rfl))))))), ?_⟩
  refine ⟨a, _, ha, True.intro, fun od => ?_⟩
  have hz : L2.upd H a (.frz od (.dK (dkI L))) a = some (.frz od (.dK (dkI L))) := upd_same
  refine ⟨.ref a, rfl, a, od, rfl, .inl ⟨_, hz, fun D hD => ?_⟩⟩
  have nDa : D ≠ a := (ne_of_none hz hD).symm
  refine dc_it (walk_keys (kvs := dkI L)) (fun i H' => Same (L2.upd H a (.frz od (.dK (dkI L)))) H' ∧ H' D = some (.dK (dkI (nz (L.take i))))) ⟨same_upd hD, upd_same⟩ (fun i H' _ p => p.1 _ _ hz) (fun i x H1 H2 hi p y => ?_) (fun H' p => ?_)
  · obtain ⟨rfl, kk, vv, hk, rfl⟩ := y
    obtain ⟨pp, hpp, e⟩ := at_map hk
    cases e
    have ht : L.take (i + 1) = L.take i ++ [pp] := by rw [List.take_add_one, hpp]; rfl
    have hg : ∀ H4 : Hp, Same H2 H4 → DGet H4 a (.int pp.1) (some (.int pp.2)) := fun H4 e4 => get_I (.inr ⟨od, e4 _ _ (p.1 _ _ hz)⟩) hn (List.mem_of_getElem? hpp)
    have hnew : pp.1 ∉ keys (nz (L.take i)) := by
      intro h1
      obtain ⟨p1, hp1, e1⟩ := List.mem_map.mp h1
      have hin : p1 ∈ L.take i := (List.mem_filter.mp hp1).1
      have hn2 : (keys (L.take (i + 1))).Nodup := hn.sublist ((List.take_sublist _ _).map _)
      rw [ht, keys, List.map_append] at hn2
      exact (List.nodup_append.mp hn2).2.2 p1.1 (List.mem_map.mpr ⟨p1, hin, rfl⟩) pp.1 (by simp) e1
    refine ⟨rfl, .ref a, rfl, .int pp.1, rfl, a, _, rfl, hg _ (Same.refl _), rfl, _, rfl, ?_⟩
    by_cases e0 : pp.2 = 0
    · rw [decide_eq_true (show V.int pp.2 = V.int 0 by rw [e0])]
      refine iteF ⟨p.1, ?_⟩
      rw [ht, nz_snoc, if_neg (by simp [e0])]
      exact p.2
    · rw [decide_eq_false (show ¬ V.int pp.2 = V.int 0 from fun z => e0 (V.int.inj z))]
      refine iteT ⟨.int pp.1, rfl, .ref a, rfl, .int pp.1, rfl, a, _, rfl, hg _ (Same.refl _), _, Sum.inl pp.1, rfl, p.2, ?_, p.1.mut hD, ?_⟩
      · refine Nat.lt_of_le_of_lt (show (dkI (nz (L.take i))).length ≤ 1000 from ?_) (by decide)
        rw [List.length_map]
        exact Nat.le_trans (List.length_filter_le _ _) ((by rw [List.length_take]; have : min i L.length ≤ L.length := Nat.min_le_right _ _; omega))
      · rw [upd_same, putK_dkI, putI_new hnew, ht, nz_snoc, if_pos e0]
  · have e : L.take (dkI L).length = L := by rw [List.take_of_length_le]; simp
    rw [e] at p
    refine ⟨p.1 _ _ hz, q _ D (same_unlock ha p.1) ?_⟩
    rw [upd_ne nDa]
    exact p.2
def spTally (K : PySem.W.Frag) : Sp := fun vs H Q _ => ∃ (a : Addr) (acc : List V) (ps : List (Int × Int)), vs = [.ref a] ∧ H a = some (.lst acc) ∧ DaAll K H acc (ps.map prD) ∧ ps.length ≤ 1000 ∧ ∀ H' b, Same H H' → H' b = some (.dK (dkI (nz (tallyL ps)))) → Q (.ref b) H'
theorem d_tally_of (B : Bt mg) (T : Top K mg "tally_of" stally_of ["pairs"]) (Dwithout_zeros : Def P w K mg base "without_zeros" 1 ["counts"] spWz) : Def P w K mg base "tally_of" 2 ["pairs"] (spTally K) := by
  refine mk_def T sctally_of (by rintro _ _ _ _ ⟨_, _, _, rfl, _⟩; rfl) fun f cdv A outer s H vs Q E hr h => ?_
  obtain ⟨a, acc, ps, rfl, ha, hx, hn, q⟩ := h
  refine ⟨_, (pss_cons (ps_set (i := 1) sctally_of.nd rfl (Or.inl rfl) (pe_dnewK))
      (pss_cons (ps_for PassesOwn.never rfl (pi_list (pv 0)) (pg_tup rfl (pgs_cons (pg_name (i := 2) sctally_of.nd rfl (Or.inl rfl)) (pgs_cons (pg_name (i := 3) sctally_of.nd rfl (Or.inl rfl)) pgs_nil))) (pss_one (ps_dput (hu_of hr) (pv 1) (pv 2) (pe_op op_add (pe_dget2 (hu_of hr) (pv 1) (pv 2) pe_int ⟨by rfl, by rfl, by rfl, by rfl⟩) (pv 3)) rfl)))
      (pss_one (ps_ret (pe_def Dwithout_zeros (hr.mono (by first | decide | omega)) (by rfl) (pa_cons (pv 1) pa_nil)))))), ?_⟩
  intro M hM
  have naM : a ≠ M := ne_of_none ha hM
  have ha1 : L2.upd H M (.dK []) a = some (.lst acc) := by rw [upd_ne naM]; exact ha
  refine ⟨.ref a, rfl, a, rfl, ⟨_, SqL.of ha1⟩, ?_⟩
  have hl : acc.length = ps.length := by rw [hx.length, List.length_map]
  refine for_list (xs := acc) (fun i σ H' => ∃ y2 y3, σ = [some (.ref a), some (.ref M), y2, y3] ∧ SameB M H H' ∧ H' M = some (.dK (dkI (tallyL (ps.take i))))) ⟨none, none, rfl, Same.b (same_upd hM), upd_same⟩ (fun i σ H' _ pv' => ?_) (fun i x σ H' hxi pv' => ?_) (fun σ H' pv' => ?_)
  · obtain ⟨_, _, _, e, _⟩ := pv'
    exact SqL.of (e _ _ naM ha)
  · obtain ⟨y2, y3, rfl, e, hm⟩ := pv'
    obtain ⟨d, hd, hdx⟩ := hx.get hxi
    obtain ⟨q0, hq0, rfl⟩ := at_map hd
    have st : ST K H H' := fun t us ht => by
      by_cases z : t = M
      · rw [z, hM] at ht
        cases ht
      · exact e _ _ z ht
    obtain ⟨r, rfl, hr0⟩ := Da.prI (Da.st st _ _ (imm_pr q0) hdx)
    have lt : (tallyL (ps.take i)).length ≤ 1000 := Nat.le_trans (tally_len _) (by rw [List.length_take]; have : min i ps.length ≤ ps.length := Nat.min_le_right _ _; omega)
    obtain ⟨o, ho, eo⟩ := getD_I hm q0.1
    refine ⟨r, _, rfl, SqT.of hr0, rfl, _, _, rfl, _, _, rfl, rfl, ?_⟩
    refine ⟨.ref M, rfl, M, rfl, .inl ⟨_, .inl hm⟩, .int q0.1, rfl, o, ho, .int q0.2, rfl, _, _, eo, rfl, .ref M, rfl, .int q0.1, rfl, M, _, rfl, put_I hm lt _ _, _, _, rfl, e.trans SameB.upd, ?_⟩
    rw [upd_same, List.take_add_one, hq0, Option.toList_some, tally_snoc]
    rfl
  · obtain ⟨y2, y3, rfl, e, hm⟩ := pv'
    rw [hl, List.take_length] at hm
    refine ⟨.ref M, rfl, M, _, rfl, hm, tally_nodup ps, Nat.le_trans (tally_len _) hn, fun H3 b s3 hb => ?_⟩
    refine q H3 b (fun t u ht => ?_) hb
    refine s3 _ _ (e _ _ (fun z => ?_) ht)
    rw [z, hM] at ht
    cases ht
end
end K12

namespace K12
open PySem PySem.Spec PyProof.Rows L2
/-! ### terms put into a term -/
def tsAt (ts : List Tm) (c : Int) : Tm := ts.getD c.toNat (0, [])
def pairsQ (ts : List Tm) (q : Int × Int) : List (Int × Int) := (tsAt ts q.1).2.map fun r => (r.1, q.2 * r.2)
def pairsL (o : Tm) (ts : List Tm) : List (Int × Int) := (o.2.map (pairsQ ts)).flatten
def conC (o : Tm) (ts : List Tm) : Int := o.1 + (o.2.map fun q => q.2 * (tsAt ts q.1).1).sum
/-- at most four parts, numbers of at most 40 digits -/
structure SmT (t : Tm) : Prop where
  con : Small t.1
  len : t.2.length ≤ 4
  fac : ∀ r ∈ t.2, Small r.2
theorem TmOk.sm {n : Int} {t : Tm} (h : TmOk n t) : SmT t := ⟨h.con, h.len, fun r hr => (h.col r hr).2.2⟩
structure CompOk (o : Tm) (ts : List Tm) : Prop where
  out : SmT o
  col : ∀ q ∈ o.2, 0 ≤ q.1 ∧ q.1 < ts.length
  ins : ∀ t ∈ ts, SmT t
  len : ts.length ≤ 1000
theorem small_mul {a b : Int} (ha : Small a) (hb : Small b) : CMulW a b := by
  have e : (10 : Nat) ^ 40 ≤ 2 ^ 140 := by decide
  exact wide_mul (a := 140) (b := 140) (Nat.lt_of_lt_of_le ha e) (Nat.lt_of_lt_of_le hb e) (by decide) (by decide) (by decide)
theorem tsAt_mem {ts : List Tm} {c : Int} (h0 : 0 ≤ c) (h1 : c < ts.length) : ∃ j : Nat, c = (j : Int) ∧ j < ts.length ∧ ts[j]? = some (tsAt ts c) ∧ tsAt ts c ∈ ts := by
  obtain ⟨j, rfl⟩ := Int.eq_ofNat_of_zero_le h0
  have hj : j < ts.length := by omega
  have e : tsAt ts (j : Int) = ts[j] := by
    unfold tsAt
    simp [hj]
  exact ⟨j, rfl, hj, by rw [e, List.getElem?_eq_getElem hj], by rw [e]; exact List.getElem_mem hj⟩
theorem map_getD {α β : Type} (F : α → β) (l : List α) (d : α) : (List.range l.length).map (fun i => F (l.getD i d)) = l.map F := by
  refine List.ext_getElem? fun j => ?_
  rw [List.getElem?_map, List.getElem?_map]
  by_cases h : j < l.length
  · rw [List.getElem?_range h, List.getElem?_eq_getElem h]
    simp [h]
  · rw [List.getElem?_eq_none_iff.mpr (by simp; omega), List.getElem?_eq_none_iff.mpr (by omega)]
    rfl
theorem pairs_len {o : Tm} {ts : List Tm} (h : CompOk o ts) : (pairsL o ts).length ≤ 16 := by
  have : ∀ l : List (Int × Int), (∀ q ∈ l, 0 ≤ q.1 ∧ q.1 < ts.length) → ((l.map (pairsQ ts)).flatten).length ≤ 4 * l.length := by
    intro l
    induction l with
    | nil => intro _; exact Nat.le_refl _
    | cons q l ih =>
      intro hq
      have h1 := ih fun r hr => hq r (List.mem_cons_of_mem _ hr)
      obtain ⟨c0, c1⟩ := hq q List.mem_cons_self
      obtain ⟨_, _, _, _, hm⟩ := tsAt_mem c0 c1
      have h2 := (h.ins _ hm).len
      have h3 : (pairsQ ts q).length = (tsAt ts q.1).2.length := by simp [pairsQ]
      rw [List.map_cons, List.flatten_cons, List.length_append, List.length_cons]
      omega
  have h1 := this o.2 h.col
  have h2 := h.out.len
  unfold pairsL
  omega
section
variable {P : Program} {w : World} {K : PySem.W.Frag} {mg : Str → Option Value} {base : Heap}
def spComposed (K : PySem.W.Frag) : Sp := fun vs H Q _ => ∃ (u v : V) (o : Tm) (ts : List Tm), vs = [u, v] ∧ Da K H u (tmD o) ∧ Da K H v (tsD ts) ∧ CompOk o ts ∧
  ∀ H' y M, Same H H' → Da K H' y (tmD (conC o ts, M)) → Asc M → M.Perm (nz (tallyL (pairsL o ts))) → Q y H'
theorem Paired.len {α β : Type} {F : α → β → Prop} : ∀ {l : List α} {m : List β}, Paired F l m → l.length = m.length
  | _, _, .nil => rfl
  | _, _, .cons _ t => congrArg (· + 1) (Paired.len t)
theorem paired_da {K : PySem.W.Frag} {H : Hp} : ∀ {ts : List Addr} {M : List (Int × Int)}, Paired (fun (t : Addr) (q : Int × Int) => H t = some (.tup [.int q.1, .int q.2])) ts M → DaAll K H (ts.map V.ref) (M.map prD)
  | _, _, .nil => .nil
  | _, _, .cons h t => .cons (da_pr h) (paired_da t)
theorem d_composed (B : Bt mg) (T : Top K mg "composed" scomposed ["term", "terms"]) (Dtally_of : Def P w K mg base "tally_of" 2 ["pairs"] (spTally K)) : Def P w K mg base "composed" 3 ["term", "terms"] (spComposed K) := by
  refine mk_def T sccomposed (by rintro _ _ _ _ ⟨_, _, _, _, rfl, _⟩; rfl) fun f cdv A outer s H vs Q E hr h => ?_
  obtain ⟨u, v, o, ts, rfl, hu, hv, ok, q⟩ := h
  refine ⟨_, (pss_cons (ps_asg (pv 0) (pg_tup rfl (pgs_cons (pg_name (i := 2) sccomposed.nd rfl (Or.inl rfl)) (pgs_cons (pg_name (i := 3) sccomposed.nd rfl (Or.inl rfl)) pgs_nil))))
      (pss_cons (ps_set (i := 4) sccomposed.nd rfl (Or.inl rfl) (pe_def Dtally_of (hr.mono (by first | decide | omega)) (by rfl) (pa_cons (pe_lc2 (own := [("at", 5), ("outer", 6), ("column", 7), ("inner", 8)]) (g := (gTup K 2 (gCons (gName 5) (gCons (gName 6) gNil)))) (tt := tYes) (wi1 := (iTup K (tOp (rIxT K) (tOp (rIxT K) (tVar 1) (tVar 5)) (tC (.int 1))))) (g1 := (gTup K 2 (gCons (gName 7) (gCons (gName 8) gNil)))) (tt1 := tYes) (te := (tTup (tCons (tVar 7) (tCons (tOp yMulW (tVar 6) (tVar 8)) tNil)))) rfl sccomposed.nd (pi_tup (pv 3)) (blkOk_by (own := [("at", 5), ("outer", 6), ("column", 7), ("inner", 8)]) (N := Ncomposed) (sc := defScope scomposed) (by decide +kernel)) (vs1 := [7, 8]) (by decide) (fun _ _ _ _ _ => (pg_tup rfl (pgs_cons (pg_name (i := 5) sccomposed.nd rfl (Or.inl rfl)) (pgs_cons (pg_name (i := 6) sccomposed.nd rfl (Or.inl rfl)) pgs_nil)))) (fun _ _ _ _ _ => pts_nil) (fun _ _ _ _ _ => (pi_tup (pe_ix ix_tup (pe_ix ix_tup (pv 1) (pv 5) (fun _ _ => rfl)) pe_int (fun _ _ => rfl)))) (fun _ _ _ _ _ => (pg_tup rfl (pgs_cons (pg_name (i := 7) sccomposed.nd rfl (Or.inl rfl)) (pgs_cons (pg_name (i := 8) sccomposed.nd rfl (Or.inl rfl)) pgs_nil)))) (fun _ _ _ _ _ => pts_nil) (fun _ _ _ _ _ => (pe_tup (pa_cons (pv 7) (pa_cons (pe_op op_mulW (pv 6) (pv 8)) pa_nil))))) pa_nil)))
      (pss_cons (ps_set (i := 9) sccomposed.nd rfl (Or.inl rfl) (pe_op op_add (pv 2) (pe_callB (cr_sum rfl) (by rfl) B.m_sum (by decide +kernel) (pa_cons (pe_lc (own := [("at", 5), ("outer", 6)]) (g := (gTup K 2 (gCons (gName 5) (gCons (gName 6) gNil)))) (tt := tYes) (te := (tOp yMulW (tVar 6) (tOp (rIxT K) (tOp (rIxT K) (tVar 1) (tVar 5)) (tC (.int 0))))) rfl sccomposed.nd (pi_tup (pv 3)) (blkOk_by (own := [("at", 5), ("outer", 6)]) (N := Ncomposed) (sc := defScope scomposed) (by decide +kernel)) (fun _ _ _ _ _ => (pg_tup rfl (pgs_cons (pg_name (i := 5) sccomposed.nd rfl (Or.inl rfl)) (pgs_cons (pg_name (i := 6) sccomposed.nd rfl (Or.inl rfl)) pgs_nil)))) (fun _ _ _ _ _ => pts_nil) (fun _ _ _ _ _ => (pe_op op_mulW (pv 6) (pe_ix ix_tup (pe_ix ix_tup (pv 1) (pv 5) (fun _ _ => rfl)) pe_int (fun _ _ => rfl))))) pa_nil))))
      (pss_one (ps_ret (pe_tup (pa_cons (pv 9) (pa_cons (pe_callTy call_tuple_of (by rfl) B.m_tuple (by decide +kernel) (pa_cons (pe_callB (cr_sortedItemsK rfl) (by rfl) B.m_sorted (by decide +kernel) (pa_cons (pe_bm0 PySem.F.plainAttrs_dict PySem.F.slot_dict_items PySem.F.type_dict_items mt_itemsK (pv 4)) pa_nil)) pa_nil)) pa_nil)))))))), ?_⟩
  obtain ⟨a, b, rfl, ha, hb⟩ := Da.tmI hu
  obtain ⟨_, xs, e, hb, hx⟩ := Da.ptI hb
  cases e
  obtain ⟨c, zs, rfl, hc, hz⟩ := Da.tsI hv
  have hl : xs.length = o.2.length := by rw [hx.length, List.length_map]
  -- one of the terms, where it stands
  have term : ∀ (H2 : Hp) (q0 : Int × Int), Same H H2 → q0 ∈ o.2 → ∃ (t0 b2 : Addr) (ys : List V), atI zs q0.1 = some (.ref t0) ∧ H2 t0 = some (.tup [.int (tsAt ts q0.1).1, .ref b2]) ∧ H2 b2 = some (.tup ys) ∧ DaAll K H2 ys ((tsAt ts q0.1).2.map prD) ∧ H b2 = some (.tup ys) := by
    intro H2 q0 e2 hq0
    obtain ⟨c0, c1⟩ := ok.col q0 hq0
    obtain ⟨j, ej, hj, hjt, _⟩ := tsAt_mem c0 c1
    obtain ⟨x, hx1, hx2⟩ := hz.at (i := j) (d := tmD (tsAt ts q0.1)) (by rw [List.getElem?_map, hjt]; rfl)
    obtain ⟨t0, b2, rfl, h1, h2⟩ := Da.tmI hx2
    obtain ⟨_, ys, e, h3, h4⟩ := Da.ptI h2
    cases e
    exact ⟨t0, b2, ys, by rw [ej]; exact atI_nat hx1, e2 _ _ h1, e2 _ _ h3, Da.sameAll e2 _ _ h4, h3⟩
  refine ⟨.ref a, rfl, a, _, rfl, SqT.of ha, rfl, _, _, rfl, _, _, rfl, rfl, ?_⟩
  refine ⟨.ref b, rfl, b, rfl, ⟨_, SqT.of hb⟩, fun D hD => ?_⟩
  have flat : ((List.range xs.length).map fun i => ((pairsQ ts (o.2.getD i (0, 0))).map prD)).flatten = (pairsL o ts).map prD := by
    rw [hl, map_getD (fun q => (pairsQ ts q).map prD) o.2 (0, 0), pairsL, List.map_flatten, List.map_map]
    rfl
  refine lc2_datV (K := K) (walk_tup (K := K)) hD (fun H1 e => e.seqT (SqT.of hb)) (fun i => (pairsQ ts (o.2.getD i (0, 0))).map prD) (by rw [flat, List.length_map]; have := pairs_len ok; omega) (fun i _ => imm_prs _) (fun i x H1 H2 Q' hi e y k => ?_) (fun H1 acc e eD hacc => ?_)
  · obtain ⟨rfl, hxi⟩ := y
    obtain ⟨d, hd, hdx⟩ := hx.get hxi
    obtain ⟨q0, hq0, rfl⟩ := at_map hd
    obtain ⟨r, rfl, hr0⟩ := Da.prI (Da.same e _ _ hdx)
    have hm0 := List.mem_of_getElem? hq0
    obtain ⟨t0, b2, ys, h1, h2, h3, h4, h5⟩ := term H2 q0 e hm0
    have eg : o.2.getD i (0, 0) = q0 := by
      rw [List.getD_eq_getElem?_getD, hq0]
      rfl
    have hyl : ((pairsQ ts (o.2.getD i (0, 0))).map prD).length = ys.length := by
      rw [eg, h4.length]
      simp [pairsQ]
    refine ⟨r, _, rfl, SqT.of hr0, rfl, _, _, rfl, _, _, rfl, rfl, k _ _ (Same.refl _) rfl ⟨Itt K b2, fun H => SqT K H b2 ys, YAt ys, by rw [hyl]; exact walk_tup, fun H3 z => ?_, fun H3 R e3 hR => ?_, fun j y H3 H3' Q2 hj e3 st3 hy k2 => ?_⟩⟩
    · rcases z with z | z
      · exact SqT.of (z _ _ h3)
      · exact SqT.of (z.1 _ _ h5)
    · exact ⟨.ref c, rfl, .int q0.1, rfl, c, _, _, .ref t0, rfl, rfl, SqT.of (e3 _ _ (e _ _ hc)), h1, t0, _, _, .ref b2, rfl, rfl, SqT.of (e3 _ _ h2), atI_nat (j := 1) rfl, b2, rfl, ⟨_, SqT.of (e3 _ _ h3)⟩, hR⟩
    · obtain ⟨rfl, hyj⟩ := hy
      obtain ⟨d2, hd2, hdy⟩ := h4.get hyj
      obtain ⟨r0, hr0', rfl⟩ := at_map hd2
      obtain ⟨r2, rfl, hr2⟩ := Da.prI (Da.st st3 _ _ (imm_pr r0) hdy)
      obtain ⟨c0, c1⟩ := ok.col q0 hm0
      obtain ⟨_, _, _, _, hmem⟩ := tsAt_mem c0 c1
      refine ⟨r2, _, rfl, SqT.of hr2, rfl, _, _, rfl, _, _, rfl, rfl, rfl, .int r0.1, rfl, .int q0.2, rfl, .int r0.2, rfl, _, _, rfl, rfl, small_mul (ok.out.fac q0 hm0) ((ok.ins _ hmem).fac r0 (List.mem_of_getElem? hr0')), by show 2 ≤ sizeLine; decide, fun t ht => k2 _ _ (prD (r0.1, q0.2 * r0.2)) (same_upd ht) ?_ (da_pr upd_same)⟩
      rw [eg, pairsQ, List.map_map, List.getElem?_map, hr0']
      rfl
  · rw [flat] at hacc
    refine ⟨D, acc, _, rfl, eD, hacc, by have := pairs_len ok; omega, fun H2 fD e2 hf => ?_⟩
    have e02 := e.trans e2
    refine ⟨.int o.1, rfl, .ref b, rfl, b, rfl, ⟨_, SqT.of (e02 _ _ hb)⟩, fun D2 hD2 => ?_⟩
    refine lc_val (walk_tup (K := K)) hD2 (by have := ok.out.len; omega) (fun H3 e3 => e3.seqT (SqT.of (e02 _ _ hb))) ((o.2.map fun q => q.2 * (tsAt ts q.1).1).map V.int) (by simp [hl]) (fun i x H3 H4 Q' hi e3 y k => ?_) (fun H3 e3 eD2 => ?_)
    · obtain ⟨rfl, hxi⟩ := y
      obtain ⟨d, hd, hdx⟩ := hx.get hxi
      obtain ⟨q0, hq0, rfl⟩ := at_map hd
      have e04 := e02.trans e3
      obtain ⟨r, rfl, hr0⟩ := Da.prI (Da.same e04 _ _ hdx)
      have hm0 := List.mem_of_getElem? hq0
      obtain ⟨t0, b2, ys, h1, h2, h3, h4, h5⟩ := term H4 q0 e04 hm0
      obtain ⟨c0, c1⟩ := ok.col q0 hm0
      obtain ⟨_, _, _, _, hmem⟩ := tsAt_mem c0 c1
      refine ⟨r, _, rfl, SqT.of hr0, rfl, _, _, rfl, _, _, rfl, rfl, rfl, .int q0.2, rfl, .ref c, rfl, .int q0.1, rfl, c, _, _, .ref t0, rfl, rfl, SqT.of (e04 _ _ hc), h1, t0, _, _, .int (tsAt ts q0.1).1, rfl, rfl, SqT.of h2, atI_nat (j := 0) rfl, _, _, rfl, rfl, small_mul (ok.out.fac q0 hm0) (ok.ins _ hmem).con, k _ _ (Same.refl _) ?_⟩
      rw [List.map_map, List.getElem?_map, hq0]
      rfl
    · have e03 := e02.trans e3
      refine ⟨D2, _, rfl, SqL.of eD2, _, _, rfl, rfl, ?_⟩
      have hf3 := e3 _ _ hf
      refine ⟨_, rfl, .ref fD, rfl, .inr (.inr (.inl ⟨rfl, .inl ⟨_, hf3⟩⟩)), fD, _, rfl, rfl, hf3, fun vw hvw => ?_⟩
      refine ⟨vw, fD, _, rfl, upd_same, by rw [upd_ne (ne_of_none hf3 hvw)]; exact hf3, fun H4 l tts M e4 nl pm sr el pr => ?_⟩
      have e04 := (e03.trans (same_upd hvw)).trans e4
      refine ⟨l, _, rfl, .inl ⟨SqL.of el, fun t ht => ⟨by show 2 ≤ sizeLine; decide, fun t2 ht2 => ?_⟩⟩⟩
      refine q _ _ M ((e04.trans (same_upd ht)).trans (same_upd ht2)) (da_tm upd_same ?_) (srtd_asc sr ?_) pm
      · exact Da.same (same_upd ht2) _ _ (.tup upd_same (Da.sameAll (same_upd ht) _ _ (paired_da pr)))
      · have hnd := nz_keys (tally_nodup (pairsL o ts))
        exact (pm.map fun z : Int × Int => z.1).nodup_iff.mpr hnd
end
end K12

namespace K12
open PySem PySem.Spec PyProof.Rows L2
theorem pairsL_snoc (o1 : Int) (l : List (Int × Int)) (q : Int × Int) (ts : List Tm) : pairsL (o1, l ++ [q]) ts = pairsL (o1, l) ts ++ pairsQ ts q := by
  unfold pairsL
  rw [List.map_append, List.flatten_append]
  simp
theorem conC_snoc (o1 : Int) (l : List (Int × Int)) (q : Int × Int) (ts : List Tm) : conC (o1, l ++ [q]) ts = conC (o1, l) ts + q.2 * (tsAt ts q.1).1 := by
  unfold conC
  simp [Int.add_assoc]
theorem mem_getI {L : List (Int × Int)} (hn : (keys L).Nodup) {p : Int × Int} (hp : p ∈ L) : getI L p.1 = p.2 := by
  induction L with
  | nil => cases hp
  | cons q L ih =>
    have hn' := List.nodup_cons.mp (show (q.1 :: keys L).Nodup from hn)
    rcases List.mem_cons.mp hp with e | hp'
    · subst e
      exact getI_cons_eq
    · rw [getI_cons_ne, ih hn'.2 hp']
      intro e
      exact hn'.1 (List.mem_map.mpr ⟨p, hp', e.symm⟩)
/-- the keys in their order, those whose count is not 0, each with its count -/
theorem places_nz {L : List (Int × Int)} (hn : (keys L).Nodup) {ks : List Int} (hp : ks.Perm (keys L)) : ((ks.filter fun k => decide (getI L k ≠ 0)).map fun k => (k, getI L k)).Perm (nz L) := by
  have h1 : (ks.filter fun k => decide (getI L k ≠ 0)).Perm ((keys L).filter fun k => decide (getI L k ≠ 0)) := hp.filter _
  have h2 := h1.map fun k => (k, getI L k)
  have h3 : ((keys L).filter fun k => decide (getI L k ≠ 0)).map (fun k => (k, getI L k)) = nz L := by
    unfold keys nz
    rw [List.filter_map, List.map_map]
    have e1 : L.filter ((fun k => decide (getI L k ≠ 0)) ∘ fun x : Int × Int => x.1) = L.filter fun p => decide (p.2 ≠ 0) := by
      refine List.filter_congr fun p hp => ?_
      show decide (getI L p.1 ≠ 0) = _
      rw [mem_getI hn hp]
    rw [e1]
    have e2 : ∀ p ∈ L.filter (fun p => decide (p.2 ≠ 0)), ((fun k => (k, getI L k)) ∘ fun x : Int × Int => x.1) p = p := fun p hp => by
      show (p.1, getI L p.1) = p
      rw [mem_getI hn (List.mem_filter.mp hp).1]
    rw [List.map_congr_left e2, List.map_id']
  rw [← h3]
  exact h2
theorem places_asc {L : List (Int × Int)} (hn : (keys L).Nodup) {ks : List Int} (hp : ks.Perm (keys L)) (hs : ks.Pairwise (· ≤ ·)) : Asc ((ks.filter fun k => decide (getI L k ≠ 0)).map fun k => (k, getI L k)) := by
  have hk : ks.Nodup := hp.nodup_iff.mpr hn
  have hlt : ks.Pairwise (· < ·) := (hs.and hk).imp fun {x y} h => by
    have h1 : x ≤ y := h.1
    have h2 : x ≠ y := h.2
    omega
  unfold Asc
  rw [List.pairwise_map]
  exact hlt.sublist List.filter_sublist
theorem get_key {H : Hp} {a : Addr} {L : List (Int × Int)} (h : Rd H a (.dK (dkI L))) (hn : (keys L).Nodup) {k : Int} (hk : k ∈ keys L) : DGet H a (.int k) (some (.int (getI L k))) := by
  obtain ⟨p, hp, rfl⟩ := List.mem_map.mp hk
  have := get_I h hn hp
  rw [mem_getI hn hp]
  exact this
theorem range_filter {α β : Type} (F : α → β) (p : α → Bool) (l : List α) (d : α) : ((List.range l.length).filter fun i => p (l.getD i d)).map (fun i => F (l.getD i d)) = (l.filter p).map F := by
  have h := map_getD (fun x => x) l d
  have h2 : l.filter p = ((List.range l.length).filter fun i => p (l.getD i d)).map fun i => l.getD i d := by
    have h3 := congrArg (List.filter p) h
    rw [List.map_id', List.filter_map] at h3
    exact h3.symm
  rw [h2, List.map_map]
  rfl
section
variable {P : Program} {w : World} {K : PySem.W.Frag} {mg : Str → Option Value} {base : Heap}
theorem d_law_composed (B : Bt mg) (T : Top K mg "_law_composed" s_law_composed ["outer", "exprs"]) : Def P w K mg base "_law_composed" 1 ["outer", "exprs"] (spComposed K) := by
  refine mk_def T sc_law_composed (by rintro _ _ _ _ ⟨_, _, _, _, rfl, _⟩; rfl) fun f cdv A outer s H vs Q E hr h => ?_
  obtain ⟨u, v, o, ts, rfl, hu, hv, ok, q⟩ := h
  refine ⟨_, (pss_cons (ps_set (i := 2) sc_law_composed.nd rfl (Or.inl rfl) (pe_ix ix_tup (pv 0) pe_int (fun _ _ => rfl)))
      (pss_cons (ps_set (i := 3) sc_law_composed.nd rfl (Or.inr rfl) (pe_dnewK))
      (pss_cons (ps_for PassesOwn.never rfl (pi_tup (pe_ix ix_tup (pv 0) pe_int (fun _ _ => rfl))) (pg_name (i := 4) sc_law_composed.nd rfl (Or.inl rfl)) (pss_cons (ps_set (i := 5) sc_law_composed.nd rfl (Or.inl rfl) (pe_ix ix_tup (pv 1) (pe_ix ix_tup (pv 4) pe_int (fun _ _ => rfl)) (fun _ _ => rfl)))
      (pss_cons (ps_set (i := 2) sc_law_composed.nd rfl (Or.inl rfl) (pe_op op_add (pv 2) (pe_op op_mulW (pe_ix ix_tup (pv 4) pe_int (fun _ _ => rfl)) (pe_ix ix_tup (pv 5) pe_int (fun _ _ => rfl)))))
      (pss_one (ps_for PassesOwn.never rfl (pi_tup (pe_ix ix_tup (pv 5) pe_int (fun _ _ => rfl))) (pg_name (i := 6) sc_law_composed.nd rfl (Or.inl rfl)) (pss_one (ps_dput (hu_of hr) (pv 3) (pe_ix ix_tup (pv 6) pe_int (fun _ _ => rfl)) (pe_op op_add (pe_dget2 (hu_of hr) (pv 3) (pe_ix ix_tup (pv 6) pe_int (fun _ _ => rfl)) pe_int ⟨by rfl, by rfl, by rfl, by rfl⟩) (pe_op op_mulW (pe_ix ix_tup (pv 4) pe_int (fun _ _ => rfl)) (pe_ix ix_tup (pv 6) pe_int (fun _ _ => rfl)))) rfl)))))))
      (pss_cons (ps_setLc (i := 7) (own := [("place", 8)]) (g := (gName 8)) (tt := (tTest (tOp rNe (tDGet (tVar 3) (tVar 8)) (tC (.int 0))))) (te := (tVar 8)) rfl sc_law_composed.nd rfl rfl (sw_true rfl rfl rfl (by decide +kernel)) (pi_list (pe_callB cr_sortedI (by rfl) B.m_sorted (by decide +kernel) (pa_cons (pe_callTy (call_list_dK rfl) (by rfl) B.m_list (by decide +kernel) (pa_cons (pv 3) pa_nil)) pa_nil))) (blkOk_by (own := [("place", 8)]) (N := N_law_composed) (sc := defScope s_law_composed) (by decide +kernel)) (fun _ _ _ _ _ => (pg_name (i := 8) sc_law_composed.nd rfl (Or.inl rfl))) (fun _ _ _ _ _ => (pts_one (pt_cmpR op_ne (pe_dget (hu_of hr) (pv 3) (pv 8) (fun _ _ => rfl)) pe_int (nomark _)))) (fun _ _ _ _ _ => (pv 8)))
      (pss_one (ps_ret (pe_tup (pa_cons (pv 2) (pa_cons (pe_callTy call_tuple_of (by rfl) B.m_tuple (by decide +kernel) (pa_cons (pe_lc (own := [("place", 8)]) (g := (gName 8)) (tt := tYes) (te := (tTup (tCons (tVar 8) (tCons (tDGet (tVar 3) (tVar 8)) tNil)))) rfl sc_law_composed.nd (pi_list (pv 7)) (blkOk_by (own := [("place", 8)]) (N := N_law_composed) (sc := defScope s_law_composed) (by decide +kernel)) (fun _ _ _ _ _ => (pg_name (i := 8) sc_law_composed.nd rfl (Or.inl rfl))) (fun _ _ _ _ _ => pts_nil) (fun _ _ _ _ _ => (pe_tup (pa_cons (pv 8) (pa_cons (pe_dget (hu_of hr) (pv 3) (pv 8) (fun _ _ => rfl)) pa_nil))))) pa_nil)) pa_nil))))))))), ?_⟩
  obtain ⟨a, b, rfl, ha, hb⟩ := Da.tmI hu
  obtain ⟨_, xs, e, hb, hx⟩ := Da.ptI hb
  cases e
  obtain ⟨c, zs, rfl, hc, hz⟩ := Da.tsI hv
  have hl : xs.length = o.2.length := by rw [hx.length, List.length_map]
  refine ⟨.ref a, rfl, a, _, _, .int o.1, rfl, rfl, SqT.of ha, atI_nat (j := 0) rfl, fun M hM => ?_⟩
  have st : ∀ {H2 : Hp}, SameB M H H2 → ST K H H2 := fun {H2} e t us ht => by
    by_cases z : t = M
    · rw [z, hM] at ht
      cases ht
    · exact e _ _ z ht
  have e0 : SameB M H (L2.upd H M (.dK [])) := Same.b (same_upd hM)
  refine ⟨.ref a, rfl, a, _, _, .ref b, rfl, rfl, SqT.of (st e0 _ _ ha), atI_nat (j := 1) rfl, b, rfl, ⟨_, SqT.of (st e0 _ _ hb)⟩, ?_⟩
  refine for_tup (xs := xs) (fun i σ H' => ∃ y4 y5 y6, σ = [some (.ref a), some (.ref c), some (.int (conC (o.1, o.2.take i) ts)), some (.ref M), y4, y5, y6, none, none] ∧ SameB M H H' ∧ H' M = some (.dK (dkI (tallyL (pairsL (o.1, o.2.take i) ts))))) ⟨none, none, none, by simp [conC]; rfl, e0, upd_same⟩ (fun i σ H' _ pv' => ?_) (fun i x σ H' hxi pv' => ?_) (fun σ H' pv' => ?_)
  · obtain ⟨_, _, _, _, e, _⟩ := pv'
    exact SqT.of (st e _ _ hb)
  · obtain ⟨y4, y5, y6, rfl, e, hm⟩ := pv'
    obtain ⟨d, hd, hdx⟩ := hx.get hxi
    obtain ⟨q0, hq0, rfl⟩ := at_map hd
    obtain ⟨r, rfl, hr0⟩ := Da.prI (Da.st (st e) _ _ (imm_pr q0) hdx)
    have hm0 := List.mem_of_getElem? hq0
    obtain ⟨c0, c1⟩ := ok.col q0 hm0
    obtain ⟨j, ej, hj, hjt, hmem⟩ := tsAt_mem c0 c1
    obtain ⟨x, hx1, hx2⟩ := hz.at (i := j) (d := tmD (tsAt ts q0.1)) (by rw [List.getElem?_map, hjt]; rfl)
    obtain ⟨t0, b2, rfl, h1, h2⟩ := Da.tmI hx2
    obtain ⟨_, ys, e2, h3, h4⟩ := Da.ptI h2
    cases e2
    have hyl : ys.length = (tsAt ts q0.1).2.length := by rw [h4.length, List.length_map]
    have tk : o.2.take (i + 1) = o.2.take i ++ [q0] := by rw [List.take_add_one, hq0]; rfl
    have small : ∀ n, (tallyL (pairsL (o.1, o.2.take i) ts ++ (pairsQ ts q0).take n)).length ≤ 1000 := fun n => by
      refine Nat.le_trans (tally_len _) ?_
      have h5 : (pairsL (o.1, o.2.take i) ts).length ≤ 16 := pairs_len ⟨⟨ok.out.con, Nat.le_trans (by rw [List.length_take]; exact Nat.min_le_right _ _) ok.out.len, fun r hr => ok.out.fac r (List.mem_of_mem_take hr)⟩, fun r hr => ok.col r (List.mem_of_mem_take hr), ok.ins, ok.len⟩
      have h6 := (ok.ins _ hmem).len
      rw [List.length_append, List.length_take]
      have h7 : (pairsQ ts q0).length = (tsAt ts q0.1).2.length := by simp [pairsQ]
      have := Nat.min_le_right n (pairsQ ts q0).length
      omega
    refine ⟨.ref c, rfl, .ref r, rfl, r, _, _, .int q0.1, rfl, rfl, SqT.of hr0, atI_nat (j := 0) rfl, c, _, _, .ref t0, rfl, rfl, SqT.of (st e _ _ hc), by rw [ej]; exact atI_nat hx1, ?_⟩
    refine ⟨_, rfl, .ref r, rfl, r, _, _, .int q0.2, rfl, rfl, SqT.of hr0, atI_nat (j := 1) rfl, .ref t0, rfl, t0, _, _, .int (tsAt ts q0.1).1, rfl, rfl, SqT.of (st e _ _ h1), atI_nat (j := 0) rfl, _, _, rfl, rfl, small_mul (ok.out.fac q0 hm0) (ok.ins _ hmem).con, _, _, rfl, rfl, ?_⟩
    refine ⟨.ref t0, rfl, t0, _, _, .ref b2, rfl, rfl, SqT.of (st e _ _ h1), atI_nat (j := 1) rfl, b2, rfl, ⟨_, SqT.of (st e _ _ h3)⟩, ?_⟩
    refine for_tup (xs := ys) (fun n σ H' => ∃ y6, σ = [some (.ref a), some (.ref c), some (.int (conC (o.1, o.2.take i) ts + q0.2 * (tsAt ts q0.1).1)), some (.ref M), some (.ref r), some (.ref t0), y6, none, none] ∧ SameB M H H' ∧ H' M = some (.dK (dkI (tallyL (pairsL (o.1, o.2.take i) ts ++ (pairsQ ts q0).take n))))) ⟨y6, rfl, e, by rw [List.take_zero, List.append_nil]; exact hm⟩ (fun n σ H' _ pv' => ?_) (fun n x σ H' hyi pv' => ?_) (fun σ H' pv' => ?_)
    · obtain ⟨_, _, e, _⟩ := pv'
      exact SqT.of (st e _ _ h3)
    · obtain ⟨y6, rfl, e3, hm3⟩ := pv'
      obtain ⟨d2, hd2, hdy⟩ := h4.get hyi
      obtain ⟨r0, hr0', rfl⟩ := at_map hd2
      obtain ⟨r2, rfl, hr2⟩ := Da.prI (Da.st (st e3) _ _ (imm_pr r0) hdy)
      have hr3 := st e3
      have hrr : H r = some (.tup [.int q0.1, .int q0.2]) := by
        obtain ⟨r', e', h'⟩ := Da.prI hdx
        cases e'
        exact h'
      obtain ⟨oo, ho, eo⟩ := getD_I hm3 r0.1
      refine ⟨.ref M, rfl, M, rfl, .inl ⟨_, .inl hm3⟩, .ref r2, rfl, r2, _, _, .int r0.1, rfl, rfl, SqT.of hr2, atI_nat (j := 0) rfl, oo, ho, .ref r, rfl, r, _, _, .int q0.2, rfl, rfl, SqT.of (hr3 _ _ hrr), atI_nat (j := 1) rfl, .ref r2, rfl, r2, _, _, .int r0.2, rfl, rfl, SqT.of hr2, atI_nat (j := 1) rfl, _, _, rfl, rfl, small_mul (ok.out.fac q0 hm0) ((ok.ins _ hmem).fac r0 (List.mem_of_getElem? hr0')), _, _, eo, rfl, ?_⟩
      refine ⟨.ref M, rfl, .ref r2, rfl, r2, _, _, .int r0.1, rfl, rfl, SqT.of hr2, atI_nat (j := 0) rfl, M, _, rfl, put_I hm3 (small n) _ _, some (.ref r2), rfl, e3.trans SameB.upd, ?_⟩
      have e5 : (pairsQ ts q0).take (n + 1) = (pairsQ ts q0).take n ++ [(r0.1, q0.2 * r0.2)] := by
        rw [List.take_add_one, pairsQ, List.getElem?_map, hr0']
        rfl
      rw [upd_same, e5, ← List.append_assoc, tally_snoc]
      rfl
    · obtain ⟨y6, rfl, e3, hm3⟩ := pv'
      refine ⟨some (.ref r), some (.ref t0), y6, ?_, e3, ?_⟩
      · rw [tk, conC_snoc]
      · rw [tk, pairsL_snoc]
        have e9 : (pairsQ ts q0).take ys.length = pairsQ ts q0 := List.take_of_length_le (by rw [hyl]; simp [pairsQ])
        rw [e9] at hm3
        exact hm3
  · obtain ⟨y4, y5, y6, rfl, e, hm⟩ := pv'
    rw [hl, List.take_length] at hm ⊢
    have hnd := tally_nodup (pairsL o ts)
    have hlen := Nat.le_trans (tally_len (pairsL o ts)) (pairs_len ok)
    have hm' : H' M = some (.dK (dkI (tallyL (pairsL o ts)))) := hm
    generalize hL : tallyL (pairsL o ts) = L at hm' hnd hlen q
    have old : ∀ {H2 : Hp}, Same H' H2 → Same H H2 := fun {H2} s2 t us ht => s2 _ _ (e _ _ (fun z => by rw [z, hM] at ht; cases ht) ht)
    refine ⟨.ref M, rfl, M, _, rfl, hm', fun l1 hl1 => ?_⟩
    have hm1 : ∀ {H2 : Hp}, Same H' H2 → H2 M = some (.dK (dkI L)) := fun s2 => s2 _ _ hm'
    refine ⟨l1, keys L, rfl, SqL.of (by rw [upd_same, keys, dkI, List.map_map, List.map_map]; rfl), fun ks l2 hp hs hl2 => ?_⟩
    have s2 := (same_upd hl1 (o := .lst ((dkI L).map fun kv => kV kv.1))).trans (same_upd hl2 (o := .lst (ks.map V.int)))
    refine ⟨l2, rfl, ⟨_, SqL.of upd_same⟩, fun D hD => ?_⟩
    have npl : ∀ i, i < ks.length → ∃ k, ks[i]? = some k ∧ k ∈ keys L ∧ ks.getD i 0 = k := fun i hi => ⟨ks[i], by simp [hi], hp.mem_iff.mp (List.getElem_mem hi), by simp [hi]⟩
    have hkl : ks.length ≤ 16 := by
      have e := hp.length_eq
      unfold keys at e
      rw [List.length_map] at e
      omega
    refine lc_val_if (walk_list (K := K)) hD (by rw [List.length_map]; omega) (fun H1 e1 => SqL.of (e1 _ _ upd_same)) (fun i => decide (getI L (ks.getD i 0) ≠ 0)) (fun i => V.int (ks.getD i 0)) (fun i x H1 H2 Q' R' hi e1 y kt kf => ?_) (fun H1 e1 eD => ?_)
    · obtain ⟨rfl, hxi⟩ := y
      rw [List.length_map] at hi
      obtain ⟨k, hk1, hk2, hk3⟩ := npl i hi
      have hxk : x = V.int k := by
        rw [List.getElem?_map, hk1] at hxi
        exact (Option.some.inj hxi).symm
      subst hxk
      simp only [hk3] at kt kf
      refine ⟨rfl, .ref M, rfl, .int k, rfl, M, _, rfl, get_key (.inl (hm1 (s2.trans e1))) hnd hk2, rfl, _, rfl, ?_⟩
      by_cases e5 : getI L k = 0
      · rw [decide_eq_true (show V.int (getI L k) = V.int 0 by rw [e5])]
        exact iteF (kf _ (by simp [e5]) (Same.refl _))
      · rw [decide_eq_false (show ¬ V.int (getI L k) = V.int 0 from fun z => e5 (V.int.inj z))]
        exact iteT ⟨.int k, rfl, kt _ (by simp [e5]) (Same.refl _)⟩
    · rw [List.length_map, range_filter V.int (fun k => decide (getI L k ≠ 0)) ks 0] at eD
      have hpl : ∀ k ∈ ks.filter (fun k => decide (getI L k ≠ 0)), k ∈ keys L := fun k hk => hp.mem_iff.mp (List.mem_filter.mp hk).1
      have hpa := places_asc hnd hp hs
      have hpp := places_nz hnd hp
      have hpn : (ks.filter fun k => decide (getI L k ≠ 0)).length ≤ 16 := Nat.le_trans (List.length_filter_le _ _) hkl
      generalize (ks.filter fun k => decide (getI L k ≠ 0)) = pl at eD hpl hpa hpp hpn
      refine ⟨_, rfl, .ref D, rfl, D, rfl, ⟨_, SqL.of eD⟩, fun D2 hD2 => ?_⟩
      refine lc_dat (K := K) (walk_list (K := K)) hD2 (by rw [List.length_map]; omega) (fun H2 e2 => SqL.of (e2 _ _ eD)) ((pl.map fun k => (k, getI L k)).map prD) (by simp) (imm_prs _) (fun i x H2 H3 Q' hi e2 y kk => ?_) (fun H2 acc e2 eD2 hacc => ?_)
      · obtain ⟨rfl, hxi⟩ := y
        obtain ⟨k, hk, rfl⟩ := at_map hxi
        refine ⟨rfl, .int k, rfl, .ref M, rfl, .int k, rfl, M, _, rfl, get_key (.inl (hm1 ((s2.trans e1).trans e2))) hnd (hpl k (List.mem_of_getElem? hk)), by show 2 ≤ sizeLine; decide, fun t ht => kk _ _ (prD (k, getI L k)) (same_upd ht) ?_ (da_pr upd_same)⟩
        rw [List.map_map, List.getElem?_map, hk]
        rfl
      · refine ⟨D2, acc, rfl, .inl ⟨SqL.of eD2, fun t ht => ⟨by show 2 ≤ sizeLine; decide, fun t2 ht2 => ?_⟩⟩⟩
        refine q _ _ _ (((old ((s2.trans e1).trans e2)).trans (same_upd ht)).trans (same_upd ht2)) (da_tm upd_same ?_) hpa hpp
        exact Da.same (same_upd ht2) _ _ (.tup upd_same (Da.sameAll (same_upd ht) _ _ hacc))
end
end K12

namespace K12
open PySem PySem.Spec PyProof.Rows L2
theorem can_prs : ∀ l : List (Int × Int), PyData.canLayAll0 (l.map prD) = true
  | [] => rfl
  | q :: l => by
    show (PyData.canLay0 (prD q) && PyData.canLayAll0 (l.map prD)) = true
    rw [can_prs l]
    rfl
theorem depth_prs : ∀ l : List (Int × Int), PyData.depthAll (l.map prD) ≤ 1
  | [] => Nat.zero_le _
  | q :: l => by
    show max (PyData.depthAll [PyData.int q.1, .int q.2] + 1) (PyData.depthAll (l.map prD)) ≤ 1
    exact Nat.max_le.mpr ⟨Nat.le_refl _, depth_prs l⟩
theorem shaped_pt (l : List (Int × Int)) : SeqAt.shaped (ptD l) = true := by
  unfold SeqAt.shaped
  rw [show PyData.canLay0 (ptD l) = true from can_prs l, Bool.true_and]
  refine decide_eq_true ?_
  show PyData.depthAll (l.map prD) + 1 ≤ 64
  have := depth_prs l
  omega
theorem okD_tm {t : Tm} (h : t.2.length ≤ 1000) : okD 4 (tmD t) = true := by
  have h1 : okD 3 (ptD t.2) = true := by
    show (decide ((t.2.map prD).length ≤ 1000) && (t.2.map prD).all (okD 2)) = true
    rw [List.length_map, decide_eq_true h, Bool.true_and, List.all_eq_true]
    intro d hd
    obtain ⟨q, _, rfl⟩ := List.mem_map.mp hd
    rfl
  show (decide (2 ≤ 1000) && ([PyData.int t.1, ptD t.2].all (okD 3))) = true
  simp [h1, okD]
def plainB (t : Tm) : Bool := match t with
  | (_, []) => true
  | (c, [q]) => decide (c = 0) && decide (q.2 = 1)
  | _ => false
section
variable {P : Program} {w : World} {K : PySem.W.Frag} {mg : Str → Option Value} {base : Heap}
def spPlain (K : PySem.W.Frag) : Sp := fun vs H Q _ => ∃ (u : V) (t : Tm), vs = [u] ∧ Da K H u (tmD t) ∧ t.2.length ≤ 1000 ∧ ∀ H', Same H H' → Q (.bl (plainB t)) H'
theorem d_is_plain (B : Bt mg) (T : Top K mg "is_plain" sis_plain ["term"]) : Def P w K mg base "is_plain" 1 ["term"] (spPlain K) := by
  refine mk_def T scis_plain (by rintro _ _ _ _ ⟨_, _, rfl, _⟩; rfl) fun f cdv A outer s H vs Q E hr h => ?_
  obtain ⟨u, ⟨c, l⟩, rfl, hu, hn, q⟩ := h
  refine ⟨_, (pss_cons (ps_asg (pv 0) (pg_tup rfl (pgs_cons (pg_name (i := 1) scis_plain.nd rfl (Or.inl rfl)) (pgs_cons (pg_name (i := 2) scis_plain.nd rfl (Or.inl rfl)) pgs_nil))))
      (pss_one (ps_ret (pe_or (pe_cmpR (op_eqD (hu64 hr)) (pv 2) (pe_tup pa_nil) (nomark _)) (pe_one (pe_and (pe_cmpR op_eq (pv 1) pe_int (nomark _)) (pe_and (pe_cmpR op_eq (pe_callB call_len_seq (by rfl) B.m_len PySem.boot_len (pa_cons (pv 2) pa_nil)) pe_int (nomark _)) (pe_one (pe_cmpR op_eq (pe_ix ix_tup (pe_ix ix_tup (pv 2) pe_int (fun _ _ => rfl)) pe_int (fun _ _ => rfl)) pe_int (nomark _)))))))))), ?_⟩
  obtain ⟨a, b, rfl, ha, hb⟩ := Da.tmI hu
  have hb' := hb
  obtain ⟨_, xs, e, hb, hx⟩ := Da.ptI hb
  cases e
  have hl : xs.length = l.length := by rw [hx.length, List.length_map]
  refine ⟨.ref a, rfl, a, _, rfl, SqT.of ha, rfl, _, _, rfl, _, _, rfl, rfl, ?_⟩
  refine ⟨.ref b, rfl, by show 0 ≤ sizeLine; decide, fun t ht => ?_⟩
  refine ⟨ptD l, .tuple [], Da.dp _ _ (Da.same (same_upd ht) _ _ hb'), Da.dp _ _ (.tup upd_same .nil), shaped_pt l, by decide, _, rfl, ?_⟩
  have hbt : L2.upd H t (.tup []) b = some (.tup xs) := same_upd ht _ _ hb
  cases l with
  | nil => exact q _ (same_upd ht)
  | cons q0 l =>
    show if false = true then _ else _
    refine iteF ⟨.int c, rfl, rfl, _, rfl, ?_⟩
    by_cases e0 : c = 0
    · rw [decide_eq_true (show V.int c = V.int 0 by rw [e0])]
      refine iteT ⟨.ref b, rfl, b, _, rfl, .inr (SqT.of hbt), rfl, _, rfl, ?_⟩
      cases l with
      | nil =>
        rw [decide_eq_true (show V.int ((xs.length : Nat) : Int) = V.int 1 by rw [hl]; rfl)]
        cases hx with
        | @cons v1 vs1 _ _ h1 h2 =>
          obtain ⟨r, rfl, hr0⟩ := Da.prI h1
          refine iteT ⟨.ref b, rfl, b, _, _, .ref r, rfl, rfl, SqT.of hbt, atI_nat (j := 0) rfl, r, _, _, .int q0.2, rfl, rfl, SqT.of (same_upd ht _ _ hr0), atI_nat (j := 1) rfl, rfl, ?_⟩
          have : plainB (c, [q0]) = decide (V.int q0.2 = V.int 1) := by
            unfold plainB
            simp [e0]
          rw [← this]
          exact q _ (same_upd ht)
      | cons q1 l =>
        rw [decide_eq_false (show ¬ V.int ((xs.length : Nat) : Int) = V.int 1 from fun z => by
          have := V.int.inj z
          rw [hl, List.length_cons, List.length_cons] at this
          omega)]
        exact iteF (q _ (same_upd ht))
    · rw [decide_eq_false (show ¬ V.int c = V.int 0 from fun z => e0 (V.int.inj z))]
      have : plainB (c, q0 :: l) = false := by
        unfold plainB
        cases l with
        | nil => simp [e0]
        | cons _ _ => rfl
      rw [this] at q
      exact iteF (q _ (same_upd ht))
theorem d_law_is_plain (B : Bt mg) (T : Top K mg "_law_is_plain" s_law_is_plain ["expr"]) : Def P w K mg base "_law_is_plain" 1 ["expr"] (spPlain K) := by
  refine mk_def T sc_law_is_plain (by rintro _ _ _ _ ⟨_, _, rfl, _⟩; rfl) fun f cdv A outer s H vs Q E hr h => ?_
  obtain ⟨u, ⟨c, l⟩, rfl, hu, hn, q⟩ := h
  refine ⟨_, (pss_cons (ps_if (pt_cmpR op_eq (pe_callB call_len_seq (by rfl) B.m_len PySem.boot_len (pa_cons (pe_ix ix_tup (pv 0) pe_int (fun _ _ => rfl)) pa_nil)) pe_int (nomark _)) (pss_one (ps_ret pe_bl)) pss_nil)
      (pss_one (ps_ret (pe_and (pe_cmpR op_eq (pe_ix ix_tup (pv 0) pe_int (fun _ _ => rfl)) pe_int (nomark _)) (pe_and (pe_cmpR op_eq (pe_callB call_len_seq (by rfl) B.m_len PySem.boot_len (pa_cons (pe_ix ix_tup (pv 0) pe_int (fun _ _ => rfl)) pa_nil)) pe_int (nomark _)) (pe_one (pe_cmpR op_eq (pe_ix ix_tup (pe_ix ix_tup (pe_ix ix_tup (pv 0) pe_int (fun _ _ => rfl)) pe_int (fun _ _ => rfl)) pe_int (fun _ _ => rfl)) pe_int (nomark _)))))))), ?_⟩
  obtain ⟨a, b, rfl, ha, hb⟩ := Da.tmI hu
  obtain ⟨_, xs, e, hb2, hx⟩ := Da.ptI hb
  cases e
  clear hb hu
  have hl : xs.length = l.length := by rw [hx.length, List.length_map]
  refine ⟨.ref a, rfl, a, _, _, .ref b, rfl, rfl, SqT.of ha, atI_nat (j := 1) rfl, b, _, rfl, .inr (SqT.of hb2), rfl, _, rfl, ?_⟩
  cases l with
  | nil => exact iteY (by rw [hl]; rfl) (q _ (Same.refl _))
  | cons q0 l =>
    refine iteN (fun z => by
      have := V.int.inj z
      rw [hl, List.length_cons] at this
      omega) ⟨.ref a, rfl, a, _, _, .int c, rfl, rfl, SqT.of ha, atI_nat (j := 0) rfl, rfl, _, rfl, ?_⟩
    by_cases e0 : c = 0
    · rw [decide_eq_true (show V.int c = V.int 0 by rw [e0])]
      refine iteT ⟨.ref a, rfl, a, _, _, .ref b, rfl, rfl, SqT.of ha, atI_nat (j := 1) rfl, b, _, rfl, .inr (SqT.of hb2), rfl, _, rfl, ?_⟩
      cases l with
      | nil =>
        rw [decide_eq_true (show V.int ((xs.length : Nat) : Int) = V.int 1 by rw [hl]; rfl)]
        cases hx with
        | @cons v1 vs1 _ _ h1 h2 =>
          obtain ⟨r, rfl, hr0⟩ := Da.prI h1
          refine iteT ⟨.ref a, rfl, a, _, _, .ref b, rfl, rfl, SqT.of ha, atI_nat (j := 1) rfl, b, _, _, .ref r, rfl, rfl, SqT.of hb2, atI_nat (j := 0) rfl, r, _, _, .int q0.2, rfl, rfl, SqT.of hr0, atI_nat (j := 1) rfl, rfl, ?_⟩
          have : plainB (c, [q0]) = decide (V.int q0.2 = V.int 1) := by
            unfold plainB
            simp [e0]
          rw [← this]
          exact q _ (Same.refl _)
      | cons q1 l =>
        rw [decide_eq_false (show ¬ V.int ((xs.length : Nat) : Int) = V.int 1 from fun z => by
          have := V.int.inj z
          rw [hl, List.length_cons, List.length_cons] at this
          omega)]
        exact iteF (q _ (Same.refl _))
    · rw [decide_eq_false (show ¬ V.int c = V.int 0 from fun z => e0 (V.int.inj z))]
      have : plainB (c, q0 :: l) = false := by
        unfold plainB
        cases l with
        | nil => simp [e0]
        | cons _ _ => rfl
      rw [this] at q
      exact iteF (q _ (Same.refl _))
def spCol (K : PySem.W.Frag) : Sp := fun vs H Q _ => ∃ i : Int, vs = [.int i] ∧ ∀ H' y, Same H H' → Da K H' y (tmD (0, [(i, 1)])) → Q y H'
theorem d_col (B : Bt mg) (T : Top K mg "col" scol ["column"]) : Def P w K mg base "col" 1 ["column"] (spCol K) := by
  refine mk_def T sccol (by rintro _ _ _ _ ⟨_, rfl, _⟩; rfl) fun f cdv A outer s H vs Q E hr h => ?_
  obtain ⟨i, rfl, q⟩ := h
  refine ⟨_, (pss_one (ps_ret (pe_tup (pa_cons pe_int (pa_cons (pe_tup (pa_cons (pe_tup (pa_cons (pv 0) (pa_cons pe_int pa_nil))) pa_nil)) pa_nil))))), ?_⟩
  refine ⟨.int i, rfl, by show 2 ≤ sizeLine; decide, fun t1 h1 => ⟨by show 1 ≤ sizeLine; decide, fun t2 h2 => ⟨by show 2 ≤ sizeLine; decide, fun t3 h3 => ?_⟩⟩⟩
  refine q _ _ (((same_upd h1).trans (same_upd h2)).trans (same_upd h3)) (da_tm upd_same ?_)
  exact Da.same (same_upd h3) _ _ (.tup upd_same (.cons (Da.same (same_upd h2) _ _ (da_pr upd_same)) .nil))
def spNum (K : PySem.W.Frag) : Sp := fun vs H Q _ => ∃ i : Int, vs = [.int i] ∧ ∀ H' y, Same H H' → Da K H' y (tmD (i, [])) → Q y H'
theorem d_num (B : Bt mg) (T : Top K mg "num" snum ["number"]) : Def P w K mg base "num" 1 ["number"] (spNum K) := by
  refine mk_def T scnum (by rintro _ _ _ _ ⟨_, rfl, _⟩; rfl) fun f cdv A outer s H vs Q E hr h => ?_
  obtain ⟨i, rfl, q⟩ := h
  refine ⟨_, (pss_one (ps_ret (pe_tup (pa_cons (pv 0) (pa_cons (pe_tup pa_nil) pa_nil))))), ?_⟩
  refine ⟨.int i, rfl, by show 0 ≤ sizeLine; decide, fun t1 h1 => ⟨by show 2 ≤ sizeLine; decide, fun t2 h2 => ?_⟩⟩
  exact q _ _ ((same_upd h1).trans (same_upd h2)) (da_tm upd_same (Da.same (same_upd h2) _ _ (.tup upd_same .nil)))
/-- all by keywords, in the order of the parameters -/
def kwAp {α : Type} : List α → List α → List α
  | [], ws => ws
  | _ :: _, _ => []
theorem kwAp_rel : ∀ {vs : List V} {us : List Value} {zs : List V} {ws : List Value}, Vals vs us → Vals zs ws → Vals (kwAp vs zs) (kwAp us ws)
  | _, _, _, _, .nil, h => h
  | _, _, _, _, .cons _ _, _ => .nil
theorem kwAp1 {K : PySem.W.Frag} {fd : FuncData} {a : Str} (h : ∀ (s : Shared) (u : Value), K.In s.heap → BindsTo s fd ⟨[], [(a, u)]⟩ [(a, u)]) : KBinds K fd [a] [a] kwAp kwAp :=
  ⟨fun s us ws X hl => match us, ws, hl with
    | [], [u], _ => h s u X
    | [], [], hl => by cases hl
    | [], _ :: _ :: _, hl => by simp [kwAp] at hl
    | _ :: _, _, hl => by simp [kwAp] at hl, kwAp_rel⟩
theorem kwAp2 {K : PySem.W.Frag} {fd : FuncData} {a b : Str} (h : ∀ (s : Shared) (u w : Value), K.In s.heap → BindsTo s fd ⟨[], [(a, u), (b, w)]⟩ [(a, u), (b, w)]) : KBinds K fd [a, b] [a, b] kwAp kwAp :=
  ⟨fun s us ws X hl => match us, ws, hl with
    | [], [u, w], _ => h s u w X
    | [], [], hl => by cases hl
    | [], [_], hl => by cases hl
    | [], _ :: _ :: _ :: _, hl => by simp [kwAp] at hl
    | _ :: _, _, hl => by simp [kwAp] at hl, kwAp_rel⟩
def spComposes (K : PySem.W.Frag) : Sp := fun vs H Q _ => ∃ (u v : V) (o : Tm) (ts : List Tm), vs = [u, v] ∧ Da K H u (tmD o) ∧ Da K H v (tsD ts) ∧ CompOk o ts ∧ ∀ H', Same H H' → Q (.bl true) H'
theorem nz_len {o : Tm} {ts : List Tm} {M : List (Int × Int)} (ok : CompOk o ts) (pm : M.Perm (nz (tallyL (pairsL o ts)))) : M.length ≤ 16 := by
  rw [pm.length_eq]
  exact Nat.le_trans (List.length_filter_le _ _) (Nat.le_trans (tally_len _) (pairs_len ok))
theorem d_law_composes (B : Bt mg) (T : Top K mg "_law_composes" s_law_composes ["outer", "exprs"]) (D_law_composed : Def P w K mg base "_law_composed" 1 ["outer", "exprs"] (spComposed K)) (Dcomposed : Def P w K mg base "composed" 3 ["term", "terms"] (spComposed K)) (Dcomposed_term_terms : DefK P w K mg base "composed" 3 ["term", "terms"] ["term", "terms"] kwAp (spComposed K)) (D_law_same : Def P w K mg base "_law_same" 5 ["told", "due"] (spSame K 4)) : Def P w K mg base "_law_composes" 6 ["outer", "exprs"] (spComposes K) := by
  refine mk_def T sc_law_composes (by rintro _ _ _ _ ⟨_, _, _, _, rfl, _⟩; rfl) fun f cdv A outer s H vs Q E hr h => ?_
  obtain ⟨u, v, o, ts, rfl, hu, hv, ok, q⟩ := h
  refine ⟨_, (pss_cons (ps_set (i := 2) sc_law_composes.nd rfl (Or.inl rfl) (pe_def D_law_composed (hr.mono (by first | decide | omega)) (by rfl) (pa_cons (pv 0) (pa_cons (pv 1) pa_nil))))
      (pss_one (ps_ret (pe_and (pe_def D_law_same (hr.mono (by first | decide | omega)) (by rfl) (pa_cons (pe_def Dcomposed (hr.mono (by first | decide | omega)) (by rfl) (pa_cons (pv 0) (pa_cons (pv 1) pa_nil))) (pa_cons (pv 2) pa_nil))) (pe_one (pe_def D_law_same (hr.mono (by first | decide | omega)) (by rfl) (pa_cons (pe_defK0 Dcomposed_term_terms (hr.mono (by first | decide | omega)) (by rfl) (pk_cons (pv 0) (pk_cons (pv 1) pk_nil))) (pa_cons (pv 2) pa_nil)))))))), ?_⟩
  refine ⟨u, rfl, v, rfl, u, v, o, ts, rfl, hu, hv, ok, fun H1 y M e1 hy hM pM => ?_⟩
  refine ⟨u, rfl, v, rfl, u, v, o, ts, rfl, Da.same e1 _ _ hu, Da.same e1 _ _ hv, ok, fun H2 y2 M2 e2 hy2 hM2 pM2 => ?_⟩
  obtain rfl := asc_uniq hM2 hM (pM2.trans pM.symm)
  have hk : okD 4 (tmD (conC o ts, M2)) = true := okD_tm (by have := nz_len ok pM2; show M2.length ≤ 1000; omega)
  refine ⟨y, rfl, y2, y, _, rfl, hy2, Da.same e2 _ _ hy, hk, fun H3 e3 => ⟨true, rfl, iteT ?_⟩⟩
  have e13 := (e1.trans e2).trans e3
  refine ⟨u, rfl, v, rfl, u, v, o, ts, rfl, Da.same e13 _ _ hu, Da.same e13 _ _ hv, ok, fun H4 y4 M4 e4 hy4 hM4 pM4 => ?_⟩
  obtain rfl := asc_uniq hM4 hM (pM4.trans pM.symm)
  exact ⟨y, rfl, y4, y, _, rfl, hy4, Da.same ((e2.trans e3).trans e4) _ _ hy, hk, fun H5 e5 => q _ ((e13.trans e4).trans e5)⟩
def spValued (K : PySem.W.Frag) : Sp := fun vs H Q _ => ∃ (u v : V) (t : Tm) (row : List Int), vs = [u, v] ∧ Da K H u (tmD t) ∧ Mo K H v row ∧ VOk t row ∧ ∀ H', Same H H' → Q (.bl true) H'
theorem d_law_valued (B : Bt mg) (T : Top K mg "_law_valued" s_law_valued ["expr", "values"]) (D_law_value : Def P w K mg base "_law_value" 1 ["expr", "values"] (spValue K)) (Dvalue_of : Def P w K mg base "value_of" 1 ["term", "row"] (spValue K)) (Dvalue_of_term_row : DefK P w K mg base "value_of" 1 ["term", "row"] ["term", "row"] kwAp (spValue K)) (D_law_same : Def P w K mg base "_law_same" 5 ["told", "due"] (spSame K 4)) : Def P w K mg base "_law_valued" 6 ["expr", "values"] (spValued K) := by
  refine mk_def T sc_law_valued (by rintro _ _ _ _ ⟨_, _, _, _, rfl, _⟩; rfl) fun f cdv A outer s H vs Q E hr h => ?_
  obtain ⟨u, v, t, row, rfl, hu, hv, ok, q⟩ := h
  refine ⟨_, (pss_cons (ps_set (i := 2) sc_law_valued.nd rfl (Or.inl rfl) (pe_def D_law_value (hr.mono (by first | decide | omega)) (by rfl) (pa_cons (pv 0) (pa_cons (pv 1) pa_nil))))
      (pss_one (ps_ret (pe_and (pe_def D_law_same (hr.mono (by first | decide | omega)) (by rfl) (pa_cons (pe_def Dvalue_of (hr.mono (by first | decide | omega)) (by rfl) (pa_cons (pv 0) (pa_cons (pv 1) pa_nil))) (pa_cons (pv 2) pa_nil))) (pe_one (pe_def D_law_same (hr.mono (by first | decide | omega)) (by rfl) (pa_cons (pe_defK0 Dvalue_of_term_row (hr.mono (by first | decide | omega)) (by rfl) (pk_cons (pv 0) (pk_cons (pv 1) pk_nil))) (pa_cons (pv 2) pa_nil)))))))), ?_⟩
  refine ⟨u, rfl, v, rfl, u, v, t, row, rfl, hu, hv, ok, fun H1 e1 => ?_⟩
  refine ⟨u, rfl, v, rfl, u, v, t, row, rfl, Da.same e1 _ _ hu, hv.same e1, ok, fun H2 e2 => ?_⟩
  refine ⟨_, rfl, _, _, .int (valT t row), rfl, .int _, .int _, rfl, fun H3 e3 => ⟨true, rfl, iteT ?_⟩⟩
  have e13 := (e1.trans e2).trans e3
  refine ⟨u, rfl, v, rfl, u, v, t, row, rfl, Da.same e13 _ _ hu, hv.same e13, ok, fun H4 e4 => ?_⟩
  exact ⟨_, rfl, _, _, .int (valT t row), rfl, .int _, .int _, rfl, fun H5 e5 => q _ ((e13.trans e4).trans e5)⟩
def smallB (l : List Int) : Bool := l.all fun x => decide ((if x < 0 then -x else x) < (10 : Int) ^ (40 : Int).toNat)
def spSmall (K : PySem.W.Frag) : Sp := fun vs H Q _ => ∃ (a : Addr) (l : List Int), vs = [.ref a] ∧ (SqL K H a (l.map V.int) ∨ SqT K H a (l.map V.int)) ∧ l.length ≤ 1000 ∧ ∀ H', Same H H' → Q (.bl (smallB l)) H'
theorem d_law_small (B : Bt mg) (T : Top K mg "_law_small" s_law_small ["numbers"]) : Def P w K mg base "_law_small" 1 ["numbers"] (spSmall K) := by
  refine mk_def T sc_law_small (by rintro _ _ _ _ ⟨_, _, rfl, _⟩; rfl) fun f cdv A outer s H vs Q E hr h => ?_
  obtain ⟨a, l, rfl, ha | ha, hn, q⟩ := h
  · refine ⟨_, (pss_one (ps_ret (pe_callB (cr_all rfl) (by rfl) B.m_all (by decide +kernel) (pa_cons (pe_lc (own := [("number", 1)]) (g := (gName 1)) (tt := tYes) (te := (tOp yLt (tCB yAbs (tCons (tVar 1) tNil)) (tOp yPow (tC (.int 10)) (tC (.int 40))))) rfl sc_law_small.nd (pi_list (pv 0)) (blkOk_by (own := [("number", 1)]) (N := N_law_small) (sc := defScope s_law_small) (by decide +kernel)) (fun _ _ _ _ _ => (pg_name (i := 1) sc_law_small.nd rfl (Or.inl rfl))) (fun _ _ _ _ _ => pts_nil) (fun _ _ _ _ _ => (pe_cmpR op_lt (pe_callB call_abs (by rfl) B.m_abs (by decide +kernel) (pa_cons (pv 1) pa_nil)) (pe_op op_pow pe_int pe_int) (nomark _)))) pa_nil)))), ?_⟩
    refine ⟨.ref a, rfl, a, rfl, ⟨_, ha⟩, fun D hD => ?_⟩
    refine lc_val (walk_list (K := K)) hD (by rw [List.length_map]; omega) (fun H1 e => e.seq ha) ((l.map fun x => decide ((if x < 0 then -x else x) < (10 : Int) ^ (40 : Int).toNat)).map V.bl) (by simp) (fun i x H1 H2 Q' hi e y k => ?_) (fun H1 e eD => ?_)
    · obtain ⟨rfl, hxi⟩ := y
      obtain ⟨c, hc, rfl⟩ := at_map hxi
      refine ⟨rfl, .int c, rfl, c, rfl, _, _, rfl, rfl, ⟨by decide, by decide, by decide⟩, _, _, rfl, rfl, k _ _ (Same.refl _) ?_⟩
      rw [List.map_map, List.getElem?_map, hc]
      rfl
    · refine ⟨D, _, rfl, SqL.of eD, ?_⟩
      rw [List.all_map]
      exact q H1 e
  · refine ⟨_, (pss_one (ps_ret (pe_callB (cr_all rfl) (by rfl) B.m_all (by decide +kernel) (pa_cons (pe_lc (own := [("number", 1)]) (g := (gName 1)) (tt := tYes) (te := (tOp yLt (tCB yAbs (tCons (tVar 1) tNil)) (tOp yPow (tC (.int 10)) (tC (.int 40))))) rfl sc_law_small.nd (pi_tup (pv 0)) (blkOk_by (own := [("number", 1)]) (N := N_law_small) (sc := defScope s_law_small) (by decide +kernel)) (fun _ _ _ _ _ => (pg_name (i := 1) sc_law_small.nd rfl (Or.inl rfl))) (fun _ _ _ _ _ => pts_nil) (fun _ _ _ _ _ => (pe_cmpR op_lt (pe_callB call_abs (by rfl) B.m_abs (by decide +kernel) (pa_cons (pv 1) pa_nil)) (pe_op op_pow pe_int pe_int) (nomark _)))) pa_nil)))), ?_⟩
    refine ⟨.ref a, rfl, a, rfl, ⟨_, ha⟩, fun D hD => ?_⟩
    refine lc_val (walk_tup (K := K)) hD (by rw [List.length_map]; omega) (fun H1 e => e.seqT ha) ((l.map fun x => decide ((if x < 0 then -x else x) < (10 : Int) ^ (40 : Int).toNat)).map V.bl) (by simp) (fun i x H1 H2 Q' hi e y k => ?_) (fun H1 e eD => ?_)
    · obtain ⟨rfl, hxi⟩ := y
      obtain ⟨c, hc, rfl⟩ := at_map hxi
      refine ⟨rfl, .int c, rfl, c, rfl, _, _, rfl, rfl, ⟨by decide, by decide, by decide⟩, _, _, rfl, rfl, k _ _ (Same.refl _) ?_⟩
      rw [List.map_map, List.getElem?_map, hc]
      rfl
    · refine ⟨D, _, rfl, SqL.of eD, ?_⟩
      rw [List.all_map]
      exact q H1 e
theorem small_of {l : List Int} (h : smallB l = true) : ∀ x ∈ l, Small x := fun x hx => by
  have := of_decide_eq_true (List.all_eq_true.mp h x hx)
  have e : (10 : Int) ^ (40 : Int).toNat = 10 ^ 40 := rfl
  rw [e] at this
  unfold Small
  split at this <;> omega
end
end K12

namespace K12
open PySem PySem.Spec PyProof.Rows L2
/-! ### the value of the composed term -/
theorem valP_append (l m : List (Int × Int)) (row : List Int) : valP (l ++ m) row = valP l row + valP m row := by
  simp [valP]
theorem valP_pairsQ (ts : List Tm) (q : Int × Int) (row : List Int) : valP (pairsQ ts q) row = q.2 * valP (tsAt ts q.1).2 row := by
  unfold pairsQ
  induction (tsAt ts q.1).2 with
  | nil => simp [valP]
  | cons r l ih =>
    rw [List.map_cons, valP_cons, valP_cons, ih, Int.mul_add, Int.mul_assoc]
theorem mid_at {ts : List Tm} {row : List Int} {c : Int} (h0 : 0 ≤ c) (h1 : c < ts.length) : (midT ts row).getD c.toNat 0 = valT (tsAt ts c) row := by
  obtain ⟨j, ej, hj, hjt, _⟩ := tsAt_mem h0 h1
  rw [List.getD_eq_getElem?_getD, midT, List.getElem?_map, ej, Int.toNat_natCast]
  rw [ej] at hjt
  rw [hjt]
  rfl
theorem composed_value {o : Tm} {ts : List Tm} {row : List Int} (hc : ∀ q ∈ o.2, 0 ≤ q.1 ∧ q.1 < ts.length) {M : List (Int × Int)} (pm : M.Perm (nz (tallyL (pairsL o ts)))) : valT (conC o ts, M) row = valT o (midT ts row) := by
  show conC o ts + valP M row = o.1 + valP o.2 (midT ts row)
  rw [valP_perm row pm, valP_nz, valP_tally]
  obtain ⟨c, l⟩ := o
  show c + _ + valP (pairsL (c, l) ts) row = c + valP l (midT ts row)
  have : ∀ l : List (Int × Int), (∀ q ∈ l, 0 ≤ q.1 ∧ q.1 < ts.length) → (l.map fun q => q.2 * (tsAt ts q.1).1).sum + valP ((l.map (pairsQ ts)).flatten) row = valP l (midT ts row) := by
    intro l
    induction l with
    | nil => intro _; simp [valP]
    | cons q l ih =>
      intro hq
      have h1 := ih fun r hr => hq r (List.mem_cons_of_mem _ hr)
      obtain ⟨c0, c1⟩ := hq q List.mem_cons_self
      rw [List.map_cons, List.map_cons, List.flatten_cons, List.sum_cons, valP_append, valP_pairsQ, valP_cons, mid_at c0 c1, ← h1]
      unfold valT
      rw [Int.mul_add]
      omega
  rw [Int.add_assoc, pairsL, this l hc]
/-! ### no number is too great -/
theorem small_lt {a : Int} (h : Small a) : a.natAbs < 2 ^ 140 := Nat.lt_of_lt_of_le h (by decide)
theorem add_lt {a b : Int} {n : Nat} (ha : a.natAbs < 2 ^ n) (hb : b.natAbs < 2 ^ n) : (a + b).natAbs < 2 ^ (n + 1) := by
  rw [Nat.pow_succ]
  omega
def SmR (row : List Int) : Prop := ∀ x ∈ row, Small x
theorem row_small {row : List Int} (h : SmR row) (i : Nat) : Small (row.getD i 0) := by
  rw [List.getD_eq_getElem?_getD]
  cases e : row[i]? with
  | none => exact small0
  | some x => exact h x (List.mem_of_getElem? e)
theorem mul_le {a b : Int} (ha : Small a) (hb : Small b) : (a * b).natAbs ≤ 10 ^ 80 := by
  rw [Int.natAbs_mul]
  have h1 : a.natAbs ≤ 10 ^ 40 := Nat.le_of_lt ha
  have h2 : b.natAbs ≤ 10 ^ 40 := Nat.le_of_lt hb
  have := Nat.mul_le_mul h1 h2
  have e : (10 : Nat) ^ 40 * 10 ^ 40 = 10 ^ 80 := by decide
  omega
theorem valP_le {row : List Int} (hr : SmR row) : ∀ l : List (Int × Int), (∀ q ∈ l, Small q.2) → (valP l row).natAbs ≤ l.length * 10 ^ 80
  | [], _ => by simp [valP]
  | q :: l, h => by
    have h1 := valP_le hr l fun r hq => h r (List.mem_cons_of_mem _ hq)
    have h2 := mul_le (h q List.mem_cons_self) (row_small hr q.1.toNat)
    rw [valP_cons, List.length_cons, Nat.succ_mul]
    omega
theorem valT_lt {t : Tm} {row : List Int} (ht : SmT t) (hr : SmR row) : (valT t row).natAbs < 2 ^ 300 := by
  have h1 := valP_le hr t.2 ht.fac
  have h2 := ht.con
  have h3 := ht.len
  have h4 : t.2.length * 10 ^ 80 ≤ 4 * 10 ^ 80 := Nat.mul_le_mul_right _ h3
  have h5 : (10 : Nat) ^ 40 + 4 * 10 ^ 80 < 2 ^ 300 := by decide
  unfold Small at h2
  show (t.1 + valP t.2 row).natAbs < 2 ^ 300
  omega
/-- a drawn term on a drawn row -/
theorem vok_row {t : Tm} {row : List Int} (ht : TmOk row.length t) (hr : SmR row) : VOk t row :=
  ⟨Nat.le_trans ht.len (by decide), fun q hq => ⟨(ht.col q hq).1, (ht.col q hq).2.1⟩, fun q hq => small_mul (ht.col q hq).2.2 (row_small hr _)⟩
/-- the outer term on the values of the inner ones -/
theorem vok_mid {o : Tm} {ts : List Tm} {row : List Int} (ho : TmOk ts.length o) (ht : ∀ t ∈ ts, SmT t) (hr : SmR row) : VOk o (midT ts row) :=
  ⟨Nat.le_trans ho.len (by decide), fun q hq => ⟨(ho.col q hq).1, by have := (ho.col q hq).2.1; rw [midT, List.length_map]; exact this⟩, fun q hq => by
    obtain ⟨c0, c1, c2⟩ := ho.col q hq
    rw [mid_at c0 c1]
    obtain ⟨_, _, _, _, hm⟩ := tsAt_mem c0 c1
    exact wide_mul (small_lt c2) (valT_lt (ht _ hm) hr) (by decide) (by decide) (by decide)⟩
theorem pairs_size {o : Tm} {ts : List Tm} (h : CompOk o ts) : sizeP (pairsL o ts) ≤ 16 * 10 ^ 80 := by
  have hq : ∀ q ∈ pairsL o ts, q.2.natAbs ≤ 10 ^ 80 := by
    intro q hq
    obtain ⟨l, hl, hql⟩ := List.mem_flatten.mp hq
    obtain ⟨q0, hq0, rfl⟩ := List.mem_map.mp hl
    obtain ⟨r, hr, rfl⟩ := List.mem_map.mp hql
    obtain ⟨c0, c1⟩ := h.col q0 hq0
    obtain ⟨_, _, _, _, hm⟩ := tsAt_mem c0 c1
    exact mul_le (h.out.fac q0 hq0) ((h.ins _ hm).fac r hr)
  have hs : ∀ l : List (Int × Int), (∀ q ∈ l, q.2.natAbs ≤ 10 ^ 80) → sizeP l ≤ l.length * 10 ^ 80 := by
    intro l
    induction l with
    | nil => intro _; simp [sizeP]
    | cons q l ih =>
      intro h
      have h1 := ih fun r hr => h r (List.mem_cons_of_mem _ hr)
      have h2 := h q List.mem_cons_self
      have e : sizeP (q :: l) = q.2.natAbs + sizeP l := by simp [sizeP]
      rw [e, List.length_cons, Nat.succ_mul]
      omega
  exact Nat.le_trans (hs _ hq) (Nat.mul_le_mul_right _ (pairs_len h))
/-- the composed term on the row -/
theorem vok_whole {o : Tm} {ts : List Tm} {row : List Int} (h : CompOk o ts) (ht : ∀ t ∈ ts, TmOk row.length t) (hr : SmR row) {M : List (Int × Int)} (pm : M.Perm (nz (tallyL (pairsL o ts)))) : VOk (conC o ts, M) row := by
  have hin : ∀ q ∈ M, q ∈ tallyL (pairsL o ts) := fun q hq => (List.mem_filter.mp (pm.mem_iff.mp hq)).1
  refine ⟨by have := nz_len h pm; show M.length ≤ 1000; omega, fun q hq => ?_, fun q hq => ?_⟩
  · refine tally_keys (P := fun k => 0 ≤ k ∧ k < row.length) (pairsL o ts) [] (fun _ h => by cases h) (fun q hq => ?_) q (hin q hq)
    obtain ⟨l, hl, hql⟩ := List.mem_flatten.mp hq
    obtain ⟨q0, hq0, rfl⟩ := List.mem_map.mp hl
    obtain ⟨r, hr', rfl⟩ := List.mem_map.mp hql
    obtain ⟨c0, c1⟩ := h.col q0 hq0
    obtain ⟨_, _, _, _, hm⟩ := tsAt_mem c0 c1
    have := (ht _ hm).col r hr'
    exact ⟨this.1, this.2.1⟩
  · have h1 := tally_le _ q (hin q hq)
    have h2 := pairs_size h
    have h3 : q.2.natAbs < 2 ^ 300 := Nat.lt_of_le_of_lt (Nat.le_trans h1 h2) (by decide)
    exact wide_mul h3 (small_lt (row_small hr _)) (by decide) (by decide) (by decide)
theorem comp_ok {o : Tm} {ts : List Tm} {n : Int} (ho : TmOk ts.length o) (ht : ∀ t ∈ ts, TmOk n t) (hl : ts.length ≤ 1000) : CompOk o ts :=
  ⟨ho.sm, fun q hq => ⟨(ho.col q hq).1, (ho.col q hq).2.1⟩, fun t h => (ht t h).sm, hl⟩
end K12

namespace K12
open PySem PySem.Spec PyProof.Rows L2
abbrev opsV : List V := [.str "=", .str "!=", .str "<", .str "<="]
theorem ops_at {i : Nat} (h : i < 4) : opsV[i]? = some (.str (opS i)) := by
  match i, h with
  | 0, _ => rfl
  | 1, _ => rfl
  | 2, _ => rfl
  | 3, _ => rfl
def goodL (a b : Int) : List Nat := (List.range 4).filter fun i => cmpO a i b
theorem good_lt {a b : Int} {k : Nat} (h : k ∈ goodL a b) : k < 4 := List.mem_range.mp (List.mem_filter.mp h).1
theorem good_pos (a b : Int) : 0 < (goodL a b).length := by
  by_cases e : a = b
  · exact List.length_pos_of_mem (a := 0) (List.mem_filter.mpr ⟨by simp, by simp [cmpO, e]⟩)
  · exact List.length_pos_of_mem (a := 1) (List.mem_filter.mpr ⟨by simp, by simp [cmpO, e]⟩)
section
variable {P : Program} {w : World} {K : PySem.W.Frag} {mg : Str → Option Value} {base : Heap}
def spCheck (K : PySem.W.Frag) : Sp := fun vs H Q _ => ∃ (p c : Addr) (v : V) (row : List Int), vs = [.ref p, v] ∧ SrcAt c H p ∧ Mo K H v row ∧ row.length ≤ 100 ∧ SmR row ∧ ∀ H' y x, SameB p H H' → SrcAt c H' p → Da K H' y (tstD x) → TstOk x row → Q y H'
theorem d_law_check (B : Bt mg) (T : Top K mg "_law_check" s_law_check ["source", "values"]) (D_law_draw : Def P w K mg base "_law_draw" 2 ["source", "many"] (spDraw K)) (D_law_expr : Def P w K mg base "_law_expr" 6 ["source", "width"] (spExpr K)) (D_law_value : Def P w K mg base "_law_value" 1 ["expr", "values"] (spValue K)) (D_law_compares : Def P w K mg base "_law_compares" 1 ["left", "op", "right"] spCompares) : Def P w K mg base "_law_check" 7 ["source", "values"] (spCheck K) := by
  refine mk_def T sc_law_check (by rintro _ _ _ _ ⟨_, _, _, _, rfl, _⟩; rfl) fun f cdv A outer s H vs Q E hr h => ?_
  obtain ⟨p, c, v, row, rfl, hs, hv, hn, hsm, q⟩ := h
  refine ⟨_, (pss_cons (ps_set (i := 2) sc_law_check.nd rfl (Or.inl rfl) (pe_lst (pa_cons pe_str (pa_cons pe_str (pa_cons pe_str (pa_cons pe_str pa_nil))))))
      (pss_cons (ps_set (i := 3) sc_law_check.nd rfl (Or.inl rfl) (pe_def D_law_expr (hr.mono (by first | decide | omega)) (by rfl) (pa_cons (pv 0) (pa_cons (pe_callB call_len_seq (by rfl) B.m_len PySem.boot_len (pa_cons (pv 1) pa_nil)) pa_nil))))
      (pss_cons (ps_set (i := 4) sc_law_check.nd rfl (Or.inl rfl) (pe_def D_law_expr (hr.mono (by first | decide | omega)) (by rfl) (pa_cons (pv 0) (pa_cons (pe_callB call_len_seq (by rfl) B.m_len PySem.boot_len (pa_cons (pv 1) pa_nil)) pa_nil))))
      (pss_cons (ps_set (i := 5) sc_law_check.nd rfl (Or.inr rfl) (pe_def D_law_value (hr.mono (by first | decide | omega)) (by rfl) (pa_cons (pv 3) (pa_cons (pv 1) pa_nil))))
      (pss_cons (ps_set (i := 6) sc_law_check.nd rfl (Or.inl rfl) (pe_op op_sub (pe_op op_sub (pe_op op_add (pv 5) (pe_def D_law_draw (hr.mono (by first | decide | omega)) (by rfl) (pa_cons (pv 0) (pa_cons pe_int pa_nil)))) pe_int) (pe_def D_law_value (hr.mono (by first | decide | omega)) (by rfl) (pa_cons (pv 4) (pa_cons (pv 1) pa_nil)))))
      (Evl.pss_cut (ps_if (pw_and (pt_cmpR op_gt (pe_def D_law_draw (hr.mono (by first | decide | omega)) (by rfl) (pa_cons (pv 0) (pa_cons pe_int pa_nil))) pe_int (nomark _)) (pw_and1 (pt_cmpR op_lt (pe_callB call_abs (by rfl) B.m_abs (by decide +kernel) (pa_cons (pe_op op_add (pe_ix ix_tup (pv 4) pe_int (fun _ _ => rfl)) (pv 6)) pa_nil)) (pe_op op_pow pe_int pe_int) (nomark _)))).pt (pss_one (ps_set (i := 4) sc_law_check.nd rfl (Or.inl rfl) (pe_tup (pa_cons (pe_op op_add (pe_ix ix_tup (pv 4) pe_int (fun _ _ => rfl)) (pv 6)) (pa_cons (pe_ix ix_tup (pv 4) pe_int (fun _ _ => rfl)) pa_nil))))) pss_nil)
      (pss_cons (ps_set (i := 7) sc_law_check.nd rfl (Or.inr rfl) (pe_def D_law_value (hr.mono (by first | decide | omega)) (by rfl) (pa_cons (pv 4) (pa_cons (pv 1) pa_nil))))
      (pss_cons (ps_setLc (i := 8) (own := [("op", 9)]) (g := (gName 9)) (tt := (tB (tCall spCompares [] E0 (tCons (tVar 5) (tCons (tVar 9) (tCons (tVar 7) tNil)))))) (te := (tVar 9)) rfl sc_law_check.nd rfl rfl (sw_true rfl rfl rfl (by decide +kernel)) (pi_list (pv 2)) (blkOk_by (own := [("op", 9)]) (N := N_law_check) (sc := defScope s_law_check) (by decide +kernel)) (fun _ _ _ _ _ => (pg_name (i := 9) sc_law_check.nd rfl (Or.inl rfl))) (fun _ _ _ _ _ => (pts_one (pt_val (pe_def D_law_compares (hr.mono (by first | decide | omega)) (by rfl) (pa_cons (pv 5) (pa_cons (pv 9) (pa_cons (pv 7) pa_nil))))))) (fun _ _ _ _ _ => (pv 9)))
      (pss_cons (ps_if (pt_cmpR op_gt (pe_def D_law_draw (hr.mono (by first | decide | omega)) (by rfl) (pa_cons (pv 0) (pa_cons pe_int pa_nil))) pe_int (nomark _)) (pss_one (ps_ret (pe_tup (pa_cons (pv 3) (pa_cons (pe_ix ix_list (pv 8) (pe_def D_law_draw (hr.mono (by first | decide | omega)) (by rfl) (pa_cons (pv 0) (pa_cons (pe_callB call_len_seq (by rfl) B.m_len PySem.boot_len (pa_cons (pv 8) pa_nil)) pa_nil))) (fun _ _ => rfl)) (pa_cons (pv 4) pa_nil)))))) pss_nil)
      (pss_one (ps_ret (pe_tup (pa_cons (pv 3) (pa_cons (pe_ix ix_list (pv 2) (pe_def D_law_draw (hr.mono (by first | decide | omega)) (by rfl) (pa_cons (pv 0) (pa_cons pe_int pa_nil))) (fun _ _ => rfl)) (pa_cons (pv 4) pa_nil))))))))))))))), ?_⟩
  obtain ⟨a, rfl, ha⟩ := hv.trk
  refine ⟨by show 4 ≤ sizeLine; decide, fun L hL => ?_⟩
  have npL : L ≠ p := (hs.pne hL).symm
  have ncL : c ≠ L := hs.cne hL
  have hn' : ((row.map V.int).length : Int) ≤ 100 := by rw [List.length_map]; omega
  have rl : ((row.map V.int).length : Int) = (row.length : Int) := by rw [List.length_map]
  have hsL : SrcAt c (L2.upd H L (.lst opsV)) p := hs.upd hL
  have hvL : Mo K (L2.upd H L (.lst opsV)) (.ref a) row := hv.same (same_upd hL)
  have eL : L2.upd H L (.lst opsV) L = some (.lst opsV) := upd_same
  have e0 : SameB p H (L2.upd H L (.lst opsV)) := Same.b (same_upd hL)
  generalize L2.upd H L (.lst opsV) = H0 at hsL hvL eL e0 ⊢
  obtain ⟨_, ea, haL⟩ := hvL.trk
  cases ea
  refine ⟨.ref p, rfl, .ref a, rfl, a, _, rfl, .inr (SqT.of haL), p, c, _, rfl, hsL, hn', fun H1 l tl s1 a1 hl okl => ?_⟩
  rw [rl] at okl
  have hv1 := hvL.st (hsL.st (K := K) s1)
  obtain ⟨_, ea, ha1⟩ := hv1.trk
  cases ea
  refine ⟨.ref p, rfl, .ref a, rfl, a, _, rfl, .inr (SqT.of ha1), p, c, _, rfl, a1, hn', fun H2 r tr s2 a2 hr2 okr => ?_⟩
  rw [rl] at okr
  have hv2 := hv1.st (a1.st (K := K) s2)
  have hl2 := Da.st (a1.st s2) _ _ (imm_tm tl) hl
  refine ⟨l, rfl, .ref a, rfl, l, .ref a, tl, row, rfl, hl2, hv2, vok_row okl hsm, fun H3 e3 => ?_⟩
  have a3 := a2.same e3
  have t3 : SameB p H H3 := ((e0.trans s1).trans s2).trans (Same.b e3)
  have L3 : H3 L = some (.lst opsV) := e3 _ _ (s2 _ _ npL (s1 _ _ npL eL))
  have hl3 := Da.same e3 _ _ hl2
  have hr3 := Da.same e3 _ _ hr2
  have hv3 := hv2.same e3
  refine ⟨_, rfl, .ref p, rfl, p, c, _, rfl, a3, by decide, by decide, fun H4 d s4 a4 d0 d1 => ?_⟩
  have hv4 := hv3.st (a3.st (K := K) s4)
  have hr4 := Da.st (a3.st s4) _ _ (imm_tm tr) hr3
  have hl4 := Da.st (a3.st s4) _ _ (imm_tm tl) hl3
  refine ⟨_, _, rfl, rfl, _, _, rfl, rfl, r, rfl, .ref a, rfl, r, .ref a, tr, row, rfl, hr4, hv4, vok_row okr hsm, fun H5 e5 => ⟨_, _, rfl, rfl, ?_⟩⟩
  have a5 := a4.same e5
  have t5 : SameB p H H5 := (t3.trans s4).trans (Same.b e5)
  have L5 : H5 L = some (.lst opsV) := e5 _ _ (s4 _ _ npL L3)
  have hl5 := Da.same e5 _ _ hl4
  have hr5 := Da.same e5 _ _ hr4
  have hv5 := hv4.same e5
  refine ⟨fun σ' H6 => ∃ (r' : V) (tr' : Tm), σ' = [some (.ref p), some (.ref a), some (.ref L), some l, some r', some (.int (valT tl row)), some (.int (valT tl row + d - 1 - valT tr row)), none, none, none] ∧ SameB p H H6 ∧ SrcAt c H6 p ∧ H6 L = some (.lst opsV) ∧ Da K H6 l (tmD tl) ∧ Da K H6 r' (tmD tr') ∧ Mo K H6 (.ref a) row ∧ TmOk row.length tr', ?_, ?_⟩
  · refine ⟨.ref p, rfl, p, c, _, rfl, a5, by decide, by decide, fun H6 d6 s6 a6 _ _ => ?_⟩
    have hl6 := Da.st (a5.st s6) _ _ (imm_tm tl) hl5
    have hr6 := Da.st (a5.st s6) _ _ (imm_tm tr) hr5
    have hv6 := hv5.st (a5.st (K := K) s6)
    have L6 := s6 _ _ npL L5
    have t6 := t5.trans s6
    refine ⟨_, _, rfl, rfl, _, rfl, ite2 (fun z => ?_) (fun z => iteF ⟨r, tr, rfl, t6, a6, L6, hl6, hr6, hv6, okr⟩)⟩
    obtain ⟨b, b2, eb, hb, hb2⟩ := Da.tmI hr6
    subst eb
    refine ⟨.ref b, rfl, b, _, _, .int tr.1, rfl, rfl, SqT.of hb, atI_nat (j := 0) rfl, _, rfl, _, _, rfl, rfl, _, rfl, _, _, rfl, rfl, ⟨by decide, by decide, by decide⟩, _, _, rfl, rfl, _, rfl, ite2 (fun z2 => ?_) (fun z2 => ⟨.ref b, tr, rfl, t6, a6, L6, hl6, hr6, hv6, okr⟩)⟩
    have hz := of_decide_eq_true z2
    refine ⟨.ref b, rfl, b, _, _, .int tr.1, rfl, rfl, SqT.of hb, atI_nat (j := 0) rfl, _, rfl, _, _, rfl, rfl, .ref b, rfl, b, _, _, .ref b2, rfl, rfl, SqT.of hb, atI_nat (j := 1) rfl, by show 2 ≤ sizeLine; decide, fun t ht => ?_⟩
    have ntL : L ≠ t := ne_of_none L6 ht
    refine ⟨.ref t, (tr.1 + (valT tl row + d - 1 - valT tr row), tr.2), rfl, t6.trans (Same.b (same_upd ht)), a6.upd ht, by rw [upd_ne ntL]; exact L6, Da.same (same_upd ht) _ _ hl6, da_tm upd_same (Da.same (same_upd ht) _ _ hb2), hv6.same (same_upd ht), ⟨?_, okr.len, okr.col⟩⟩
    have e40 : (10 : Int) ^ (40 : Int).toNat = 10 ^ 40 := rfl
    rw [e40] at hz
    show (tr.1 + (valT tl row + d - 1 - valT tr row)).natAbs < 10 ^ 40
    split at hz <;> omega
  · clear hr5 hr4 hr3 hr2 okr
    rintro σ' H6 ⟨r', tr', rfl, t6, a6, L6, hl6, hr6, hv6, okr⟩
    generalize valT tl row + d - 1 - valT tr row = gap
    refine ⟨r', rfl, .ref a, rfl, r', .ref a, tr', row, rfl, hr6, hv6, vok_row okr hsm, fun H7 e7 => ?_⟩
    have L7 := e7 _ _ L6
    refine ⟨.ref L, rfl, L, rfl, ⟨_, SqL.of L7⟩, fun G hG => ?_⟩
    refine lc_val_if (walk_list (K := K) (xs := opsV)) hG (by decide) (fun H8 e8 => SqL.of (e8 _ _ L7)) (fun i => cmpO (valT tl row) i (valT tr' row)) (fun i => V.str (opS i)) (fun i x H8 H9 Q' R' hi e8 y kt kf => ?_) (fun H8 e8 eG => ?_)
    · obtain ⟨rfl, hxi⟩ := y
      have hi4 : i < 4 := hi
      rw [ops_at hi4] at hxi
      cases hxi
      refine ⟨rfl, _, rfl, _, rfl, _, rfl, _, _, i, rfl, hi4, _, rfl, ?_⟩
      cases hb : cmpO (valT tl row) i (valT tr' row) with
      | true => exact iteT ⟨_, rfl, kt _ hb (Same.refl _)⟩
      | false => exact iteF (kf _ hb (Same.refl _))
    · have e68 := e7.trans e8
      have a8 := a6.same e68
      have t8 : SameB p H H8 := t6.trans (Same.b e68)
      have L8 := e68 _ _ L6
      have hl8 := Da.same e68 _ _ hl6
      have hr8 := Da.same e68 _ _ hr6
      have gG : H8 G = some (.lst ((goodL (valT tl row) (valT tr' row)).map fun i => V.str (opS i))) := eG
      have nGp : G ≠ p := ((a6.same e7).pne hG).symm
      refine ⟨.ref p, rfl, p, c, _, rfl, a8, by decide, by decide, fun H9 d9 s9 a9 _ _ => ?_⟩
      have t9 := t8.trans s9
      have hl9 := Da.st (a8.st s9) _ _ (imm_tm tl) hl8
      have hr9 := Da.st (a8.st s9) _ _ (imm_tm tr') hr8
      have fin : ∀ (H' : Hp) (t : Addr) (k : Nat), SameB p H H' → SrcAt c H' p → Da K H' l (tmD tl) → Da K H' r' (tmD tr') → H' t = none → k < 4 → Q (.ref t) (L2.upd H' t (.tup [l, .str (opS k), r'])) := fun H' t k s' a' h1 h2 ht hk => by
        refine q _ _ ⟨tl, k, tr'⟩ (s'.trans (Same.b (same_upd ht))) (a'.upd ht) (.tup upd_same (.cons ?_ (.cons (.str _) (.cons ?_ .nil)))) ⟨vok_row okl hsm, hk, vok_row okr hsm⟩
        · exact Da.same (same_upd ht) _ _ h1
        · exact Da.same (same_upd ht) _ _ h2
      refine ⟨_, _, rfl, rfl, _, rfl, ite2 (fun z => ?_) (fun z => ?_)⟩
      · have gG9 := s9 _ _ nGp gG
        have hgp := good_pos (valT tl row) (valT tr' row)
        have hg4 : (goodL (valT tl row) (valT tr' row)).length ≤ 4 := by
          have := List.length_filter_le (fun i => cmpO (valT tl row) i (valT tr' row)) (List.range 4)
          simpa [goodL] using this
        have hlt := fun k => good_lt (a := valT tl row) (b := valT tr' row) (k := k)
        generalize goodL (valT tl row) (valT tr' row) = gl at gG gG9 hgp hg4 hlt
        refine ⟨l, rfl, .ref G, rfl, .ref p, rfl, .ref G, rfl, G, _, rfl, .inl (SqL.of gG9), p, c, _, rfl, a9, by rw [List.length_map]; omega, by rw [List.length_map]; omega, fun H10 g s10 a10 g0 g1 => ?_⟩
        rw [List.length_map] at g1
        obtain ⟨j, rfl⟩ := Int.eq_ofNat_of_zero_le g0
        have hj : j < gl.length := by omega
        refine ⟨G, _, _, .str (opS gl[j]), rfl, rfl, SqL.of (s10 _ _ nGp gG9), atI_nat (j := j) (by simp [hj]), r', rfl, by show 3 ≤ sizeLine; decide, fun t ht => ?_⟩
        exact fin H10 t gl[j] (t9.trans s10) a10 (Da.st (a9.st s10) _ _ (imm_tm tl) hl9) (Da.st (a9.st s10) _ _ (imm_tm tr') hr9) ht (hlt _ (List.getElem_mem hj))
      · refine ⟨l, rfl, .ref L, rfl, .ref p, rfl, p, c, _, rfl, a9, by decide, by decide, fun H10 g s10 a10 g0 g1 => ?_⟩
        obtain ⟨j, rfl⟩ := Int.eq_ofNat_of_zero_le g0
        have hj : j < 4 := by omega
        refine ⟨L, _, _, .str (opS j), rfl, rfl, SqL.of (s10 _ _ npL (s9 _ _ npL L8)), atI_nat (j := j) (ops_at hj), r', rfl, by show 3 ≤ sizeLine; decide, fun t ht => ?_⟩
        exact fin H10 t j (t9.trans s10) a10 (Da.st (a9.st s10) _ _ (imm_tm tl) hl9) (Da.st (a9.st s10) _ _ (imm_tm tr') hr9) ht hj
end
end K12

namespace K12
open PySem PySem.Spec PyProof.Rows L2
def cutL (m : List Int) (lo hi : Option Int) : List Int := (m.drop (HT.sIx m.length 0 lo)).take (HT.sIx m.length m.length hi - HT.sIx m.length 0 lo)
theorem cutV_ints (m : List Int) (lo hi : Option Int) : cutV (m.map V.int) lo hi = (cutL m lo hi).map V.int := by
  unfold cutV cutL
  rw [List.length_map, List.map_take, List.map_drop]
section
variable {P : Program} {w : World} {K : PySem.W.Frag} {mg : Str → Option Value} {base : Heap}
def spSource (K : PySem.W.Frag) : Sp := fun vs H Q _ => ∃ (a : Addr) (ns : List Int), vs = [.ref a] ∧ SqL K H a (ns.map V.int) ∧ ns.length ≤ 63 ∧ ∀ H' p c, Same H H' → SrcAt c H' p → Q (.ref p) H'
theorem d_law_source (B : Bt mg) (T : Top K mg "_law_source" s_law_source ["script"]) : Def P w K mg base "_law_source" 1 ["script"] (spSource K) := by
  refine mk_def T sc_law_source (by rintro _ _ _ _ ⟨_, _, rfl, _⟩; rfl) fun f cdv A outer s H vs Q E hr h => ?_
  obtain ⟨a, ns, rfl, ha, hn, q⟩ := h
  refine ⟨_, (pss_cons (ps_setLc (i := 1) (own := [("cell", 2)]) (g := (gName 2)) (tt := tYes) (te := (tCB yAbs (tCons (tCB yInt (tCons (tVar 2) tNil)) tNil))) rfl sc_law_source.nd rfl rfl (sw_true rfl rfl rfl (by decide +kernel)) (pi_list (pe_slice sl_list (pv 0) po_none (po_some pe_int))) (blkOk_by (own := [("cell", 2)]) (N := N_law_source) (sc := defScope s_law_source) (by decide +kernel)) (fun _ _ _ _ _ => (pg_name (i := 2) sc_law_source.nd rfl (Or.inl rfl))) (fun _ _ _ _ _ => pts_nil) (fun _ _ _ _ _ => (pe_callB call_abs (by rfl) B.m_abs (by decide +kernel) (pa_cons (pe_callTy call_int1 (by rfl) B.m_int (by decide +kernel) (pa_cons (pv 2) pa_nil)) pa_nil))))
      (pss_cons (ps_set (i := 3) sc_law_source.nd rfl (Or.inl rfl) (pe_op op_add (pe_callB (cr_sum rfl) (by rfl) B.m_sum (by decide +kernel) (pa_cons (pv 1) pa_nil)) pe_int))
      (pss_one (ps_ret (pe_disp (pps_cons pe_str (pv 1) (pps_cons pe_str pe_int (pps_cons pe_str pe_int (pps_cons pe_str pe_int (pps_cons pe_str pe_int (pps_cons pe_str pe_int (pps_cons pe_str (pv 3) pps_nil))))))) (by rfl) (by rfl) (fun z => by cases z) (by decide)))))), ?_⟩
  refine ⟨.ref a, rfl, 63, rfl, a, _, rfl, ha, fun S hS => ?_⟩
  rw [cutV_ints]
  have hlen : (cutL ns none (some 63)).length ≤ 63 := by
    unfold cutL
    rw [List.length_take, List.length_drop]
    omega
  generalize cutL ns none (some 63) = ms at hlen
  have eS : L2.upd H S (.lst (ms.map V.int)) S = some (.lst (ms.map V.int)) := upd_same
  have e0 : Same H (L2.upd H S (.lst (ms.map V.int))) := same_upd hS
  generalize L2.upd H S (.lst (ms.map V.int)) = H0 at eS e0 ⊢
  refine ⟨S, rfl, ⟨_, SqL.of eS⟩, fun D hD => ?_⟩
  refine lc_val (walk_list (K := K)) hD (by rw [List.length_map]; omega) (fun H1 e => SqL.of (e _ _ eS)) ((ms.map fun x => if x < 0 then -x else x).map V.int) (by simp) (fun i x H1 H2 Q' hi e y k => ?_) (fun H1 e eD => ?_)
  · obtain ⟨rfl, hxi⟩ := y
    obtain ⟨c, hc, rfl⟩ := at_map hxi
    refine ⟨rfl, .int c, rfl, .inl ⟨c, rfl, c, rfl, k _ _ (Same.refl _) ?_⟩⟩
    rw [List.map_map, List.getElem?_map, hc]
    rfl
  · refine ⟨.ref D, rfl, D, _, rfl, SqL.of eD, _, _, rfl, rfl, fun p hp => ?_⟩
    have npD : D ≠ p := ne_of_none eD hp
    refine ⟨.ref D, rfl, _, rfl, upd_same, srcD D 0 0 0 0 0 _, rfl, by show 7 ≤ 15; decide, ?_⟩
    refine q _ p D ((e0.trans e).trans ?_) ⟨ms.map fun x => if x < 0 then -x else x, 0, 0, 0, 0, 0, (ms.map fun x => if x < 0 then -x else x).sum + 101, ?_, ?_, fun x hx => ?_, Int.le_refl _, Int.le_refl _⟩
    · rw [upd_upd]
      exact same_upd hp
    · rw [upd_same]
      rfl
    · rw [upd_upd, upd_ne npD]
      exact eD
    · obtain ⟨y, _, rfl⟩ := List.mem_map.mp hx
      show 0 ≤ (if y < 0 then -y else y)
      split <;> omega
theorem new_obj {H : Hp} {p : Addr} {o : HO} (h : H p = none) : Same H (L2.upd H p o) ∧ L2.upd H p o p = some o := ⟨same_upd h, upd_same⟩
/-- the tuple (a, ((b, c),)) as it is made -/
theorem one_made {K : PySem.W.Frag} {H : Hp} {a b c : Int} {t1 t2 t3 : Addr} (h1 : H t1 = none) (h2 : L2.upd H t1 (.tup [.int b, .int c]) t2 = none) (h3 : L2.upd (L2.upd H t1 (.tup [.int b, .int c])) t2 (.tup [.ref t1]) t3 = none) :
    Same H (L2.upd (L2.upd (L2.upd H t1 (.tup [.int b, .int c])) t2 (.tup [.ref t1])) t3 (.tup [.int a, .ref t2])) ∧ Da K (L2.upd (L2.upd (L2.upd H t1 (.tup [.int b, .int c])) t2 (.tup [.ref t1])) t3 (.tup [.int a, .ref t2])) (.ref t3) (tmD (a, [(b, c)])) :=
  ⟨((same_upd h1).trans (same_upd h2)).trans (same_upd h3), da_tm upd_same (Da.same (same_upd h3) _ _ (.tup upd_same (.cons (Da.same (same_upd h2) _ _ (da_pr upd_same)) .nil)))⟩
/-- (a, ()) -/
theorem nil_made {K : PySem.W.Frag} {H : Hp} {a : Int} {t1 t2 : Addr} (h1 : H t1 = none) (h2 : L2.upd H t1 (.tup []) t2 = none) :
    Same H (L2.upd (L2.upd H t1 (.tup [])) t2 (.tup [.int a, .ref t1])) ∧ Da K (L2.upd (L2.upd H t1 (.tup [])) t2 (.tup [.int a, .ref t1])) (.ref t2) (tmD (a, [])) :=
  ⟨(same_upd h1).trans (same_upd h2), da_tm upd_same (Da.same (same_upd h2) _ _ (.tup upd_same .nil))⟩
/-- (a, ((b, c), (d, e))) -/
theorem two_made {K : PySem.W.Frag} {H : Hp} {a b c d e : Int} {t0 t1 t2 t3 : Addr} (h0 : H t0 = none) (h1 : L2.upd H t0 (.tup [.int b, .int c]) t1 = none) (h2 : L2.upd (L2.upd H t0 (.tup [.int b, .int c])) t1 (.tup [.int d, .int e]) t2 = none)
    (h3 : L2.upd (L2.upd (L2.upd H t0 (.tup [.int b, .int c])) t1 (.tup [.int d, .int e])) t2 (.tup [.ref t0, .ref t1]) t3 = none) :
    Same H (L2.upd (L2.upd (L2.upd (L2.upd H t0 (.tup [.int b, .int c])) t1 (.tup [.int d, .int e])) t2 (.tup [.ref t0, .ref t1])) t3 (.tup [.int a, .ref t2])) ∧
    Da K (L2.upd (L2.upd (L2.upd (L2.upd H t0 (.tup [.int b, .int c])) t1 (.tup [.int d, .int e])) t2 (.tup [.ref t0, .ref t1])) t3 (.tup [.int a, .ref t2])) (.ref t3) (tmD (a, [(b, c), (d, e)])) :=
  ⟨(((same_upd h0).trans (same_upd h1)).trans (same_upd h2)).trans (same_upd h3), da_tm upd_same (Da.same (same_upd h3) _ _ (.tup upd_same (.cons (Da.same ((same_upd h1).trans (same_upd h2)) _ _ (da_pr upd_same)) (.cons (Da.same (same_upd h2) _ _ (da_pr upd_same)) .nil))))⟩
def spOnes (K : PySem.W.Frag) : Sp := fun vs H Q _ => ∃ (p c : Addr) (v : V) (ts : List Tm), vs = [.ref p, v] ∧ SrcAt c H p ∧ Da K H v (tsD ts) ∧ (∀ t ∈ ts, t.2.length ≤ 1000) ∧ ts.length ≤ 1000 ∧ ∀ H', SameB p H H' → SrcAt c H' p → Q (.bl true) H'
theorem d_law_plain_ones (B : Bt mg) (T : Top K mg "_law_plain_ones" s_law_plain_ones ["source", "exprs"]) (D_law_draw : Def P w K mg base "_law_draw" 2 ["source", "many"] (spDraw K)) (D_law_number : Def P w K mg base "_law_number" 3 ["source"] spNumber) (D_law_factor : Def P w K mg base "_law_factor" 4 ["source", "last"] spFactor) (D_law_same : Def P w K mg base "_law_same" 5 ["told", "due"] (spSame K 4))
    (Dcol : Def P w K mg base "col" 1 ["column"] (spCol K)) (Dcol_column : DefK P w K mg base "col" 1 ["column"] ["column"] kwAp (spCol K)) (Dnum : Def P w K mg base "num" 1 ["number"] (spNum K)) (Dnum_number : DefK P w K mg base "num" 1 ["number"] ["number"] kwAp (spNum K)) (Dis_plain : Def P w K mg base "is_plain" 1 ["term"] (spPlain K)) (Dis_plain_term : DefK P w K mg base "is_plain" 1 ["term"] ["term"] kwAp (spPlain K)) (D_law_is_plain : Def P w K mg base "_law_is_plain" 1 ["expr"] (spPlain K)) :
    Def P w K mg base "_law_plain_ones" 6 ["source", "exprs"] (spOnes K) := by
  refine mk_def T sc_law_plain_ones (by rintro _ _ _ _ ⟨_, _, _, _, rfl, _⟩; rfl) fun f cdv A outer s H vs Q E hr h => ?_
  obtain ⟨p, c, v, ts, rfl, hs, hv, hts, hn, q⟩ := h
  refine ⟨_, (pss_cons (ps_set (i := 2) sc_law_plain_ones.nd rfl (Or.inl rfl) (pe_def D_law_draw (hr.mono (by first | decide | omega)) (by rfl) (pa_cons (pv 0) (pa_cons pe_int pa_nil))))
      (pss_cons (ps_set (i := 3) sc_law_plain_ones.nd rfl (Or.inl rfl) (pe_op op_add (pe_op op_add (pv 2) pe_int) (pe_def D_law_draw (hr.mono (by first | decide | omega)) (by rfl) (pa_cons (pv 0) (pa_cons (pe_op op_sub pe_int (pv 2)) pa_nil)))))
      (pss_cons (ps_set (i := 4) sc_law_plain_ones.nd rfl (Or.inl rfl) (pe_def D_law_number (hr.mono (by first | decide | omega)) (by rfl) (pa_cons (pv 0) pa_nil)))
      (pss_cons (ps_set (i := 5) sc_law_plain_ones.nd rfl (Or.inl rfl) (pe_def D_law_factor (hr.mono (by first | decide | omega)) (by rfl) (pa_cons (pv 0) (pa_cons pe_int pa_nil))))
      (pss_cons (ps_if (pt_not (pt_val (pe_def D_law_same (hr.mono (by first | decide | omega)) (by rfl) (pa_cons (pe_def Dcol (hr.mono (by first | decide | omega)) (by rfl) (pa_cons (pv 3) pa_nil)) (pa_cons (pe_tup (pa_cons pe_int (pa_cons (pe_tup (pa_cons (pe_tup (pa_cons (pv 3) (pa_cons pe_int pa_nil))) pa_nil)) pa_nil))) pa_nil))))) (pss_one (ps_ret pe_bl)) pss_nil)
      (pss_cons (ps_if (pt_not (pt_val (pe_def D_law_same (hr.mono (by first | decide | omega)) (by rfl) (pa_cons (pe_defK0 Dcol_column (hr.mono (by first | decide | omega)) (by rfl) (pk_cons (pv 2) pk_nil)) (pa_cons (pe_tup (pa_cons pe_int (pa_cons (pe_tup (pa_cons (pe_tup (pa_cons (pv 2) (pa_cons pe_int pa_nil))) pa_nil)) pa_nil))) pa_nil))))) (pss_one (ps_ret pe_bl)) pss_nil)
      (pss_cons (ps_if (pw_or (pt_not (pt_val (pe_def D_law_same (hr.mono (by first | decide | omega)) (by rfl) (pa_cons (pe_def Dnum (hr.mono (by first | decide | omega)) (by rfl) (pa_cons (pv 4) pa_nil)) (pa_cons (pe_tup (pa_cons (pv 4) (pa_cons (pe_tup pa_nil) pa_nil))) pa_nil))))) (pw_or1 (pt_not (pt_val (pe_def D_law_same (hr.mono (by first | decide | omega)) (by rfl) (pa_cons (pe_defK0 Dnum_number (hr.mono (by first | decide | omega)) (by rfl) (pk_cons pe_int pk_nil)) (pa_cons (pe_tup (pa_cons pe_int (pa_cons (pe_tup pa_nil) pa_nil))) pa_nil))))))).pt (pss_one (ps_ret pe_bl)) pss_nil)
      (pss_cons (ps_set (i := 6) sc_law_plain_ones.nd rfl (Or.inl rfl) (pe_lst (pa_cons (pe_tup (pa_cons pe_int (pa_cons (pe_tup (pa_cons (pe_tup (pa_cons (pv 3) (pa_cons pe_int pa_nil))) pa_nil)) pa_nil))) (pa_cons (pe_tup (pa_cons (pv 4) (pa_cons (pe_tup pa_nil) pa_nil))) (pa_cons (pe_tup (pa_cons (pv 4) (pa_cons (pe_tup (pa_cons (pe_tup (pa_cons (pv 3) (pa_cons pe_int pa_nil))) pa_nil)) pa_nil))) (pa_cons (pe_tup (pa_cons pe_int (pa_cons (pe_tup (pa_cons (pe_tup (pa_cons (pv 2) (pa_cons (pv 5) pa_nil))) pa_nil)) pa_nil))) pa_nil))))))
      (pss_cons (ps_set (i := 6) sc_law_plain_ones.nd rfl (Or.inl rfl) (pe_op op_cat (pv 6) (pe_lst (pa_cons (pe_tup (pa_cons pe_int (pa_cons (pe_tup (pa_cons (pe_tup (pa_cons (pv 2) (pa_cons pe_int pa_nil))) (pa_cons (pe_tup (pa_cons (pv 3) (pa_cons (pv 5) pa_nil))) pa_nil))) pa_nil))) (pa_cons (pe_tup (pa_cons (pv 4) (pa_cons (pe_tup (pa_cons (pe_tup (pa_cons (pv 2) (pa_cons (pv 5) pa_nil))) (pa_cons (pe_tup (pa_cons (pv 3) (pa_cons pe_int pa_nil))) pa_nil))) pa_nil))) pa_nil)))))
      (pss_cons (ps_for PassesOwn.never rfl (pi_list (pe_op op_cat (pv 6) (pe_callTy call_list_of (by rfl) B.m_list (by decide +kernel) (pa_cons (pv 1) pa_nil)))) (pg_name (i := 7) sc_law_plain_ones.nd rfl (Or.inl rfl)) (pss_cons (ps_set (i := 8) sc_law_plain_ones.nd rfl (Or.inl rfl) (pe_def D_law_is_plain (hr.mono (by first | decide | omega)) (by rfl) (pa_cons (pv 7) pa_nil)))
      (pss_one (ps_if (pw_or (pt_not (pt_val (pe_def D_law_same (hr.mono (by first | decide | omega)) (by rfl) (pa_cons (pe_def Dis_plain (hr.mono (by first | decide | omega)) (by rfl) (pa_cons (pv 7) pa_nil)) (pa_cons (pv 8) pa_nil))))) (pw_or1 (pt_not (pt_val (pe_def D_law_same (hr.mono (by first | decide | omega)) (by rfl) (pa_cons (pe_defK0 Dis_plain_term (hr.mono (by first | decide | omega)) (by rfl) (pk_cons (pv 7) pk_nil)) (pa_cons (pv 8) pa_nil))))))).pt (pss_one (ps_ret pe_bl)) pss_nil))))
      (pss_one (ps_ret pe_bl)))))))))))), ?_⟩
  have imv : imm (tsD ts) = true := imm_tms ts
  refine ⟨.ref p, rfl, p, c, _, rfl, hs, by decide, by decide, fun H1 pl s1 a1 p0 p1 => ?_⟩
  refine ⟨.int pl, rfl, _, _, rfl, rfl, .ref p, rfl, .int pl, rfl, _, _, rfl, rfl, p, c, _, rfl, a1, by omega, by omega, fun H2 d s2 a2 d0 d1 => ⟨_, _, rfl, rfl, ?_⟩⟩
  refine ⟨.ref p, rfl, p, c, rfl, a2, fun H3 am s3 a3 _ => ?_⟩
  refine ⟨.ref p, rfl, p, c, 0, rfl, a3, small0, fun H4 fc s4 a4 _ _ => ?_⟩
  have t4 := ((s1.trans s2).trans s3).trans s4
  have hv4 := Da.st (hs.st t4) _ _ imv hv
  clear s1 s2 s3 s4 a1 a2 a3
  have qq : ∀ H', Same H4 H' → Q (.bl true) H' := fun H' e => q H' (t4.trans (Same.b e)) (a4.same e)
  clear q
  generalize hfar : pl + 1 + d = far
  have ok1 : ∀ t : Tm, t.2.length ≤ 1000 → okD 4 (tmD t) = true := fun t h => okD_tm h
  -- col(far), col(column=place)
  refine ⟨.int far, by rw [← hfar]; rfl, far, rfl, fun H5 y e5 hy => ?_⟩
  refine ⟨.int far, by rw [← hfar]; rfl, by show 2 ≤ sizeLine; decide, fun t1 h1 => ⟨by show 1 ≤ sizeLine; decide, fun t2 h2 => ⟨by show 2 ≤ sizeLine; decide, fun t3 h3 => ?_⟩⟩⟩
  obtain ⟨m1, m2⟩ := one_made (K := K) (a := 0) h1 h2 h3
  refine ⟨y, _, _, rfl, Da.same m1 _ _ hy, m2, ok1 _ (by show 1 ≤ 1000; decide), fun H6 e6 => ⟨_, rfl, iteF ?_⟩⟩
  have f6 := (e5.trans m1).trans e6
  clear m1 m2 e5 e6 hy
  refine ⟨.int pl, rfl, pl, rfl, fun H7 y e7 hy => ?_⟩
  refine ⟨.int pl, rfl, by show 2 ≤ sizeLine; decide, fun t1 h1 => ⟨by show 1 ≤ sizeLine; decide, fun t2 h2 => ⟨by show 2 ≤ sizeLine; decide, fun t3 h3 => ?_⟩⟩⟩
  obtain ⟨m1, m2⟩ := one_made (K := K) (a := 0) h1 h2 h3
  refine ⟨y, _, _, rfl, Da.same m1 _ _ hy, m2, ok1 _ (by show 1 ≤ 1000; decide), fun H8 e8 => ⟨_, rfl, iteF ?_⟩⟩
  have f8 := ((f6.trans e7).trans m1).trans e8
  clear m1 m2 e7 e8 f6 hy
  -- num(amount), num(number=0)
  refine ⟨.int am, rfl, am, rfl, fun H9 y e9 hy => ?_⟩
  refine ⟨.int am, rfl, by show 0 ≤ sizeLine; decide, fun t1 h1 => ⟨by show 2 ≤ sizeLine; decide, fun t2 h2 => ?_⟩⟩
  obtain ⟨m1, m2⟩ := nil_made (K := K) (a := am) h1 h2
  refine ⟨y, _, _, rfl, Da.same m1 _ _ hy, m2, ok1 _ (by show 0 ≤ 1000; decide), fun H10 e10 => ⟨_, rfl, iteF ?_⟩⟩
  have f10 := ((f8.trans e9).trans m1).trans e10
  clear m1 m2 e9 e10 f8 hy
  refine ⟨0, rfl, fun H11 y e11 hy => ?_⟩
  refine ⟨by show 0 ≤ sizeLine; decide, fun t1 h1 => ⟨by show 2 ≤ sizeLine; decide, fun t2 h2 => ?_⟩⟩
  obtain ⟨m1, m2⟩ := nil_made (K := K) (a := 0) h1 h2
  refine ⟨y, _, _, rfl, Da.same m1 _ _ hy, m2, ok1 _ (by show 0 ≤ 1000; decide), fun H12 e12 => ⟨_, rfl, iteF ?_⟩⟩
  have f12 := ((f10.trans e11).trans m1).trans e12
  clear m1 m2 e11 e12 f10 hy
  have hv12 := Da.same f12 _ _ hv4
  -- the terms that are asked
  refine ⟨.int far, by rw [← hfar]; rfl, by show 2 ≤ sizeLine; decide, fun t1 h1 => ⟨by show 1 ≤ sizeLine; decide, fun t2 h2 => ⟨by show 2 ≤ sizeLine; decide, fun t3 h3 => ?_⟩⟩⟩
  obtain ⟨m1, w1⟩ := one_made (K := K) (a := 0) h1 h2 h3
  refine ⟨.int am, rfl, by show 0 ≤ sizeLine; decide, fun t4 h4 => ⟨by show 2 ≤ sizeLine; decide, fun t5 h5 => ?_⟩⟩
  obtain ⟨m2, w2⟩ := nil_made (K := K) (a := am) h4 h5
  refine ⟨.int am, rfl, .int far, by rw [← hfar]; rfl, by show 2 ≤ sizeLine; decide, fun t6 h6 => ⟨by show 1 ≤ sizeLine; decide, fun t7 h7 => ⟨by show 2 ≤ sizeLine; decide, fun t8 h8 => ?_⟩⟩⟩
  obtain ⟨m3, w3⟩ := one_made (K := K) (a := am) h6 h7 h8
  refine ⟨.int pl, rfl, .int fc, rfl, by show 2 ≤ sizeLine; decide, fun t9 h9 => ⟨by show 1 ≤ sizeLine; decide, fun t10 h10 => ⟨by show 2 ≤ sizeLine; decide, fun t11 h11 => ?_⟩⟩⟩
  obtain ⟨m4, w4⟩ := one_made (K := K) (a := 0) h9 h10 h11
  have w1' := Da.same ((m2.trans m3).trans m4) _ _ w1
  have w2' := Da.same (m3.trans m4) _ _ w2
  have w3' := Da.same m4 _ _ w3
  have m14 := ((m1.trans m2).trans m3).trans m4
  clear m1 m2 m3 m4 w1 w2 w3
  have hacc : DaAll K _ [V.ref t3, .ref t5, .ref t8, .ref t11] ([((0, [(far, 1)]) : Tm), (am, []), (am, [(far, 1)]), (0, [(pl, fc)])].map tmD) := .cons w1' (.cons w2' (.cons w3' (.cons w4 .nil)))
  clear w1' w2' w3' w4
  refine ⟨by show 4 ≤ sizeLine; decide, fun N hN => ?_⟩
  have hacc2 := Da.sameAll (same_upd hN (o := .lst [V.ref t3, .ref t5, .ref t8, .ref t11])) _ _ hacc
  have m15 := m14.trans (same_upd hN (o := .lst [V.ref t3, .ref t5, .ref t8, .ref t11]))
  clear hacc m14
  have hNN := upd_same (H := L2.upd (L2.upd (L2.upd (L2.upd (L2.upd (L2.upd (L2.upd (L2.upd (L2.upd (L2.upd (L2.upd H12 t1 (.tup [.int far, .int 1])) t2 (.tup [.ref t1])) t3 (.tup [.int 0, .ref t2])) t4 (.tup [])) t5 (.tup [.int am, .ref t4])) t6 (.tup [.int far, .int 1])) t7 (.tup [.ref t6])) t8 (.tup [.int am, .ref t7])) t9 (.tup [.int pl, .int fc])) t10 (.tup [.ref t9])) t11 (.tup [.int 0, .ref t10])) (a := N) (o := .lst [V.ref t3, .ref t5, .ref t8, .ref t11])
  generalize L2.upd (L2.upd (L2.upd (L2.upd (L2.upd (L2.upd (L2.upd (L2.upd (L2.upd (L2.upd (L2.upd (L2.upd H12 t1 (.tup [.int far, .int 1])) t2 (.tup [.ref t1])) t3 (.tup [.int 0, .ref t2])) t4 (.tup [])) t5 (.tup [.int am, .ref t4])) t6 (.tup [.int far, .int 1])) t7 (.tup [.ref t6])) t8 (.tup [.int am, .ref t7])) t9 (.tup [.int pl, .int fc])) t10 (.tup [.ref t9])) t11 (.tup [.int 0, .ref t10])) N (.lst [V.ref t3, .ref t5, .ref t8, .ref t11]) = H13 at hNN hacc2 m15 ⊢
  have f13 := f12.trans m15
  clear f12
  have hv13 := Da.same m15 _ _ hv12
  clear m15 hv12 hv4
  refine ⟨.ref N, rfl, .int pl, rfl, by show 2 ≤ sizeLine; decide, fun t1 h1 => ⟨.int far, by rw [← hfar]; rfl, .int fc, rfl, by show 2 ≤ sizeLine; decide, fun t2 h2 => ⟨by show 2 ≤ sizeLine; decide, fun t3' h3 => ⟨by show 2 ≤ sizeLine; decide, fun t4 h4 => ?_⟩⟩⟩⟩
  obtain ⟨m1, w1⟩ := two_made (K := K) (a := 0) h1 h2 h3 h4
  refine ⟨.int am, rfl, .int pl, rfl, .int fc, rfl, by show 2 ≤ sizeLine; decide, fun t5' h5 => ⟨.int far, by rw [← hfar]; rfl, by show 2 ≤ sizeLine; decide, fun t6 h6 => ⟨by show 2 ≤ sizeLine; decide, fun t7 h7 => ⟨by show 2 ≤ sizeLine; decide, fun t8' h8 => ?_⟩⟩⟩⟩
  obtain ⟨m2, w2⟩ := two_made (K := K) (a := am) h5 h6 h7 h8
  refine ⟨by show 2 ≤ sizeLine; decide, fun N2 hN2 => ?_⟩
  have m3 := same_upd hN2 (o := .lst [V.ref t4, .ref t8'])
  have m13 := (m1.trans m2).trans m3
  have hnew : DaAll K _ [V.ref t4, .ref t8'] ([((0, [(pl, 1), (far, fc)]) : Tm), (am, [(pl, fc), (far, 1)])].map tmD) := .cons (Da.same (m2.trans m3) _ _ w1) (.cons (Da.same m3 _ _ w2) .nil)
  have hold := Da.sameAll m13 _ _ hacc2
  have hNN2 := m13 _ _ hNN
  have hvE := Da.same m13 _ _ hv13
  have fE := f13.trans m13
  clear m1 m2 m13 w1 w2 hacc2 hNN hv13 f13
  refine ⟨N, N2, _, _, rfl, rfl, hNN2, upd_same, by show 6 ≤ sizeLine; decide, fun N3 hN3 => ?_⟩
  obtain ⟨eN3, hN33⟩ := new_obj hN3 (o := .lst ([V.ref t3, .ref t5, .ref t8, .ref t11] ++ [V.ref t4, .ref t8']))
  have hall := DaAll.append (Da.sameAll eN3 _ _ hnew) (Da.sameAll eN3 _ _ hold)
  have hv3 := Da.same eN3 _ _ hvE
  have f3 := fE.trans eN3
  rw [← List.map_append] at hall
  obtain ⟨va, vxs, rfl, hva, hvx⟩ := Da.tsI hv3
  refine ⟨.ref N3, rfl, .ref va, rfl, va, _, rfl, .inr (SqT.of hva), fun LS hLS => ?_⟩
  obtain ⟨eLS, hLS2⟩ := new_obj hLS (o := .lst vxs)
  have lvx : vxs.length = ts.length := by rw [hvx.length, List.length_map]
  refine ⟨N3, LS, _, _, rfl, rfl, eLS _ _ hN33, hLS2, Nat.le_trans (show 6 + vxs.length ≤ 1006 by omega) (by decide), fun F hF => ?_⟩
  obtain ⟨eF, hF2⟩ := new_obj hF (o := .lst (([V.ref t3, .ref t5, .ref t8, .ref t11] ++ [V.ref t4, .ref t8']) ++ vxs))
  have hallF := DaAll.append (Da.sameAll (eLS.trans eF) _ _ hvx) (Da.sameAll (eLS.trans eF) _ _ hall)
  rw [← List.map_append] at hallF
  have fF := (f3.trans eLS).trans eF
  have hsmall : ∀ t ∈ ([((0, [(far, 1)]) : Tm), (am, []), (am, [(far, 1)]), (0, [(pl, fc)])] ++ [((0, [(pl, 1), (far, fc)]) : Tm), (am, [(pl, fc), (far, 1)])]) ++ ts, t.2.length ≤ 1000 := by
    intro t ht
    rcases List.mem_append.mp ht with ht | ht
    · simp only [List.cons_append, List.nil_append, List.mem_cons, List.not_mem_nil, or_false] at ht
      rcases ht with rfl | rfl | rfl | rfl | rfl | rfl <;> simp
    · exact hts t ht
  generalize ([((0, [(far, 1)]) : Tm), (am, []), (am, [(far, 1)]), (0, [(pl, fc)])] ++ [((0, [(pl, 1), (far, fc)]) : Tm), (am, [(pl, fc), (far, 1)])]) ++ ts = us at hallF hsmall
  generalize ([V.ref t3, .ref t5, .ref t8, .ref t11] ++ [V.ref t4, .ref t8']) ++ vxs = ws at hallF hF2 eF fF ⊢
  clear hall hv3 hvE f3 fE hnew hold hNN2 m3 hvx
  refine ⟨F, rfl, ⟨_, SqL.of hF2⟩, ?_⟩
  have hF5 := hF2
  refine for_list (xs := ws) (fun i σ H' => ∃ y7 y8, σ = [some (.ref p), some (.ref va), some (.int pl), some (.int far), some (.int am), some (.int fc), some (.ref N3), y7, y8] ∧ (∀ a o, L2.upd _ F (.lst ws) a = some o → H' a = some o)) ⟨none, none, by rw [← hfar]; rfl, fun _ _ e => e⟩ (fun i σ H' _ pv' => ?_) (fun i x σ H' hxi pv' => ?_) (fun σ H' pv' => ?_)
  · obtain ⟨_, _, _, e⟩ := pv'
    exact SqL.of (e _ _ hF5)
  · obtain ⟨y7, y8, rfl, e⟩ := pv'
    have e' : Same _ H' := e
    obtain ⟨dd, hd, hdx⟩ := hallF.get hxi
    obtain ⟨t0, ht0, rfl⟩ := at_map hd
    have hlen0 := hsmall t0 (List.mem_of_getElem? ht0)
    have hx0 := Da.same e' _ _ hdx
    refine ⟨x, rfl, x, t0, rfl, hx0, hlen0, fun G1 g1 => ?_⟩
    refine ⟨x, rfl, x, t0, rfl, Da.same g1 _ _ hx0, hlen0, fun G2 g2 => ?_⟩
    refine ⟨_, rfl, _, _, .bool (plainB t0), rfl, .bl _, .bl _, rfl, fun G3 g3 => ⟨_, rfl, iteF ?_⟩⟩
    refine ⟨x, rfl, x, t0, rfl, Da.same ((g1.trans g2).trans g3) _ _ hx0, hlen0, fun G4 g4 => ?_⟩
    refine ⟨_, rfl, _, _, .bool (plainB t0), rfl, .bl _, .bl _, rfl, fun G5 g5 => ⟨_, rfl, iteF ?_⟩⟩
    exact ⟨_, _, rfl, ((((e'.trans g1).trans g2).trans g3).trans g4).trans g5⟩
  · obtain ⟨y7, y8, rfl, e⟩ := pv'
    exact qq _ (fF.trans e)
end
end K12

namespace K12
open PySem PySem.Spec PyProof.Rows L2
theorem imm_ts (ts : List Tm) : imm (tsD ts) = true := imm_tms ts
/-- exprs + (outer,) -/
theorem cat_made {K : PySem.W.Frag} {H : Hp} {a t : Addr} {xs : List V} {o : V} {ts : List Tm} {ot : Tm} {Q : VK} (ha : H a = some (.tup xs)) (hx : DaAll K H xs (ts.map tmD)) (ho : Da K H o (tmD ot)) (ht : H t = some (.tup [o])) (hn : ts.length ≤ 1000)
    (q : ∀ (H' : Hp) (r : V), Same H H' → Da K H' r (tsD (ts ++ [ot])) → Q r H') : rCatA K (.ref a) (.ref t) H Q := by
  have hl : xs.length = ts.length := by rw [hx.length, List.length_map]
  refine ⟨a, t, _, _, rfl, rfl, SqT.of ha, SqT.of ht, Nat.le_trans (show xs.length + 1 ≤ 1001 by omega) (by decide), fun e => ?_, fun _ e => (by cases e), fun _ _ p hp => ?_⟩
  · have : ts = [] := List.eq_nil_of_length_eq_zero (by rw [← hl, e]; rfl)
    subst this
    exact q H _ (Same.refl _) (.tup ht (.cons ho .nil))
  · refine q _ _ (same_upd hp) (.tup upd_same ?_)
    rw [List.map_append]
    exact DaAll.snoc (Da.same (same_upd hp) _ _ ho) (Da.sameAll (same_upd hp) _ _ hx)
section
variable {P : Program} {w : World} {K : PySem.W.Frag} {mg : Str → Option Value} {base : Heap}
def spWide (K : PySem.W.Frag) : Sp := fun vs H Q _ => ∃ (p c : Addr), vs = [.ref p] ∧ SrcAt c H p ∧ ∀ H', SameB p H H' → Q (.bl true) H'
theorem d_law_wide (B : Bt mg) (T : Top K mg "_law_wide" s_law_wide ["source"]) (D_law_draw : Def P w K mg base "_law_draw" 2 ["source", "many"] (spDraw K)) (D_law_expr : Def P w K mg base "_law_expr" 6 ["source", "width"] (spExpr K)) (D_law_exprs : Def P w K mg base "_law_exprs" 7 ["source", "many", "width"] (spExprs K)) (D_law_composes : Def P w K mg base "_law_composes" 6 ["outer", "exprs"] (spComposes K)) (D_law_plain_ones : Def P w K mg base "_law_plain_ones" 6 ["source", "exprs"] (spOnes K)) : Def P w K mg base "_law_wide" 8 ["source"] (spWide K) := by
  refine mk_def T sc_law_wide (by rintro _ _ _ _ ⟨_, _, rfl, _⟩; rfl) fun f cdv A outer s H vs Q E hr h => ?_
  obtain ⟨p, c, rfl, hs, q⟩ := h
  refine ⟨_, (pss_cons (ps_set (i := 1) sc_law_wide.nd rfl (Or.inr rfl) (pe_def D_law_exprs (hr.mono (by first | decide | omega)) (by rfl) (pa_cons (pv 0) (pa_cons (pe_op op_add pe_int (pe_def D_law_draw (hr.mono (by first | decide | omega)) (by rfl) (pa_cons (pv 0) (pa_cons pe_int pa_nil)))) (pa_cons pe_int pa_nil)))))
      (pss_cons (ps_set (i := 2) sc_law_wide.nd rfl (Or.inr rfl) (pe_def D_law_draw (hr.mono (by first | decide | omega)) (by rfl) (pa_cons (pv 0) (pa_cons pe_int pa_nil))))
      (pss_cons (ps_set (i := 3) sc_law_wide.nd rfl (Or.inl rfl) (pe_callTy call_tuple_of (by rfl) B.m_tuple (by decide +kernel) (pa_cons (pe_lc (own := [("k", 4)]) (g := (gName 4)) (tt := tYes) (te := (tOp (rIxT K) (tVar 1) (tOp yMod (tCB yInt (tCons (tOp yAdd (tVar 2) (tOp yMul (tVar 4) (tVar 4))) tNil)) (tCB (yLen K) (tCons (tVar 1) tNil))))) rfl sc_law_wide.nd (pi_range1 (by rfl) B.m_range (pa_cons pe_int pa_nil)) (blkOk_by (own := [("k", 4)]) (N := N_law_wide) (sc := defScope s_law_wide) (by decide +kernel)) (fun _ _ _ _ _ => (pg_name (i := 4) sc_law_wide.nd rfl (Or.inl rfl))) (fun _ _ _ _ _ => pts_nil) (fun _ _ _ _ _ => (pe_ix ix_tup (pv 1) (pe_op op_mod (pe_callTy call_int1 (by rfl) B.m_int (by decide +kernel) (pa_cons (pe_op op_add (pv 2) (pe_op op_mul (pv 4) (pv 4))) pa_nil)) (pe_callB call_len_seq (by rfl) B.m_len PySem.boot_len (pa_cons (pv 1) pa_nil))) (fun _ _ => rfl)))) pa_nil)))
      (pss_cons (ps_set (i := 5) sc_law_wide.nd rfl (Or.inl rfl) (pe_def D_law_expr (hr.mono (by first | decide | omega)) (by rfl) (pa_cons (pv 0) (pa_cons pe_int pa_nil))))
      (pss_one (ps_ret (pe_and (pe_def D_law_composes (hr.mono (by first | decide | omega)) (by rfl) (pa_cons (pv 5) (pa_cons (pv 3) pa_nil))) (pe_one (pe_def D_law_plain_ones (hr.mono (by first | decide | omega)) (by rfl) (pa_cons (pv 0) (pa_cons (pe_op op_catA (pv 1) (pe_tup (pa_cons (pv 5) pa_nil))) pa_nil))))))))))), ?_⟩
  refine ⟨.ref p, rfl, .ref p, rfl, p, c, _, rfl, hs, by decide, by decide, fun H1 m s1 a1 m0 m1 => ⟨_, _, rfl, rfl, p, c, _, _, rfl, a1, by omega, by omega, by decide, fun H2 v ts s2 a2 hv hl hts => ?_⟩⟩
  refine ⟨.ref p, rfl, p, c, _, rfl, a2, by decide, by decide, fun H3 fi s3 a3 f0 f1 => ?_⟩
  have hv3 := Da.st (a2.st s3) _ _ (imm_ts ts) hv
  obtain ⟨va, vxs, rfl, hva, hvx⟩ := Da.tsI hv3
  have lvx : vxs.length = ts.length := by rw [hvx.length, List.length_map]
  have lpos : 0 < ts.length := by omega
  refine ⟨100, rfl, by decide, by decide, fun D hD => ?_⟩
  have ixb : ∀ k : Nat, ∃ j : Nat, (fi + (0 + (k : Int)) * (0 + (k : Int))) % (vxs.length : Int) = (j : Int) ∧ j < ts.length := fun k => by
    have h0 := Int.emod_nonneg (fi + (0 + (k : Int)) * (0 + (k : Int))) (b := (vxs.length : Int)) (by omega)
    have h1 := Int.emod_lt_of_pos (fi + (0 + (k : Int)) * (0 + (k : Int))) (b := (vxs.length : Int)) (by omega)
    obtain ⟨j, hj⟩ := Int.eq_ofNat_of_zero_le h0
    exact ⟨j, hj, by omega⟩
  let es : List Tm := (List.range 100).map fun k : Nat => ts.getD ((fi + (0 + (k : Int)) * (0 + (k : Int))) % (vxs.length : Int)).toNat (0, [])
  have esl : es.length = 100 := by simp [es]
  have esok : ∀ t ∈ es, TmOk 100 t := fun t ht => by
    obtain ⟨k, _, rfl⟩ := List.mem_map.mp ht
    obtain ⟨j, ej, hj⟩ := ixb k
    rw [ej, Int.toNat_natCast, List.getD_eq_getElem?_getD, List.getElem?_eq_getElem hj]
    exact hts _ (List.getElem_mem hj)
  refine lc_dat (K := K) (walk_range (lo := 0) (n := 100)) hD (by decide) (fun _ _ => True.intro) (es.map tmD) (by rw [List.length_map, esl]) (imm_tms es) (fun i x H4 H5 Q' hi e4 y k => ?_) (fun H4 acc e4 eD hacc => ?_)
  · obtain ⟨rfl, rfl⟩ := y
    obtain ⟨j, ej, hj⟩ := ixb i
    obtain ⟨x0, hx0, hx1⟩ := hvx.at (i := j) (d := tmD ts[j]) (by simp [hj])
    refine ⟨rfl, .ref va, rfl, .int fi, rfl, .int (0 + (i : Int)), rfl, .int (0 + (i : Int)), rfl, _, _, rfl, rfl, .inl ⟨by omega, by omega⟩, _, _, rfl, rfl, .inl ⟨_, rfl, .ref va, rfl, va, _, rfl, .inr (SqT.of (e4 _ _ hva)), _, _, rfl, rfl, (by omega), va, _, _, x0, rfl, rfl, SqT.of (e4 _ _ hva), (by show atI vxs ((fi + (0 + (i : Int)) * (0 + (i : Int))) % (vxs.length : Int)) = _; rw [ej]; exact atI_nat hx0), k _ _ (tmD ts[j]) (Same.refl _) ?_ (Da.same e4 _ _ hx1)⟩⟩
    show ((List.map _ (List.range 100)).map tmD)[i]? = _
    rw [List.getElem?_map, List.getElem?_map, List.getElem?_range hi]
    show some (tmD (ts.getD ((fi + (0 + (i : Int)) * (0 + (i : Int))) % (vxs.length : Int)).toNat (0, []))) = _
    rw [ej, Int.toNat_natCast, List.getD_eq_getElem?_getD, List.getElem?_eq_getElem hj]
    rfl
  · refine ⟨D, acc, rfl, .inl ⟨SqL.of eD, fun X hX => ?_⟩⟩
    have eX := e4.trans (same_upd hX (o := .tup acc))
    have hX2 : Da K (L2.upd H4 X (.tup acc)) (.ref X) (tsD es) := .tup upd_same (Da.sameAll (same_upd hX) _ _ hacc)
    have a4 := a3.same eX
    generalize L2.upd H4 X (.tup acc) = H5 at eX hX2 a4 ⊢
    have hv5 := Da.same eX _ _ hv3
    clear hv3 hvx hva lvx ixb
    clear_value es
    refine ⟨.ref p, rfl, p, c, 100, rfl, a4, by decide, fun H6 o ot s6 a6 ho hot => ?_⟩
    have hX6 := Da.st (a4.st s6) _ _ (imm_ts es) hX2
    have hv6 := Da.st (a4.st s6) _ _ (imm_ts ts) hv5
    have hot' : TmOk es.length ot := by
      rw [esl]
      exact hot
    refine ⟨o, rfl, .ref X, rfl, o, .ref X, ot, es, rfl, ho, hX6, comp_ok hot' esok (by omega), fun H7 e7 => ⟨true, rfl, iteT ?_⟩⟩
    obtain ⟨_, vxs2, e0, hva2, hvx2⟩ := Da.tsI (Da.same e7 _ _ hv6)
    cases e0
    refine ⟨.ref p, rfl, .ref va, rfl, o, rfl, by show 1 ≤ sizeLine; decide, fun t ht => ?_⟩
    refine cat_made (ot := ot) (same_upd ht _ _ hva2) (Da.sameAll (same_upd ht) _ _ hvx2) (Da.same (e7.trans (same_upd ht)) _ _ ho) upd_same (by omega) fun H8 r e8 hr8 => ?_
    have a8 := ((a6.same e7).upd (o := .tup [o]) ht).same e8
    refine ⟨p, c, r, ts ++ [ot], rfl, a8, hr8, fun t ht => ?_, by simp; omega, fun H9 s9 _ => ?_⟩
    · rcases List.mem_append.mp ht with h | h
      · exact Nat.le_trans (hts t h).len (by decide)
      · rw [List.mem_singleton.mp h]
        exact Nat.le_trans hot.len (by decide)
    · exact q _ ((((((((s1.trans s2).trans s3).trans (Same.b eX)).trans s6).trans (Same.b e7)).trans (Same.b (same_upd ht))).trans (Same.b e8)).trans s9)
end
end K12

namespace K12
open PySem PySem.Spec PyProof.Rows L2
theorem okD_mo {m : List Int} (h : m.length ≤ 1000) : okD 4 (mo m) = true := by
  show (decide ((m.map PyData.int).length ≤ 1000) && (m.map PyData.int).all (okD 3)) = true
  rw [List.length_map, decide_eq_true h, Bool.true_and, List.all_eq_true]
  intro d hd
  obtain ⟨q, _, rfl⟩ := List.mem_map.mp hd
  rfl
theorem imm_tstsD (l : List Tst) : imm (tstsD l) = true := imm_tsts l
theorem da_tst1 {K : PySem.W.Frag} {H : Hp} {t : Addr} {v : V} {x : Tst} (h : H t = some (.tup [v])) (hv : Da K H v (tstD x)) : Da K H (.ref t) (tstsD [x]) := .tup h (.cons hv .nil)
section
variable {P : Program} {w : World} {K : PySem.W.Frag} {mg : Str → Option Value} {base : Heap}
def spLaw (K : PySem.W.Frag) : Sp := fun vs H Q _ => ∃ (a : Addr) (ns : List Int), vs = [.ref a] ∧ SqL K H a (ns.map V.int) ∧ ns.length ≤ 63 ∧ ∀ H', Q (.bl true) H'
theorem d_law (B : Bt mg) (T : Top K mg "law" slaw ["script"]) (D_law_source : Def P w K mg base "_law_source" 1 ["script"] (spSource K)) (D_law_draw : Def P w K mg base "_law_draw" 2 ["source", "many"] (spDraw K)) (D_law_wide : Def P w K mg base "_law_wide" 8 ["source"] (spWide K)) (D_law_number : Def P w K mg base "_law_number" 3 ["source"] spNumber) (D_law_size : Def P w K mg base "_law_size" 3 ["source"] spSize)
    (D_law_exprs : Def P w K mg base "_law_exprs" 7 ["source", "many", "width"] (spExprs K)) (D_law_expr : Def P w K mg base "_law_expr" 6 ["source", "width"] (spExpr K)) (D_law_check : Def P w K mg base "_law_check" 7 ["source", "values"] (spCheck K)) (D_law_composes : Def P w K mg base "_law_composes" 6 ["outer", "exprs"] (spComposes K)) (D_law_plain_ones : Def P w K mg base "_law_plain_ones" 6 ["source", "exprs"] (spOnes K))
    (D_law_value : Def P w K mg base "_law_value" 1 ["expr", "values"] (spValue K)) (D_law_same : Def P w K mg base "_law_same" 5 ["told", "due"] (spSame K 4)) (Dvalues_of : Def P w K mg base "values_of" 2 ["terms", "row"] (spValues K)) (Dvalues_of_terms_row : DefK P w K mg base "values_of" 2 ["terms", "row"] ["terms", "row"] kwAp (spValues K)) (D_law_valued : Def P w K mg base "_law_valued" 6 ["expr", "values"] (spValued K))
    (D_law_small : Def P w K mg base "_law_small" 1 ["numbers"] (spSmall K)) (Dcomposed : Def P w K mg base "composed" 3 ["term", "terms"] (spComposed K)) (Dis_plain : Def P w K mg base "is_plain" 1 ["term"] (spPlain K)) (D_law_is_plain : Def P w K mg base "_law_is_plain" 1 ["expr"] (spPlain K)) (D_law_holds : Def P w K mg base "_law_holds" 2 ["checks", "values"] (spHolds K)) (Dholds : Def P w K mg base "holds" 2 ["tests", "row"] (spHolds K)) (Dholds_tests_row : DefK P w K mg base "holds" 2 ["tests", "row"] ["tests", "row"] kwAp (spHolds K)) :
    Def P w K mg base "law" 9 ["script"] (spLaw K) := by
  refine mk_def T sclaw (by rintro _ _ _ _ ⟨_, _, rfl, _⟩; rfl) fun f cdv A outer s H vs Q E hr h => ?_
  obtain ⟨a, ns, rfl, ha, hn, q⟩ := h
  refine ⟨_, (pss_cons (ps_set (i := 1) sclaw.nd rfl (Or.inr rfl) (pe_def D_law_source (hr.mono (by first | decide | omega)) (by rfl) (pa_cons (pv 0) pa_nil)))
      (pss_cons (ps_if (pt_cmpR op_eq (pe_def D_law_draw (hr.mono (by first | decide | omega)) (by rfl) (pa_cons (pv 1) (pa_cons pe_int pa_nil))) pe_int (nomark _)) (pss_one (ps_ret (pe_def D_law_wide (hr.mono (by first | decide | omega)) (by rfl) (pa_cons (pv 1) pa_nil)))) pss_nil)
      (pss_cons (ps_set (i := 2) sclaw.nd rfl (Or.inr rfl) (pe_callTy call_tuple_of (by rfl) B.m_tuple (by decide +kernel) (pa_cons (pe_lc (own := [("k", 3)]) (g := (gName 3)) (tt := tYes) (te := (tCall spNumber [] E0 (tCons (tVar 1) tNil))) rfl sclaw.nd (pi_range1 (by rfl) B.m_range (pa_cons (pe_def D_law_size (hr.mono (by first | decide | omega)) (by rfl) (pa_cons (pv 1) pa_nil)) pa_nil)) (blkOk_by (own := [("k", 3)]) (N := Nlaw) (sc := defScope slaw) (by decide +kernel)) (fun _ _ _ _ _ => (pg_name (i := 3) sclaw.nd rfl (Or.inl rfl))) (fun _ _ _ _ _ => pts_nil) (fun _ _ _ _ _ => (pe_def D_law_number (hr.mono (by first | decide | omega)) (by rfl) (pa_cons (pv 1) pa_nil)))) pa_nil)))
      (pss_cons (ps_set (i := 4) sclaw.nd rfl (Or.inl rfl) (pe_def D_law_exprs (hr.mono (by first | decide | omega)) (by rfl) (pa_cons (pv 1) (pa_cons (pe_def D_law_size (hr.mono (by first | decide | omega)) (by rfl) (pa_cons (pv 1) pa_nil)) (pa_cons (pe_callB call_len_seq (by rfl) B.m_len PySem.boot_len (pa_cons (pv 2) pa_nil)) pa_nil)))))
      (pss_cons (ps_set (i := 5) sclaw.nd rfl (Or.inl rfl) (pe_def D_law_expr (hr.mono (by first | decide | omega)) (by rfl) (pa_cons (pv 1) (pa_cons (pe_callB call_len_seq (by rfl) B.m_len PySem.boot_len (pa_cons (pv 4) pa_nil)) pa_nil))))
      (pss_cons (ps_set (i := 6) sclaw.nd rfl (Or.inl rfl) (pe_callTy call_tuple_of (by rfl) B.m_tuple (by decide +kernel) (pa_cons (pe_lc (own := [("k", 3)]) (g := (gName 3)) (tt := tYes) (te := (tCall (spCheck K) [] E0 (tCons (tVar 1) (tCons (tVar 2) tNil)))) rfl sclaw.nd (pi_range1 (by rfl) B.m_range (pa_cons (pe_def D_law_draw (hr.mono (by first | decide | omega)) (by rfl) (pa_cons (pv 1) (pa_cons pe_int pa_nil))) pa_nil)) (blkOk_by (own := [("k", 3)]) (N := Nlaw) (sc := defScope slaw) (by decide +kernel)) (fun _ _ _ _ _ => (pg_name (i := 3) sclaw.nd rfl (Or.inl rfl))) (fun _ _ _ _ _ => pts_nil) (fun _ _ _ _ _ => (pe_def D_law_check (hr.mono (by first | decide | omega)) (by rfl) (pa_cons (pv 1) (pa_cons (pv 2) pa_nil))))) pa_nil)))
      (pss_cons (ps_if (pw_or (pt_not (pt_val (pe_def D_law_composes (hr.mono (by first | decide | omega)) (by rfl) (pa_cons (pv 5) (pa_cons (pv 4) pa_nil))))) (pw_or1 (pt_not (pt_val (pe_def D_law_plain_ones (hr.mono (by first | decide | omega)) (by rfl) (pa_cons (pv 1) (pa_cons (pe_op op_catA (pv 4) (pe_tup (pa_cons (pv 5) pa_nil))) pa_nil))))))).pt (pss_one (ps_ret pe_bl)) pss_nil)
      (pss_cons (ps_set (i := 7) sclaw.nd rfl (Or.inl rfl) (pe_callTy call_tuple_of (by rfl) B.m_tuple (by decide +kernel) (pa_cons (pe_lc (own := [("expr", 8)]) (g := (gName 8)) (tt := tYes) (te := (tCall (spValue K) [] E0 (tCons (tVar 8) (tCons (tVar 2) tNil)))) rfl sclaw.nd (pi_tup (pv 4)) (blkOk_by (own := [("expr", 8)]) (N := Nlaw) (sc := defScope slaw) (by decide +kernel)) (fun _ _ _ _ _ => (pg_name (i := 8) sclaw.nd rfl (Or.inl rfl))) (fun _ _ _ _ _ => pts_nil) (fun _ _ _ _ _ => (pe_def D_law_value (hr.mono (by first | decide | omega)) (by rfl) (pa_cons (pv 8) (pa_cons (pv 2) pa_nil))))) pa_nil)))
      (pss_cons (ps_if (pt_not (pt_val (pe_def D_law_same (hr.mono (by first | decide | omega)) (by rfl) (pa_cons (pe_def Dvalues_of (hr.mono (by first | decide | omega)) (by rfl) (pa_cons (pv 4) (pa_cons (pv 2) pa_nil))) (pa_cons (pv 7) pa_nil))))) (pss_one (ps_ret pe_bl)) pss_nil)
      (pss_cons (ps_if (pt_not (pt_val (pe_def D_law_same (hr.mono (by first | decide | omega)) (by rfl) (pa_cons (pe_defK0 Dvalues_of_terms_row (hr.mono (by first | decide | omega)) (by rfl) (pk_cons (pv 4) (pk_cons (pv 2) pk_nil))) (pa_cons (pv 7) pa_nil))))) (pss_one (ps_ret pe_bl)) pss_nil)
      (pss_cons (ps_for PassesOwn.never rfl (pi_tup (pv 4)) (pg_name (i := 8) sclaw.nd rfl (Or.inl rfl)) (pss_one (ps_if (pt_not (pt_val (pe_def D_law_valued (hr.mono (by first | decide | omega)) (by rfl) (pa_cons (pv 8) (pa_cons (pv 2) pa_nil))))) (pss_one (ps_ret pe_bl)) pss_nil)))
      (Evl.pss_cut (ps_if (pw_and (pt_val (pe_def D_law_small (hr.mono (by first | decide | omega)) (by rfl) (pa_cons (pv 7) pa_nil))) (pw_and1 (pt_not (pt_val (pe_def D_law_valued (hr.mono (by first | decide | omega)) (by rfl) (pa_cons (pv 5) (pa_cons (pv 7) pa_nil))))))).pt (pss_one (ps_ret pe_bl)) pss_nil)
      (pss_cons (ps_set (i := 9) sclaw.nd rfl (Or.inl rfl) (pe_def Dcomposed (hr.mono (by first | decide | omega)) (by rfl) (pa_cons (pv 5) (pa_cons (pv 4) pa_nil))))
      (pss_cons (ps_if (pt_cmpR op_ne (pe_def D_law_value (hr.mono (by first | decide | omega)) (by rfl) (pa_cons (pv 9) (pa_cons (pv 2) pa_nil))) (pe_def D_law_value (hr.mono (by first | decide | omega)) (by rfl) (pa_cons (pv 5) (pa_cons (pv 7) pa_nil))) (nomark _)) (pss_one (ps_ret pe_bl)) pss_nil)
      (Evl.pss_cut (ps_if (pt_val (pe_def D_law_small (hr.mono (by first | decide | omega)) (by rfl) (pa_cons (pe_op op_cat (pe_lst (pa_cons (pe_ix ix_tup (pv 9) pe_int (fun _ _ => rfl)) pa_nil)) (pe_lc (own := [("part", 10)]) (g := (gName 10)) (tt := tYes) (te := (tOp (rIxT K) (tVar 10) (tC (.int 1)))) rfl sclaw.nd (pi_tup (pe_ix ix_tup (pv 9) pe_int (fun _ _ => rfl))) (blkOk_by (own := [("part", 10)]) (N := Nlaw) (sc := defScope slaw) (by decide +kernel)) (fun _ _ _ _ _ => (pg_name (i := 10) sclaw.nd rfl (Or.inl rfl))) (fun _ _ _ _ _ => pts_nil) (fun _ _ _ _ _ => (pe_ix ix_tup (pv 10) pe_int (fun _ _ => rfl))))) pa_nil))) (pss_one (ps_if (pw_or (pt_not (pt_val (pe_def D_law_valued (hr.mono (by first | decide | omega)) (by rfl) (pa_cons (pv 9) (pa_cons (pv 2) pa_nil))))) (pw_or1 (pt_not (pt_val (pe_def D_law_same (hr.mono (by first | decide | omega)) (by rfl) (pa_cons (pe_def Dis_plain (hr.mono (by first | decide | omega)) (by rfl) (pa_cons (pv 9) pa_nil)) (pa_cons (pe_def D_law_is_plain (hr.mono (by first | decide | omega)) (by rfl) (pa_cons (pv 9) pa_nil)) pa_nil))))))).pt (pss_one (ps_ret pe_bl)) pss_nil)) pss_nil)
      (pss_cons (ps_set (i := 11) sclaw.nd rfl (Or.inl rfl) (pe_def D_law_holds (hr.mono (by first | decide | omega)) (by rfl) (pa_cons (pv 6) (pa_cons (pv 2) pa_nil))))
      (pss_cons (ps_if (pw_or (pt_not (pt_val (pe_def D_law_same (hr.mono (by first | decide | omega)) (by rfl) (pa_cons (pe_def Dholds (hr.mono (by first | decide | omega)) (by rfl) (pa_cons (pv 6) (pa_cons (pv 2) pa_nil))) (pa_cons (pv 11) pa_nil))))) (pw_or1 (pt_not (pt_val (pe_def D_law_same (hr.mono (by first | decide | omega)) (by rfl) (pa_cons (pe_defK0 Dholds_tests_row (hr.mono (by first | decide | omega)) (by rfl) (pk_cons (pv 6) (pk_cons (pv 2) pk_nil))) (pa_cons (pv 11) pa_nil))))))).pt (pss_one (ps_ret pe_bl)) pss_nil)
      (pss_cons (ps_for PassesOwn.never rfl (pi_tup (pv 6)) (pg_name (i := 12) sclaw.nd rfl (Or.inl rfl)) (pss_one (ps_if (pt_not (pt_val (pe_def D_law_same (hr.mono (by first | decide | omega)) (by rfl) (pa_cons (pe_def Dholds (hr.mono (by first | decide | omega)) (by rfl) (pa_cons (pe_tup (pa_cons (pv 12) pa_nil)) (pa_cons (pv 2) pa_nil))) (pa_cons (pe_def D_law_holds (hr.mono (by first | decide | omega)) (by rfl) (pa_cons (pe_tup (pa_cons (pv 12) pa_nil)) (pa_cons (pv 2) pa_nil))) pa_nil))))) (pss_one (ps_ret pe_bl)) pss_nil)))
      (pss_one (ps_ret (pe_def D_law_same (hr.mono (by first | decide | omega)) (by rfl) (pa_cons (pe_def Dholds (hr.mono (by first | decide | omega)) (by rfl) (pa_cons (pe_tup pa_nil) (pa_cons (pv 2) pa_nil))) (pa_cons pe_bl pa_nil))))))))))))))))))))))), ?_⟩
  refine ⟨.ref a, rfl, a, ns, rfl, ha, hn, fun H1 p c e1 hs => ?_⟩
  refine ⟨.ref p, rfl, p, c, _, rfl, hs, by decide, by decide, fun H2 d s2 a2 _ _ => ⟨rfl, _, rfl, ite2 (fun z => ?_) (fun z => ?_)⟩⟩
  · exact ⟨.ref p, rfl, p, c, rfl, a2, fun H3 _ => q H3⟩
  -- the values
  refine ⟨.ref p, rfl, p, c, rfl, a2, fun H3 n s3 a3 n0 n1 => ⟨n, rfl, by omega, by omega, fun D hD => ?_⟩⟩
  have npD : D ≠ p := (a3.pne hD).symm
  have ncD : c ≠ D := a3.cne hD
  refine lc_it (walk_range (lo := 0) (n := n.toNat)) (fun i H' => SrcAt c H' p ∧ ∃ row : List Int, H' D = some (.lst (row.map V.int)) ∧ row.length = i ∧ SmR row) ⟨a3.upd hD, [], upd_same, rfl, fun _ h => (by cases h)⟩ (fun _ _ _ _ => True.intro) (fun i x H4 H5 hi pv y => ?_) (fun H4 pv => ?_)
  · obtain ⟨rfl, rfl⟩ := y
    obtain ⟨a4, row, eD, hl, hr4⟩ := pv
    refine ⟨rfl, .ref p, rfl, p, c, rfl, a4, fun H6 r s6 a6 hr6 => ?_⟩
    refine ⟨_, s6 _ _ npD eD, ?_, a6.upd2 npD.symm ncD, row ++ [r], ?_, by simp [hl], fun x hx => ?_⟩
    · rw [List.length_map, hl]
      exact Nat.lt_of_lt_of_le hi (Nat.le_trans (show n.toNat ≤ 12 by omega) (by decide))
    · rw [upd_same, List.map_append]
      rfl
    · rcases List.mem_append.mp hx with h' | h'
      · exact hr4 x h'
      · rw [List.mem_singleton.mp h']
        exact hr6
  obtain ⟨a4, row, eD, hrl, hsm⟩ := pv
  have hrow : row.length ≤ 12 := by omega
  refine ⟨D, _, rfl, .inl ⟨SqL.of eD, fun vt hvt => ?_⟩⟩
  have a5 := a4.upd (o := .tup (row.map V.int)) hvt
  have v5 : Mo K (L2.upd H4 vt (.tup (row.map V.int))) (.ref vt) row := Mo.of upd_same
  generalize L2.upd H4 vt (.tup (row.map V.int)) = H5 at a5 v5 ⊢
  -- the inner terms
  refine ⟨.ref p, rfl, .ref p, rfl, p, c, rfl, a5, fun H6 m s6 a6 m0 m1 => ?_⟩
  have v6 := v5.st (a5.st (K := K) s6)
  obtain ⟨_, e0, hv6⟩ := v6.trk
  cases e0
  refine ⟨.ref vt, rfl, vt, _, rfl, .inr (SqT.of hv6), p, c, _, _, rfl, a6, m0, m1, by rw [List.length_map]; omega, fun H7 x ts s7 a7 hx hl hts => ?_⟩
  rw [List.length_map] at hts
  have v7 := v6.st (a6.st (K := K) s7)
  have htl : ts.length ≤ 12 := by omega
  have hx' := hx
  obtain ⟨xa, xxs, rfl, hxa, hxx⟩ := Da.tsI hx'
  have lxx : xxs.length = ts.length := by rw [hxx.length, List.length_map]
  refine ⟨.ref p, rfl, .ref xa, rfl, xa, _, rfl, .inr (SqT.of hxa), p, c, _, rfl, a7, by omega, fun H8 o ot s8 a8 ho hot => ?_⟩
  rw [lxx] at hot
  have v8 := v7.st (a7.st (K := K) s8)
  have x8 := Da.st (a7.st s8) _ _ (imm_ts ts) hx
  clear hx hx' hxa hxx v7 v6 v5 hv6
  -- the tests
  refine ⟨.ref p, rfl, p, c, _, rfl, a8, by decide, by decide, fun H9 k s9 a9 k0 k1 => ⟨k, rfl, by omega, by omega, fun C hC => ?_⟩⟩
  have v9 := v8.st (a8.st (K := K) s9)
  have x9 := Da.st (a8.st s9) _ _ (imm_ts ts) x8
  have o9 := Da.st (a8.st s9) _ _ (imm_tm ot) ho
  have npC : C ≠ p := (a9.pne hC).symm
  have ncC : c ≠ C := a9.cne hC
  have st0 : ST K H9 (L2.upd H9 C (.lst [])) := (same_upd hC).st
  refine lc_it (walk_range (lo := 0) (n := k.toNat)) (fun i H' => SrcAt c H' p ∧ ST K H9 H' ∧ ∃ (acc : List V) (l : List Tst), H' C = some (.lst acc) ∧ DaAll K H' acc (l.map tstD) ∧ l.length = i ∧ ∀ x ∈ l, TstOk x row) ⟨a9.upd hC, st0, [], [], upd_same, .nil, rfl, fun _ h => (by cases h)⟩ (fun _ _ _ _ => True.intro) (fun i x H10 H11 hi pv y => ?_) (fun H10 pv => ?_)
  · obtain ⟨rfl, rfl⟩ := y
    obtain ⟨a10, st, acc, l, eC, hacc, hl10, hok⟩ := pv
    refine ⟨rfl, .ref p, rfl, .ref vt, rfl, p, c, _, row, rfl, a10, v9.st st, by omega, hsm, fun H12 y x12 s12 a12 hy hok12 => ?_⟩
    have eC12 := s12 _ _ npC eC
    have st12 : ST K H12 (L2.upd H12 C (.lst (acc ++ [y]))) := st_upd eC12 True.intro
    have hal : acc.length = l.length := by rw [hacc.length, List.length_map]
    refine ⟨_, eC12, Nat.lt_of_lt_of_le (show acc.length < k.toNat by omega) (Nat.le_trans (show k.toNat ≤ 5 by omega) (by decide)), a12.upd2 npC.symm ncC, (st.trans (a10.st s12)).trans st12, _, l ++ [x12], upd_same, ?_, by simp [hl10], fun x hx => ?_⟩
    · rw [List.map_append]
      exact DaAll.snoc (Da.st st12 _ _ (imm_tst x12) hy) (Da.stAll st12 _ _ (imm_tsts l) (Da.stAll (a10.st s12) _ _ (imm_tsts l) hacc))
    · rcases List.mem_append.mp hx with h' | h'
      · exact hok x h'
      · rw [List.mem_singleton.mp h']
        exact hok12
  obtain ⟨a10, st10, acc, cs, eC, hcs, hcl, hcok⟩ := pv
  have hcl5 : cs.length ≤ 5 := by omega
  refine ⟨C, acc, rfl, .inl ⟨SqL.of eC, fun ct hct => ?_⟩⟩
  have eX := same_upd hct (o := .tup acc)
  have c11 : Da K (L2.upd H10 ct (.tup acc)) (.ref ct) (tstsD cs) := .tup upd_same (Da.sameAll eX _ _ hcs)
  have v11 := (v9.st st10).same eX
  have x11 := Da.same eX _ _ (Da.st st10 _ _ (imm_ts ts) x9)
  have o11 := Da.same eX _ _ (Da.st st10 _ _ (imm_tm ot) o9)
  have a11 := a10.upd (o := .tup acc) hct
  clear v8 x8 v9 x9 o9 ho st10 hcs eC st0
  generalize L2.upd H10 ct (.tup acc) = H11 at c11 v11 x11 o11 a11 ⊢
  clear eX
  have cok := comp_ok hot hts (by omega)
  refine ⟨o, rfl, .ref xa, rfl, o, .ref xa, ot, ts, rfl, o11, x11, cok, fun H12 e12 => ⟨_, rfl, iteF ?_⟩⟩
  obtain ⟨_, vxs2, e0, hva2, hvx2⟩ := Da.tsI (Da.same e12 _ _ x11)
  cases e0
  refine ⟨.ref p, rfl, .ref xa, rfl, o, rfl, by show 1 ≤ sizeLine; decide, fun t ht => ?_⟩
  refine cat_made (ot := ot) (same_upd ht _ _ hva2) (Da.sameAll (same_upd ht) _ _ hvx2) (Da.same (e12.trans (same_upd ht)) _ _ o11) upd_same (by omega) fun H13 r e13 hr13 => ?_
  have a13 := ((a11.same e12).upd (o := .tup [o]) ht).same e13
  have e1113 := (e12.trans (same_upd ht)).trans e13
  refine ⟨p, c, r, ts ++ [ot], rfl, a13, hr13, fun t ht => ?_, by simp; omega, fun H14 s14 a14 => ⟨_, rfl, iteF ?_⟩⟩
  · rcases List.mem_append.mp ht with h | h
    · exact Nat.le_trans (hts t h).len (by decide)
    · rw [List.mem_singleton.mp h]
      exact Nat.le_trans hot.len (by decide)
  have cB := Da.st (a13.st s14) _ _ (imm_tstsD cs) (Da.same e1113 _ _ c11)
  have vB := (v11.same e1113).st (a13.st (K := K) s14)
  have xB := Da.st (a13.st s14) _ _ (imm_ts ts) (Da.same e1113 _ _ x11)
  have oB := Da.st (a13.st s14) _ _ (imm_tm ot) (Da.same e1113 _ _ o11)
  clear c11 v11 x11 o11 hva2 hvx2
  obtain ⟨_, xxs, e0, hxa, hxx⟩ := Da.tsI xB
  cases e0
  have lxx2 : xxs.length = ts.length := by rw [hxx.length, List.length_map]
  have rowOk : ∀ t ∈ ts, VOk t row := fun t ht => vok_row (hts t ht) hsm
  -- the middle
  refine ⟨.ref xa, rfl, xa, rfl, ⟨_, SqT.of hxa⟩, fun M hM => ?_⟩
  refine lc_val (walk_tup (K := K)) hM (by omega) (fun H1 e => e.seqT (SqT.of hxa)) ((midT ts row).map V.int) (by simp [midT, lxx2]) (fun i x G1 G2 Q' hi e y kk => ?_) (fun G1 e eM => ?_)
  · obtain ⟨rfl, hxi⟩ := y
    obtain ⟨d, hd, hdx⟩ := hxx.get hxi
    obtain ⟨t0, ht0, rfl⟩ := at_map hd
    refine ⟨rfl, x, rfl, .ref vt, rfl, x, _, t0, row, rfl, Da.same e _ _ hdx, vB.same e, rowOk t0 (List.mem_of_getElem? ht0), fun G3 s3 => kk _ _ s3 ?_⟩
    rw [midT, List.map_map, List.getElem?_map, ht0]
    rfl
  refine ⟨M, _, rfl, .inl ⟨SqL.of eM, fun mt hmt => ?_⟩⟩
  have eC := e.trans (same_upd hmt (o := .tup ((midT ts row).map V.int)))
  have mC : Mo K (L2.upd G1 mt (.tup ((midT ts row).map V.int))) (.ref mt) (midT ts row) := Mo.of upd_same
  generalize L2.upd G1 mt (.tup ((midT ts row).map V.int)) = G2 at eC mC ⊢
  have cC := Da.same eC _ _ cB
  have vC := vB.same eC
  have xC := Da.same eC _ _ xB
  have oC := Da.same eC _ _ oB
  clear cB vB xB oB hxx hxa e eM eC
  have midl : (midT ts row).length ≤ 1000 := by simp [midT]; omega
  refine ⟨.ref xa, rfl, .ref vt, rfl, _, _, ts, row, rfl, xC, vC, by omega, rowOk, fun G3 y3 g3 hy3 => ?_⟩
  refine ⟨.ref mt, rfl, y3, _, mo (midT ts row), rfl, hy3, mC.same g3, okD_mo midl, fun G4 g4 => ⟨_, rfl, iteF ?_⟩⟩
  have g24 := g3.trans g4
  refine ⟨.ref xa, rfl, .ref vt, rfl, _, _, ts, row, rfl, Da.same g24 _ _ xC, vC.same g24, by omega, rowOk, fun G5 y5 g5 hy5 => ?_⟩
  refine ⟨.ref mt, rfl, y5, _, mo (midT ts row), rfl, hy5, mC.same (g24.trans g5), okD_mo midl, fun G6 g6 => ⟨_, rfl, iteF ?_⟩⟩
  have g26 := (g24.trans g5).trans g6
  clear g3 g4 g5 hy3 hy5 g24
  obtain ⟨_, xxs, e0, hxa, hxx⟩ := Da.tsI (Da.same g26 _ _ xC)
  cases e0
  have lxx3 : xxs.length = ts.length := by rw [hxx.length, List.length_map]
  refine ⟨.ref xa, rfl, xa, rfl, ⟨_, SqT.of hxa⟩, ?_⟩
  refine for_tup (xs := xxs) (fun i σ H' => ∃ y8, σ = [some (.ref a), some (.ref p), some (.ref vt), none, some (.ref xa), some o, some (.ref ct), some (.ref mt), y8, none, none, none, none] ∧ Same G6 H') ⟨none, rfl, Same.refl _⟩ (fun i σ H' _ pv' => ?_) (fun i x σ H' hxi pv' => ?_) (fun σ G7 pv' => ?_)
  · obtain ⟨_, _, e⟩ := pv'
    exact SqT.of (e _ _ hxa)
  · obtain ⟨y8, rfl, e⟩ := pv'
    obtain ⟨d, hd, hdx⟩ := hxx.get hxi
    obtain ⟨t0, ht0, rfl⟩ := at_map hd
    exact ⟨x, rfl, .ref vt, rfl, x, _, t0, row, rfl, Da.same e _ _ hdx, (vC.same g26).same e, rowOk t0 (List.mem_of_getElem? ht0), fun G8 g8 => ⟨_, rfl, iteF ⟨_, rfl, e.trans g8⟩⟩⟩
  obtain ⟨y8, rfl, e7⟩ := pv'
  have g27 := g26.trans e7
  have cD := Da.same g27 _ _ cC
  have vD := vC.same g27
  have xD := Da.same g27 _ _ xC
  have oD := Da.same g27 _ _ oC
  have mD := mC.same g27
  clear cC vC xC oC mC g26 g27 hxa hxx e7
  have mOk : VOk ot (midT ts row) := vok_mid hot (fun t ht => (hts t ht).sm) hsm
  refine ⟨fun σ' H' => σ' = [some (.ref a), some (.ref p), some (.ref vt), none, some (.ref xa), some o, some (.ref ct), some (.ref mt), y8, none, none, none, none] ∧ Same G7 H', ?_, ?_⟩
  · obtain ⟨_, e0, hm7⟩ := mD.trk
    cases e0
    refine ⟨.ref mt, rfl, mt, midT ts row, rfl, .inr (SqT.of hm7), midl, fun G8 g8 => ⟨_, rfl, ite2 (fun z => ?_) (fun z => iteF ⟨rfl, g8⟩)⟩⟩
    exact ⟨o, rfl, .ref mt, rfl, o, _, ot, _, rfl, Da.same g8 _ _ oD, mD.same g8, mOk, fun G9 g9 => ⟨_, rfl, iteF ⟨rfl, g8.trans g9⟩⟩⟩
  rintro σ' G8 ⟨rfl, g8⟩
  have cE := Da.same g8 _ _ cD
  have vE := vD.same g8
  have xE := Da.same g8 _ _ xD
  have oE := Da.same g8 _ _ oD
  have mE := mD.same g8
  clear cD vD xD oD mD g8
  refine ⟨o, rfl, .ref xa, rfl, o, _, ot, ts, rfl, oE, xE, cok, fun G9 wv M g9 hw hM pM => ?_⟩
  have wOk : VOk (conC ot ts, M) row := vok_whole cok hts hsm pM
  have hval : valT (conC ot ts, M) row = valT ot (midT ts row) := composed_value cok.col pM
  have mlen := nz_len cok pM
  clear hM pM xE
  have cF := Da.same g9 _ _ cE
  have vF := vE.same g9
  have oF := Da.same g9 _ _ oE
  have mF := mE.same g9
  clear cE vE oE mE g9
  refine ⟨wv, rfl, .ref vt, rfl, wv, _, (conC ot ts, M), row, rfl, hw, vF, wOk, fun G10 g10 => ?_⟩
  refine ⟨o, rfl, .ref mt, rfl, o, _, ot, _, rfl, Da.same g10 _ _ oF, mF.same g10, mOk, fun G11 g11 => ⟨rfl, _, rfl, iteNS (congrArg V.int hval) ?_⟩⟩
  have g := g10.trans g11
  have cG := Da.same g _ _ cF
  have vG := vF.same g
  have wG := Da.same g _ _ hw
  clear cF vF oF mF hw g g10 g11
  refine ⟨fun σ' H' => ∃ y10, σ' = [some (.ref a), some (.ref p), some (.ref vt), none, some (.ref xa), some o, some (.ref ct), some (.ref mt), y8, some wv, y10, none, none] ∧ Same G11 H', ?_, ?_⟩
  · obtain ⟨wa, wb, rfl, hwa, hwb⟩ := Da.tmI wG
    obtain ⟨_, pxs, e0, hwb2, hpx⟩ := Da.ptI hwb
    cases e0
    have lpx : pxs.length = M.length := by rw [hpx.length, List.length_map]
    refine ⟨.ref wa, rfl, wa, _, _, .int (conC ot ts), rfl, rfl, SqT.of hwa, atI_nat (j := 0) rfl, by show 1 ≤ sizeLine; decide, fun N hN => ?_⟩
    obtain ⟨eN, hN2⟩ := new_obj hN (o := .lst [V.int (conC ot ts)])
    refine ⟨.ref wa, rfl, wa, _, _, .ref wb, rfl, rfl, SqT.of (eN _ _ hwa), atI_nat (j := 1) rfl, wb, rfl, ⟨_, SqT.of (eN _ _ hwb2)⟩, fun D2 hD2 => ?_⟩
    refine lc_val (walk_tup (K := K)) hD2 (by omega) (fun H1 e => e.seqT (SqT.of (eN _ _ hwb2))) ((M.map fun q => q.2).map V.int) (by simp [lpx]) (fun i x G1 G2 Q' hi e y kk => ?_) (fun G12 e eD2 => ?_)
    · obtain ⟨rfl, hxi⟩ := y
      obtain ⟨d, hd, hdx⟩ := hpx.get hxi
      obtain ⟨q0, hq0, rfl⟩ := at_map hd
      obtain ⟨r0, rfl, hr0⟩ := Da.prI (Da.same (eN.trans e) _ _ hdx)
      refine ⟨rfl, .ref r0, rfl, r0, _, _, .int q0.2, rfl, rfl, SqT.of hr0, atI_nat (j := 1) rfl, kk _ _ (Same.refl _) ?_⟩
      rw [List.map_map, List.getElem?_map, hq0]
      rfl
    · refine ⟨N, D2, _, _, rfl, rfl, e _ _ hN2, eD2, Nat.le_trans (show 1 + ((M.map fun q => q.2).map V.int).length ≤ 17 by simp; omega) (by decide), fun R hR => ?_⟩
      obtain ⟨eR, hR2⟩ := new_obj hR (o := .lst ([V.int (conC ot ts)] ++ (M.map fun q => q.2).map V.int))
      have eAll := (eN.trans e).trans eR
      refine ⟨R, conC ot ts :: (M.map fun q : Int × Int => q.2), rfl, .inl (SqL.of hR2), by simp; omega, fun G13 g13 => ⟨_, rfl, ite2 (fun z => ?_) (fun z => ⟨none, rfl, eAll.trans g13⟩)⟩⟩
      have e13 := eAll.trans g13
      refine ⟨.ref wa, rfl, .ref vt, rfl, _, _, _, row, rfl, Da.same e13 _ _ wG, vG.same e13, wOk, fun G14 g14 => ⟨_, rfl, iteF ?_⟩⟩
      have e14 := e13.trans g14
      refine ⟨.ref wa, rfl, _, _, rfl, Da.same e14 _ _ wG, by show M.length ≤ 1000; omega, fun G15 g15 => ?_⟩
      have e15 := e14.trans g15
      refine ⟨.ref wa, rfl, _, _, rfl, Da.same e15 _ _ wG, by show M.length ≤ 1000; omega, fun G16 g16 => ?_⟩
      exact ⟨_, _, .bool (plainB (conC ot ts, M)), rfl, .bl _, .bl _, rfl, fun G17 g17 => ⟨_, rfl, iteF ⟨none, rfl, (e15.trans g16).trans g17⟩⟩⟩
  rintro σ' G12 ⟨y10, rfl, g12⟩
  have cH := Da.same g12 _ _ cG
  have vH := vG.same g12
  clear cG vG wG g12
  refine ⟨.ref ct, rfl, .ref vt, rfl, _, _, cs, row, rfl, cH, vH, by omega, hcok, fun G13 g13 => ?_⟩
  refine ⟨.ref ct, rfl, .ref vt, rfl, _, _, cs, row, rfl, Da.same g13 _ _ cH, vH.same g13, by omega, hcok, fun G14 g14 => ?_⟩
  refine ⟨_, rfl, _, _, .bool (holdsB cs row), rfl, .bl _, .bl _, rfl, fun G15 g15 => ⟨_, rfl, iteF ?_⟩⟩
  have h15 := (g13.trans g14).trans g15
  refine ⟨.ref ct, rfl, .ref vt, rfl, _, _, cs, row, rfl, Da.same h15 _ _ cH, vH.same h15, by omega, hcok, fun G16 g16 => ?_⟩
  refine ⟨_, rfl, _, _, .bool (holdsB cs row), rfl, .bl _, .bl _, rfl, fun G17 g17 => ⟨_, rfl, iteF ?_⟩⟩
  have h17 := (h15.trans g16).trans g17
  obtain ⟨_, cxs, e0, hca, hcx⟩ := Da.tstsI (Da.same h17 _ _ cH)
  cases e0
  have lcx : cxs.length = cs.length := by rw [hcx.length, List.length_map]
  refine ⟨.ref ct, rfl, ct, rfl, ⟨_, SqT.of hca⟩, ?_⟩
  refine for_tup (xs := cxs) (fun i σ H' => ∃ y12, σ = [some (.ref a), some (.ref p), some (.ref vt), none, some (.ref xa), some o, some (.ref ct), some (.ref mt), y8, some wv, y10, some (.bl (holdsB cs row)), y12] ∧ Same G17 H') ⟨none, rfl, Same.refl _⟩ (fun i σ H' _ pv' => ?_) (fun i x σ H' hxi pv' => ?_) (fun σ G18 pv' => ?_)
  · obtain ⟨_, _, e⟩ := pv'
    exact SqT.of (e _ _ hca)
  · obtain ⟨y12, rfl, e⟩ := pv'
    obtain ⟨d, hd, hdx⟩ := hcx.get hxi
    obtain ⟨t0, ht0, rfl⟩ := at_map hd
    have ok0 := hcok t0 (List.mem_of_getElem? ht0)
    have okA : ∀ x ∈ [t0], TstOk x row := fun x hx => by
      rw [List.mem_singleton.mp hx]
      exact ok0
    have vI := vH.same h17
    refine ⟨x, rfl, by show 1 ≤ sizeLine; decide, fun t ht => ?_⟩
    obtain ⟨eT, hT⟩ := new_obj ht (o := .tup [x])
    have eA := e.trans eT
    refine ⟨.ref vt, rfl, _, _, [t0], row, rfl, da_tst1 hT (Da.same eA _ _ hdx), vI.same eA, (by show 1 ≤ 1000; decide), okA, fun F1 f1 => ?_⟩
    have eB := eA.trans f1
    refine ⟨x, rfl, by show 1 ≤ sizeLine; decide, fun t2 ht2 => ?_⟩
    obtain ⟨eT2, hT2⟩ := new_obj ht2 (o := .tup [x])
    have eC := eB.trans eT2
    refine ⟨.ref vt, rfl, _, _, [t0], row, rfl, da_tst1 hT2 (Da.same eC _ _ hdx), vI.same eC, (by show 1 ≤ 1000; decide), okA, fun F2 f2 => ?_⟩
    exact ⟨_, _, .bool (holdsB [t0] row), rfl, .bl _, .bl _, rfl, fun F3 f3 => ⟨_, rfl, iteF ⟨_, rfl, (eC.trans f2).trans f3⟩⟩⟩
  obtain ⟨y12, rfl, e⟩ := pv'
  refine ⟨by show 0 ≤ sizeLine; decide, fun t ht => ?_⟩
  obtain ⟨eT, hT⟩ := new_obj ht (o := .tup [])
  refine ⟨.ref vt, rfl, _, _, [], row, rfl, .tup hT .nil, (vH.same h17).same (e.trans eT), by decide, fun _ h => (by cases h), fun F1 f1 => ?_⟩
  exact ⟨_, _, .bool true, rfl, .bl _, .bl _, rfl, fun F2 f2 => q _⟩
end
end K12

namespace K12
open PySem PySem.Spec PyProof.Rows L2
section
theorem all_mk {l : PySem.W.OpenLaw} {w : World} {K : PySem.W.Frag} {h : Heap} {mg : Str → Option Value} {fa f0 f1 f2 f3 f4 f5 f6 f7 f8 f9 f10 f11 f12 f13 f14 f15 f16 f17 f18 f19 f20 f21 f22 f23 f24 f25 f26 f27 f28 f29 f30 f31 : Addr} (X : K.In h) (G : h.Ns mainGlobals mg) (hfa : mg "law" = some (.ref fa))
    {od0 an0 : Option Addr} {sl0 : Array (Option Value)} {oc0 kV0 dc0 pm0 cd0 ct0 : Value}
    {od1 an1 : Option Addr} {sl1 : Array (Option Value)} {oc1 kV1 dc1 pm1 cd1 ct1 : Value}
    {od2 an2 : Option Addr} {sl2 : Array (Option Value)} {oc2 kV2 dc2 pm2 cd2 ct2 : Value}
    {od3 an3 : Option Addr} {sl3 : Array (Option Value)} {oc3 kV3 dc3 pm3 cd3 ct3 : Value}
    {od4 an4 : Option Addr} {sl4 : Array (Option Value)} {oc4 kV4 dc4 pm4 cd4 ct4 : Value}
    {od5 an5 : Option Addr} {sl5 : Array (Option Value)} {oc5 kV5 dc5 pm5 cd5 ct5 : Value}
    {od6 an6 : Option Addr} {sl6 : Array (Option Value)} {oc6 kV6 dc6 pm6 cd6 ct6 : Value}
    {od7 an7 : Option Addr} {sl7 : Array (Option Value)} {oc7 kV7 dc7 pm7 cd7 ct7 : Value}
    {od8 an8 : Option Addr} {sl8 : Array (Option Value)} {oc8 kV8 dc8 pm8 cd8 ct8 : Value}
    {od9 an9 : Option Addr} {sl9 : Array (Option Value)} {oc9 kV9 dc9 pm9 cd9 ct9 : Value}
    {od10 an10 : Option Addr} {sl10 : Array (Option Value)} {oc10 kV10 dc10 pm10 cd10 ct10 : Value}
    {od11 an11 : Option Addr} {sl11 : Array (Option Value)} {oc11 kV11 dc11 pm11 cd11 ct11 : Value}
    {od12 an12 : Option Addr} {sl12 : Array (Option Value)} {oc12 kV12 dc12 pm12 cd12 ct12 : Value}
    {od13 an13 : Option Addr} {sl13 : Array (Option Value)} {oc13 kV13 dc13 pm13 cd13 ct13 : Value}
    {od14 an14 : Option Addr} {sl14 : Array (Option Value)} {oc14 kV14 dc14 pm14 cd14 ct14 : Value}
    {od15 an15 : Option Addr} {sl15 : Array (Option Value)} {oc15 kV15 dc15 pm15 cd15 ct15 : Value}
    {od16 an16 : Option Addr} {sl16 : Array (Option Value)} {oc16 kV16 dc16 pm16 cd16 ct16 : Value}
    {od17 an17 : Option Addr} {sl17 : Array (Option Value)} {oc17 kV17 dc17 pm17 cd17 ct17 : Value}
    {od18 an18 : Option Addr} {sl18 : Array (Option Value)} {oc18 kV18 dc18 pm18 cd18 ct18 : Value}
    {od19 an19 : Option Addr} {sl19 : Array (Option Value)} {oc19 kV19 dc19 pm19 cd19 ct19 : Value}
    {od20 an20 : Option Addr} {sl20 : Array (Option Value)} {oc20 kV20 dc20 pm20 cd20 ct20 : Value}
    {od21 an21 : Option Addr} {sl21 : Array (Option Value)} {oc21 kV21 dc21 pm21 cd21 ct21 : Value}
    {od22 an22 : Option Addr} {sl22 : Array (Option Value)} {oc22 kV22 dc22 pm22 cd22 ct22 : Value}
    {od23 an23 : Option Addr} {sl23 : Array (Option Value)} {oc23 kV23 dc23 pm23 cd23 ct23 : Value}
    {od24 an24 : Option Addr} {sl24 : Array (Option Value)} {oc24 kV24 dc24 pm24 cd24 ct24 : Value}
    {od25 an25 : Option Addr} {sl25 : Array (Option Value)} {oc25 kV25 dc25 pm25 cd25 ct25 : Value}
    {od26 an26 : Option Addr} {sl26 : Array (Option Value)} {oc26 kV26 dc26 pm26 cd26 ct26 : Value}
    {od27 an27 : Option Addr} {sl27 : Array (Option Value)} {oc27 kV27 dc27 pm27 cd27 ct27 : Value}
    {od28 an28 : Option Addr} {sl28 : Array (Option Value)} {oc28 kV28 dc28 pm28 cd28 ct28 : Value}
    {od29 an29 : Option Addr} {sl29 : Array (Option Value)} {oc29 kV29 dc29 pm29 cd29 ct29 : Value}
    {od30 an30 : Option Addr} {sl30 : Array (Option Value)} {oc30 kV30 dc30 pm30 cd30 ct30 : Value}
    {od31 an31 : Option Addr} {sl31 : Array (Option Value)} {oc31 kV31 dc31 pm31 cd31 ct31 : Value}
    (a0 : PySem.W.nsIn K mainGlobals "without_zeros" = some (some (.ref f0))) (l0 : K.lookup f0 = some ⟨oc0, od0, .func (PySem.W.fnOf "without_zeros" "without_zeros" (defArgs swithout_zeros) (defBody swithout_zeros) (defScope swithout_zeros) .none kV0 dc0 pm0 an0 cd0 ct0), sl0⟩) (c0 : PySem.W.codeIn K cd0 "without_zeros" = true) (k0 : PySem.W.keepIn K (.ref f0) = true)
    (a1 : PySem.W.nsIn K mainGlobals "tally_of" = some (some (.ref f1))) (l1 : K.lookup f1 = some ⟨oc1, od1, .func (PySem.W.fnOf "tally_of" "tally_of" (defArgs stally_of) (defBody stally_of) (defScope stally_of) .none kV1 dc1 pm1 an1 cd1 ct1), sl1⟩) (c1 : PySem.W.codeIn K cd1 "tally_of" = true) (k1 : PySem.W.keepIn K (.ref f1) = true)
    (a2 : PySem.W.nsIn K mainGlobals "col" = some (some (.ref f2))) (l2 : K.lookup f2 = some ⟨oc2, od2, .func (PySem.W.fnOf "col" "col" (defArgs scol) (defBody scol) (defScope scol) .none kV2 dc2 pm2 an2 cd2 ct2), sl2⟩) (c2 : PySem.W.codeIn K cd2 "col" = true) (k2 : PySem.W.keepIn K (.ref f2) = true)
    (a3 : PySem.W.nsIn K mainGlobals "num" = some (some (.ref f3))) (l3 : K.lookup f3 = some ⟨oc3, od3, .func (PySem.W.fnOf "num" "num" (defArgs snum) (defBody snum) (defScope snum) .none kV3 dc3 pm3 an3 cd3 ct3), sl3⟩) (c3 : PySem.W.codeIn K cd3 "num" = true) (k3 : PySem.W.keepIn K (.ref f3) = true)
    (a4 : PySem.W.nsIn K mainGlobals "value_of" = some (some (.ref f4))) (l4 : K.lookup f4 = some ⟨oc4, od4, .func (PySem.W.fnOf "value_of" "value_of" (defArgs svalue_of) (defBody svalue_of) (defScope svalue_of) .none kV4 dc4 pm4 an4 cd4 ct4), sl4⟩) (c4 : PySem.W.codeIn K cd4 "value_of" = true) (k4 : PySem.W.keepIn K (.ref f4) = true)
    (a5 : PySem.W.nsIn K mainGlobals "values_of" = some (some (.ref f5))) (l5 : K.lookup f5 = some ⟨oc5, od5, .func (PySem.W.fnOf "values_of" "values_of" (defArgs svalues_of) (defBody svalues_of) (defScope svalues_of) .none kV5 dc5 pm5 an5 cd5 ct5), sl5⟩) (c5 : PySem.W.codeIn K cd5 "values_of" = true) (k5 : PySem.W.keepIn K (.ref f5) = true)
    (a6 : PySem.W.nsIn K mainGlobals "compares" = some (some (.ref f6))) (l6 : K.lookup f6 = some ⟨oc6, od6, .func (PySem.W.fnOf "compares" "compares" (defArgs scompares) (defBody scompares) (defScope scompares) .none kV6 dc6 pm6 an6 cd6 ct6), sl6⟩) (c6 : PySem.W.codeIn K cd6 "compares" = true) (k6 : PySem.W.keepIn K (.ref f6) = true)
    (a7 : PySem.W.nsIn K mainGlobals "holds" = some (some (.ref f7))) (l7 : K.lookup f7 = some ⟨oc7, od7, .func (PySem.W.fnOf "holds" "holds" (defArgs sholds) (defBody sholds) (defScope sholds) .none kV7 dc7 pm7 an7 cd7 ct7), sl7⟩) (c7 : PySem.W.codeIn K cd7 "holds" = true) (k7 : PySem.W.keepIn K (.ref f7) = true)
    (a8 : PySem.W.nsIn K mainGlobals "composed" = some (some (.ref f8))) (l8 : K.lookup f8 = some ⟨oc8, od8, .func (PySem.W.fnOf "composed" "composed" (defArgs scomposed) (defBody scomposed) (defScope scomposed) .none kV8 dc8 pm8 an8 cd8 ct8), sl8⟩) (c8 : PySem.W.codeIn K cd8 "composed" = true) (k8 : PySem.W.keepIn K (.ref f8) = true)
    (a9 : PySem.W.nsIn K mainGlobals "is_plain" = some (some (.ref f9))) (l9 : K.lookup f9 = some ⟨oc9, od9, .func (PySem.W.fnOf "is_plain" "is_plain" (defArgs sis_plain) (defBody sis_plain) (defScope sis_plain) .none kV9 dc9 pm9 an9 cd9 ct9), sl9⟩) (c9 : PySem.W.codeIn K cd9 "is_plain" = true) (k9 : PySem.W.keepIn K (.ref f9) = true)
    (a10 : PySem.W.nsIn K mainGlobals "_law_source" = some (some (.ref f10))) (l10 : K.lookup f10 = some ⟨oc10, od10, .func (PySem.W.fnOf "_law_source" "_law_source" (defArgs s_law_source) (defBody s_law_source) (defScope s_law_source) .none kV10 dc10 pm10 an10 cd10 ct10), sl10⟩) (c10 : PySem.W.codeIn K cd10 "_law_source" = true) (k10 : PySem.W.keepIn K (.ref f10) = true)
    (a11 : PySem.W.nsIn K mainGlobals "_law_mixed" = some (some (.ref f11))) (l11 : K.lookup f11 = some ⟨oc11, od11, .func (PySem.W.fnOf "_law_mixed" "_law_mixed" (defArgs s_law_mixed) (defBody s_law_mixed) (defScope s_law_mixed) .none kV11 dc11 pm11 an11 cd11 ct11), sl11⟩) (c11 : PySem.W.codeIn K cd11 "_law_mixed" = true) (k11 : PySem.W.keepIn K (.ref f11) = true)
    (a12 : PySem.W.nsIn K mainGlobals "_law_draw" = some (some (.ref f12))) (l12 : K.lookup f12 = some ⟨oc12, od12, .func (PySem.W.fnOf "_law_draw" "_law_draw" (defArgs s_law_draw) (defBody s_law_draw) (defScope s_law_draw) .none kV12 dc12 pm12 an12 cd12 ct12), sl12⟩) (c12 : PySem.W.codeIn K cd12 "_law_draw" = true) (k12 : PySem.W.keepIn K (.ref f12) = true)
    (a13 : PySem.W.nsIn K mainGlobals "_law_number" = some (some (.ref f13))) (l13 : K.lookup f13 = some ⟨oc13, od13, .func (PySem.W.fnOf "_law_number" "_law_number" (defArgs s_law_number) (defBody s_law_number) (defScope s_law_number) .none kV13 dc13 pm13 an13 cd13 ct13), sl13⟩) (c13 : PySem.W.codeIn K cd13 "_law_number" = true) (k13 : PySem.W.keepIn K (.ref f13) = true)
    (a14 : PySem.W.nsIn K mainGlobals "_law_same" = some (some (.ref f14))) (l14 : K.lookup f14 = some ⟨oc14, od14, .func (PySem.W.fnOf "_law_same" "_law_same" (defArgs s_law_same) (defBody s_law_same) (defScope s_law_same) .none kV14 dc14 pm14 an14 cd14 ct14), sl14⟩) (c14 : PySem.W.codeIn K cd14 "_law_same" = true) (k14 : PySem.W.keepIn K (.ref f14) = true)
    (a15 : PySem.W.nsIn K mainGlobals "_law_size" = some (some (.ref f15))) (l15 : K.lookup f15 = some ⟨oc15, od15, .func (PySem.W.fnOf "_law_size" "_law_size" (defArgs s_law_size) (defBody s_law_size) (defScope s_law_size) .none kV15 dc15 pm15 an15 cd15 ct15), sl15⟩) (c15 : PySem.W.codeIn K cd15 "_law_size" = true) (k15 : PySem.W.keepIn K (.ref f15) = true)
    (a16 : PySem.W.nsIn K mainGlobals "_law_factor" = some (some (.ref f16))) (l16 : K.lookup f16 = some ⟨oc16, od16, .func (PySem.W.fnOf "_law_factor" "_law_factor" (defArgs s_law_factor) (defBody s_law_factor) (defScope s_law_factor) .none kV16 dc16 pm16 an16 cd16 ct16), sl16⟩) (c16 : PySem.W.codeIn K cd16 "_law_factor" = true) (k16 : PySem.W.keepIn K (.ref f16) = true)
    (a17 : PySem.W.nsIn K mainGlobals "_law_parts" = some (some (.ref f17))) (l17 : K.lookup f17 = some ⟨oc17, od17, .func (PySem.W.fnOf "_law_parts" "_law_parts" (defArgs s_law_parts) (defBody s_law_parts) (defScope s_law_parts) .none kV17 dc17 pm17 an17 cd17 ct17), sl17⟩) (c17 : PySem.W.codeIn K cd17 "_law_parts" = true) (k17 : PySem.W.keepIn K (.ref f17) = true)
    (a18 : PySem.W.nsIn K mainGlobals "_law_expr" = some (some (.ref f18))) (l18 : K.lookup f18 = some ⟨oc18, od18, .func (PySem.W.fnOf "_law_expr" "_law_expr" (defArgs s_law_expr) (defBody s_law_expr) (defScope s_law_expr) .none kV18 dc18 pm18 an18 cd18 ct18), sl18⟩) (c18 : PySem.W.codeIn K cd18 "_law_expr" = true) (k18 : PySem.W.keepIn K (.ref f18) = true)
    (a19 : PySem.W.nsIn K mainGlobals "_law_exprs" = some (some (.ref f19))) (l19 : K.lookup f19 = some ⟨oc19, od19, .func (PySem.W.fnOf "_law_exprs" "_law_exprs" (defArgs s_law_exprs) (defBody s_law_exprs) (defScope s_law_exprs) .none kV19 dc19 pm19 an19 cd19 ct19), sl19⟩) (c19 : PySem.W.codeIn K cd19 "_law_exprs" = true) (k19 : PySem.W.keepIn K (.ref f19) = true)
    (a20 : PySem.W.nsIn K mainGlobals "_law_value" = some (some (.ref f20))) (l20 : K.lookup f20 = some ⟨oc20, od20, .func (PySem.W.fnOf "_law_value" "_law_value" (defArgs s_law_value) (defBody s_law_value) (defScope s_law_value) .none kV20 dc20 pm20 an20 cd20 ct20), sl20⟩) (c20 : PySem.W.codeIn K cd20 "_law_value" = true) (k20 : PySem.W.keepIn K (.ref f20) = true)
    (a21 : PySem.W.nsIn K mainGlobals "_law_compares" = some (some (.ref f21))) (l21 : K.lookup f21 = some ⟨oc21, od21, .func (PySem.W.fnOf "_law_compares" "_law_compares" (defArgs s_law_compares) (defBody s_law_compares) (defScope s_law_compares) .none kV21 dc21 pm21 an21 cd21 ct21), sl21⟩) (c21 : PySem.W.codeIn K cd21 "_law_compares" = true) (k21 : PySem.W.keepIn K (.ref f21) = true)
    (a22 : PySem.W.nsIn K mainGlobals "_law_check" = some (some (.ref f22))) (l22 : K.lookup f22 = some ⟨oc22, od22, .func (PySem.W.fnOf "_law_check" "_law_check" (defArgs s_law_check) (defBody s_law_check) (defScope s_law_check) .none kV22 dc22 pm22 an22 cd22 ct22), sl22⟩) (c22 : PySem.W.codeIn K cd22 "_law_check" = true) (k22 : PySem.W.keepIn K (.ref f22) = true)
    (a23 : PySem.W.nsIn K mainGlobals "_law_holds" = some (some (.ref f23))) (l23 : K.lookup f23 = some ⟨oc23, od23, .func (PySem.W.fnOf "_law_holds" "_law_holds" (defArgs s_law_holds) (defBody s_law_holds) (defScope s_law_holds) .none kV23 dc23 pm23 an23 cd23 ct23), sl23⟩) (c23 : PySem.W.codeIn K cd23 "_law_holds" = true) (k23 : PySem.W.keepIn K (.ref f23) = true)
    (a24 : PySem.W.nsIn K mainGlobals "_law_composed" = some (some (.ref f24))) (l24 : K.lookup f24 = some ⟨oc24, od24, .func (PySem.W.fnOf "_law_composed" "_law_composed" (defArgs s_law_composed) (defBody s_law_composed) (defScope s_law_composed) .none kV24 dc24 pm24 an24 cd24 ct24), sl24⟩) (c24 : PySem.W.codeIn K cd24 "_law_composed" = true) (k24 : PySem.W.keepIn K (.ref f24) = true)
    (a25 : PySem.W.nsIn K mainGlobals "_law_small" = some (some (.ref f25))) (l25 : K.lookup f25 = some ⟨oc25, od25, .func (PySem.W.fnOf "_law_small" "_law_small" (defArgs s_law_small) (defBody s_law_small) (defScope s_law_small) .none kV25 dc25 pm25 an25 cd25 ct25), sl25⟩) (c25 : PySem.W.codeIn K cd25 "_law_small" = true) (k25 : PySem.W.keepIn K (.ref f25) = true)
    (a26 : PySem.W.nsIn K mainGlobals "_law_is_plain" = some (some (.ref f26))) (l26 : K.lookup f26 = some ⟨oc26, od26, .func (PySem.W.fnOf "_law_is_plain" "_law_is_plain" (defArgs s_law_is_plain) (defBody s_law_is_plain) (defScope s_law_is_plain) .none kV26 dc26 pm26 an26 cd26 ct26), sl26⟩) (c26 : PySem.W.codeIn K cd26 "_law_is_plain" = true) (k26 : PySem.W.keepIn K (.ref f26) = true)
    (a27 : PySem.W.nsIn K mainGlobals "_law_plain_ones" = some (some (.ref f27))) (l27 : K.lookup f27 = some ⟨oc27, od27, .func (PySem.W.fnOf "_law_plain_ones" "_law_plain_ones" (defArgs s_law_plain_ones) (defBody s_law_plain_ones) (defScope s_law_plain_ones) .none kV27 dc27 pm27 an27 cd27 ct27), sl27⟩) (c27 : PySem.W.codeIn K cd27 "_law_plain_ones" = true) (k27 : PySem.W.keepIn K (.ref f27) = true)
    (a28 : PySem.W.nsIn K mainGlobals "_law_composes" = some (some (.ref f28))) (l28 : K.lookup f28 = some ⟨oc28, od28, .func (PySem.W.fnOf "_law_composes" "_law_composes" (defArgs s_law_composes) (defBody s_law_composes) (defScope s_law_composes) .none kV28 dc28 pm28 an28 cd28 ct28), sl28⟩) (c28 : PySem.W.codeIn K cd28 "_law_composes" = true) (k28 : PySem.W.keepIn K (.ref f28) = true)
    (a29 : PySem.W.nsIn K mainGlobals "_law_wide" = some (some (.ref f29))) (l29 : K.lookup f29 = some ⟨oc29, od29, .func (PySem.W.fnOf "_law_wide" "_law_wide" (defArgs s_law_wide) (defBody s_law_wide) (defScope s_law_wide) .none kV29 dc29 pm29 an29 cd29 ct29), sl29⟩) (c29 : PySem.W.codeIn K cd29 "_law_wide" = true) (k29 : PySem.W.keepIn K (.ref f29) = true)
    (a30 : PySem.W.nsIn K mainGlobals "_law_valued" = some (some (.ref f30))) (l30 : K.lookup f30 = some ⟨oc30, od30, .func (PySem.W.fnOf "_law_valued" "_law_valued" (defArgs s_law_valued) (defBody s_law_valued) (defScope s_law_valued) .none kV30 dc30 pm30 an30 cd30 ct30), sl30⟩) (c30 : PySem.W.codeIn K cd30 "_law_valued" = true) (k30 : PySem.W.keepIn K (.ref f30) = true)
    (a31 : PySem.W.nsIn K mainGlobals "law" = some (some (.ref f31))) (l31 : K.lookup f31 = some ⟨oc31, od31, .func (PySem.W.fnOf "law" "law" (defArgs slaw) (defBody slaw) (defScope slaw) .none kV31 dc31 pm31 an31 cd31 ct31), sl31⟩) (c31 : PySem.W.codeIn K cd31 "law" = true) (k31 : PySem.W.keepIn K (.ref f31) = true)
    (z0 : PySem.W.nsIn K mainGlobals "all" = some none)
    (z1 : PySem.W.nsIn K mainGlobals "tuple" = some none)
    (z2 : PySem.W.nsIn K mainGlobals "sum" = some none)
    (z3 : PySem.W.nsIn K mainGlobals "abs" = some none)
    (z4 : PySem.W.nsIn K mainGlobals "int" = some none)
    (z5 : PySem.W.nsIn K mainGlobals "bool" = some none)
    (z6 : PySem.W.nsIn K mainGlobals "str" = some none)
    (z7 : PySem.W.nsIn K mainGlobals "list" = some none)
    (z8 : PySem.W.nsIn K mainGlobals "len" = some none)
    (z9 : PySem.W.nsIn K mainGlobals "range" = some none)
    (z10 : PySem.W.nsIn K mainGlobals "isinstance" = some none)
    (z11 : PySem.W.nsIn K mainGlobals "sorted" = some none)
    (z12 : PySem.W.nsIn K mainGlobals "max" = some none)
    : ∃ fd : FuncData, (∀ (s : Shared) (v : Value), BindsTo s fd ⟨[v], []⟩ [("script", v)]) ∧ ∀ base : Heap, K.In base → base.Ns mainGlobals mg → FnOk l.prog w K mg base CX0 9 fa fd ["script"] (spLaw K) := by
  have e := hfa.symm.trans (PySem.W.mg_of X G a31)
  cases e
  have B : Bt mg := ⟨PySem.W.mg_none_of X G z0, PySem.W.mg_none_of X G z1, PySem.W.mg_none_of X G z2, PySem.W.mg_none_of X G z3, PySem.W.mg_none_of X G z4, PySem.W.mg_none_of X G z5, PySem.W.mg_none_of X G z6, PySem.W.mg_none_of X G z7, PySem.W.mg_none_of X G z8, PySem.W.mg_none_of X G z9, PySem.W.mg_none_of X G z10, PySem.W.mg_none_of X G z11, PySem.W.mg_none_of X G z12⟩
  have F0 := fun_mk (st := swithout_zeros) l0 c0 k0
  have Twithout_zeros : Top K mg "without_zeros" swithout_zeros ["counts"] := ⟨_, _, F0, PySem.W.mg_of X G a0, F0.binds (ps := ["counts"]) fun _ _ _ _ _ _ us hl => match us, hl with | [_], _ => rfl⟩
  have F1 := fun_mk (st := stally_of) l1 c1 k1
  have Ttally_of : Top K mg "tally_of" stally_of ["pairs"] := ⟨_, _, F1, PySem.W.mg_of X G a1, F1.binds (ps := ["pairs"]) fun _ _ _ _ _ _ us hl => match us, hl with | [_], _ => rfl⟩
  have F2 := fun_mk (st := scol) l2 c2 k2
  have Tcol : Top K mg "col" scol ["column"] := ⟨_, _, F2, PySem.W.mg_of X G a2, F2.binds (ps := ["column"]) fun _ _ _ _ _ _ us hl => match us, hl with | [_], _ => rfl⟩
  have F3 := fun_mk (st := snum) l3 c3 k3
  have Tnum : Top K mg "num" snum ["number"] := ⟨_, _, F3, PySem.W.mg_of X G a3, F3.binds (ps := ["number"]) fun _ _ _ _ _ _ us hl => match us, hl with | [_], _ => rfl⟩
  have F4 := fun_mk (st := svalue_of) l4 c4 k4
  have Tvalue_of : Top K mg "value_of" svalue_of ["term", "row"] := ⟨_, _, F4, PySem.W.mg_of X G a4, F4.binds (ps := ["term", "row"]) fun _ _ _ _ _ _ us hl => match us, hl with | [_, _], _ => rfl⟩
  have F5 := fun_mk (st := svalues_of) l5 c5 k5
  have Tvalues_of : Top K mg "values_of" svalues_of ["terms", "row"] := ⟨_, _, F5, PySem.W.mg_of X G a5, F5.binds (ps := ["terms", "row"]) fun _ _ _ _ _ _ us hl => match us, hl with | [_, _], _ => rfl⟩
  have F6 := fun_mk (st := scompares) l6 c6 k6
  have Tcompares : Top K mg "compares" scompares ["left", "op", "right"] := ⟨_, _, F6, PySem.W.mg_of X G a6, F6.binds (ps := ["left", "op", "right"]) fun _ _ _ _ _ _ us hl => match us, hl with | [_, _, _], _ => rfl⟩
  have F7 := fun_mk (st := sholds) l7 c7 k7
  have Tholds : Top K mg "holds" sholds ["tests", "row"] := ⟨_, _, F7, PySem.W.mg_of X G a7, F7.binds (ps := ["tests", "row"]) fun _ _ _ _ _ _ us hl => match us, hl with | [_, _], _ => rfl⟩
  have F8 := fun_mk (st := scomposed) l8 c8 k8
  have Tcomposed : Top K mg "composed" scomposed ["term", "terms"] := ⟨_, _, F8, PySem.W.mg_of X G a8, F8.binds (ps := ["term", "terms"]) fun _ _ _ _ _ _ us hl => match us, hl with | [_, _], _ => rfl⟩
  have F9 := fun_mk (st := sis_plain) l9 c9 k9
  have Tis_plain : Top K mg "is_plain" sis_plain ["term"] := ⟨_, _, F9, PySem.W.mg_of X G a9, F9.binds (ps := ["term"]) fun _ _ _ _ _ _ us hl => match us, hl with | [_], _ => rfl⟩
  have F10 := fun_mk (st := s_law_source) l10 c10 k10
  have T_law_source : Top K mg "_law_source" s_law_source ["script"] := ⟨_, _, F10, PySem.W.mg_of X G a10, F10.binds (ps := ["script"]) fun _ _ _ _ _ _ us hl => match us, hl with | [_], _ => rfl⟩
  have F11 := fun_mk (st := s_law_mixed) l11 c11 k11
  have T_law_mixed : Top K mg "_law_mixed" s_law_mixed ["seed", "count"] := ⟨_, _, F11, PySem.W.mg_of X G a11, F11.binds (ps := ["seed", "count"]) fun _ _ _ _ _ _ us hl => match us, hl with | [_, _], _ => rfl⟩
  have F12 := fun_mk (st := s_law_draw) l12 c12 k12
  have T_law_draw : Top K mg "_law_draw" s_law_draw ["source", "many"] := ⟨_, _, F12, PySem.W.mg_of X G a12, F12.binds (ps := ["source", "many"]) fun _ _ _ _ _ _ us hl => match us, hl with | [_, _], _ => rfl⟩
  have F13 := fun_mk (st := s_law_number) l13 c13 k13
  have T_law_number : Top K mg "_law_number" s_law_number ["source"] := ⟨_, _, F13, PySem.W.mg_of X G a13, F13.binds (ps := ["source"]) fun _ _ _ _ _ _ us hl => match us, hl with | [_], _ => rfl⟩
  have F14 := fun_mk (st := s_law_same) l14 c14 k14
  have T_law_same : Top K mg "_law_same" s_law_same ["told", "due"] := ⟨_, _, F14, PySem.W.mg_of X G a14, F14.binds (ps := ["told", "due"]) fun _ _ _ _ _ _ us hl => match us, hl with | [_, _], _ => rfl⟩
  have F15 := fun_mk (st := s_law_size) l15 c15 k15
  have T_law_size : Top K mg "_law_size" s_law_size ["source"] := ⟨_, _, F15, PySem.W.mg_of X G a15, F15.binds (ps := ["source"]) fun _ _ _ _ _ _ us hl => match us, hl with | [_], _ => rfl⟩
  have F16 := fun_mk (st := s_law_factor) l16 c16 k16
  have T_law_factor : Top K mg "_law_factor" s_law_factor ["source", "last"] := ⟨_, _, F16, PySem.W.mg_of X G a16, F16.binds (ps := ["source", "last"]) fun _ _ _ _ _ _ us hl => match us, hl with | [_, _], _ => rfl⟩
  have F17 := fun_mk (st := s_law_parts) l17 c17 k17
  have T_law_parts : Top K mg "_law_parts" s_law_parts ["source", "width"] := ⟨_, _, F17, PySem.W.mg_of X G a17, F17.binds (ps := ["source", "width"]) fun _ _ _ _ _ _ us hl => match us, hl with | [_, _], _ => rfl⟩
  have F18 := fun_mk (st := s_law_expr) l18 c18 k18
  have T_law_expr : Top K mg "_law_expr" s_law_expr ["source", "width"] := ⟨_, _, F18, PySem.W.mg_of X G a18, F18.binds (ps := ["source", "width"]) fun _ _ _ _ _ _ us hl => match us, hl with | [_, _], _ => rfl⟩
  have F19 := fun_mk (st := s_law_exprs) l19 c19 k19
  have T_law_exprs : Top K mg "_law_exprs" s_law_exprs ["source", "many", "width"] := ⟨_, _, F19, PySem.W.mg_of X G a19, F19.binds (ps := ["source", "many", "width"]) fun _ _ _ _ _ _ us hl => match us, hl with | [_, _, _], _ => rfl⟩
  have F20 := fun_mk (st := s_law_value) l20 c20 k20
  have T_law_value : Top K mg "_law_value" s_law_value ["expr", "values"] := ⟨_, _, F20, PySem.W.mg_of X G a20, F20.binds (ps := ["expr", "values"]) fun _ _ _ _ _ _ us hl => match us, hl with | [_, _], _ => rfl⟩
  have F21 := fun_mk (st := s_law_compares) l21 c21 k21
  have T_law_compares : Top K mg "_law_compares" s_law_compares ["left", "op", "right"] := ⟨_, _, F21, PySem.W.mg_of X G a21, F21.binds (ps := ["left", "op", "right"]) fun _ _ _ _ _ _ us hl => match us, hl with | [_, _, _], _ => rfl⟩
  have F22 := fun_mk (st := s_law_check) l22 c22 k22
  have T_law_check : Top K mg "_law_check" s_law_check ["source", "values"] := ⟨_, _, F22, PySem.W.mg_of X G a22, F22.binds (ps := ["source", "values"]) fun _ _ _ _ _ _ us hl => match us, hl with | [_, _], _ => rfl⟩
  have F23 := fun_mk (st := s_law_holds) l23 c23 k23
  have T_law_holds : Top K mg "_law_holds" s_law_holds ["checks", "values"] := ⟨_, _, F23, PySem.W.mg_of X G a23, F23.binds (ps := ["checks", "values"]) fun _ _ _ _ _ _ us hl => match us, hl with | [_, _], _ => rfl⟩
  have F24 := fun_mk (st := s_law_composed) l24 c24 k24
  have T_law_composed : Top K mg "_law_composed" s_law_composed ["outer", "exprs"] := ⟨_, _, F24, PySem.W.mg_of X G a24, F24.binds (ps := ["outer", "exprs"]) fun _ _ _ _ _ _ us hl => match us, hl with | [_, _], _ => rfl⟩
  have F25 := fun_mk (st := s_law_small) l25 c25 k25
  have T_law_small : Top K mg "_law_small" s_law_small ["numbers"] := ⟨_, _, F25, PySem.W.mg_of X G a25, F25.binds (ps := ["numbers"]) fun _ _ _ _ _ _ us hl => match us, hl with | [_], _ => rfl⟩
  have F26 := fun_mk (st := s_law_is_plain) l26 c26 k26
  have T_law_is_plain : Top K mg "_law_is_plain" s_law_is_plain ["expr"] := ⟨_, _, F26, PySem.W.mg_of X G a26, F26.binds (ps := ["expr"]) fun _ _ _ _ _ _ us hl => match us, hl with | [_], _ => rfl⟩
  have F27 := fun_mk (st := s_law_plain_ones) l27 c27 k27
  have T_law_plain_ones : Top K mg "_law_plain_ones" s_law_plain_ones ["source", "exprs"] := ⟨_, _, F27, PySem.W.mg_of X G a27, F27.binds (ps := ["source", "exprs"]) fun _ _ _ _ _ _ us hl => match us, hl with | [_, _], _ => rfl⟩
  have F28 := fun_mk (st := s_law_composes) l28 c28 k28
  have T_law_composes : Top K mg "_law_composes" s_law_composes ["outer", "exprs"] := ⟨_, _, F28, PySem.W.mg_of X G a28, F28.binds (ps := ["outer", "exprs"]) fun _ _ _ _ _ _ us hl => match us, hl with | [_, _], _ => rfl⟩
  have F29 := fun_mk (st := s_law_wide) l29 c29 k29
  have T_law_wide : Top K mg "_law_wide" s_law_wide ["source"] := ⟨_, _, F29, PySem.W.mg_of X G a29, F29.binds (ps := ["source"]) fun _ _ _ _ _ _ us hl => match us, hl with | [_], _ => rfl⟩
  have F30 := fun_mk (st := s_law_valued) l30 c30 k30
  have T_law_valued : Top K mg "_law_valued" s_law_valued ["expr", "values"] := ⟨_, _, F30, PySem.W.mg_of X G a30, F30.binds (ps := ["expr", "values"]) fun _ _ _ _ _ _ us hl => match us, hl with | [_, _], _ => rfl⟩
  have F31 := fun_mk (st := slaw) l31 c31 k31
  have Tlaw : Top K mg "law" slaw ["script"] := ⟨_, _, F31, PySem.W.mg_of X G a31, F31.binds (ps := ["script"]) fun _ _ _ _ _ _ us hl => match us, hl with | [_], _ => rfl⟩
  have TKcol_column : TopK K mg "col" scol ["column"] ["column"] kwAp := ⟨_, _, kwAp, F2, PySem.W.mg_of X G a2, kwAp1 fun s u0 X => .of_eq rfl⟩
  have TKnum_number : TopK K mg "num" snum ["number"] ["number"] kwAp := ⟨_, _, kwAp, F3, PySem.W.mg_of X G a3, kwAp1 fun s u0 X => .of_eq rfl⟩
  have TKvalue_of_term_row : TopK K mg "value_of" svalue_of ["term", "row"] ["term", "row"] kwAp := ⟨_, _, kwAp, F4, PySem.W.mg_of X G a4, kwAp2 fun s u0 u1 X => .of_eq rfl⟩
  have TKvalues_of_terms_row : TopK K mg "values_of" svalues_of ["terms", "row"] ["terms", "row"] kwAp := ⟨_, _, kwAp, F5, PySem.W.mg_of X G a5, kwAp2 fun s u0 u1 X => .of_eq rfl⟩
  have TKholds_tests_row : TopK K mg "holds" sholds ["tests", "row"] ["tests", "row"] kwAp := ⟨_, _, kwAp, F7, PySem.W.mg_of X G a7, kwAp2 fun s u0 u1 X => .of_eq rfl⟩
  have TKcomposed_term_terms : TopK K mg "composed" scomposed ["term", "terms"] ["term", "terms"] kwAp := ⟨_, _, kwAp, F8, PySem.W.mg_of X G a8, kwAp2 fun s u0 u1 X => .of_eq rfl⟩
  have TKis_plain_term : TopK K mg "is_plain" sis_plain ["term"] ["term"] kwAp := ⟨_, _, kwAp, F9, PySem.W.mg_of X G a9, kwAp1 fun s u0 X => .of_eq rfl⟩
  refine ⟨PySem.W.fnOf "law" "law" (defArgs slaw) (defBody slaw) (defScope slaw) .none kV31 dc31 pm31 an31 cd31 ct31, fun s v => .of_eq rfl, fun base _ _ => ?_⟩
  have Dwz := d_without_zeros (P := l.prog) (w := w) (K := K) (base := base) B Twithout_zeros
  have Dta := d_tally_of B Ttally_of Dwz
  have Dco := d_col (P := l.prog) (w := w) (K := K) (base := base) B Tcol
  have Dcok := Dco.kw TKcol_column
  have Dnu := d_num (P := l.prog) (w := w) (K := K) (base := base) B Tnum
  have Dnuk := Dnu.kw TKnum_number
  have Dvo := d_value_of (P := l.prog) (w := w) (K := K) (base := base) B Tvalue_of
  have Dvok := Dvo.kw TKvalue_of_term_row
  have Dvs := d_values_of B Tvalues_of Dvo
  have Dvsk := Dvs.kw TKvalues_of_terms_row
  have Dcm := d_compares (P := l.prog) (w := w) (K := K) (base := base) B Tcompares
  have Dho := d_holds B Tholds Dvo Dcm
  have Dhok := Dho.kw TKholds_tests_row
  have Dcp := d_composed B Tcomposed Dta
  have Dcpk := Dcp.kw TKcomposed_term_terms
  have Dip := d_is_plain (P := l.prog) (w := w) (K := K) (base := base) B Tis_plain
  have Dipk := Dip.kw TKis_plain_term
  have Lso := d_law_source (P := l.prog) (w := w) (K := K) (base := base) B T_law_source
  have Lmi := d_law_mixed (P := l.prog) (w := w) (K := K) (base := base) B T_law_mixed
  have Ldr := d_law_draw B T_law_draw Lmi
  have Lnu := d_law_number B T_law_number Ldr
  have Lsa := d_law_same (P := l.prog) (w := w) (K := K) (base := base) B T_law_same 4
  have Lsi := d_law_size B T_law_size Ldr
  have Lfa := d_law_factor B T_law_factor Ldr Lnu
  have Lpa := d_law_parts B T_law_parts Ldr Lfa
  have Lex := d_law_expr B T_law_expr Ldr Lnu Lpa
  have Les := d_law_exprs B T_law_exprs Ldr Lex
  have Lva := d_law_value (P := l.prog) (w := w) (K := K) (base := base) B T_law_value
  have Lcm := d_law_compares (P := l.prog) (w := w) (K := K) (base := base) B T_law_compares
  have Lch := d_law_check B T_law_check Ldr Lex Lva Lcm
  have Lho := d_law_holds B T_law_holds Lva Lcm
  have Lco := d_law_composed (P := l.prog) (w := w) (K := K) (base := base) B T_law_composed
  have Lsm := d_law_small (P := l.prog) (w := w) (K := K) (base := base) B T_law_small
  have Lip := d_law_is_plain (P := l.prog) (w := w) (K := K) (base := base) B T_law_is_plain
  have Lpo := d_law_plain_ones B T_law_plain_ones Ldr Lnu Lfa Lsa Dco Dcok Dnu Dnuk Dip Dipk Lip
  have Lcs := d_law_composes B T_law_composes Lco Dcp Dcpk Lsa
  have Lwi := d_law_wide B T_law_wide Ldr Lex Les Lcs Lpo
  have Lvd := d_law_valued B T_law_valued Lva Dvo Dvok Lsa
  have D := d_law B Tlaw Lso Ldr Lwi Lnu Lsi Les Lex Lch Lcs Lpo Lva Lsa Dvs Dvsk Lvd Lsm Dcp Dip Lip Lho Dho Dhok
  obtain ⟨f, fd', F, g, _, _, _, _, _, lk⟩ := D
  obtain rfl : fa = f := Value.ref.inj (Option.some.inj ((PySem.W.mg_of X G a31).symm.trans g))
  rw [l31] at lk
  cases lk
  exact F
end
end K12
open PySem PySem.W PyProof.Rows
set_option maxHeartbeats 0 in
theorem PySem.Challenge.cw_deltamill_k12_terms_by_values_holds : PySem.Challenge.rw_deltamill_k12_terms_by_values.Holds := by
  w_on; o_law; k_head; (case hw => w_witness2)
  k_fill
  refine L2.walk_of (l := PySem.Challenge.rw_deltamill_k12_terms_by_values) (n := 63) (k := 9) (x := "script") (CX := fun _ => L2.CX0) (sp := fun w => K12.spLaw _) rfl (by decide) rfl ⟨rfl, by decide, by decide⟩ (fun w h Y => PySem.W.kIn_of Y) ?F (fun _ _ a ns hl _ hS => ⟨a, ns, rfl, hS, hl, fun _ => rfl⟩) (fun _ _ _ _ _ h => h)
  case F =>
    intro w mg fa h KX G hmg
    refine' K12.all_mk KX G hmg ?a0 ?l0 ?c0 ?k0 ?a1 ?l1 ?c1 ?k1 ?a2 ?l2 ?c2 ?k2 ?a3 ?l3 ?c3 ?k3 ?a4 ?l4 ?c4 ?k4 ?a5 ?l5 ?c5 ?k5 ?a6 ?l6 ?c6 ?k6 ?a7 ?l7 ?c7 ?k7 ?a8 ?l8 ?c8 ?k8 ?a9 ?l9 ?c9 ?k9 ?a10 ?l10 ?c10 ?k10 ?a11 ?l11 ?c11 ?k11 ?a12 ?l12 ?c12 ?k12 ?a13 ?l13 ?c13 ?k13 ?a14 ?l14 ?c14 ?k14 ?a15 ?l15 ?c15 ?k15 ?a16 ?l16 ?c16 ?k16 ?a17 ?l17 ?c17 ?k17 ?a18 ?l18 ?c18 ?k18 ?a19 ?l19 ?c19 ?k19 ?a20 ?l20 ?c20 ?k20 ?a21 ?l21 ?c21 ?k21 ?a22 ?l22 ?c22 ?k22 ?a23 ?l23 ?c23 ?k23 ?a24 ?l24 ?c24 ?k24 ?a25 ?l25 ?c25 ?k25 ?a26 ?l26 ?c26 ?k26 ?a27 ?l27 ?c27 ?k27 ?a28 ?l28 ?c28 ?k28 ?a29 ?l29 ?c29 ?k29 ?a30 ?l30 ?c30 ?k30 ?a31 ?l31 ?c31 ?k31 ?z0 ?z1 ?z2 ?z3 ?z4 ?z5 ?z6 ?z7 ?z8 ?z9 ?z10 ?z11 ?z12
    (case a0 => k_is); (case l0 => k_is); (case c0 => k_is); (case k0 => k_is); (case a1 => k_is); (case l1 => k_is); (case c1 => k_is); (case k1 => k_is); (case a2 => k_is); (case l2 => k_is); (case c2 => k_is); (case k2 => k_is); (case a3 => k_is); (case l3 => k_is); (case c3 => k_is); (case k3 => k_is); (case a4 => k_is); (case l4 => k_is); (case c4 => k_is); (case k4 => k_is); (case a5 => k_is); (case l5 => k_is); (case c5 => k_is); (case k5 => k_is); (case a6 => k_is); (case l6 => k_is); (case c6 => k_is); (case k6 => k_is); (case a7 => k_is); (case l7 => k_is); (case c7 => k_is); (case k7 => k_is); (case a8 => k_is); (case l8 => k_is); (case c8 => k_is); (case k8 => k_is); (case a9 => k_is); (case l9 => k_is); (case c9 => k_is); (case k9 => k_is); (case a10 => k_is); (case l10 => k_is); (case c10 => k_is); (case k10 => k_is); (case a11 => k_is); (case l11 => k_is); (case c11 => k_is); (case k11 => k_is); (case a12 => k_is); (case l12 => k_is); (case c12 => k_is); (case k12 => k_is); (case a13 => k_is); (case l13 => k_is); (case c13 => k_is); (case k13 => k_is); (case a14 => k_is); (case l14 => k_is); (case c14 => k_is); (case k14 => k_is); (case a15 => k_is); (case l15 => k_is); (case c15 => k_is); (case k15 => k_is); (case a16 => k_is); (case l16 => k_is); (case c16 => k_is); (case k16 => k_is); (case a17 => k_is); (case l17 => k_is); (case c17 => k_is); (case k17 => k_is); (case a18 => k_is); (case l18 => k_is); (case c18 => k_is); (case k18 => k_is); (case a19 => k_is); (case l19 => k_is); (case c19 => k_is); (case k19 => k_is); (case a20 => k_is); (case l20 => k_is); (case c20 => k_is); (case k20 => k_is); (case a21 => k_is); (case l21 => k_is); (case c21 => k_is); (case k21 => k_is); (case a22 => k_is); (case l22 => k_is); (case c22 => k_is); (case k22 => k_is); (case a23 => k_is); (case l23 => k_is); (case c23 => k_is); (case k23 => k_is); (case a24 => k_is); (case l24 => k_is); (case c24 => k_is); (case k24 => k_is); (case a25 => k_is); (case l25 => k_is); (case c25 => k_is); (case k25 => k_is); (case a26 => k_is); (case l26 => k_is); (case c26 => k_is); (case k26 => k_is); (case a27 => k_is); (case l27 => k_is); (case c27 => k_is); (case k27 => k_is); (case a28 => k_is); (case l28 => k_is); (case c28 => k_is); (case k28 => k_is); (case a29 => k_is); (case l29 => k_is); (case c29 => k_is); (case k29 => k_is); (case a30 => k_is); (case l30 => k_is); (case c30 => k_is); (case k30 => k_is); (case a31 => k_is); (case l31 => k_is); (case c31 => k_is); (case k31 => k_is); (case z0 => k_is); (case z1 => k_is); (case z2 => k_is); (case z3 => k_is); (case z4 => k_is); (case z5 => k_is); (case z6 => k_is); (case z7 => k_is); (case z8 => k_is); (case z9 => k_is); (case z10 => k_is); (case z11 => k_is); (case z12 => k_is)
