import PyProof.Rows.All
import Wide.All
import OpenK.AllK
import Wide.FinOn
import HandS.ForMost
import HandS.Zip
import HandS.Conv
import HandS.TupAny
import HandS.TupLe
import HandS.Wide
import HandS.Style
import HandS.IsInst
import HandS.Flow
import HandS.More
import HandS.Walk
import HandS.MakeKwOnly
import HandS.Evl
import HandS.TupSets
import HandS.TupMul
import HandS.Deep
import HandS.DictComp
import HandS.DictTup
import HandS.SortInts
import HandS.SortRule
import HandS.ListItems
import HandS.SetKeys
import HandS.NamedTupSort
import KE.SortData
import KE.KEqDict
import PyProof.DictFindH
import PyProof.DictMoreH
import HandS.SetBool
import KE.KeyNested
import HandS.Star
import HandS.CallLocal
import KE.DataEq
import HandS.Strs
import HandS.DictSubView
import KE.KDictList
import KE.KDictKeyed
import KE.DataMinMax
import PyProof.TupleOfSeq
import KE.KDictSum
import HandS.TupLen
import KE.KRevSl
import OpenK.KMeth
import HandS.ClsMeth
import HandS.OwnEq
import PyProof.StrOps2
import HandS.SortKw
import PyProof.P3Eq
import PySem.Challenge.RW_deltamill_k00_moments_in_order
set_option Elab.async false
set_option linter.all false
set_option maxRecDepth 100000
set_option maxHeartbeats 8000000
/-! The common layer of the laws about deltamill: defs by name, moments, pots. -/
namespace L2
open PySem PySem.Spec PyProof.Rows

/-! ### defs by name -/
/-- the def x stands behind the top -/
def Top (K : PySem.W.Frag) (mg : Str → Option Value) (x : Str) (st : Stmt) (ps : List Str) : Prop :=
  ∃ (f : Addr) (fd : FuncData), Fun K x x st f fd ∧ mg x = some (.ref f) ∧ Binds K fd ps []
/-- the def x keeps the promise sp -/
def Def (P : Program) (w : World) (K : PySem.W.Frag) (mg : Str → Option Value) (base : Heap) (x : Str) (k : Nat) (ps : List Str) (sp : Sp) : Prop :=
  ∃ (f : Addr) (fd : FuncData), FnOk P w K mg base CX0 k f fd ps sp ∧ mg x = some (.ref f) ∧ PySem.W.keepIn K (.ref f) = true ∧ Binds K fd ps [] ∧ ∃ (oc : Value) (od : Option Addr) (osl : Array (Option Value)), K.lookup f = some ⟨oc, od, .func fd, osl⟩
/-- .. and is called by keywords -/
def DefK (P : Program) (w : World) (K : PySem.W.Frag) (mg : Str → Option Value) (base : Heap) (x : Str) (k : Nat) (ps ks : List Str) (gV : List V → List V → List V) (sp : Sp) : Prop :=
  ∃ (f : Addr) (fd : FuncData) (g : List Value → List Value → List Value), FnOk P w K mg base CX0 k f fd ps sp ∧ mg x = some (.ref f) ∧ PySem.W.keepIn K (.ref f) = true ∧ KBinds K fd ps ks g gV
def TopK (K : PySem.W.Frag) (mg : Str → Option Value) (x : Str) (st : Stmt) (ps ks : List Str) (gV : List V → List V → List V) : Prop :=
  ∃ (f : Addr) (fd : FuncData) (g : List Value → List Value → List Value), Fun K x x st f fd ∧ mg x = some (.ref f) ∧ KBinds K fd ps ks g gV
section
variable {P : Program} {w : World} {K : PySem.W.Frag} {mg : Str → Option Value} {base : Heap} {x : Str} {st : Stmt} {ps N : List Str} {k : Nat} {sp : Sp}
theorem mk_def (T : Top K mg x st ps) (S : FnScope N ps (defScope st)) (len : ∀ vs H Q E, sp vs H Q E → vs.length = ps.length)
    (hbody : ∀ (f : Addr) (cdv : Value) (A : Around) (outer : List Env) (s : Shared) (H : Hp) (vs : List V) (Q : VK) (E : XK), Room k (A.deeper (envOfC x (defScope st) s.heap.objs.size f cdv)) → sp vs H Q E →
      ∃ t, PSs (cxOf CX0 P w K mg base N x (defScope st) f cdv A outer s H E).nox (defBody st) t ∧ t { nx := fun _ H' => Q .non H', rt := Q } (start N vs) H) :
    Def P w K mg base x (k + 1) ps sp := by
  obtain ⟨f, fd, F, g, b⟩ := T
  obtain ⟨oc, _, _, _, _, _, _, _, osl, _, lk, _⟩ := id F.ex
  exact ⟨f, fd, F.ok S len (hbody f), g, F.kp, b, _, _, _, lk⟩
theorem Def.kw {ks : List Str} {gV : List V → List V → List V} (D : Def P w K mg base x k ps sp) (T : TopK K mg x st ps ks gV) : DefK P w K mg base x k ps ks gV sp := by
  obtain ⟨f, fd, F, g, kp, _, _, _, _, lk⟩ := D
  obtain ⟨f', fd', g', F', m', b'⟩ := T
  obtain rfl : f' = f := Value.ref.inj (Option.some.inj (m'.symm.trans g))
  obtain ⟨oc, _, _, _, _, _, _, _, osl, _, lk', _⟩ := id F'.ex
  rw [lk] at lk'
  cases lk'
  exact ⟨f', fd, g', F, g, kp, b'⟩
theorem Def.mono {j : Nat} (h : Def P w K mg base x j ps sp) (hk : j ≤ k) : Def P w K mg base x k ps sp := by
  obtain ⟨f, fd, F, r⟩ := h
  exact ⟨f, fd, F.mono hk, r⟩
end
section
variable {X : Cx} {x : Str} {k : Nat} {ps : List Str} {sp : Sp} {p pos : Pos} {e : Expr} {es : List Expr} {t : TA}
/-- f(e, ..) -/
theorem pe_def (D : Def X.prog X.w X.K X.mg X.base x k ps sp) (hr : Room k X.A) (hg : Gl X x) (ha : PA X (e :: es) t) (hdb : (x == ("__debug__" : Str)) = false := by decide)
    (he : starEach (e :: es) X.env = (false, eval e X.env) :: starEach es X.env := by rfl) (hpl : (backTo pos (starEach es X.env)).any (·.1) = false := by rfl) :
    PE X (.Call (.Name x p) (e :: es) [] pos) (tCall sp [] E0 t) := by
  obtain ⟨f, fd, F, g, kp, b, _⟩ := D
  exact pe_call F hr hg g kp b .nil pass0 ha hdb he hpl
/-- f(k = v, ..) -/
theorem pe_defK0 {ks : List Str} {gV : List V → List V → List V} {kws : List Keyword} {tk : TA} (D : DefK X.prog X.w X.K X.mg X.base x k ps ks gV sp) (hr : Room k X.A) (hg : Gl X x) (hkw : PK X kws tk)
    (hall : (backToKw pos (keywordEach kws X.env)).all (·.1.isSome) = true := by rfl) (hks : (backToKw pos (keywordEach kws X.env)).filterMap (·.1) = ks := by rfl) (hdb : (x == ("__debug__" : Str)) = false := by decide)
    (hpl : ((backTo pos (starEach [] X.env)).any (·.1) || (backToKw pos (keywordEach kws X.env)).any (·.1.isNone)) = false := by rfl) :
    PE X (.Call (.Name x p) [] kws pos) (tCallK sp gV E0 tNil tk) := by
  obtain ⟨f, fd, g, F, hm, kp, b⟩ := D
  refine ⟨fun pins s σ H Q I h => ?_⟩
  refine wpAny_Call_Name_kw (ld_glob I hg hm ?_ hdb)
  refine PySem.W.callWith_KW0 (h₀ := X.base) I.ok.mod.kin kp hall ?_ hpl
  refine thn (hkw.run pos pins s σ H _ I h) fun ws s2 ⟨zs, H2, I2, rz, q2⟩ => ⟨I2.kIn, ?_⟩
  rw [hks]
  exact run_fnk (us := []) (vs := []) F hr b pass0 I2 .nil rz q2
end
/-! ### heaps -/
/-- all that was tracked but p stays -/
def SameB (p : Addr) (H H' : Hp) : Prop := ∀ b o, b ≠ p → H b = some o → H' b = some o
theorem SameB.refl (p : Addr) (H : Hp) : SameB p H H := fun _ _ _ h => h
theorem SameB.trans {p : Addr} {H H1 H2 : Hp} (a : SameB p H H1) (b : SameB p H1 H2) : SameB p H H2 := fun c o n h => b c o n (a c o n h)
theorem Same.b {p : Addr} {H H' : Hp} (a : Same H H') : SameB p H H' := fun c o _ h => a c o h
theorem SameB.upd {p : Addr} {H : Hp} {o : HO} : SameB p H (upd H p o) := fun b u n h => by
  rw [upd_ne n]
  exact h
theorem same_upd {H : Hp} {p : Addr} {o : HO} (h : H p = none) : Same H (upd H p o) := fun b x e => by
  rw [upd_ne (ne_of_none e h)]
  exact e
/-- a new object may change -/
theorem Same.mut {H H' : Hp} {p : Addr} {o : HO} (e : Same H H') (h : H p = none) : Same H (upd H' p o) := fun a u ha => by
  rw [upd_ne (ne_of_none ha h)]
  exact e a u ha
theorem Same.seqT {K : PySem.W.Frag} {H H' : Hp} {a : Addr} {xs : List V} (e : Same H H') (h : SqT K H a xs) : SqT K H' a xs := by
  rcases h with (h | ⟨o, h⟩) | h
  · exact .inl (.inl (e _ _ h))
  · exact .inl (.inr ⟨o, e _ _ h⟩)
  · exact .inr h
theorem Same.new {H H1 : Hp} {p : Addr} (e : Same H H1) (h : H1 p = none) : H p = none := by
  cases q : H p with
  | none => rfl
  | some o =>
    rw [e p o q] at h
    cases h
end L2

namespace L2
open PySem PySem.Spec PyProof.Rows

/-! ### data: tuples are tracked -/
mutual
inductive Da (K : PySem.W.Frag) (H : Hp) : V → PyData → Prop
  | non : Da K H .non .none
  | bl (b : Bool) : Da K H (.bl b) (.bool b)
  | int (i : Int) : Da K H (.int i) (.int i)
  | str (x : Str) : Da K H (.str x) (.str x)
  | lst {a : Addr} {xs : List V} {ds : List PyData} : SqL K H a xs → DaAll K H xs ds → Da K H (.ref a) (.list ds)
  | tup {a : Addr} {xs : List V} {ds : List PyData} : H a = some (.tup xs) → DaAll K H xs ds → Da K H (.ref a) (.tuple ds)
inductive DaAll (K : PySem.W.Frag) (H : Hp) : List V → List PyData → Prop
  | nil : DaAll K H [] []
  | cons {v : V} {vs : List V} {d : PyData} {ds : List PyData} : Da K H v d → DaAll K H vs ds → DaAll K H (v :: vs) (d :: ds)
end
mutual
theorem Da.dp {K : PySem.W.Frag} {H : Hp} : ∀ (d : PyData) (v : V), Da K H v d → Dp K H v d
  | .none, _, h => by
    cases h
    exact .non
  | .bool b, _, h => by
    cases h
    exact .bl b
  | .int i, _, h => by
    cases h
    exact .int i
  | .str x, _, h => by
    cases h
    exact .str x
  | .tuple ds, _, h => by
    cases h with
    | tup hs ha => exact .tup (SqT.of hs) (Da.dpAll ds _ ha)
  | .list ds, _, h => by
    cases h with
    | lst hs ha => exact .lst hs (Da.dpAll ds _ ha)
  | .dict _, _, h => by cases h
theorem Da.dpAll {K : PySem.W.Frag} {H : Hp} : ∀ (ds : List PyData) (vs : List V), DaAll K H vs ds → DpAll K H vs ds
  | [], _, h => by
    cases h
    exact .nil
  | d :: ds, _, h => by
    cases h with
    | cons h1 h2 => exact .cons (Da.dp d _ h1) (Da.dpAll ds _ h2)
end
/-! ### tuples stay -/
def ST (_ : PySem.W.Frag) (H H' : Hp) : Prop := ∀ a xs, H a = some (.tup xs) → H' a = some (.tup xs)
theorem ST.refl {K : PySem.W.Frag} (H : Hp) : ST K H H := fun _ _ h => h
theorem ST.trans {K : PySem.W.Frag} {H H1 H2 : Hp} (a : ST K H H1) (b : ST K H1 H2) : ST K H H2 := fun x o h => b x o (a x o h)
theorem Same.st {K : PySem.W.Frag} {H H' : Hp} (e : Same H H') : ST K H H' := fun _ _ h => e _ _ h
/-- what is no tuple may change -/
def NoTup : HO → Prop
  | .tup _ => False
  | _ => True
theorem SameB.st {K : PySem.W.Frag} {H H' : Hp} {p : Addr} {o : HO} (e : SameB p H H') (h : H p = some o) (n : NoTup o) : ST K H H' := fun a xs q => by
  refine e a _ (fun z => ?_) q
  subst z
  rw [h] at q
  cases q
  exact n
theorem st_upd {K : PySem.W.Frag} {H : Hp} {p : Addr} {o u : HO} (h : H p = some o) (n : NoTup o) : ST K H (upd H p u) := SameB.st SameB.upd h n

/-! ### immutable data -/
mutual
def imm : PyData → Bool
  | .none => true
  | .bool _ => true
  | .int _ => true
  | .str _ => true
  | .tuple ds => immAll ds
  | .list _ => false
  | .dict _ => false
def immAll : List PyData → Bool
  | [] => true
  | d :: ds => imm d && immAll ds
end
mutual
theorem Da.st {K : PySem.W.Frag} {H H' : Hp} (e : ST K H H') : ∀ (d : PyData) (v : V), imm d = true → Da K H v d → Da K H' v d
  | .none, _, _, h => by
    cases h
    exact .non
  | .bool b, _, _, h => by
    cases h
    exact .bl b
  | .int i, _, _, h => by
    cases h
    exact .int i
  | .str x, _, _, h => by
    cases h
    exact .str x
  | .tuple ds, _, hi, h => by
    cases h with
    | tup hs ha => exact .tup (e _ _ hs) (Da.stAll e ds _ hi ha)
  | .list _, _, hi, _ => by cases hi
  | .dict _, _, hi, _ => by cases hi
theorem Da.stAll {K : PySem.W.Frag} {H H' : Hp} (e : ST K H H') : ∀ (ds : List PyData) (vs : List V), immAll ds = true → DaAll K H vs ds → DaAll K H' vs ds
  | [], _, _, h => by
    cases h
    exact .nil
  | d :: ds, _, hi, h => by
    cases h with
    | cons h1 h2 =>
      have hi' : (imm d && immAll ds) = true := hi
      rw [Bool.and_eq_true] at hi'
      exact .cons (Da.st e d _ hi'.1 h1) (Da.stAll e ds _ hi'.2 h2)
end
mutual
/-- all that was tracked stays: data of any kind -/
theorem Da.same {K : PySem.W.Frag} {H H' : Hp} (e : Same H H') : ∀ (d : PyData) (v : V), Da K H v d → Da K H' v d
  | .none, _, h => by
    cases h
    exact .non
  | .bool b, _, h => by
    cases h
    exact .bl b
  | .int i, _, h => by
    cases h
    exact .int i
  | .str x, _, h => by
    cases h
    exact .str x
  | .tuple ds, _, h => by
    cases h with
    | tup hs ha => exact .tup (e _ _ hs) (Da.sameAll e ds _ ha)
  | .list ds, _, h => by
    cases h with
    | lst hs ha => exact .lst (e.seq hs) (Da.sameAll e ds _ ha)
  | .dict _, _, h => by cases h
theorem Da.sameAll {K : PySem.W.Frag} {H H' : Hp} (e : Same H H') : ∀ (ds : List PyData) (vs : List V), DaAll K H vs ds → DaAll K H' vs ds
  | [], _, h => by
    cases h
    exact .nil
  | d :: ds, _, h => by
    cases h with
    | cons h1 h2 => exact .cons (Da.same e d _ h1) (Da.sameAll e ds _ h2)
end
theorem DaAll.length {K : PySem.W.Frag} {H : Hp} : ∀ {vs : List V} {ds : List PyData}, DaAll K H vs ds → vs.length = ds.length
  | _, _, .nil => rfl
  | _, _, .cons _ t => congrArg (· + 1) (DaAll.length t)
theorem DaAll.snoc {K : PySem.W.Frag} {H : Hp} {v : V} {d : PyData} (h : Da K H v d) : ∀ {vs : List V} {ds : List PyData}, DaAll K H vs ds → DaAll K H (vs ++ [v]) (ds ++ [d])
  | _, _, .nil => .cons h .nil
  | _, _, .cons r t => .cons r (DaAll.snoc h t)
theorem DaAll.append {K : PySem.W.Frag} {H : Hp} {us : List V} {es : List PyData} (h : DaAll K H us es) : ∀ {vs : List V} {ds : List PyData}, DaAll K H vs ds → DaAll K H (vs ++ us) (ds ++ es)
  | _, _, .nil => h
  | _, _, .cons r t => .cons r (DaAll.append h t)
theorem DaAll.get {K : PySem.W.Frag} {H : Hp} : ∀ {vs : List V} {ds : List PyData} {i : Nat} {v : V}, DaAll K H vs ds → vs[i]? = some v → ∃ d, ds[i]? = some d ∧ Da K H v d
  | _, _, _, _, .nil, e => by simp at e
  | _, _, 0, _, .cons r _, e => by
    simp at e
    subst e
    exact ⟨_, rfl, r⟩
  | _, _, i + 1, v, .cons _ t, e => by
    obtain ⟨d, h1, h2⟩ := DaAll.get (i := i) (v := v) t (by simpa using e)
    exact ⟨d, by simpa using h1, h2⟩
theorem DaAll.at {K : PySem.W.Frag} {H : Hp} : ∀ {vs : List V} {ds : List PyData} {i : Nat} {d : PyData}, DaAll K H vs ds → ds[i]? = some d → ∃ v, vs[i]? = some v ∧ Da K H v d
  | _, _, _, _, .nil, e => by simp at e
  | _, _, 0, _, .cons r _, e => by
    simp at e
    subst e
    exact ⟨_, rfl, r⟩
  | _, _, i + 1, d, .cons _ t, e => by
    obtain ⟨v, h1, h2⟩ := DaAll.at (i := i) (d := d) t (by simpa using e)
    exact ⟨v, by simpa using h1, h2⟩
theorem DaAll.ints {K : PySem.W.Frag} {H : Hp} : ∀ {vs : List V} {ns : List Int}, DaAll K H vs (ns.map PyData.int) → vs = ns.map V.int
  | _, [], .nil => rfl
  | _, n :: ns, .cons r t => by
    cases r
    rw [DaAll.ints (ns := ns) t]
    rfl
theorem da_ints {K : PySem.W.Frag} {H : Hp} : ∀ ns : List Int, DaAll K H (ns.map V.int) (ns.map PyData.int)
  | [] => .nil
  | n :: ns => .cons (.int n) (da_ints ns)
theorem imm_ints : ∀ ns : List Int, immAll (ns.map PyData.int) = true
  | [] => rfl
  | n :: ns => by
    show (imm (.int n) && immAll (ns.map PyData.int)) = true
    rw [imm_ints ns]
    rfl
/-- a moment (or a row of ints) -/
def mo (m : List Int) : PyData := .tuple (m.map .int)
abbrev Mo (K : PySem.W.Frag) (H : Hp) (v : V) (m : List Int) : Prop := Da K H v (mo m)
theorem imm_mo (m : List Int) : imm (mo m) = true := imm_ints m
theorem Mo.inv {K : PySem.W.Frag} {H : Hp} {v : V} {m : List Int} (h : Mo K H v m) : ∃ a, v = .ref a ∧ SqT K H a (m.map V.int) := by
  cases h with
  | tup hs ha =>
    rw [DaAll.ints ha] at hs
    exact ⟨_, rfl, SqT.of hs⟩
theorem Mo.trk {K : PySem.W.Frag} {H : Hp} {v : V} {m : List Int} (h : Mo K H v m) : ∃ a, v = .ref a ∧ H a = some (.tup (m.map V.int)) := by
  cases h with
  | tup hs ha =>
    rw [DaAll.ints ha] at hs
    exact ⟨_, rfl, hs⟩
theorem Mo.of {K : PySem.W.Frag} {H : Hp} {a : Addr} {m : List Int} (h : H a = some (.tup (m.map V.int))) : Mo K H (.ref a) m := .tup h (da_ints m)
theorem Mo.st {K : PySem.W.Frag} {H H' : Hp} {v : V} {m : List Int} (h : Mo K H v m) (e : ST K H H') : Mo K H' v m := Da.st e _ _ (imm_mo m) h
theorem Mo.same {K : PySem.W.Frag} {H H' : Hp} {v : V} {m : List Int} (h : Mo K H v m) (e : Same H H') : Mo K H' v m := h.st e.st

/-! ### walks -/
theorem walk_zipT {K : PySem.W.Frag} {a b : Addr} {xs ys : List V} (hl : xs.length = ys.length) : Walk (RZ.ItzT K a b) xs.length (fun H => SqT K H a xs ∧ SqT K H b ys) (YPair (fun i => xs[i]?) (fun i => ys[i]?)) := by
  refine ⟨fun i _ hi q => ?_, fun _ q => ⟨xs, ys, q.1, q.2, .inl (Nat.le_refl _)⟩, fun i H v H' _ q y => ?_⟩
  · have h2 : i < ys.length := by omega
    exact ⟨xs, ys, xs[i], ys[i], q.1, q.2, by simp [hi], by simp [h2]⟩
  · obtain ⟨T, x, z, h1, h2, h3, h4, h5⟩ := y
    exact ⟨T, x, z, h1, h2, h3, h4 xs q.1, h5 ys q.2⟩

/-! ### comprehensions -/
section
variable {J : It} {n : Nat} {G : Hp → Prop} {Y : Nat → Hp → V → Hp → Prop} {K : PySem.W.Frag}
/-- what lc_it gives, by name -/
abbrev LcGoal (J : It) (g : TG) (tt : TT) (te : TE) (vs : List Nat) (σ : L2.St) (H1 : Hp) (D : Addr) (Qd : Hp → Prop) : Prop :=
  ∃ W : Nat → Nat → Hp → Prop, (∃ m, W 0 m (upd H1 D (.lst []))) ∧ ∀ i m H, W i m H →
      (J.stop i H ∧ Qd H) ∨ (J.go i H ∧ ∃ Nx : Hp → Prop, (∀ H', Nx H' → ∃ m', m' < m ∧ W (i + 1) m' H') ∧ ∀ x H', J.yld i H x H' → g x (wipe σ vs) H' fun σ2 H2 => wipe σ2 vs = wipe σ vs ∧ tt σ2 H2 fun b H3 =>
        if b = true then te σ2 H3 fun y H4 => ∃ acc, H4 D = some (.lst acc) ∧ acc.length < sizeLine ∧ Nx (upd H4 D (.lst (acc ++ [y]))) else Nx H3)
/-- all elements are values told ahead -/
theorem lc_val (w : Walk J n G Y) {g : TG} {te : TE} {vs : List Nat} {σ : L2.St} {H1 : Hp} {D : Addr} {Qd : Hp → Prop} (hD : H1 D = none) (hn : n ≤ 100000) (hG : ∀ H, Same H1 H → G H) (fs : List V) (hl : fs.length = n)
    (step : ∀ i x H H' (Q : VK), i < n → Same H1 H → Y i H x H' → (∀ y H4, Same H H4 → fs[i]? = some y → Q y H4) → g x (wipe σ vs) H' fun σ2 H2 => wipe σ2 vs = wipe σ vs ∧ te σ2 H2 Q)
    (hd : ∀ H, Same H1 H → H D = some (.lst fs) → Qd H) : LcGoal J g tYes te vs σ H1 D Qd := by
  refine lc_it w (fun i H => Same H1 H ∧ H D = some (.lst (fs.take i))) ⟨same_upd hD, upd_same⟩ (fun i H _ p => hG H p.1) (fun i x H H' hi p y => ?_) (fun H p => ?_)
  · refine step i x H H' _ hi p.1 y fun v H4 e he => ⟨_, e _ _ p.2, ?_, (p.1.trans e).mut hD, ?_⟩
    · rw [List.length_take]
      exact Nat.lt_of_le_of_lt (Nat.min_le_left _ _) (Nat.lt_of_lt_of_le hi (Nat.le_trans hn (by decide)))
    · rw [upd_same, List.take_add_one, he]
      rfl
  · refine hd H p.1 ?_
    rw [p.2, List.take_of_length_le (Nat.le_of_eq hl)]
/-- all elements are immutable data told ahead -/
theorem lc_dat (w : Walk J n G Y) {g : TG} {te : TE} {vs : List Nat} {σ : L2.St} {H1 : Hp} {D : Addr} {Qd : Hp → Prop} (hD : H1 D = none) (hn : n ≤ 100000) (hG : ∀ H, Same H1 H → G H) (ds : List PyData) (hl : ds.length = n) (him : immAll ds = true)
    (step : ∀ i x H H' (Q : VK), i < n → Same H1 H → Y i H x H' → (∀ y H4 d, Same H H4 → ds[i]? = some d → Da K H4 y d → Q y H4) → g x (wipe σ vs) H' fun σ2 H2 => wipe σ2 vs = wipe σ vs ∧ te σ2 H2 Q)
    (hd : ∀ H acc, Same H1 H → H D = some (.lst acc) → DaAll K H acc ds → Qd H) : LcGoal J g tYes te vs σ H1 D Qd := by
  have himt : ∀ i, immAll (ds.take i) = true := by
    have : ∀ (l : List PyData) (i : Nat), immAll l = true → immAll (l.take i) = true := by
      intro l
      induction l with
      | nil => intro i _; cases i <;> rfl
      | cons d l ih =>
        intro i h
        have h' : (imm d && immAll l) = true := h
        rw [Bool.and_eq_true] at h'
        cases i with
        | zero => rfl
        | succ i =>
          show (imm d && immAll (l.take i)) = true
          rw [h'.1, ih i h'.2]
          rfl
    exact fun i => this ds i him
  refine lc_it w (fun i H => Same H1 H ∧ ∃ acc, H D = some (.lst acc) ∧ DaAll K H acc (ds.take i)) ⟨same_upd hD, [], upd_same, .nil⟩ (fun i H _ p => hG H p.1) (fun i x H H' hi p y => ?_) (fun H p => ?_)
  · obtain ⟨p1, acc, p2, p3⟩ := p
    refine step i x H H' _ hi p1 y fun v H4 d e he hv => ⟨acc, e _ _ p2, ?_, (p1.trans e).mut hD, _, upd_same, ?_⟩
    · rw [p3.length, List.length_take]
      exact Nat.lt_of_le_of_lt (Nat.min_le_left _ _) (Nat.lt_of_lt_of_le hi (Nat.le_trans hn (by decide)))
    · rw [List.take_add_one, he]
      have e4 : H4 D = some (.lst acc) := e _ _ p2
      have st : ST K H4 (upd H4 D (.lst (acc ++ [v]))) := st_upd e4 True.intro
      have hid : imm d = true := by
        have : ∀ (l : List PyData) (i : Nat), immAll l = true → l[i]? = some d → imm d = true := by
          intro l
          induction l with
          | nil => intro i _ h; simp at h
          | cons d' l ih =>
            intro i h h2
            have h' : (imm d' && immAll l) = true := h
            rw [Bool.and_eq_true] at h'
            cases i with
            | zero =>
              simp at h2
              subst h2
              exact h'.1
            | succ i => exact ih i h'.2 (by simpa using h2)
        exact this ds i him he
      exact DaAll.snoc (Da.st st _ _ hid hv) (Da.stAll (e.st.trans st) _ _ (himt i) p3)
  · obtain ⟨p1, acc, p2, p3⟩ := p
    rw [List.take_of_length_le (Nat.le_of_eq hl)] at p3
    exact hd H acc p1 p2 p3
end
/-! ### short names of readings -/
abbrev yAdd : R2 := rI0 fun i j => .int (i + j)
abbrev ySub : R2 := rI0 fun i j => .int (i - j)
abbrev yMul : R2 := rI CMul fun i j => .int (i * j)
abbrev yDiv : R2 := rI CDivW fun i j => .int (i / j)
abbrev yMod : R2 := rI (fun _ j => 0 < j) fun i j => .int (i % j)
abbrev yPow : R2 := rI CPow fun i j => .int (i ^ j.toNat)
abbrev yLt : R2 := rI0 fun i j => .bl (decide (i < j))
abbrev yLe : R2 := rI0 fun i j => .bl (decide (i ≤ j))
abbrev yGt : R2 := rI0 fun i j => .bl (decide (j < i))
abbrev yGe : R2 := rI0 fun i j => .bl (decide (j ≤ i))
abbrev yNeg : V → Hp → VK → Prop := rU fun i => .int (-i)
abbrev yLen (K : PySem.W.Frag) : List V → Hp → VK → Prop := fun vs H Q => ∃ p ys, vs = [.ref p] ∧ (SqL K H p ys ∨ SqT K H p ys) ∧ Q (.int ys.length) H
abbrev yMax : List V → Hp → VK → Prop := fun vs H Q => ∃ i j, vs = [.int i, .int j] ∧ Q (.int (if j > i then j else i)) H
abbrev yMin : List V → Hp → VK → Prop := fun vs H Q => ∃ i j, vs = [.int i, .int j] ∧ Q (.int (if j < i then j else i)) H
abbrev yInt : List V → Hp → VK → Prop := fun vs H Q => (∃ i, vs = [.int i] ∧ Q (.int i) H) ∨ ∃ k, vs = [.bl k] ∧ Q (.int (if k then 1 else 0)) H
abbrev yTup (K : PySem.W.Frag) : List V → Hp → VK → Prop := fun vs H Q => ∃ p ys, vs = [.ref p] ∧ ((SqL K H p ys ∧ ∀ l, H l = none → Q (.ref l) (upd H l (.tup ys))) ∨ (SqT K H p ys ∧ Q (.ref p) H))
abbrev yLst (K : PySem.W.Frag) : List V → Hp → VK → Prop := fun vs H Q => ∃ p ys, vs = [.ref p] ∧ (SqL K H p ys ∨ SqT K H p ys) ∧ ∀ l, H l = none → Q (.ref l) (upd H l (.lst ys))
theorem hu64 {A : Around} {k : Nat} (hr : Room k A) : A.units + 64 < cLine := by
  have := hr.un
  omega
theorem hu0 {A : Around} {k : Nat} (hr : Room k A) : A.units < cLine := by
  have := hr.un
  omega
end L2

namespace L2
open PySem PySem.Spec PyProof.Rows
theorem immAll_append : ∀ {a b : List PyData}, immAll a = true → immAll b = true → immAll (a ++ b) = true
  | [], _, _, h => h
  | d :: a, b, h1, h2 => by
    have h' : (imm d && immAll a) = true := h1
    rw [Bool.and_eq_true] at h'
    show (imm d && immAll (a ++ b)) = true
    rw [h'.1, immAll_append h'.2 h2]
    rfl
theorem immAll_at {d : PyData} : ∀ {l : List PyData} {i : Nat}, immAll l = true → l[i]? = some d → imm d = true
  | [], _, _, h => by simp at h
  | e :: l, i, h1, h2 => by
    have h' : (imm e && immAll l) = true := h1
    rw [Bool.and_eq_true] at h'
    cases i with
    | zero =>
      simp at h2
      subst h2
      exact h'.1
    | succ i => exact immAll_at h'.2 (by simpa using h2)
theorem immAll_take : ∀ {l : List PyData} (i : Nat), immAll l = true → immAll (l.take i) = true
  | [], i, _ => by cases i <;> rfl
  | e :: l, i, h1 => by
    have h' : (imm e && immAll l) = true := h1
    rw [Bool.and_eq_true] at h'
    cases i with
    | zero => rfl
    | succ i =>
      show (imm e && immAll (l.take i)) = true
      rw [h'.1, immAll_take i h'.2]
      rfl
theorem immAll_of : ∀ {l : List PyData}, (∀ d ∈ l, imm d = true) → immAll l = true
  | [], _ => rfl
  | e :: l, h => by
    show (imm e && immAll l) = true
    rw [h e List.mem_cons_self, immAll_of fun d hd => h d (List.mem_cons_of_mem _ hd)]
    rfl
theorem sz1000' {n : Nat} (h : n ≤ 100000) : n ≤ sizeLine := Nat.le_trans h (by decide)
section
variable {J J1 : It} {n n1 : Nat} {G G1 : Hp → Prop} {Y Y1 : Nat → Hp → V → Hp → Prop} {K : PySem.W.Frag}
/-- two clauses, the inner one over a thing that stands still; immutable data told ahead -/
theorem lc2_dat (w : Walk J n G Y) (w1 : Walk J1 n1 G1 Y1) {wi1 : TI} {g g1 : TG} {te : TE} {vs vs1 : List Nat} {σ : L2.St} {H1 : Hp} {D : Addr} {Qd : Hp → Prop} (hD : H1 D = none) (hn : n * n1 ≤ 100000)
    (hG : ∀ H, Same H1 H → G H) (hG1 : ∀ H, Same H1 H → G1 H) (ds : Nat → List PyData) (hl : ∀ i, i < n → (ds i).length = n1) (him : ∀ i, i < n → immAll (ds i) = true)
    (step : ∀ i x H H' (Q : L2.St → Hp → Prop), i < n → Same H1 H → Y i H x H' →
      (∀ σ2 H2, Same H H2 → wipe σ2 vs = wipe σ vs → ((∀ H3 R, Same H2 H3 → R J1 H3 → wi1 σ2 H3 R) ∧
        (∀ j y H3 H3' (Q' : VK), j < n1 → Same H1 H3 → ST K H2 H3 → Y1 j H3 y H3' → (∀ z H4 d, Same H3 H4 → (ds i)[j]? = some d → Da K H4 z d → Q' z H4) → g1 y (wipe σ2 vs1) H3' fun σ3 H5 => wipe σ3 vs1 = wipe σ2 vs1 ∧ te σ3 H5 Q')) → Q σ2 H2) → g x (wipe σ vs) H' Q)
    (hd : ∀ H acc, Same H1 H → H D = some (.lst acc) → DaAll K H acc ((List.range n).map ds).flatten → Qd H) :
    ∃ W : Nat → Nat → Hp → Prop, (∃ m, W 0 m (upd H1 D (.lst []))) ∧ ∀ i m H, W i m H →
      (J.stop i H ∧ Qd H) ∨ (J.go i H ∧ ∃ Nx : Hp → Prop, (∀ H', Nx H' → ∃ m', m' < m ∧ W (i + 1) m' H') ∧ ∀ x H', J.yld i H x H' → g x (wipe σ vs) H' fun σ2 H2 => wipe σ2 vs = wipe σ vs ∧ tYes σ2 H2 fun b H3 =>
        if b = true then wi1 σ2 H3 fun J1 H4 => ∃ W1 : Nat → Nat → Hp → Prop, (∃ m, W1 0 m H4) ∧ ∀ j k H, W1 j k H →
          (J1.stop j H ∧ Nx H) ∨ (J1.go j H ∧ ∃ Nx1 : Hp → Prop, (∀ H', Nx1 H' → ∃ k', k' < k ∧ W1 (j + 1) k' H') ∧ ∀ x H', J1.yld j H x H' → g1 x (wipe σ2 vs1) H' fun σ3 H5 => wipe σ3 vs1 = wipe σ2 vs1 ∧ tYes σ3 H5 fun b H6 =>
            if b = true then te σ3 H6 fun y H7 => ∃ acc, H7 D = some (.lst acc) ∧ acc.length < sizeLine ∧ Nx1 (upd H7 D (.lst (acc ++ [y]))) else Nx1 H6)
        else Nx H3) := by
  have flen : ∀ i, i ≤ n → ((List.range i).map ds).flatten.length = i * n1 := by
    intro i
    induction i with
    | zero => intro _; simp
    | succ i ih =>
      intro h
      rw [List.range_succ, List.map_append, List.flatten_append, List.length_append, ih (by omega)]
      simp [hl i (by omega), Nat.succ_mul]
  have fimm : ∀ i, i ≤ n → immAll ((List.range i).map ds).flatten = true := by
    intro i
    induction i with
    | zero => intro _; rfl
    | succ i ih =>
      intro h
      rw [List.range_succ, List.map_append, List.flatten_append]
      refine immAll_append (ih (by omega)) ?_
      simpa using him i (by omega)
  have fsnoc : ∀ i, ((List.range (i + 1)).map ds).flatten = ((List.range i).map ds).flatten ++ ds i := by
    intro i
    rw [List.range_succ, List.map_append, List.flatten_append]
    simp
  refine ⟨fun i m H => m = n - i ∧ i ≤ n ∧ Same H1 H ∧ ∃ acc, H D = some (.lst acc) ∧ DaAll K H acc ((List.range i).map ds).flatten, ⟨n, by simp, Nat.zero_le _, same_upd hD, [], upd_same, .nil⟩, ?_⟩
  rintro i m H ⟨rfl, hi, p1, acc, p2, p3⟩
  by_cases hlt : i < n
  · refine .inr ⟨w.goes i H hlt (hG H p1), fun H' => Same H1 H' ∧ ∃ acc, H' D = some (.lst acc) ∧ DaAll K H' acc ((List.range (i + 1)).map ds).flatten, fun H' ⟨q1, q2⟩ => ⟨n - (i + 1), by omega, rfl, hlt, q1, q2⟩, fun x H' y => ?_⟩
    refine step i x H H' _ hlt p1 (w.yields i H x H' hlt (hG H p1) y) fun σ2 H2 e2 ws ⟨hin, el⟩ => ?_
    refine ⟨ws, ?_⟩
    show wi1 σ2 H2 _
    refine hin H2 _ (Same.refl _) ?_
    refine ⟨fun j k H => k = n1 - j ∧ j ≤ n1 ∧ Same H1 H ∧ ST K H2 H ∧ ∃ acc, H D = some (.lst acc) ∧ DaAll K H acc (((List.range i).map ds).flatten ++ (ds i).take j), ⟨n1, by simp, Nat.zero_le _, p1.trans e2, ST.refl _, acc, e2 _ _ p2, ?_⟩, ?_⟩
    · rw [List.take_zero, List.append_nil]
      exact Da.sameAll e2 _ _ p3
    · rintro j k H3 ⟨rfl, hj, q1, qb, acc3, q2, q3⟩
      by_cases hjl : j < n1
      · refine .inr ⟨w1.goes j H3 hjl (hG1 H3 q1), fun H' => Same H1 H' ∧ ST K H2 H' ∧ ∃ acc, H' D = some (.lst acc) ∧ DaAll K H' acc (((List.range i).map ds).flatten ++ (ds i).take (j + 1)), fun H' ⟨r1, r2⟩ => ⟨n1 - (j + 1), by omega, rfl, hjl, r1, r2⟩, fun x3 H3' y3 => ?_⟩
        refine el j x3 H3 H3' _ hjl q1 qb (w1.yields j H3 x3 H3' hjl (hG1 H3 q1) y3) fun z H4 d e4 hd4 hz => ?_
        have e5 : H4 D = some (.lst acc3) := e4 _ _ q2
        have st : ST K H4 (upd H4 D (.lst (acc3 ++ [z]))) := st_upd e5 True.intro
        refine ⟨acc3, e5, ?_, (q1.trans e4).mut hD, (qb.trans e4.st).trans st, _, upd_same, ?_⟩
        · have l3 := q3.length
          rw [List.length_append, flen i hi, List.length_take] at l3
          have hle : (i + 1) * n1 ≤ n * n1 := Nat.mul_le_mul_right _ hlt
          rw [Nat.succ_mul] at hle
          refine Nat.lt_of_lt_of_le ?_ (sz1000' hn)
          have : min j (ds i).length ≤ j := Nat.min_le_left _ _
          omega
        · rw [List.take_add_one, hd4, ← List.append_assoc]
          exact DaAll.snoc (Da.st st _ _ (immAll_at (him i hlt) hd4) hz) (Da.stAll (e4.st.trans st) _ _ (immAll_append (fimm i hi) (immAll_take j (him i hlt))) q3)
      · have ej : j = n1 := by omega
        subst ej
        refine .inl ⟨w1.stops H3 (hG1 H3 q1), q1, acc3, q2, ?_⟩
        rw [fsnoc]
        rw [List.take_of_length_le (Nat.le_of_eq (hl i hlt))] at q3
        exact q3
  · have e : i = n := by omega
    subst e
    exact .inl ⟨w.stops H (hG H p1), hd H acc p1 p2 p3⟩
/-- a comprehension with a test: values told ahead -/
theorem lc_val_if (w : Walk J n G Y) {g : TG} {tt : TT} {te : TE} {vs : List Nat} {σ : L2.St} {H1 : Hp} {D : Addr} {Qd : Hp → Prop} (hD : H1 D = none) (hn : n ≤ 100000) (hG : ∀ H, Same H1 H → G H) (bs : Nat → Bool) (fs : Nat → V)
    (step : ∀ i x H H' (Q : VK) (R : Hp → Prop), i < n → Same H1 H → Y i H x H' → (∀ H4, bs i = true → Same H H4 → Q (fs i) H4) → (∀ H3, bs i = false → Same H H3 → R H3) →
      g x (wipe σ vs) H' fun σ2 H2 => wipe σ2 vs = wipe σ vs ∧ tt σ2 H2 fun b H3 => if b = true then te σ2 H3 Q else R H3)
    (hd : ∀ H, Same H1 H → H D = some (.lst (((List.range n).filter bs).map fs)) → Qd H) : LcGoal J g tt te vs σ H1 D Qd := by
  refine lc_it w (fun i H => Same H1 H ∧ H D = some (.lst (((List.range i).filter bs).map fs))) ⟨same_upd hD, upd_same⟩ (fun i H _ p => hG H p.1) (fun i x H H' hi p y => ?_) (fun H p => hd H p.1 p.2)
  refine step i x H H' _ _ hi p.1 y (fun H4 hb e => ⟨_, e _ _ p.2, ?_, (p.1.trans e).mut hD, ?_⟩) fun H3 hb e => ⟨p.1.trans e, ?_⟩
  · rw [List.length_map]
    refine Nat.lt_of_le_of_lt (List.length_filter_le _ _) ?_
    rw [List.length_range]
    exact Nat.lt_of_lt_of_le hi (Nat.le_trans hn (by decide))
  · rw [upd_same, List.range_succ, List.filter_append, List.map_append]
    simp [hb]
  · rw [e _ _ p.2, List.range_succ, List.filter_append, List.map_append]
    simp [hb]
end
theorem SameB.mut {p q : Addr} {H H' : Hp} {o : HO} (e : SameB p H H') (h : H q = none) : SameB p H (L2.upd H' q o) := fun a u n ha => by
  rw [upd_ne (ne_of_none ha h)]
  exact e a u n ha
theorem SameB.fresh {p q : Addr} {H H' : Hp} (e : SameB p H H') (hp : ∃ o, H p = some o) (h : H' q = none) (hp' : ∃ o, H' p = some o) : H q = none := by
  cases z : H q with
  | none => rfl
  | some o =>
    by_cases hq : q = p
    · subst hq
      obtain ⟨o', ho'⟩ := hp'
      rw [h] at ho'
      cases ho'
    · rw [e q o hq z] at h
      cases h
theorem SameB.seqT {K : PySem.W.Frag} {p a : Addr} {H H' : Hp} {l xs : List V} (e : SameB p H H') (hp : H p = some (.lst l)) (h : SqT K H a xs) : SqT K H' a xs := by
  rcases h with (h | ⟨o, h⟩) | h
  · exact .inl (.inl (e _ _ (ne_of h hp (by intro z; cases z)) h))
  · exact .inl (.inr ⟨o, e _ _ (ne_of h hp (by intro z; cases z)) h⟩)
  · exact .inr h
/-- a lock and its key: behind the unlocking all is as it was -/
theorem same_unlock {d : Addr} {o : Obj} {u : HO} {H H' : Hp} (h : H d = some u) (e : Same (upd H d (.frz o u)) H') : Same H (upd H' d u) := fun a x ha => by
  by_cases z : a = d
  · subst z
    rw [upd_same, ← h, ha]
  · rw [upd_ne z]
    exact e a x (by rw [upd_ne z]; exact ha)
theorem same_lock {d : Addr} {o : Obj} {u : HO} {H H' : Hp} (e : Same (upd H d (.frz o u)) H') : SameB d H H' := fun a x n ha => e a x (by rw [upd_ne n]; exact ha)
end L2

namespace L2
open PySem PySem.Spec PyProof.Rows
/-! ### x in o, by the class's own __contains__ -/
def rInOwn (C : Addr) (sp : Sp) (E : XK) : R2 := fun x y H Q => ∃ a dx fs, y = .ref a ∧ H a = some (.ins C dx fs) ∧ sp [.ref a, x] H (fun v H' => ∃ b, v = .bl b ∧ Q (.bl b) H') E
section
variable {X : Cx} {CX : CXT} {k : Nat} {C f : Addr} {fd : FuncData} {ps : List Str} {sp : Sp} {E : XK}
theorem op_inOwn (F : FnOk X.prog X.w X.K X.mg X.base CX k f fd ps sp) (hs : PySem.W.findIn X.K (.ref C) "__contains__" = some (some (.ref f))) (hf : PySem.W.isFn X.K (.ref f) = true) (hb : Binds X.K fd ps []) (hx : Passes CX X E) (hr : Room k X.A) : OpR X (compareOp .In) (rInOwn C sp E) := by
  intro pins s σ H x y v u Q I rx ry h
  obtain ⟨a, dx, fs, rfl, ha, q⟩ := h
  cases ry
  obtain ⟨mA, J, _⟩ := ins_get I.hok ha
  obtain ⟨od, J, _⟩ := J.look
  obtain ⟨m, hF⟩ := I.fr
  refine PySem.W.in_K hF I.ok.mod.kin J hs hf ?_
  have q2 : sp ([V.ref a, x] ++ []) H (fun v H' => ∃ b, v = V.bl b ∧ Q (.bl b) H') E := q
  refine thn (run_fn (us := [.ref a, v]) (vs := [.ref a, x]) (dvs := []) F hr hb .nil hx I (.cons rfl (.cons rx .nil)) q2) fun r s' hz => ?_
  obtain ⟨z, H', I', rz, b, ez, q'⟩ := hz
  subst ez
  cases rz
  exact wpAny_truthy_bool ⟨V.bl b, H', I', rfl, q'⟩
/-- o.m(k = v, ..) -/
def tMethK0 (m : Str) (C : Addr) (sp : Sp) (gV : List V → List V → List V) (E : XK) (ta : TE) (tk : TA) : TE := fun σ H Q => ta σ H fun x H1 => ∃ a dx fs, x = .ref a ∧ H1 a = some (.ins C dx fs) ∧ fs.lookup m = none ∧ tk σ H1 fun zs H2 => sp (gV [x] zs) H2 Q E
theorem pe_methK0 {m : Str} {o : Expr} {apos pos : Pos} {ta : TE} {tk : TA} {kws : List Keyword} {ks : List Str} {g : List Value → List Value → List Value} {gV : List V → List V → List V} {pl : Sem Bool} (he : PE X o ta) (c : Cls X.K C) (hm : Meth X.K C m f)
    (F : FnOk X.prog X.w X.K X.mg X.base CX k f fd ps sp) (hr : Room k X.A) (hb : KBinds X.K fd ps ks g gV) (hx : Passes CX X E) (hkw : PK X kws tk)
    (hall : (backToKw pos (keywordEach kws X.env)).all (·.1.isSome) = true := by rfl) (hks : (backToKw pos (keywordEach kws X.env)).filterMap (·.1) = ks := by rfl)
    (hpl : ((backTo pos (starEach [] X.env)).any (·.1) || (backToKw pos (keywordEach kws X.env)).any (·.1.isNone)) = false := by rfl)
    (ht : eval (.Call (.Attribute o m apos) [] kws pos) X.env = (do
      let ov ← eval o X.env
      standAt apos.atName
      let (f, first) ← holding [ov] (getMethod ov m pl)
      callWith pos f first (backTo pos (starEach [] X.env)) (backToKw pos (keywordEach kws X.env))) := by rfl) :
    PE X (.Call (.Attribute o m apos) [] kws pos) (tMethK0 m C sp gV E ta tk) := by
  refine ⟨fun pins s σ H Q I h => ?_⟩
  refine PySem.W.methodCall_KW (pl := pl) (thn (he.run pins s σ H _ I h) fun u s1 ⟨x, H1, I1, rx, a, dx, fs, ex, ea, l, q⟩ => ?_) ht
  subst ex
  obtain rfl : u = Value.ref a := rx
  refine getmeth_ok I1 ea c hm l ?_
  refine PySem.W.callWith_KW0 (first := [.ref a]) (h₀ := X.base) I.ok.mod.kin hm.kp hall ?_ hpl
  refine thn (hkw.run pos pins s1 σ H1 _ I1 q) fun ws s2 ⟨zs, H2, I2, rz, q2⟩ => ⟨I2.kIn, ?_⟩
  rw [hks]
  exact run_fnk (us := [.ref a]) (vs := [.ref a]) F hr hb hx I2 (.cons rfl .nil) rz q2
end
/-! ### tuple * int, 1 included -/
theorem tuple_mul1 (l : Addr) (items : Array Value) (n : Nat) (dd : Option Addr) (sl : Array (Option Value)) (u : Tok) :
    Meets (Builtin.«tuple.__mul__» ⟨[.ref l, .int 1 u], []⟩) (fun _ R s => s.heap.get? l = some { cls := .type "tuple", dict := dd, data := .seq items n, slots := sl } ∧ R (.ok (.ret (Value.ref l))) s) :=
  .of_wp fun prog w A R s h => by
    obtain ⟨hp, g, d, tk, os⟩ := s
    obtain ⟨hl, h⟩ := h
    have f1 := AutoSeq1.idx_int
    wp_walk using wpAny_loadPart' hl
    exact ⟨_, rfl, h⟩
def rRepA (K : PySem.W.Frag) : R2 := fun x y H Q => (∃ l xs, x = .ref l ∧ y = .int 1 ∧ SqT K H l xs ∧ Q (.ref l) H) ∨ rRepT K x y H Q
theorem op_repA {X : Cx} : OpR X (binaryOp .Mult) (rRepA X.K) := by
  intro pins s σ H x y v u Q I rx ry h
  rcases h with h | h
  · obtain ⟨l, xs, rfl, rfl, hT, q⟩ := h
    cases rx
    obtain ⟨t, rfl⟩ := ry
    obtain ⟨its, r, ⟨⟨cls, dd, data, sl⟩, ho, hc, n, hd⟩, hs⟩ := I.tuple hT
    simp only at hc hd
    subst hc hd
    refine wpAny_binaryOp_repeat_ref (T := "tuple") (U := "int") (by decide) ⟨_, ho, rfl⟩ (fun s' => typeIs_int s' 1 t) noFill_tuple_mul F.fills_int_mul F.slot_int_rmul repeat_tuple F.slot_int_index.lookup
      (call_meets F.slot_int_rmul (typeIs_int s 1 t) F.entry_int_rmul (F.args_int_rmul_2 _ _) (int_rmul_tuple 1 t l its.toArray n dd sl)
        ⟨ho, rfl, ⟨_, ho, rfl⟩, call_meets F.slot_tuple_mul ⟨_, ho, rfl⟩ F.entry_tuple_mul (F.args_tuple_mul_2 _ _) (tuple_mul1 l its.toArray n dd sl t) ⟨ho, ?_⟩⟩)
    exact ⟨.ref l, H, I, rfl, q⟩
  · exact op_repT pins s σ H x y v u Q I rx ry h

theorem hu65 {A : Around} {k : Nat} (hr : Room k A) : A.units + 65 < cLine := by
  have := hr.un
  omega
theorem pe_globI {X : Cx} {x : Str} {i : Int} {pos : Pos} (h : ∃ t, X.mg x = some (.int i t)) (hg : Gl X x) (hdb : (x == ("__debug__" : Str)) = false := by decide) : PE X (.Name x pos) (tC (.int i)) := by
  obtain ⟨t, h⟩ := h
  exact pe_glob hg h ⟨t, rfl⟩ hdb
/-- sorted(xs), fewer than 64 tuples of d ints in [0, B) -/
def rSortM (K : PySem.W.Frag) : List V → Hp → VK → Prop := fun vs H Q => ∃ d B, 1 ≤ d ∧ rSortU K d B vs H Q
theorem cr_sortM {X : Cx} : CallR X (.builtin "sorted") (rSortM X.K) := by
  intro pins s σ H vs us Q I r h
  obtain ⟨d, B, hd, h⟩ := h
  exact cr_sortT hd pins s σ H vs us Q I r h
/-! ### classes by name -/
/-- the def m stands in the class at C -/
def TopM (K : PySem.W.Frag) (C : Addr) (m qual : Str) (st : Stmt) (ps : List Str) : Prop :=
  ∃ (f : Addr) (fd : FuncData), Fun K m qual st f fd ∧ Meth K C m f ∧ Binds K fd ps []
def TopMK (K : PySem.W.Frag) (C : Addr) (m qual : Str) (st : Stmt) (ps ks : List Str) (gV : List V → List V → List V) : Prop :=
  ∃ (f : Addr) (fd : FuncData) (g : List Value → List Value → List Value), Fun K m qual st f fd ∧ Meth K C m f ∧ KBinds K fd ps ks g gV
def MethD (P : Program) (w : World) (K : PySem.W.Frag) (mg : Str → Option Value) (base : Heap) (C : Addr) (m : Str) (k : Nat) (ps : List Str) (sp : Sp) : Prop :=
  ∃ (f : Addr) (fd : FuncData), Meth K C m f ∧ FnOk P w K mg base CX0 k f fd ps sp ∧ Binds K fd ps [] ∧ ∃ (oc : Value) (od : Option Addr) (osl : Array (Option Value)), K.lookup f = some ⟨oc, od, .func fd, osl⟩
def MethDK (P : Program) (w : World) (K : PySem.W.Frag) (mg : Str → Option Value) (base : Heap) (C : Addr) (m : Str) (k : Nat) (ps ks : List Str) (gV : List V → List V → List V) (sp : Sp) : Prop :=
  ∃ (f : Addr) (fd : FuncData) (g : List Value → List Value → List Value), Meth K C m f ∧ FnOk P w K mg base CX0 k f fd ps sp ∧ KBinds K fd ps ks g gV
def MakeD (P : Program) (w : World) (K : PySem.W.Frag) (mg : Str → Option Value) (base : Heap) (C : Addr) (x : Str) (k : Nat) (ps : List Str) (sp : Sp) : Prop :=
  ∃ (f : Addr) (fd : FuncData), Mk K C f ∧ mg x = some (.ref C) ∧ FnOk P w K mg base CX0 k f fd ps sp ∧ Binds K fd ps []
section
variable {P : Program} {w : World} {K : PySem.W.Frag} {mg : Str → Option Value} {base : Heap} {C : Addr} {m qual x : Str} {st : Stmt} {ps N : List Str} {k : Nat} {sp : Sp}
theorem mk_meth (T : TopM K C m qual st ps) (S : FnScope N ps (defScope st)) (len : ∀ vs H Q E, sp vs H Q E → vs.length = ps.length)
    (hbody : ∀ (f : Addr) (cdv : Value) (A : Around) (outer : List Env) (s : Shared) (H : Hp) (vs : List V) (Q : VK) (E : XK), Room k (A.deeper (envOfC qual (defScope st) s.heap.objs.size f cdv)) → sp vs H Q E →
      ∃ t, PSs (cxOf CX0 P w K mg base N qual (defScope st) f cdv A outer s H E).nox (defBody st) t ∧ t { nx := fun _ H' => Q .non H', rt := Q } (start N vs) H) :
    MethD P w K mg base C m (k + 1) ps sp := by
  obtain ⟨f, fd, F, M, b⟩ := T
  obtain ⟨oc, _, _, _, _, _, _, _, osl, _, lk, _⟩ := id F.ex
  exact ⟨f, fd, M, F.ok S len (hbody f), b, _, _, _, lk⟩
theorem MethD.kw {ks : List Str} {gV : List V → List V → List V} (D : MethD P w K mg base C m k ps sp) (T : TopMK K C m qual st ps ks gV) : MethDK P w K mg base C m k ps ks gV sp := by
  obtain ⟨f, fd, M, F, b, _, _, _, lk⟩ := D
  obtain ⟨f', fd', g', F', M', b'⟩ := T
  have e := M'.at_.symm.trans M.at_
  obtain rfl : f' = f := Value.ref.inj (Option.some.inj (Option.some.inj e))
  obtain ⟨oc, _, _, _, _, _, _, _, osl, _, lk', _⟩ := id F'.ex
  rw [lk] at lk'
  cases lk'
  exact ⟨f', fd, g', M, F, b'⟩
theorem MethD.make (D : MethD P w K mg base C "__init__" k ps sp) (hm : PySem.W.makesIn K C = true) (hk : PySem.W.keepIn K (.ref C) = true) (hg : mg x = some (.ref C)) : MakeD P w K mg base C x k ps sp := by
  obtain ⟨f, fd, M, F, b, _⟩ := D
  exact ⟨f, fd, ⟨hm, M.at_, M.fn, hk⟩, hg, F, b⟩
end
section
variable {X : Cx} {C : Addr} {m x : Str} {k : Nat} {ps : List Str} {sp : Sp} {p pos apos : Pos} {o e : Expr} {es : List Expr} {ta : TE} {t : TA}
theorem pe_methM {pl : Sem Bool} (he : PE X o ta) (c : Cls X.K C) (D : MethD X.prog X.w X.K X.mg X.base C m k ps sp) (hr : Room k X.A) (ha : PA X (e :: es) t)
    (hst : starEach (e :: es) X.env = (false, eval e X.env) :: starEach es X.env := by rfl) (hpl : (backTo pos (starEach es X.env)).any (·.1) = false := by rfl)
    (ht : eval (.Call (.Attribute o m apos) (e :: es) [] pos) X.env = (do
      let ov ← eval o X.env
      standAt apos.atName
      let (f, first) ← holding [ov] (getMethod ov m pl)
      callWith pos f first (backTo pos (starEach (e :: es) X.env)) (backToKw pos (keywordEach [] X.env))) := by rfl) :
    PE X (.Call (.Attribute o m apos) (e :: es) [] pos) (tMeth C m sp [] E0 ta t) := by
  obtain ⟨f, fd, M, F, b, _⟩ := D
  exact pe_meth he c M F hr b .nil pass0 ha hst hpl ht
theorem pe_methM0 {pl : Sem Bool} (he : PE X o ta) (c : Cls X.K C) (D : MethD X.prog X.w X.K X.mg X.base C m k ps sp) (hr : Room k X.A)
    (ht : eval (.Call (.Attribute o m apos) [] [] pos) X.env = (do
      let ov ← eval o X.env
      standAt apos.atName
      let (f, first) ← holding [ov] (getMethod ov m pl)
      callWith pos f first (backTo pos (starEach [] X.env)) (backToKw pos (keywordEach [] X.env))) := by rfl) :
    PE X (.Call (.Attribute o m apos) [] [] pos) (tMeth C m sp [] E0 ta tNil) := by
  obtain ⟨f, fd, M, F, b, _⟩ := D
  exact pe_meth0 he c M F hr b .nil pass0 ht
theorem pe_methMK0 {pl : Sem Bool} {ks : List Str} {gV : List V → List V → List V} {kws : List Keyword} {tk : TA} (he : PE X o ta) (c : Cls X.K C) (D : MethDK X.prog X.w X.K X.mg X.base C m k ps ks gV sp) (hr : Room k X.A) (hkw : PK X kws tk)
    (hall : (backToKw pos (keywordEach kws X.env)).all (·.1.isSome) = true := by rfl) (hks : (backToKw pos (keywordEach kws X.env)).filterMap (·.1) = ks := by rfl)
    (hpl : ((backTo pos (starEach [] X.env)).any (·.1) || (backToKw pos (keywordEach kws X.env)).any (·.1.isNone)) = false := by rfl)
    (ht : eval (.Call (.Attribute o m apos) [] kws pos) X.env = (do
      let ov ← eval o X.env
      standAt apos.atName
      let (f, first) ← holding [ov] (getMethod ov m pl)
      callWith pos f first (backTo pos (starEach [] X.env)) (backToKw pos (keywordEach kws X.env))) := by rfl) :
    PE X (.Call (.Attribute o m apos) [] kws pos) (tMethK0 m C sp gV E0 ta tk) := by
  obtain ⟨f, fd, g, M, F, b⟩ := D
  exact pe_methK0 he c M F hr b pass0 hkw hall hks hpl ht
theorem pe_makeM (D : MakeD X.prog X.w X.K X.mg X.base C x k ps sp) (hr : Room (k + 1) X.A) (hg : Gl X x) (ha : PA X (e :: es) t) (hdb : (x == ("__debug__" : Str)) = false := by decide)
    (he : starEach (e :: es) X.env = (false, eval e X.env) :: starEach es X.env := by rfl) (hpl : (backTo pos (starEach es X.env)).any (·.1) = false := by rfl) :
    PE X (.Call (.Name x p) (e :: es) [] pos) (tMake C sp [] E0 t) := by
  obtain ⟨f, fd, M, hm, F, b⟩ := D
  exact pe_make M F hr hg hm b .nil pass0 ha hdb he hpl
theorem op_inM (D : MethD X.prog X.w X.K X.mg X.base C "__contains__" k ps sp) (hr : Room k X.A) : OpR X (compareOp .In) (rInOwn C sp E0) := by
  obtain ⟨f, fd, M, F, b, _⟩ := D
  exact op_inOwn F M.at_ M.fn b pass0 hr
end
/-- o.m(k = v): the object, then the value -/
def kwG {α : Type} : List α → List α → List α
  | [u], [w] => [u, w]
  | _, _ => []
theorem kw_rel : ∀ {vs : List V} {us : List Value} {zs : List V} {ws : List Value}, Vals vs us → Vals zs ws → Vals (kwG vs zs) (kwG us ws)
  | _, _, _, _, .nil, _ => .nil
  | _, _, _, _, .cons r .nil, .cons r' .nil => .cons r (.cons r' .nil)
  | _, _, _, _, .cons r .nil, .nil => .nil
  | _, _, _, _, .cons r .nil, .cons _ (.cons _ _) => .nil
  | _, _, _, _, .cons _ (.cons _ _), _ => .nil
theorem kw_binds {K : PySem.W.Frag} {fd : FuncData} {a b : Str} (h : ∀ (s : Shared) (u w : Value), K.In s.heap → BindsTo s fd ⟨[u], [(b, w)]⟩ [(a, u), (b, w)]) : KBinds K fd [a, b] [b] kwG kwG :=
  ⟨(fun s us ws X hl => match us, ws, hl with
    | [u], [w], _ => h s u w X
    | [], _, hl => nomatch hl
    | [_], [], hl => nomatch hl
    | [_], _ :: _ :: _, hl => nomatch hl
    | _ :: _ :: _, _, hl => nomatch hl), kw_rel⟩
end L2

namespace L2
open PySem PySem.Spec PyProof.Rows
/-- x & y, x | y by the class's own method; an object comes back -/
def rBinOwn (C : Addr) (sp : Sp) (E : XK) : R2 := fun x y H Q => ∃ a dx fs b dy gs, x = .ref a ∧ y = .ref b ∧ H a = some (.ins C dx fs) ∧ H b = some (.ins C dy gs) ∧ sp [.ref a, .ref b] H (fun v H' => ∃ c, v = .ref c ∧ Q (.ref c) H') E
theorem op_binM {X : Cx} {k : Nat} {C : Addr} {m : Str} {ps : List Str} {sp : Sp} {op : Operator} (hd : PySem.dunder op.info.2 = m) (D : MethD X.prog X.w X.K X.mg X.base C m k ps sp) (SF : PySem.W.selfFirst X.K C = true) (hr : Room k X.A) : OpR X (binaryOp op) (rBinOwn C sp E0) := by
  obtain ⟨f, fd, M, F, bd, _⟩ := D
  subst hd
  intro pins s σ H x y v u Q I rx ry h
  obtain ⟨a, dx, fs, b, dy, gs, rfl, rfl, ha, hb, q⟩ := h
  cases rx
  cases ry
  obtain ⟨mA, J, _⟩ := ins_get I.hok ha
  obtain ⟨mB, J', _⟩ := ins_get I.hok hb
  obtain ⟨od, J, _⟩ := J.look
  obtain ⟨od', J', _⟩ := J'.look
  obtain ⟨mm, hF⟩ := I.fr
  refine PySem.W.binop_K hF I.ok.mod.kin J J'.type SF M.at_ M.fn ?_
  have q2 : sp ([V.ref a, V.ref b] ++ []) H (fun v H' => ∃ c, v = V.ref c ∧ Q (.ref c) H') E0 := q
  refine thn (run_fn (us := [.ref a, .ref b]) (vs := [.ref a, .ref b]) (dvs := []) F hr bd .nil pass0 I (.cons rfl (.cons rfl .nil)) q2) fun r s' hz => ?_
  obtain ⟨z, H', I', rz, c, ez, q'⟩ := hz
  subst ez
  cases rz
  exact ⟨V.ref c, H', I', rfl, q'⟩
/-- what isinstance asks of a class -/
structure TxI (K : PySem.W.Frag) (C : Addr) : Prop where
  ha : PySem.W.findIn K (.ref C) "__class__" = some (some (.builtin "object.__class__"))
  hn : PySem.W.specialIn K (.builtin "object.__class__") "__get__" = some (some (.builtin "getset_descriptor.__get__"))
  htk : PySem.W.takesIn K (.builtin "object.__class__") = some true
  hm : PySem.W.mroIn K C (.type "object") = some true
  ko : PySem.W.kitOne K (.ref C) (.ref C) = some true
end L2
namespace L2
open PySem PySem.Spec PyProof.Rows
theorem kit_self {K : PySem.W.Frag} {C : Addr} : PySem.W.kitOne K (.ref C) (.ref C) = some true := by
  unfold PySem.W.kitOne
  rw [if_pos]
  simp
end L2

/-! sorted(d.items()) of a dict of whole numbers -/
namespace L2
open PySem PySem.Spec PyProof.Rows
abbrev yMulW : R2 := rI CMulW fun i j => .int (i * j)
abbrev yAbs : List V → Hp → VK → Prop := fun vs H Q => ∃ i, vs = [.int i] ∧ Q (.int (if i < 0 then -i else i)) H
def rItemsK : V → List V → Hp → VK → Prop := fun x xs H Q => ∃ (a : Addr) (kvs : List (Key × V)), x = .ref a ∧ xs = [] ∧ H a = some (.dK kvs) ∧ ∀ v, H v = none → Q (.ref v) (upd H v (DX.itemsO v a))
theorem mt_itemsK {X : Cx} : MtR X "dict.items" rItemsK := by
  intro pins s σ H x xs v us Q I rx rxs h
  obtain ⟨a, kvs, rfl, rfl, ha, q⟩ := h
  cases rx
  cases rxs
  obtain ⟨z, hd, vs, rel, o, es, ep, ho, hx, hdat, _⟩ := dk_of I.hok ha
  refine DT.callItems (es := es) (ep := ep) hd ⟨o, ho, hx, hdat⟩ ?_
  have hnew := I.hok.fresh (Nat.le_refl s.heap.objs.size)
  exact ⟨.ref s.heap.objs.size, _, I.laid (t' := s.toks) (fun b u e => Heap.get?_push_of_some _ e) (Nat.le_refl _) (DX.itemsO_ok (p := s.heap.objs.size) (d := a) (Heap.get?_push_size _ rfl)), rfl, q _ hnew⟩
theorem isPair_one {h : Heap} {v : Value} {x y x' y' : Int} (p : Srt.IsPair h v x y) (q : Srt.IsPair h v x' y') : (x, y) = (x', y') := by
  obtain ⟨a, o, t, u, n, e, ho, _, hd⟩ := p
  obtain ⟨a', o', t', u', n', e', ho', _, hd'⟩ := q
  rw [e] at e'
  cases e'
  rw [ho] at ho'
  cases ho'
  rw [hd] at hd'
  cases hd'
  rfl
theorem pairs_at {P : Program} {w : World} {es : List DictEntry} {vs : List (Key × Value)} (r : Pairs (mixKind P w) es vs) : ∀ {j : Nat} {e : DictEntry}, es[j]? = some e → ∃ k v, vs[j]? = some (k, v) ∧ keyIs k e.key = true ∧ e.val = v := by
  induction r with
  | nil => intro j e h; simp at h
  | @cons e0 kv es kvs h1 h2 _ ih =>
    intro j e h
    cases j with
    | zero =>
      simp at h
      subst h
      exact ⟨kv.1, kv.2, rfl, h1, h2⟩
    | succ j => exact ih (by simpa using h)
/-- a dict from whole numbers to whole numbers -/
abbrev dkI (L : List (Int × Int)) : List (Key × V) := L.map fun q => (Sum.inl q.1, V.int q.2)
def rSortItK : List V → Hp → VK → Prop := fun vs H Q => ∃ (p a : Addr) (L : List (Int × Int)), vs = [.ref p] ∧ H p = some (DX.itemsO p a) ∧ H a = some (.dK (dkI L)) ∧
  ∀ (H' : Hp) (l : Addr) (ts : List Addr) (M : List (Int × Int)), Same H H' → H l = none → M.Perm L → SrtO.Srtd SrtO.lexB M → H' l = some (.lst (ts.map V.ref)) → Paired (fun (t : Addr) (q : Int × Int) => H' t = some (.tup [.int q.1, .int q.2])) ts M → Q (.ref l) H'
theorem paired_map {α β : Type} {F : α → β → Prop} {f : α → β} : ∀ {l : List α}, (∀ x ∈ l, F x (f x)) → Paired F l (l.map f)
  | [], _ => .nil
  | x :: l, h => .cons (h x List.mem_cons_self) (paired_map fun y hy => h y (List.mem_cons_of_mem _ hy))
theorem cr_sortedItemsK {X : Cx} (hc : X.calm = true) : CallR X (.builtin "sorted") rSortItK := by
  intro pins s σ H xs us Q I r h
  obtain ⟨p, a, L, rfl, hp, ha, q⟩ := h
  obtain rfl := Vals.ref1 r
  have view : s.heap.IsItemsView p a := (show ObjOk X.prog X.w H s.heap p (DX.itemsO p a) from I.hok p _ hp).1
  obtain ⟨z, hd, vs, rel, o, es, ep, ho, hx, hdat, hk, hpr, hn⟩ := dk_of I.hok ha
  have l1 : L.length = vs.length := by
    have e := rel.length
    rwa [List.length_map] at e
  have l2 : es.size = vs.length := by
    have e := hpr.length
    simpa using e
  rw [List.length_map] at z
  have hh : X.A.handled = none := I.ok.hd hc
  refine DT.sortedI (es := es) (ep := ep) hh view ⟨o, ho, hx, hdat⟩ (by omega) fun h' tk as hk' hlt hl hG => ?_
  have nd : as.Nodup := List.Pairwise.imp (fun h => Nat.ne_of_lt h) hG.rise
  have asl : as.length = L.length := by omega
  -- what stands at each of the new pairs
  have made : ∀ (j : Nat) (b : Addr), as[j]? = some b → ∃ q : Int × Int, L[j]? = some q ∧ Srt.IsPair h' (.ref b) q.1 q.2 := by
    intro j b hj
    obtain ⟨en, he, hg⟩ := hG.pairs j b hj
    obtain ⟨k, v, hv, hkey, hval⟩ := pairs_at hpr (j := j) (e := en) (by simpa using he)
    obtain ⟨x, hx1, hx2⟩ := KV.at' rel hv
    rw [List.getElem?_map] at hx1
    cases hL : L[j]? with
    | none =>
      rw [hL] at hx1
      cases hx1
    | some qq =>
      rw [hL] at hx1
      have e1 : (Sum.inl qq.1, V.int qq.2) = (k, x) := Option.some.inj hx1
      injection e1 with e2 e3
      subst e2
      subst e3
      obtain ⟨t, ht⟩ := relV_key hkey
      obtain ⟨u, hu⟩ := hx2
      refine ⟨qq, rfl, b, _, t, u, 0, rfl, hg, rfl, ?_⟩
      rw [ht, hval, hu]
  obtain ⟨kf, hkf⟩ : ∃ kf : Addr → Int × Int, ∀ b ∈ as, Srt.IsPair h' (.ref b) (kf b).1 (kf b).2 := by
    have : ∀ b : Addr, ∃ qq : Int × Int, b ∈ as → Srt.IsPair h' (.ref b) qq.1 qq.2 := by
      intro b
      by_cases hb : b ∈ as
      · obtain ⟨j, hj⟩ := List.mem_iff_getElem?.mp hb
        obtain ⟨qq, _, hq⟩ := made j b hj
        exact ⟨qq, fun _ => hq⟩
      · exact ⟨(0, 0), fun y => absurd y hb⟩
    exact Classical.skolem.mp this
  have eL : as.map kf = L := by
    refine List.ext_getElem? fun j => ?_
    rw [List.getElem?_map]
    cases hj : as[j]? with
    | none =>
      have : L.length ≤ j := by
        have := List.getElem?_eq_none_iff.mp hj
        omega
      rw [List.getElem?_eq_none_iff.mpr this]
      rfl
    | some b =>
      obtain ⟨qq, h1, h2⟩ := made j b hj
      rw [h1]
      have := isPair_one (hkf b (List.mem_of_getElem? hj)) h2
      exact congrArg some this
  let kV2 : Value → Int × Int := fun v => match v with
    | .ref b => kf b
    | _ => (0, 0)
  have hob : (h'.push { cls := .type "list", data := .seq (as.map Value.ref).toArray }).get? h'.objs.size = some (seqObj "list" (as.map Value.ref).toArray 0) := Heap.get?_push_size _ rfl
  have ka : ∀ b o, h'.get? b = some o → (h'.push { cls := .type "list", data := .seq (as.map Value.ref).toArray }).get? b = some o := fun b o e => Heap.get?_push_of_some _ e
  have off : ∀ b o, h'.get? b = some o → b ≠ h'.objs.size := fun b o e => Nat.ne_of_lt (Heap.lt_size e)
  generalize hh2 : h'.push { cls := .type "list", data := .seq (as.map Value.ref).toArray } = h2 at hob ka ⊢
  have hp2 : ∀ v ∈ as.map Value.ref, Srt.IsPair h2 v (kV2 v).1 (kV2 v).2 := by
    intro v hv
    obtain ⟨b, hb, rfl⟩ := List.mem_map.mp hv
    exact (hkf b hb).keeps fun c oc e _ => ka c oc e
  have lenV : (as.map Value.ref).length ≤ sizeLine := by rw [List.length_map]; omega
  refine wpAny_call_entry PyProof.Rows.slot_list_sort ⟨_, hob, rfl⟩ PyProof.Rows.entry_list_sort
    (SrtO.list_sort_ord (s := { s with heap := h2, toks := tk }) (SrtO.swo_lex kV2) hob lenV (fun h2' => SrtO.pairs_sortableO (s := { s with heap := h2, toks := tk }) (by omega) hp2 fun oo e => ?_) fun out o1 o2 => ⟨.none, rfl, ?_⟩) (PyProof.Rows.args_list_sort _)
  · have e' : some oo = some (seqObj "list" (as.map Value.ref).toArray 0) := e.symm.trans hob
    cases e'
    intro c
    exact absurd (Value.type.inj c) (by decide)
  · show EP X pins σ Q (.ref h'.objs.size) { s with heap := sortedHeap h2 h'.objs.size (as.map Value.ref) out.toArray, toks := tk }
    have inV : ∀ v ∈ out, ∃ b ∈ as, v = Value.ref b := fun v hv => by
      obtain ⟨b, hb, e⟩ := List.mem_map.mp (o2.perm.mem_iff.mp hv)
      exact ⟨b, hb, e.symm⟩
    obtain ⟨ts, ets⟩ : ∃ ts : List Addr, out = ts.map Value.ref := by
      have : ∀ l : List Value, (∀ v ∈ l, ∃ b ∈ as, v = Value.ref b) → ∃ ts : List Addr, l = ts.map Value.ref := by
        intro l
        induction l with
        | nil => intro _; exact ⟨[], rfl⟩
        | cons v l ih =>
          intro hl'
          obtain ⟨b, _, e⟩ := hl' v List.mem_cons_self
          obtain ⟨ts, e2⟩ := ih fun y hy => hl' y (List.mem_cons_of_mem _ hy)
          exact ⟨b :: ts, by rw [e, e2]; rfl⟩
      exact this out inV
    subst ets
    have tsIn : ∀ b ∈ ts, b ∈ as := fun b hb => by
      obtain ⟨c, hc', e⟩ := inV (.ref b) (List.mem_map.mpr ⟨b, hb, rfl⟩)
      cases e
      exact hc'
    have tperm : ts.Perm as := by
      have e := o2.perm.map (fun v : Value => match v with
        | .ref b => b
        | _ => 0)
      have back : ∀ l : List Addr, (l.map Value.ref).map (fun v : Value => match v with
        | .ref b => b
        | _ => 0) = l := by
        intro l
        rw [List.map_map]
        exact List.map_id' l
      rwa [back, back] at e
    have M1 : (ts.map kf).Perm L := by
      rw [← eL]
      exact tperm.map kf
    have M2 : SrtO.Srtd SrtO.lexB (ts.map kf) := by
      have e : SrtO.Srtd SrtO.lexB ((ts.map Value.ref).map kV2) := SrtO.srtd_map o1
      rwa [List.map_map] at e
    have kF : ∀ b oo, b ≠ h'.objs.size → h2.get? b = some oo → (sortedHeap h2 h'.objs.size (as.map Value.ref) (ts.map Value.ref).toArray).get? b = some oo := fun b oo hb e => (PyProof.Rows.sortedHeap_old hb (Heap.lt_size e)).trans e
    have kS : ∀ b oo, s.heap.get? b = some oo → (sortedHeap h2 h'.objs.size (as.map Value.ref) (ts.map Value.ref).toArray).get? b = some oo := fun b oo e => kF b oo (off _ _ (hk' b oo e)) (ka b oo (hk' b oo e))
    obtain ⟨eF, heF⟩ := PyProof.Rows.sortedHeap_at (vs := as.map Value.ref) (out := (ts.map Value.ref).toArray) hob
    have I1 : Inv X pins σ H { s with heap := sortedHeap h2 h'.objs.size (as.map Value.ref) (ts.map Value.ref).toArray, toks := tk } := I.kept (t' := tk) kS
    have newL : H h'.objs.size = none := I.hok.fresh (Nat.le_of_lt hlt)
    have I2 : Inv X pins σ (upd H h'.objs.size (.lst (ts.map V.ref))) { s with heap := sortedHeap h2 h'.objs.size (as.map Value.ref) (ts.map Value.ref).toArray, toks := tk } :=
      I1.take (h' := sortedHeap h2 h'.objs.size (as.map Value.ref) (ts.map Value.ref).toArray) (t' := tk) (fun b ob _ e => e) (I.fpOk (Nat.le_of_lt hlt) newL) ⟨by rw [List.length_map, tperm.length_eq]; omega, ts.map Value.ref, eF, LiI.vals_refs ts, heF⟩
    obtain ⟨H2, I3, g, qt⟩ := DX.takeT (P := fun b us => us = [V.int (kf b).1, V.int (kf b).2]) I as _ I2 nd fun b hb => by
      have hbl : s.heap.objs.size ≤ b := Nat.le_of_lt (hG.above b hb)
      obtain ⟨c, oc, t, u, n, e, hoc, hcc, hdc⟩ := hkf b hb
      cases e
      refine ⟨hbl, ?_, _, rfl, fun H3 => ⟨by show 2 ≤ sizeLine; decide, [Value.int (kf b).1 t, Value.int (kf b).2 u], .cons ⟨t, rfl⟩ (.cons ⟨u, rfl⟩ .nil), ⟨oc, kF _ _ (off _ _ hoc) (ka _ _ hoc), hcc, n, hdc⟩⟩⟩
      rw [upd_ne (off _ _ hoc)]
      exact I.hok.fresh hbl
    have gr : Same H H2 := fun b oo e => g b oo (by rw [upd_ne (ne_of_none e newL)]; exact e)
    refine ⟨.ref h'.objs.size, H2, I3, rfl, q H2 h'.objs.size ts (ts.map kf) gr newL M1 M2 (g _ _ upd_same) (paired_map fun b hb => ?_)⟩
    obtain ⟨us, eu, hu⟩ := qt b (tsIn b hb)
    rw [hu, eu]
end L2

/-! rows (tuples of whole numbers of any length) sorted; dicts whose keys are rows: their items sorted -/
namespace RW9
open PySem PySem.Spec PySem.W PyProof.Rows
section
variable {prog : Program} {w : World} {A : Around} {s : Shared}
theorem eachIs_self {R : Value → PyData → Prop} {enc : Value → PyData} : ∀ {vs : List Value}, (∀ v ∈ vs, R v (enc v)) → EachIs R vs (vs.map enc)
  | [], _ => .nil
  | v :: vs, h => .cons (h v List.mem_cons_self) (eachIs_self fun u hu => h u (List.mem_cons_of_mem _ hu))
/-- tuples that read as alike data, with an item at least where there are two of them -/
theorem sortable {a : Addr} {vs : List Value} {enc : Value → PyData} (h2 : 2 ≤ vs.length)
    (er : ∀ h' : Heap, (∀ b o, b ≠ a → s.heap.get? b = some o → h'.get? b = some o) → ∀ v ∈ vs, ∃ as, Reads h' v (enc v) as)
    (hal : ∀ v ∈ vs, ∀ u ∈ vs, alike (enc v) (enc u) = true) (ht : ∀ v ∈ vs, ∃ x r, enc v = .tuple (x :: r)) (hu : ∀ v ∈ vs, A.units + (enc v).depth < cLine) :
    SrtO.SortableO prog w A s a vs fun v u => dataLt (enc v) (enc u) := by
  intro h' keep
  have hal' : AllAlike (vs.map enc) := by
    intro d hd d' hd'
    obtain ⟨v, hv, rfl⟩ := List.mem_map.mp hd
    obtain ⟨u, hu', rfl⟩ := List.mem_map.mp hd'
    exact hal v hv u hu'
  have S : SortsAt prog w A { s with heap := h' } (dataKind h' (vs.map enc)) vs :=
    SortsAt.data (s := { s with heap := h' }) (eachIs_self (R := fun v d => ∃ as, Reads h' v d as) (er h' keep)) hal' (.inl fun d hd => by
      obtain ⟨v, hv, rfl⟩ := List.mem_map.mp hd
      exact ht v hv) fun d hd => by
      obtain ⟨v, hv, rfl⟩ := List.mem_map.mp hd
      exact hu v hv
  obtain ⟨kd, lt, kk⟩ := S.kind
  refine ⟨kd, fun Q E hq => kk h2 E hq, ?_⟩
  intro p q hp hq
  obtain ⟨as, ra⟩ := er h' keep p.1 hp
  obtain ⟨bs, rb⟩ := er h' keep q.1 hq
  exact lt (fun _ _ => False) p.1 q.1 _ _ (dataKind_some hal' (List.mem_map.mpr ⟨_, hp, rfl⟩) ra) (dataKind_some hal' (List.mem_map.mpr ⟨_, hq, rfl⟩) rb) ⟨rfl, rfl⟩
/-- a datum's order -/
theorem swo_data (enc : Value → PyData) : SrtO.Swo fun v u => dataLt (enc v) (enc u) := by
  have ir := (listOrd itemOrd).irrefl
  refine ⟨fun x y h => ?_, fun x y z h1 h2 => ?_⟩
  · show (listOrd itemOrd).blt (keyToks (enc y)) (keyToks (enc x)) = false
    cases e : (listOrd itemOrd).blt (keyToks (enc y)) (keyToks (enc x)) with
    | false => rfl
    | true => exact absurd ((listOrd itemOrd).trans _ _ _ h e) (by rw [ir]; exact Bool.false_ne_true)
  · show (listOrd itemOrd).blt (keyToks (enc z)) (keyToks (enc x)) = false
    cases e : (listOrd itemOrd).blt (keyToks (enc z)) (keyToks (enc x)) with
    | false => rfl
    | true =>
      rcases (listOrd itemOrd).negTrans _ (keyToks (enc y)) _ e with q | q
      · exact absurd (q.symm.trans h2) (by decide)
      · exact absurd (q.symm.trans h1) (by decide)
/-! ### the order of rows -/
def ltR (xs ys : List Int) : Bool := decide (xs < ys)
abbrev encR (r : List Int) : PyData := .tuple (r.map .int)
theorem encR_lt (xs ys : List Int) : dataLt (encR xs) (encR ys) = ltR xs ys := by
  rw [dataLt_tuple]
  exact dataLt_ints xs ys
theorem encR_alike (xs ys : List Int) : alike (encR xs) (encR ys) = true := by
  simp [alike, alike_ints]
theorem eqv_ints : ∀ {xs ys : List Int}, PyData.eqvAll (xs.map .int) (ys.map .int) = true → xs = ys
  | [], [], _ => rfl
  | [], y :: ys, h => by simp [PyData.eqvAll] at h
  | x :: xs, [], h => by simp [PyData.eqvAll] at h
  | x :: xs, y :: ys, h => by
    have h' : (PyData.eqv (.int x) (.int y) && PyData.eqvAll (xs.map .int) (ys.map .int)) = true := by rw [← eqv_all_cons]; exact h
    obtain ⟨h1, h2⟩ := Bool.and_eq_true_iff.mp h'
    rw [eqv_ints h2, (show x = y by simpa [PyData.eqv] using h1)]
theorem encR_eqv {xs ys : List Int} (h : PyData.eqv (encR xs) (encR ys) = true) : xs = ys := eqv_ints (by simpa [PyData.eqv] using h)
/-- an item: a row and a number -/
abbrev encI (q : List Int × Int) : PyData := .tuple [encR q.1, .int q.2]
theorem encI_lt {p q : List Int × Int} (h : p.1 ≠ q.1) : dataLt (encI p) (encI q) = ltR p.1 q.1 := by
  rw [dataLt_pair (encR_alike _ _) (by simp [alike]), if_neg (fun e => h (encR_eqv e)), encR_lt]
theorem reads_row {h : Heap} {b : Addr} {r : List Int} {its : List Value} (hI : IntsAre its r) (ht : IsTup h b its.toArray) : ∃ as, Reads h (.ref b) (encR r) as := by
  obtain ⟨o, ho, hc, n, hd⟩ := ht
  have z : ∀ {its : List Value} {r : List Int}, IntsAre its r → ReadsAll h its (r.map .int) [] := by
    intro its r q
    induction q with
    | nil => exact .nil
    | cons i t _ ih => exact .cons (as := []) (.int _ _) ih
  exact ⟨_, .tuple ho hc hd (by simpa using z hI)⟩
end
end RW9

namespace L2
open PySem PySem.Spec PySem.W PyProof.Rows RW9
abbrev rk (r : List Int) : List L2.Key := r.map Sum.inl
theorem rk_kV (r : List Int) : (rk r).map kV = r.map V.int := by
  rw [List.map_map]
  rfl
theorem rk_inj {r q : List Int} (h : rk r = rk q) : r = q := (List.map_inj_right (f := (Sum.inl : Int → L2.Key)) (fun x y e => Sum.inl.inj e)).mp h
/-- a dict from rows to numbers -/
abbrev rowD (L : List (List Int × Int)) : List (List L2.Key × V) := L.map fun q => (rk q.1, V.int q.2)
theorem rowD_keys {H : Hp} : ∀ {L : List (List Int × Int)} {xs : List (List L2.Key × Addr × Value)}, KT H (rowD L) xs → (xs.map (·.1)).Nodup → (L.map (·.1)).Nodup := by
  intro L xs r hn
  have e : xs.map (·.1) = (L.map (·.1)).map rk := by
    have z : ∀ {kvs : List (List L2.Key × V)} {xs : List (List L2.Key × Addr × Value)}, KT H kvs xs → xs.map (·.1) = kvs.map (·.1) := by
      intro kvs xs r
      induction r with
      | nil => rfl
      | cons h t ih => rw [List.map_cons, List.map_cons, ih, ← h.1]
    rw [z r, List.map_map, List.map_map]
    rfl
  rw [e] at hn
  exact List.Pairwise.of_map rk (fun a b h e => h (by rw [e])) hn
theorem row_ints {X : Cx} {pins : List (Addr × Obj)} {σ : St} {H : Hp} {s : Shared} (I : Inv X pins σ H s) {b : Addr} {r : List Int} (h : H b = some (.tup (r.map V.int))) : ∃ its, IntsAre its r ∧ IsTup s.heap b its.toArray := by
  obtain ⟨_, its, rv, q⟩ := (show ObjOk X.prog X.w H s.heap b (.tup (r.map V.int)) from I.hok b _ h)
  exact ⟨its, by simpa using rv.ints, q⟩
/-- what an item of the new list is -/
def ItemAt (H : Hp) (t : Addr) (q : List Int × Int) : Prop := ∃ b, H t = some (.tup [.ref b, .int q.2]) ∧ H b = some (.tup (q.1.map V.int))
def rSortItR : List V → Hp → VK → Prop := fun vs H Q => ∃ (p a : Addr) (L : List (List Int × Int)), vs = [.ref p] ∧ H p = some (DX.itemsO p a) ∧ H a = some (.dT (rowD L)) ∧
  ∀ (H' : Hp) (l : Addr) (ts : List Addr) (M : List (List Int × Int)), Same H H' → H l = none → M.Perm L → (M.map (·.1)).Nodup → M.Pairwise (fun p q => ltR q.1 p.1 = false) → H' l = some (.lst (ts.map V.ref)) → Paired (ItemAt H') ts M → Q (.ref l) H'
theorem cr_sortedItemsR {X : Cx} (hc : X.calm = true) (hu : X.A.units + 8 < cLine) : CallR X (.builtin "sorted") rSortItR := by
  intro pins s σ H xs us Q I r h
  obtain ⟨p, a, L, rfl, hp, ha, q⟩ := h
  obtain rfl := Vals.ref1 r
  have view : s.heap.IsItemsView p a := (show ObjOk X.prog X.w H s.heap p (DX.itemsO p a) from I.hok p _ hp).1
  obtain ⟨z, hd, xs', rel, o, es, ep, ho, hx, hdat, hes, his, hn⟩ := dt_of I.hok ha
  have ndL : (L.map (·.1)).Nodup := rowD_keys rel hn
  have l1 : L.length = xs'.length := by
    have e := Paired.length rel
    rwa [List.length_map] at e
  have l2 : es.size = xs'.length := size_of_entries hes
  rw [List.length_map] at z
  have hh : X.A.handled = none := I.ok.hd hc
  refine DT.sortedI (es := es) (ep := ep) hh view ⟨o, ho, hx, hdat⟩ (by omega) fun h' tk as hk' hlt hl hG => ?_
  have nd : as.Nodup := List.Pairwise.imp (fun h => Nat.ne_of_lt h) hG.rise
  have asl : as.length = L.length := by omega
  have made : ∀ (j : Nat) (b : Addr), as[j]? = some b → ∃ (q : List Int × Int) (kq : Addr) (t : Tok), L[j]? = some q ∧ H kq = some (.tup (q.1.map V.int)) ∧ h'.get? b = some { cls := .type "tuple", data := .seq #[Value.ref kq, Value.int q.2 t] } := by
    intro j b hj
    obtain ⟨en, he, hg⟩ := hG.pairs j b hj
    rw [entry_at hes j] at he
    cases hxj : xs'[j]? with
    | none =>
      rw [hxj] at he
      exact nomatch (show (none : Option DictEntry) = some en from he)
    | some x =>
      rw [hxj] at he
      have een : entryOfKey (tupleKind (mixKind X.prog X.w)) x = en := Option.some.inj he
      obtain ⟨e0, he0, r1, r2, r3⟩ := DX.pget rel hxj
      rw [List.getElem?_map] at he0
      cases hL : L[j]? with
      | none =>
        rw [hL] at he0
        cases he0
      | some qq =>
        rw [hL] at he0
        have ee : (rk qq.1, V.int qq.2) = e0 := Option.some.inj he0
        subst ee
        obtain ⟨t, ht⟩ := r3
        refine ⟨qq, x.2.1, t, rfl, ?_, ?_⟩
        · rw [← rk_kV]
          exact r2
        · rw [hg, ← een, ← ht]
          all_goals rfl
  obtain ⟨kf, hkf⟩ : ∃ kf : Addr → (List Int × Int) × Addr × Tok, ∀ (j : Nat) (b : Addr), as[j]? = some b → L[j]? = some (kf b).1 ∧ H (kf b).2.1 = some (.tup ((kf b).1.1.map V.int)) ∧ h'.get? b = some { cls := .type "tuple", data := .seq #[Value.ref (kf b).2.1, Value.int (kf b).1.2 (kf b).2.2] } := by
    have : ∀ b : Addr, ∃ k : (List Int × Int) × Addr × Tok, ∀ j : Nat, as[j]? = some b → L[j]? = some k.1 ∧ H k.2.1 = some (.tup (k.1.1.map V.int)) ∧ h'.get? b = some { cls := .type "tuple", data := .seq #[Value.ref k.2.1, Value.int k.1.2 k.2.2] } := by
      intro b
      by_cases hb : b ∈ as
      · obtain ⟨j, hj⟩ := List.mem_iff_getElem?.mp hb
        obtain ⟨qq, kq, t, h1, h2, h3⟩ := made j b hj
        refine ⟨(qq, kq, t), fun i hi => ?_⟩
        have ji : j = i := (List.getElem?_inj (List.getElem?_eq_some_iff.mp hj).1 nd).mp (hj.trans hi.symm)
        subst ji
        exact ⟨h1, h2, h3⟩
      · exact ⟨((([] : List Int), (0 : Int)), (0 : Addr), (0 : Nat)), fun j hj => absurd (List.mem_of_getElem? hj) hb⟩
    obtain ⟨f, hf⟩ := Classical.skolem.mp this
    exact ⟨f, fun j b hj => hf b j hj⟩
  have eL : as.map (fun b => (kf b).1) = L := by
    refine List.ext_getElem? fun j => ?_
    rw [List.getElem?_map]
    cases hj : as[j]? with
    | none =>
      have : L.length ≤ j := by
        have := List.getElem?_eq_none_iff.mp hj
        omega
      rw [List.getElem?_eq_none_iff.mpr this]
      rfl
    | some b => exact (hkf j b hj).1.symm
  have kIn : ∀ b ∈ as, H (kf b).2.1 = some (.tup ((kf b).1.1.map V.int)) ∧ h'.get? b = some { cls := .type "tuple", data := .seq #[Value.ref (kf b).2.1, Value.int (kf b).1.2 (kf b).2.2] } := fun b hb => by
    obtain ⟨j, hj⟩ := List.mem_iff_getElem?.mp hb
    exact (hkf j b hj).2
  let enc : Value → PyData := fun v => match v with
    | .ref b => encI (kf b).1
    | _ => encI ([], 0)
  have hob : (h'.push { cls := .type "list", data := .seq (as.map Value.ref).toArray }).get? h'.objs.size = some (seqObj "list" (as.map Value.ref).toArray 0) := Heap.get?_push_size _ rfl
  have ka : ∀ b o, h'.get? b = some o → (h'.push { cls := .type "list", data := .seq (as.map Value.ref).toArray }).get? b = some o := fun b o e => Heap.get?_push_of_some _ e
  have off : ∀ b o, h'.get? b = some o → b ≠ h'.objs.size := fun b o e => Nat.ne_of_lt (Heap.lt_size e)
  generalize hh2 : h'.push { cls := .type "list", data := .seq (as.map Value.ref).toArray } = h2 at hob ka ⊢
  have lenV : (as.map Value.ref).length ≤ sizeLine := by rw [List.length_map]; omega
  have er : ∀ h2' : Heap, (∀ b o, b ≠ h'.objs.size → h2.get? b = some o → h2'.get? b = some o) → ∀ v ∈ as.map Value.ref, ∃ ws, Reads h2' v (enc v) ws := by
    intro h2' keep v hv
    obtain ⟨b, hb, rfl⟩ := List.mem_map.mp hv
    obtain ⟨e1, e2⟩ := kIn b hb
    obtain ⟨its, hI, ob, hob', hcb, nb, hdb⟩ := row_ints I e1
    obtain ⟨ws, hw⟩ := reads_row (h := h2') hI ⟨ob, keep _ _ (off _ _ (hk' _ _ hob')) (ka _ _ (hk' _ _ hob')), hcb, nb, hdb⟩
    exact ⟨_, .tuple (keep _ _ (off _ _ e2) (ka _ _ e2)) rfl rfl (.cons hw (.cons (.int _ _) .nil))⟩
  refine wpAny_call_entry PyProof.Rows.slot_list_sort ⟨_, hob, rfl⟩ PyProof.Rows.entry_list_sort
    (SrtO.list_sort_ord (s := { s with heap := h2, toks := tk }) (swo_data enc) hob lenV (fun h2l => sortable (s := { s with heap := h2, toks := tk }) h2l er (fun v hv u hu' => ?_) (fun v hv => ?_) fun v hv => ?_) fun out o1 o2 => ⟨.none, rfl, ?_⟩) (PyProof.Rows.args_list_sort _)
  · obtain ⟨b, hb, rfl⟩ := List.mem_map.mp hv
    obtain ⟨c, hc', rfl⟩ := List.mem_map.mp hu'
    show alike (encI (kf b).1) (encI (kf c).1) = true
    simp [alike, alikeAll, alike_ints]
  · obtain ⟨b, hb, rfl⟩ := List.mem_map.mp hv
    exact ⟨_, _, rfl⟩
  · obtain ⟨b, hb, rfl⟩ := List.mem_map.mp hv
    show X.A.in1.in1.units + (encI (kf b).1).depth < cLine
    have e1 : X.A.in1.in1.units = X.A.units + 2 := rfl
    have e2 : (encI (kf b).1).depth ≤ 4 := by
      simp [PyData.depth, PyData.depthAll, depth_ints]
    omega
  · show EP X pins σ Q (.ref h'.objs.size) { s with heap := sortedHeap h2 h'.objs.size (as.map Value.ref) out.toArray, toks := tk }
    have inV : ∀ v ∈ out, ∃ b ∈ as, v = Value.ref b := fun v hv => by
      obtain ⟨b, hb, e⟩ := List.mem_map.mp (o2.perm.mem_iff.mp hv)
      exact ⟨b, hb, e.symm⟩
    obtain ⟨ts, ets⟩ : ∃ ts : List Addr, out = ts.map Value.ref := ⟨out.map adO, ref_map fun v hv => by
      obtain ⟨b, _, e⟩ := inV v hv
      exact ⟨b, e⟩⟩
    subst ets
    have tsIn : ∀ b ∈ ts, b ∈ as := fun b hb => by
      obtain ⟨c, hc', e⟩ := inV (.ref b) (List.mem_map.mpr ⟨b, hb, rfl⟩)
      cases e
      exact hc'
    have tperm : ts.Perm as := by
      have e := o2.perm.map adO
      rwa [ad_map, ad_map] at e
    have M1 : (ts.map fun b => (kf b).1).Perm L := by
      rw [← eL]
      exact tperm.map _
    have M0 : ((ts.map fun b => (kf b).1).map (·.1)).Nodup := (M1.map (·.1)).nodup_iff.mpr ndL
    have M2 : (ts.map fun b => (kf b).1).Pairwise (fun p q => ltR q.1 p.1 = false) := by
      have e : (ts.map Value.ref).Pairwise (fun v u => dataLt (enc u) (enc v) = false) := o1
      rw [List.pairwise_map] at e ⊢
      rw [List.map_map, List.Nodup, List.pairwise_map] at M0
      refine (e.and M0).imp fun {x y} hxy => ?_
      have e2 : dataLt (encI (kf y).1) (encI (kf x).1) = false := hxy.1
      rwa [encI_lt (fun z => hxy.2 z.symm)] at e2
    have kF : ∀ b oo, b ≠ h'.objs.size → h2.get? b = some oo → (sortedHeap h2 h'.objs.size (as.map Value.ref) (ts.map Value.ref).toArray).get? b = some oo := fun b oo hb e => (PyProof.Rows.sortedHeap_old hb (Heap.lt_size e)).trans e
    have kS : ∀ b oo, s.heap.get? b = some oo → (sortedHeap h2 h'.objs.size (as.map Value.ref) (ts.map Value.ref).toArray).get? b = some oo := fun b oo e => kF b oo (off _ _ (hk' b oo e)) (ka b oo (hk' b oo e))
    obtain ⟨eF, heF⟩ := PyProof.Rows.sortedHeap_at (vs := as.map Value.ref) (out := (ts.map Value.ref).toArray) hob
    have I1 : Inv X pins σ H { s with heap := sortedHeap h2 h'.objs.size (as.map Value.ref) (ts.map Value.ref).toArray, toks := tk } := I.kept (t' := tk) kS
    have newL : H h'.objs.size = none := I.hok.fresh (Nat.le_of_lt hlt)
    have I2 : Inv X pins σ (upd H h'.objs.size (.lst (ts.map V.ref))) { s with heap := sortedHeap h2 h'.objs.size (as.map Value.ref) (ts.map Value.ref).toArray, toks := tk } :=
      I1.take (h' := sortedHeap h2 h'.objs.size (as.map Value.ref) (ts.map Value.ref).toArray) (t' := tk) (fun b ob _ e => e) (I.fpOk (Nat.le_of_lt hlt) newL) ⟨by rw [List.length_map, tperm.length_eq]; omega, ts.map Value.ref, eF, LiI.vals_refs ts, heF⟩
    obtain ⟨H2, I3, g, qt⟩ := DX.takeT (P := fun b us => us = [V.ref (kf b).2.1, V.int (kf b).1.2]) I as _ I2 nd fun b hb => by
      have hbl : s.heap.objs.size ≤ b := Nat.le_of_lt (hG.above b hb)
      obtain ⟨e1, e2⟩ := kIn b hb
      refine ⟨hbl, ?_, _, rfl, fun H3 => ⟨by show 2 ≤ sizeLine; decide, [Value.ref (kf b).2.1, Value.int (kf b).1.2 (kf b).2.2], .cons rfl (.cons ⟨_, rfl⟩ .nil), ⟨_, kF _ _ (off _ _ e2) (ka _ _ e2), rfl, 0, rfl⟩⟩⟩
      rw [upd_ne (off _ _ e2)]
      exact I.hok.fresh hbl
    have gr : Same H H2 := fun b oo e => g b oo (by rw [upd_ne (ne_of_none e newL)]; exact e)
    refine ⟨.ref h'.objs.size, H2, I3, rfl, q H2 h'.objs.size ts _ gr newL M1 M0 M2 (g _ _ upd_same) (paired_map fun b hb => ?_)⟩
    obtain ⟨us, eu, hu3⟩ := qt b (tsIn b hb)
    exact ⟨_, by rw [hu3, eu], gr _ _ (kIn b (tsIn b hb)).1⟩
end L2

namespace L2
open PySem PySem.Spec PySem.W PyProof.Rows RW9
/-- sorted(d), d a dict whose keys are rows -/
def rSortKeysR : List V → Hp → VK → Prop := fun vs H Q => ∃ (a : Addr) (kvs : List (List L2.Key × V)) (ks : List (List Int)), vs = [.ref a] ∧ Rd H a (.dT kvs) ∧ kvs.map (·.1) = ks.map rk ∧ (2 ≤ ks.length → [] ∉ ks) ∧
  ∀ (p : Addr) (ts : List Addr) (M : List (List Int)), H p = none → M.Perm ks → M.Nodup → M.Pairwise (fun p q => ltR q p = false) → Paired (fun (t : Addr) (r : List Int) => H t = some (.tup (r.map V.int))) ts M → Q (.ref p) (upd H p (.lst (ts.map V.ref)))
theorem cr_sortedKeysR {X : Cx} (hc : X.calm = true) (hu : X.A.units + 8 < cLine) : CallR X (.builtin "sorted") rSortKeysR := by
  intro pins s σ H xs us Q I r h
  obtain ⟨a, kvs, ks, rfl, hd, hks, hne, q⟩ := h
  obtain rfl := Vals.ref1 r
  obtain ⟨z, hs, xs', rel, o, es, ep, ho, hx, hdt, he, hn⟩ := (show ObjOk X.prog X.w H s.heap a (.dT kvs) from hd.ok I.hok)
  have l1 : es.size = xs'.length := size_of_entries he
  have l2 : kvs.length = xs'.length := Paired.length rel
  have l3 : kvs.length = ks.length := by
    have e := congrArg List.length hks
    rwa [List.length_map, List.length_map] at e
  -- the row of each key
  have at' : ∀ (j : Nat) (x : List L2.Key × Addr × Value), xs'[j]? = some x → ∃ r : List Int, ks[j]? = some r ∧ x.1 = rk r ∧ H x.2.1 = some (.tup (r.map V.int)) := by
    intro j x hj
    obtain ⟨e0, he0, r1, r2, _⟩ := DX.pget rel hj
    have e1 : (kvs.map (·.1))[j]? = some e0.1 := by rw [List.getElem?_map, he0]; rfl
    rw [hks, List.getElem?_map] at e1
    obtain ⟨r, hr, e2⟩ := Option.map_eq_some_iff.mp e1
    exact ⟨r, hr, by rw [← r1, e2], by rw [← rk_kV, e2]; exact r2⟩
  have ndk : ks.Nodup := by
    have e : xs'.map (·.1) = ks.map rk := by
      rw [← hks]
      refine List.ext_getElem? fun j => ?_
      rw [List.getElem?_map, List.getElem?_map]
      cases hj : xs'[j]? with
      | none =>
        have := List.getElem?_eq_none_iff.mp hj
        rw [List.getElem?_eq_none (by omega)]
        rfl
      | some x =>
        obtain ⟨e0, he0, r1, _⟩ := DX.pget rel hj
        rw [he0]
        exact congrArg some r1.symm
    rw [e] at hn
    exact List.Pairwise.of_map rk (fun a b h e => h (by rw [e])) hn
  refine Calls.call_function_entry PyProof.Rows.kind_sorted PyProof.Rows.plain_sorted PyProof.Rows.entry_sorted (PyProof.Rows.args_sorted1 _) ?_
  unfold Builtin.«sorted»
  refine wpAny_bind (m := checkCount "sorted" 1 1 _) (wpAny_pure ?_)
  refine wpAny_bind (PySem.W.kdu_collect (A := X.A.in1) (kdl_raw hs hx hdt) (I.ok.hd hc) ho (by omega) fun h' tk acc hk hacc => ?_)
  have hal : acc.toList.length = xs'.length := by rw [Array.length_toList, hacc.1]; exact l1
  have ea : acc.toList = (xs'.map fun x => x.2.1).map Value.ref := by
    refine List.ext_getElem? fun j => ?_
    rw [List.map_map, List.getElem?_map]
    cases hj : acc.toList[j]? with
    | none =>
      have := List.getElem?_eq_none_iff.mp hj
      rw [List.getElem?_eq_none (by omega)]
      rfl
    | some v =>
      obtain ⟨en, hen, hv⟩ := hacc.2 j v (by rw [← Array.getElem?_toList]; exact hj)
      have qe := entry_at he j
      rw [hen] at qe
      cases hb : xs'[j]? with
      | none =>
        rw [hb] at qe
        exact nomatch (show some en = none from qe)
      | some b =>
        rw [hb] at qe
        have e2 : en = entryOfKey (tupleKind (mixKind X.prog X.w)) b := Option.some.inj qe
        rw [hv, e2]
        rfl
  generalize has : (xs'.map fun x => x.2.1) = as at ea
  have asl : as.length = ks.length := by rw [← has, List.length_map]; omega
  obtain ⟨kf, hkf⟩ : ∃ kf : Addr → List Int, ∀ (j : Nat) (b : Addr), as[j]? = some b → ks[j]? = some (kf b) ∧ H b = some (.tup ((kf b).map V.int)) := by
    have : ∀ b : Addr, ∃ r : List Int, ∀ j : Nat, as[j]? = some b → ks[j]? = some r ∧ H b = some (.tup (r.map V.int)) := by
      intro b
      by_cases hb : b ∈ as
      · obtain ⟨j, hj⟩ := List.mem_iff_getElem?.mp hb
        have one : ∀ i : Nat, as[i]? = some b → ∃ r, ks[i]? = some r ∧ H b = some (.tup (r.map V.int)) := by
          intro i hi
          rw [← has, List.getElem?_map] at hi
          obtain ⟨x, hx1, hx2⟩ := Option.map_eq_some_iff.mp hi
          subst hx2
          obtain ⟨r, hr, _, e3⟩ := at' i x hx1
          exact ⟨r, hr, e3⟩
        obtain ⟨r, h1, h2⟩ := one j hj
        refine ⟨r, fun i hi => ?_⟩
        obtain ⟨r', h3, h4⟩ := one i hi
        have e : r'.map V.int = r.map V.int := by
          rw [h2] at h4
          injection h4 with h4
          injection h4 with h4
          exact h4.symm
        have er : r' = r := (List.map_inj_right (f := V.int) (fun x y e => by injection e)).mp e
        subst er
        exact ⟨h3, h2⟩
      · exact ⟨[], fun j hj => absurd (List.mem_of_getElem? hj) hb⟩
    obtain ⟨f, hf⟩ := Classical.skolem.mp this
    exact ⟨f, fun j b hj => hf b j hj⟩
  have eL : as.map kf = ks := by
    refine List.ext_getElem? fun j => ?_
    rw [List.getElem?_map]
    cases hj : as[j]? with
    | none =>
      have := List.getElem?_eq_none_iff.mp hj
      rw [List.getElem?_eq_none (by omega)]
      rfl
    | some b => exact (hkf j b hj).1.symm
  have kIn : ∀ b ∈ as, H b = some (.tup ((kf b).map V.int)) := fun b hb => by
    obtain ⟨j, hj⟩ := List.mem_iff_getElem?.mp hb
    exact (hkf j b hj).2
  let enc : Value → PyData := fun v => match v with
    | .ref b => encR (kf b)
    | _ => encR []
  have I1 : Inv X pins σ H { s with heap := h', toks := tk } := I.kept hk
  rw [ea]
  have lenV : (as.map Value.ref).length ≤ sizeLine := by rw [List.length_map]; omega
  refine wpAny_bind (wpAny_newList ?_ lenV)
  have hob : (h'.push (seqObj "list" (as.map Value.ref).toArray 0)).get? h'.objs.size = some (seqObj "list" (as.map Value.ref).toArray 0) := Heap.get?_push_size _ rfl
  have ka : ∀ b o, h'.get? b = some o → (h'.push (seqObj "list" (as.map Value.ref).toArray 0)).get? b = some o := fun b o e => Heap.get?_push_of_some _ e
  have off : ∀ b o, h'.get? b = some o → b ≠ h'.objs.size := fun b o e => Nat.ne_of_lt (Heap.lt_size e)
  show wpAny _ _ _ _ _ { s with heap := h'.push (seqObj "list" (as.map Value.ref).toArray 0), toks := tk }
  generalize hh2 : h'.push (seqObj "list" (as.map Value.ref).toArray 0) = h2 at hob ka ⊢
  have er : ∀ h2' : Heap, (∀ b o, b ≠ h'.objs.size → h2.get? b = some o → h2'.get? b = some o) → ∀ v ∈ as.map Value.ref, ∃ ws, Reads h2' v (enc v) ws := by
    intro h2' keep v hv
    obtain ⟨b, hb, rfl⟩ := List.mem_map.mp hv
    obtain ⟨its, hI, ob, hob', hcb, nb, hdb⟩ := row_ints I1 (kIn b hb)
    exact reads_row (h := h2') hI ⟨ob, keep _ _ (off _ _ hob') (ka _ _ hob'), hcb, nb, hdb⟩
  refine wpAny_bind (wpAny_holding (wpAny_call_entry PyProof.Rows.slot_list_sort ⟨_, hob, rfl⟩ PyProof.Rows.entry_list_sort
    (SrtO.list_sort_ord (s := { s with heap := h2, toks := tk }) (swo_data enc) hob lenV (fun h2l => sortable (s := { s with heap := h2, toks := tk }) h2l er (fun v hv u hu' => ?_) (fun v hv => ?_) fun v hv => ?_) fun out o1 o2 => ⟨_, rfl, ?_⟩) (PyProof.Rows.args_list_sort _)))
  · obtain ⟨b, hb, rfl⟩ := List.mem_map.mp hv
    obtain ⟨c, hc', rfl⟩ := List.mem_map.mp hu'
    exact encR_alike _ _
  · obtain ⟨b, hb, rfl⟩ := List.mem_map.mp hv
    show ∃ x r, encR (kf b) = .tuple (x :: r)
    have ne : kf b ≠ [] := fun e => hne (by rw [← asl]; rwa [List.length_map] at h2l) (by
      rw [← eL, ← e]
      exact List.mem_map.mpr ⟨b, hb, rfl⟩)
    cases e : kf b with
    | nil => exact absurd e ne
    | cons x r => exact ⟨_, _, rfl⟩
  · obtain ⟨b, hb, rfl⟩ := List.mem_map.mp hv
    show X.A.in1.in1.units + (encR (kf b)).depth < cLine
    have e1 : X.A.in1.in1.units = X.A.units + 2 := rfl
    have e2 : (encR (kf b)).depth ≤ 4 := by
      simp [PyData.depth, depth_ints]
    omega
  · refine wpAny_pure ?_
    have inV : ∀ v ∈ out, ∃ b ∈ as, v = Value.ref b := fun v hv => by
      obtain ⟨b, hb, e⟩ := List.mem_map.mp (o2.perm.mem_iff.mp hv)
      exact ⟨b, hb, e.symm⟩
    obtain ⟨ts, ets⟩ : ∃ ts : List Addr, out = ts.map Value.ref := ⟨out.map adO, ref_map fun v hv => by
      obtain ⟨b, _, e⟩ := inV v hv
      exact ⟨b, e⟩⟩
    subst ets
    have tsIn : ∀ b ∈ ts, b ∈ as := fun b hb => by
      obtain ⟨c, hc', e⟩ := inV (.ref b) (List.mem_map.mpr ⟨b, hb, rfl⟩)
      cases e
      exact hc'
    have tperm : ts.Perm as := by
      have e := o2.perm.map adO
      rwa [ad_map, ad_map] at e
    have M1 : (ts.map kf).Perm ks := by
      rw [← eL]
      exact tperm.map _
    have M2 : (ts.map kf).Pairwise (fun p q => ltR q p = false) := by
      have e : (ts.map Value.ref).Pairwise (fun v u => dataLt (enc u) (enc v) = false) := o1
      rw [List.pairwise_map] at e ⊢
      refine e.imp fun {x y} hxy => ?_
      have e2 : dataLt (encR (kf y)) (encR (kf x)) = false := hxy
      rwa [encR_lt] at e2
    obtain ⟨eF, heF⟩ := PyProof.Rows.sortedHeap_at (vs := as.map Value.ref) (out := (ts.map Value.ref).toArray) hob
    have kF : ∀ b oo, h'.get? b = some oo → (sortedHeap h2 h'.objs.size (as.map Value.ref) (ts.map Value.ref).toArray).get? b = some oo := fun b oo e => (PyProof.Rows.sortedHeap_old (off _ _ e) (Heap.lt_size (ka _ _ e))).trans (ka _ _ e)
    refine ⟨.ref h'.objs.size, rfl, .ref h'.objs.size, upd H h'.objs.size (.lst (ts.map V.ref)), I1.laid (t' := tk) kF (Nat.le_refl _) ⟨by rw [List.length_map, tperm.length_eq]; omega, ts.map Value.ref, eF, LiI.vals_refs ts, heF⟩, rfl, q _ ts _ (I1.hok.fresh (Nat.le_refl _)) M1 (M1.nodup_iff.mpr ndk) M2 (paired_map fun b hb => kIn b (tsIn b hb))⟩
end L2

/-! dicts whose keys are rows: == of two equal ones, setdefault, comprehensions -/
namespace RW9
open PySem PySem.Calls PySem.W PySem.Spec PyProof.Rows
section
variable {prog : Program} {w : World} {K : Type} [DecidableEq K] {knd : HeapKind prog w K} {A : Around} {E : Value → Shared → Prop} {s : Shared}
theorem same_heap {nm : String} {a b : Addr} {xa xb : List (K × Addr × Value)} {Q : Bool → Shared → Prop} (hu : knd.room A) (ha : (a == sysModules) = false) (hb : (b == sysModules) = false)
    (da : s.heap.DictOfH knd a xa) (db : s.heap.DictOfH knd b xb) (hl : xa.length = xb.length) (hv : ∀ x ∈ xa, ∃ (j : Nat) (p : Addr × Value), xb[j]? = some (x.1, p) ∧ SeqAt.EqAt A s x.2.2 p.2 true) (h : Q true s) :
    wpAny (model prog w) A (Builtin.Dict.samePairs nm a b) Q E s := by
  obtain ⟨oa, es, ep, hoa, _, hda, hea, hia, hna⟩ := da
  obtain ⟨ob, es', ep', hob, _, hdb, heb, hib, hnb⟩ := db
  have la : es.size = xa.length := size_of_entries hea
  have lb : es'.size = xb.length := size_of_entries heb
  have hsz : es.size = es'.size := by omega
  unfold Builtin.Dict.samePairs Builtin.Dict.showsAll
  rw [if_neg (show ¬ (a == sysModules) = true by rw [ha]; exact Bool.false_ne_true), if_neg (show ¬ (b == sysModules) = true by rw [hb]; exact Bool.false_ne_true)]
  refine wpAny_bind (wpAny_pure (wpAny_bind (wpAny_pure ?_)))
  refine wpAny_bind (wpAny_dictEntries hoa hda ?_)
  dsimp only
  refine wpAny_bind (wpAny_dictEntries hob hdb ?_)
  rw [if_neg (by rw [hsz]; simp)]
  refine wpAny_bind (wpAny_dictEpoch hoa hda ?_)
  refine wpAny_bind ?_
  rw [Std.Legacy.Range.forIn_eq_forIn_range']
  simp only [Std.Legacy.Range.size, Nat.sub_zero, Nat.add_sub_cancel, Nat.div_one]
  refine wpAny_forIn_list _ (fun rest q s' => s' = s ∧ q = (none, ()) ∧ ∀ i ∈ rest, i < es.size) _ ?_ ?_ _ _ ⟨rfl, rfl, fun i hi => by
    have := (List.mem_range'_1.mp hi).2
    omega⟩
  · rintro i rest q s' ⟨rfl, rfl, hr⟩
    have hlt : i < es.size := hr i List.mem_cons_self
    have hlx : i < xa.length := by omega
    have hin : xa[i] ∈ xa := List.getElem_mem hlx
    have ent : es[i]? = some (entryOfKey knd xa[i]) := by
      rw [entry_at hea i, List.getElem?_eq_getElem hlx]
      rfl
    obtain ⟨j, p, hj, heq⟩ := hv _ hin
    refine wpAny_bind (wpAny_dictEntries hoa hda ?_)
    rw [ent]
    show wpAny _ _ (holding [(entryOfKey knd xa[i]).key, (entryOfKey knd xa[i]).val] _ >>= _) _ _ _
    refine wpAny_bind (wpAny_holding (wpAny_bind (wpAny_dictFind_heap hu (hia _ hin) hob hdb heb hib hnb (fun hno => absurd hj (hno j p)) fun j' p' hj' => ?_)))
    have e1 : j' = j := idxH_unique hnb hj' hj
    subst e1
    have e2 : p' = p := by
      rw [hj] at hj'
      injection hj' with e
      injection e with _ e
      exact e.symm
    subst e2
    refine wpAny_bind (wpAny_dictEntries hob hdb ?_)
    rw [entry_at heb j', hj]
    show wpAny _ _ (holding _ _) _ _ _
    refine wpAny_holding (heq prog w _ _ ?_)
    show wpAny _ _ (if (!true) = true then _ else _) _ _ _
    rw [if_neg (by decide)]
    refine wpAny_bind (wpAny_dictEpoch hoa hda ?_)
    rw [if_neg (by simp)]
    exact wpAny_pure ⟨rfl, rfl, fun i hi => hr i (List.mem_cons_of_mem _ hi)⟩
  · rintro q s' ⟨rfl, rfl, _⟩
    exact wpAny_pure h
theorem eq_heap {a b : Addr} {xa xb : List (K × Addr × Value)} {Q : Value → Shared → Prop} (hr : knd.room A.in1) (hu : A.units < cLine) (ha : (a == sysModules) = false) (hb : (b == sysModules) = false)
    (da : s.heap.DictOfH knd a xa) (db : s.heap.DictOfH knd b xb) (hl : xa.length = xb.length) (hv : ∀ x ∈ xa, ∃ (j : Nat) (p : Addr × Value), xb[j]? = some (x.1, p) ∧ SeqAt.EqAt A.in1 s x.2.2 p.2 true) (h : Q (.bool true) s) :
    wpAny (model prog w) A (compareOp .Eq (.ref a) (.ref b)) Q E s := by
  have ta : s.TypeIs (.ref a) "dict" := da.typeIs
  have tb : s.TypeIs (.ref b) "dict" := db.typeIs
  refine wpAny_richCompare_same_room (op := .Eq) ta tb PySem.F.slot_dict_eq (wpAny_call_entry PySem.F.slot_dict_eq ta PySem.F.entry_dict_eq ?_ (PySem.F.args_dict_eq_2 _ _)) hu
  show wpAny _ _ (Builtin.Dict.dictSlotArgs "__eq__" ⟨[.ref a, .ref b], []⟩ >>= _) _ _ s
  refine wpAny_bind ?_
  unfold Builtin.Dict.dictSlotArgs
  refine wpAny_bind (wpAny_notOrdered_dict ta ?_)
  show wpAny _ _ (pure (Value.ref a, Value.ref b)) _ _ s
  refine wpAny_pure ?_
  refine wpAny_bind (wpAny_isInstance (T := "dict") tb PySem.F.sub_dict_dict ?_)
  simp only [Bool.not_true, Bool.false_eq_true, if_false]
  refine wpAny_bind (wpAny_pure (wpAny_bind (wpAny_pure ?_)))
  refine wpAny_bind (same_heap hr ha hb da db hl hv ?_)
  exact wpAny_pure ⟨_, rfl, (fun x => nomatch x), h⟩
end
end RW9

namespace L2
open PySem PySem.Spec PySem.W PyProof.Rows RW9
section
variable {X : Cx}
/-- == of two dicts from rows to numbers that hold the same -/
def rEqRow : R2 := fun x y H Q => ∃ a b L M, x = .ref a ∧ y = .ref b ∧ H a = some (.dT (rowD L)) ∧ H b = some (.dT (rowD M)) ∧ L.Perm M ∧ Q (.bl true) H
theorem op_eq_row (hu : X.A.units + 1 < cLine) : OpR X (compareOp .Eq) rEqRow := by
  intro pins s σ H x y v u Q I rx ry h
  obtain ⟨a, b, L, M, rfl, rfl, ea, eb, pm, q⟩ := h
  obtain rfl : v = Value.ref a := rx
  obtain rfl : u = Value.ref b := ry
  obtain ⟨_, ya, xa, ra, da⟩ := dt_of I.hok ea
  obtain ⟨_, yb, xb, rb, db⟩ := dt_of I.hok eb
  have la : L.length = xa.length := by
    have e := Paired.length ra
    rwa [List.length_map] at e
  have lb : M.length = xb.length := by
    have e := Paired.length rb
    rwa [List.length_map] at e
  have lm := pm.length_eq
  refine eq_heap (tupleKind_room_in1 hu) (by omega) ya yb da db (by omega) (fun x hx => ?_) (fin_bl I q rfl)
  obtain ⟨i, hi⟩ := List.mem_iff_getElem?.mp hx
  obtain ⟨e0, he0, r1, _, r3⟩ := DX.pget ra hi
  rw [List.getElem?_map] at he0
  obtain ⟨p, hp, e1⟩ := Option.map_eq_some_iff.mp he0
  subst e1
  obtain ⟨j, hj⟩ := List.mem_iff_getElem?.mp (pm.mem_iff.mp (List.mem_of_getElem? hp))
  have hjx : ∃ z, xb[j]? = some z := ⟨xb[j]'(by have := (List.getElem?_eq_some_iff.mp hj).1; omega), List.getElem?_eq_getElem _⟩
  obtain ⟨z, hz⟩ := hjx
  obtain ⟨e2, he2, s1, _, s3⟩ := DX.pget rb hz
  rw [List.getElem?_map, hj] at he2
  have e3 : (rk p.1, V.int p.2) = e2 := Option.some.inj he2
  subst e3
  obtain ⟨t, ht⟩ := r3
  obtain ⟨t', ht'⟩ := s3
  refine ⟨j, z.2, by rw [hz, ← r1, s1], ?_⟩
  rw [ht, ht']
  have e := SeqAt.EqAt.int_int (A := X.A.in1) (s := s) p.2 t p.2 t'
  rw [beq_self_eq_true] at e
  exact e
/-! ### setdefault -/
def tDSetdT (td ty tx : TE) : TE := fun σ H Q => td σ H fun x H1 => ∃ a, x = .ref a ∧ IsD H1 a ∧ ty σ H1 fun y H2 => tx σ H2 fun z H3 => ∃ (kvs : List (List Key × V)) (k : List Key) (b : Addr), H3 a = some (.dT kvs) ∧ y = .ref b ∧ H3 b = some (.tup (k.map kV)) ∧ kvs.length < sizeLine ∧
  (∀ v, valV kvs k = some v → Q v H3) ∧ (valV kvs k = none → Q z (upd H3 a (.dT (putK kvs k z))))
theorem d_setdT {pins : List (Addr × Obj)} {σ : St} {H : Hp} {s : Shared} {a b : Addr} {r : Value} {d : V} {k : List Key} {A : Around} {E : Value → Shared → Prop} {kvs : List (List Key × V)} {Q : Value → Shared → Prop} (hu : A.units + 1 < cLine) (I : Inv X pins σ H s)
    (e : H a = some (.dT kvs)) (eb : H b = some (.tup (k.map kV))) (rd : RelV d r) (hl : kvs.length < sizeLine)
    (h1 : ∀ v, valV kvs k = some v → ∀ (w' : Value) (s' : Shared), Inv X pins σ H s' → RelV v w' → Q w' s') (h2 : valV kvs k = none → ∀ (w' : Value) (s' : Shared), Inv X pins σ (upd H a (.dT (putK kvs k d))) s' → RelV d w' → Q w' s') :
    wpAny (model X.prog X.w) A (call (.builtin "dict.setdefault") [.ref a, .ref b, r]) Q E s := by
  obtain ⟨z, hd, xs, rel, dd⟩ := dt_of I.hok e
  have hz : xs.length ≤ sizeLine := by rw [← Paired.length rel]; exact z
  have rv := rel.val k
  refine call_meetsIn PySem.F.slot_dict_setdefault dd.typeIs PySem.F.entry_dict_setdefault (PySem.F.args_dict_setdefault_3 _ _ _) (meetsH_dict_setdefault (tupleKind (mixKind X.prog X.w)) a b hd r) ⟨tupleKind_room_in1 hu, k, xs, key_of I.hok eb, dd, hz, fun p hp => ?_, fun hn h' dd' hs => ?_⟩
  · rw [hp] at rv
    cases q0 : valV kvs k with
    | none =>
      rw [q0] at rv
      exact (show False from rv).elim
    | some v0 =>
      rw [q0] at rv
      exact h1 v0 q0 _ _ (I.tok _) rv
  · rw [hn] at rv
    cases q0 : valV kvs k with
    | some v0 =>
      rw [q0] at rv
      exact (show False from rv).elim
    | none =>
      have hl2 : (putK kvs k d).length ≤ sizeLine := by
        have := length_putK kvs k d
        omega
      obtain ⟨q, es, ep, hq, g2, g3, g4, _, g5⟩ := dd'
      exact h2 q0 _ _ (d_write I (by rw [e]; exact True.intro) hs ⟨q, hq⟩ ⟨hl2, hd, _, (rel.put k eb rd).keeps fun c ys ec => (by rw [upd_ne (ne_of ec e (fun z => nomatch z))]; exact ec), q, es, ep, hq, g2, g3, g4, g5⟩) rd
theorem pe_dsetdT {o e f : Expr} {td ty tx : TE} {apos cpos : Pos} (hu : X.A.units + 1 < cLine) (ho : PE X o td) (he : PE X e ty) (hf : PE X f tx) (m : M2 X o "setdefault" apos e f cpos) : PE X (.Call (.Attribute o "setdefault" apos) [e, f] [] cpos) (tDSetdT td ty tx) := by
  refine ⟨fun pins s σ H Q I h => ?_⟩
  refine wpAny_Call_method m.base m.few m.line PySem.F.plainAttrs_dict PySem.F.slot_dict_setdefault PySem.F.type_dict_setdefault (thn (ho.run pins s σ H _ I h) fun u s1 ⟨x, H1, I1, rx, a, ex, d, q1⟩ => ?_)
  subst ex
  obtain rfl : u = Value.ref a := rx
  obtain ⟨t1, t2, _⟩ := isD_at I1 d
  refine ⟨t1, t2, ?_⟩
  rw [m.trees]
  refine Calls.callWith_builtin rfl (Calls.evalArgs_plain (Calls.spliced_cons (thn (he.run pins s1 σ H1 _ I1 q1) fun iv s2 ⟨y, H2, I2, ry, q2⟩ =>
    Calls.spliced_cons (thn (hf.run pins s2 σ H2 _ I2 q2) fun fv s3 ⟨z, H3, I3, rz, kvs, k, b, ea, ey, eb, hl, q3, q4⟩ => Calls.spliced_nil ?_))))
  subst ey
  obtain rfl : iv = Value.ref b := ry
  exact d_setdT hu I3 ea eb rz hl (fun v hv w' s4 I4 rw' => ⟨v, _, I4, rw', q3 v hv⟩) fun hn w' s4 I4 rw' => ⟨z, _, I4, rw', q4 hn⟩
/-! ### a comprehension's own put -/
theorem d_dictSetT {pins : List (Addr × Obj)} {σ : St} {H : Hp} {s : Shared} {E : Value → Shared → Prop} {D b : Addr} {kvs : List (List Key × V)} {k : List Key} {v : V} {r : Value} {Q : Unit → Shared → Prop} (hu : X.A.units < cLine) (I : Inv X pins σ H s) (hD : H D = some (.dT kvs)) (eb : H b = some (.tup (k.map kV))) (hz : kvs.length < sizeLine)
    (rv : RelV v r) (h : ∀ s', Inv X pins σ (upd H D (.dT (putK kvs k v))) s' → Q () s') : wpAny (model X.prog X.w) X.A (dictSet D (.ref b) r) Q E s := by
  obtain ⟨z, hd, xs, rel, dd⟩ := dt_of I.hok hD
  have hzv : xs.length ≤ sizeLine := by rw [← Paired.length rel]; exact z
  have hl : (putK kvs k v).length ≤ sizeLine := by have := length_putK kvs k v; omega
  refine wpAny_dictSet_heap (hsz := hzv) (knd := tupleKind (mixKind X.prog X.w)) hu (key_of I.hok eb) dd fun h' dd' hs => h _ ?_
  obtain ⟨q, es, ep, hq, g2, g3, g4, _, g5⟩ := dd'
  exact d_write I (by rw [hD]; exact True.intro) hs ⟨q, hq⟩ ⟨hl, hd, _, (rel.put k eb rv).keeps fun c ys ec => (by rw [upd_ne (ne_of ec hD (fun z => nomatch z))]; exact ec), q, es, ep, hq, g2, g3, g4, g5⟩
end
end L2

/-! a dict comprehension whose keys may be rows -/
namespace L2
open PySem PySem.Spec PyProof.Rows
/-- a comprehension's put, either kind of dict -/
theorem put_comp {X : Cx} {pins : List (Addr × Obj)} {σ : St} {H H' : Hp} {s : Shared} {E : Value → Shared → Prop} {D : Addr} {y v : V} {u r : Value} {Q : Unit → Shared → Prop} (hu : X.A.units < cLine) (I : Inv X pins σ H s) (g : DPut H D y v H') (ry : RelV y u) (rv : RelV v r) (h : ∀ s', Inv X pins σ H' s' → Q () s') :
    wpAny (model X.prog X.w) X.A (dictSet D u r) Q E s := by
  rcases g with ⟨kvs, k, e, rfl, l, rfl⟩ | ⟨kvs, k, b, e, rfl, eb, l, rfl⟩
  · exact d_dictSet I e l ry rv h
  · obtain rfl : u = Value.ref b := ry
    exact d_dictSetT hu I e eb l rv h
/-- {k: v for target in iter if ..}: D the new dict, o0 what it is at first -/
def tDcP (o0 : HO) (wi : TI) (g : TG) (tt : TT) (tk tv : TE) (vs : List Nat) : TE := fun σ H Q => wi σ H fun J H1 => ∀ D, H1 D = none → ∃ W : Nat → Nat → Hp → Prop, (∃ m, W 0 m (upd H1 D o0)) ∧ ∀ i m H, W i m H →
  (J.stop i H ∧ Q (.ref D) H) ∨ (J.go i H ∧ ∃ Nx : Hp → Prop, (∀ H', Nx H' → ∃ m', m' < m ∧ W (i + 1) m' H') ∧ ∀ x H', J.yld i H x H' → g x (wipe σ vs) H' fun σ2 H2 => wipe σ2 vs = wipe σ vs ∧ tt σ2 H2 fun b H3 =>
    if b = true then tk σ2 H3 fun y H4 => tv σ2 H4 fun z H5 => ∃ H6, DPut H5 D y z H6 ∧ Nx H6 else Nx H3)
/-- what a new dict may be at first -/
def Fresh0 (o0 : HO) : Prop := ∀ (P : Program) (w : World) (H : Hp) (h : Heap), sysModules < h.objs.size → ObjOk P w H (h.push { cls := .type "dict", data := .dict #[] }) h.objs.size o0
theorem fresh_T : Fresh0 (.dT []) := fun P w H h hb => dt_empty h hb
section
variable {X : Cx} {kx vx tg iter : Expr} {ifs : List Expr} {scope : Scope} {own : List (Str × Nat)} {pos : Pos} {o0 : HO} {wi : TI} {g : TG} {tt : TT} {tk tv : TE}
theorem dcP_core {pins : List (Addr × Obj)} {s : Shared} {σ : L2.St} {H : Hp} {Q : VK} {pos' : Pos} {use : Option (Value → Sem Unit)} {Qf : Value → Shared → Prop} (h0 : Fresh0 o0) (hu : X.A.units < cLine) (hc : X.calm = true) (hN : X.N.Nodup) (I : Inv X pins σ H s) (hi : PI X tg iter wi) (ok : BlkOk X.N X.env.scope scope own)
    (hg : ∀ (s : Shared) (H : Hp) (C : Addr) (cl : List (Str × Addr)) (fp : List Addr), PG (X.blk s H scope (compEnvC scope cl C X.env) fp) tg g)
    (ht : ∀ (s : Shared) (H : Hp) (C : Addr) (cl : List (Str × Addr)) (fp : List Addr), PTs (X.blk s H scope (compEnvC scope cl C X.env) fp) ifs tt)
    (hk : ∀ (s : Shared) (H : Hp) (C : Addr) (cl : List (Str × Addr)) (fp : List Addr), PE (X.blk s H scope (compEnvC scope cl C X.env) fp) kx tk)
    (hv : ∀ (s : Shared) (H : Hp) (C : Addr) (cl : List (Str × Addr)) (fp : List Addr), PE (X.blk s H scope (compEnvC scope cl C X.env) fp) vx tv) (hs : ∀ x, foldedSetIterable iter X.env x = pure x)
    (h : tDcP o0 wi g tt tk tv (own.map (·.2)) σ H Q)
    (hRR : ∀ D C s' m H', Inv X pins σ H' s' → Q (.ref D) H' → s'.heap.Ns C m → FpOk X pins H' C → compPost (model X.prog X.w) X.A X.xe use Qf (.ref D) C (.ok .next) s') :
    wpAny (model X.prog X.w) X.A (comprehension (.DictComp kx vx [⟨tg, iter, ifs, 0⟩] scope pos) scope X.env pos' newDict false (eval iter X.env) use) Qf X.xe s := by
  have cells : ∀ y ∈ scope.names, y.2 = .free → ∃ c, X.env.cells.lookup y.1 = some c := fun y hy e => (ok.free y hy e).elim (fun k => I.ok.has _ (.inl k)) fun k => I.ok.has _ (.inr k)
  refine wpAny_comprehension_free (use := use) rfl hs (closure_ok cells) ok.kind (fun y hy e => by rw [ok.uniq y hy, e]) (thn (hi.run pins s σ H _ I h) fun xv sA hx => thn hx fun itv sB hB => ?_)
  obtain ⟨it, fp, tn, J, H2, e, I2, T, st2, f2, q⟩ := hB
  subst e
  refine wpAny_newObj_type (newEnv_comp ?_)
  generalize hD : sB.heap.objs.size = D
  obtain ⟨W, ⟨m0, w0⟩, turn⟩ := q D (I2.hok.fresh (Nat.le_of_eq hD))
  -- the new dict
  have oldB : ∀ b o, sB.heap.get? b = some o → (sB.heap.push { cls := .type "dict", data := .dict #[] }).get? b = some o := fun b o e => Heap.get?_push_of_some _ e
  have I3 : Inv X pins σ (upd H2 D o0) { sB with heap := sB.heap.push { cls := .type "dict", data := .dict #[] } } :=
    I2.laid (t' := sB.toks) oldB (Nat.le_of_eq hD) (by rw [← hD]; exact h0 _ _ _ sB.heap I2.big)
  have below : ∀ b ∈ fp, b < sB.heap.objs.size := fun b hb => (T.obj _ _ st2 b hb).elim fun o e => Heap.lt_size e.1
  generalize hs3 : ({ sB with heap := sB.heap.push { cls := .type "dict", data := .dict #[] } } : Shared) = s3 at I3
  have eh3 : s3.heap = sB.heap.push { cls := .type "dict", data := .dict #[] } := by rw [← hs3]
  have f3 : ∀ b ∈ fp, FpOk X pins (upd H2 D o0) b ∧ b < s3.heap.objs.size := fun b hb => by
    have l := below b hb
    refine ⟨⟨?_, (f2 b hb).2⟩, by rw [eh3, Heap.size_push]; exact Nat.lt_succ_of_lt l⟩
    rw [upd_ne (fun z => absurd l (by rw [z, ← hD]; exact Nat.lt_irrefl _))]
    exact (f2 b hb).1
  have I4 := block_start I3 ok hN f3
  generalize hH3 : upd H2 D o0 = H3 at I3 I4 w0 f3
  generalize hcl : cellsFrom (s3.heap.objs.size + 1) scope.names (cloFrom X.env.cells scope.names []) = cl at I4
  have pg := hg s3 H3 s3.heap.objs.size cl fp
  have pt := ht s3 H3 s3.heap.objs.size cl fp
  have pk := hk s3 H3 s3.heap.objs.size cl fp
  have pv := hv s3 H3 s3.heap.objs.size cl fp
  show codeAny _ _ (.compStart (.DictComp kx vx [⟨tg, iter, ifs, 0⟩] scope pos) 0 (.ref it) (.ref D) (compEnvC scope cl s3.heap.objs.size X.env)) (compPost (model X.prog X.w) X.A X.xe use Qf (.ref D) s3.heap.objs.size) { s3 with heap := pushCells (s3.heap.push { cls := .type "dict", data := .dict #[] }) scope.names }
  generalize hce : compEnvC scope cl s3.heap.objs.size X.env = ce at I4 pg pt pk pv ⊢
  have cL : ce.locals = s3.heap.objs.size := by rw [← hce]; rfl
  generalize hs4 : ({ s3 with heap := pushCells (s3.heap.push { cls := .type "dict", data := .dict #[] }) scope.names } : Shared) = s4 at I4 ⊢
  have st4 : tn 0 s4.heap := T.keep _ _ _ st2 fun b _ o e => by
    rw [← hs4]
    exact pushCells_keeps _ _ _ _ (Heap.get?_push_of_some _ (by rw [eh3]; exact oldB b o e))
  have stat : ∀ {σ' : St} {H' : Hp} {s' : Shared}, Inv (X.blk s3 H3 scope ce fp) [] σ' H' s' → (∀ b ∈ fp, H' b = none) → ∀ b ∈ fp, FpOk (X.blk s3 H3 scope ce fp) [] H' b := fun {σ' H' s'} I' hn b hb =>
    ⟨hn b hb, (I'.ok.exf b hb).1, I'.ok.exfs b hb, .inl hb, fun x c e => (I'.ok.exf b hb).2 x c e, fun p hp => absurd (show p ∈ ([] : List (Addr × Obj)) ++ [] from hp) (by simp)⟩
  refine (fun loop => codeAny_compStart_dict loop (T.self X.A 0 _ _ _ st4 loop)) ?_
  refine compLoop_anyD (fun n s' => ∃ i H', Inv (X.blk s3 H3 scope ce fp) [] (wipe σ (own.map (·.2))) H' s' ∧ tn i s'.heap ∧ (∀ b ∈ fp, H' b = none) ∧ W i n H') ?_ m0 ⟨0, H3, I4, st4, fun b hb => (f3 b hb).1.1, w0⟩
  rintro n s5 ⟨i, H5, I5, st5, n5, w5⟩
  rcases turn i n H5 w5 with ⟨stop, qq⟩ | ⟨go, Nx, hNx, step⟩
  · -- the end: back in the def
    refine thnF (T.done (X.blk s3 H3 scope ce fp) rfl rfl rfl hc i [] s5 _ H5 (fun _ _ => False) I5 (stat I5 n5) st5 stop) fun r s6 ⟨hr, I6⟩ => ?_
    subst hr
    have I7 : Inv X pins σ H5 s6 := I3.call' (ch := fp) I6.os I6.base I6.hok I6.bare fun b hb => ⟨(f3 b hb).1.2.2.2.1, (f3 b hb).1.2.1, (f3 b hb).1.2.2.2.2.1, (f3 b hb).1.2.2.2.2.2⟩
    have nC : H5 ce.locals = none := I6.free
    obtain ⟨m, hn, _⟩ := I6.loc
    have hn' : s6.heap.Ns ce.locals m := hn
    rw [cL] at hn' nC
    exact hRR D s3.heap.objs.size s6 m H5 I7 qq hn' (I3.fpOk (Nat.le_refl _) nC)
  · refine thnF (T.item (X.blk s3 H3 scope ce fp) rfl rfl rfl hc i [] s5 _ H5 (fun _ _ => False) I5 (stat I5 n5) st5 go) fun r s6 ⟨u, hr, h6⟩ => ?_
    subst hr
    refine thnF h6 fun _ s7 ⟨x, H7, I7, r7, y7, st7, n7⟩ => ?_
    refine thnF (pg.run _ s7 _ H7 x u _ (I7.pinned (stat I7 n7) (T.obj _ _ st7)) r7 (step x H7 y7)) fun _ s8 ⟨σ8, H8, I8, hw8, q8⟩ => ?_
    refine thnF (pt.run _ s8 σ8 H8 _ I8 q8) fun b s9 ⟨H9, I9, q9⟩ => ?_
    -- a turn's end
    have fin : ∀ {s' : Shared} {H' : Hp}, Inv (X.blk s3 H3 scope ce fp) ([] ++ pinsAt fp s7.heap) σ8 H' s' → Nx H' → ∃ m, m < n ∧ ∃ i H', Inv (X.blk s3 H3 scope ce fp) [] (wipe σ (own.map (·.2))) H' s' ∧ tn i s'.heap ∧ (∀ b ∈ fp, H' b = none) ∧ W i m H' := fun {s' H'} I' nx => by
      obtain ⟨m', hm, w'⟩ := hNx H' nx
      have pin : ∀ b ∈ fp, ∀ o, s7.heap.get? b = some o → s'.heap.get? b = some o ∧ H' b = none := fun b hb o e => by
        have z := I'.pin (b, o) (List.mem_append_right _ (List.mem_append_right _ (mem_pinsAt hb e)))
        exact ⟨z.1, z.2.1⟩
      refine ⟨m', hm, i + 1, H', (I'.unpinned (pins := [])).weak (by rw [← hw8, wipe_length]) (fun j v e => ?_), T.keep _ _ _ st7 fun b hb o e => (pin b hb o e).1, fun b hb => ?_, w'⟩
      · rw [← hw8] at e
        exact (wipe_some e).1
      · obtain ⟨o, e, _⟩ := T.obj _ _ st7 b hb
        exact (pin b hb o e).2
    cases b with
    | false =>
      simp only [Bool.false_eq_true, if_false] at q9 ⊢
      exact fin I9 q9
    | true =>
      simp only [if_true] at q9 ⊢
      refine thnF (pk.run _ s9 σ8 H9 _ I9 q9) fun z sK ⟨yk, HK, IK, rK, qK⟩ => ?_
      refine thnF (pv.run _ sK σ8 HK _ IK qK) fun z2 sV ⟨yv, HV, IV, rV, H6, put, nx⟩ => ?_
      exact put_comp (X := X.blk s3 H3 scope ce fp) hu IV put rK rV fun s12 I12 => fin I12 nx
theorem pe_dcP (h0 : Fresh0 o0) (hu : X.A.units < cLine) (hc : X.calm = true) (hN : X.N.Nodup) (hi : PI X tg iter wi) (ok : BlkOk X.N X.env.scope scope own)
    (hg : ∀ (s : Shared) (H : Hp) (C : Addr) (cl : List (Str × Addr)) (fp : List Addr), PG (X.blk s H scope (compEnvC scope cl C X.env) fp) tg g)
    (ht : ∀ (s : Shared) (H : Hp) (C : Addr) (cl : List (Str × Addr)) (fp : List Addr), PTs (X.blk s H scope (compEnvC scope cl C X.env) fp) ifs tt)
    (hk : ∀ (s : Shared) (H : Hp) (C : Addr) (cl : List (Str × Addr)) (fp : List Addr), PE (X.blk s H scope (compEnvC scope cl C X.env) fp) kx tk)
    (hv : ∀ (s : Shared) (H : Hp) (C : Addr) (cl : List (Str × Addr)) (fp : List Addr), PE (X.blk s H scope (compEnvC scope cl C X.env) fp) vx tv) (hs : ∀ x, foldedSetIterable iter X.env x = pure x := by intro _; rfl) :
    PE X (.DictComp kx vx [⟨tg, iter, ifs, 0⟩] scope pos) (tDcP o0 wi g tt tk tv (own.map (·.2))) := by
  refine ⟨fun pins s σ H Q I h => ?_⟩
  rw [arm_eval_DictComp]
  refine dcP_core h0 hu hc hN I hi ok hg ht hk hv hs h fun D C s' m H' I' q hn f => ⟨m, hn, fun h'' sb => ?_⟩
  obtain ⟨f0, f1, f2, f3, f4, f5⟩ := f
  exact ⟨.ref D, H', I'.turned (t' := s'.toks) (fun b o hb e => (sb.2 b hb).trans e) f0 f1 f3 f4 f5, rfl, q⟩
theorem swD_true {gs : List Comprehension} {py : Pos} {y : Str} {l : Nat} {env : Env} (hk : env.scope.kind = .function) (hy : env.scope.names.lookup y = some .local) (hl : (py.line == pos.line) = true)
    (ha : (scope.names.any fun (n, k) => n == y && (k == .local || k == .cell)) = false) : swapsWith (.DictComp kx vx gs scope pos) (some (.Name y py)) l env = pure true := by
  have ky : env.kindOf y = some .local := hy
  have hb : env.blockKind = .function := by unfold Env.blockKind; rw [hk]; rfl
  unfold swapsWith
  simp only [hb, ky, ha, Expr.pos, hl]
  rfl
/-- x = {k: v for ..} -/
theorem ps_setDcP {i : Nat} {y : Str} {py spos : Pos} (h0 : Fresh0 o0) (hu : X.A.units < cLine) (hc : X.calm = true) (hN : X.N.Nodup) (hy : X.N[i]? = some y) (hyl : X.env.scope.names.lookup y = some .local)
    (hsw : swapsWith (.DictComp kx vx [⟨tg, iter, ifs, 0⟩] scope pos) (some (.Name y py)) spos.line X.env = pure true) (hi : PI X tg iter wi) (ok : BlkOk X.N X.env.scope scope own)
    (hg : ∀ (s : Shared) (H : Hp) (C : Addr) (cl : List (Str × Addr)) (fp : List Addr), PG (X.blk s H scope (compEnvC scope cl C X.env) fp) tg g)
    (ht : ∀ (s : Shared) (H : Hp) (C : Addr) (cl : List (Str × Addr)) (fp : List Addr), PTs (X.blk s H scope (compEnvC scope cl C X.env) fp) ifs tt)
    (hk : ∀ (s : Shared) (H : Hp) (C : Addr) (cl : List (Str × Addr)) (fp : List Addr), PE (X.blk s H scope (compEnvC scope cl C X.env) fp) kx tk)
    (hv : ∀ (s : Shared) (H : Hp) (C : Addr) (cl : List (Str × Addr)) (fp : List Addr), PE (X.blk s H scope (compEnvC scope cl C X.env) fp) vx tv) (hs : ∀ x, foldedSetIterable iter X.env x = pure x := by intro _; rfl) :
    PS X (.Assign [.Name y py] (.DictComp kx vx [⟨tg, iter, ifs, 0⟩] scope pos) spos) (tAsg (tDcP o0 wi g tt tk tv (own.map (·.2))) (gName i)) := by
  refine ⟨fun pins s σ H D I h => ?_⟩
  rw [exec_Assign_Name_used _ _ _ _ hsw]
  refine wpAny_bind (wpAny_standAt (wpAny_bind ?_))
  show wpAny _ X.A (do let _ ← comprehension (.DictComp kx vx [⟨tg, iter, ifs, 0⟩] scope pos) scope X.env (firstIterPos [⟨tg, iter, ifs, 0⟩] pos) newDict false (eval iter X.env) (some (assign (.Name y py) X.env))) _ _ s
  have h : tDcP o0 wi g tt tk tv (own.map (·.2)) σ H (fun x H1 => gName i x σ H1 D.nx) := h
  refine wpAny_bind (thn (dcP_core (Qf := fun _ s' => SP X pins D .next s') h0 hu hc hN I hi ok hg ht hk hv hs h fun L C s' m H' I' q hn f => ?_) fun _ s' hq => wpAny_pure (wpAny_pure hq))
  show wpAny _ _ (assign (.Name y py) X.env (.ref L)) _ _ _
  refine wpAny_assign_Name (store_ok2 (v := V.ref L) I' hN hy (.inl hyl) rfl (fun s2 I2 ⟨a, sb, ha⟩ => ?_) (.inr hyl))
  obtain ⟨f0, f1, f2, f3, f4, f5⟩ := f
  have haC : C ≠ a := by
    rcases ha with z | z
    · rw [z]; exact f1
    · exact fun e => f4 y a z e.symm
  refine ⟨m, hn.sameBut sb haC, fun h3 sb3 => ?_⟩
  exact ⟨_, H', I2.turned (t' := s2.toks) (fun b o hb e => (sb3.2 b hb).trans e) f0 f1 f3 f4 f5, q⟩
end
end L2

/-! sets of texts: made by a comprehension, sorted -/
namespace L2
open PySem PySem.Spec PySem.W PyProof.Rows
def txOf (e : Int × Value) : Str := match e.2 with
  | .str x _ => x
  | _ => Str.empty
def GoodX (w : World) (e : Int × Value) : Prop := ∃ x tk, e.2 = Value.str x tk ∧ e.1 = hashStr w x
/-- the set of the texts L at a -/
def SetX (w : World) (h : Heap) (a : Addr) (L : List Str) : Prop :=
  ∃ o es ep t, h.get? a = some o ∧ o.ExactSet ∧ o.data = .set es ep t ∧ (∀ e ∈ es.toList, GoodX w e) ∧ (es.toList.map txOf).Perm L ∧ L.Nodup ∧ es.size < scanBound ∧ t.fits es.size = true ∧ Ris t.place.toList ∧ (w.params.followText "set-order" = true ∨ t.led = true)
section
variable {P : Program} {w : World} {A : Around} {E : Value → Shared → Prop} {s : Shared} {a : Addr} {L : List Str}
theorem goodX_is {e : Int × Value} (g : GoodX w e) (x : Str) : (strKind P w).is x e.2 = true ↔ txOf e = x := by
  obtain ⟨y, tk, h1, _⟩ := g
  unfold txOf
  rw [h1]
  constructor
  · intro h
    obtain ⟨t, e⟩ := Value.isStrOf_shape (x := x) (v := .str y tk) h
    exact (Value.str.inj e).1
  · intro h
    rw [← h]
    exact strKind_is P w y tk
theorem goodX_elems {l : List (Int × Value)} (g : ∀ e ∈ l, GoodX w e) : ElemsOf (strKind P w) l := fun e he => by
  obtain ⟨x, tk, h1, h2⟩ := g e he
  exact ⟨⟨x, by rw [h1]; exact strKind_is P w x tk, h2⟩, by rw [h1]; rfl⟩
theorem SetX.typeIs (R : SetX w s.heap a L) : s.TypeIs (.ref a) "set" := by
  obtain ⟨o, es, ep, t, ho, hx, _⟩ := R
  exact ⟨o, ho, hx.1⟩
/-- a member is put in -/
theorem setX_add {x : Str} {tk : Tok} {Q : Value → Shared → Prop} (R : SetX w s.heap a L) (room : L.length + 1 < scanBound)
    (hQ : ∀ h', Heap.SameBut a s.heap h' → SetX w h' a (if x ∈ L then L else x :: L) → Q .none { s with heap := h', toks := s.toks + 1 }) :
    wpAny (model P w) A (call (.builtin "set.add") [.ref a, .str x tk]) Q E s := by
  have ty := R.typeIs
  obtain ⟨o, es, ep, t, ho, hex, hd, g, pm0, nd, hb, hf, hr, hl⟩ := R
  have hn : es.size = L.length := by rw [← Array.length_toList, ← pm0.length_eq, List.length_map]
  have hkey : (strKind P w).is x (.str x tk) = true := strKind_is P w x tk
  have hsc : (Value.str x tk).scannable = true := rfl
  have hel : ElemsOf (strKind P w) es.toList := goodX_elems g
  -- one more, then perhaps all anew
  have quiet : ∀ (f g : String) (b : Bool) {s₁ : Shared} {Q' : Unit → Shared → Prop}, Q' () s₁ → wpAny (model P w) A.in1 (if b = true then rule f else pure ()) Q' E s₁ := fun f g b s₁ Q' q => by
    cases b
    · exact wpAny_pure q
    · exact wpAny_rule q
  refine wpAny_call_entry F.slot_set_add ty F.entry_set_add ?_ (F.args_set_add_2 _ _)
  unfold Builtin.«set.add» Builtin.Frozenset.oneOther
  simp only [List.isEmpty_nil, bind_assoc]
  unfold Builtin.Frozenset.addrOf setAdd
  refine wpAny_bind (wpAny_pure ?_)
  try dsimp only
  refine wpAny_bind (wpAny_pure ?_)
  try dsimp only
  refine wpAny_bind (wpAny_holding (wpAny_bind ((strKind P w).pyHash hkey ?_)))
  unfold setAddHashed setAddHashedIn
  refine wpAny_holding (wpAny_bind (wpAny_setState_of (s := { s with toks := s.toks + 1 }) ho hd hf ?_))
  dsimp only
  rw [byScan_of hsc hb hel]
  simp only [↓reduceIte]
  unfold setAddByScan
  refine wpAny_bind (wpAny_bind (wpAny_rule (wpAny_bind (wpAny_setScan_of (s := { s with toks := s.toks + 1 }) hkey ho hd hf hel ?_))))
  cases hfi : List.findIdx? (fun e => (strKind P w).is x e.2) es.toList with
  | some j =>
    dsimp only
    obtain ⟨hj, pj, _⟩ := List.findIdx?_eq_some_iff_getElem.mp hfi
    have hin : x ∈ L := pm0.mem_iff.mp (List.mem_map.mpr ⟨es.toList[j], List.getElem_mem hj, (goodX_is (g _ (List.getElem_mem hj)) x).mp pj⟩)
    have q := hQ s.heap (Heap.SameBut.refl a s.heap)
    rw [if_pos hin] at q
    exact wpAny_pure (wpAny_pure (wpAny_pure ⟨_, rfl, q ⟨o, es, ep, t, ho, hex, hd, g, pm0, nd, hb, hf, hr, hl⟩⟩))
  | none =>
    dsimp only
    have hno : x ∉ L := fun z => by
      obtain ⟨e, he, q⟩ := List.mem_map.mp (pm0.mem_iff.mpr z)
      have c := List.findIdx?_eq_none_iff.mp hfi e he
      rw [(goodX_is (P := P) (g e he) x).mpr q] at c
      cases c
    have pm := layNew_perm t es ((strKind P w).hash x) (.str x tk)
    have hf1 := layNew_fits t es ((strKind P w).hash x) (.str x tk)
    have hr1 := layNew_ris t es ((strKind P w).hash x) (.str x tk) hr
    have hl1 := layNew_led t es ((strKind P w).hash x) (.str x tk)
    generalize layNew t es ((strKind P w).hash x) (.str x tk) = Z at pm hf1 hr1 hl1 ⊢
    obtain ⟨es1, t1, wasDummy, gave⟩ := Z
    dsimp only at pm hf1 hr1 hl1 ⊢
    rw [Array.toList_push] at pm
    have pc : es1.toList.Perm (((strKind P w).hash x, Value.str x tk) :: es.toList) := pm.trans (List.perm_append_singleton _ _)
    have pk : (es1.toList.map txOf).Perm (x :: L) := (pc.map txOf).trans (pm0.cons x)
    have g1 : ∀ e ∈ es1.toList, GoodX w e := fun e he => by
      rcases List.mem_cons.mp (pc.mem_iff.mp he) with z | z
      · rw [z]
        exact ⟨x, tk, rfl, rfl⟩
      · exact g e z
    have nd1 : (x :: L).Nodup := List.nodup_cons.mpr ⟨hno, nd⟩
    have hsz : es1.size = L.length + 1 := by rw [← Array.length_toList, pc.length_eq, List.length_cons, Array.length_toList, hn]
    have hb1 : es1.size < scanBound := by rw [hsz]; exact room
    have hled : w.params.followText "set-order" = true ∨ t1.led = true := hl.imp id fun z => by rw [hl1]; exact z
    have fin : ∀ h', Heap.SameBut a s.heap h' → SetX w h' a (x :: L) → Q .none { s with heap := h', toks := s.toks + 1 } := fun h' sb r => by
      have q := hQ h' sb
      rw [if_neg hno] at q
      exact q r
    -- the two stores
    have tail : ∀ (t2 : SetTable) (wd : Bool) (gg : Bool → Sem Unit) (R : Option Bool → Shared → Prop), t2.fits es1.size = true → Ris t2.place.toList → (w.params.followText "set-order" = true ∨ t2.led = true) →
        (∀ (b : Bool) (s₁ : Shared) (Q' : Unit → Shared → Prop), Q' () s₁ → wpAny (model P w) A.in1 (gg b) Q' (fun e s' => E e s') s₁) →
        (∀ h', Heap.SameBut a s.heap h' → SetX w h' a (x :: L) → R (some true) { s with heap := h', toks := s.toks + 1 }) →
        wpAny (model P w) A.in1 (do
          storeSet a es1 t2
          if (!wd && t2.tooFull) = true then do
              gg (relayAll t2 es1 (SetTable.grown es1.size)).2.2
              storeSet a (relayAll t2 es1 (SetTable.grown es1.size)).1 (relayAll t2 es1 (SetTable.grown es1.size)).2.1
              pure (some true)
            else pure (some true)) R (fun e s' => E e s') { s with toks := s.toks + 1 } := by
      intro t2 wd gg R hf2 hr2 hl2 hgg hR
      refine wpAny_bind (wpAny_storeSet_of (s := { s with toks := s.toks + 1 }) ho hd ?_ (fits_of_scanBound hb1))
      have ho1 := store_at (es' := es1) (t' := t2) ho hd
      have sb1 := Heap.SameBut.update s.heap a (Obj.putSet es1 t2)
      split
      · have pr := relayAll_perm t2 es1 (SetTable.grown es1.size)
        have hf3 := relayAll_fits t2 es1 (SetTable.grown es1.size)
        have hr3 := relayAll_ris t2 es1 (SetTable.grown es1.size)
        have hl3 := relayAll_led t2 es1 (SetTable.grown es1.size)
        generalize relayAll t2 es1 (SetTable.grown es1.size) = Y at pr hf3 hr3 hl3 ⊢
        obtain ⟨es2, t3, gv⟩ := Y
        dsimp only at pr hf3 hr3 hl3 ⊢
        have hb2 : es2.size < scanBound := by
          rw [← Array.length_toList, pr.length_eq, Array.length_toList]
          exact hb1
        refine wpAny_bind (hgg _ _ _ ?_)
        refine wpAny_bind (wpAny_storeSet_of ho1 rfl ?_ (fits_of_scanBound hb2))
        have ho2 := store_at (es' := es2) (t' := t3) ho1 rfl
        exact wpAny_pure (hR _ (sb1.trans (Heap.SameBut.update _ a _)) ⟨_, es2, _, t3, ho2, hex, rfl, fun e he => g1 e (pr.mem_iff.mp he), (pr.map txOf).trans pk, nd1, hb2, hf3, hr3, hl2.imp id fun z => by rw [hl3]; exact z⟩)
      · exact wpAny_pure (hR _ sb1 ⟨_, es1, _, t2, ho1, hex, rfl, g1, pk, nd1, hb1, hf2, hr2, hl2⟩)
    have hgw : ∀ (b : Bool) {s₁ : Shared} {Q' : Unit → Shared → Prop}, Q' () s₁ → wpAny (model P w) A.in1 (match b with | true => rule "set.scan.the-table-gave-way" | false => pure ()) Q' (fun e s' => E e s') s₁ :=
      fun b s₁ Q' q => by cases b <;> first | exact wpAny_pure q | exact wpAny_rule q
    refine wpAny_bind (hgw _ ?_)
    split
    · refine wpAny_bind ?_
      rw [hashByValue_scannable 8 hsc]
      refine wpAny_pure ?_
      refine tail _ _ _ _ ?_ ?_ ?_ ?_ ?_
      · first | (split <;> first | exact hf1 | exact SetTable.fits_plain_off hf1) | exact hf1
      · first | (split <;> exact hr1) | exact hr1
      · first | (split <;> exact hled) | exact hled
      · intro b s₁ Q' q; cases b <;> first | exact wpAny_pure q | exact wpAny_rule q
      · intro h' sb r; dsimp only; exact wpAny_pure (wpAny_pure ⟨_, rfl, fin h' sb r⟩)
    · refine wpAny_bind (wpAny_pure ?_)
      simp only [↓reduceIte]
      refine tail _ _ _ _ hf1 hr1 hled ?_ ?_
      · intro b s₁ Q' q; cases b <;> first | exact wpAny_pure q | exact wpAny_rule q
      · intro h' sb r; dsimp only; exact wpAny_pure (wpAny_pure ⟨_, rfl, fin h' sb r⟩)
end
end L2

namespace L2
open PySem PySem.Spec PySem.W PyProof.Rows RW9 PpSet
def SetXO (w : World) (a : Addr) (L : List Str) : HO := .ext fun h => SetX w h a L
theorem setX_at {w : World} {h h' : Heap} {a : Addr} {L : List Str} (R : SetX w h a L) (k : ∀ o, h.get? a = some o → h'.get? a = some o) : SetX w h' a L := by
  obtain ⟨o, es, ep, t, ho, r⟩ := R
  exact ⟨o, es, ep, t, k o ho, r⟩
theorem setXO_new {w : World} {P : Program} {H : Hp} {h : Heap} {a : Addr} {L : List Str} (R : SetX w h a L) : ObjOk P w H h a (SetXO w a L) := by
  have ⟨o, _, _, _, ho, _⟩ := R
  exact ⟨R, ⟨o, ho⟩, fun h1 h2 p k => setX_at p k⟩
theorem setX_fresh {h : Heap} (w : World) : SetX w (h.push { cls := .type "set", dict := none, data := .set #[] 0 (.fresh 0 0 (!w.params.followText "set-order")) }) h.objs.size [] :=
  ⟨_, #[], 0, _, Heap.get?_push_size _ rfl, ⟨rfl, rfl, rfl⟩, rfl, (fun e he => by simp at he), .nil, List.Pairwise.nil, (by decide), (by rfl), List.Pairwise.nil, by
    show _ ∨ (!w.params.followText "set-order") = true
    cases w.params.followText "set-order"
    · exact .inr rfl
    · exact .inl rfl⟩
section
variable {X : Cx}
theorem addX_ok {pins : List (Addr × Obj)} {σ : L2.St} {H : Hp} {s : Shared} {E : Value → Shared → Prop} {D : Addr} {L : List Str} {x : Str} {tk : Tok} {Q : Value → Shared → Prop} (I : Inv X pins σ H s) (hD : H D = some (SetXO X.w D L)) (room : L.length + 1 < scanBound)
    (h : ∀ s', Inv X pins σ (upd H D (SetXO X.w D (if x ∈ L then L else x :: L))) s' → Q .none s') : wpAny (model X.prog X.w) X.A (call (.builtin "set.add") [.ref D, .str x tk]) Q E s := by
  have R : SetX X.w s.heap D L := (I.hok D _ hD).1
  refine setX_add R room fun h' sb new => ?_
  have he : ∃ u, h'.get? D = some u := by
    have ⟨o, _, _, _, ho, _⟩ := new
    exact ⟨o, ho⟩
  exact h _ (I.write (e := D) (t' := s.toks + 1) (by rw [hD]; trivial) (.inl rfl) (fun b u hb hu => (sb.2 b hb).trans hu) he (setXO_new new))
/-- {elt for target in iter if ..}, elt a text: D the new set -/
def tScX (w : World) (wi : TI) (g : TG) (tt : TT) (te : TE) (vs : List Nat) : TE := fun σ H Q => wi σ H fun J H1 => ∀ D, H1 D = none → ∃ W : Nat → Nat → Hp → Prop, (∃ m, W 0 m (upd H1 D (SetXO w D []))) ∧ ∀ i m H, W i m H →
  (J.stop i H ∧ Q (.ref D) H) ∨ (J.go i H ∧ ∃ Nx : Hp → Prop, (∀ H', Nx H' → ∃ m', m' < m ∧ W (i + 1) m' H') ∧ ∀ x H', J.yld i H x H' → g x (wipe σ vs) H' fun σ2 H2 => wipe σ2 vs = wipe σ vs ∧ tt σ2 H2 fun b H3 =>
    if b = true then te σ2 H3 fun y H4 => ∃ (x : Str) (L : List Str), y = .str x ∧ H4 D = some (SetXO w D L) ∧ L.length + 1 < scanBound ∧ Nx (upd H4 D (SetXO w D (if x ∈ L then L else x :: L))) else Nx H3)
variable {elt tg iter : Expr} {ifs : List Expr} {scope : Scope} {own : List (Str × Nat)} {pos : Pos} {wi : TI} {g : TG} {tt : TT} {te : TE}
theorem pe_scX (hc : X.calm = true) (hN : X.N.Nodup) (hi : PI X tg iter wi) (ok : BlkOk X.N X.env.scope scope own)
    (hg : ∀ (s : Shared) (H : Hp) (C : Addr) (cl : List (Str × Addr)) (fp : List Addr), PG (X.blk s H scope (compEnvC scope cl C X.env) fp) tg g)
    (ht : ∀ (s : Shared) (H : Hp) (C : Addr) (cl : List (Str × Addr)) (fp : List Addr), PTs (X.blk s H scope (compEnvC scope cl C X.env) fp) ifs tt)
    (hv : ∀ (s : Shared) (H : Hp) (C : Addr) (cl : List (Str × Addr)) (fp : List Addr), PE (X.blk s H scope (compEnvC scope cl C X.env) fp) elt te) (hs : ∀ x, foldedSetIterable iter X.env x = pure x := by intro _; rfl) :
    PE X (.SetComp elt [⟨tg, iter, ifs, 0⟩] scope pos) (tScX X.w wi g tt te (own.map (·.2))) := by
  refine ⟨fun pins s σ H Q I h => ?_⟩
  rw [eval_SetComp]
  have cells : ∀ y ∈ scope.names, y.2 = .free → ∃ c, X.env.cells.lookup y.1 = some c := fun y hy e => (ok.free y hy e).elim (fun k => I.ok.has _ (.inl k)) fun k => I.ok.has _ (.inr k)
  refine wpAny_comprehension_free (use := none) rfl hs (closure_ok cells) ok.kind (fun y hy e => by rw [ok.uniq y hy, e]) (thn (hi.run pins s σ H _ I h) fun xv sA hx => thn hx fun itv sB hB => ?_)
  obtain ⟨it, fp, tn, J, H2, e, I2, T, st2, f2, q⟩ := hB
  subst e
  refine newSet_ok (newEnv_comp ?_)
  generalize hD : sB.heap.objs.size = D
  obtain ⟨W, ⟨m0, w0⟩, turn⟩ := q D (I2.hok.fresh (Nat.le_of_eq hD))
  generalize hob : ({ cls := .type "set", dict := none, data := .set #[] 0 (.fresh 0 0 (!X.w.params.followText "set-order")) } : Obj) = ob
  have oldB : ∀ b o, sB.heap.get? b = some o → (sB.heap.push ob).get? b = some o := fun b o e => Heap.get?_push_of_some _ e
  have I3 : Inv X pins σ (upd H2 D (SetXO X.w D [])) { sB with heap := sB.heap.push ob } := by
    refine I2.laid (t' := sB.toks) oldB (Nat.le_of_eq hD) ?_
    rw [← hD, ← hob]
    exact setXO_new (setX_fresh X.w)
  have below : ∀ b ∈ fp, b < sB.heap.objs.size := fun b hb => (T.obj _ _ st2 b hb).elim fun o e => Heap.lt_size e.1
  generalize hs3 : ({ sB with heap := sB.heap.push ob } : Shared) = s3 at I3
  have eh3 : s3.heap = sB.heap.push ob := by rw [← hs3]
  have f3 : ∀ b ∈ fp, FpOk X pins (upd H2 D (SetXO X.w D [])) b ∧ b < s3.heap.objs.size := fun b hb => by
    have l := below b hb
    refine ⟨⟨?_, (f2 b hb).2⟩, by rw [eh3, Heap.size_push]; exact Nat.lt_succ_of_lt l⟩
    rw [upd_ne (fun z => absurd l (by rw [z, ← hD]; exact Nat.lt_irrefl _))]
    exact (f2 b hb).1
  have I4 := block_start I3 ok hN f3
  generalize hH3 : upd H2 D (SetXO X.w D []) = H3 at I3 I4 w0 f3
  generalize hcl : cellsFrom (s3.heap.objs.size + 1) scope.names (cloFrom X.env.cells scope.names []) = cl at I4
  have pg := hg s3 H3 s3.heap.objs.size cl fp
  have pt := ht s3 H3 s3.heap.objs.size cl fp
  have pv := hv s3 H3 s3.heap.objs.size cl fp
  show codeAny _ _ (.compStart (.SetComp elt [⟨tg, iter, ifs, 0⟩] scope pos) 0 (.ref it) (.ref D) (compEnvC scope cl s3.heap.objs.size X.env)) (compPost (model X.prog X.w) X.A X.xe none (EP X pins σ Q) (.ref D) s3.heap.objs.size) { s3 with heap := pushCells (s3.heap.push { cls := .type "dict", data := .dict #[] }) scope.names }
  generalize hce : compEnvC scope cl s3.heap.objs.size X.env = ce at I4 pg pt pv ⊢
  have cL : ce.locals = s3.heap.objs.size := by rw [← hce]; rfl
  generalize hs4 : ({ s3 with heap := pushCells (s3.heap.push { cls := .type "dict", data := .dict #[] }) scope.names } : Shared) = s4 at I4 ⊢
  have st4 : tn 0 s4.heap := T.keep _ _ _ st2 fun b _ o e => by
    rw [← hs4]
    exact pushCells_keeps _ _ _ _ (Heap.get?_push_of_some _ (by rw [eh3]; exact oldB b o e))
  have stat : ∀ {σ' : L2.St} {H' : Hp} {s' : Shared}, Inv (X.blk s3 H3 scope ce fp) [] σ' H' s' → (∀ b ∈ fp, H' b = none) → ∀ b ∈ fp, FpOk (X.blk s3 H3 scope ce fp) [] H' b := fun {σ' H' s'} I' hn b hb =>
    ⟨hn b hb, (I'.ok.exf b hb).1, I'.ok.exfs b hb, .inl hb, fun x c e => (I'.ok.exf b hb).2 x c e, fun p hp => absurd (show p ∈ ([] : List (Addr × Obj)) ++ [] from hp) (by simp)⟩
  refine (fun loop => codeAny_compStart_set loop (T.self X.A 0 _ _ _ st4 loop)) ?_
  refine compLoopS_any (fun n s' => ∃ i H', Inv (X.blk s3 H3 scope ce fp) [] (wipe σ (own.map (·.2))) H' s' ∧ tn i s'.heap ∧ (∀ b ∈ fp, H' b = none) ∧ W i n H') ?_ m0 ⟨0, H3, I4, st4, fun b hb => (f3 b hb).1.1, w0⟩
  rintro n s5 ⟨i, H5, I5, st5, n5, w5⟩
  rcases turn i n H5 w5 with ⟨stop, qq⟩ | ⟨go, Nx, hNx, step⟩
  · refine thnF (T.done (X.blk s3 H3 scope ce fp) rfl rfl rfl hc i [] s5 _ H5 (fun _ _ => False) I5 (stat I5 n5) st5 stop) fun r s6 ⟨hr, I6⟩ => ?_
    subst hr
    have I7 : Inv X pins σ H5 s6 := I3.call' (ch := fp) I6.os I6.base I6.hok I6.bare fun b hb => ⟨(f3 b hb).1.2.2.2.1, (f3 b hb).1.2.1, (f3 b hb).1.2.2.2.2.1, (f3 b hb).1.2.2.2.2.2⟩
    have nC : H5 ce.locals = none := I6.free
    obtain ⟨m, hn, _⟩ := I6.loc
    have hn' : s6.heap.Ns ce.locals m := hn
    rw [cL] at hn' nC
    refine ⟨m, hn', fun h'' sb => ?_⟩
    obtain ⟨c0, c1, c2, c3, c4, c5⟩ := I3.fpOk (Nat.le_refl s3.heap.objs.size) nC
    exact ⟨.ref D, H5, I7.turned (t' := s6.toks) (fun b o hb e => (sb.2 b hb).trans e) c0 c1 c3 c4 c5, rfl, qq⟩
  · refine thnF (T.item (X.blk s3 H3 scope ce fp) rfl rfl rfl hc i [] s5 _ H5 (fun _ _ => False) I5 (stat I5 n5) st5 go) fun r s6 ⟨u, hr, h6⟩ => ?_
    subst hr
    refine thnF h6 fun _ s7 ⟨x, H7, I7, r7, y7, st7, n7⟩ => ?_
    refine thnF (pg.run _ s7 _ H7 x u _ (I7.pinned (stat I7 n7) (T.obj _ _ st7)) r7 (step x H7 y7)) fun _ s8 ⟨σ8, H8, I8, hw8, q8⟩ => ?_
    refine thnF (pt.run _ s8 σ8 H8 _ I8 q8) fun b s9 ⟨H9, I9, q9⟩ => ?_
    have fin : ∀ {s' : Shared} {H' : Hp}, Inv (X.blk s3 H3 scope ce fp) ([] ++ pinsAt fp s7.heap) σ8 H' s' → Nx H' → ∃ m, m < n ∧ ∃ i H', Inv (X.blk s3 H3 scope ce fp) [] (wipe σ (own.map (·.2))) H' s' ∧ tn i s'.heap ∧ (∀ b ∈ fp, H' b = none) ∧ W i m H' := fun {s' H'} I' nx => by
      obtain ⟨m', hm, w'⟩ := hNx H' nx
      have pin : ∀ b ∈ fp, ∀ o, s7.heap.get? b = some o → s'.heap.get? b = some o ∧ H' b = none := fun b hb o e => by
        have z := I'.pin (b, o) (List.mem_append_right _ (List.mem_append_right _ (mem_pinsAt hb e)))
        exact ⟨z.1, z.2.1⟩
      refine ⟨m', hm, i + 1, H', (I'.unpinned (pins := [])).weak (by rw [← hw8, wipe_length]) (fun j v e => ?_), T.keep _ _ _ st7 fun b hb o e => (pin b hb o e).1, fun b hb => ?_, w'⟩
      · rw [← hw8] at e
        exact (wipe_some e).1
      · obtain ⟨o, e, _⟩ := T.obj _ _ st7 b hb
        exact (pin b hb o e).2
    cases b with
    | false =>
      simp only [Bool.false_eq_true, if_false] at q9 ⊢
      exact fin I9 q9
    | true =>
      simp only [if_true] at q9 ⊢
      refine thnF (pv.run _ s9 σ8 H9 _ I9 q9) fun z sV ⟨yv, HV, IV, rV, tx, L0, ey, hDV, room, nx⟩ => ?_
      subst ey
      obtain ⟨tk, rfl⟩ := (show ∃ t, z = Value.str tx t from rV)
      exact addX_ok (X := X.blk s3 H3 scope ce fp) IV hDV room fun s12 I12 => fin I12 nx
/-! ### sorted of a set of texts -/
def rSortX (w : World) : List V → Hp → VK → Prop := fun vs H Q => ∃ (a : Addr) (L : List Str), vs = [.ref a] ∧ H a = some (SetXO w a L) ∧ ∀ (p : Addr) (M : List Str), H p = none → M.Perm L → M.Nodup → Q (.ref p) (upd H p (.lst (M.map V.str)))
theorem cr_sortedX (hc : X.calm = true) (hu : X.A.units + 8 < cLine) : CallR X (.builtin "sorted") (rSortX X.w) := by
  intro pins s σ H xs us Q I r h
  obtain ⟨a, L, rfl, ha, q⟩ := h
  obtain rfl := Vals.ref1 r
  obtain ⟨o, es, ep, t, ho, hex, hd, g, pm0, nd, hb, hf, hr, hl⟩ := (show SetX X.w s.heap a L from (I.hok a _ ha).1)
  refine Calls.call_function_entry PyProof.Rows.kind_sorted PyProof.Rows.plain_sorted PyProof.Rows.entry_sorted (PyProof.Rows.args_sorted1 _) ?_
  unfold Builtin.«sorted»
  refine wpAny_bind (m := checkCount "sorted" 1 1 _) (wpAny_pure ?_)
  refine wpAny_bind (collect_set (A := X.A.in1) (I.ok.hd hc) ⟨o, ho, hex.1, hd⟩ hf hb hr hl fun s1 vs k1 hz g1 o1 pm => ?_)
  let tx : Value → Str := fun v => match v with
    | .str x _ => x
    | _ => Str.empty
  have isS : ∀ v ∈ vs, ∃ x tk, v = Value.str x tk := fun v hv => by
    obtain ⟨e, he, q⟩ := List.mem_map.mp (pm.mem_iff.mp hv)
    obtain ⟨x, tk, h1, _⟩ := g e he
    exact ⟨x, tk, by rw [← q]; exact h1⟩
  have pL : (vs.map tx).Perm L := by
    have e : (vs.map tx).Perm (es.toList.map txOf) := by
      have z := pm.map tx
      rw [List.map_map] at z
      exact z
    exact e.trans pm0
  have vl : vs.length ≤ sizeLine := by
    rw [pm.length_eq, List.length_map, Array.length_toList]
    exact fits_of_scanBound hb
  have I1 : Inv X pins σ H s1 := I.call' (ch := []) o1 (Un.kept k1) (I.hok.kept k1) (by rw [g1]; exact I.bare) (fun _ z => nomatch z)
  refine wpAny_bind (wpAny_newList ?_ vl)
  have hob : (s1.heap.push (seqObj "list" vs.toArray 0)).get? s1.heap.objs.size = some (seqObj "list" vs.toArray 0) := Heap.get?_push_size _ rfl
  have ka : ∀ b o, s1.heap.get? b = some o → (s1.heap.push (seqObj "list" vs.toArray 0)).get? b = some o := fun b o e => Heap.get?_push_of_some _ e
  show wpAny _ _ _ _ _ { s1 with heap := s1.heap.push (seqObj "list" vs.toArray 0) }
  generalize hh2 : s1.heap.push (seqObj "list" vs.toArray 0) = h2 at hob ka ⊢
  let enc : Value → PyData := fun v => .str (tx v)
  refine wpAny_bind (wpAny_holding (wpAny_call_entry PyProof.Rows.slot_list_sort ⟨_, hob, rfl⟩ PyProof.Rows.entry_list_sort
    (SrtO.list_sort_ord (s := { s1 with heap := h2 }) (swo_data enc) hob vl (fun h2l h' _ => ?_) fun out p1 p2 => ⟨_, rfl, ?_⟩) (PyProof.Rows.args_list_sort _)))
  · have S : SortsAt X.prog X.w X.A.in1.in1 { s1 with heap := h' } (dataKind h' (vs.map enc)) vs :=
      SortsAt.data (s := { s1 with heap := h' }) (eachIs_self (R := fun v d => ∃ as, Reads h' v d as) fun v hv => by
        obtain ⟨x, tk, rfl⟩ := isS v hv
        exact ⟨[], .str x tk⟩) (fun d hd d' hd' => by
        obtain ⟨v, _, rfl⟩ := List.mem_map.mp hd
        obtain ⟨u, _, rfl⟩ := List.mem_map.mp hd'
        rfl) (.inr fun d hd => by
        obtain ⟨v, _, rfl⟩ := List.mem_map.mp hd
        exact ⟨fun z => PyData.noConfusion z, fun xs z => PyData.noConfusion z⟩) fun d hd => by
        obtain ⟨v, _, rfl⟩ := List.mem_map.mp hd
        show X.A.in1.in1.units + (PyData.str (tx v)).depth < cLine
        have e1 : X.A.in1.in1.units = X.A.units + 2 := rfl
        have e2 : (PyData.str (tx v)).depth = 0 := by simp [PyData.depth]
        omega
    obtain ⟨kd, lt, kk⟩ := S.kind
    refine ⟨kd, fun Q E hq => kk h2l E hq, ?_⟩
    have hal : AllAlike (vs.map enc) := fun d hd d' hd' => by
      obtain ⟨v, _, rfl⟩ := List.mem_map.mp hd
      obtain ⟨u, _, rfl⟩ := List.mem_map.mp hd'
      rfl
    have rd : ∀ v ∈ vs, ∃ as, Reads h' v (enc v) as := fun v hv => by
      obtain ⟨x, tk, rfl⟩ := isS v hv
      exact ⟨[], .str x tk⟩
    intro p q hp hq
    obtain ⟨as, ra⟩ := rd p.1 hp
    obtain ⟨bs, rb⟩ := rd q.1 hq
    exact lt (fun _ _ => False) p.1 q.1 _ _ (dataKind_some hal (List.mem_map.mpr ⟨_, hp, rfl⟩) ra) (dataKind_some hal (List.mem_map.mpr ⟨_, hq, rfl⟩) rb) ⟨rfl, rfl⟩
  · refine wpAny_pure ?_
    have isO : ∀ v ∈ out, ∃ x tk, v = Value.str x tk := fun v hv => isS v (p2.perm.mem_iff.mp hv)
    have pO : (out.map tx).Perm L := (p2.perm.map tx).trans pL
    obtain ⟨eF, heF⟩ := PyProof.Rows.sortedHeap_at (vs := vs) (out := out.toArray) hob
    have rv : Vals ((out.map tx).map V.str) out := by
      have z : ∀ l : List Value, (∀ v ∈ l, ∃ x tk, v = Value.str x tk) → Vals ((l.map tx).map V.str) l := by
        intro l
        induction l with
        | nil => intro _; exact .nil
        | cons v l ih =>
          intro hl'
          obtain ⟨x, tk, rfl⟩ := hl' v List.mem_cons_self
          exact .cons ⟨tk, rfl⟩ (ih fun u hu => hl' u (List.mem_cons_of_mem _ hu))
      exact z out isO
    have kF : ∀ b oo, s1.heap.get? b = some oo → (sortedHeap h2 s1.heap.objs.size vs out.toArray).get? b = some oo := fun b oo e => (PyProof.Rows.sortedHeap_old (Nat.ne_of_lt (Heap.lt_size e)) (Heap.lt_size (ka _ _ e))).trans (ka _ _ e)
    refine ⟨.ref s1.heap.objs.size, rfl, .ref s1.heap.objs.size, upd H s1.heap.objs.size (.lst ((out.map tx).map V.str)), I1.laid (t' := s1.toks) kF (Nat.le_refl _) ⟨by rw [List.length_map, List.length_map, p2.perm.length_eq]; exact vl, out, eF, rv, heF⟩, rfl, q _ _ (I1.hok.fresh (Nat.le_refl _)) pO (pO.nodup_iff.mpr nd)⟩
end
end L2

/-! sets of nested keys: made by a comprehension, sorted -/
namespace NSet
open PySem PySem.Spec PySem.W PyProof.Rows L2

/-- the tuple at a is the nested key k -/
def Nst (h : Heap) (k : NestedKey) (a : Addr) : Prop := NestedIs h k (.ref a) ∧ k.depth ≤ 8

section
variable {P : Program} {w : World} {A : Around} {E : Value → Shared → Prop} {s : Shared}
mutual
/-- whether a nested key is hashed by value: some answer, nothing changes -/
theorem hashBy_val : ∀ (k : NestedKey) (v : Value) (n : Nat) (Q : Bool → Shared → Prop), NestedIs s.heap k v → (∀ b, Q b s) → wpAny (model P w) A (hashByValue n v) Q E s
  | .none, v, n, Q, hk, q => by
    cases hk
    cases n <;> exact wpAny_pure (q _)
  | .num i, v, n, Q, hk, q => by
    cases hk <;> cases n <;> exact wpAny_pure (q _)
  | .text x, v, n, Q, hk, q => by
    cases hk
    cases n <;> exact wpAny_pure (q _)
  | .tup ks, v, 0, Q, hk, q => by
    cases hk
    exact wpAny_pure (q _)
  | .tup ks, v, n + 1, Q, hk, q => by
    cases hk with
    | @tup a o vs m _ ho hc hd hi =>
      unfold hashByValue
      refine wpAny_bind (wpAny_specialOf (T := "tuple") ⟨o, ho, hc⟩ F.slot_tuple_hash.lookup ?_)
      show wpAny _ _ (seqItems? (.ref a) >>= _) _ _ s
      refine wpAny_bind (wpAny_seqItems ho hd (wpAny_bind ?_))
      show wpAny _ _ (forIn vs _ _) _ _ s
      rw [← Array.forIn_toList]
      refine wpAny_forIn_list _ (fun rest r s1 => s1 = s ∧ ∃ js, NestedAll s.heap js rest ∧ ∀ v ∈ rest, ∀ (Q1 : Bool → Shared → Prop), (∀ b, Q1 b s) → wpAny (model P w) A (hashByValue n v) Q1 E s) _ ?_ ?_ _ _ ⟨rfl, ks, hi, fun v hv Q1 q1 => hashBy_all ks vs.toList n Q1 hi q1 v hv⟩
      · rintro v rest r s1 ⟨rfl, js, ha, hall⟩
        have hrest : ∃ js, NestedAll s1.heap js rest := by
          cases ha with
          | cons _ t => exact ⟨_, t⟩
        obtain ⟨js2, hj⟩ := hrest
        refine wpAny_bind (hall v List.mem_cons_self _ fun b => ?_)
        cases b with
        | true =>
          simp only [Bool.not_true, Bool.false_eq_true, if_false]
          exact wpAny_pure ⟨rfl, js2, hj, fun u hu => hall u (List.mem_cons_of_mem _ hu)⟩
        | false =>
          simp only [Bool.not_false, if_true]
          exact wpAny_pure (wpAny_pure (q false))
      · rintro ⟨r1, r2⟩ s1 ⟨rfl, _⟩
        cases r1 with
        | none => exact wpAny_pure (q true)
        | some b => exact wpAny_pure (q b)
theorem hashBy_all : ∀ (ks : List NestedKey) (vs : List Value) (n : Nat) (Q : Bool → Shared → Prop), NestedAll s.heap ks vs → (∀ b, Q b s) → ∀ v ∈ vs, wpAny (model P w) A (hashByValue n v) Q E s
  | [], vs, n, Q, hk, q, v, hv => by
    cases hk
    cases hv
  | k :: ks, vs, n, Q, hk, q, v, hv => by
    cases hk with
    | cons h1 h2 =>
      rcases List.mem_cons.mp hv with e | hv
      · rw [e]
        exact hashBy_val k _ n Q h1 q
      · exact hashBy_all ks _ n Q h2 q v hv
end
mutual
/-- a nested key is of no class statement -/
theorem noClass_val : ∀ (k : NestedKey) (v : Value) (n : Nat) (Q : Bool → Shared → Prop), NestedIs s.heap k v → k.depth ≤ n → Q false s → wpAny (model P w) A (ofAClassStatement n v) Q E s
  | .none, v, n, Q, hk, _, q => by
    cases hk
    cases n <;> exact wpAny_pure q
  | .num i, v, n, Q, hk, _, q => by
    cases hk <;> cases n <;> exact wpAny_pure q
  | .text x, v, n, Q, hk, _, q => by
    cases hk
    cases n <;> exact wpAny_pure q
  | .tup ks, v, 0, Q, hk, hn, q => absurd hn (by simp only [NestedKey.depth]; omega)
  | .tup ks, v, n + 1, Q, hk, hn, q => by
    simp only [NestedKey.depth] at hn
    cases hk with
    | @tup a o vs m _ ho hc hd hi =>
      unfold ofAClassStatement
      refine wpAny_bind (wpAny_typeOf (T := "tuple") ⟨o, ho, hc⟩ ?_)
      dsimp only
      have e : (("tuple" : String) == "tuple") = true := by decide
      simp only [e, if_true, Bool.not_true, Bool.false_eq_true, if_false]
      try refine wpAny_bind (wpAny_pure ?_)
      try simp only [Bool.not_true, Bool.false_eq_true, if_false]
      show wpAny _ _ (seqItems? (.ref a) >>= _) _ _ s
      refine wpAny_bind (wpAny_seqItems ho hd ?_)
      dsimp only
      refine wpAny_bind ?_
      show wpAny _ _ (forIn vs _ _) _ _ s
      rw [← Array.forIn_toList]
      refine wpAny_forIn_list _ (fun rest r s1 => r.1 = none ∧ s1 = s ∧ ∀ v ∈ rest, ∀ (Q1 : Bool → Shared → Prop), Q1 false s → wpAny (model P w) A (ofAClassStatement n v) Q1 E s) _ ?_ ?_ _ _ ⟨rfl, rfl, fun v hv Q1 q1 => noClass_all ks vs.toList n Q1 hi (by omega) q1 v hv⟩
      · rintro v rest r s1 ⟨hr, rfl, hall⟩
        refine wpAny_bind (hall v List.mem_cons_self _ ?_)
        simp only [Bool.false_eq_true, if_false]
        exact wpAny_pure ⟨rfl, rfl, fun u hu => hall u (List.mem_cons_of_mem _ hu)⟩
      · rintro ⟨r1, r2⟩ s1 ⟨hr, rfl, _⟩
        simp only at hr
        subst hr
        exact wpAny_pure q
theorem noClass_all : ∀ (ks : List NestedKey) (vs : List Value) (n : Nat) (Q : Bool → Shared → Prop), NestedAll s.heap ks vs → NestedKey.depthAll ks ≤ n → Q false s → ∀ v ∈ vs, wpAny (model P w) A (ofAClassStatement n v) Q E s
  | [], vs, n, Q, hk, _, q, v, hv => by
    cases hk
    cases hv
  | k :: ks, vs, n, Q, hk, hn, q, v, hv => by
    simp only [NestedKey.depthAll] at hn
    cases hk with
    | cons h1 h2 =>
      rcases List.mem_cons.mp hv with e | hv
      · rw [e]
        exact noClass_val k _ n Q h1 (by omega) q
      · exact noClass_all ks _ n Q h2 (by omega) q v hv
end
/-- a search among nested keys shows nothing -/
theorem unseen {k : NestedKey} {b : Addr} {Q : Bool → Shared → Prop} (hk : Nst s.heap k b) {ys : List Value} (hy : ∀ y ∈ ys, ∃ j c, y = Value.ref c ∧ Nst s.heap j c) (h : Q false s) :
    wpAny (model P w) A (searchCouldBeSeen (.ref b) ys) Q E s := by
  unfold searchCouldBeSeen
  refine wpAny_bind (wpAny_forIn_list _ (fun rest r s1 => r.1 = none ∧ s1 = s ∧ ∀ y ∈ rest, ∃ j c, y = Value.ref c ∧ Nst s.heap j c) _ ?_ ?_ _ _ ⟨rfl, rfl, hy⟩)
  · rintro v rest r s1 ⟨hr, rfl, hall⟩
    obtain ⟨j, c, rfl, hc⟩ := hall v List.mem_cons_self
    have more : ∀ y ∈ rest, ∃ j c, y = Value.ref c ∧ Nst s1.heap j c := fun u hu => hall u (List.mem_cons_of_mem _ hu)
    dsimp only
    by_cases hv : (b == c || (carriedByValue (.ref b) && carriedByValue (.ref c))) = true
    · exact wp_if_pos hv (wpAny_pure ⟨rfl, rfl, more⟩)
    · refine wp_if_neg hv (wpAny_bind (quiet_key k _ 8 s1 hk.1 hk.2 A E _ ?_))
      simp only [Bool.not_true, Bool.false_eq_true, if_false]
      refine wpAny_bind (quiet_key j _ 8 s1 hc.1 hc.2 A E _ ?_)
      simp only [Bool.not_true, Bool.false_eq_true, if_false]
      refine wpAny_bind (noClass_val k _ 8 _ hk.1 hk.2 ?_)
      simp only [Bool.false_eq_true, if_false]
      refine wpAny_bind (noClass_val j _ 8 _ hc.1 hc.2 ?_)
      simp only [Bool.false_eq_true, if_false]
      exact wpAny_pure ⟨rfl, rfl, more⟩
  · rintro ⟨r1, r2⟩ s1 ⟨hr, rfl, _⟩
    simp only at hr
    subst hr
    exact wpAny_pure h
end
end NSet

/-! tables of sets with up to 512 slots -/
namespace NSet
open PySem PySem.Spec PySem.W PyProof.Rows L2
/-! ### 512 slots: one round of i -> 5 i + 1 meets all -/
def orb : Nat → Nat → List Nat
  | 0, _ => []
  | n + 1, x => x :: orb n ((x * 5 + 1) % 512)
theorem orb_mem {j : Nat} : ∀ (n a : Nat), j ∈ orb n (lcgN 511 a) → ∃ b, b < n ∧ lcgN 511 (a + b) = j
  | 0, _, h => nomatch h
  | n + 1, a, h => by
    rcases List.mem_cons.mp h with e | h
    · exact ⟨0, Nat.succ_pos _, e.symm⟩
    · obtain ⟨b, hb, e⟩ := orb_mem n (a + 1) h
      exact ⟨b + 1, Nat.succ_lt_succ hb, by rw [← e, show a + (b + 1) = a + 1 + b by omega]⟩
theorem orb_all : ((List.range 512).all fun j => (orb 512 0).elem j) = true := by decide +kernel
theorem orb_at {j : Nat} (hj : j ≤ 511) : ∃ b, b < 512 ∧ lcgN 511 b = j := by
  have h := List.all_eq_true.mp orb_all j (List.mem_range.mpr (by omega))
  obtain ⟨b, hb, e⟩ := orb_mem 512 0 (List.mem_of_elem_eq_true h)
  exact ⟨b, hb, by rw [← e, Nat.zero_add]⟩
theorem orb_back : ∀ k, lcgN 511 (512 + k) = lcgN 511 k
  | 0 => by decide +kernel
  | k + 1 => congrArg (fun x => (x * 5 + 1) % 512) (orb_back k)
/-- the masks that come -/
def MaskW (m : Nat) : Prop := MaskOk m ∨ m = 511
theorem MaskW.meets {m : Nat} (hm : MaskW m) (h : Int) {j : Nat} (hj : j ≤ m) : ∃ n, n ≤ m + 12 ∧ runI m (SetTable.bits h) n = j := by
  rcases hm with hm | rfl
  · exact run_meets hm h hj
  · obtain ⟨a, ha, ea⟩ := orb_at (runI_le 511 (SetTable.bits h) 12)
    obtain ⟨b, hb, eb⟩ := orb_at hj
    have tail := runI_tail (m := 511) (bits_lt h)
    by_cases c : a ≤ b
    · refine ⟨12 + (b - a), by omega, ?_⟩
      rw [tail, ← ea, lcgN_add, show a + (b - a) = b by omega, eb]
    · refine ⟨12 + (512 + b - a), by omega, ?_⟩
      rw [tail, ← ea, lcgN_add, show a + (512 + b - a) = 512 + b by omega, orb_back, eb]
theorem MaskW.odd {m : Nat} (h : MaskW m) : m % 2 = 1 := by
  rcases h with h | rfl
  · exact mask_odd h
  · rfl
theorem MaskW.cases {m : Nat} (h : MaskW m) : m = 7 ∨ m = 31 ∨ m = 127 ∨ m = 511 := by
  rcases h with (h | h | h) | h <;> simp [h]
theorem way_in (m : Nat) (h : Int) (k : Nat) : way m h k ≤ m := by
  have r := runEnd_bd (show SetTable.bits h % (m + 1) ≤ m from Nat.le_of_lt_succ (Nat.mod_lt _ (Nat.succ_pos _)))
  have q := nth_in (m := m) k (runAt m (SetTable.bits h % (m + 1)) (SetTable.bits h)) (by
    show SetTable.bits h % (m + 1) + (SetTable.runEnd m (SetTable.bits h % (m + 1)) - SetTable.bits h % (m + 1)) ≤ m
    omega)
  exact Nat.le_trans (Nat.le_add_right _ _) q
/-- the first number of which p is true, p decided anyhow -/
theorem first_of {p : Nat → Prop} {n : Nat} (h : p n) : ∃ K, K ≤ n ∧ p K ∧ ∀ k, k < K → ¬ p k := st_least n h
/-! ### the table's word -/
structure TabW (t : SetTable) (hs : List Int) : Prop where
  ris : Ris t.place.toList
  dm : t.dummies = #[]
  sz : t.place.size = hs.length
  mok : MaskW t.mask
  bd : ∀ x ∈ t.place.toList, x ≤ t.mask
  reach : ∀ (i : Nat) (h : Int) (j : Nat), hs[i]? = some h → t.place.toList[i]? = some j → ∃ k, way t.mask h k = j ∧ ∀ k', k' < k → way t.mask h k' ∈ t.place.toList
section
variable {t : SetTable} {hs : List Int}
theorem TabW.first (T : TabW t hs) (hl : hs.length ≤ t.mask) (h : Int) : ∃ K, K < 10 * SetTable.turns t.mask ∧ way t.mask h K ∉ t.place.toList ∧ ∀ k, k < K → way t.mask h k ∈ t.place.toList := by
  obtain ⟨j, hj, hn⟩ := st_missing t.place.toList (t.mask + 1) (by rw [Array.length_toList, T.sz]; omega)
  obtain ⟨n, hn2, e⟩ := T.mok.meets h (Nat.le_of_lt_succ hj)
  obtain ⟨k, hk, e2⟩ := run_nth t.mask (SetTable.bits h) n
  have at_ : way t.mask h k = j := by
    show (nth t.mask (runAt t.mask (SetTable.bits h % (t.mask + 1)) (SetTable.bits h)) k).j = j
    rw [e2]
    exact e
  obtain ⟨K, h1, h2, h3⟩ := first_of (p := fun k => way t.mask h k ∉ t.place.toList) (n := k) (by
    show way t.mask h k ∉ t.place.toList
    rw [at_]
    exact hn)
  exact ⟨K, by unfold SetTable.turns; omega, h2, fun k' hk' => Classical.not_not.mp (h3 k' hk')⟩
theorem TabW.before (T : TabW t hs) {h : Int} {K i j : Nat} (hK : way t.mask h K ∉ t.place.toList) (hi : hs[i]? = some h) (hj : t.place.toList[i]? = some j) : ∃ k, k < K ∧ way t.mask h k = j := by
  obtain ⟨k, e, hb⟩ := T.reach i h j hi hj
  have n1 : k ≠ K := fun c => hK (by rw [← c, e]; exact List.mem_of_getElem? hj)
  have n2 : ¬ K < k := fun c => hK (hb K c)
  exact ⟨k, by omega, e⟩
/-- one more, at the first free slot of its way -/
theorem TabW.put (T : TabW t hs) {h : Int} {K : Nat} (hK : way t.mask h K ∉ t.place.toList) (hb : ∀ k, k < K → way t.mask h k ∈ t.place.toList) :
    (t.put (way t.mask h K)).2 = SetTable.below t.place (way t.mask h K) ∧ SetTable.below t.place (way t.mask h K) ≤ hs.length ∧
    TabW (t.put (way t.mask h K)).1 (hs.take (SetTable.below t.place (way t.mask h K)) ++ h :: hs.drop (SetTable.below t.place (way t.mask h K))) ∧
    (t.put (way t.mask h K)).1.mask = t.mask ∧ (t.put (way t.mask h K)).1.led = t.led ∧ (t.put (way t.mask h K)).1.plain = t.plain ∧ (t.put (way t.mask h K)).1.moves = t.moves ∧ (t.put (way t.mask h K)).1.finger = t.finger ∧
    (t.put (way t.mask h K)).1.fill = hs.length + 1 := by
  have lim := way_in t.mask h K
  generalize hw : way t.mask h K = j at hK lim ⊢
  have cut := (below_cut T.ris j).1
  have pl := put_place t j
  have dm := put_dm T.dm j
  have ris : Ris (t.put j).1.place.toList := ris_insert T.ris fun e => hK (List.mem_of_getElem? (by rw [Array.getElem?_toList]; exact e))
  have l1 : SetTable.below t.place j ≤ t.place.toList.length := by rw [Array.length_toList]; exact cut
  have l2 : SetTable.below t.place j ≤ hs.length := T.sz ▸ cut
  have len : (t.put j).1.place.size = hs.length + 1 := by rw [← Array.length_toList, pl, len_ins _ l1, Array.length_toList, T.sz]
  have snd : (t.put j).2 = SetTable.below t.place j := rfl
  generalize SetTable.below t.place j = b at pl l1 l2 snd ⊢
  have inn : ∀ x, x ∈ (t.put j).1.place.toList ↔ x = j ∨ x ∈ t.place.toList := fun x => by rw [pl]; exact mem_ins
  refine ⟨snd, l2, ⟨ris, dm, by rw [len_ins _ l2]; exact len, T.mok, ?_, ?_⟩, rfl, rfl, rfl, rfl, rfl, ?_⟩
  · intro x hx
    rcases (inn x).mp hx with rfl | hx
    · exact lim
    · exact T.bd x hx
  · intro i g y gi gy
    have old : ∀ i', hs[i']? = some g → t.place.toList[i']? = some y → ∃ k, way t.mask g k = y ∧ ∀ k', k' < k → way t.mask g k' ∈ (t.put j).1.place.toList := fun i' u v => by
      obtain ⟨k, e, z⟩ := T.reach i' g y u v
      exact ⟨k, e, fun k' q => (inn _).mpr (.inr (z k' q))⟩
    rw [tins_get _ l2] at gi
    rw [pl, tins_get _ l1] at gy
    by_cases c1 : i < b
    · rw [if_pos c1] at gi gy
      exact old i gi gy
    · rw [if_neg c1] at gi gy
      by_cases c2 : i = b
      · rw [if_pos c2] at gi gy
        cases gi
        cases gy
        exact ⟨K, hw, fun k' q => (inn _).mpr (.inr (hb k' q))⟩
      · rw [if_neg c2] at gi gy
        exact old (i - 1) gi gy
  · show (t.put j).1.place.size + (t.put j).1.dummies.size = _
    rw [dm, len]
    rfl
end
/-! ### laid anew -/
theorem MaskW.free {m : Nat} (hm : MaskW m) (owner : Array (Option Nat)) (h : Int) {j : Nat} (hj : j ≤ m) (hf : oAt owner j = none) :
    ∃ K, SetTable.layClean.free m owner (SetTable.turns m) (SetTable.bits h % (m + 1)) (SetTable.bits h) = some (way m h K) ∧ oAt owner (way m h K) = none ∧ ∀ k, k < K → oAt owner (way m h k) ≠ none := by
  obtain ⟨n, hn, e⟩ := hm.meets h hj
  have at_ : way m h (off m (SetTable.bits h % (m + 1)) (SetTable.bits h) n) = j := by
    have z := congrArg SetTable.Probe.j (nth_off m n (SetTable.bits h % (m + 1)) (SetTable.bits h))
    rw [itL_run] at z
    exact z.trans e
  obtain ⟨K, k1, k2, k3⟩ := first_of (p := fun k => oAt owner (way m h k) = none) (n := off m (SetTable.bits h % (m + 1)) (SetTable.bits h) n) (by
    show oAt owner (way m h _) = none
    rw [at_]
    exact hf)
  refine ⟨K, free_spec m owner _ n _ _ K (by unfold SetTable.turns; omega) k1 (fun k hk => ?_) ?_, k2, k3⟩
  · have q := k3 k hk
    revert q
    cases oAt owner (way m h k) <;> simp
  · have q : oAt owner (nth m (runAt m (SetTable.bits h % (m + 1)) (SetTable.bits h)) K).j = none := k2
    rw [q]
    rfl
theorem MaskW.step {m : Nat} (hm : MaskW m) {done : List Int} {owner : Array (Option Nat)} (W : Own m done owner) (hl : done.length ≤ m) (h : Int) :
    ∃ j, SetTable.layClean.free m owner (SetTable.turns m) (SetTable.bits h % (m + 1)) (SetTable.bits h) = some j ∧ Own m (done ++ [h]) (owner.setIfInBounds j (some done.length)) := by
  obtain ⟨ps, lps, ips⟩ := W.ps
  obtain ⟨j0, a1, a2⟩ := st_missing ps (m + 1) (by omega)
  have f0 : oAt owner j0 = none := Classical.byContradiction fun z => a2 (ips j0 (Nat.le_of_lt_succ a1) z)
  obtain ⟨K, g1, g2, g3⟩ := hm.free owner h (Nat.le_of_lt_succ a1) f0
  have lim := way_in m h K
  generalize hw : way m h K = j at g1 g2 lim
  have self := oAt_set_self (owner := owner) (some done.length) (show j < owner.size by rw [W.sz]; omega)
  have other : ∀ i, i ≠ j → oAt (owner.setIfInBounds j (some done.length)) i = oAt owner i := fun i c => oAt_set_ne _ c
  have up : ∀ i, oAt owner i ≠ none → oAt (owner.setIfInBounds j (some done.length)) i ≠ none := fun i z => by
    by_cases c : i = j
    · rw [c, self]; simp
    · rw [other i c]; exact z
  refine ⟨j, g1, ⟨by rw [Array.size_setIfInBounds]; exact W.sz, fun i k hi z => ?_, fun k hk => ?_, j :: ps, by simp [lps], fun i hi z => ?_⟩⟩
  · by_cases c : i = j
    · rw [c, self] at z
      cases z
      exact ⟨h, K, by simp, by rw [hw, c], fun k' q => up _ (g3 k' q)⟩
    · rw [other i c] at z
      obtain ⟨g, K', b1, b2, b3⟩ := W.at_ i k hi z
      exact ⟨g, K', by rw [List.getElem?_append_left (List.getElem?_eq_some_iff.mp b1).1]; exact b1, b2, fun k' q => up _ (b3 k' q)⟩
  · rw [List.length_append] at hk
    by_cases c : k = done.length
    · exact ⟨j, lim, by rw [c]; exact self⟩
    · obtain ⟨i, b1, b2⟩ := W.all k (by simp at hk; omega)
      exact ⟨i, b1, by rw [other i (fun z => by rw [z, g2] at b2; cases b2)]; exact b2⟩
  · by_cases c : i = j
    · rw [c]; exact List.mem_cons_self
    · rw [other i c] at z
      exact List.mem_cons_of_mem _ (ips i hi z)
theorem MaskW.lay {m : Nat} (hm : MaskW m) : ∀ (rest done : List Int) (owner : Array (Option Nat)), Own m done owner → done.length + rest.length ≤ m →
    ∃ owner', rest.foldl (stepF m) (some (owner, done.length)) = some (owner', done.length + rest.length) ∧ Own m (done ++ rest) owner'
  | [], done, owner, W, _ => ⟨owner, rfl, by rw [List.append_nil]; exact W⟩
  | h :: rest, done, owner, W, hl => by
    have hl' : done.length + (rest.length + 1) ≤ m := hl
    obtain ⟨j, e, W2⟩ := hm.step W (by omega) h
    have l1 : (done ++ [h]).length = done.length + 1 := by simp
    obtain ⟨o2, f, W3⟩ := hm.lay rest (done ++ [h]) _ W2 (by omega)
    refine ⟨o2, ?_, by rw [List.append_assoc] at W3; exact W3⟩
    rw [List.foldl_cons, stepF_some e, ← l1, f, l1, List.length_cons]
    congr 2
    omega
theorem relaidW (t : SetTable) {hs : Array Int} {wanted M : Nat} (hw : SetTable.sizeAbove wanted - 1 = M) (hM : MaskW M) (hn : hs.size ≤ M) :
    ∃ t' order, t.relaid hs wanted = some (t', order) ∧ order.toList.Perm (List.range hs.size) ∧ TabW t' (order.toList.map fun i => hs.getD i 0) ∧ t'.mask = M ∧ t'.led = t.led ∧ t'.plain = t.plain ∧ t'.dummies = #[] := by
  obtain ⟨owner, f, W⟩ := hM.lay hs.toList [] _ (Own.init M) (by simpa using hn)
  rw [List.nil_append] at W
  have e : t.relaid hs wanted = some (tabOf t M owner, ((liveOf M owner).map (·.2)).toArray) := by
    have f' : hs.toList.foldl (stepF M) (some (Array.replicate (M + 1) none, 0)) = some (owner, ([] : List Int).length + hs.toList.length) := f
    rw [relaid_eq, hw, layClean_eq, f']
    rfl
  obtain ⟨r1, r2⟩ : Ris ((liveOf M owner).map (·.1)) ∧ ∀ x ∈ (liveOf M owner).map (·.1), x ∈ List.range (M + 1) := ris_live (fun j => owner.getD j none) (List.range (M + 1)) (by
    unfold Ris
    first | exact List.pairwise_lt_range | exact List.pairwise_lt_range _)
  have live : ∀ {j k : Nat}, (j, k) ∈ liveOf M owner ↔ j ≤ M ∧ oAt owner j = some k := fun {j k} => mem_live W.sz
  -- as many live slots as hashes
  have many : (liveOf M owner).length = hs.size := by
    obtain ⟨ps, p1, p2⟩ := W.ps
    have nd : ((liveOf M owner).map (·.1)).Nodup := List.Pairwise.imp (fun h => Nat.ne_of_lt h) r1
    have le1 := nat_nodup_len ((liveOf M owner).map (·.1)) ps nd fun x hx => by
      obtain ⟨⟨y, k⟩, hq, rfl⟩ := List.mem_map.mp hx
      exact p2 y (live.mp hq).1 (by rw [(live.mp hq).2]; simp)
    have le2 := nat_nodup_len (List.range hs.size) ((liveOf M owner).map (·.2)) List.nodup_range fun k hk => by
      obtain ⟨j, b⟩ := W.all k (by rw [Array.length_toList]; exact List.mem_range.mp hk)
      exact List.mem_map.mpr ⟨(j, k), live.mpr b, rfl⟩
    rw [List.length_map, p1, Array.length_toList] at le1
    rw [List.length_map, List.length_range] at le2
    exact Nat.le_antisymm le1 le2
  refine ⟨_, _, e, perm_range _ _ (by simpa using many) fun k hk => ?_, ⟨r1, rfl, by simp [tabOf], hM, fun x hx => Nat.le_of_lt_succ (List.mem_range.mp (r2 x hx)), fun i h j h1 h2 => ?_⟩, rfl, rfl, rfl, rfl⟩
  · obtain ⟨j, b⟩ := W.all k (by rw [Array.length_toList]; exact hk)
    exact List.mem_map.mpr ⟨(j, k), live.mpr b, rfl⟩
  · have h2' : ((liveOf M owner).map (·.1))[i]? = some j := h2
    have h1' : (((liveOf M owner).map (·.2)).map fun i => hs.getD i 0)[i]? = some h := h1
    rw [List.getElem?_map] at h2'
    obtain ⟨⟨y, k⟩, hq, rfl⟩ := Option.map_eq_some_iff.mp h2'
    rw [List.getElem?_map, List.getElem?_map, hq] at h1'
    have eh : hs.getD k 0 = h := Option.some.inj h1'
    obtain ⟨b1, b2⟩ := live.mp (List.mem_of_getElem? hq)
    obtain ⟨g, K, c1, c2, c3⟩ := W.at_ y k b1 b2
    have eg : hs.getD k 0 = g := by
      rw [Array.getD_eq_getD_getElem?, ← Array.getElem?_toList, c1]
      rfl
    have : g = h := eg.symm.trans eh
    subst this
    refine ⟨K, c2, fun k' q => ?_⟩
    show way M g k' ∈ (liveOf M owner).map (·.1)
    cases z : oAt owner (way M g k') with
    | none => exact absurd z (c3 k' q)
    | some k2 => exact List.mem_map.mpr ⟨(_, k2), live.mpr ⟨way_in M g k', z⟩, rfl⟩
theorem size_308 : SetTable.sizeAbove (SetTable.grown 77) = 512 := by decide +kernel
end NSet

/-! sets of nested keys: the table -/
namespace NSet
open PySem PySem.Spec PySem.W PyProof.Rows L2
/-- an entry as the table holds it -/
def ent (w : World) (p : Addr × NestedKey) : Int × Value := (p.2.hash w, Value.ref p.1)
abbrev hsh (w : World) (L : List (Addr × NestedKey)) : List Int := L.map fun p => p.2.hash w
/-- the set at a of the nested keys L -/
structure SetN (w : World) (h : Heap) (a : Addr) (L : List (Addr × NestedKey)) (es : Array (Int × Value)) (ep : Nat) (t : SetTable) : Prop where
  obj : ∃ o, h.get? a = some o ∧ o.ExactSet ∧ o.data = .set es ep t
  rows : es.toList = L.map (ent w)
  tab : TabW t (hsh w L)
  nd : (L.map (·.2)).Nodup
  key : ∀ p ∈ L, Nst h p.2 p.1
  led : w.params.followText "set-order" = true ∨ t.led = true
  room : L.length * 5 < t.mask * 3
  few : L.length < 300
section
variable {P : Program} {w : World} {A : Around} {E : Value → Shared → Prop} {s : Shared} {a : Addr} {L : List (Addr × NestedKey)} {es : Array (Int × Value)} {ep : Nat} {t : SetTable}
theorem SetN.size (R : SetN w s.heap a L es ep t) : es.size = L.length := by
  rw [← Array.length_toList, R.rows, List.length_map]
theorem SetN.fits (R : SetN w s.heap a L es ep t) : t.fits es.size = true := by
  have h1 := R.tab.sz
  rw [List.length_map] at h1
  have h2 := R.size
  have h3 := R.room
  unfold SetTable.fits SetTable.fill
  rw [R.tab.dm, Bool.and_eq_true, beq_iff_eq, decide_eq_true_eq]
  exact ⟨by omega, by show t.place.size + 0 ≤ t.mask; omega⟩
theorem SetN.ent (R : SetN w s.heap a L es ep t) {i : Nat} {p : Addr × NestedKey} (h : L[i]? = some p) : es[i]? = some (p.2.hash w, Value.ref p.1) := by
  rw [← Array.getElem?_toList, R.rows, List.getElem?_map, h]
  rfl
theorem SetN.gw (R : SetN w s.heap a L es ep t) : ¬ t.gaveWay = true := by
  unfold SetTable.gaveWay
  rw [R.tab.mok.odd]
  decide
/-- the walk of the hash h in the table t: its c-th probe -/
abbrev prb (t : SetTable) (h : Int) (c : Nat) : SetTable.Probe := nth t.mask (runAt t.mask (SetTable.bits h % (t.mask + 1)) (SetTable.bits h)) c
theorem prb_add (t : SetTable) (h : Int) (c q : Nat) : nth t.mask (prb t h c) q = prb t h (c + q) := (nth_add t.mask c _ q).symm
theorem prb_dummy (t : SetTable) (h : Int) (c : Nat) : (prb t h c).dummy = none := by
  have all : ∀ (n : Nat) (p : SetTable.Probe), p.dummy = none → (nth t.mask p n).dummy = none := by
    intro n
    induction n with
    | zero => intro p e; exact e
    | succ n ih =>
      intro p e
      refine ih (adv t.mask p) ?_
      unfold adv
      split <;> exact e
  exact all c _ rfl
theorem find_on (R : SetN w s.heap a L es ep t) {x : Addr} {k : NestedKey} (hx : Nst s.heap k x) (hu : A.units + 8 < cLine) {N : Nat} (hN : N < 10 * SetTable.turns t.mask)
    (free : way t.mask (k.hash w) N ∉ t.place.toList) (taken : ∀ c, c < N → way t.mask (k.hash w) c ∈ t.place.toList) {Q : SetFound → Shared → Prop}
    (yes : k ∈ L.map (·.2) → Q (.there none) s) (no : k ∉ L.map (·.2) → Q (.free (way t.mask (k.hash w) N) false) s) :
    ∀ (f c : Nat) (st : Option SetTable.Probe), st.getD (t.probeStart (k.hash w)) = prb t (k.hash w) c → c ≤ N → N - c < f →
      (∀ (i : Nat) p, L[i]? = some p → p.2 = k → ∃ d, c ≤ d ∧ d < N ∧ t.place.toList[i]? = some (way t.mask (k.hash w) d)) →
      wpAny (model P w) A (setSearchFrom a (.ref x) (k.hash w) true f st) Q E s
  | 0, _, _, _, _, hf, _ => absurd hf (Nat.not_lt_zero _)
  | f + 1, c, st, hst, hc, hf, ahead => by
    obtain ⟨o, ho, hex, hd⟩ := R.obj
    rw [setSearchFrom_succ]
    refine wpAny_bind (wpAny_setState_of ho hd R.fits ?_)
    dsimp only
    refine wp_if_neg R.gw ?_
    try refine wpAny_bind (wpAny_pure ?_)
    have at_ : ∀ q, (nth t.mask (prb t (k.hash w) c) q).j = way t.mask (k.hash w) (c + q) := fun q => congrArg SetTable.Probe.j (prb_add t (k.hash w) c q)
    have hash_at : ∀ (i : Nat) p, L[i]? = some p → (fun i => (es[i]?.map (·.1)).getD 0) i = p.2.hash w := fun i p hp => by
      show (es[i]?.map (·.1)).getD 0 = _
      rw [R.ent hp]
      rfl
    have how := go_spec t R.tab.ris R.tab.dm (fun i => (es[i]?.map (·.1)).getD 0) (k.hash w) (10 * SetTable.turns t.mask) (N - c) (prb t (k.hash w) c) (prb_dummy t _ c) (by omega)
      (fun q hq => by rw [at_]; exact taken (c + q) (by omega)) (by rw [at_, show c + (N - c) = N by omega]; exact free)
    rcases how with ⟨q, i, hq, hi, hh, hno, hpr⟩ | ⟨hno, hpr⟩
    · have hp1 : t.probe (fun i => (es[i]?.map (·.1)).getD 0) (k.hash w) (st.getD (t.probeStart (k.hash w))) = some (.candidate (way t.mask (k.hash w) (c + q)) i (prb t (k.hash w) (c + (q + 1)))) := by
        rw [hst, ← at_, ← prb_add]
        exact hpr
      rw [hp1]
      dsimp only
      rw [at_] at hi
      have hil : i < L.length := by
        have h1 : i < t.place.toList.length := (List.getElem?_eq_some_iff.mp hi).1
        have h2 := R.tab.sz
        rw [List.length_map] at h2
        rw [Array.length_toList] at h1
        omega
      obtain ⟨p, hp⟩ : ∃ p, L[i]? = some p := ⟨L[i], List.getElem?_eq_getElem hil⟩
      have pL : p ∈ L := List.mem_of_getElem? hp
      have pk := R.key p pL
      have after : wpAny (model P w) A (searchRest a (.ref x) (k.hash w) true f es t (way t.mask (k.hash w) (c + q)) i (prb t (k.hash w) (c + (q + 1)))) Q E s := by
        unfold searchRest
        rw [R.ent hp]
        dsimp only
        refine wpAny_bind (wpAny_holding ((nestedKind P w).eqBool (x := p.2) (y := k) hu pk hx ?_))
        refine wpAny_bind (wpAny_setState_of ho hd R.fits ?_)
        dsimp only
        by_cases same : p.2 = k
        · exact wp_if_pos (by simp [same]) (wpAny_pure (yes (List.mem_map.mpr ⟨p, pL, same⟩)))
        · refine wp_if_neg (by simp [same]) ?_
          try refine wpAny_bind (wpAny_pure ?_)
          rw [sameMem]
          dsimp only
          have live : t.slot (way t.mask (k.hash w) (c + q)) = .live i := slot_live R.tab.ris hi
          simp only [if_true, live, R.ent hp]
          refine wpAny_bind (wpAny_isSame_ref_self (wpAny_bind (wpAny_pure ?_)))
          simp only [if_true]
          refine wp_if_neg (by simp [same]) ?_
          refine find_on R hx hu hN free taken yes no f (c + (q + 1)) _ rfl (by omega) (by omega) fun i0 p0 h0 k0 => ?_
          obtain ⟨d, a1, a2, a3⟩ := ahead i0 p0 h0 k0
          refine ⟨d, ?_, a2, a3⟩
          by_cases z : d < c + q
          · exfalso
            refine hno (d - c) i0 (by omega) (by rw [at_, show c + (d - c) = d by omega]; exact a3) ?_
            exact (hash_at i0 p0 h0).trans (congrArg (NestedKey.hash w) k0)
          · by_cases y : d = c + q
            · exfalso
              rw [y] at a3
              have s0 := slot_live R.tab.ris a3
              rw [live] at s0
              injection s0 with s0
              rw [← s0, hp] at h0
              exact same ((congrArg Prod.snd (Option.some.inj h0)).trans k0)
            · omega
      by_cases hl : t.led = true
      · refine wp_if_neg (by simp [hl]) ?_
        try refine wpAny_bind (wpAny_pure ?_)
        exact after
      · refine wp_if_pos (by simp [hl]) (wpAny_bind (unseen hx (fun y hy => ?_) ?_))
        · obtain ⟨e, he, ee⟩ := List.mem_map.mp hy
          have he1 : e ∈ es ∧ e.1 = k.hash w := by simpa using he
          have he2 : e ∈ es.toList := by simpa using he1.1
          rw [R.rows] at he2
          obtain ⟨p2, hp2, e2⟩ := List.mem_map.mp he2
          exact ⟨p2.2, p2.1, by rw [← ee, ← e2]; rfl, R.key p2 hp2⟩
        · refine wp_if_neg (by decide) ?_
          try refine wpAny_bind (wpAny_pure ?_)
          exact after
    · have hp1 : t.probe (fun i => (es[i]?.map (·.1)).getD 0) (k.hash w) (st.getD (t.probeStart (k.hash w))) = some (.empty (way t.mask (k.hash w) N) none) := by
        have e2 : way t.mask (k.hash w) N = (nth t.mask (prb t (k.hash w) c) (N - c)).j := by rw [at_, show c + (N - c) = N by omega]
        rw [hst, e2]
        exact hpr
      rw [hp1]
      dsimp only
      refine wpAny_pure (no fun hm => ?_)
      obtain ⟨p0, h0, k0⟩ := List.mem_map.mp hm
      obtain ⟨i0, hi0⟩ := List.getElem?_of_mem h0
      obtain ⟨d, a1, a2, a3⟩ := ahead i0 p0 hi0 k0
      refine hno (d - c) i0 (by omega) (by rw [at_, show c + (d - c) = d by omega]; exact a3) ?_
      exact (hash_at i0 p0 hi0).trans (congrArg (NestedKey.hash w) k0)
/-- the search of adding -/
theorem find_key (R : SetN w s.heap a L es ep t) {x : Addr} {k : NestedKey} (hx : Nst s.heap k x) (hu : A.units + 8 < cLine) {Q : SetFound → Shared → Prop}
    (yes : k ∈ L.map (·.2) → Q (.there none) s)
    (no : ∀ N, k ∉ L.map (·.2) → way t.mask (k.hash w) N ∉ t.place.toList → (∀ c, c < N → way t.mask (k.hash w) c ∈ t.place.toList) → Q (.free (way t.mask (k.hash w) N) false) s) :
    wpAny (model P w) A (setSearch a (.ref x) (k.hash w) true) Q E s := by
  have hroom := R.room
  obtain ⟨N, h1, h2, h3⟩ := R.tab.first (by rw [List.length_map]; omega) (k.hash w)
  have big : N < 100000 := by
    have : 10 * SetTable.turns t.mask ≤ 5260 := by
      unfold SetTable.turns
      rcases R.tab.mok.cases with e | e | e | e <;> omega
    omega
  unfold setSearch
  refine find_on R hx hu h1 h2 h3 yes (fun hn => no N hn h2 h3) 100000 0 none rfl (Nat.zero_le _) (by omega) fun i p hp hk => ?_
  have hi : (hsh w L)[i]? = some (k.hash w) := by
    rw [List.getElem?_map, hp, ← hk]
    rfl
  have hil : i < t.place.toList.length := by
    have h1 : i < L.length := (List.getElem?_eq_some_iff.mp hp).1
    have h2 := R.tab.sz
    rw [List.length_map] at h2
    rw [Array.length_toList]
    omega
  have hj := List.getElem?_eq_getElem hil
  obtain ⟨c, hc, e⟩ := R.tab.before h2 hi hj
  exact ⟨c, Nat.zero_le _, hc, by rw [hj, e]⟩
end
/-! ### laid anew -/
section
variable {P : Program} {w : World} {A : Around} {E : Value → Shared → Prop} {s : Shared}
theorem Nst.but {h h' : Heap} {k : NestedKey} {a b : Addr} {o : Obj} {es : Array (Int × Value)} {ep : Nat} {t : SetTable} (hb : Nst h k b) (ho : h.get? a = some o) (hd : o.data = .set es ep t) (hs : Heap.SameBut a h h') : Nst h' k b := by
  refine ⟨NestedIs.at (fun c oc vs n hc hcd => (hs.2 c ?_).trans hc) _ _ hb.1, hb.2⟩
  rintro rfl
  rw [ho] at hc
  cases hc
  rw [hd] at hcd
  cases hcd
theorem Nst.keep {h h' : Heap} {k : NestedKey} {b : Addr} (hb : Nst h k b) (kp : ∀ c o, h.get? c = some o → h'.get? c = some o) : Nst h' k b := ⟨NestedIs.at (fun c oc vs n hc _ => kp c oc hc) _ _ hb.1, hb.2⟩
/-- the entries in another order -/
theorem reorder {α β : Type} (f : α → β) (L : List α) (es : Array β) (order : Array Nat) (hr : es.toList = L.map f) (hp : order.toList.Perm (List.range L.length)) :
    ∃ M : List α, (order.filterMap (es[·]?)).toList = M.map f ∧ M.Perm L ∧ M.map f = order.toList.filterMap fun i => (L.map f)[i]? := by
  refine ⟨order.toList.filterMap fun i => L[i]?, ?_, ?_, ?_⟩
  · have e : (order.filterMap (es[·]?)).toList = order.toList.filterMap (fun i => es[i]?) := by simp
    rw [e, List.map_filterMap]
    congr 1
    funext i
    rw [← Array.getElem?_toList, hr, List.getElem?_map]
  · have e : (List.range L.length).filterMap (fun i => L[i]?) = L := by
      have all : ∀ n, n ≤ L.length → (List.range n).filterMap (fun i => L[i]?) = L.take n := by
        intro n
        induction n with
        | zero => intro _; rfl
        | succ n ih =>
          intro hn
          rw [List.range_succ, List.filterMap_append, ih (by omega), List.take_add_one, List.getElem?_eq_getElem hn]
          simp [List.getElem?_eq_getElem hn]
      rw [all _ (Nat.le_refl _), List.take_length]
    have z := hp.filterMap fun i => L[i]?
    rw [e] at z
    exact z
  · rw [List.map_filterMap]
    congr 1
    funext i
    rw [List.getElem?_map]
variable {a : Addr} {L : List (Addr × NestedKey)} {es : Array (Int × Value)} {ep : Nat} {t : SetTable}
theorem hash_order (L : List (Addr × NestedKey)) (es : Array (Int × Value)) (order : List Nat) (hr : es.toList = L.map (ent w)) (hp : ∀ i ∈ order, i < L.length) {M : List (Addr × NestedKey)} (hM : M.map (ent w) = order.filterMap fun i => (L.map (ent w))[i]?) :
    hsh w M = order.map fun i => (es.map (·.1)).getD i 0 := by
  have e1 : hsh w M = (M.map (ent w)).map (·.1) := by
    rw [List.map_map]
    rfl
  rw [e1, hM]
  clear hM e1
  induction order with
  | nil => rfl
  | cons i l ih =>
    have hi := hp i List.mem_cons_self
    have q : (L.map (ent w))[i]? = some (ent w L[i]) := by rw [List.getElem?_map, List.getElem?_eq_getElem hi]; rfl
    have q2 : es[i]? = some (ent w L[i]) := by rw [← Array.getElem?_toList, hr, q]
    rw [List.filterMap_cons_some q, List.map_cons, List.map_cons, ih fun j hj => hp j (List.mem_cons_of_mem _ hj)]
    have q3 : (es.map (·.1)).getD i 0 = (ent w L[i]).1 := by
      rw [Array.getD_eq_getD_getElem?, Array.getElem?_map, q2]
      rfl
    rw [q3]
theorem grow_to {o : Obj} (ho : s.heap.get? a = some o) (hex : o.ExactSet) (hd : o.data = .set es ep t) (rows : es.toList = L.map (ent w)) (sz : t.place.size = es.size) (dm : t.dummies = #[]) (fl : es.size ≤ t.mask)
    (nd : (L.map (·.2)).Nodup) (key : ∀ p ∈ L, Nst s.heap p.2 p.1) (ld : w.params.followText "set-order" = true ∨ t.led = true) (few : L.length < 300) {wanted M : Nat}
    (hw : SetTable.sizeAbove wanted - 1 = M) (hM : MaskW M) (hw2 : SetTable.sizeAbove wanted ≤ 512) (hn : L.length * 5 < M * 3) {Q : Unit → Shared → Prop}
    (q : ∀ h' L' es' ep' t', Heap.SameBut a s.heap h' → SetN w h' a L' es' ep' t' → L'.Perm L → Q () { s with heap := h' }) : wpAny (model P w) A (setRelay a wanted) Q E s := by
  have sl : es.size = L.length := by rw [← Array.length_toList, rows, List.length_map]
  have fits : t.fits es.size = true := by
    unfold SetTable.fits SetTable.fill
    rw [dm, Bool.and_eq_true, beq_iff_eq, decide_eq_true_eq]
    exact ⟨sz, by show t.place.size + 0 ≤ t.mask; omega⟩
  obtain ⟨t2, order, e, hp, T, em, el, _, ed⟩ := relaidW t (hs := es.map (·.1)) (wanted := wanted) hw hM (by rw [Array.size_map, sl]; omega)
  rw [Array.size_map, sl] at hp
  obtain ⟨L2, r1, r2, r3⟩ := reorder (ent w) L es order rows hp
  rw [← hash_order L es order.toList rows (fun i hi => List.mem_range.mp (hp.mem_iff.mp hi)) r3] at T
  have s2 : (order.filterMap (es[·]?)).size = es.size := by rw [← Array.length_toList, r1, List.length_map, r2.length_eq, sl]
  rw [setRelay_eq]
  refine wpAny_bind (wpAny_setState_of ho hd fits ?_)
  dsimp only
  refine wp_if_neg (by rw [sizeLine_eq]; omega) ?_
  try refine wpAny_bind (wpAny_pure ?_)
  rw [e]
  dsimp only
  refine wpAny_bind (wp_if_neg (by rw [s2]; simp) ?_)
  try refine wpAny_bind (wpAny_pure ?_)
  refine wpAny_pure ?_
  dsimp only
  refine wpAny_storeSet_of ho hd ?_ (by rw [s2, sl, sizeLine_eq]; omega)
  have sb : Heap.SameBut a s.heap (s.heap.update a (Obj.putSet (order.filterMap (es[·]?)) t2)) := Heap.SameBut.update ..
  refine q _ L2 (order.filterMap (es[·]?)) (ep + 1) t2 sb ⟨⟨_, store_at ho hd, ⟨hex.1, hex.2.1, hex.2.2⟩, rfl⟩, r1, T, (r2.map (·.2)).nodup_iff.mpr nd, fun p hpm => Nst.but (key p (r2.mem_iff.mp hpm)) ho hd sb, by rw [el]; exact ld, by rw [r2.length_eq, em]; exact hn, by rw [r2.length_eq]; exact few⟩ r2
/-- a nested key is put in -/
theorem put_key (R : SetN w s.heap a L es ep t) {x : Addr} {k : NestedKey} (hx : Nst s.heap k x) (hu : A.units + 8 < cLine) (few : L.length + 1 < 300) {Q : Bool → Shared → Prop}
    (q : ∀ b h' L' es' ep' t', Heap.SameBut a s.heap h' → SetN w h' a L' es' ep' t' → (k ∈ L.map (·.2) → L' = L) → (k ∉ L.map (·.2) → L'.Perm ((x, k) :: L)) → Q b { s with heap := h' }) :
    wpAny (model P w) A (setAddHashed a (.ref x) (k.hash w)) Q E s := by
  obtain ⟨o, ho, hex, hd⟩ := R.obj
  have sl := R.size
  have room := R.room
  unfold setAddHashed
  refine wpAny_holding ?_
  rw [show (100000 : Nat) = 99999 + 1 from rfl, setAddHashedIn_succ]
  refine wpAny_bind (wpAny_setState_of ho hd R.fits ?_)
  dsimp only
  refine wp_if_neg (by simp [byScan, Value.scannable]) ?_
  try refine wpAny_bind (wpAny_pure ?_)
  refine wpAny_bind (find_key R hx hu (fun hm => ?_) fun N hm hN hb => ?_)
  · dsimp only
    exact wpAny_pure (q false s.heap L es ep t (Heap.SameBut.refl a s.heap) R (fun _ => rfl) fun z => absurd hm z)
  dsimp only
  refine wpAny_bind (wpAny_setState_of ho hd R.fits ?_)
  dsimp only
  obtain ⟨q1, q2, q3, q4, q5, q6, q7, q8, q9⟩ := R.tab.put hN hb
  generalize hpt : t.put (way t.mask (k.hash w) N) = pt at q1 q3 q4 q5 q6 q7 q8 q9 ⊢
  obtain ⟨t0, pz⟩ := pt
  dsimp only at q1 q3 q4 q5 q6 q7 q8 q9 ⊢
  subst q1
  -- by value or not: the table is the same but for its mark
  have onward : ∀ t1 : SetTable, (∃ pl, t1 = { t0 with plain := pl }) → wpAny (model P w) A (do
      storeSet a (SetTable.insertAt es (SetTable.below t.place (way t.mask (k.hash w) N)) (k.hash w, Value.ref x)) t1
      if !false && t1.tooFull then setRelay a (SetTable.grown (es.size + 1))
      return true) Q E s := by
    rintro t1 ⟨pl, e1⟩
    have m1 : t1.mask = t.mask := by rw [e1]; exact q4
    have f1 : t1.fill = (hsh w L).length + 1 := by rw [e1]; exact q9
    have l1 : t1.led = t.led := by rw [e1]; exact q5
    have d1 : t1.dummies = #[] := by rw [e1]; exact q3.dm
    have T1 : TabW t1 ((hsh w L).take (SetTable.below t.place (way t.mask (k.hash w) N)) ++ k.hash w :: (hsh w L).drop (SetTable.below t.place (way t.mask (k.hash w) N))) := by
      rw [e1]
      exact ⟨q3.ris, q3.dm, q3.sz, q3.mok, q3.bd, q3.reach⟩
    have hin : (SetTable.insertAt es (SetTable.below t.place (way t.mask (k.hash w) N)) (k.hash w, Value.ref x)).toList = (L.take (SetTable.below t.place (way t.mask (k.hash w) N)) ++ (x, k) :: L.drop (SetTable.below t.place (way t.mask (k.hash w) N))).map (ent w) := by
      rw [SetTable.toList_insertAt, R.rows, List.map_append, List.map_cons, List.map_take, List.map_drop]
      rfl
    generalize hpp : SetTable.below t.place (way t.mask (k.hash w) N) = p at q2 T1 hin ⊢
    have pm := put_perm L p (x, k)
    have hh : hsh w (L.take p ++ (x, k) :: L.drop p) = (hsh w L).take p ++ k.hash w :: (hsh w L).drop p := by
      show List.map _ _ = _
      rw [List.map_append, List.map_cons, List.map_take, List.map_drop]
    rw [← hh] at T1
    generalize L.take p ++ (x, k) :: L.drop p = L1 at pm T1 hin hh
    have len1 : L1.length = L.length + 1 := pm.length_eq
    have nd1 : (L1.map (·.2)).Nodup := by
      refine (pm.map (·.2)).nodup_iff.mpr ?_
      rw [List.map_cons]
      exact List.nodup_cons.mpr ⟨hm, R.nd⟩
    have es1 : (SetTable.insertAt es p (k.hash w, Value.ref x)).size = L.length + 1 := by rw [← Array.length_toList, hin, List.length_map, len1]
    generalize SetTable.insertAt es p (k.hash w, Value.ref x) = en at hin es1 ⊢
    refine wpAny_bind (wpAny_storeSet_of ho hd ?_ (by rw [es1, sizeLine_eq]; omega))
    have sb : Heap.SameBut a s.heap (s.heap.update a (Obj.putSet en t1)) := Heap.SameBut.update ..
    have ho1 := store_at (es' := en) (t' := t1) ho hd
    generalize s.heap.update a (Obj.putSet en t1) = h1 at sb ho1 ⊢
    have key1 : ∀ p ∈ L1, Nst h1 p.2 p.1 := fun p hp => by
      rcases List.mem_cons.mp (pm.mem_iff.mp hp) with e | hp
      · rw [e]
        exact Nst.but hx ho hd sb
      · exact Nst.but (R.key p hp) ho hd sb
    have led1 : w.params.followText "set-order" = true ∨ t1.led = true := by rw [l1]; exact R.led
    have size1 : t1.place.size = en.size := by
      have h := T1.sz
      rw [List.length_map, len1] at h
      rw [h, es1]
    by_cases hf : t1.tooFull = true
    · have full : (L.length + 1) * 5 ≥ t.mask * 3 := by
        have h := hf
        unfold SetTable.tooFull at h
        rw [decide_eq_true_eq, f1, List.length_map, m1] at h
        exact h
      have two : (t.mask = 7 ∧ L.length = 4) ∨ (t.mask = 31 ∧ L.length = 18) ∨ (t.mask = 127 ∧ L.length = 76) := by
        rcases R.tab.mok.cases with e | e | e | e
        · left
          rw [e] at full room
          exact ⟨e, by omega⟩
        · right; left
          rw [e] at full room
          exact ⟨e, by omega⟩
        · right; right
          rw [e] at full room
          exact ⟨e, by omega⟩
        · exfalso
          rw [e] at full
          omega
      have go : ∀ M, SetTable.sizeAbove (SetTable.grown (L.length + 1)) - 1 = M → MaskW M → SetTable.sizeAbove (SetTable.grown (L.length + 1)) ≤ 512 → (L.length + 1) * 5 < M * 3 →
          wpAny (model P w) A (setRelay a (SetTable.grown (es.size + 1))) (fun _ s1 => wpAny (model P w) A (pure true) Q E s1) E { s with heap := h1 } := fun M g1 g2 g3 g4 => by
        rw [sl]
        refine grow_to (s := { s with heap := h1 }) ho1 ⟨hex.1, hex.2.1, hex.2.2⟩ rfl hin size1 d1 (by rw [es1, m1]; rcases two with ⟨e, e2⟩ | ⟨e, e2⟩ | ⟨e, e2⟩ <;> omega) nd1 key1 led1 (by rw [len1]; exact few) g1 g2 g3 (by rw [len1]; exact g4) fun h2 L2 es2 ep2 t2 sb2 R2 pm2 => ?_
        exact wpAny_pure (q true h2 L2 es2 ep2 t2 (sb.trans sb2) R2 (fun z => absurd z hm) fun _ => pm2.trans pm)
      have fin : wpAny (model P w) A (setRelay a (SetTable.grown (es.size + 1))) (fun _ s1 => wpAny (model P w) A (pure true) Q E s1) E { s with heap := h1 } := by
        rcases two with ⟨_, e2⟩ | ⟨_, e2⟩ | ⟨_, e2⟩
        · exact go 31 (by rw [e2, size_20]) (.inl (.inr (.inl rfl))) (by rw [e2, size_20]; decide) (by omega)
        · exact go 127 (by rw [e2, size_76]) (.inl (.inr (.inr rfl))) (by rw [e2, size_76]; decide) (by omega)
        · exact go 511 (by rw [e2, size_308]) (.inr rfl) (by rw [e2, size_308]; decide) (by omega)
      first
        | exact wpAny_bind (wp_if_pos (by simp [hf]) fin)
        | exact wp_if_pos (by simp [hf]) (wpAny_bind fin)
    · have fin := q true h1 L1 en (ep + 1) t1 sb ⟨⟨_, ho1, ⟨hex.1, hex.2.1, hex.2.2⟩, rfl⟩, hin, T1, nd1, key1, led1, (by
        have h := hf
        unfold SetTable.tooFull at h
        rw [decide_eq_true_eq, f1, List.length_map] at h
        rw [len1]
        omega), by rw [len1]; exact few⟩ (fun z => absurd z hm) fun _ => pm
      first
        | exact wp_if_neg (by simp [hf]) (wpAny_pure fin)
        | exact wpAny_bind (wp_if_neg (by simp [hf]) (wpAny_pure (wpAny_pure fin)))
  by_cases hpl : t0.plain = true
  · first
      | (refine wp_if_pos hpl (wpAny_bind (hashBy_val k _ 8 _ hx.1 fun b => ?_)))
      | (refine wpAny_bind (wp_if_pos hpl (hashBy_val k _ 8 _ hx.1 fun b => ?_)))
    cases b
    · exact onward _ ⟨false, rfl⟩
    · exact onward _ ⟨t0.plain, rfl⟩
  · first
      | (refine wp_if_neg hpl (wpAny_bind (wpAny_pure ?_)))
      | (refine wpAny_bind (wp_if_neg hpl (wpAny_pure ?_)))
    exact onward _ ⟨t0.plain, rfl⟩
end
end NSet

/-! sorting of tuples, of which some may be empty -/
namespace RW9
open PySem PySem.Spec PySem.W PySem.Calls PyProof.Rows PySem.SeqAt
def neT : PyData → Bool
  | .tuple (_ :: _) => true
  | _ => false
section
variable {prog : Program} {w : World} {A : Around} {s : Shared} {E : Value → Shared → Prop}
theorem oneLt_tup {xs ys : List PyData} {a b : Value} {as bs : List Addr} {Q : Bool → Shared → Prop} (ra : Reads s.heap a (.tuple xs) as) (rb : Reads s.heap b (.tuple ys) bs) (h : alike (.tuple xs) (.tuple ys) = true)
    (hu : A.units + min (PyData.tuple xs).depth (PyData.tuple ys).depth < cLine) (hq : Q (dataLt (.tuple xs) (.tuple ys)) s) : wpAny (model prog w) A (oneLt' true a b) Q E s := by
  have hal : alikeAll xs ys = true := by simpa [alike] using h
  cases ra with
  | @tuple l o vs n _ as₁ h1 h2 h3 h4 =>
    cases rb with
    | @tuple l' o' vs' n' _ bs₁ k1 k2 k3 k4 =>
      have n1 : vs.size = xs.length := by simpa using ReadsAll.length _ _ _ h4
      have n2 : vs'.size = ys.length := by simpa using ReadsAll.length _ _ _ k4
      rw [dataLt_tuple, ← firstLt_toks xs ys hal, ← n1, ← n2] at hq
      rw [oneLt'_eq]
      simp only [if_true]
      refine wpAny_bind (wpAny_cRoomFor (room_here hu) ?_)
      have he : ∀ j (j1 : j < vs.size) (j2 : j < vs'.size), EqAt A.in1 s vs[j] vs'[j] (pairEq xs ys j) := fun j j1 j2 => by
        have := eqAt_alikeAll xs ys A.in1 s vs.toList vs'.toList _ _ h4 k4 hal (room_in hu) j (by simpa using j1) (by simpa using j2)
        simpa using this
      have hr : ∀ j (j1 : j < vs.size) (j2 : j < vs'.size), pairEq xs ys j = false → RcLt A.in1 s vs[j] vs'[j] (dataLt (xs.getD j .none) (ys.getD j .none)) := fun j j1 j2 hj => by
        have := rcLt_alikeAll xs ys A.in1 s vs.toList vs'.toList _ _ h4 k4 hal (room_in hu) j (by simpa using j1) (by simpa using j2) hj
        simpa using this
      obtain ⟨cls, dd, data, sl⟩ := o
      obtain ⟨cls2, dd2, data2, sl2⟩ := o'
      simp only at h2 h3 k2 k3
      subst h2 h3 k2 k3
      refine wpAny_bind (wpAny_callSpecialIfBound?_slot (T := "tuple") ⟨_, h1, rfl⟩ PySem.F.slot_tuple_lt (call_meets PySem.F.slot_tuple_lt ⟨_, h1, rfl⟩ PySem.F.entry_tuple_lt (PySem.F.args_tuple_lt_2 _ _) (tuple_ltAt l l' vs vs' n n' dd dd2 sl sl2 (pairEq xs ys) fun j => dataLt (xs.getD j .none) (ys.getD j .none)) ⟨h1, k1, he, hr, ?_⟩))
      exact wpAny_truthy_bool hq
theorem firstsE {M : Model} : ∀ {vs : List Value} {ds : List PyData}, EachIs (fun v d => ∃ as, Reads s.heap v d as) vs ds → (∀ d ∈ ds, ∃ r, d = .tuple r) → ∃ os : List (Option Value), os.map (·.isSome) = ds.map neT ∧ ∀ Q : List (Option Value) → Shared → Prop, Q os s → wpAny M A (vs.mapM firstOfTuple') Q E s
  | _, _, .nil, _ => ⟨[], rfl, fun Q h => by rw [List.mapM_nil]; exact wpAny_pure h⟩
  | _, _, .cons (a := v) (b := d) ⟨as, r⟩ t, ht => by
    obtain ⟨os, h1, h2⟩ := firstsE t fun d hd => ht d (List.mem_cons_of_mem _ hd)
    obtain ⟨rs, rfl⟩ := ht d List.mem_cons_self
    cases r with
    | @tuple a o xs n _ _ ho hc hd hr =>
      refine ⟨xs[0]? :: os, ?_, fun Q hq => ?_⟩
      · rw [List.map_cons, List.map_cons, h1]
        congr 1
        have n1 : xs.size = rs.length := by simpa using SeqAt.ReadsAll.length _ _ _ hr
        cases rs with
        | nil =>
          rw [Array.getElem?_eq_none (by rw [n1]; exact Nat.le_refl _)]
          rfl
        | cons x r =>
          rw [Array.getElem?_eq_getElem (by rw [n1]; exact Nat.succ_pos _)]
          rfl
      · rw [List.mapM_cons]
        refine wpAny_bind ?_
        rw [kas_first_eq]
        refine wpAny_bind (Looks.here (show Looks M s.heap (typeOf (.ref a)) o.cls from (Looks.ld ho).andThen .now) ?_)
        rw [hc, if_neg (by first | decide | simp)]
        refine wpAny_bind (listItems_at ho hd (wpAny_pure ?_))
        exact wpAny_bind (h2 (fun bs s' => wpAny M A (pure (xs[0]? :: bs)) Q E s') (wpAny_pure hq))
def kindE (ds : List PyData) : SortKind := if (ds.map neT).head? = some true then general' else oneType'
theorem kind_ofE {M : Model} {vs : List Value} {ds : List PyData} {Q : SortKind → Shared → Prop} (h2 : 2 ≤ vs.length) (e : EachIs (fun v d => ∃ as, Reads s.heap v d as) vs ds) (ht : ∀ d ∈ ds, ∃ r, d = .tuple r) (hne : (ds.map neT).all id = false) (hq : Q (kindE ds) s) :
    wpAny M A (keyKind' vs.toArray) Q E s := by
  obtain ⟨os, e1, hos⟩ := firstsE (M := M) (A := A) (E := E) e ht
  rw [keyKind'_eq, List.mapM_toArray, map_eq_pure_bind]
  refine wpAny_bind (wpAny_bind (hos _ (wpAny_pure ?_)))
  have hall : (os.toArray.all fun x => x.isSome) = false := by
    rw [List.all_toArray, ← hne, ← e1, List.all_map]
    rfl
  rw [if_neg (by rw [hall]; exact Bool.false_ne_true)]
  have hh : (os.toArray[0]?.bind id).isSome = decide ((ds.map neT).head? = some true) := by
    rw [← e1]
    cases os with
    | nil => rfl
    | cons o os => cases o <;> simp
  unfold kindE at hq
  by_cases c : (ds.map neT).head? = some true
  · rw [if_pos c] at hq
    rw [if_pos (by rw [hh]; exact decide_eq_true c)]
    exact wpAny_pure hq
  · rw [if_neg c] at hq
    rw [if_neg (by rw [hh, decide_eq_false c]; exact Bool.false_ne_true)]
    obtain ⟨v₁, v₂, rest, rfl⟩ : ∃ v₁ v₂ rest, vs = v₁ :: v₂ :: rest := by
      match vs, h2 with
      | [], h2 => simp at h2
      | [_], h2 => simp at h2
      | v₁ :: v₂ :: rest, _ => exact ⟨v₁, v₂, rest, rfl⟩
    have hT : ∀ v ∈ v₁ :: v₂ :: rest, Looks M s.heap (typeOf v) (.type "tuple") := fun v hv => by
      obtain ⟨d, hd, as, r⟩ := e.left v hv
      obtain ⟨rs, rfl⟩ := ht d hd
      exact looks_reads r
    rw [oneTypeOnly'_eq, List.mapM_toArray, map_eq_pure_bind]
    refine wpAny_bind (wpAny_bind (wpAny_bind (kas_mapM (r := Value.type "tuple") _ (fun v hv Q' hq => (hT v hv).here hq) (wpAny_pure ?_))))
    have hall : ((List.map (fun _ => Value.type "tuple") (v₁ :: v₂ :: rest)).toArray.all fun x => x == Value.type "tuple") = true := by
      simp only [List.all_toArray, List.all_map, List.all_eq_true]
      intro _ _
      exact beq_self_eq_true _
    have h0 : (List.map (fun _ => Value.type "tuple") (v₁ :: v₂ :: rest)).toArray[0]? = some (Value.type "tuple") := by simp
    rw [h0]
    simp only [hall, if_true]
    exact wpAny_pure (wpAny_pure hq)
/-- tuples that read as alike data -/
theorem sortableE {a : Addr} {vs : List Value} {enc : Value → PyData} (h2 : 2 ≤ vs.length)
    (er : ∀ h' : Heap, (∀ b o, b ≠ a → s.heap.get? b = some o → h'.get? b = some o) → ∀ v ∈ vs, ∃ as, Reads h' v (enc v) as)
    (hal : ∀ v ∈ vs, ∀ u ∈ vs, alike (enc v) (enc u) = true) (ht : ∀ v ∈ vs, ∃ r, enc v = .tuple r) (hu : ∀ v ∈ vs, A.units + (enc v).depth < cLine) :
    SrtO.SortableO prog w A s a vs fun v u => dataLt (enc v) (enc u) := by
  cases hne : ((vs.map enc).map neT).all id with
  | true =>
    refine sortable h2 er hal (fun v hv => ?_) hu
    obtain ⟨r, e⟩ := ht v hv
    have := List.all_eq_true.mp hne (neT (enc v)) (List.mem_map.mpr ⟨_, List.mem_map.mpr ⟨v, hv, rfl⟩, rfl⟩)
    rw [e] at this ⊢
    cases r with
    | nil => exact absurd this (by simp [neT])
    | cons x r => exact ⟨x, r, rfl⟩
  | false =>
    intro h' keep
    have hds : ∀ d ∈ vs.map enc, ∃ r, d = .tuple r := fun d hd => by
      obtain ⟨v, hv, rfl⟩ := List.mem_map.mp hd
      exact ht v hv
    refine ⟨kindE (vs.map enc), fun Q E hq => kind_ofE (s := { s with heap := h' }) h2 (eachIs_self (R := fun v d => ∃ as, Reads h' v d as) (er h' keep)) hds hne hq, ?_⟩
    intro p q hp hq
    obtain ⟨as, ra⟩ := er h' keep p.1 hp
    obtain ⟨bs, rb⟩ := er h' keep q.1 hq
    obtain ⟨xs, ex⟩ := ht p.1 hp
    obtain ⟨ys, ey⟩ := ht q.1 hq
    have al := hal p.1 hp q.1 hq
    have hr : A.units + min (enc p.1).depth (enc q.1).depth < cLine := Nat.lt_of_le_of_lt (Nat.add_le_add_left (Nat.min_le_left _ _) _) (hu p.1 hp)
    show wpAny _ _ (keyLt' (kindE (vs.map enc)) p.1 q.1) _ _ _
    unfold kindE
    by_cases c : ((vs.map enc).map neT).head? = some true
    · rw [if_pos c]
      refine oneLt_alike (s := { s with heap := h' }) (f := false) (fun z => absurd z Bool.false_ne_true) ra rb al (by rw [ex]; exact fun z => nomatch z) hr ?_
      exact ⟨rfl, rfl⟩
    · rw [if_neg c, keyLt'_oneType]
      refine oneLt_tup (s := { s with heap := h' }) (ex ▸ ra) (ey ▸ rb) (by rw [← ex, ← ey]; exact al) (by rw [← ex, ← ey]; exact hr) ?_
      rw [← ex, ← ey]
      exact ⟨rfl, rfl⟩
end
end RW9

namespace L2
open PySem PySem.Spec PyProof.Rows
section
variable {J : It} {n : Nat} {G : Hp → Prop} {Y : Nat → Hp → V → Hp → Prop} {K : PySem.W.Frag}
/-- two clauses, the inner one over a thing of the turn; immutable data told ahead -/
theorem lc2_datV (w : Walk J n G Y) {wi1 : TI} {g g1 : TG} {te : TE} {vs vs1 : List Nat} {σ : L2.St} {H1 : Hp} {D : Addr} {Qd : Hp → Prop} (hD : H1 D = none)
    (hG : ∀ H, Same H1 H → G H) (ds : Nat → List PyData) (hn : ((List.range n).map ds).flatten.length ≤ 100000) (him : ∀ i, i < n → immAll (ds i) = true)
    (step : ∀ i x H H' (Q : L2.St → Hp → Prop), i < n → Same H1 H → Y i H x H' →
      (∀ σ2 H2, Same H H2 → wipe σ2 vs = wipe σ vs → (∃ (J1 : It) (G1 : Hp → Prop) (Y1 : Nat → Hp → V → Hp → Prop), Walk J1 (ds i).length G1 Y1 ∧ (∀ H, Same H2 H ∨ (Same H1 H ∧ ST K H2 H) → G1 H) ∧ (∀ H3 R, Same H2 H3 → R J1 H3 → wi1 σ2 H3 R) ∧
        (∀ j y H3 H3' (Q' : VK), j < (ds i).length → Same H1 H3 → ST K H2 H3 → Y1 j H3 y H3' → (∀ z H4 d, Same H3 H4 → (ds i)[j]? = some d → Da K H4 z d → Q' z H4) → g1 y (wipe σ2 vs1) H3' fun σ3 H5 => wipe σ3 vs1 = wipe σ2 vs1 ∧ te σ3 H5 Q')) → Q σ2 H2) → g x (wipe σ vs) H' Q)
    (hd : ∀ H acc, Same H1 H → H D = some (.lst acc) → DaAll K H acc ((List.range n).map ds).flatten → Qd H) :
    ∃ W : Nat → Nat → Hp → Prop, (∃ m, W 0 m (upd H1 D (.lst []))) ∧ ∀ i m H, W i m H →
      (J.stop i H ∧ Qd H) ∨ (J.go i H ∧ ∃ Nx : Hp → Prop, (∀ H', Nx H' → ∃ m', m' < m ∧ W (i + 1) m' H') ∧ ∀ x H', J.yld i H x H' → g x (wipe σ vs) H' fun σ2 H2 => wipe σ2 vs = wipe σ vs ∧ tYes σ2 H2 fun b H3 =>
        if b = true then wi1 σ2 H3 fun J1 H4 => ∃ W1 : Nat → Nat → Hp → Prop, (∃ m, W1 0 m H4) ∧ ∀ j k H, W1 j k H →
          (J1.stop j H ∧ Nx H) ∨ (J1.go j H ∧ ∃ Nx1 : Hp → Prop, (∀ H', Nx1 H' → ∃ k', k' < k ∧ W1 (j + 1) k' H') ∧ ∀ x H', J1.yld j H x H' → g1 x (wipe σ2 vs1) H' fun σ3 H5 => wipe σ3 vs1 = wipe σ2 vs1 ∧ tYes σ3 H5 fun b H6 =>
            if b = true then te σ3 H6 fun y H7 => ∃ acc, H7 D = some (.lst acc) ∧ acc.length < sizeLine ∧ Nx1 (upd H7 D (.lst (acc ++ [y]))) else Nx1 H6)
        else Nx H3) := by
  have fsnoc : ∀ i, ((List.range (i + 1)).map ds).flatten = ((List.range i).map ds).flatten ++ ds i := by
    intro i
    rw [List.range_succ, List.map_append, List.flatten_append]
    simp
  have fimm : ∀ i, i ≤ n → immAll ((List.range i).map ds).flatten = true := by
    intro i
    induction i with
    | zero => intro _; rfl
    | succ i ih =>
      intro h
      rw [fsnoc]
      exact immAll_append (ih (by omega)) (him i (by omega))
  have fle : ∀ k i, i + k = n → ((List.range i).map ds).flatten.length ≤ ((List.range n).map ds).flatten.length := by
    intro k
    induction k with
    | zero => intro i e; rw [show i = n by omega]; exact Nat.le_refl _
    | succ k ih =>
      intro i e
      have := ih (i + 1) (by omega)
      rw [fsnoc i, List.length_append] at this
      omega
  refine ⟨fun i m H => m = n - i ∧ i ≤ n ∧ Same H1 H ∧ ∃ acc, H D = some (.lst acc) ∧ DaAll K H acc ((List.range i).map ds).flatten, ⟨n, by simp, Nat.zero_le _, same_upd hD, [], upd_same, .nil⟩, ?_⟩
  rintro i m H ⟨rfl, hi, p1, acc, p2, p3⟩
  by_cases hlt : i < n
  · refine .inr ⟨w.goes i H hlt (hG H p1), fun H' => Same H1 H' ∧ ∃ acc, H' D = some (.lst acc) ∧ DaAll K H' acc ((List.range (i + 1)).map ds).flatten, fun H' ⟨q1, q2⟩ => ⟨n - (i + 1), by omega, rfl, hlt, q1, q2⟩, fun x H' y => ?_⟩
    refine step i x H H' _ hlt p1 (w.yields i H x H' hlt (hG H p1) y) fun σ2 H2 e2 ws ⟨J1, G1, Y1, w1, hG1, hin, el⟩ => ?_
    refine ⟨ws, ?_⟩
    show wi1 σ2 H2 _
    refine hin H2 _ (Same.refl _) ?_
    refine ⟨fun j k H => k = (ds i).length - j ∧ j ≤ (ds i).length ∧ Same H1 H ∧ ST K H2 H ∧ ∃ acc, H D = some (.lst acc) ∧ DaAll K H acc (((List.range i).map ds).flatten ++ (ds i).take j), ⟨(ds i).length, by simp, Nat.zero_le _, p1.trans e2, ST.refl _, acc, e2 _ _ p2, ?_⟩, ?_⟩
    · rw [List.take_zero, List.append_nil]
      exact Da.sameAll e2 _ _ p3
    · rintro j k H3 ⟨rfl, hj, q1, qb, acc3, q2, q3⟩
      by_cases hjl : j < (ds i).length
      · refine .inr ⟨w1.goes j H3 hjl (hG1 H3 (.inr ⟨q1, qb⟩)), fun H' => Same H1 H' ∧ ST K H2 H' ∧ ∃ acc, H' D = some (.lst acc) ∧ DaAll K H' acc (((List.range i).map ds).flatten ++ (ds i).take (j + 1)), fun H' ⟨r1, r2⟩ => ⟨(ds i).length - (j + 1), by omega, rfl, hjl, r1, r2⟩, fun x3 H3' y3 => ?_⟩
        refine el j x3 H3 H3' _ hjl q1 qb (w1.yields j H3 x3 H3' hjl (hG1 H3 (.inr ⟨q1, qb⟩)) y3) fun z H4 d e4 hd4 hz => ?_
        have e5 : H4 D = some (.lst acc3) := e4 _ _ q2
        have st : ST K H4 (upd H4 D (.lst (acc3 ++ [z]))) := st_upd e5 True.intro
        refine ⟨acc3, e5, ?_, (q1.trans e4).mut hD, (qb.trans e4.st).trans st, _, upd_same, ?_⟩
        · have l3 := q3.length
          rw [List.length_append, List.length_take] at l3
          have hle := fle (n - (i + 1)) (i + 1) (by omega)
          rw [fsnoc i, List.length_append] at hle
          refine Nat.lt_of_lt_of_le ?_ (sz1000' hn)
          have : min j (ds i).length ≤ j := Nat.min_le_left _ _
          omega
        · rw [List.take_add_one, hd4, ← List.append_assoc]
          exact DaAll.snoc (Da.st st _ _ (immAll_at (him i hlt) hd4) hz) (Da.stAll (e4.st.trans st) _ _ (immAll_append (fimm i hi) (immAll_take j (him i hlt))) q3)
      · have ej : j = (ds i).length := by omega
        subst ej
        refine .inl ⟨w1.stops H3 (hG1 H3 (.inr ⟨q1, qb⟩)), q1, acc3, q2, ?_⟩
        rw [fsnoc]
        rw [List.take_length] at q3
        exact q3
  · have e : i = n := by omega
    subst e
    exact .inl ⟨w.stops H (hG H p1), hd H acc p1 p2 p3⟩
end
end L2

/-! tallies: lists of pairs (a key, a count) -/
namespace Tl
section
variable {κ : Type} [DecidableEq κ]
/-- the sum of the counts of k -/
def cnt : List (κ × Int) → κ → Int
  | [], _ => 0
  | p :: l, k => (if p.1 = k then p.2 else 0) + cnt l k
abbrev keys (L : List (κ × Int)) : List κ := L.map (·.1)
theorem cnt_append (l m : List (κ × Int)) (k : κ) : cnt (l ++ m) k = cnt l k + cnt m k := by
  induction l with
  | nil => simp [cnt]
  | cons p l ih =>
    show (if p.1 = k then p.2 else 0) + cnt (l ++ m) k = (if p.1 = k then p.2 else 0) + cnt l k + cnt m k
    rw [ih]
    omega
theorem cnt_perm {l m : List (κ × Int)} (h : l.Perm m) (k : κ) : cnt l k = cnt m k := by
  induction h with
  | nil => rfl
  | cons x _ ih => simp only [cnt, ih]
  | swap x y l =>
    simp only [cnt]
    omega
  | trans _ _ h1 h2 => exact h1.trans h2
theorem cnt_out {L : List (κ × Int)} {k : κ} (h : k ∉ keys L) : cnt L k = 0 := by
  induction L with
  | nil => rfl
  | cons p L ih =>
    have h' : ¬ (k ∈ p.1 :: keys L) := h
    simp only [cnt]
    rw [if_neg (fun e => h' (by rw [e]; exact List.mem_cons_self)), ih (fun z => h' (List.mem_cons_of_mem _ z))]
    rfl
theorem cnt_in {L : List (κ × Int)} (hn : (keys L).Nodup) {p : κ × Int} (h : p ∈ L) : cnt L p.1 = p.2 := by
  induction L with
  | nil => cases h
  | cons q L ih =>
    obtain ⟨h1, h2⟩ := List.nodup_cons.mp (show (q.1 :: keys L).Nodup from hn)
    simp only [cnt]
    rcases List.mem_cons.mp h with e | h
    · subst e
      rw [if_pos rfl, cnt_out h1]
      omega
    · rw [if_neg (fun e => h1 (by rw [e]; exact List.mem_map.mpr ⟨p, h, rfl⟩)), ih h2 h]
      omega
theorem cnt_mem {L : List (κ × Int)} {k : κ} (h : cnt L k ≠ 0) : k ∈ keys L := by
  refine Classical.byContradiction fun z => h (cnt_out z)
/-- L is a tally without zeros -/
structure Fin (L : List (κ × Int)) : Prop where
  nd : (keys L).Nodup
  nz : ∀ p ∈ L, p.2 ≠ 0
theorem Fin.mem {L : List (κ × Int)} (F : Fin L) {p : κ × Int} : p ∈ L ↔ cnt L p.1 = p.2 ∧ p.2 ≠ 0 := by
  constructor
  · intro h
    exact ⟨cnt_in F.nd h, F.nz p h⟩
  · rintro ⟨h1, h2⟩
    obtain ⟨q, hq, e⟩ := List.mem_map.mp (cnt_mem (show cnt L p.1 ≠ 0 by rw [h1]; exact h2))
    have e2 := cnt_in F.nd hq
    rw [e, h1] at e2
    have : q = p := Prod.ext e e2.symm
    rw [← this]
    exact hq
theorem nodup_keys {L : List (κ × Int)} (h : (keys L).Nodup) : L.Nodup := List.Pairwise.of_map (·.1) (fun _ _ ne e => ne (congrArg _ e)) h
/-- two such tallies with the same sums hold the same -/
theorem Fin.perm {L M : List (κ × Int)} (F : Fin L) (G : Fin M) (h : ∀ k, cnt L k = cnt M k) : L.Perm M := by
  refine (List.perm_ext_iff_of_nodup (nodup_keys F.nd) (nodup_keys G.nd)).mpr fun p => ?_
  rw [F.mem, G.mem, h]
theorem Fin.of_perm {L M : List (κ × Int)} (F : Fin L) (h : L.Perm M) : Fin M := ⟨(h.map (·.1)).nodup_iff.mp F.nd, fun p hp => F.nz p (h.mem_iff.mpr hp)⟩
def nzL (L : List (κ × Int)) : List (κ × Int) := L.filter fun p => decide (p.2 ≠ 0)
theorem cnt_nz (L : List (κ × Int)) (k : κ) : cnt (nzL L) k = cnt L k := by
  induction L with
  | nil => rfl
  | cons p L ih =>
    unfold nzL at ih ⊢
    by_cases e : p.2 = 0
    · rw [List.filter_cons_of_neg (by simp [e]), ih]
      simp only [cnt, e]
      split <;> simp
    · rw [List.filter_cons_of_pos (by simp [e])]
      simp only [cnt, ih]
theorem fin_nz {L : List (κ × Int)} (h : (keys L).Nodup) : Fin (nzL L) := ⟨h.sublist (List.Sublist.map _ List.filter_sublist), fun p hp => of_decide_eq_true (List.mem_filter.mp hp).2⟩
/-- a count is put -/
def put (L : List (κ × Int)) (k : κ) (v : Int) : List (κ × Int) := if (L.any fun p => decide (p.1 = k)) = true then L.map (fun p => if p.1 = k then (p.1, v) else p) else L ++ [(k, v)]
theorem any_keys {L : List (κ × Int)} {k : κ} : (L.any fun p => decide (p.1 = k)) = true ↔ k ∈ keys L := by
  rw [List.any_eq_true]
  constructor
  · rintro ⟨p, hp, e⟩
    exact List.mem_map.mpr ⟨p, hp, of_decide_eq_true e⟩
  · intro h
    obtain ⟨p, hp, e⟩ := List.mem_map.mp h
    exact ⟨p, hp, decide_eq_true e⟩
theorem put_keys {L : List (κ × Int)} {k : κ} {v : Int} : keys (put L k v) = if k ∈ keys L then keys L else keys L ++ [k] := by
  unfold put
  by_cases e : k ∈ keys L
  · rw [if_pos (any_keys.mpr e), if_pos e]
    unfold keys
    rw [List.map_map]
    refine List.map_congr_left fun p _ => ?_
    show (if p.1 = k then (p.1, v) else p).1 = p.1
    split <;> rfl
  · rw [if_neg (fun z => e (any_keys.mp z)), if_neg e]
    unfold keys
    rw [List.map_append]
    rfl
theorem put_nodup {L : List (κ × Int)} {k : κ} {v : Int} (h : (keys L).Nodup) : (keys (put L k v)).Nodup := by
  rw [put_keys]
  split
  · exact h
  · next e =>
    refine List.nodup_append.mpr ⟨h, by simp, fun a ha b hb => ?_⟩
    rw [List.mem_singleton.mp hb]
    intro z
    exact e (z ▸ ha)
theorem put_len {L : List (κ × Int)} {k : κ} {v : Int} : (put L k v).length ≤ L.length + 1 := by
  unfold put
  split <;> simp
theorem put_cnt {L : List (κ × Int)} {k : κ} {v : Int} (h : (keys L).Nodup) (j : κ) : cnt (put L k v) j = if j = k then v else cnt L j := by
  by_cases e : k ∈ keys L
  · unfold put
    rw [if_pos (any_keys.mpr e)]
    induction L with
    | nil => cases e
    | cons p L ih =>
      obtain ⟨h1, h2⟩ := List.nodup_cons.mp (show (p.1 :: keys L).Nodup from h)
      by_cases ek : p.1 = k
      · have same : L.map (fun p => if p.1 = k then (p.1, v) else p) = L := by
          have z : ∀ q ∈ L, (if q.1 = k then (q.1, v) else q) = q := fun q hq => if_neg fun eq => h1 (by rw [ek, ← eq]; exact List.mem_map.mpr ⟨q, hq, rfl⟩)
          rw [List.map_congr_left z, List.map_id']
        rw [List.map_cons, same, if_pos ek]
        simp only [cnt]
        by_cases ej : j = k
        · rw [if_pos (by rw [ek, ej]), if_pos ej, ej, cnt_out (by rw [← ek]; exact h1)]
          omega
        · rw [if_neg (fun z => ej (by rw [← z, ek])), if_neg ej, if_neg (fun z => ej (by rw [← z, ek]))]
      · have e' : k ∈ keys L := by
          rcases List.mem_cons.mp (show k ∈ p.1 :: keys L from e) with z | z
          · exact absurd z.symm ek
          · exact z
        rw [List.map_cons, if_neg ek]
        simp only [cnt]
        rw [ih h2 e']
        by_cases ej : j = k
        · rw [if_pos ej, if_pos ej, if_neg (fun z => ek (z.trans ej))]
          omega
        · rw [if_neg ej, if_neg ej]
  · unfold put
    rw [if_neg (fun z => e (any_keys.mp z)), cnt_append]
    simp only [cnt]
    by_cases ej : j = k
    · rw [if_pos ej, if_pos ej.symm, ej, cnt_out e]
      omega
    · rw [if_neg ej, if_neg (fun z => ej z.symm)]
      omega
theorem put_mem {L : List (κ × Int)} {k : κ} {v : Int} {p : κ × Int} (h : p ∈ put L k v) : p.1 = k ∨ p.1 ∈ keys L := by
  have z : p.1 ∈ keys (put L k v) := List.mem_map.mpr ⟨p, h, rfl⟩
  rw [put_keys] at z
  split at z
  · exact .inr z
  · rcases List.mem_append.mp z with z | z
    · exact .inr z
    · exact .inl (List.mem_singleton.mp z)
end
end Tl

namespace L2
open PySem PySem.Spec PySem.W PyProof.Rows RW9 Tl
theorem val_row (k : List Int) : ∀ L : List (List Int × Int), valV (rowD L) (rk k) = (L.find? fun p => decide (p.1 = k)).map fun p => V.int p.2
  | [] => rfl
  | p :: L => by
    have ih := val_row k L
    by_cases e : p.1 = k
    · rw [show rowD (p :: L) = (rk p.1, V.int p.2) :: rowD L from rfl, valV_pos (show (rk p.1, V.int p.2).1 = rk k by rw [e]), List.find?_cons_of_pos (by simp [e])]
      rfl
    · rw [show rowD (p :: L) = (rk p.1, V.int p.2) :: rowD L from rfl, valV_neg (show ¬ (rk p.1, V.int p.2).1 = rk k from fun h => e (rk_inj h)), List.find?_cons_of_neg (by simp [e])]
      exact ih
theorem find_cnt {L : List (List Int × Int)} (hn : (keys L).Nodup) (k : List Int) : L.find? (fun p => decide (p.1 = k)) = if k ∈ keys L then some (k, cnt L k) else none := by
  cases h : L.find? (fun p => decide (p.1 = k)) with
  | some p =>
    have hp := List.mem_of_find?_eq_some h
    have e : p.1 = k := of_decide_eq_true (List.find?_some (p := fun p : List Int × Int => decide (p.1 = k)) h)
    rw [if_pos (by rw [← e]; exact List.mem_map.mpr ⟨p, hp, rfl⟩), ← e, cnt_in hn hp]
  | none =>
    rw [if_neg]
    intro z
    obtain ⟨p, hp, e⟩ := List.mem_map.mp z
    have := List.find?_eq_none.mp h p hp
    simp [e] at this
theorem get_row {L : List (List Int × Int)} (hn : (keys L).Nodup) (k : List Int) : (valV (rowD L) (rk k)).getD (.int 0) = .int (cnt L k) := by
  rw [val_row, find_cnt hn]
  split
  · rfl
  · next e => rw [cnt_out e]; rfl
theorem get_row_in {L : List (List Int × Int)} (hn : (keys L).Nodup) {k : List Int} (h : k ∈ keys L) : valV (rowD L) (rk k) = some (.int (cnt L k)) := by
  rw [val_row, find_cnt hn, if_pos h]
  rfl
theorem put_row (L : List (List Int × Int)) (k : List Int) (v : Int) : putK (rowD L) (rk k) (V.int v) = rowD (put L k v) := by
  have ha : ((rowD L).any fun kv => decide (kv.1 = rk k)) = L.any fun p => decide (p.1 = k) := by
    unfold rowD
    rw [List.any_map]
    congr 1
    funext p
    show decide (rk p.1 = rk k) = decide (p.1 = k)
    by_cases e : p.1 = k
    · simp [e]
    · rw [decide_eq_false e]
      exact decide_eq_false fun h => e (rk_inj h)
  unfold putK put
  rw [ha]
  split
  · unfold rowD
    rw [List.map_map, List.map_map]
    refine List.map_congr_left fun p _ => ?_
    show (if rk p.1 = rk k then (rk p.1, V.int v) else (rk p.1, V.int p.2)) = _
    by_cases e : p.1 = k
    · rw [if_pos (by rw [e])]
      simp [e]
    · rw [if_neg fun h => e (rk_inj h)]
      simp [e]
  · unfold rowD
    rw [List.map_append]
    rfl
/-- the tuple at b is the row r -/
abbrev RowAt (H : Hp) (b : Addr) (r : List Int) : Prop := H b = some (.tup (r.map V.int))
theorem dget_row {H : Hp} {a b : Addr} {L : List (List Int × Int)} {r : List Int} (h : Rd H a (.dT (rowD L))) (hn : (keys L).Nodup) (hr : RowAt H b r) : ∃ o, DGet H a (.ref b) o ∧ o.getD (.int 0) = .int (cnt L r) :=
  ⟨_, .inr ⟨_, rk r, b, h, rfl, by rw [rk_kV]; exact hr, rfl⟩, get_row hn r⟩
theorem dget_row_in {H : Hp} {a b : Addr} {L : List (List Int × Int)} {r : List Int} (h : Rd H a (.dT (rowD L))) (hn : (keys L).Nodup) (hr : RowAt H b r) (hin : r ∈ keys L) : DGet H a (.ref b) (some (.int (cnt L r))) :=
  .inr ⟨_, rk r, b, h, rfl, by rw [rk_kV]; exact hr, (get_row_in hn hin).symm⟩
theorem dput_row {H : Hp} {a b : Addr} {L : List (List Int × Int)} {r : List Int} {v : Int} (h : H a = some (.dT (rowD L))) (hr : RowAt H b r) (hl : L.length < sizeLine) : DPut H a (.ref b) (.int v) (upd H a (.dT (rowD (put L r v)))) := by
  rw [← put_row]
  exact DPut.t h (by rw [rk_kV]; exact hr) (by rw [List.length_map]; exact hl)
/-- a dict of rows, walked: the i-th key's tuple -/
theorem key_row {H : Hp} {L : List (List Int × Int)} {i : Nat} {k : List L2.Key} {v : V} {q : Addr} (h : (rowD L)[i]? = some (k, v)) (hq : H q = some (.tup (k.map kV))) : ∃ p, L[i]? = some p ∧ RowAt H q p.1 := by
  rw [List.getElem?_map] at h
  obtain ⟨p, hp, e⟩ := Option.map_eq_some_iff.mp h
  have e1 : rk p.1 = k := congrArg Prod.fst e
  exact ⟨p, hp, by unfold RowAt; rw [← rk_kV, e1]; exact hq⟩
end L2

namespace L2
open PySem PySem.Spec PySem.W PyProof.Rows RW9 Tl
/-- what tDcP asks behind its walk -/
def DcGoal (J : It) (o0 : HO) (g : TG) (tt : TT) (tk tv : TE) (vs : List Nat) (σ : L2.St) (H1 : Hp) (D : Addr) (Qd : Hp → Prop) : Prop :=
  ∃ W : Nat → Nat → Hp → Prop, (∃ m, W 0 m (upd H1 D o0)) ∧ ∀ i m H, W i m H →
    (J.stop i H ∧ Qd H) ∨ (J.go i H ∧ ∃ Nx : Hp → Prop, (∀ H', Nx H' → ∃ m', m' < m ∧ W (i + 1) m' H') ∧ ∀ x H', J.yld i H x H' → g x (wipe σ vs) H' fun σ2 H2 => wipe σ2 vs = wipe σ vs ∧ tt σ2 H2 fun b H3 =>
      if b = true then tk σ2 H3 fun y H4 => tv σ2 H4 fun z H5 => ∃ H6, DPut H5 D y z H6 ∧ Nx H6 else Nx H3)
theorem dcP_it {J : It} {n : Nat} {G : Hp → Prop} {Y : Nat → Hp → V → Hp → Prop} (w : Walk J n G Y) {o0 : HO} {g : TG} {tt : TT} {tk tv : TE} {vs : List Nat} {σ : L2.St} {H1 : Hp} {D : Addr} {Qd : Hp → Prop} (Pv : Nat → Hp → Prop) (h0 : Pv 0 (upd H1 D o0)) (hG : ∀ i H, i ≤ n → Pv i H → G H)
    (hs : ∀ i x H H', i < n → Pv i H → Y i H x H' → g x (wipe σ vs) H' fun σ2 H2 => wipe σ2 vs = wipe σ vs ∧ tt σ2 H2 fun b H3 =>
      if b = true then tk σ2 H3 fun y H4 => tv σ2 H4 fun z H5 => ∃ H6, DPut H5 D y z H6 ∧ Pv (i + 1) H6 else Pv (i + 1) H3)
    (hd : ∀ H, Pv n H → Qd H) : DcGoal J o0 g tt tk tv vs σ H1 D Qd := by
  refine ⟨fun i m H => m = n - i ∧ i ≤ n ∧ Pv i H, ⟨n, by simp, Nat.zero_le _, h0⟩, ?_⟩
  rintro i m H ⟨rfl, hi, p⟩
  have q := hG i H hi p
  by_cases hlt : i < n
  · exact .inr ⟨w.goes i H hlt q, Pv (i + 1), fun H' p' => ⟨n - (i + 1), by omega, rfl, hlt, p'⟩, fun x H' y => hs i x H H' hlt p (w.yields i H x H' hlt q y)⟩
  · have e : i = n := by omega
    subst e
    exact .inl ⟨w.stops H q, hd H p⟩
theorem putL_new {L : List (List Int × Int)} {k : List Int} {v : Int} (h : k ∉ keys L) : put L k v = L ++ [(k, v)] := by
  unfold put
  rw [if_neg fun z => h (any_keys.mp z)]
/-- {row: f for row in d if ..}: d a dict of rows -/
theorem dc_rows {L : List (List Int × Int)} {a D : Addr} {od : Obj} {H1 : Hp} (hz : H1 a = some (.frz od (.dT (rowD L)))) (nd : (keys L).Nodup) (hl : L.length ≤ 100000) {g : TG} {tt : TT} {tk tv : TE} {vs : List Nat} {σ : L2.St} {Qd : Hp → Prop} (hD : H1 D = none) (bs : List Int × Int → Bool) (fs : List Int × Int → Int)
    (step : ∀ (p : List Int × Int) (q : Addr) (H2 : Hp) (Q2 : V → V → Hp → Prop) (R : Hp → Prop), p ∈ L → Same H1 H2 → RowAt H2 q p.1 → (bs p = true → ∀ H4, Same H2 H4 → Q2 (.ref q) (.int (fs p)) H4) → (bs p = false → ∀ H3, Same H2 H3 → R H3) →
      g (.ref q) (wipe σ vs) H2 fun σ2 H2' => wipe σ2 vs = wipe σ vs ∧ tt σ2 H2' fun b H3 => if b = true then tk σ2 H3 fun y H4 => tv σ2 H4 fun z H5 => Q2 y z H5 else R H3)
    (hd : ∀ H', Same H1 H' → H' D = some (.dT (rowD ((L.filter bs).map fun p => (p.1, fs p)))) → Qd H') : DcGoal (Itkt a od (rowD L)) (.dT []) g tt tk tv vs σ H1 D Qd := by
  have en : (rowD L).length = L.length := by simp
  refine dcP_it (walk_keysT (kvs := rowD L)) (fun i H' => Same H1 H' ∧ H' D = some (.dT (rowD (((L.take i).filter bs).map fun p => (p.1, fs p))))) ⟨same_upd hD, upd_same⟩ (fun i H' _ p => p.1 _ _ hz) (fun i x H2 H3 hi pv y => ?_) (fun H' pv => ?_)
  · obtain ⟨rfl, k, v, q, hk, rfl, hq⟩ := y
    obtain ⟨p, hp, hr⟩ := key_row hk hq
    have ht : L.take (i + 1) = L.take i ++ [p] := by rw [List.take_add_one, hp]; rfl
    have hnew : p.1 ∉ keys (((L.take i).filter bs).map fun p => (p.1, fs p)) := by
      intro h1
      obtain ⟨p1, hp1, e1⟩ := List.mem_map.mp h1
      obtain ⟨p2, hp2, e2⟩ := List.mem_map.mp hp1
      have hin : p2 ∈ L.take i := (List.mem_filter.mp hp2).1
      have hn2 : (keys (L.take (i + 1))).Nodup := nd.sublist ((List.take_sublist _ _).map _)
      rw [ht, keys, List.map_append] at hn2
      refine (List.nodup_append.mp hn2).2.2 p2.1 (List.mem_map.mpr ⟨p2, hin, rfl⟩) p.1 (by simp) ?_
      rw [← e1, ← e2]
    refine step p q _ _ _ (List.mem_of_getElem? hp) pv.1 hr (fun hb H4 e4 => ?_) (fun hb H3 e3 => ⟨pv.1.trans e3, ?_⟩)
    · have hD4 := e4 _ _ pv.2
      refine ⟨_, dput_row hD4 (e4 _ _ hr) ?_, (pv.1.trans e4).mut hD, ?_⟩
      · rw [List.length_map]
        refine Nat.lt_of_le_of_lt (List.length_filter_le _ _) ?_
        refine Nat.lt_of_le_of_lt (List.length_take_le _ _) ?_
        rw [en] at hi
        exact Nat.lt_of_lt_of_le hi (Nat.le_trans hl (by decide))
      · rw [upd_same, putL_new hnew, ht, List.filter_append, List.map_append]
        simp [hb]
    · rw [e3 _ _ pv.2, ht, List.filter_append, List.map_append]
      simp [hb]
  · have e : L.take (rowD L).length = L := by rw [List.take_of_length_le]; simp
    rw [e] at pv
    exact hd H' pv.1 pv.2
end L2

/-! a class whose __init__ has an empty tuple as the default of its last parameter; calls of a def held by a local name, with a star -/
namespace L2
open PySem PySem.Spec PySem.W PyProof.Rows RW9 Tl
theorem hu8 {A : Around} {k : Nat} (hr : Room k A) : A.units + 8 < cLine := by
  have := hr.un
  omega
/-- an empty tuple of the text -/
def EmptyT (K : PySem.W.Frag) (t : Addr) : Prop := ∃ (o : Obj) (n : Nat), K.lookup t = some o ∧ o.cls = .type "tuple" ∧ o.data = .seq #[] n
theorem EmptyT.seq {K : PySem.W.Frag} {t : Addr} (h : EmptyT K t) (H : Hp) : SqT K H t [] := by
  obtain ⟨o, n, h1, h2, h3⟩ := h
  exact .inr ⟨o, #[], n, h1, h2, h3, by decide, .nil⟩
def TopI (K : PySem.W.Frag) (C : Addr) (qual : Str) (st : Stmt) (ps : List Str) : Prop :=
  ∃ (f : Addr) (fd : FuncData) (t : Addr), FunD K "__init__" qual (defArgs st) (defBody st) (defScope st) [V.ref t] [] f fd ∧ Meth K C "__init__" f ∧ Binds K fd ps [] ∧ EmptyT K t ∧ Binds K fd ps [.ref t]
def MakeI (P : Program) (w : World) (K : PySem.W.Frag) (mg : Str → Option Value) (base : Heap) (C : Addr) (x : Str) (k : Nat) (ps : List Str) (sp : Sp) : Prop :=
  ∃ (f : Addr) (fd : FuncData), Mk K C f ∧ mg x = some (.ref C) ∧ FnOk P w K mg base CX0 k f fd ps sp ∧ Binds K fd ps [] ∧ ∃ t, EmptyT K t ∧ Binds K fd ps [.ref t]
section
variable {P : Program} {w : World} {K : PySem.W.Frag} {mg : Str → Option Value} {base : Heap} {C : Addr} {qual x : Str} {st : Stmt} {ps N : List Str} {k : Nat} {sp : Sp}
theorem mk_init (T : TopI K C qual st ps) (S : FnScope N ps (defScope st)) (len : ∀ vs H Q E, sp vs H Q E → vs.length = ps.length) (hm : PySem.W.makesIn K C = true) (hk : PySem.W.keepIn K (.ref C) = true) (hg : mg x = some (.ref C))
    (hbody : ∀ (f : Addr) (cdv : Value) (A : Around) (outer : List Env) (s : Shared) (H : Hp) (vs : List V) (Q : VK) (E : XK), Room k (A.deeper (envOfC qual (defScope st) s.heap.objs.size f cdv)) → sp vs H Q E →
      ∃ t, PSs (cxOf CX0 P w K mg base N qual (defScope st) f cdv A outer s H E).nox (defBody st) t ∧ t { nx := fun _ H' => Q .non H', rt := Q } (start N vs) H) :
    MakeI P w K mg base C x (k + 1) ps sp := by
  obtain ⟨f, fd, t, F, M, b, b0⟩ := T
  refine ⟨f, fd, ⟨hm, M.at_, M.fn, hk⟩, hg, F.ok S len fun cdv A outer s H vs Q E hr h => ?_, b, t, b0⟩
  obtain ⟨tm, h1, h2⟩ := hbody f cdv A outer s H vs Q E hr h
  exact ⟨tm, h1.nox, h2⟩
end
section
variable {X : Cx} {C : Addr} {x : Str} {k : Nat} {ps : List Str} {sp : Sp} {p pos : Pos} {e : Expr} {es : List Expr} {t : TA}
theorem pe_makeI (D : MakeI X.prog X.w X.K X.mg X.base C x k ps sp) (hr : Room (k + 1) X.A) (hg : Gl X x) (ha : PA X (e :: es) t) (hdb : (x == ("__debug__" : Str)) = false := by decide)
    (he : starEach (e :: es) X.env = (false, eval e X.env) :: starEach es X.env := by rfl) (hpl : (backTo pos (starEach es X.env)).any (·.1) = false := by rfl) : PE X (.Call (.Name x p) (e :: es) [] pos) (tMake C sp [] E0 t) := by
  obtain ⟨f, fd, M, g, F, b, _⟩ := D
  exact pe_make M F hr hg g b .nil pass0 ha hdb he hpl
/-- C() -/
def tMake0 (K : PySem.W.Frag) (C : Addr) (sp : Sp) : TE := fun σ H Q => ∀ t, EmptyT K t → tMake C sp [.ref t] E0 tNil σ H Q
theorem pe_makeI0 (D : MakeI X.prog X.w X.K X.mg X.base C x k ps sp) (hr : Room (k + 1) X.A) (hg : Gl X x) (hdb : (x == ("__debug__" : Str)) = false := by decide) : PE X (.Call (.Name x p) [] [] pos) (tMake0 X.K C sp) := by
  obtain ⟨f, fd, M, g, F, _, t, ht, b⟩ := D
  refine ⟨fun pins s σ H Q I h => ?_⟩
  exact (pe_make0 M F hr hg g b (.cons (show RelV (.ref t) (.ref t) from rfl) .nil) pass0 hdb).run pins s σ H Q I (h t ht)
end
end L2

namespace L2
open PySem PySem.Spec PySem.W PyProof.Rows RW9 Tl
/-- the def at f keeps sp, called with a star or not -/
def HeldR (P : Program) (w : World) (K : PySem.W.Frag) (mg : Str → Option Value) (base : Heap) (k : Nat) (f : Addr) (sp : Sp) : Prop := FnR P w K mg base CX0 k f sp ∧ PySem.W.keepIn K (.ref f) = true
section
variable {X : Cx} {k i : Nat} {x : Str} {p pos : Pos} {e : Expr} {es : List Expr} {t : TA}
def tCallSL (P : Program) (w : World) (K : PySem.W.Frag) (mg : Str → Option Value) (base : Heap) (k i : Nat) (t : TA) : TE := fun σ H Q => ∃ f sp, σ[i]? = some (some (.ref f)) ∧ HeldR P w K mg base k f sp ∧ t σ H fun vs H1 => sp vs H1 Q E0
/-- x(e, .., *y), x a local name that holds a def -/
theorem pe_callSL (hr : Room k X.A) (hN : X.N[i]? = some x) (hv : Vis X.env.scope x) (ha : PA X (e :: es) t)
    (hdb : (x == ("__debug__" : Str)) = false := by decide) (hcd : (x == ("__classdict__" : Str)) = false := by decide)
    (he : starEach (e :: es) X.env = (false, eval e X.env) :: starEach es X.env := by rfl) (hst : (backTo pos (starEach es X.env)).any (·.1) = true := by rfl) :
    PE X (.Call (.Name x p) (e :: es) [] pos) (tCallSL X.prog X.w X.K X.mg X.base k i t) := by
  refine ⟨fun pins s σ H Q I h => ?_⟩
  obtain ⟨f, sp, hs, ⟨F, hk⟩, ht⟩ := h
  refine wpAny_Call_Name_kw (thn ((pe_var (pos := p) hN hv hdb hcd).run pins s σ H (fun v H1 => v = .ref f ∧ H1 = H) I ⟨.ref f, hs, rfl, rfl⟩) fun u s1 ⟨v, H1, I1, r1, q1⟩ => ?_)
  obtain ⟨rfl, rfl⟩ := q1
  cases r1
  refine PySem.W.callWith_S2 (h₀ := X.base) I.ok.mod.kin hk (thn (ha.run pos pins s1 σ _ _ I1 ht) fun us s2 ⟨vs, H2, I2, r, q⟩ => ⟨I2.kIn, ?_⟩) he hst
  exact wpAny_call (run_fnR F hr pass0 I2 r q)
end
end L2

namespace L2
open PySem PySem.Spec PyProof.Rows
section
variable {J : It} {n : Nat} {G : Hp → Prop} {Y : Nat → Hp → V → Hp → Prop} {K : PySem.W.Frag}
/-- two clauses, the inner one over a thing of the turn; immutable data told ahead -/
theorem lc2_datW (w : Walk J n G Y) {wi1 : TI} {g g1 : TG} {te : TE} {vs vs1 : List Nat} {σ : L2.St} {H1 : Hp} {D : Addr} {Qd : Hp → Prop} (hD : H1 D = none)
    (hG : ∀ H, Same H1 H → G H) (ds : Nat → List PyData) (hn : ((List.range n).map ds).flatten.length ≤ 100000) (him : ∀ i, i < n → immAll (ds i) = true)
    (step : ∀ i x H H' (Q : L2.St → Hp → Prop), i < n → Same H1 H → Y i H x H' →
      (∀ σ2 H2, Same H H2 → wipe σ2 vs = wipe σ vs → (∀ R : It → Hp → Prop,
        (∀ (J1 : It) (G1 : Hp → Prop) (Y1 : Nat → Hp → V → Hp → Prop) H3, Same H2 H3 → Walk J1 (ds i).length G1 Y1 → (∀ H, Same H3 H → G1 H) → (0 < (ds i).length → ∀ H, Same H1 H → G1 H) →
          (∀ j y H4 H4' (Q' : VK), j < (ds i).length → Same H1 H4 → ST K H3 H4 → Y1 j H4 y H4' → (∀ z H5 d, Same H4 H5 → (ds i)[j]? = some d → Da K H5 z d → Q' z H5) → g1 y (wipe σ2 vs1) H4' fun σ3 H6 => wipe σ3 vs1 = wipe σ2 vs1 ∧ te σ3 H6 Q') → R J1 H3) → wi1 σ2 H2 R) → Q σ2 H2) → g x (wipe σ vs) H' Q)
    (hd : ∀ H acc, Same H1 H → H D = some (.lst acc) → DaAll K H acc ((List.range n).map ds).flatten → Qd H) :
    ∃ W : Nat → Nat → Hp → Prop, (∃ m, W 0 m (upd H1 D (.lst []))) ∧ ∀ i m H, W i m H →
      (J.stop i H ∧ Qd H) ∨ (J.go i H ∧ ∃ Nx : Hp → Prop, (∀ H', Nx H' → ∃ m', m' < m ∧ W (i + 1) m' H') ∧ ∀ x H', J.yld i H x H' → g x (wipe σ vs) H' fun σ2 H2 => wipe σ2 vs = wipe σ vs ∧ tYes σ2 H2 fun b H3 =>
        if b = true then wi1 σ2 H3 fun J1 H4 => ∃ W1 : Nat → Nat → Hp → Prop, (∃ m, W1 0 m H4) ∧ ∀ j k H, W1 j k H →
          (J1.stop j H ∧ Nx H) ∨ (J1.go j H ∧ ∃ Nx1 : Hp → Prop, (∀ H', Nx1 H' → ∃ k', k' < k ∧ W1 (j + 1) k' H') ∧ ∀ x H', J1.yld j H x H' → g1 x (wipe σ2 vs1) H' fun σ3 H5 => wipe σ3 vs1 = wipe σ2 vs1 ∧ tYes σ3 H5 fun b H6 =>
            if b = true then te σ3 H6 fun y H7 => ∃ acc, H7 D = some (.lst acc) ∧ acc.length < sizeLine ∧ Nx1 (upd H7 D (.lst (acc ++ [y]))) else Nx1 H6)
        else Nx H3) := by
  have fsnoc : ∀ i, ((List.range (i + 1)).map ds).flatten = ((List.range i).map ds).flatten ++ ds i := by
    intro i
    rw [List.range_succ, List.map_append, List.flatten_append]
    simp
  have fimm : ∀ i, i ≤ n → immAll ((List.range i).map ds).flatten = true := by
    intro i
    induction i with
    | zero => intro _; rfl
    | succ i ih =>
      intro h
      rw [fsnoc]
      exact immAll_append (ih (by omega)) (him i (by omega))
  have fle : ∀ k i, i + k = n → ((List.range i).map ds).flatten.length ≤ ((List.range n).map ds).flatten.length := by
    intro k
    induction k with
    | zero => intro i e; rw [show i = n by omega]; exact Nat.le_refl _
    | succ k ih =>
      intro i e
      have := ih (i + 1) (by omega)
      rw [fsnoc i, List.length_append] at this
      omega
  refine ⟨fun i m H => m = n - i ∧ i ≤ n ∧ Same H1 H ∧ ∃ acc, H D = some (.lst acc) ∧ DaAll K H acc ((List.range i).map ds).flatten, ⟨n, by simp, Nat.zero_le _, same_upd hD, [], upd_same, .nil⟩, ?_⟩
  rintro i m H ⟨rfl, hi, p1, acc, p2, p3⟩
  by_cases hlt : i < n
  · refine .inr ⟨w.goes i H hlt (hG H p1), fun H' => Same H1 H' ∧ ∃ acc, H' D = some (.lst acc) ∧ DaAll K H' acc ((List.range (i + 1)).map ds).flatten, fun H' ⟨q1, q2⟩ => ⟨n - (i + 1), by omega, rfl, hlt, q1, q2⟩, fun x H' y => ?_⟩
    refine step i x H H' _ hlt p1 (w.yields i H x H' hlt (hG H p1) y) fun σ2 H2 e2 ws hin => ?_
    refine ⟨ws, ?_⟩
    show wi1 σ2 H2 _
    refine hin _ fun J1 G1 Y1 H2a e2a w1 hG1 hG2 el => ?_
    refine ⟨fun j k H => k = (ds i).length - j ∧ j ≤ (ds i).length ∧ Same H1 H ∧ ((j = 0 → Same H2a H) ∧ ST K H2a H) ∧ ∃ acc, H D = some (.lst acc) ∧ DaAll K H acc (((List.range i).map ds).flatten ++ (ds i).take j), ⟨(ds i).length, by simp, Nat.zero_le _, (p1.trans e2).trans e2a, ⟨fun _ => Same.refl _, ST.refl _⟩, acc, e2a _ _ (e2 _ _ p2), ?_⟩, ?_⟩
    · rw [List.take_zero, List.append_nil]
      exact Da.sameAll (e2.trans e2a) _ _ p3
    · rintro j k H3 ⟨rfl, hj, q1, qb, acc3, q2, q3⟩
      by_cases hjl : j < (ds i).length
      · refine .inr ⟨w1.goes j H3 hjl (hG2 (by omega) H3 q1), fun H' => Same H1 H' ∧ ST K H2a H' ∧ ∃ acc, H' D = some (.lst acc) ∧ DaAll K H' acc (((List.range i).map ds).flatten ++ (ds i).take (j + 1)), fun H' ⟨r1, rs, r2⟩ => ⟨(ds i).length - (j + 1), by omega, rfl, hjl, r1, ⟨fun z => absurd z (by omega), rs⟩, r2⟩, fun x3 H3' y3 => ?_⟩
        refine el j x3 H3 H3' _ hjl q1 qb.2 (w1.yields j H3 x3 H3' hjl (hG2 (by omega) H3 q1) y3) fun z H4 d e4 hd4 hz => ?_
        have e5 : H4 D = some (.lst acc3) := e4 _ _ q2
        have st : ST K H4 (upd H4 D (.lst (acc3 ++ [z]))) := st_upd e5 True.intro
        refine ⟨acc3, e5, ?_, (q1.trans e4).mut hD, (qb.2.trans e4.st).trans st, _, upd_same, ?_⟩
        · have l3 := q3.length
          rw [List.length_append, List.length_take] at l3
          have hle := fle (n - (i + 1)) (i + 1) (by omega)
          rw [fsnoc i, List.length_append] at hle
          refine Nat.lt_of_lt_of_le ?_ (sz1000' hn)
          have : min j (ds i).length ≤ j := Nat.min_le_left _ _
          omega
        · rw [List.take_add_one, hd4, ← List.append_assoc]
          exact DaAll.snoc (Da.st st _ _ (immAll_at (him i hlt) hd4) hz) (Da.stAll (e4.st.trans st) _ _ (immAll_append (fimm i hi) (immAll_take j (him i hlt))) q3)
      · have ej : j = (ds i).length := by omega
        subst ej
        refine .inl ⟨w1.stops H3 (if h0 : (ds i).length = 0 then hG1 H3 (qb.1 h0) else hG2 (by omega) H3 q1), q1, acc3, q2, ?_⟩
        rw [fsnoc]
        rw [List.take_length] at q3
        exact q3
  · have e : i = n := by omega
    subst e
    exact .inl ⟨w.stops H (hG H p1), hd H acc p1 p2 p3⟩
end
end L2

/-! defs with a star parameter, by name; a module's dict read by a text -/
namespace L2
open PySem PySem.Spec PySem.W PyProof.Rows
/-- the def x keeps sp, called by position -/
def DefR (P : Program) (w : World) (K : PySem.W.Frag) (mg : Str → Option Value) (base : Heap) (x : Str) (k : Nat) (sp : Sp) : Prop := ∃ f, FnR P w K mg base CX0 k f sp ∧ mg x = some (.ref f) ∧ PySem.W.keepIn K (.ref f) = true
def TopS (K : PySem.W.Frag) (mg : Str → Option Value) (x : Str) (st : Stmt) (ps : List Str) (pv : Str) : Prop :=
  ∃ (f : Addr) (fd : FuncData), Fun K x x st f fd ∧ mg x = some (.ref f) ∧ ∀ us rest : List Value, us.length = ps.length → bindArgs fd ⟨us ++ rest, []⟩ = (newTuple rest >>= fun t => pure (ps.zip us ++ [(pv, t)]))
section
variable {P : Program} {w : World} {K : PySem.W.Frag} {mg : Str → Option Value} {base : Heap} {x pv : Str} {st : Stmt} {ps N : List Str} {k : Nat} {sp : Sp}
theorem mk_defS (T : TopS K mg x st ps pv) (S : FnScope N (ps ++ [pv]) (defScope st))
    (hbody : ∀ (f : Addr) (cdv : Value) (A : Around) (outer : List Env) (s : Shared) (H : Hp) (vs : List V) (Q : VK) (E : XK), Room k (A.deeper (envOfC x (defScope st) s.heap.objs.size f cdv)) → sp vs H Q E →
      ∃ t, PSs (cxOf CX0 P w K mg base N x (defScope st) f cdv A outer s H E).nox (defBody st) t ∧ t { nx := fun _ H' => Q .non H', rt := Q } (start N vs) H) :
    DefR P w K mg base x (k + 1) (fun vs H Q E => ∃ ws rest, vs = ws ++ rest ∧ ws.length = ps.length ∧ rest.length ≤ sizeLine ∧ ∀ p, H p = Option.none → sp (ws ++ [V.ref p]) (upd H p (.tup rest)) Q E) := by
  obtain ⟨f, fd, F, g, hb⟩ := T
  obtain ⟨oc, od, kV, doc, pm, an, cdv, ct, osl, rfl, lk, hcd⟩ := F.ex
  refine ⟨f, StX.fn_star lk hcd S StX.cxUp_none hb fun A outer s H vs Q E hr hsp => ?_, g, F.kp⟩
  obtain ⟨t, h, q⟩ := hbody f cdv A outer s H vs Q E hr hsp
  exact ⟨t, h.nox, q⟩
end
section
variable {X : Cx} {x : Str} {k : Nat} {sp : Sp} {p pos : Pos} {e : Expr} {es : List Expr} {t : TA}
theorem pe_defR (D : DefR X.prog X.w X.K X.mg X.base x k sp) (hr : Room k X.A) (hg : Gl X x) (ha : PA X (e :: es) t) (hdb : (x == ("__debug__" : Str)) = false := by decide)
    (he : starEach (e :: es) X.env = (false, eval e X.env) :: starEach es X.env := by rfl) (hpl : (backTo pos (starEach es X.env)).any (·.1) = false := by rfl) :
    PE X (.Call (.Name x p) (e :: es) [] pos) (tCall sp [] E0 t) := by
  obtain ⟨f, F, g, kp⟩ := D
  refine ⟨fun pins s σ H Q I h => ?_⟩
  refine wpAny_Call_Name_kw (ld_glob I hg g ?_ hdb)
  refine PySem.W.callWith_K (h₀ := X.base) I.ok.mod.kin kp (thn (ha.run pos pins s σ H _ I h) fun us s1 ⟨vs, H1, I1, r, q⟩ => ⟨I1.kIn, ?_⟩) he hpl
  have q' : sp (vs ++ []) H1 Q E0 := q
  rw [List.append_nil] at q'
  exact wpAny_call (run_fnR F hr pass0 I1 r q')
end
/-- a def's promise, by its address -/
theorem Def.held {P : Program} {w : World} {K : PySem.W.Frag} {mg : Str → Option Value} {base : Heap} {x : Str} {k : Nat} {ps : List Str} {sp : Sp} (D : Def P w K mg base x k ps sp) : ∃ f, mg x = some (.ref f) ∧ HeldR P w K mg base k f sp := by
  obtain ⟨f, fd, F, g, kp, b, _⟩ := D
  refine ⟨f, g, (F.raw b .nil).imp fun vs H Q E h => ?_, kp⟩
  rw [List.append_nil]
  exact h
end L2

namespace L2
open PySem PySem.Spec PySem.W PyProof.Rows RW9
/-- sorted(l), l a list of rows -/
def rSortRowsL (K : PySem.W.Frag) : List V → Hp → VK → Prop := fun vs H Q => ∃ (a : Addr) (as : List Addr) (ks : List (List Int)), vs = [.ref a] ∧ SqL K H a (as.map V.ref) ∧ Paired (fun (t : Addr) (r : List Int) => H t = some (.tup (r.map V.int))) as ks ∧ (2 ≤ ks.length → [] ∉ ks) ∧
  ∀ (p : Addr) (ts : List Addr) (M : List (List Int)), H p = none → M.Perm ks → M.Pairwise (fun p q => ltR q p = false) → Paired (fun (t : Addr) (r : List Int) => H t = some (.tup (r.map V.int))) ts M → Q (.ref p) (upd H p (.lst (ts.map V.ref)))
theorem vals_refs_eq : ∀ {as : List Addr} {us : List Value}, Vals (as.map V.ref) us → us = as.map Value.ref
  | [], _, h => by cases h; rfl
  | a :: as, _, h => by
    cases h with
    | cons r t =>
      rw [vals_refs_eq t, List.map_cons]
      congr 1
theorem cr_sortedRowsL {X : Cx} (hc : X.calm = true) (hu : X.A.units + 8 < cLine) : CallR X (.builtin "sorted") (rSortRowsL X.K) := by
  intro pins s σ H xs us Q I r h
  obtain ⟨a, as, ks, rfl, ha, hrow, hne, q⟩ := h
  obtain rfl := Vals.ref1 r
  obtain ⟨its, rv, hl, hz⟩ := I.list ha
  have asl : as.length = ks.length := hrow.length
  obtain rfl := vals_refs_eq rv
  obtain ⟨kf, hkf⟩ : ∃ kf : Addr → List Int, as.map kf = ks ∧ ∀ b ∈ as, H b = some (.tup ((kf b).map V.int)) := by
    have : ∀ b : Addr, ∃ r : List Int, ∀ r' : List Int, H b = some (.tup (r'.map V.int)) → r' = r := by
      intro b
      by_cases hb : ∃ r' : List Int, H b = some (.tup (r'.map V.int))
      · obtain ⟨r', h2⟩ := hb
        refine ⟨r', fun r h4 => ?_⟩
        have e : r'.map V.int = r.map V.int := by
          rw [h2] at h4
          injection h4 with h4
          injection h4 with h4
        exact ((List.map_inj_right (f := V.int) (fun x y e => by injection e)).mp e).symm
      · exact ⟨[], fun r' h => absurd ⟨r', h⟩ hb⟩
    obtain ⟨f, hf⟩ := Classical.skolem.mp this
    have z : ∀ {as : List Addr} {ks : List (List Int)}, Paired (fun (t : Addr) (r : List Int) => H t = some (.tup (r.map V.int))) as ks → as.map f = ks ∧ ∀ b ∈ as, H b = some (.tup ((f b).map V.int)) := by
      intro as ks h
      induction h with
      | nil => exact ⟨rfl, fun b hb => nomatch hb⟩
      | cons h t ih =>
        have e := hf _ _ h
        refine ⟨by rw [List.map_cons, ih.1, ← e], fun b hb => ?_⟩
        rcases List.mem_cons.mp hb with rfl | hb
        · rw [← e]
          exact h
        · exact ih.2 b hb
    exact ⟨f, z hrow⟩
  obtain ⟨eL, kIn⟩ := hkf
  let enc : Value → PyData := fun v => match v with
    | .ref b => encR (kf b)
    | _ => encR []
  have lenV : (as.map Value.ref).length ≤ sizeLine := by
    rw [List.length_map]
    rw [List.length_map] at hz
    exact hz
  refine Calls.call_function_entry PyProof.Rows.kind_sorted PyProof.Rows.plain_sorted PyProof.Rows.entry_sorted (PyProof.Rows.args_sorted1 _) ?_
  unfold Builtin.«sorted»
  refine wpAny_bind (m := checkCount "sorted" 1 1 _) (wpAny_pure ?_)
  refine wpAny_bind (PyProof.Rows.collect_list hl.isList ?_ lenV)
  generalize hh' : (s.heap.push (seqObj "list" #[] 0)).update s.heap.objs.size (Obj.mapSeq (· ++ (as.map Value.ref).toArray)) = h'
  have hk : ∀ b o, s.heap.get? b = some o → h'.get? b = some o := fun b o e => by
    have hlt := Heap.lt_size e
    rw [← hh', Heap.get?_update_ne _ _ _ _ (Nat.ne_of_lt hlt)]
    exact Heap.get?_push_of_some _ e
  have I1 : Inv X pins σ H { s with heap := h' } := I.kept (t' := s.toks) hk
  refine wpAny_bind (wpAny_newList ?_ lenV)
  have hob : (h'.push (seqObj "list" (as.map Value.ref).toArray 0)).get? h'.objs.size = some (seqObj "list" (as.map Value.ref).toArray 0) := Heap.get?_push_size _ rfl
  have ka : ∀ b o, h'.get? b = some o → (h'.push (seqObj "list" (as.map Value.ref).toArray 0)).get? b = some o := fun b o e => Heap.get?_push_of_some _ e
  have off : ∀ b o, h'.get? b = some o → b ≠ h'.objs.size := fun b o e => Nat.ne_of_lt (Heap.lt_size e)
  show wpAny _ _ _ _ _ { s with heap := h'.push (seqObj "list" (as.map Value.ref).toArray 0) }
  generalize hh2 : h'.push (seqObj "list" (as.map Value.ref).toArray 0) = h2 at hob ka ⊢
  have er : ∀ h2' : Heap, (∀ b o, b ≠ h'.objs.size → h2.get? b = some o → h2'.get? b = some o) → ∀ v ∈ as.map Value.ref, ∃ ws, Reads h2' v (enc v) ws := by
    intro h2' keep v hv
    obtain ⟨b, hb, rfl⟩ := List.mem_map.mp hv
    obtain ⟨its, hI, ob, hob', hcb, nb, hdb⟩ := row_ints I1 (kIn b hb)
    exact reads_row (h := h2') hI ⟨ob, keep _ _ (off _ _ hob') (ka _ _ hob'), hcb, nb, hdb⟩
  refine wpAny_bind (wpAny_holding (wpAny_call_entry PyProof.Rows.slot_list_sort ⟨_, hob, rfl⟩ PyProof.Rows.entry_list_sort
    (SrtO.list_sort_ord (s := { s with heap := h2 }) (swo_data enc) hob lenV (fun h2l => sortable (s := { s with heap := h2 }) h2l er (fun v hv u hu' => ?_) (fun v hv => ?_) fun v hv => ?_) fun out o1 o2 => ⟨_, rfl, ?_⟩) (PyProof.Rows.args_list_sort _)))
  · obtain ⟨b, hb, rfl⟩ := List.mem_map.mp hv
    obtain ⟨c, hc', rfl⟩ := List.mem_map.mp hu'
    exact encR_alike _ _
  · obtain ⟨b, hb, rfl⟩ := List.mem_map.mp hv
    show ∃ x r, encR (kf b) = .tuple (x :: r)
    have ne : kf b ≠ [] := fun e => hne (by rw [← asl]; rwa [List.length_map] at h2l) (by
      rw [← eL, ← e]
      exact List.mem_map.mpr ⟨b, hb, rfl⟩)
    cases e : kf b with
    | nil => exact absurd e ne
    | cons x r => exact ⟨_, _, rfl⟩
  · obtain ⟨b, hb, rfl⟩ := List.mem_map.mp hv
    show X.A.in1.in1.units + (encR (kf b)).depth < cLine
    have e1 : X.A.in1.in1.units = X.A.units + 2 := rfl
    have e2 : (encR (kf b)).depth ≤ 4 := by
      simp [PyData.depth, depth_ints]
    omega
  · refine wpAny_pure ?_
    have inV : ∀ v ∈ out, ∃ b ∈ as, v = Value.ref b := fun v hv => by
      obtain ⟨b, hb, e⟩ := List.mem_map.mp (o2.perm.mem_iff.mp hv)
      exact ⟨b, hb, e.symm⟩
    obtain ⟨ts, ets⟩ : ∃ ts : List Addr, out = ts.map Value.ref := ⟨out.map adO, ref_map fun v hv => by
      obtain ⟨b, _, e⟩ := inV v hv
      exact ⟨b, e⟩⟩
    subst ets
    have tsIn : ∀ b ∈ ts, b ∈ as := fun b hb => by
      obtain ⟨c, hc', e⟩ := inV (.ref b) (List.mem_map.mpr ⟨b, hb, rfl⟩)
      cases e
      exact hc'
    have tperm : ts.Perm as := by
      have e := o2.perm.map adO
      rwa [ad_map, ad_map] at e
    have M1 : (ts.map kf).Perm ks := by
      rw [← eL]
      exact tperm.map _
    have M2 : (ts.map kf).Pairwise (fun p q => ltR q p = false) := by
      have e : (ts.map Value.ref).Pairwise (fun v u => dataLt (enc u) (enc v) = false) := o1
      rw [List.pairwise_map] at e ⊢
      refine e.imp fun {x y} hxy => ?_
      have e2 : dataLt (encR (kf y)) (encR (kf x)) = false := hxy
      rwa [encR_lt] at e2
    obtain ⟨eF, heF⟩ := PyProof.Rows.sortedHeap_at (vs := as.map Value.ref) (out := (ts.map Value.ref).toArray) hob
    have kF : ∀ b oo, h'.get? b = some oo → (sortedHeap h2 h'.objs.size (as.map Value.ref) (ts.map Value.ref).toArray).get? b = some oo := fun b oo e => (PyProof.Rows.sortedHeap_old (off _ _ e) (Heap.lt_size (ka _ _ e))).trans (ka _ _ e)
    refine ⟨.ref h'.objs.size, rfl, .ref h'.objs.size, upd H h'.objs.size (.lst (ts.map V.ref)), I1.laid (t' := s.toks) kF (Nat.le_refl _) ⟨by rw [List.length_map, tperm.length_eq]; rw [List.length_map] at lenV; omega, ts.map Value.ref, eF, LiI.vals_refs ts, heF⟩, rfl, q _ ts _ (I1.hok.fresh (Nat.le_refl _)) M1 M2 (paired_map fun b hb => kIn b (tsIn b hb))⟩
end L2

/-! data as keys; data sorted; data looked for in tuples -/
namespace NSet
open PySem PySem.Spec PySem.W PyProof.Rows L2 RW9
mutual
def kOf : PyData → NestedKey
  | .none => .none
  | .bool b => .num (if b = true then 1 else 0)
  | .int i => .num i
  | .str x => .text x
  | .tuple ds => .tup (kOfs ds)
  | .list _ => .none
  | .dict _ => .none
def kOfs : List PyData → List NestedKey
  | [] => []
  | d :: ds => kOf d :: kOfs ds
end
mutual
/-- ints, texts, None and tuples of them -/
def keyed : PyData → Bool
  | .none => true
  | .bool _ => false
  | .int _ => true
  | .str _ => true
  | .tuple ds => keyedAll ds
  | .list _ => false
  | .dict _ => false
def keyedAll : List PyData → Bool
  | [] => true
  | d :: ds => keyed d && keyedAll ds
end
mutual
theorem keyed_imm : ∀ d : PyData, keyed d = true → imm d = true
  | .none, _ => rfl
  | .bool _, h => by cases h
  | .int _, _ => rfl
  | .str _, _ => rfl
  | .tuple ds, h => keyed_immAll ds h
  | .list _, h => by cases h
  | .dict _, h => by cases h
theorem keyed_immAll : ∀ ds : List PyData, keyedAll ds = true → immAll ds = true
  | [], _ => rfl
  | d :: ds, h => by
    have h' : (keyed d && keyedAll ds) = true := h
    rw [Bool.and_eq_true] at h'
    show (imm d && immAll ds) = true
    rw [keyed_imm d h'.1, keyed_immAll ds h'.2]
    rfl
end
mutual
theorem kOf_inj : ∀ d e : PyData, keyed d = true → keyed e = true → kOf d = kOf e → d = e
  | .none, e, _, he, h => by
    cases e with
    | none => rfl
    | bool b => cases he
    | int i => simp [kOf] at h
    | str x => simp [kOf] at h
    | tuple ds => simp [kOf] at h
    | list ds => cases he
    | dict ds => cases he
  | .bool _, _, hd, _, _ => by cases hd
  | .int i, e, _, he, h => by
    cases e with
    | none => simp [kOf] at h
    | bool b => cases he
    | int j =>
      simp [kOf] at h
      rw [h]
    | str x => simp [kOf] at h
    | tuple ds => simp [kOf] at h
    | list ds => cases he
    | dict ds => cases he
  | .str x, e, _, he, h => by
    cases e with
    | none => simp [kOf] at h
    | bool b => cases he
    | int j => simp [kOf] at h
    | str y =>
      simp [kOf] at h
      rw [h]
    | tuple ds => simp [kOf] at h
    | list ds => cases he
    | dict ds => cases he
  | .tuple ds, e, hd, he, h => by
    cases e with
    | none => simp [kOf] at h
    | bool b => cases he
    | int j => simp [kOf] at h
    | str x => simp [kOf] at h
    | tuple es =>
      simp [kOf] at h
      rw [kOfs_inj ds es hd he h]
    | list ds => cases he
    | dict ds => cases he
  | .list _, _, hd, _, _ => by cases hd
  | .dict _, _, hd, _, _ => by cases hd
theorem kOfs_inj : ∀ ds es : List PyData, keyedAll ds = true → keyedAll es = true → kOfs ds = kOfs es → ds = es
  | [], [], _, _, _ => rfl
  | [], e :: es, _, _, h => by simp [kOfs] at h
  | d :: ds, [], _, _, h => by simp [kOfs] at h
  | d :: ds, e :: es, hd, he, h => by
    have hd' : (keyed d && keyedAll ds) = true := hd
    have he' : (keyed e && keyedAll es) = true := he
    rw [Bool.and_eq_true] at hd' he'
    simp only [kOfs, List.cons.injEq] at h
    rw [kOf_inj d e hd'.1 he'.1 h.1, kOfs_inj ds es hd'.2 he'.2 h.2]
end
mutual
theorem imm_plain : ∀ d : PyData, imm d = true → d.plain = true
  | .none, _ => rfl
  | .bool _, _ => rfl
  | .int _, _ => rfl
  | .str _, _ => rfl
  | .tuple ds, h => by
    have := imm_plainAll ds h
    simpa [PyData.plain] using this
  | .list _, h => by cases h
  | .dict _, h => by cases h
theorem imm_plainAll : ∀ ds : List PyData, immAll ds = true → PyData.plainAll ds = true
  | [], _ => rfl
  | d :: ds, h => by
    have h' : (imm d && immAll ds) = true := h
    rw [Bool.and_eq_true] at h'
    rw [PyData.plainAll, imm_plain d h'.1, imm_plainAll ds h'.2]
    rfl
end
section
variable {X : Cx}
mutual
theorem nest_of {pins : List (Addr × Obj)} {σ : L2.St} {H : Hp} {s : Shared} (I : Inv X pins σ H s) : ∀ (d : PyData) (v : V) (u : Value), Da X.K H v d → imm d = true → RelV v u → NestedIs s.heap (kOf d) u
  | .none, v, u, h, _, r => by
    cases h
    cases r
    exact .none
  | .bool b, v, u, h, _, r => by
    cases h
    cases r
    exact .bool rfl
  | .int i, v, u, h, _, r => by
    cases h
    obtain ⟨t, rfl⟩ := r
    exact .int _ _
  | .str x, v, u, h, _, r => by
    cases h
    obtain ⟨t, rfl⟩ := r
    exact .text _ _
  | .tuple ds, v, u, h, hi, r => by
    cases h with
    | tup hs ha =>
      cases r
      obtain ⟨its, rv, ⟨o, ho, hc, n, hd⟩, _⟩ := I.tuple (SqT.of hs)
      exact .tup ho hc hd (by simpa using nest_all I ds _ its ha hi rv)
  | .list _, _, _, _, hi, _ => by cases hi
  | .dict _, _, _, _, hi, _ => by cases hi
theorem nest_all {pins : List (Addr × Obj)} {σ : L2.St} {H : Hp} {s : Shared} (I : Inv X pins σ H s) : ∀ (ds : List PyData) (vs : List V) (us : List Value), DaAll X.K H vs ds → immAll ds = true → Vals vs us → NestedAll s.heap (kOfs ds) us
  | [], vs, us, h, _, r => by
    cases h
    cases r
    exact .nil
  | d :: ds, vs, us, h, hi, r => by
    have hi' : (imm d && immAll ds) = true := hi
    rw [Bool.and_eq_true] at hi'
    cases h with
    | cons h1 h2 =>
      cases r with
      | cons r1 r2 => exact .cons (nest_of I d _ _ h1 hi'.1 r1) (nest_all I ds _ _ h2 hi'.2 r2)
end
end
/-! ### tuples: in, index -/
section
variable {X : Cx}
/-- x in t, t a tuple of data -/
def rInTD (K : PySem.W.Frag) : R2 := fun x y H Q => ∃ d ds, Da K H x d ∧ Da K H y (.tuple ds) ∧ imm d = true ∧ immAll ds = true ∧ d.depth ≤ 16 ∧ Q (.bl (ds.any fun z => PyData.eqv z d)) H
theorem op_inTD (hu : X.A.units + 65 < cLine) : OpR X (compareOp .In) (rInTD X.K) := by
  intro pins s σ H x y v u Q I rx ry h
  obtain ⟨d, ds, hd, he, sd, se, dp, q⟩ := h
  obtain ⟨as, r1⟩ := Dp.reads I d x v (Da.dp _ _ hd) rx
  obtain ⟨bs, r2⟩ := Dp.reads I (.tuple ds) y u (Da.dp _ _ he) ry
  exact SeqAt.in_tuple_data r2 r1 (imm_plainAll ds se) (imm_plain d sd) (by have := Nat.min_le_right (PyData.depthAll ds) d.depth; omega) ⟨.bl _, H, I, rfl, q⟩
/-- t.index(x): the first place of an equal one -/
def rIndexTD (K : PySem.W.Frag) : V → List V → Hp → VK → Prop := fun x xs H Q => ∃ (y : V) (d : PyData) (ds : List PyData) (j : Nat) (z : PyData), xs = [y] ∧ Da K H x (.tuple ds) ∧ Da K H y d ∧ immAll ds = true ∧ imm d = true ∧ d.depth ≤ 16 ∧
  ds[j]? = some z ∧ PyData.eqv z d = true ∧ (∀ (m : Nat) (e : PyData), m < j → ds[m]? = some e → PyData.eqv e d = false) ∧ Q (.int (j : Nat)) H
theorem mt_indexTD (hu : X.A.units + 65 < cLine) : MtR X "tuple.index" (rIndexTD X.K) := by
  intro pins s σ H x xs v us Q I rx rxs h
  obtain ⟨y, d, ds, j, z, rfl, hx, hy, il, id', dp, hz, hzj, hno, q⟩ := h
  obtain ⟨uy, rfl, ry⟩ := vals1 rxs
  obtain ⟨bs, r1⟩ := Dp.reads I d y uy (Da.dp _ _ hy) ry
  cases hx with
  | @tup a xs' _ hs ha =>
    cases rx
    obtain ⟨its, rv, ⟨⟨cls, dd, data, sls⟩, ho, hc, n, hdt⟩, hlen⟩ := I.tuple (SqT.of hs)
    simp only at hc hdt
    subst hc hdt
    obtain ⟨as, h4⟩ := Dp.readsAll I ds _ its (Da.dpAll _ _ ha) rv
    have pl := imm_plainAll ds il
    have hmap : its.map (SeqAt.readOf s.heap) = ds := SeqAt.readsAll_map_plain ds its as pl h4
    obtain ⟨hjd, _⟩ := List.getElem?_eq_some_iff.mp hz
    have hn : its.length = ds.length := by rw [← hmap, List.length_map]
    have hj : j < its.toArray.size := by
      rw [List.size_toArray]
      omega
    have at_ : ∀ (m : Nat) (hm : m < its.toArray.size) (z' : PyData), ds[m]? = some z' → SeqAt.readOf s.heap its.toArray[m] = z' := by
      intro m hm z' hz'
      have hml : m < its.length := by simpa using hm
      rw [← hmap, List.getElem?_map, List.getElem?_eq_getElem hml] at hz'
      have e1 : SeqAt.readOf s.heap its[m] = z' := Option.some.inj hz'
      simpa using e1
    refine call_meets PySem.F.slot_tuple_index ⟨_, ho, rfl⟩ PySem.F.entry_tuple_index (PySem.F.args_tuple_index_2 _ _) (TI.tuple_indexAt a its.toArray n dd sls uy (fun u => PyData.eqv (SeqAt.readOf s.heap u) d) j hj ?_ ?_)
      ⟨ho, SeqAt.items_plain (vs := its.toArray) (show ReadsAll s.heap its.toArray.toList ds as from h4) r1 pl (imm_plain d id') (by have := Nat.min_le_right (PyData.depthAll ds) d.depth; omega), ⟨.int (j : Nat), H, I.tok _, ⟨_, rfl⟩, q⟩⟩
    · show PyData.eqv (SeqAt.readOf s.heap its.toArray[j]) d = true
      rw [at_ j hj z hz]
      exact hzj
    · intro m hm hmj
      have hmd : m < ds.length := by rw [List.size_toArray] at hm; omega
      show PyData.eqv (SeqAt.readOf s.heap its.toArray[m]) d = false
      rw [at_ m hm _ (List.getElem?_eq_getElem hmd)]
      exact hno m _ hmj (List.getElem?_eq_getElem hmd)
end
/-! ### sorted -/
theorem perm_lift {α β : Type} (f : α → β) : ∀ {m n : List β}, m.Perm n → ∀ l : List α, n = l.map f → ∃ l' : List α, l'.Perm l ∧ l'.map f = m := by
  intro m n h
  induction h with
  | nil =>
    intro l e
    exact ⟨[], by rw [List.map_eq_nil_iff.mp e.symm], rfl⟩
  | @cons x m n h ih =>
    intro l e
    cases l with
    | nil => cases e
    | cons y l =>
      rw [List.map_cons, List.cons.injEq] at e
      obtain ⟨l', p, q⟩ := ih l e.2
      exact ⟨y :: l', p.cons y, by rw [List.map_cons, q, e.1]⟩
  | swap x y l0 =>
    intro l e
    match l, e with
    | a :: b :: l, e =>
      rw [List.map_cons, List.map_cons, List.cons.injEq, List.cons.injEq] at e
      exact ⟨b :: a :: l, List.Perm.swap _ _ _, by rw [List.map_cons, List.map_cons, e.1, e.2.1, e.2.2]⟩
  | trans _ _ ih1 ih2 =>
    intro l e
    obtain ⟨l2, p2, e2⟩ := ih2 l e
    obtain ⟨l1, p1, e1⟩ := ih1 l2 e2.symm
    exact ⟨l1, p1.trans p2, e1⟩
/-- a value as it stands in both heaps, and what it is -/
def Tri (K : PySem.W.Frag) (H : Hp) (t : V × Value × PyData) : Prop := RelV t.1 t.2.1 ∧ Da K H t.1 t.2.2 ∧ imm t.2.2 = true
theorem tri_of {K : PySem.W.Frag} {H : Hp} : ∀ {ds : List PyData} {xs : List V} {us : List Value}, DaAll K H xs ds → immAll ds = true → Vals xs us → ∃ T : List (V × Value × PyData), T.map (·.1) = xs ∧ T.map (·.2.1) = us ∧ T.map (·.2.2) = ds ∧ ∀ t ∈ T, Tri K H t
  | [], _, _, h, _, r => by
    cases h
    cases r
    exact ⟨[], rfl, rfl, rfl, fun t ht => nomatch ht⟩
  | d :: ds, _, _, h, hi, r => by
    have hi' : (imm d && immAll ds) = true := hi
    rw [Bool.and_eq_true] at hi'
    cases h with
    | @cons v vs _ _ h1 h2 =>
      cases r with
      | @cons _ u _ us r1 r2 =>
        obtain ⟨T, e1, e2, e3, e4⟩ := tri_of h2 hi'.2 r2
        refine ⟨(v, u, d) :: T, by rw [List.map_cons, e1], by rw [List.map_cons, e2], by rw [List.map_cons, e3], fun t ht => ?_⟩
        rcases List.mem_cons.mp ht with rfl | ht
        · exact ⟨r1, h1, hi'.1⟩
        · exact e4 t ht
theorem tri_vals {K : PySem.W.Frag} {H : Hp} : ∀ {T : List (V × Value × PyData)}, (∀ t ∈ T, Tri K H t) → Vals (T.map (·.1)) (T.map (·.2.1))
  | [], _ => .nil
  | t :: T, h => .cons (h t List.mem_cons_self).1 (tri_vals fun u hu => h u (List.mem_cons_of_mem _ hu))
theorem tri_data {K : PySem.W.Frag} {H : Hp} : ∀ {T : List (V × Value × PyData)}, (∀ t ∈ T, Tri K H t) → DaAll K H (T.map (·.1)) (T.map (·.2.2)) ∧ immAll (T.map (·.2.2)) = true
  | [], _ => ⟨.nil, rfl⟩
  | t :: T, h => by
    obtain ⟨a, b⟩ := tri_data fun u hu => h u (List.mem_cons_of_mem _ hu)
    refine ⟨.cons (h t List.mem_cons_self).2.1 a, ?_⟩
    show (imm t.2.2 && immAll (T.map (·.2.2))) = true
    rw [(h t List.mem_cons_self).2.2, b]
    rfl
/-- data that can be sorted -/
def Sorts (ds : List PyData) : Prop := immAll ds = true ∧ (∀ d ∈ ds, ∀ e ∈ ds, alike d e = true) ∧ (2 ≤ ds.length → ∀ d ∈ ds, ∃ r, d = .tuple r) ∧ ∀ d ∈ ds, d.depth ≤ 16
section
variable {X : Cx}
/-- sorted, once the values are gathered -/
theorem sorted_by {pins : List (Addr × Obj)} {σ : L2.St} {H : Hp} {s : Shared} {a : Addr} {Q : VK} (hu : X.A.units + 24 < cLine) (I : Inv X pins σ H s) (T : List (V × Value × PyData)) (hT : ∀ t ∈ T, Tri X.K H t) (hs : Sorts (T.map (·.2.2))) (hz : T.length ≤ sizeLine)
    (gather : ∀ (Qc : List Value → Shared → Prop), (∀ (s1 : Shared) (T1 : List (V × Value × PyData)), Inv X pins σ H s1 → T1.Perm T → Qc (T1.map (·.2.1)) s1) → wpAny (model X.prog X.w) X.A.in1 (collect (.ref a)) Qc X.xe s)
    (q : ∀ (p : Addr) (ys : List V) (M : List PyData), H p = none → M.Perm (T.map (·.2.2)) → M.Pairwise (fun d e => dataLt e d = false) → DaAll X.K (upd H p (.lst ys)) ys M → Q (.ref p) (upd H p (.lst ys))) :
    wpAny (model X.prog X.w) X.A (call (.builtin "sorted") [.ref a]) (EP X pins σ Q) X.xe s := by
  refine Calls.call_function_entry PyProof.Rows.kind_sorted PyProof.Rows.plain_sorted PyProof.Rows.entry_sorted (PyProof.Rows.args_sorted1 _) ?_
  unfold Builtin.«sorted»
  refine wpAny_bind (m := checkCount "sorted" 1 1 _) (wpAny_pure ?_)
  refine wpAny_bind (gather _ fun s1 T1 I1 pT => ?_)
  have hT1 : ∀ t ∈ T1, Tri X.K H t := fun t ht => hT t (pT.mem_iff.mp ht)
  have pD : (T1.map (·.2.2)).Perm (T.map (·.2.2)) := pT.map _
  have len1 : (T1.map (·.2.1)).length ≤ sizeLine := by
    rw [List.length_map, pT.length_eq]
    exact hz
  refine wpAny_bind (wpAny_newList ?_ len1)
  have hob : (s1.heap.push (seqObj "list" (T1.map (·.2.1)).toArray 0)).get? s1.heap.objs.size = some (seqObj "list" (T1.map (·.2.1)).toArray 0) := Heap.get?_push_size _ rfl
  have ka : ∀ b o, s1.heap.get? b = some o → (s1.heap.push (seqObj "list" (T1.map (·.2.1)).toArray 0)).get? b = some o := fun b o e => Heap.get?_push_of_some _ e
  have off : ∀ b o, s1.heap.get? b = some o → b ≠ s1.heap.objs.size := fun b o e => Nat.ne_of_lt (Heap.lt_size e)
  show wpAny _ _ _ _ _ { s1 with heap := s1.heap.push (seqObj "list" (T1.map (·.2.1)).toArray 0) }
  generalize hh2 : s1.heap.push (seqObj "list" (T1.map (·.2.1)).toArray 0) = h2 at hob ka ⊢
  let enc : Value → PyData := SeqAt.readOf s1.heap
  have encT : ∀ t ∈ T1, enc t.2.1 = t.2.2 := fun t ht => by
    obtain ⟨r, d, i⟩ := hT1 t ht
    obtain ⟨as, ra⟩ := Dp.reads I1 _ _ _ (Da.dp _ _ d) r
    exact SeqAt.readOf_plain (imm_plain _ i) ra
  have er : ∀ h3 : Heap, (∀ b o, b ≠ s1.heap.objs.size → h2.get? b = some o → h3.get? b = some o) → ∀ v ∈ T1.map (·.2.1), ∃ as, Reads h3 v (enc v) as := by
    intro h3 keep v hv
    obtain ⟨t, ht, rfl⟩ := List.mem_map.mp hv
    rw [encT t ht]
    obtain ⟨r, d, i⟩ := hT1 t ht
    have I3 : Inv X pins σ H { s1 with heap := h3 } := I1.kept (t' := s1.toks) fun b o e => keep b o (off b o e) (ka b o e)
    exact Dp.reads I3 _ _ _ (Da.dp _ _ d) r
  have inD : ∀ v ∈ T1.map (·.2.1), enc v ∈ T.map (·.2.2) := fun v hv => by
    obtain ⟨t, ht, rfl⟩ := List.mem_map.mp hv
    rw [encT t ht]
    exact List.mem_map.mpr ⟨t, pT.mem_iff.mp ht, rfl⟩
  have swo := swo_data enc
  refine wpAny_bind (wpAny_holding (wpAny_call_entry PyProof.Rows.slot_list_sort ⟨_, hob, rfl⟩ PyProof.Rows.entry_list_sort
    (SrtO.list_sort_ord (s := { s1 with heap := h2 }) swo hob len1 (fun h2l => sortableE (s := { s1 with heap := h2 }) h2l er (fun v hv u hu' => hs.2.1 _ (inD v hv) _ (inD u hu')) (fun v hv => hs.2.2.1 (by
      rw [List.length_map, pT.length_eq] at h2l
      rw [List.length_map]
      exact h2l) _ (inD v hv)) fun v hv => ?_) fun out o1 o2 => ⟨_, rfl, ?_⟩) (PyProof.Rows.args_list_sort _)))
  · have := hs.2.2.2 _ (inD v hv)
    show X.A.in1.in1.units + (enc v).depth < cLine
    have e1 : X.A.in1.in1.units = X.A.units + 2 := rfl
    omega
  · refine wpAny_pure ?_
    obtain ⟨T2, p2, e2⟩ := perm_lift (·.2.1) o2.perm T1 rfl
    subst e2
    have hT2 : ∀ t ∈ T2, Tri X.K H t := fun t ht => hT1 t (p2.mem_iff.mp ht)
    have M2 : (T2.map (·.2.2)).Pairwise (fun d e => dataLt e d = false) := by
      have e : (T2.map (·.2.1)).Pairwise (fun v u => dataLt (enc u) (enc v) = false) := o1
      rw [List.pairwise_map] at e ⊢
      refine List.Pairwise.imp_of_mem (fun {x y} hx hy hxy => ?_) e
      rw [encT x (p2.mem_iff.mp hx), encT y (p2.mem_iff.mp hy)] at hxy
      exact hxy
    obtain ⟨eF, heF⟩ := PyProof.Rows.sortedHeap_at (vs := T1.map (·.2.1)) (out := (T2.map (·.2.1)).toArray) hob
    have kF : ∀ b oo, s1.heap.get? b = some oo → (sortedHeap h2 s1.heap.objs.size (T1.map (·.2.1)) (T2.map (·.2.1)).toArray).get? b = some oo := fun b oo e => (PyProof.Rows.sortedHeap_old (off _ _ e) (Heap.lt_size (ka _ _ e))).trans (ka _ _ e)
    have new : H s1.heap.objs.size = none := I1.hok.fresh (Nat.le_refl _)
    refine ⟨.ref s1.heap.objs.size, rfl, .ref s1.heap.objs.size, upd H s1.heap.objs.size (.lst (T2.map (·.1))), I1.laid (t' := s1.toks) kF (Nat.le_refl _) ⟨?_, T2.map (·.2.1), eF, tri_vals hT2, heF⟩, rfl, q _ _ (T2.map (·.2.2)) new ((p2.map _).trans pD) M2 (Da.sameAll (same_upd new) _ _ (tri_data hT2).1)⟩
    rw [List.length_map, p2.length_eq]
    rw [List.length_map] at len1
    exact len1
/-- sorted(l), l a list of data -/
def rSortD (K : PySem.W.Frag) : List V → Hp → VK → Prop := fun vs H Q => ∃ (a : Addr) (xs : List V) (ds : List PyData), vs = [.ref a] ∧ SqL K H a xs ∧ DaAll K H xs ds ∧ Sorts ds ∧
  ∀ (p : Addr) (ys : List V) (M : List PyData), H p = none → M.Perm ds → M.Pairwise (fun d e => dataLt e d = false) → DaAll K (upd H p (.lst ys)) ys M → Q (.ref p) (upd H p (.lst ys))
theorem cr_sortD (hu : X.A.units + 24 < cLine) : CallR X (.builtin "sorted") (rSortD X.K) := by
  intro pins s σ H vs us Q I r h
  obtain ⟨a, xs, ds, rfl, hl, hd, hs, q⟩ := h
  obtain rfl := Vals.ref1 r
  obtain ⟨its, rv, pl, hz⟩ := I.list hl
  obtain ⟨T, e1, e2, e3, hT⟩ := tri_of hd hs.1 rv
  subst e1 e2 e3
  rw [List.length_map] at hz
  refine sorted_by hu I T hT hs hz (fun Qc hq => ?_) q
  have lenV : (T.map (·.2.1)).length ≤ sizeLine := by
    rw [List.length_map]
    exact hz
  refine PyProof.Rows.collect_list pl.isList ?_ lenV
  refine hq _ T (I.kept (t' := s.toks) fun b o e => ?_) (List.Perm.refl _)
  have hlt := Heap.lt_size e
  rw [Heap.get?_update_ne _ _ _ _ (Nat.ne_of_lt hlt)]
  exact Heap.get?_push_of_some _ e
end
end NSet

/-! sets of data: made by a comprehension, sorted -/
namespace NSet
open PySem PySem.Spec PySem.W PyProof.Rows L2 RW9 PpSet
/-- the set at a, without its members -/
def Set0 (w : World) (h : Heap) (a : Addr) (L : List (Addr × NestedKey)) : Prop :=
  ∃ (es : Array (Int × Value)) (ep : Nat) (t : SetTable), (∃ o, h.get? a = some o ∧ o.ExactSet ∧ o.data = .set es ep t) ∧ es.toList = L.map (ent w) ∧ TabW t (hsh w L) ∧ (L.map (·.2)).Nodup ∧
    (w.params.followText "set-order" = true ∨ t.led = true) ∧ L.length * 5 < t.mask * 3 ∧ L.length < 300
def SetNO (w : World) (a : Addr) (L : List (Addr × NestedKey)) : HO := .ext fun h => Set0 w h a L
section
variable {P : Program} {w : World} {h : Heap} {a : Addr} {L : List (Addr × NestedKey)} {es : Array (Int × Value)} {ep : Nat} {t : SetTable}
theorem SetN.bare (R : SetN w h a L es ep t) : Set0 w h a L := ⟨es, ep, t, R.obj, R.rows, R.tab, R.nd, R.led, R.room, R.few⟩
theorem Set0.full (R : Set0 w h a L) (hk : ∀ p ∈ L, Nst h p.2 p.1) : ∃ es ep t, SetN w h a L es ep t := by
  obtain ⟨es, ep, t, h1, h2, h3, h4, h5, h6, h7⟩ := R
  exact ⟨es, ep, t, h1, h2, h3, h4, hk, h5, h6, h7⟩
theorem Set0.at_ {h2 : Heap} (R : Set0 w h a L) (k : ∀ o, h.get? a = some o → h2.get? a = some o) : Set0 w h2 a L := by
  obtain ⟨es, ep, t, ⟨o, ho, r⟩, q⟩ := R
  exact ⟨es, ep, t, ⟨o, k o ho, r⟩, q⟩
theorem setNO_new {H : Hp} (R : Set0 w h a L) : ObjOk P w H h a (SetNO w a L) := by
  have ⟨_, _, _, ⟨o, ho, _⟩, _⟩ := R
  exact ⟨R, ⟨o, ho⟩, fun h1 h2 p k => Set0.at_ p k⟩
theorem set0_fresh (w : World) : Set0 w (h.push { cls := .type "set", dict := none, data := .set #[] 0 (.fresh 0 0 (!w.params.followText "set-order")) }) h.objs.size [] := by
  refine ⟨#[], 0, _, ⟨_, Heap.get?_push_size _ rfl, ⟨rfl, rfl, rfl⟩, rfl⟩, rfl, ⟨List.Pairwise.nil, rfl, rfl, .inl (.inl rfl), (fun x hx => nomatch hx), (fun i h j hi => by simp at hi)⟩, List.nodup_nil, ?_, (by show 0 * 5 < 7 * 3; decide), (by show 0 < 300; decide)⟩
  show _ ∨ (!w.params.followText "set-order") = true
  cases w.params.followText "set-order"
  · exact .inr rfl
  · exact .inl rfl
end
section
variable {X : Cx}
/-- the members, as the abstract heap has them -/
def Mem (K : PySem.W.Frag) (H : Hp) (L : List (Addr × NestedKey)) : Prop := ∀ p ∈ L, ∃ d, Da K H (.ref p.1) d ∧ imm d = true ∧ p.2 = kOf d ∧ (kOf d).depth ≤ 8
theorem Mem.nst {pins : List (Addr × Obj)} {σ : L2.St} {H : Hp} {s : Shared} (I : Inv X pins σ H s) {L : List (Addr × NestedKey)} (m : Mem X.K H L) : ∀ p ∈ L, Nst s.heap p.2 p.1 := fun p hp => by
  obtain ⟨d, hd, i, e, dp⟩ := m p hp
  rw [e]
  exact ⟨nest_of I d _ _ hd i rfl, dp⟩
theorem addN_ok {pins : List (Addr × Obj)} {σ : L2.St} {H : Hp} {s : Shared} {E : Value → Shared → Prop} {D : Addr} {L : List (Addr × NestedKey)} {y : V} {z : Value} {d : PyData} {Q : Value → Shared → Prop} (hu : X.A.units + 24 < cLine) (I : Inv X pins σ H s) (hD : H D = some (SetNO X.w D L))
    (hy : ∃ b, y = .ref b ∧ Da X.K H (.ref b) d) (rz : RelV y z) (hd : imm d = true) (hdp : (kOf d).depth ≤ 8) (hm : Mem X.K H L) (room : L.length + 1 < 300)
    (h : ∀ s' L', (kOf d ∈ L.map (·.2) → L' = L) → (kOf d ∉ L.map (·.2) → ∃ b, y = .ref b ∧ L'.Perm ((b, kOf d) :: L)) → Inv X pins σ (upd H D (SetNO X.w D L')) s' → Q .none s') : wpAny (model X.prog X.w) X.A (call (.builtin "set.add") [.ref D, z]) Q E s := by
  obtain ⟨b, rfl, hb⟩ := hy
  cases rz
  have hx : Nst s.heap (kOf d) b := ⟨nest_of I d _ _ hb hd rfl, hdp⟩
  have R0 : Set0 X.w s.heap D L := (I.hok D _ hD).1
  obtain ⟨es, ep, t, R⟩ := R0.full (hm.nst I)
  obtain ⟨o, ho, hex, hdt⟩ := R.obj
  refine wpAny_call_entry F.slot_set_add ⟨o, ho, hex.1⟩ F.entry_set_add ?_ (F.args_set_add_2 _ _)
  unfold Builtin.«set.add» Builtin.Frozenset.oneOther
  simp only [List.isEmpty_nil, bind_assoc]
  unfold Builtin.Frozenset.addrOf setAdd
  refine wpAny_bind (wpAny_pure ?_)
  try dsimp only
  refine wpAny_bind (wpAny_pure ?_)
  try dsimp only
  have hu1 : X.A.in1.units + 8 < cLine := by
    have e1 : X.A.in1.units = X.A.units + 1 := rfl
    omega
  refine wpAny_bind (wpAny_holding (wpAny_bind ((nestedKind X.prog X.w).pyHash (k := kOf d) hu1 hx ?_)))
  refine put_key (s := { s with toks := s.toks + (kOf d).draws }) ⟨⟨o, ho, hex, hdt⟩, R.rows, R.tab, R.nd, R.key, R.led, R.room, R.few⟩ hx hu1 room fun bb h2 L2 es2 ep2 t2 sb R2 a1 a2 => ?_
  refine wpAny_pure ⟨_, rfl, ?_⟩
  obtain ⟨o2, ho2, _⟩ := R2.obj
  exact h _ L2 a1 (fun z => ⟨b, rfl, a2 z⟩) (I.write (e := D) (t' := s.toks + (kOf d).draws) (by rw [hD]; trivial) (.inl rfl) (fun c u hc hu => (sb.2 c hc).trans hu) ⟨o2, ho2⟩ (setNO_new R2.bare))
/-- {elt for target in iter if ..}, elt a datum: D the new set -/
def tScN (K : PySem.W.Frag) (w : World) (wi : TI) (g : TG) (tt : TT) (te : TE) (vs : List Nat) : TE := fun σ H Q => wi σ H fun J H1 => ∀ D, H1 D = none → ∃ W : Nat → Nat → Hp → Prop, (∃ m, W 0 m (upd H1 D (SetNO w D []))) ∧ ∀ i m H, W i m H →
  (J.stop i H ∧ Q (.ref D) H) ∨ (J.go i H ∧ ∃ Nx : Hp → Prop, (∀ H', Nx H' → ∃ m', m' < m ∧ W (i + 1) m' H') ∧ ∀ x H', J.yld i H x H' → g x (wipe σ vs) H' fun σ2 H2 => wipe σ2 vs = wipe σ vs ∧ tt σ2 H2 fun b H3 =>
    if b = true then te σ2 H3 fun y H4 => ∃ (d : PyData) (L : List (Addr × NestedKey)), (∃ b, y = .ref b ∧ Da K H4 (.ref b) d) ∧ imm d = true ∧ (kOf d).depth ≤ 8 ∧ H4 D = some (SetNO w D L) ∧ Mem K H4 L ∧ L.length + 1 < 300 ∧
      ∀ L', (kOf d ∈ L.map (·.2) → L' = L) → (kOf d ∉ L.map (·.2) → ∃ b, y = .ref b ∧ L'.Perm ((b, kOf d) :: L)) → Nx (upd H4 D (SetNO w D L')) else Nx H3)
variable {elt tg iter : Expr} {ifs : List Expr} {scope : Scope} {own : List (Str × Nat)} {pos : Pos} {wi : TI} {g : TG} {tt : TT} {te : TE}
theorem pe_scN (hc : X.calm = true) (hu : X.A.units + 24 < cLine) (hN : X.N.Nodup) (hi : PI X tg iter wi) (ok : BlkOk X.N X.env.scope scope own)
    (hg : ∀ (s : Shared) (H : Hp) (C : Addr) (cl : List (Str × Addr)) (fp : List Addr), PG (X.blk s H scope (compEnvC scope cl C X.env) fp) tg g)
    (ht : ∀ (s : Shared) (H : Hp) (C : Addr) (cl : List (Str × Addr)) (fp : List Addr), PTs (X.blk s H scope (compEnvC scope cl C X.env) fp) ifs tt)
    (hv : ∀ (s : Shared) (H : Hp) (C : Addr) (cl : List (Str × Addr)) (fp : List Addr), PE (X.blk s H scope (compEnvC scope cl C X.env) fp) elt te) (hs : ∀ x, foldedSetIterable iter X.env x = pure x := by intro _; rfl) :
    PE X (.SetComp elt [⟨tg, iter, ifs, 0⟩] scope pos) (tScN X.K X.w wi g tt te (own.map (·.2))) := by
  refine ⟨fun pins s σ H Q I h => ?_⟩
  rw [eval_SetComp]
  have cells : ∀ y ∈ scope.names, y.2 = .free → ∃ c, X.env.cells.lookup y.1 = some c := fun y hy e => (ok.free y hy e).elim (fun k => I.ok.has _ (.inl k)) fun k => I.ok.has _ (.inr k)
  refine wpAny_comprehension_free (use := none) rfl hs (closure_ok cells) ok.kind (fun y hy e => by rw [ok.uniq y hy, e]) (thn (hi.run pins s σ H _ I h) fun xv sA hx => thn hx fun itv sB hB => ?_)
  obtain ⟨it, fp, tn, J, H2, e, I2, T, st2, f2, q⟩ := hB
  subst e
  refine newSet_ok (newEnv_comp ?_)
  generalize hD : sB.heap.objs.size = D
  obtain ⟨W, ⟨m0, w0⟩, turn⟩ := q D (I2.hok.fresh (Nat.le_of_eq hD))
  generalize hob : ({ cls := .type "set", dict := none, data := .set #[] 0 (.fresh 0 0 (!X.w.params.followText "set-order")) } : Obj) = ob
  have oldB : ∀ b o, sB.heap.get? b = some o → (sB.heap.push ob).get? b = some o := fun b o e => Heap.get?_push_of_some _ e
  have I3 : Inv X pins σ (upd H2 D (SetNO X.w D [])) { sB with heap := sB.heap.push ob } := by
    refine I2.laid (t' := sB.toks) oldB (Nat.le_of_eq hD) ?_
    rw [← hD, ← hob]
    exact setNO_new (set0_fresh X.w)
  have below : ∀ b ∈ fp, b < sB.heap.objs.size := fun b hb => (T.obj _ _ st2 b hb).elim fun o e => Heap.lt_size e.1
  generalize hs3 : ({ sB with heap := sB.heap.push ob } : Shared) = s3 at I3
  have eh3 : s3.heap = sB.heap.push ob := by rw [← hs3]
  have f3 : ∀ b ∈ fp, FpOk X pins (upd H2 D (SetNO X.w D [])) b ∧ b < s3.heap.objs.size := fun b hb => by
    have l := below b hb
    refine ⟨⟨?_, (f2 b hb).2⟩, by rw [eh3, Heap.size_push]; exact Nat.lt_succ_of_lt l⟩
    rw [upd_ne (fun z => absurd l (by rw [z, ← hD]; exact Nat.lt_irrefl _))]
    exact (f2 b hb).1
  have I4 := block_start I3 ok hN f3
  generalize hH3 : upd H2 D (SetNO X.w D []) = H3 at I3 I4 w0 f3
  generalize hcl : cellsFrom (s3.heap.objs.size + 1) scope.names (cloFrom X.env.cells scope.names []) = cl at I4
  have pg := hg s3 H3 s3.heap.objs.size cl fp
  have pt := ht s3 H3 s3.heap.objs.size cl fp
  have pv := hv s3 H3 s3.heap.objs.size cl fp
  show codeAny _ _ (.compStart (.SetComp elt [⟨tg, iter, ifs, 0⟩] scope pos) 0 (.ref it) (.ref D) (compEnvC scope cl s3.heap.objs.size X.env)) (compPost (model X.prog X.w) X.A X.xe none (EP X pins σ Q) (.ref D) s3.heap.objs.size) { s3 with heap := pushCells (s3.heap.push { cls := .type "dict", data := .dict #[] }) scope.names }
  generalize hce : compEnvC scope cl s3.heap.objs.size X.env = ce at I4 pg pt pv ⊢
  have cL : ce.locals = s3.heap.objs.size := by rw [← hce]; rfl
  generalize hs4 : ({ s3 with heap := pushCells (s3.heap.push { cls := .type "dict", data := .dict #[] }) scope.names } : Shared) = s4 at I4 ⊢
  have st4 : tn 0 s4.heap := T.keep _ _ _ st2 fun b _ o e => by
    rw [← hs4]
    exact pushCells_keeps _ _ _ _ (Heap.get?_push_of_some _ (by rw [eh3]; exact oldB b o e))
  have stat : ∀ {σ' : L2.St} {H' : Hp} {s' : Shared}, Inv (X.blk s3 H3 scope ce fp) [] σ' H' s' → (∀ b ∈ fp, H' b = none) → ∀ b ∈ fp, FpOk (X.blk s3 H3 scope ce fp) [] H' b := fun {σ' H' s'} I' hn b hb =>
    ⟨hn b hb, (I'.ok.exf b hb).1, I'.ok.exfs b hb, .inl hb, fun x c e => (I'.ok.exf b hb).2 x c e, fun p hp => absurd (show p ∈ ([] : List (Addr × Obj)) ++ [] from hp) (by simp)⟩
  refine (fun loop => codeAny_compStart_set loop (T.self X.A 0 _ _ _ st4 loop)) ?_
  refine compLoopS_any (fun n s' => ∃ i H', Inv (X.blk s3 H3 scope ce fp) [] (wipe σ (own.map (·.2))) H' s' ∧ tn i s'.heap ∧ (∀ b ∈ fp, H' b = none) ∧ W i n H') ?_ m0 ⟨0, H3, I4, st4, fun b hb => (f3 b hb).1.1, w0⟩
  rintro n s5 ⟨i, H5, I5, st5, n5, w5⟩
  rcases turn i n H5 w5 with ⟨stop, qq⟩ | ⟨go, Nx, hNx, step⟩
  · refine thnF (T.done (X.blk s3 H3 scope ce fp) rfl rfl rfl hc i [] s5 _ H5 (fun _ _ => False) I5 (stat I5 n5) st5 stop) fun r s6 ⟨hr, I6⟩ => ?_
    subst hr
    have I7 : Inv X pins σ H5 s6 := I3.call' (ch := fp) I6.os I6.base I6.hok I6.bare fun b hb => ⟨(f3 b hb).1.2.2.2.1, (f3 b hb).1.2.1, (f3 b hb).1.2.2.2.2.1, (f3 b hb).1.2.2.2.2.2⟩
    have nC : H5 ce.locals = none := I6.free
    obtain ⟨m, hn, _⟩ := I6.loc
    have hn' : s6.heap.Ns ce.locals m := hn
    rw [cL] at hn' nC
    refine ⟨m, hn', fun h'' sb => ?_⟩
    obtain ⟨c0, c1, c2, c3, c4, c5⟩ := I3.fpOk (Nat.le_refl s3.heap.objs.size) nC
    exact ⟨.ref D, H5, I7.turned (t' := s6.toks) (fun b o hb e => (sb.2 b hb).trans e) c0 c1 c3 c4 c5, rfl, qq⟩
  · refine thnF (T.item (X.blk s3 H3 scope ce fp) rfl rfl rfl hc i [] s5 _ H5 (fun _ _ => False) I5 (stat I5 n5) st5 go) fun r s6 ⟨u, hr, h6⟩ => ?_
    subst hr
    refine thnF h6 fun _ s7 ⟨x, H7, I7, r7, y7, st7, n7⟩ => ?_
    refine thnF (pg.run _ s7 _ H7 x u _ (I7.pinned (stat I7 n7) (T.obj _ _ st7)) r7 (step x H7 y7)) fun _ s8 ⟨σ8, H8, I8, hw8, q8⟩ => ?_
    refine thnF (pt.run _ s8 σ8 H8 _ I8 q8) fun b s9 ⟨H9, I9, q9⟩ => ?_
    have fin : ∀ {s' : Shared} {H' : Hp}, Inv (X.blk s3 H3 scope ce fp) ([] ++ pinsAt fp s7.heap) σ8 H' s' → Nx H' → ∃ m, m < n ∧ ∃ i H', Inv (X.blk s3 H3 scope ce fp) [] (wipe σ (own.map (·.2))) H' s' ∧ tn i s'.heap ∧ (∀ b ∈ fp, H' b = none) ∧ W i m H' := fun {s' H'} I' nx => by
      obtain ⟨m', hm, w'⟩ := hNx H' nx
      have pin : ∀ b ∈ fp, ∀ o, s7.heap.get? b = some o → s'.heap.get? b = some o ∧ H' b = none := fun b hb o e => by
        have z := I'.pin (b, o) (List.mem_append_right _ (List.mem_append_right _ (mem_pinsAt hb e)))
        exact ⟨z.1, z.2.1⟩
      refine ⟨m', hm, i + 1, H', (I'.unpinned (pins := [])).weak (by rw [← hw8, wipe_length]) (fun j v e => ?_), T.keep _ _ _ st7 fun b hb o e => (pin b hb o e).1, fun b hb => ?_, w'⟩
      · rw [← hw8] at e
        exact (wipe_some e).1
      · obtain ⟨o, e, _⟩ := T.obj _ _ st7 b hb
        exact (pin b hb o e).2
    cases b with
    | false =>
      simp only [Bool.false_eq_true, if_false] at q9 ⊢
      exact fin I9 q9
    | true =>
      simp only [if_true] at q9 ⊢
      refine thnF (pv.run _ s9 σ8 H9 _ I9 q9) fun z sV ⟨yv, HV, IV, rV, d, L0, hy, hd, hdp, hDV, hm, room, nx⟩ => ?_
      exact addN_ok (X := X.blk s3 H3 scope ce fp) hu IV hDV hy rV hd hdp hm room fun s12 L1 a1 a2 I12 => fin I12 (nx L1 a1 a2)
/-! ### sorted of a set of data -/
def rSortSN (K : PySem.W.Frag) (w : World) : List V → Hp → VK → Prop := fun vs H Q => ∃ (a : Addr) (L : List (Addr × NestedKey)) (ds : List PyData), vs = [.ref a] ∧ H a = some (SetNO w a L) ∧ DaAll K H (L.map fun p => V.ref p.1) ds ∧ L.map (·.2) = kOfs ds ∧ (∀ d ∈ ds, (kOf d).depth ≤ 8) ∧ Sorts ds ∧
  ∀ (p : Addr) (ys : List V) (M : List PyData), H p = none → M.Perm ds → M.Nodup → M.Pairwise (fun d e => dataLt e d = false) → DaAll K (upd H p (.lst ys)) ys M → Q (.ref p) (upd H p (.lst ys))
theorem vals_refs (L : List (Addr × NestedKey)) : Vals (L.map fun p => V.ref p.1) (L.map fun p => Value.ref p.1) := by
  induction L with
  | nil => exact .nil
  | cons p L ih => exact .cons rfl ih
theorem kOfs_map : ∀ ds : List PyData, kOfs ds = ds.map kOf
  | [] => rfl
  | d :: ds => by rw [kOfs, kOfs_map ds, List.map_cons]
theorem daAll_mem {K : PySem.W.Frag} {H : Hp} : ∀ {L : List (Addr × NestedKey)} {ds : List PyData}, DaAll K H (L.map fun p => V.ref p.1) ds → L.map (·.2) = kOfs ds → ∀ p ∈ L, ∃ d ∈ ds, Da K H (.ref p.1) d ∧ p.2 = kOf d
  | [], _, _, _, p, hp => nomatch hp
  | q :: L, ds, h, e, p, hp => by
    cases h with
    | @cons _ _ d ds h1 h2 =>
      rw [kOfs, List.map_cons, List.cons.injEq] at e
      rcases List.mem_cons.mp hp with rfl | hp
      · exact ⟨d, List.mem_cons_self, h1, e.1⟩
      · obtain ⟨d', h3, r⟩ := daAll_mem h2 e.2 p hp
        exact ⟨d', List.mem_cons_of_mem _ h3, r⟩
theorem immAll_mem : ∀ {ds : List PyData}, immAll ds = true → ∀ d ∈ ds, imm d = true
  | [], _, d, h => nomatch h
  | e :: ds, h, d, hd => by
    have h' : (imm e && immAll ds) = true := h
    rw [Bool.and_eq_true] at h'
    rcases List.mem_cons.mp hd with rfl | hd
    · exact h'.1
    · exact immAll_mem h'.2 d hd
theorem cr_sortSN (hc : X.calm = true) (hu : X.A.units + 24 < cLine) : CallR X (.builtin "sorted") (rSortSN X.K X.w) := by
  intro pins s σ H vs us Q I r h
  obtain ⟨a, L, ds, rfl, ha, hd, hk, hdp, hs, q⟩ := h
  obtain rfl := Vals.ref1 r
  have R0 : Set0 X.w s.heap a L := (I.hok a _ ha).1
  have hm : Mem X.K H L := fun p hp => by
    obtain ⟨d, h1, h2, h3⟩ := daAll_mem hd hk p hp
    exact ⟨d, h2, immAll_mem hs.1 d h1, h3, hdp d h1⟩
  obtain ⟨es, ep, t, R⟩ := R0.full (hm.nst I)
  obtain ⟨o, ho, hex, hdt⟩ := R.obj
  obtain ⟨T, e1, e2, e3, hT⟩ := tri_of hd hs.1 (vals_refs L)
  have few := R.few
  have lenT : T.length = L.length := by
    have := congrArg List.length e1
    rwa [List.length_map, List.length_map] at this
  have ndd : ds.Nodup := by
    have n := R.nd
    rw [hk, kOfs_map] at n
    exact List.Pairwise.of_map kOf (fun _ _ hne e => hne (congrArg kOf e)) n
  refine sorted_by hu I T hT (by rw [e3]; exact hs) (by rw [sizeLine_eq]; omega) (fun Qc hq => ?_) (fun p ys M hp pm pw hM => q p ys M hp (by rw [← e3]; exact pm) (by
    rw [e3] at pm
    exact pm.nodup_iff.mpr ndd) pw hM)
  refine collect_set (A := X.A.in1) (I.ok.hd hc) ⟨o, ho, hex.1, hdt⟩ R.fits (by rw [R.size]; unfold scanBound; omega) R.tab.ris R.led fun s1 vs1 k1 hz g1 o1 pm => ?_
  have ee : es.toList.map (·.2) = T.map (·.2.1) := by
    rw [R.rows, e2, List.map_map]
    rfl
  rw [ee] at pm
  obtain ⟨T1, p1, e4⟩ := perm_lift (·.2.1) pm T rfl
  subst e4
  exact hq s1 T1 (I.call' (ch := []) o1 (Un.kept k1) (I.hok.kept k1) (by rw [g1]; exact I.bare) (fun _ z => nomatch z)) p1
end
end NSet

/-! a set comprehension whose members are told ahead -/
namespace NSet
open PySem PySem.Spec PySem.W PyProof.Rows L2 RW9
/-- the members and what they are -/
def MemD (K : PySem.W.Frag) (H : Hp) (L : List (Addr × NestedKey)) (es : List PyData) : Prop := DaAll K H (L.map fun p => V.ref p.1) es ∧ L.map (·.2) = kOfs es
theorem memD_mem {K : PySem.W.Frag} {H : Hp} {L : List (Addr × NestedKey)} {es : List PyData} (h : MemD K H L es) (hi : ∀ e ∈ es, imm e = true ∧ (kOf e).depth ≤ 8) : Mem K H L := fun p hp => by
  obtain ⟨d, h1, h2, h3⟩ := daAll_mem h.1 h.2 p hp
  exact ⟨d, h2, (hi d h1).1, h3, (hi d h1).2⟩
theorem immAll_all {es : List PyData} (h : ∀ e ∈ es, imm e = true) : immAll es = true := immAll_of h
theorem memD_perm {K : PySem.W.Frag} {H : Hp} {L M : List (Addr × NestedKey)} {es : List PyData} (h : MemD K H L es) (hp : M.Perm L) : ∃ fs : List PyData, fs.Perm es ∧ MemD K H M fs := by
  obtain ⟨h1, h2⟩ := h
  have : ∀ {L : List (Addr × NestedKey)} {es : List PyData}, DaAll K H (L.map fun p => V.ref p.1) es → L.map (·.2) = kOfs es → ∃ T : List ((Addr × NestedKey) × PyData), T.map (·.1) = L ∧ T.map (·.2) = es ∧ ∀ t ∈ T, Da K H (.ref t.1.1) t.2 ∧ t.1.2 = kOf t.2 := by
    intro L
    induction L with
    | nil =>
      intro es h1 h2
      cases h1
      exact ⟨[], rfl, rfl, fun t ht => nomatch ht⟩
    | cons p L ih =>
      intro es h1 h2
      cases h1 with
      | @cons _ _ d ds a b =>
        rw [kOfs, List.map_cons, List.cons.injEq] at h2
        obtain ⟨T, e1, e2, e3⟩ := ih b h2.2
        refine ⟨(p, d) :: T, by rw [List.map_cons, e1], by rw [List.map_cons, e2], fun t ht => ?_⟩
        rcases List.mem_cons.mp ht with rfl | ht
        · exact ⟨a, h2.1⟩
        · exact e3 t ht
  obtain ⟨T, e1, e2, e3⟩ := this h1 h2
  subst e1 e2
  obtain ⟨T2, p2, rfl⟩ := perm_lift (·.1) hp T rfl
  refine ⟨T2.map (·.2), p2.map _, ?_, ?_⟩
  · have : ∀ T2 : List ((Addr × NestedKey) × PyData), (∀ t ∈ T2, Da K H (.ref t.1.1) t.2 ∧ t.1.2 = kOf t.2) → DaAll K H ((T2.map (·.1)).map fun p => V.ref p.1) (T2.map (·.2)) := by
      intro T2
      induction T2 with
      | nil => intro _; exact .nil
      | cons t T2 ih => intro h; exact .cons (h t List.mem_cons_self).1 (ih fun u hu => h u (List.mem_cons_of_mem _ hu))
    exact this T2 fun t ht => e3 t (p2.mem_iff.mp ht)
  · rw [kOfs_map, List.map_map, List.map_map]
    exact List.map_congr_left fun t ht => (e3 t (p2.mem_iff.mp ht)).2
theorem sc_if {K : PySem.W.Frag} {w : World} {J : It} {n : Nat} {G : Hp → Prop} {Y : Nat → Hp → V → Hp → Prop} (wk : Walk J n G Y) {g : TG} {tt : TT} {te : TE} {vs : List Nat} {σ : L2.St} {H1 : Hp} {D : Addr} {Qd : Hp → Prop} (hD : H1 D = none) (hn : n < 300) (hG : ∀ H, Same H1 H → G H) (bs : Nat → Bool) (ds : Nat → PyData)
    (hi : ∀ i, i < n → bs i = true → imm (ds i) = true ∧ (kOf (ds i)).depth ≤ 8)
    (step : ∀ i x H H' (Q : VK) (R : Hp → Prop), i < n → Same H1 H → Y i H x H' → (∀ y H4, bs i = true → Same H H4 → (∃ b, y = .ref b ∧ Da K H4 (.ref b) (ds i)) → Q y H4) → (∀ H3, bs i = false → Same H H3 → R H3) →
      g x (wipe σ vs) H' fun σ2 H2 => wipe σ2 vs = wipe σ vs ∧ tt σ2 H2 fun b H3 => if b = true then te σ2 H3 Q else R H3)
    (hd : ∀ H L es, Same H1 H → H D = some (SetNO w D L) → MemD K H L es → (∀ e ∈ es, ∃ i, i < n ∧ bs i = true ∧ e = ds i) → (∀ i, i < n → bs i = true → kOf (ds i) ∈ L.map (·.2)) → L.length ≤ n → Qd H) :
    ∃ W : Nat → Nat → Hp → Prop, (∃ m, W 0 m (upd H1 D (SetNO w D []))) ∧ ∀ i m H, W i m H →
      (J.stop i H ∧ Qd H) ∨ (J.go i H ∧ ∃ Nx : Hp → Prop, (∀ H', Nx H' → ∃ m', m' < m ∧ W (i + 1) m' H') ∧ ∀ x H', J.yld i H x H' → g x (wipe σ vs) H' fun σ2 H2 => wipe σ2 vs = wipe σ vs ∧ tt σ2 H2 fun b H3 =>
        if b = true then te σ2 H3 fun y H4 => ∃ (d : PyData) (L : List (Addr × NestedKey)), (∃ b, y = .ref b ∧ Da K H4 (.ref b) d) ∧ imm d = true ∧ (kOf d).depth ≤ 8 ∧ H4 D = some (SetNO w D L) ∧ Mem K H4 L ∧ L.length + 1 < 300 ∧
          ∀ L', (kOf d ∈ L.map (·.2) → L' = L) → (kOf d ∉ L.map (·.2) → ∃ b, y = .ref b ∧ L'.Perm ((b, kOf d) :: L)) → Nx (upd H4 D (SetNO w D L')) else Nx H3) := by
  refine ⟨fun i m H => m = n - i ∧ i ≤ n ∧ Same H1 H ∧ ∃ L es, H D = some (SetNO w D L) ∧ MemD K H L es ∧ (∀ e ∈ es, ∃ j, j < i ∧ bs j = true ∧ e = ds j) ∧ (∀ j, j < i → bs j = true → kOf (ds j) ∈ L.map (·.2)) ∧ L.length ≤ i,
    ⟨n, by simp, Nat.zero_le _, same_upd hD, [], [], upd_same, ⟨.nil, rfl⟩, (fun e he => nomatch he), (fun j hj => absurd hj (Nat.not_lt_zero _)), Nat.le_refl _⟩, ?_⟩
  rintro i m H ⟨rfl, hin, p1, L, es, hL, hM, h1, h2, h3⟩
  by_cases hlt : i < n
  · refine .inr ⟨wk.goes i H hlt (hG H p1), fun H' => i + 1 ≤ n ∧ Same H1 H' ∧ ∃ L es, H' D = some (SetNO w D L) ∧ MemD K H' L es ∧ (∀ e ∈ es, ∃ j, j < i + 1 ∧ bs j = true ∧ e = ds j) ∧ (∀ j, j < i + 1 → bs j = true → kOf (ds j) ∈ L.map (·.2)) ∧ L.length ≤ i + 1, fun H' q => ⟨n - (i + 1), by omega, rfl, q⟩, fun x H' y => ?_⟩
    refine step i x H H' _ _ hlt p1 (wk.yields i H x H' hlt (hG H p1) y) (fun yv H4 hb e hy => ?_) (fun H3 hb e => ?_)
    · obtain ⟨i1, i2⟩ := hi i hlt hb
      have h1' : ∀ e ∈ es, imm e = true ∧ (kOf e).depth ≤ 8 := fun e he => by
        obtain ⟨j, hj, hbj, rfl⟩ := h1 e he
        exact hi j (by omega) hbj
      have M4 : MemD K H4 L es := ⟨Da.sameAll e _ _ hM.1, hM.2⟩
      have hL4 := e _ _ hL
      refine ⟨ds i, L, hy, i1, i2, hL4, memD_mem M4 h1', by omega, fun L' a1 a2 => ?_⟩
      have st : ST K H4 (upd H4 D (SetNO w D L')) := st_upd hL4 True.intro
      have same : Same H1 (upd H4 D (SetNO w D L')) := (p1.trans e).mut hD
      by_cases hk : kOf (ds i) ∈ L.map (·.2)
      · have := a1 hk
        subst this
        refine ⟨hlt, same, _, es, upd_same, ⟨Da.stAll st _ _ (immAll_all fun e he => (h1' e he).1) M4.1, M4.2⟩, fun e he => ?_, fun j hj hbj => ?_, by omega⟩
        · obtain ⟨j, hj, r⟩ := h1 e he
          exact ⟨j, by omega, r⟩
        · by_cases ej : j = i
          · rw [ej]
            exact hk
          · exact h2 j (by omega) hbj
      · obtain ⟨b, rfl, pm⟩ := a2 hk
        obtain ⟨b2, hb2, hdb⟩ := hy
        cases hb2
        have MC : MemD K H4 ((b, kOf (ds i)) :: L) (ds i :: es) := ⟨.cons hdb M4.1, by rw [List.map_cons, kOfs, M4.2]⟩
        obtain ⟨fs, pf, hf⟩ := memD_perm MC pm
        have hfi : ∀ e ∈ fs, ∃ j, j < i + 1 ∧ bs j = true ∧ e = ds j := fun e he => by
          rcases List.mem_cons.mp (pf.mem_iff.mp he) with z | z
          · exact ⟨i, by omega, hb, z⟩
          · obtain ⟨j, hj, r⟩ := h1 e z
            exact ⟨j, by omega, r⟩
        refine ⟨hlt, same, _, fs, upd_same, ⟨Da.stAll st _ _ (immAll_all fun e he => by
          obtain ⟨j, hj, hbj, rfl⟩ := hfi e he
          exact (hi j (by omega) hbj).1) hf.1, hf.2⟩, hfi, fun j hj hbj => ?_, by rw [pm.length_eq, List.length_cons]; omega⟩
        rw [(pm.map (·.2)).mem_iff, List.map_cons]
        by_cases ej : j = i
        · rw [ej]
          exact List.mem_cons_self
        · exact List.mem_cons_of_mem _ (h2 j (by omega) hbj)
    · refine ⟨hlt, p1.trans e, L, es, e _ _ hL, ⟨Da.sameAll e _ _ hM.1, hM.2⟩, fun x hx => ?_, fun j hj hbj => ?_, by omega⟩
      · obtain ⟨j, hj, r⟩ := h1 x hx
        exact ⟨j, by omega, r⟩
      · by_cases ej : j = i
        · rw [ej] at hbj
          rw [hb] at hbj
          cases hbj
        · exact h2 j (by omega) hbj
  · have e : i = n := by omega
    subst e
    exact .inl ⟨wk.stops H (hG H p1), hd H L es p1 hL hM h1 h2 h3⟩
end NSet

/-! data in which some tuples are known to have no dict of their own (told as lists): tuples that .index is asked of -/
namespace NT
open PySem PySem.Spec PySem.W PyProof.Rows L2
/-- tuples stay, locked ones too -/
structure SF (K : PySem.W.Frag) (H H' : Hp) : Prop where
  t : ∀ (a : Addr) (xs : List V), H a = some (.tup xs) → H' a = some (.tup xs)
  f : ∀ (a : Addr) (o : Obj) (xs : List V), H a = some (.frz o (.tup xs)) → H' a = some (.frz o (.tup xs))
instance {K : PySem.W.Frag} {H H' : Hp} : CoeFun (SF K H H') (fun _ => ∀ (a : Addr) (xs : List V), H a = some (.tup xs) → H' a = some (.tup xs)) := ⟨SF.t⟩
theorem sf_refl {K : PySem.W.Frag} (H : Hp) : SF K H H := ⟨fun _ _ h => h, fun _ _ _ h => h⟩
theorem SF.trans {K : PySem.W.Frag} {H H1 H2 : Hp} (a : SF K H H1) (b : SF K H1 H2) : SF K H H2 := ⟨fun x o h => b.t x o (a.t x o h), fun x o xs h => b.f x o xs (a.f x o xs h)⟩
theorem same_sf {K : PySem.W.Frag} {H H' : Hp} (e : Same H H') : SF K H H' := ⟨fun _ _ h => e _ _ h, fun _ _ _ h => e _ _ h⟩
def NoT : HO → Prop
  | .tup _ => False
  | .frz _ _ => False
  | _ => True
theorem sameB_sf {K : PySem.W.Frag} {H H' : Hp} {p : Addr} {o : HO} (e : SameB p H H') (h : H p = some o) (n : NoT o) : SF K H H' := by
  refine ⟨fun a u q => e a _ (fun z => ?_) q, fun a u xs q => e a _ (fun z => ?_) q⟩
  · subst z
    rw [h] at q
    cases q
    exact n
  · subst z
    rw [h] at q
    cases q
    exact n
theorem sf_upd {K : PySem.W.Frag} {H : Hp} {p : Addr} {o u : HO} (h : H p = some o) (n : NoT o) : SF K H (upd H p u) := sameB_sf SameB.upd h n
mutual
inductive De (K : PySem.W.Frag) (H : Hp) : V → PyData → Prop
  | non : De K H .non .none
  | int (i : Int) : De K H (.int i) (.int i)
  | str (x : Str) : De K H (.str x) (.str x)
  | tup {a : Addr} {xs : List V} {ds : List PyData} : H a = some (.tup xs) → DeAll K H xs ds → De K H (.ref a) (.tuple ds)
  | exa {a : Addr} {o : Obj} {xs : List V} {ds : List PyData} : H a = some (.frz o (.tup xs)) → o.dict = none → DeAll K H xs ds → De K H (.ref a) (.list ds)
inductive DeAll (K : PySem.W.Frag) (H : Hp) : List V → List PyData → Prop
  | nil : DeAll K H [] []
  | cons {v : V} {vs : List V} {d : PyData} {ds : List PyData} : De K H v d → DeAll K H vs ds → DeAll K H (v :: vs) (d :: ds)
end
mutual
theorem De.sf {K : PySem.W.Frag} {H H' : Hp} (e : SF K H H') : ∀ (d : PyData) (v : V), De K H v d → De K H' v d
  | .none, _, h => by
    cases h
    exact .non
  | .bool b, _, h => by cases h
  | .int i, _, h => by
    cases h
    exact .int i
  | .str x, _, h => by
    cases h
    exact .str x
  | .tuple ds, _, h => by
    cases h with
    | tup hs ha => exact .tup (e _ _ hs) (De.sfAll e ds _ ha)
  | .list ds, _, h => by
    cases h with
    | exa hs ho ha => exact .exa (e.f _ _ _ hs) ho (De.sfAll e ds _ ha)
  | .dict _, _, h => by cases h
theorem De.sfAll {K : PySem.W.Frag} {H H' : Hp} (e : SF K H H') : ∀ (ds : List PyData) (vs : List V), DeAll K H vs ds → DeAll K H' vs ds
  | [], _, h => by
    cases h
    exact .nil
  | d :: ds, _, h => by
    cases h with
    | cons h1 h2 => exact .cons (De.sf e d _ h1) (De.sfAll e ds _ h2)
end
theorem De.st {K : PySem.W.Frag} {H H' : Hp} (e : SF K H H') (d : PyData) (v : V) (_ : Nat) (h : De K H v d) : De K H' v d := De.sf e d v h
theorem De.stAll {K : PySem.W.Frag} {H H' : Hp} (e : SF K H H') (ds : List PyData) (vs : List V) (_ : Nat) (h : DeAll K H vs ds) : DeAll K H' vs ds := De.sfAll e ds vs h
theorem De.same {K : PySem.W.Frag} {H H' : Hp} (e : Same H H') (d : PyData) (v : V) (h : De K H v d) : De K H' v d := De.sf (same_sf e) d v h
theorem De.sameAll {K : PySem.W.Frag} {H H' : Hp} (e : Same H H') (ds : List PyData) (vs : List V) (h : DeAll K H vs ds) : DeAll K H' vs ds := De.sfAll (same_sf e) ds vs h
mutual
/-- plain data: nothing is known of the tuples -/
def noL : PyData → Bool
  | .none => true
  | .bool _ => false
  | .int _ => true
  | .str _ => true
  | .tuple ds => noLAll ds
  | .list _ => false
  | .dict _ => false
def noLAll : List PyData → Bool
  | [] => true
  | d :: ds => noL d && noLAll ds
end
mutual
theorem De.da {K : PySem.W.Frag} {H : Hp} : ∀ (d : PyData) (v : V), noL d = true → De K H v d → Da K H v d
  | .none, _, _, h => by
    cases h
    exact .non
  | .bool b, _, _, h => by cases h
  | .int i, _, _, h => by
    cases h
    exact .int i
  | .str x, _, _, h => by
    cases h
    exact .str x
  | .tuple ds, _, n, h => by
    cases h with
    | tup hs ha => exact .tup hs (De.daAll ds _ n ha)
  | .list ds, _, n, _ => by cases n
  | .dict _, _, _, h => by cases h
theorem De.daAll {K : PySem.W.Frag} {H : Hp} : ∀ (ds : List PyData) (vs : List V), noLAll ds = true → DeAll K H vs ds → DaAll K H vs ds
  | [], _, _, h => by
    cases h
    exact .nil
  | d :: ds, _, n, h => by
    have n' : (noL d && noLAll ds) = true := n
    rw [Bool.and_eq_true] at n'
    cases h with
    | cons h1 h2 => exact .cons (De.da d _ n'.1 h1) (De.daAll ds _ n'.2 h2)
end
mutual
theorem De.of {K : PySem.W.Frag} {H : Hp} : ∀ (d : PyData) (v : V), noL d = true → Da K H v d → De K H v d
  | .none, _, _, h => by
    cases h
    exact .non
  | .bool b, _, n, _ => by cases n
  | .int i, _, _, h => by
    cases h
    exact .int i
  | .str x, _, _, h => by
    cases h
    exact .str x
  | .tuple ds, _, n, h => by
    cases h with
    | tup hs ha => exact .tup hs (De.ofAll ds _ n ha)
  | .list ds, _, n, _ => by cases n
  | .dict _, _, _, h => by cases h
theorem De.ofAll {K : PySem.W.Frag} {H : Hp} : ∀ (ds : List PyData) (vs : List V), noLAll ds = true → DaAll K H vs ds → DeAll K H vs ds
  | [], _, _, h => by
    cases h
    exact .nil
  | d :: ds, _, n, h => by
    have n' : (noL d && noLAll ds) = true := n
    rw [Bool.and_eq_true] at n'
    cases h with
    | cons h1 h2 => exact .cons (De.of d _ n'.1 h1) (De.ofAll ds _ n'.2 h2)
end
theorem De.dp {K : PySem.W.Frag} {H : Hp} (d : PyData) (v : V) (h : De K H v d) (n : noL d = true := by rfl) : Dp K H v d := Da.dp _ _ (De.da d v n h)
theorem DeAll.length {K : PySem.W.Frag} {H : Hp} : ∀ {vs : List V} {ds : List PyData}, DeAll K H vs ds → vs.length = ds.length
  | _, _, .nil => rfl
  | _, _, .cons _ t => congrArg (· + 1) (DeAll.length t)
theorem DeAll.snoc {K : PySem.W.Frag} {H : Hp} {v : V} {d : PyData} (h : De K H v d) : ∀ {vs : List V} {ds : List PyData}, DeAll K H vs ds → DeAll K H (vs ++ [v]) (ds ++ [d])
  | _, _, .nil => .cons h .nil
  | _, _, .cons r t => .cons r (DeAll.snoc h t)
theorem DeAll.append {K : PySem.W.Frag} {H : Hp} {us : List V} {es : List PyData} (h : DeAll K H us es) : ∀ {vs : List V} {ds : List PyData}, DeAll K H vs ds → DeAll K H (vs ++ us) (ds ++ es)
  | _, _, .nil => h
  | _, _, .cons r t => .cons r (DeAll.append h t)
theorem DeAll.get {K : PySem.W.Frag} {H : Hp} : ∀ {vs : List V} {ds : List PyData} {i : Nat} {v : V}, DeAll K H vs ds → vs[i]? = some v → ∃ d, ds[i]? = some d ∧ De K H v d
  | _, _, _, _, .nil, e => by simp at e
  | _, _, 0, _, .cons r _, e => by
    simp at e
    subst e
    exact ⟨_, rfl, r⟩
  | _, _, i + 1, v, .cons _ t, e => by
    obtain ⟨d, h1, h2⟩ := DeAll.get (i := i) (v := v) t (by simpa using e)
    exact ⟨d, by simpa using h1, h2⟩
theorem DeAll.at {K : PySem.W.Frag} {H : Hp} : ∀ {vs : List V} {ds : List PyData} {i : Nat} {d : PyData}, DeAll K H vs ds → ds[i]? = some d → ∃ v, vs[i]? = some v ∧ De K H v d
  | _, _, _, _, .nil, e => by simp at e
  | _, _, 0, _, .cons r _, e => by
    simp at e
    subst e
    exact ⟨_, rfl, r⟩
  | _, _, i + 1, d, .cons _ t, e => by
    obtain ⟨v, h1, h2⟩ := DeAll.at (i := i) (d := d) t (by simpa using e)
    exact ⟨v, by simpa using h1, h2⟩
/-- a tuple that can be read, of either kind -/
theorem sqT {K : PySem.W.Frag} {H : Hp} {a : Addr} {o : Obj} {xs : List V} (h : H a = some (.frz o (.tup xs))) : SqT K H a xs := .inl (.inr ⟨o, h⟩)
/-- all elements are data told ahead -/
theorem lc_de {K : PySem.W.Frag} {J : It} {n : Nat} {G : Hp → Prop} {Y : Nat → Hp → V → Hp → Prop} (w : Walk J n G Y) {g : TG} {te : TE} {vs : List Nat} {σ : L2.St} {H1 : Hp} {D : Addr} {Qd : Hp → Prop} (hD : H1 D = none) (hn : n ≤ 100000) (hG : ∀ H, Same H1 H → G H) (ds : List PyData) (hl : ds.length = n) (_ : Nat)
    (step : ∀ i x H H' (Q : VK), i < n → Same H1 H → Y i H x H' → (∀ y H4 d, Same H H4 → ds[i]? = some d → De K H4 y d → Q y H4) → g x (wipe σ vs) H' fun σ2 H2 => wipe σ2 vs = wipe σ vs ∧ te σ2 H2 Q)
    (hd : ∀ H acc, Same H1 H → H D = some (.lst acc) → DeAll K H acc ds → Qd H) : LcGoal J g tYes te vs σ H1 D Qd := by
  refine lc_it w (fun i H => Same H1 H ∧ ∃ acc, H D = some (.lst acc) ∧ DeAll K H acc (ds.take i)) ⟨same_upd hD, [], upd_same, .nil⟩ (fun i H _ p => hG H p.1) (fun i x H H' hi p y => ?_) (fun H p => ?_)
  · obtain ⟨p1, acc, p2, p3⟩ := p
    refine step i x H H' _ hi p1 y fun v H4 d e he hv => ⟨acc, e _ _ p2, ?_, (p1.trans e).mut hD, _, upd_same, ?_⟩
    · rw [p3.length, List.length_take]
      exact Nat.lt_of_le_of_lt (Nat.min_le_left _ _) (Nat.lt_of_lt_of_le hi (Nat.le_trans hn (by decide)))
    · rw [List.take_add_one, he]
      have e4 : H4 D = some (.lst acc) := e _ _ p2
      have st : SF K H4 (upd H4 D (.lst (acc ++ [v]))) := sf_upd e4 True.intro
      exact DeAll.snoc (De.sf st _ _ hv) (De.sfAll ((same_sf e).trans st) _ _ p3)
  · obtain ⟨p1, acc, p2, p3⟩ := p
    rw [List.take_of_length_le (Nat.le_of_eq hl)] at p3
    exact hd H acc p1 p2 p3
section
variable {X : Cx}
/-- tuple(list): the new tuple has no dict -/
abbrev yTupF (K : PySem.W.Frag) : List V → Hp → VK → Prop := fun xs H Q => ∃ p ys, xs = [.ref p] ∧ SqL K H p ys ∧ ∀ l o, H l = none → o.dict = none → Q (.ref l) (upd H l (.frz o (.tup ys)))
theorem call_tuple_ofF : CallR X (.type "tuple") (yTupF X.K) := by
  intro pins s σ H xs us Q I r h
  obtain ⟨p, ys, rfl, hq, q⟩ := h
  obtain ⟨u, rfl, rx⟩ := vals1 r
  cases rx
  obtain ⟨its, r', pl, hz⟩ := I.list hq
  have hlen := r'.length
  refine call_tuple_list pl.isList (fun h' kp => ?_) (by simp only [List.size_toArray]; omega)
  have I1 : Inv X pins σ H { s with heap := h' } := I.kept (t' := s.toks) kp
  generalize hob : ({ cls := .type "tuple", data := .seq its.toArray } : Obj) = ob
  have hd : ob.dict = none := by rw [← hob]
  have hg : (h'.push ob).get? h'.objs.size = some ob := Heap.get?_push_size _ (by rw [← hob]; rfl)
  have I2 : Inv X pins σ (upd H h'.objs.size (.frz ob (.tup ys))) { s with heap := h'.push ob } :=
    I1.laid (t' := s.toks) (fun b o e => Heap.get?_push_of_some _ e) (Nat.le_refl _) (show ObjOk X.prog X.w _ _ _ (.frz ob (.tup ys)) from ⟨hg, hz, its, r', ⟨ob, hg, by rw [← hob], 0, by rw [← hob]⟩⟩)
  exact ⟨.ref h'.objs.size, _, I2, rfl, q _ ob (I1.hok.fresh (Nat.le_refl _)) hd⟩
/-- t.m(e, ..) of a tuple without a dict -/
def tBMF (r : V → List V → Hp → VK → Prop) (to : TE) (t : TA) : TE := fun σ H Q => to σ H fun x H1 => (∃ a o xs, x = .ref a ∧ H1 a = some (.frz o (.tup xs)) ∧ o.dict = none) ∧ t σ H1 fun xs H2 => r x xs H2 Q
theorem pe_bmF {o e : Expr} {es : List Expr} {to : TE} {t : TA} {name : Str} {apos cpos : Pos} {id : String} {r : V → List V → Hp → VK → Prop} (pa : PlainAttrs "tuple") (slot : Slot "tuple" name id) (hty : typeOf (.builtin id) = pure (.type "method_descriptor")) (hm : MtR X id r) (ho : PE X o to) (ha : PA X (e :: es) t)
    (hbase : attributeBase o name X.env (eval o X.env) = eval o X.env := by rfl)
    (hfew : ((backTo cpos (starEach (e :: es) X.env)).all (fun x => !x.1) && (backToKw cpos (keywordEach [] X.env)).all (fun x => x.1.isSome)
      && decide ((e :: es).length + ([] : List Keyword).length + (if ([] : List Keyword).isEmpty then 0 else 1) < 30)) = true := by rfl)
    (hline : (apos.endLine == cpos.line) = true := by rfl) (hs : starEach (e :: es) X.env = (false, eval e X.env) :: starEach es X.env := by rfl) (hplain : (backTo cpos (starEach es X.env)).any (·.1) = false := by rfl) :
    PE X (.Call (.Attribute o name apos) (e :: es) [] cpos) (tBMF r to t) := by
  refine ⟨fun pins s σ H Q I h => ?_⟩
  refine wpAny_Call_method_late hbase hfew hline rfl (thn (ho.run pins s σ H _ I h) fun v s1 ⟨x, H1, I1, r1, ⟨a, ob, xs, ex, hx, hd⟩, q1⟩ => ?_)
  subst ex
  obtain rfl : v = Value.ref a := r1
  obtain ⟨hg, _, its, _, o2, hg2, hc, _⟩ := I1.hok a _ hx
  obtain rfl : o2 = ob := Option.some.inj (hg2.symm.trans hg)
  refine ⟨"tuple", id, pa, slot, hty, ⟨o2, hg, hc⟩, fun b eb => ?_, ?_⟩
  · cases eb
    exact ⟨o2, hg, hd⟩
  · have hA := ha.run cpos pins s1 σ H1 _ I1 q1
    rw [hs] at hA ⊢
    refine Calls.callWith_builtin (by show (false || (backTo cpos (starEach es X.env)).any (·.1)) = false; rw [hplain]; rfl) (Calls.evalArgs_plain ?_)
    exact thn hA fun us s2 ⟨vs, H2, I2, r2, q2⟩ => hm pins s2 σ H2 (.ref a) vs (.ref a) us Q I2 rfl r2 q2
/-- t.index(x): the first place of an equal one -/
def rIndexX (K : PySem.W.Frag) : V → List V → Hp → VK → Prop := fun x xs H Q => ∃ (a : Addr) (us : List V) (y : V) (d : PyData) (ds : List PyData) (j : Nat) (z : PyData), x = .ref a ∧ xs = [y] ∧ SqT K H a us ∧ DaAll K H us ds ∧ Da K H y d ∧ immAll ds = true ∧ imm d = true ∧ d.depth ≤ 16 ∧
  ds[j]? = some z ∧ PyData.eqv z d = true ∧ (∀ (m : Nat) (e : PyData), m < j → ds[m]? = some e → PyData.eqv e d = false) ∧ Q (.int (j : Nat)) H
theorem mt_indexX (hu : X.A.units + 65 < cLine) : MtR X "tuple.index" (rIndexX X.K) := by
  intro pins s σ H x xs v us Q I rx rxs h
  obtain ⟨a, ws, y, d, ds, j, z, rfl, rfl, hs, ha, hy, il, id', dp, hz, hzj, hno, q⟩ := h
  obtain ⟨uy, rfl, ry⟩ := vals1 rxs
  obtain ⟨bs, r1⟩ := Dp.reads I d y uy (Da.dp _ _ hy) ry
  cases rx
  obtain ⟨its, rv, ⟨⟨cls, dd, data, sls⟩, ho, hc, n, hdt⟩, hlen⟩ := I.tuple hs
  simp only at hc hdt
  subst hc hdt
  obtain ⟨as, h4⟩ := Dp.readsAll I ds _ its (Da.dpAll _ _ ha) rv
  have pl := NSet.imm_plainAll ds il
  have hmap : its.map (SeqAt.readOf s.heap) = ds := SeqAt.readsAll_map_plain ds its as pl h4
  obtain ⟨hjd, _⟩ := List.getElem?_eq_some_iff.mp hz
  have hn : its.length = ds.length := by rw [← hmap, List.length_map]
  have hj : j < its.toArray.size := by
    rw [List.size_toArray]
    omega
  have at_ : ∀ (m : Nat) (hm : m < its.toArray.size) (z' : PyData), ds[m]? = some z' → SeqAt.readOf s.heap its.toArray[m] = z' := by
    intro m hm z' hz'
    have hml : m < its.length := by simpa using hm
    rw [← hmap, List.getElem?_map, List.getElem?_eq_getElem hml] at hz'
    have e1 : SeqAt.readOf s.heap its[m] = z' := Option.some.inj hz'
    simpa using e1
  refine call_meets PySem.F.slot_tuple_index ⟨_, ho, rfl⟩ PySem.F.entry_tuple_index (PySem.F.args_tuple_index_2 _ _) (TI.tuple_indexAt a its.toArray n dd sls uy (fun u => PyData.eqv (SeqAt.readOf s.heap u) d) j hj ?_ ?_)
    ⟨ho, SeqAt.items_plain (vs := its.toArray) (show ReadsAll s.heap its.toArray.toList ds as from h4) r1 pl (NSet.imm_plain d id') (by have := Nat.min_le_right (PyData.depthAll ds) d.depth; omega), ⟨.int (j : Nat), H, I.tok _, ⟨_, rfl⟩, q⟩⟩
  · show PyData.eqv (SeqAt.readOf s.heap its.toArray[j]) d = true
    rw [at_ j hj z hz]
    exact hzj
  · intro m hm hmj
    have hmd : m < ds.length := by rw [List.size_toArray] at hm; omega
    show PyData.eqv (SeqAt.readOf s.heap its.toArray[m]) d = false
    rw [at_ m hm _ (List.getElem?_eq_getElem hmd)]
    exact hno m _ hmj (List.getElem?_eq_getElem hmd)
/-- x in t, t a tuple of data -/
def rInX (K : PySem.W.Frag) : R2 := fun x y H Q => ∃ d a us ds, Da K H x d ∧ y = .ref a ∧ SqT K H a us ∧ DaAll K H us ds ∧ imm d = true ∧ immAll ds = true ∧ d.depth ≤ 16 ∧ Q (.bl (ds.any fun z => PyData.eqv z d)) H
theorem op_inX (hu : X.A.units + 65 < cLine) : OpR X (compareOp .In) (rInX X.K) := by
  intro pins s σ H x y v u Q I rx ry h
  obtain ⟨d, a, us, ds, hd, rfl, hs, ha, sd, se, dp, q⟩ := h
  obtain ⟨as, r1⟩ := Dp.reads I d x v (Da.dp _ _ hd) rx
  obtain ⟨bs, r2⟩ := Dp.reads I (.tuple ds) (.ref a) u (.tup hs (Da.dpAll _ _ ha)) ry
  exact SeqAt.in_tuple_data r2 r1 (NSet.imm_plainAll ds se) (NSet.imm_plain d sd) (by have := Nat.min_le_right (PyData.depthAll ds) d.depth; omega) ⟨.bl _, H, I, rfl, q⟩
end
end NT

/-! dicts with data as keys; the least of a list of data -/
namespace NSet
open PySem PySem.Spec PySem.W PyProof.Rows L2
/-- a row: the key, where it stands, where the value stands -/
abbrev DRow := NestedKey × Addr × Addr
def entD (w : World) (x : DRow) : DictEntry := ⟨x.1.hash w, .ref x.2.1, .ref x.2.2⟩
def rowOf (x : DRow) : NestedKey × Addr × Value := (x.1, x.2.1, .ref x.2.2)
def Dict0 (w : World) (h : Heap) (a : Addr) (L : List DRow) : Prop :=
  ∃ es ep, (∃ o, h.get? a = some o ∧ o.ExactDict ∧ o.data = .dict es ep) ∧ es.toList = L.map (entD w) ∧ (L.map (·.1)).Nodup ∧ L.length ≤ sizeLine ∧ (a == sysModules) = false
def DictNO (w : World) (a : Addr) (L : List DRow) : HO := .ext fun h => Dict0 w h a L
def storedN (L : List DRow) (k : NestedKey) (a v : Addr) : List DRow :=
  if (L.find? fun x => decide (x.1 = k)).isSome = true then L.map (fun x => if x.1 = k then (x.1, x.2.1, v) else x) else L ++ [(k, a, v)]
theorem storedN_rows (L : List DRow) (k : NestedKey) (a v : Addr) : (storedN L k a v).map rowOf = storedH (L.map rowOf) k a (.ref v) := by
  unfold storedN storedH
  have e : (atKey (L.map rowOf) k).isSome = (L.find? fun x => decide (x.1 = k)).isSome := by
    unfold atKey
    rw [List.find?_map, Option.isSome_map, Option.isSome_map]
    rfl
  rw [e]
  by_cases c : (L.find? fun x => decide (x.1 = k)).isSome = true
  · rw [if_pos c, if_pos c, List.map_map, List.map_map]
    refine List.map_congr_left fun x _ => ?_
    show rowOf (if x.1 = k then (x.1, x.2.1, v) else x) = putAt k (.ref v) (rowOf x)
    unfold putAt rowOf
    by_cases z : x.1 = k
    · rw [if_pos z, if_pos z]
    · rw [if_neg z, if_neg z]
  · rw [if_neg c, if_neg c, List.map_append]
    rfl
theorem storedN_len (L : List DRow) (k : NestedKey) (a v : Addr) : (storedN L k a v).length ≤ L.length + 1 := by
  unfold storedN
  split
  · rw [List.length_map]
    exact Nat.le_succ _
  · rw [List.length_append]
    exact Nat.le_refl _
/-- what stands in the dict behind a store -/
theorem storedN_mem {L : List DRow} {k : NestedKey} {a v : Addr} {x : DRow} (h : x ∈ storedN L k a v) : (x ∈ L ∧ x.1 ≠ k) ∨ (x.1 = k ∧ x.2.2 = v ∧ (x.2.1 = a ∨ ∃ y ∈ L, y.1 = k ∧ y.2.1 = x.2.1)) := by
  unfold storedN at h
  split at h
  · obtain ⟨y, hy, rfl⟩ := List.mem_map.mp h
    by_cases z : y.1 = k
    · rw [if_pos z]
      exact .inr ⟨z, rfl, .inr ⟨y, hy, z, rfl⟩⟩
    · rw [if_neg z]
      exact .inl ⟨hy, z⟩
  · rename_i c
    rcases List.mem_append.mp h with h | h
    · refine .inl ⟨h, fun z => c ?_⟩
      rw [List.find?_isSome]
      exact ⟨x, h, by simpa using z⟩
    · rw [List.mem_singleton] at h
      subst h
      exact .inr ⟨rfl, rfl, .inl rfl⟩
theorem storedN_old {L : List DRow} {k : NestedKey} {a v : Addr} {x : DRow} (h : x ∈ L) (n : x.1 ≠ k) : x ∈ storedN L k a v := by
  unfold storedN
  split
  · exact List.mem_map.mpr ⟨x, h, by rw [if_neg n]⟩
  · exact List.mem_append_left _ h
theorem storedN_new (L : List DRow) (k : NestedKey) (a v : Addr) : ∃ x ∈ storedN L k a v, x.1 = k ∧ x.2.2 = v := by
  unfold storedN
  split
  · rename_i c
    rw [List.find?_isSome] at c
    obtain ⟨x, hx, e⟩ := c
    have e' : x.1 = k := by simpa using e
    exact ⟨(x.1, x.2.1, v), List.mem_map.mpr ⟨x, hx, by rw [if_pos e']⟩, e', rfl⟩
  · exact ⟨_, List.mem_append_right _ (List.mem_singleton.mpr rfl), rfl, rfl⟩
section
variable {P : Program} {w : World} {h : Heap} {a : Addr} {L : List DRow}
theorem Dict0.full (R : Dict0 w h a L) (hk : ∀ x ∈ L, Nst h x.1 x.2.1) : h.DictOfH (nestedKind P w) a (L.map rowOf) := by
  obtain ⟨es, ep, ⟨o, ho, hx, hd⟩, he, hn, _⟩ := R
  refine ⟨o, es, ep, ho, hx, hd, ?_, fun x hx => ?_, ?_⟩
  · rw [he, List.map_map]
    rfl
  · obtain ⟨y, hy, rfl⟩ := List.mem_map.mp hx
    exact hk y hy
  · rw [List.map_map]
    exact hn
theorem Dict0.of (hm : h.DictOfH (nestedKind P w) a (L.map rowOf)) (hz : L.length ≤ sizeLine) (hs : (a == sysModules) = false) : Dict0 w h a L := by
  obtain ⟨o, es, ep, ho, hx, hd, he, _, hn⟩ := hm
  rw [List.map_map] at he hn
  exact ⟨es, ep, ⟨o, ho, hx, hd⟩, he, hn, hz, hs⟩
theorem dictNO_new {H : Hp} (R : Dict0 w h a L) : ObjOk P w H h a (DictNO w a L) := by
  have ⟨_, _, ⟨o, ho, _⟩, _⟩ := R
  exact ⟨R, ⟨o, ho⟩, fun h1 h2 ⟨es, ep, ⟨o, ho, r⟩, q⟩ k => ⟨es, ep, ⟨o, k o ho, r⟩, q⟩⟩
end
section
variable {X : Cx} {pos : Pos}
/-- the keys, as the abstract heap has them -/
def MemK (K : PySem.W.Frag) (H : Hp) (L : List DRow) : Prop := ∀ x ∈ L, ∃ d, Da K H (.ref x.2.1) d ∧ imm d = true ∧ x.1 = kOf d ∧ (kOf d).depth ≤ 8
theorem MemK.nst {pins : List (Addr × Obj)} {σ : L2.St} {H : Hp} {s : Shared} (I : Inv X pins σ H s) {L : List DRow} (m : MemK X.K H L) : ∀ x ∈ L, Nst s.heap x.1 x.2.1 := fun x hx => by
  obtain ⟨d, hd, i, e, dp⟩ := m x hx
  rw [e]
  exact ⟨nest_of I d _ _ hd i rfl, dp⟩
theorem MemK.stored {K : PySem.W.Frag} {H : Hp} {L : List DRow} (m : MemK K H L) {b v : Addr} {d : PyData} (hb : Da K H (.ref b) d) (hd : imm d = true) (dp : (kOf d).depth ≤ 8) : MemK K H (storedN L (kOf d) b v) := fun x hx => by
  rcases storedN_mem hx with ⟨h, _⟩ | ⟨e, _, h | ⟨y, hy, ey, e2⟩⟩
  · exact m x h
  · rw [h]
    exact ⟨d, hb, hd, e, dp⟩
  · obtain ⟨d2, a1, a2, a3, a4⟩ := m y hy
    rw [← e2]
    exact ⟨d2, a1, a2, by rw [← a3, e, ey], a4⟩
def tDNewN (w : World) : TE := fun _ H Q => ∀ p, H p = none → Q (.ref p) (upd H p (DictNO w p []))
theorem pe_dnewN : PE X (.Dict [] [] pos) (tDNewN X.w) := ⟨fun pins s σ H Q I h =>
  wpAny_Dict_empty ⟨.ref s.heap.objs.size, _, I.laid (a := s.heap.objs.size) (o := DictNO X.w s.heap.objs.size []) (t' := s.toks) (fun _ _ q => Heap.get?_push_of_some _ q) (Nat.le_refl _)
    (dictNO_new ⟨#[], 0, ⟨_, Heap.get?_push_size _ rfl, ⟨rfl, rfl, rfl⟩, rfl⟩, rfl, List.nodup_nil, Nat.zero_le _, beq_eq_false_iff_ne.mpr (Ne.symm (Nat.ne_of_lt I.big))⟩), rfl, h _ (I.hok.fresh (Nat.le_refl _))⟩⟩
/-- d[y] = v, d a dict with data as keys, y and v tuples or other objects -/
def sDPutN (K : PySem.W.Frag) (w : World) (td ty tv : TE) : TS := fun D σ H => tv σ H fun v H1 => td σ H1 fun x H2 => ty σ H2 fun y H3 => ∃ (a b vb : Addr) (L : List DRow) (d : PyData), x = .ref a ∧ y = .ref b ∧ v = .ref vb ∧ H3 a = some (DictNO w a L) ∧ MemK K H3 L ∧
  Da K H3 (.ref b) d ∧ imm d = true ∧ (kOf d).depth ≤ 8 ∧ L.length < sizeLine ∧ D.nx σ (upd H3 a (DictNO w a (storedN L (kOf d) b vb)))
variable {o i value : Expr} {pos' : Pos} {td ty tv : TE}
theorem ps_dputN (hu : X.A.units + 24 < cLine) (ho : PE X o td) (hi : PE X i ty) (hv : PE X value tv) (hs : swapsWith value (some (.Subscript o i pos')) pos.line X.env = pure false := by rfl) :
    PS X (.Assign [.Subscript o i pos'] value pos) (sDPutN X.K X.w td ty tv) := by
  refine ⟨fun pins s σ H D I h => ?_⟩
  refine wpAny_Assign_Subscript (thn (hv.run pins s σ H _ I h) fun r s1 ⟨v, H1, I1, rv, q1⟩ => thn (ho.run pins s1 σ H1 _ I1 q1) fun u s2 ⟨x, H2, I2, rx, q2⟩ => thn (hi.run pins s2 σ H2 _ I2 q2) fun iv s3 ⟨y, H3, I3, ry, a, b, vb, L, d, ex, ey, ev, ha, hm, hd, himm, dp, hl, q3⟩ => ?_) hs
  subst ex ey ev
  obtain rfl : u = Value.ref a := rx
  obtain rfl : iv = Value.ref b := ry
  obtain rfl : r = Value.ref vb := rv
  have R0 : Dict0 X.w s3.heap a L := (I3.hok a _ ha).1
  obtain ⟨_, _, _, _, _, _, hsys⟩ := id R0
  have hx : Nst s3.heap (kOf d) b := ⟨nest_of I3 d _ _ hd himm rfl, dp⟩
  have hu1 : X.A.in1.units + 8 < cLine := by
    have e1 : X.A.in1.units = X.A.units + 1 := rfl
    omega
  refine wpAny_setItem_heap (knd := nestedKind X.prog X.w) (xs := L.map rowOf) hu1 hx (R0.full (hm.nst I3)) (fun h' hm' sb => ?_) (by rw [List.length_map]; omega)
  rw [← storedN_rows] at hm'
  have R1 : Dict0 X.w h' a (storedN L (kOf d) b vb) := .of hm' (Nat.le_trans (storedN_len _ _ _ _) hl) hsys
  obtain ⟨_, _, ⟨o2, ho2, _⟩, _⟩ := id R1
  exact ⟨σ, _, I3.write (e := a) (by rw [ha]; trivial) (.inl rfl) (fun c u hc hu => (sb.2 c hc).trans hu) ⟨o2, ho2⟩ (dictNO_new R1), q3⟩
/-! ### list(d.values()) -/
def tValuesN (w : World) (td : TE) : TE := fun σ H Q => td σ H fun x H1 => ∃ (a : Addr) (L : List DRow), x = .ref a ∧ H1 a = some (DictNO w a L) ∧ ∀ v, H1 v = none → Q (.ref v) (upd H1 v (viewO "dict_values" v a))
theorem pe_valuesN {apos cpos : Pos} (ho : PE X o td) (hbase : attributeBase o "values" X.env (eval o X.env) = eval o X.env := by rfl) (hline : (apos.endLine == cpos.line) = true := by rfl) : PE X (.Call (.Attribute o "values" apos) [] [] cpos) (tValuesN X.w td) := by
  refine ⟨fun pins s σ H Q I h => ?_⟩
  refine wpAny_Call_method0_late hbase hline (thn (ho.run pins s σ H _ I h) fun v s1 ⟨x, H1, I1, r1, a, L, ex, ha, q⟩ => ?_)
  subst ex
  obtain rfl : v = Value.ref a := r1
  have R0 : Dict0 X.w s1.heap a L := (I1.hok a _ ha).1
  obtain ⟨es, ep, ⟨ob, hob, hex, hdat⟩, _, _, _, hsys⟩ := R0
  refine ⟨"dict", "dict.values", PySem.F.plainAttrs_dict, PySem.F.slot_dict_values, PySem.F.type_dict_values, ⟨ob, hob, hex.1⟩, fun b e => ?_, Calls.callWith_builtin rfl (PySem.evalArgs_none ?_)⟩
  · cases e
    exact ⟨ob, hob, hex.2.1⟩
  refine wpAny_call_entry PySem.F.slot_dict_values ⟨ob, hob, hex.1⟩ PySem.F.entry_dict_values ?_ (PySem.F.args_dict_values_1 _)
  refine wpAny_bind ?_
  unfold Builtin.Dict.noArgs
  refine wpAny_bind (wpAny_notOrdered_dict ⟨ob, hob, hex.1⟩ ?_)
  show wpAny _ _ (pure a) _ _ s1
  refine wpAny_pure ?_
  show wpAny _ _ (Builtin.Dict.showsAll a >>= _) _ _ s1
  unfold Builtin.Dict.showsAll
  rw [if_neg (by rw [hsys]; exact Bool.false_ne_true)]
  refine wpAny_bind (wpAny_pure ?_)
  have hnew := I1.hok.fresh (Nat.le_refl s1.heap.objs.size)
  exact wpAny_bind (wpAny_newObj_type (wpAny_pure ⟨_, rfl, .ref s1.heap.objs.size, _, I1.laid (t' := s1.toks) (fun b u e => Heap.get?_push_of_some _ e) (Nat.le_refl _) (viewO_ok (p := s1.heap.objs.size) (Heap.get?_push_size _ rfl)), rfl, q _ hnew⟩))
theorem values_src {prog : Program} {w : World} {r d : Addr} {ob : Obj} {es : Array DictEntry} {ep : Nat} (hdd : ob.data = .dict es ep) : KdlSrc prog w "dict_values" r d es.size (fun i v => ∃ e, es[i]? = some e ∧ v = e.val) (fun h => h.get? r = some (DSub.viewOb "dict_values" d) ∧ h.get? d = some ob) where
  type := fun _ hm => ⟨_, hm.1, rfl⟩
  there := fun _ hm => ⟨Heap.lt_size hm.1, Heap.lt_size hm.2⟩
  keep := fun _ _ hm hk => ⟨hk r (.inl rfl) _ hm.1, hk d (.inr rfl) _ hm.2⟩
  notList := by decide
  notTuple := by decide
  hint := fun _ _ _ _ hm hq => kdl_hint_values ⟨_, hm.1, rfl⟩ hq
  iter := fun A s hh hm => ⟨DVw.valOb d 0 es.size ep, _, (fun _ _ hq => DSub.iter_vals hm.1 hm.2 hdd hq), DSub.walksVal (P := fun i v => ∃ e, es[i]? = some e ∧ v = e.val) hh (Nat.ne_of_lt (Heap.lt_size hm.2)) hdd (fun i e h => ⟨e, h, rfl⟩), ⟨Heap.get?_push_size _ rfl, Heap.get?_push_of_some _ hm.2⟩⟩
def rListV (w : World) : List V → Hp → VK → Prop := fun xs H Q => ∃ (p a : Addr) (L : List DRow), xs = [.ref p] ∧ H p = some (viewO "dict_values" p a) ∧ H a = some (DictNO w a L) ∧ ∀ q, H q = none → Q (.ref q) (upd H q (.lst (L.map fun x => V.ref x.2.2)))
theorem call_listV (hc : X.calm = true) : CallR X (.type "list") (rListV X.w) := by
  intro pins s σ H xs us Q I r h
  obtain ⟨p, a, L, rfl, hp, ha, q⟩ := h
  obtain ⟨u, rfl, rx⟩ := vals1 r
  obtain rfl : u = Value.ref p := rx
  have hv : s.heap.get? p = some (DSub.viewOb "dict_values" a) := (show ObjOk X.prog X.w H s.heap p (viewO "dict_values" p a) from I.hok p _ hp).1
  have R0 : Dict0 X.w s.heap a L := (I.hok a _ ha).1
  obtain ⟨es, ep, ⟨ob, hob, hex, hdat⟩, he, _, hz, _⟩ := R0
  have sz : es.size = L.length := by rw [← Array.length_toList, he, List.length_map]
  refine kdl_call (values_src hdat) (I.ok.hd hc) ⟨hv, hob⟩ (by rw [sz]; exact hz) fun h' tk acc' c' hkeep hS hacc => ?_
  refine ⟨.ref s.heap.objs.size, upd H s.heap.objs.size (.lst (L.map fun x => V.ref x.2.2)), I.laid hkeep (Nat.le_refl _) (show ObjOk X.prog X.w _ _ _ (.lst (L.map fun x => V.ref x.2.2)) from ⟨?_, acc'.toList, c', ?_, ?_⟩), rfl, q _ (I.hok.fresh (Nat.le_refl _))⟩
  · rw [List.length_map]
    exact hz
  · have el : acc'.toList.length = acc'.size := by simp
    refine vals_of_at (by rw [List.length_map, el, hacc.1, sz]) fun j x w h1 h2 => ?_
    obtain ⟨e, hj, rfl⟩ := hacc.2 j w (by rw [← Array.getElem?_toList]; exact h2)
    rw [← Array.getElem?_toList, he, List.getElem?_map] at hj
    rw [List.getElem?_map] at h1
    cases hL : L[j]? with
    | none =>
      rw [hL] at h1
      cases h1
    | some y =>
      rw [hL] at h1 hj
      cases h1
      cases hj
      rfl
  · rw [Array.toArray_toList]
    exact hS
end
end NSet

/-! the least of a list of data; sorted of a tuple of data -/
namespace NSet
open PySem PySem.Spec PySem.W PyProof.Rows L2 RW9
theorem swoD : SrtO.Swo dataLt := by
  have ir := (listOrd itemOrd).irrefl
  refine ⟨fun x y h => ?_, fun x y z h1 h2 => ?_⟩
  · show (listOrd itemOrd).blt (keyToks y) (keyToks x) = false
    cases e : (listOrd itemOrd).blt (keyToks y) (keyToks x) with
    | false => rfl
    | true => exact absurd ((listOrd itemOrd).trans _ _ _ h e) (by rw [ir]; exact Bool.false_ne_true)
  · show (listOrd itemOrd).blt (keyToks z) (keyToks x) = false
    cases e : (listOrd itemOrd).blt (keyToks z) (keyToks x) with
    | false => rfl
    | true =>
      rcases (listOrd itemOrd).negTrans _ (keyToks y) _ e with q | q
      · exact absurd (q.symm.trans h2) (by decide)
      · exact absurd (q.symm.trans h1) (by decide)
theorem minD_spec : ∀ (xs : List PyData) (x : PyData), minD x xs ∈ x :: xs ∧ ∀ e ∈ x :: xs, dataLt e (minD x xs) = false
  | [], x => ⟨List.mem_singleton.mpr rfl, fun e he => by
    rw [List.mem_singleton.mp he]
    exact swoD.refl x⟩
  | y :: ys, x => by
    obtain ⟨h1, h2⟩ := minD_spec ys (if dataLt y x = true then y else x)
    have e : minD x (y :: ys) = minD (if dataLt y x = true then y else x) ys := rfl
    rw [e]
    generalize minD (if dataLt y x = true then y else x) ys = m at h1 h2 ⊢
    by_cases c : dataLt y x = true
    · rw [if_pos c] at h1 h2
      refine ⟨List.mem_cons_of_mem _ h1, fun u hu => ?_⟩
      rcases List.mem_cons.mp hu with rfl | hu
      · exact swoD.tr m y _ (h2 y List.mem_cons_self) (swoD.asym _ _ c)
      · exact h2 u hu
    · rw [if_neg c] at h1 h2
      refine ⟨?_, fun u hu => ?_⟩
      · rcases List.mem_cons.mp h1 with h | h
        · rw [h]
          exact List.mem_cons_self
        · exact List.mem_cons_of_mem _ (List.mem_cons_of_mem _ h)
      · rcases List.mem_cons.mp hu with rfl | hu
        · exact h2 _ List.mem_cons_self
        · rcases List.mem_cons.mp hu with rfl | hu
          · exact swoD.tr m x _ (h2 x List.mem_cons_self) (by simpa using c)
          · exact h2 u (List.mem_cons_of_mem _ hu)
theorem depthAll_le {n : Nat} : ∀ ds : List PyData, (∀ d ∈ ds, d.depth ≤ n) → PyData.depthAll ds ≤ n
  | [], _ => Nat.zero_le _
  | d :: ds, h => Nat.max_le.mpr ⟨h d List.mem_cons_self, depthAll_le ds fun e he => h e (List.mem_cons_of_mem _ he)⟩
section
variable {X : Cx}
/-- min(l), l a list of data, one at least -/
def rMinD (K : PySem.W.Frag) : List V → Hp → VK → Prop := fun vs H Q => ∃ (a : Addr) (lv : List V) (ds : List PyData), vs = [.ref a] ∧ SqL K H a lv ∧ DaAll K H lv ds ∧ (∀ d ∈ ds, ∀ e ∈ ds, alike d e = true) ∧ (∀ d ∈ ds, d ≠ .none) ∧ (∀ d ∈ ds, d.depth ≤ 16) ∧ ds ≠ [] ∧
  ∀ (v : V) (m : PyData), v ∈ lv → Da K H v m → m ∈ ds → (∀ e ∈ ds, dataLt e m = false) → Q v H
theorem cr_minD (hc : X.calm = true) (hu : X.A.units + 64 < cLine) : CallR X (.builtin "min") (rMinD X.K) := by
  intro pins s σ H vs us Q I r h
  obtain ⟨a, lv, ds, rfl, hs, hd, hal, hnn, hdp, hne, q⟩ := h
  rw [Vals.ref1 r]
  obtain ⟨its, rv, pl, hz⟩ := I.list hs
  obtain ⟨as, hr⟩ := Dp.readsAll I ds lv its (Da.dpAll _ _ hd) rv
  cases ds with
  | nil => exact absurd rfl hne
  | cons x xs =>
    have hd1 := depthAll_le (x :: xs) hdp
    refine PySem.W.min_list_data (vs := its.toArray) (I.ok.hd hc) pl.isList (by simpa using hr) ⟨hal, hnn⟩ (by omega) fun i v h' tk bs hv hrd k => ?_
    have hv' : its[i]? = some v := by simpa using hv
    obtain ⟨bs', r1, hi, _, _⟩ := PySem.W.readsAll_at hr i v hv'
    have r' := PySem.W.reads_keeps k r1
    have eu := (Reads.unique r' _ _ hrd).1
    have lt : i < lv.length := by
      have := hd.length
      omega
    obtain ⟨dd, h1, h2⟩ := hd.get (i := i) (v := lv[i]) (by simp [lt])
    have hdd : (x :: xs).getD i .none = dd := by rw [List.getD_eq_getElem?_getD, h1]; rfl
    rw [hdd] at eu
    rw [eu] at h2
    obtain ⟨u, hu1, hu2⟩ := Vals.get (i := i) (x := lv[i]) rv (by simp [lt])
    have : u = v := Option.some.inj (hu1.symm.trans hv')
    subst this
    obtain ⟨m1, m2⟩ := minD_spec xs x
    exact ⟨lv[i], H, I.kept (t' := tk) k, hu2, q _ _ (List.getElem_mem lt) h2 m1 m2⟩
/-- sorted(t), t a tuple of data -/
def rSortDT (K : PySem.W.Frag) : List V → Hp → VK → Prop := fun vs H Q => ∃ (a : Addr) (xs : List V) (ds : List PyData), vs = [.ref a] ∧ SqT K H a xs ∧ DaAll K H xs ds ∧ Sorts ds ∧
  ∀ (p : Addr) (ys : List V) (M : List PyData), H p = none → M.Perm ds → M.Pairwise (fun d e => dataLt e d = false) → DaAll K (upd H p (.lst ys)) ys M → Q (.ref p) (upd H p (.lst ys))
theorem cr_sortDT (hu : X.A.units + 24 < cLine) : CallR X (.builtin "sorted") (rSortDT X.K) := by
  intro pins s σ H vs us Q I r h
  obtain ⟨a, xs, ds, rfl, hl, hd, hs, q⟩ := h
  obtain rfl := Vals.ref1 r
  obtain ⟨its, rv, pl, hz⟩ := I.tuple hl
  obtain ⟨T, e1, e2, e3, hT⟩ := tri_of hd hs.1 rv
  subst e1 e2 e3
  have hz' : T.length ≤ sizeLine := by rw [List.length_map] at hz; exact hz
  refine sorted_by hu I T hT hs hz' (fun Qc hq => ?_) q
  have lenV : (T.map (·.2.1)).length ≤ sizeLine := by
    rw [List.length_map]
    exact hz'
  obtain ⟨o, ho, hc, n, hdat⟩ := pl
  refine wpAny_collect_seq a (.inr rfl) ho hc hdat (fun h' k => ?_)
  exact hq _ T (I.kept (t' := s.toks) k) (List.Perm.refl _)
end
end NSet

/-! == of ints, texts, None and tuples of them, whatever the texts -/
namespace NSet
open PySem PySem.Spec PySem.W PyProof.Rows L2
mutual
theorem eqv_keyed : ∀ d e : PyData, keyed d = true → keyed e = true → (PyData.eqv d e = true ↔ d = e)
  | .none, e, _, he => by cases e <;> simp [PyData.eqv]
  | .bool _, _, hd, _ => by cases hd
  | .int i, e, _, he => by
    cases e with
    | bool b => cases he
    | _ => simp [PyData.eqv]
  | .str x, e, _, he => by cases e <;> simp [PyData.eqv]
  | .tuple ds, e, hd, he => by
    cases e with
    | tuple es =>
      have := eqvAll_keyed ds es hd he
      simp only [PyData.eqv, PyData.tuple.injEq]
      exact this
    | _ => simp [PyData.eqv]
  | .list _, _, hd, _ => by cases hd
  | .dict _, _, hd, _ => by cases hd
theorem eqvAll_keyed : ∀ ds es : List PyData, keyedAll ds = true → keyedAll es = true → (PyData.eqvAll ds es = true ↔ ds = es)
  | [], [], _, _ => by simp [PyData.eqvAll]
  | [], e :: es, _, _ => by simp [PyData.eqvAll]
  | d :: ds, [], _, _ => by simp [PyData.eqvAll]
  | d :: ds, e :: es, hd, he => by
    have hd' : (keyed d && keyedAll ds) = true := hd
    have he' : (keyed e && keyedAll es) = true := he
    rw [Bool.and_eq_true] at hd' he'
    rw [PyData.eqvAll, Bool.and_eq_true, eqv_keyed d e hd'.1 he'.1, eqvAll_keyed ds es hd'.2 he'.2, List.cons.injEq]
end
theorem keyedAll_of {ds : List PyData} (h : ∀ d ∈ ds, keyed d = true) : keyedAll ds = true := by
  induction ds with
  | nil => rfl
  | cons d ds ih =>
    show (keyed d && keyedAll ds) = true
    rw [h d List.mem_cons_self, ih fun e he => h e (List.mem_cons_of_mem _ he)]
    rfl
section
variable {X : Cx}
def rEqP (K : PySem.W.Frag) : R2 := fun x y H Q => ∃ d e, Da K H x d ∧ Da K H y e ∧ keyed d = true ∧ keyed e = true ∧ d.depth ≤ 16 ∧ ∀ b : Bool, (b = true ↔ d = e) → Q (.bl b) H
theorem op_eqP (hu : X.A.units + 64 < cLine) : OpR X (compareOp .Eq) (rEqP X.K) := by
  intro pins s σ H x y v u Q I rx ry h
  obtain ⟨d, e, hd, he, kd, ke, dp, q⟩ := h
  obtain ⟨as, r1⟩ := Dp.reads I d x v (Da.dp _ _ hd) rx
  obtain ⟨bs, r2⟩ := Dp.reads I e y u (Da.dp _ _ he) ry
  refine SeqAt.eq_plain r1 r2 (imm_plain _ (keyed_imm _ kd)) (imm_plain _ (keyed_imm _ ke)) ?_ ⟨.bl _, H, I, rfl, q _ (eqv_keyed d e kd ke)⟩
  have := Nat.min_le_left d.depth e.depth
  omega
end
end NSet

/-! dicts with data as keys and any values -/
namespace NSet
open PySem PySem.Spec PySem.W PyProof.Rows L2
/-- a row: the key, where it stands, the value -/
abbrev DRowV := NestedKey × Addr × V
def rowV (p : DRowV × Value) : NestedKey × Addr × Value := (p.1.1, p.1.2.1, p.2)
def entV (w : World) (x : NestedKey × Addr × Value) : DictEntry := ⟨x.1.hash w, .ref x.2.1, x.2.2⟩
def Dict0V (w : World) (h : Heap) (a : Addr) (L : List DRowV) : Prop :=
  ∃ (us : List Value) (es : Array DictEntry) (ep : Nat), (∃ o, h.get? a = some o ∧ o.ExactDict ∧ o.data = .dict es ep) ∧ Vals (L.map (·.2.2)) us ∧ es.toList = ((L.zip us).map rowV).map (entV w) ∧ (L.map (·.1)).Nodup ∧ L.length ≤ sizeLine ∧ (a == sysModules) = false
def DictVO (w : World) (a : Addr) (L : List DRowV) : HO := .ext fun h => Dict0V w h a L
def valN (L : List DRowV) (k : NestedKey) : Option V := (L.find? fun x => decide (x.1 = k)).map (·.2.2)
def storedV (L : List DRowV) (k : NestedKey) (a : Addr) (v : V) : List DRowV :=
  if (L.find? fun x => decide (x.1 = k)).isSome = true then L.map (fun x => if x.1 = k then (x.1, x.2.1, v) else x) else L ++ [(k, a, v)]
theorem storedV_len (L : List DRowV) (k : NestedKey) (a : Addr) (v : V) : (storedV L k a v).length ≤ L.length + 1 := by
  unfold storedV
  split
  · rw [List.length_map]
    exact Nat.le_succ _
  · rw [List.length_append]
    exact Nat.le_refl _
/-- the value of a key, in both heaps -/
theorem at_val (k : NestedKey) : ∀ {L : List DRowV} {us : List Value}, Vals (L.map (·.2.2)) us → match valN L k, atKey ((L.zip us).map rowV) k with
    | some v, some p => RelV v p.2
    | none, none => True
    | _, _ => False
  | [], _, r => by
    cases r
    exact True.intro
  | x :: L, _, r => by
    cases r with
    | @cons v u vs us r1 r2 =>
      have ih := at_val k r2
      unfold valN atKey at ih ⊢
      rw [List.zip_cons_cons, List.map_cons, List.find?_cons, List.find?_cons]
      by_cases c : x.1 = k
      · have h1 : decide (x.1 = k) = true := decide_eq_true c
        have h2 : decide ((rowV (x, u)).1 = k) = true := h1
        simp only [h1, h2]
        exact r1
      · have h1 : decide (x.1 = k) = false := decide_eq_false c
        have h2 : decide ((rowV (x, u)).1 = k) = false := h1
        simp only [h1, h2]
        exact ih
theorem found_rows {L : List DRowV} {us : List Value} (k : NestedKey) (r : Vals (L.map (·.2.2)) us) : (atKey ((L.zip us).map rowV) k).isSome = (L.find? fun x => decide (x.1 = k)).isSome := by
  have h := at_val k r
  unfold valN at h
  cases e1 : (L.find? fun x => decide (x.1 = k)) with
  | none =>
    rw [e1] at h
    cases e2 : atKey ((L.zip us).map rowV) k with
    | none => rfl
    | some p =>
      rw [e2] at h
      exact (show False from h).elim
  | some y =>
    rw [e1] at h
    cases e2 : atKey ((L.zip us).map rowV) k with
    | none =>
      rw [e2] at h
      exact (show False from h).elim
    | some p => rfl
/-- a store, in both heaps -/
theorem stored_rows {k : NestedKey} {a : Addr} {v : V} {u : Value} (rv : RelV v u) {L : List DRowV} {us : List Value} (r : Vals (L.map (·.2.2)) us) : ∃ us2, Vals ((storedV L k a v).map (·.2.2)) us2 ∧ ((storedV L k a v).zip us2).map rowV = storedH ((L.zip us).map rowV) k a u := by
  unfold storedV storedH
  rw [found_rows k r]
  by_cases c : (L.find? fun x => decide (x.1 = k)).isSome = true
  · rw [if_pos c, if_pos c]
    clear c
    have go : ∀ {L : List DRowV} {us : List Value}, Vals (L.map (·.2.2)) us → ∃ us2, Vals ((L.map fun x => if x.1 = k then (x.1, x.2.1, v) else x).map (·.2.2)) us2 ∧ ((L.map fun x => if x.1 = k then (x.1, x.2.1, v) else x).zip us2).map rowV = ((L.zip us).map rowV).map (putAt k u) := by
      intro L
      induction L with
      | nil =>
        intro us r
        cases r
        exact ⟨[], .nil, rfl⟩
      | cons x L ih =>
        intro us r
        cases r with
        | @cons y z vs us r1 r2 =>
          obtain ⟨us2, h1, h2⟩ := ih r2
          by_cases c : x.1 = k
          · refine ⟨u :: us2, ?_, ?_⟩
            · rw [List.map_cons, if_pos c, List.map_cons]
              exact .cons rv h1
            · rw [List.map_cons, if_pos c, List.zip_cons_cons, List.map_cons, h2, List.zip_cons_cons, List.map_cons, List.map_cons]
              congr 1
              unfold putAt rowV
              rw [if_pos c]
          · refine ⟨z :: us2, ?_, ?_⟩
            · rw [List.map_cons, if_neg c, List.map_cons]
              exact .cons r1 h1
            · rw [List.map_cons, if_neg c, List.zip_cons_cons, List.map_cons, h2, List.zip_cons_cons, List.map_cons, List.map_cons]
              congr 1
              unfold putAt rowV
              rw [if_neg c]
    exact go r
  · rw [if_neg c, if_neg c]
    refine ⟨us ++ [u], ?_, ?_⟩
    · rw [List.map_append]
      exact r.append (.cons rv .nil)
    · have hl : L.length = us.length := by
        have := r.length
        rwa [List.length_map] at this
      rw [List.zip_append hl, List.map_append]
      rfl
section
variable {P : Program} {w : World} {h : Heap} {a : Addr} {L : List DRowV}
theorem zip_fst {L : List DRowV} {us : List Value} (r : Vals (L.map (·.2.2)) us) : ((L.zip us).map rowV).map (·.1) = L.map (·.1) := by
  have hl : L.length = us.length := by
    have := r.length
    rwa [List.length_map] at this
  rw [List.map_map]
  have : ((fun x : NestedKey × Addr × Value => x.1) ∘ rowV) = (fun x : DRowV => x.1) ∘ Prod.fst := rfl
  rw [this, ← List.map_map, List.map_fst_zip (by omega)]
theorem Dict0V.full (R : Dict0V w h a L) (hk : ∀ x ∈ L, Nst h x.1 x.2.1) : ∃ us, Vals (L.map (·.2.2)) us ∧ h.DictOfH (nestedKind P w) a ((L.zip us).map rowV) := by
  obtain ⟨us, es, ep, ⟨o, ho, hx, hd⟩, rv, he, hn, _⟩ := R
  refine ⟨us, rv, o, es, ep, ho, hx, hd, he, fun x hx => ?_, ?_⟩
  · obtain ⟨y, hy, rfl⟩ := List.mem_map.mp hx
    exact hk y.1 (List.of_mem_zip hy).1
  · rw [zip_fst rv]
    exact hn
theorem Dict0V.of {us : List Value} (rv : Vals (L.map (·.2.2)) us) (hm : h.DictOfH (nestedKind P w) a ((L.zip us).map rowV)) (hz : L.length ≤ sizeLine) (hs : (a == sysModules) = false) : Dict0V w h a L := by
  obtain ⟨o, es, ep, ho, hx, hd, he, _, hn⟩ := hm
  rw [zip_fst rv] at hn
  exact ⟨us, es, ep, ⟨o, ho, hx, hd⟩, rv, he, hn, hz, hs⟩
theorem dictVO_new {H : Hp} (R : Dict0V w h a L) : ObjOk P w H h a (DictVO w a L) := by
  have ⟨_, _, _, ⟨o, ho, _⟩, _⟩ := R
  exact ⟨R, ⟨o, ho⟩, fun h1 h2 ⟨us, es, ep, ⟨o, ho, r⟩, q⟩ k => ⟨us, es, ep, ⟨o, k o ho, r⟩, q⟩⟩
end
/-- the keys, as the abstract heap has them -/
def MemV (K : PySem.W.Frag) (H : Hp) (L : List DRowV) : Prop := ∀ x ∈ L, ∃ d, Da K H (.ref x.2.1) d ∧ imm d = true ∧ x.1 = kOf d ∧ (kOf d).depth ≤ 8
section
variable {X : Cx} {pos : Pos}
theorem MemV.nst {pins : List (Addr × Obj)} {σ : L2.St} {H : Hp} {s : Shared} (I : Inv X pins σ H s) {L : List DRowV} (m : MemV X.K H L) : ∀ x ∈ L, Nst s.heap x.1 x.2.1 := fun x hx => by
  obtain ⟨d, hd, i, e, dp⟩ := m x hx
  rw [e]
  exact ⟨nest_of I d _ _ hd i rfl, dp⟩
def tDNewV (w : World) : TE := fun _ H Q => ∀ p, H p = none → Q (.ref p) (upd H p (DictVO w p []))
theorem pe_dnewV : PE X (.Dict [] [] pos) (tDNewV X.w) := ⟨fun pins s σ H Q I h =>
  wpAny_Dict_empty ⟨.ref s.heap.objs.size, _, I.laid (a := s.heap.objs.size) (o := DictVO X.w s.heap.objs.size []) (t' := s.toks) (fun _ _ q => Heap.get?_push_of_some _ q) (Nat.le_refl _)
    (dictVO_new ⟨[], #[], 0, ⟨_, Heap.get?_push_size _ rfl, ⟨rfl, rfl, rfl⟩, rfl⟩, .nil, rfl, List.nodup_nil, Nat.zero_le _, beq_eq_false_iff_ne.mpr (Ne.symm (Nat.ne_of_lt I.big))⟩), rfl, h _ (I.hok.fresh (Nat.le_refl _))⟩⟩
def sDPutV (K : PySem.W.Frag) (w : World) (td ty tv : TE) : TS := fun D σ H => tv σ H fun v H1 => td σ H1 fun x H2 => ty σ H2 fun y H3 => ∃ (a b : Addr) (L : List DRowV) (d : PyData), x = .ref a ∧ y = .ref b ∧ H3 a = some (DictVO w a L) ∧ MemV K H3 L ∧
  Da K H3 (.ref b) d ∧ imm d = true ∧ (kOf d).depth ≤ 8 ∧ L.length < sizeLine ∧ D.nx σ (upd H3 a (DictVO w a (storedV L (kOf d) b v)))
variable {o i value f : Expr} {pos' apos cpos : Pos} {td ty tv tx : TE}
theorem ps_dputV (hu : X.A.units + 24 < cLine) (ho : PE X o td) (hi : PE X i ty) (hv : PE X value tv) (hs : swapsWith value (some (.Subscript o i pos')) pos.line X.env = pure false := by rfl) :
    PS X (.Assign [.Subscript o i pos'] value pos) (sDPutV X.K X.w td ty tv) := by
  refine ⟨fun pins s σ H D I h => ?_⟩
  refine wpAny_Assign_Subscript (thn (hv.run pins s σ H _ I h) fun r s1 ⟨v, H1, I1, rv, q1⟩ => thn (ho.run pins s1 σ H1 _ I1 q1) fun u s2 ⟨x, H2, I2, rx, q2⟩ => thn (hi.run pins s2 σ H2 _ I2 q2) fun iv s3 ⟨y, H3, I3, ry, a, b, L, d, ex, ey, ha, hm, hd, himm, dp, hl, q3⟩ => ?_) hs
  subst ex ey
  obtain rfl : u = Value.ref a := rx
  obtain rfl : iv = Value.ref b := ry
  have R0 : Dict0V X.w s3.heap a L := (I3.hok a _ ha).1
  obtain ⟨_, _, _, _, _, _, _, _, hsys⟩ := id R0
  obtain ⟨us, rus, dof⟩ := R0.full (P := X.prog) (hm.nst I3)
  have hx : Nst s3.heap (kOf d) b := ⟨nest_of I3 d _ _ hd himm rfl, dp⟩
  have hu1 : X.A.in1.units + 8 < cLine := by
    have e1 : X.A.in1.units = X.A.units + 1 := rfl
    omega
  have zl : ((L.zip us).map rowV).length ≤ sizeLine := by
    rw [List.length_map, List.length_zip]
    exact Nat.le_trans (Nat.min_le_left _ _) (Nat.le_of_lt hl)
  obtain ⟨us2, r2, e2⟩ := stored_rows (k := kOf d) (a := b) rv rus
  refine wpAny_setItem_heap (knd := nestedKind X.prog X.w) (xs := (L.zip us).map rowV) hu1 hx dof (fun h' hm' sb => ?_) zl
  rw [← e2] at hm'
  have R1 : Dict0V X.w h' a (storedV L (kOf d) b v) := .of r2 hm' (Nat.le_trans (storedV_len _ _ _ _) hl) hsys
  obtain ⟨_, _, _, ⟨o2, ho2, _⟩, _⟩ := id R1
  exact ⟨σ, _, I3.write (e := a) (by rw [ha]; trivial) (.inl rfl) (fun c u hc hu => (sb.2 c hc).trans hu) ⟨o2, ho2⟩ (dictVO_new R1), q3⟩
end
end NSet

/-! dicts with data as keys: d[k], in, get -/
namespace NSet
open PySem PySem.Spec PySem.W PyProof.Rows L2
/-- what stands in the dict at a under y -/
def DGetV (K : PySem.W.Frag) (w : World) (H : Hp) (a : Addr) (y : V) (r : Option V) : Prop := ∃ (b : Addr) (L : List DRowV) (d : PyData), y = .ref b ∧ Rd H a (DictVO w a L) ∧ MemV K H L ∧ Da K H (.ref b) d ∧ imm d = true ∧ (kOf d).depth ≤ 8 ∧ r = valN L (kOf d)
section
variable {X : Cx}
theorem dv_rd {pins : List (Addr × Obj)} {σ : L2.St} {H : Hp} {s : Shared} {a : Addr} {L : List DRowV} (I : Inv X pins σ H s) (e : Rd H a (DictVO X.w a L)) : Dict0V X.w s.heap a L := (Rd.ok e I.hok).1
theorem dv_at {pins : List (Addr × Obj)} {σ : L2.St} {H : Hp} {s : Shared} {a : Addr} {L : List DRowV} (I : Inv X pins σ H s) (e : Rd H a (DictVO X.w a L)) : s.TypeIs (.ref a) "dict" ∧ (∀ b, Value.ref a = .ref b → ∃ ob, s.heap.get? b = some ob ∧ ob.dict = none) ∧ (a == sysModules) = false := by
  obtain ⟨_, _, _, ⟨ob, hob, hex, _⟩, _, _, _, _, hsys⟩ := dv_rd I e
  refine ⟨⟨ob, hob, hex.1⟩, fun b q => ?_, hsys⟩
  cases q
  exact ⟨ob, hob, hex.2.1⟩
/-- the value that is found, in both heaps -/
theorem dv_val {k : NestedKey} {L : List DRowV} {us : List Value} (r : Vals (L.map (·.2.2)) us) {z : V} {x : Value} (rz : RelV z x) : RelV ((valN L k).getD z) (((atKey ((L.zip us).map rowV) k).map (·.2)).getD x) := by
  have h := at_val k r
  cases e1 : valN L k with
  | none =>
    cases e2 : atKey ((L.zip us).map rowV) k with
    | none => exact rz
    | some p =>
      rw [e1, e2] at h
      exact (show False from h).elim
  | some v =>
    cases e2 : atKey ((L.zip us).map rowV) k with
    | none =>
      rw [e1, e2] at h
      exact (show False from h).elim
    | some p =>
      rw [e1, e2] at h
      exact h
theorem dv_isSome {k : NestedKey} {L : List DRowV} {us : List Value} (r : Vals (L.map (·.2.2)) us) : (atKey ((L.zip us).map rowV) k).isSome = (valN L k).isSome := by
  rw [found_rows k r]
  unfold valN
  rw [Option.isSome_map]
theorem in1 {A : Around} (hu : A.units + 24 < cLine) : A.in1.units + 8 < cLine := by
  have e1 : A.in1.units = A.units + 1 := rfl
  omega
variable {o i e f : Expr} {pos apos cpos : Pos} {td ty tx : TE}
def tDGetV (K : PySem.W.Frag) (w : World) (td ty : TE) : TE := fun σ H Q => td σ H fun x H1 => ty σ H1 fun y H2 => ∃ a v, x = .ref a ∧ DGetV K w H2 a y (some v) ∧ Q v H2
theorem pe_dgetV (hu : X.A.units + 24 < cLine) (ho : PE X o td) (hi : PE X i ty) (hs : NoSl i) : PE X (.Subscript o i pos) (tDGetV X.K X.w td ty) := by
  refine ⟨fun pins s σ H Q I h => ?_⟩
  refine subD_of PySem.F.slot_dict_getitem.lookup hs (thn (ho.run pins s σ H _ I h) fun u s1 ⟨x, H1, I1, rx, q1⟩ => thn (hi.run pins s1 σ H1 _ I1 q1) fun iv s2 ⟨y, H2, I2, ry, a, v, ex, ⟨b, L, d, ey, ha, hm, hd, himm, dp, ev⟩, q2⟩ => ?_)
  subst ex ey
  obtain rfl : u = Value.ref a := rx
  obtain rfl : iv = Value.ref b := ry
  obtain ⟨us, rus, dof⟩ := (dv_rd I2 ha).full (P := X.prog) (hm.nst I2)
  refine ⟨(dv_at I2 ha).1, ?_⟩
  have h := at_val (kOf d) rus
  rw [← ev] at h
  cases e2 : atKey ((L.zip us).map rowV) (kOf d) with
  | none =>
    rw [e2] at h
    exact (show False from h).elim
  | some p =>
    rw [e2] at h
    exact wpAny_getItem_heap (knd := nestedKind X.prog X.w) (in1 hu) ⟨nest_of I2 d _ _ hd himm rfl, dp⟩ dof e2 ⟨v, H2, I2.tok _, h, q2⟩
def tDInV (K : PySem.W.Frag) (w : World) (ty td : TE) : TE := fun σ H Q => ty σ H fun y H1 => td σ H1 fun x H2 => ∃ a o, x = .ref a ∧ DGetV K w H2 a y o ∧ Q (.bl o.isSome) H2
theorem pc_dinV (hu : X.A.units + 24 < cLine) (hi : PE X i ty) (ho : PE X o td) : PC X .In i o (tDInV X.K X.w ty td) := by
  refine ⟨fun pins s σ H Q I h => ?_⟩
  refine thn (hi.run pins s σ H _ I h) fun iv s1 ⟨y, H1, I1, ry, q1⟩ => thn (ho.run pins s1 σ H1 _ I1 q1) fun u s2 ⟨x, H2, I2, rx, a, ov, ex, ⟨b, L, d, ey, ha, hm, hd, himm, dp, ev⟩, q2⟩ => ?_
  subst ex ey
  obtain rfl : u = Value.ref a := rx
  obtain rfl : iv = Value.ref b := ry
  obtain ⟨us, rus, dof⟩ := (dv_rd I2 ha).full (P := X.prog) (hm.nst I2)
  refine wpAny_in_heap (knd := nestedKind X.prog X.w) (in1 hu) ⟨nest_of I2 d _ _ hd himm rfl, dp⟩ (dv_at I2 ha).2.2 dof ?_
  rw [dv_isSome rus, ← ev]
  exact ⟨.bl ov.isSome, H2, I2.tok _, rfl, q2⟩
def tDNotInV (K : PySem.W.Frag) (w : World) (ty td : TE) : TE := fun σ H Q => ty σ H fun y H1 => td σ H1 fun x H2 => ∃ a o, x = .ref a ∧ DGetV K w H2 a y o ∧ Q (.bl (!o.isSome)) H2
theorem pc_dnotinV (hu : X.A.units + 24 < cLine) (hi : PE X i ty) (ho : PE X o td) : PC X .NotIn i o (tDNotInV X.K X.w ty td) := by
  refine ⟨fun pins s σ H Q I h => ?_⟩
  refine thn (hi.run pins s σ H _ I h) fun iv s1 ⟨y, H1, I1, ry, q1⟩ => thn (ho.run pins s1 σ H1 _ I1 q1) fun u s2 ⟨x, H2, I2, rx, a, ov, ex, ⟨b, L, d, ey, ha, hm, hd, himm, dp, ev⟩, q2⟩ => ?_
  subst ex ey
  obtain rfl : u = Value.ref a := rx
  obtain rfl : iv = Value.ref b := ry
  obtain ⟨us, rus, dof⟩ := (dv_rd I2 ha).full (P := X.prog) (hm.nst I2)
  refine notIn_keyed (knd := nestedKind X.prog X.w) (in1 hu) ⟨nest_of I2 d _ _ hd himm rfl, dp⟩ (dv_at I2 ha).2.2 ⟨_, dof, rfl⟩ ?_
  rw [valueAt_pairsH, Option.isSome_map, dv_isSome rus, ← ev]
  exact ⟨.bl (!ov.isSome), H2, I2.tok _, rfl, q2⟩
def tDGet2V (K : PySem.W.Frag) (w : World) (td ty tx : TE) : TE := fun σ H Q => td σ H fun x H1 => ∃ a, x = .ref a ∧ (∃ L, Rd H1 a (DictVO w a L)) ∧ ty σ H1 fun y H2 => tx σ H2 fun z H3 => ∃ o, DGetV K w H3 a y o ∧ Q (o.getD z) H3
theorem pe_dget2V (hu : X.A.units + 24 < cLine) (ho : PE X o td) (he : PE X e ty) (hf : PE X f tx) (m : M2 X o "get" apos e f cpos) : PE X (.Call (.Attribute o "get" apos) [e, f] [] cpos) (tDGet2V X.K X.w td ty tx) := by
  refine ⟨fun pins s σ H Q I h => ?_⟩
  refine wpAny_Call_method m.base m.few m.line PySem.F.plainAttrs_dict PySem.F.slot_dict_get PySem.F.type_dict_get (thn (ho.run pins s σ H _ I h) fun u s1 ⟨x, H1, I1, rx, a, ex, ⟨L0, hd0⟩, q1⟩ => ?_)
  subst ex
  obtain rfl : u = Value.ref a := rx
  obtain ⟨t1, t2, _⟩ := dv_at I1 hd0
  refine ⟨t1, t2, ?_⟩
  rw [m.trees]
  refine Calls.callWith_builtin rfl (Calls.evalArgs_plain (Calls.spliced_cons (thn (he.run pins s1 σ H1 _ I1 q1) fun iv s2 ⟨y, H2, I2, ry, q2⟩ =>
    Calls.spliced_cons (thn (hf.run pins s2 σ H2 _ I2 q2) fun fv s3 ⟨z, H3, I3, rz, ov, ⟨b, L, d, ey, ha, hm, hd, himm, dp, ev⟩, q3⟩ => Calls.spliced_nil ?_))))
  subst ey
  obtain rfl : iv = Value.ref b := ry
  obtain ⟨us, rus, dof⟩ := (dv_rd I3 ha).full (P := X.prog) (hm.nst I3)
  refine call_meetsIn PySem.F.slot_dict_get dof.typeIs PySem.F.entry_dict_get (PySem.F.args_dict_get_3 _ _ _) (meetsH_dict_get_default (nestedKind X.prog X.w) a b (dv_at I3 ha).2.2 fv) ⟨in1 hu, kOf d, _, ⟨nest_of I3 d _ _ hd himm rfl, dp⟩, dof, ?_⟩
  refine ⟨ov.getD z, H3, I3.tok _, ?_, q3⟩
  rw [ev]
  exact dv_val rus rz
end
end NSet

/-! for k in d, d a dict with data as keys -/
namespace NSet
open PySem PySem.Spec PySem.W PyProof.Rows L2
section
variable {X : Cx} {pins : List (Addr × Obj)} {σ : L2.St} {H : Hp} {s : Shared} {d : Addr} {o : Obj}
theorem Inv.frzV {L : List DRowV} (I : Inv X pins σ H s) (h : H d = some (.frz o (DictVO X.w d L))) :
    (d == sysModules) = false ∧ s.heap.get? d = some o ∧ o.ExactDict ∧ ∃ (es : Array DictEntry) (ep : Nat), o.data = .dict es ep ∧ es.size = L.length ∧
      ∀ (i : Nat) (x : DRowV), L[i]? = some x → ∃ en : DictEntry, es[i]? = some en ∧ en.key = .ref x.2.1 := by
  obtain ⟨hd, R, _⟩ := I.hok d _ h
  obtain ⟨us, es, ep, ⟨o', ho, hx, hdt⟩, rv, he, _, _, hs⟩ := R
  rw [hd] at ho
  cases ho
  have hl : L.length = us.length := by
    have := rv.length
    rwa [List.length_map] at this
  have sz : es.size = L.length := by
    rw [← Array.length_toList, he, List.length_map, List.length_map, List.length_zip, ← hl, Nat.min_self]
  refine ⟨hs, hd, hx, es, ep, hdt, sz, fun i x e => ?_⟩
  have hi := (List.getElem?_eq_some_iff.mp e).1
  have hu : us[i]? = some us[i] := List.getElem?_eq_getElem (by omega)
  refine ⟨entV X.w (rowV (x, us[i])), ?_, rfl⟩
  rw [← Array.getElem?_toList, he, List.getElem?_map, List.getElem?_map, (List.getElem?_zip_eq_some (z := (x, us[i]))).mpr ⟨e, hu⟩]
  rfl
end
/-- the keys of the locked dict at d, in their order: the key's own tuple -/
def Itv (w : World) (d : Addr) (o : Obj) (L : List DRowV) : It :=
  ⟨fun i H => H d = some (.frz o (DictVO w d L)) ∧ i < L.length, fun i H x H' => H' = H ∧ ∃ r : DRowV, L[i]? = some r ∧ x = .ref r.2.1, fun i H => H d = some (.frz o (DictVO w d L)) ∧ L.length ≤ i⟩
theorem walk_keysV {w : World} {d : Addr} {o : Obj} {L : List DRowV} : Walk (Itv w d o L) L.length (fun H => H d = some (.frz o (DictVO w d L))) (fun i H x H' => H' = H ∧ ∃ r : DRowV, L[i]? = some r ∧ x = .ref r.2.1) :=
  ⟨fun _ _ hi q => ⟨q, hi⟩, fun _ q => ⟨q, Nat.le_refl _⟩, fun _ _ _ _ _ _ y => y⟩
section
variable {P : Program} {w : World} {K : PySem.W.Frag} {tg : Expr} {d : Addr} {o : Obj} {es : Array DictEntry} {ep : Nat}
theorem turn_keysV {L : List DRowV} (it : Addr) (hod : o.data = .dict es ep) : Turn P w K tg (Itv w d o L) [it] it (fun i h => h.IsKeyIter it d i L.length ep) where
  mem := by simp
  obj := fun i h st b hb => by
    have e : b = it := by simpa using hb
    subst e
    obtain ⟨oi, e, c, dd⟩ := st
    exact ⟨oi, e, fun v z => by rw [dd] at z; cases z⟩
  keep := fun i h h' st k => st.at fun oi e => k it (by simp) oi e
  item := by
    intro X hP hw hK hc i pins s σ H E I hf st hg
    subst hP hw hK
    obtain ⟨hd, hi⟩ := hg
    obtain ⟨f0, f1, f2, f3, f4, f5⟩ := hf it (by simp)
    obtain ⟨hs, hgd, hx, es', ep', hdt, hsz, ent⟩ := Inv.frzV I hd
    obtain ⟨rfl, rfl⟩ := dict_ep hod hdt
    obtain ⟨r, hr⟩ : ∃ r, L[i]? = some r := ⟨L[i], List.getElem?_eq_getElem hi⟩
    obtain ⟨en, hen, hkey⟩ := ent i r hr
    refine next_key_item st hgd hdt hsz hen fun h' st' sb => ?_
    have I1 : Inv X pins σ H { s with heap := h' } := I.turned (t' := s.toks) (fun b ob hb e => (sb.2 b hb).trans e) f0 f1 f3 f4 f5
    obtain ⟨oi, e, c, dd⟩ := id st'
    exact ⟨en.key, rfl, go_of (s := { s with heap := h' }) e c dd (by decide) ⟨.ref r.2.1, H, I1, hkey, ⟨rfl, r, hr, rfl⟩, st', fun b hb => (hf b hb).1⟩⟩
  done := by
    intro X hP hw hK hc i pins s σ H E I hf st hg
    subst hP hw hK
    obtain ⟨hd, hi⟩ := hg
    obtain ⟨f0, f1, f2, f3, f4, f5⟩ := hf it (by simp)
    obtain ⟨hs, hgd, hx, es', ep', hdt, hsz, ent⟩ := Inv.frzV I hd
    obtain ⟨rfl, rfl⟩ := dict_ep hod hdt
    exact next_key_end (I.ok.hd hc) st hgd hdt hsz hi fun h' eb => ⟨rfl, I.turned (t' := s.toks) (fun b ob hb e => eb b ob hb e) f0 f1 f3 f4 f5⟩
  self := fun A i s Q E st h => by
    refine wpAny_pyIter_slot st.typeIs F.slot_dict_keyiterator_iter (wpAny_call_entry F.slot_dict_keyiterator_iter st.typeIs F.entry_dict_keyiterator_iter ?_ (F.args_dict_keyiterator_iter_1 _))
    show wpAny _ _ (ret (.ref it)) _ _ s
    exact wpAny_pure ⟨_, rfl, "dict_keyiterator", _, st.typeIs, F.slot_dict_keyiterator_next.lookup, h⟩
end
/-- the dict is locked (tLock, or by the caller) -/
def iKeysV (w : World) (td : TE) : TI := fun σ H R => td σ H fun x H1 => ∃ d o L, x = .ref d ∧ H1 d = some (.frz o (DictVO w d L)) ∧ R (Itv w d o L) H1
section
variable {X : Cx} {tg e : Expr} {td : TE}
theorem pi_keysV (he : PE X e td) : PI X tg e (iKeysV X.w td) := by
  refine ⟨fun pins s σ H R I h => ?_⟩
  refine thn (he.run pins s σ H _ I h) fun u s1 ⟨x, H1, I1, rx, d, o, L, ex, hd, q⟩ => ?_
  subst ex
  obtain rfl : u = Value.ref d := rx
  obtain ⟨hs, hgd, hx, es, ep, hdt, hsz, ent⟩ := Inv.frzV I1 hd
  refine iter_keys hs hgd hx hdt (pi_one (tk := s1.toks) I1 _ (turn_keysV _ hdt) ⟨_, Heap.get?_push_size _ rfl, rfl, ?_⟩ q)
  rw [hsz] <;> rfl
end
end NSet

/-! dict comprehensions whose keys are data -/
namespace NSet
open PySem PySem.Spec PySem.W PyProof.Rows L2
/-- the heap behind a[y] = v -/
def DPutV (K : PySem.W.Frag) (w : World) (H : Hp) (a : Addr) (y v : V) (H' : Hp) : Prop := ∃ (b : Addr) (L : List DRowV) (d : PyData), y = .ref b ∧ H a = some (DictVO w a L) ∧ MemV K H L ∧ Da K H (.ref b) d ∧ imm d = true ∧ (kOf d).depth ≤ 8 ∧ L.length < sizeLine ∧ H' = upd H a (DictVO w a (storedV L (kOf d) b v))
theorem put_compV {X : Cx} {pins : List (Addr × Obj)} {σ : L2.St} {H H' : Hp} {s : Shared} {E : Value → Shared → Prop} {D : Addr} {y v : V} {u r : Value} {Q : Unit → Shared → Prop} (hu : X.A.units + 24 < cLine) (I : Inv X pins σ H s) (g : DPutV X.K X.w H D y v H') (ry : RelV y u) (rv : RelV v r) (h : ∀ s', Inv X pins σ H' s' → Q () s') :
    wpAny (model X.prog X.w) X.A (dictSet D u r) Q E s := by
  obtain ⟨b, L, d, rfl, ha, hm, hd, himm, dp, hl, rfl⟩ := g
  obtain rfl : u = Value.ref b := ry
  have R0 : Dict0V X.w s.heap D L := (I.hok D _ ha).1
  obtain ⟨_, _, _, _, _, _, _, _, hsys⟩ := id R0
  obtain ⟨us, rus, dof⟩ := R0.full (P := X.prog) (hm.nst I)
  have zl : ((L.zip us).map rowV).length ≤ sizeLine := by
    rw [List.length_map, List.length_zip]
    exact Nat.le_trans (Nat.min_le_left _ _) (Nat.le_of_lt hl)
  obtain ⟨us2, r2, e2⟩ := stored_rows (k := kOf d) (a := b) rv rus
  refine wpAny_dictSet_heap (hsz := zl) (knd := nestedKind X.prog X.w) (show X.A.units + 8 < cLine by omega) ⟨nest_of I d _ _ hd himm rfl, dp⟩ dof fun h' hm' sb => h _ ?_
  rw [← e2] at hm'
  have R1 : Dict0V X.w h' D (storedV L (kOf d) b v) := .of r2 hm' (Nat.le_trans (storedV_len _ _ _ _) hl) hsys
  obtain ⟨_, _, _, ⟨o2, ho2, _⟩, _⟩ := id R1
  exact I.write (e := D) (by rw [ha]; trivial) (.inl rfl) (fun c u hc hu => (sb.2 c hc).trans hu) ⟨o2, ho2⟩ (dictVO_new R1)
/-- {k: v for target in iter if ..}: D the new dict -/
def tDcV (K : PySem.W.Frag) (w : World) (wi : TI) (g : TG) (tt : TT) (tk tv : TE) (vs : List Nat) : TE := fun σ H Q => wi σ H fun J H1 => ∀ D, H1 D = none → ∃ W : Nat → Nat → Hp → Prop, (∃ m, W 0 m (upd H1 D (DictVO w D []))) ∧ ∀ i m H, W i m H →
  (J.stop i H ∧ Q (.ref D) H) ∨ (J.go i H ∧ ∃ Nx : Hp → Prop, (∀ H', Nx H' → ∃ m', m' < m ∧ W (i + 1) m' H') ∧ ∀ x H', J.yld i H x H' → g x (wipe σ vs) H' fun σ2 H2 => wipe σ2 vs = wipe σ vs ∧ tt σ2 H2 fun b H3 =>
    if b = true then tk σ2 H3 fun y H4 => tv σ2 H4 fun z H5 => ∃ H6, DPutV K w H5 D y z H6 ∧ Nx H6 else Nx H3)
theorem new0 {P : Program} {w : World} {H : Hp} (h : Heap) (hb : sysModules < h.objs.size) : ObjOk P w H (h.push { cls := .type "dict", data := .dict #[] }) h.objs.size (DictVO w h.objs.size []) :=
  dictVO_new ⟨[], #[], 0, ⟨_, Heap.get?_push_size _ rfl, ⟨rfl, rfl, rfl⟩, rfl⟩, .nil, rfl, List.nodup_nil, Nat.zero_le _, beq_eq_false_iff_ne.mpr (Ne.symm (Nat.ne_of_lt hb))⟩
section
variable {X : Cx} {kx vx tg iter : Expr} {ifs : List Expr} {scope : Scope} {own : List (Str × Nat)} {pos : Pos} {wi : TI} {g : TG} {tt : TT} {tk tv : TE}
theorem dcV_core {pins : List (Addr × Obj)} {s : Shared} {σ : L2.St} {H : Hp} {Q : VK} {pos' : Pos} {use : Option (Value → Sem Unit)} {Qf : Value → Shared → Prop} (hu : X.A.units + 24 < cLine) (hc : X.calm = true) (hN : X.N.Nodup) (I : Inv X pins σ H s) (hi : PI X tg iter wi) (ok : BlkOk X.N X.env.scope scope own)
    (hg : ∀ (s : Shared) (H : Hp) (C : Addr) (cl : List (Str × Addr)) (fp : List Addr), PG (X.blk s H scope (compEnvC scope cl C X.env) fp) tg g)
    (ht : ∀ (s : Shared) (H : Hp) (C : Addr) (cl : List (Str × Addr)) (fp : List Addr), PTs (X.blk s H scope (compEnvC scope cl C X.env) fp) ifs tt)
    (hk : ∀ (s : Shared) (H : Hp) (C : Addr) (cl : List (Str × Addr)) (fp : List Addr), PE (X.blk s H scope (compEnvC scope cl C X.env) fp) kx tk)
    (hv : ∀ (s : Shared) (H : Hp) (C : Addr) (cl : List (Str × Addr)) (fp : List Addr), PE (X.blk s H scope (compEnvC scope cl C X.env) fp) vx tv) (hs : ∀ x, foldedSetIterable iter X.env x = pure x)
    (h : tDcV X.K X.w wi g tt tk tv (own.map (·.2)) σ H Q)
    (hRR : ∀ D C s' m H', Inv X pins σ H' s' → Q (.ref D) H' → s'.heap.Ns C m → FpOk X pins H' C → compPost (model X.prog X.w) X.A X.xe use Qf (.ref D) C (.ok .next) s') :
    wpAny (model X.prog X.w) X.A (comprehension (.DictComp kx vx [⟨tg, iter, ifs, 0⟩] scope pos) scope X.env pos' newDict false (eval iter X.env) use) Qf X.xe s := by
  have cells : ∀ y ∈ scope.names, y.2 = .free → ∃ c, X.env.cells.lookup y.1 = some c := fun y hy e => (ok.free y hy e).elim (fun k => I.ok.has _ (.inl k)) fun k => I.ok.has _ (.inr k)
  refine wpAny_comprehension_free (use := use) rfl hs (closure_ok cells) ok.kind (fun y hy e => by rw [ok.uniq y hy, e]) (thn (hi.run pins s σ H _ I h) fun xv sA hx => thn hx fun itv sB hB => ?_)
  obtain ⟨it, fp, tn, J, H2, e, I2, T, st2, f2, q⟩ := hB
  subst e
  refine wpAny_newObj_type (newEnv_comp ?_)
  generalize hD : sB.heap.objs.size = D
  obtain ⟨W, ⟨m0, w0⟩, turn⟩ := q D (I2.hok.fresh (Nat.le_of_eq hD))
  -- the new dict
  have oldB : ∀ b o, sB.heap.get? b = some o → (sB.heap.push { cls := .type "dict", data := .dict #[] }).get? b = some o := fun b o e => Heap.get?_push_of_some _ e
  have I3 : Inv X pins σ (upd H2 D (DictVO X.w D [])) { sB with heap := sB.heap.push { cls := .type "dict", data := .dict #[] } } :=
    I2.laid (t' := sB.toks) oldB (Nat.le_of_eq hD) (by rw [← hD]; exact new0 sB.heap I2.big)
  have below : ∀ b ∈ fp, b < sB.heap.objs.size := fun b hb => (T.obj _ _ st2 b hb).elim fun o e => Heap.lt_size e.1
  generalize hs3 : ({ sB with heap := sB.heap.push { cls := .type "dict", data := .dict #[] } } : Shared) = s3 at I3
  have eh3 : s3.heap = sB.heap.push { cls := .type "dict", data := .dict #[] } := by rw [← hs3]
  have f3 : ∀ b ∈ fp, FpOk X pins (upd H2 D (DictVO X.w D [])) b ∧ b < s3.heap.objs.size := fun b hb => by
    have l := below b hb
    refine ⟨⟨?_, (f2 b hb).2⟩, by rw [eh3, Heap.size_push]; exact Nat.lt_succ_of_lt l⟩
    rw [upd_ne (fun z => absurd l (by rw [z, ← hD]; exact Nat.lt_irrefl _))]
    exact (f2 b hb).1
  have I4 := block_start I3 ok hN f3
  generalize hH3 : upd H2 D (DictVO X.w D []) = H3 at I3 I4 w0 f3
  generalize hcl : cellsFrom (s3.heap.objs.size + 1) scope.names (cloFrom X.env.cells scope.names []) = cl at I4
  have pg := hg s3 H3 s3.heap.objs.size cl fp
  have pt := ht s3 H3 s3.heap.objs.size cl fp
  have pk := hk s3 H3 s3.heap.objs.size cl fp
  have pv := hv s3 H3 s3.heap.objs.size cl fp
  show codeAny _ _ (.compStart (.DictComp kx vx [⟨tg, iter, ifs, 0⟩] scope pos) 0 (.ref it) (.ref D) (compEnvC scope cl s3.heap.objs.size X.env)) (compPost (model X.prog X.w) X.A X.xe use Qf (.ref D) s3.heap.objs.size) { s3 with heap := pushCells (s3.heap.push { cls := .type "dict", data := .dict #[] }) scope.names }
  generalize hce : compEnvC scope cl s3.heap.objs.size X.env = ce at I4 pg pt pk pv ⊢
  have cL : ce.locals = s3.heap.objs.size := by rw [← hce]; rfl
  generalize hs4 : ({ s3 with heap := pushCells (s3.heap.push { cls := .type "dict", data := .dict #[] }) scope.names } : Shared) = s4 at I4 ⊢
  have st4 : tn 0 s4.heap := T.keep _ _ _ st2 fun b _ o e => by
    rw [← hs4]
    exact pushCells_keeps _ _ _ _ (Heap.get?_push_of_some _ (by rw [eh3]; exact oldB b o e))
  have stat : ∀ {σ' : L2.St} {H' : Hp} {s' : Shared}, Inv (X.blk s3 H3 scope ce fp) [] σ' H' s' → (∀ b ∈ fp, H' b = none) → ∀ b ∈ fp, FpOk (X.blk s3 H3 scope ce fp) [] H' b := fun {σ' H' s'} I' hn b hb =>
    ⟨hn b hb, (I'.ok.exf b hb).1, I'.ok.exfs b hb, .inl hb, fun x c e => (I'.ok.exf b hb).2 x c e, fun p hp => absurd (show p ∈ ([] : List (Addr × Obj)) ++ [] from hp) (by simp)⟩
  refine (fun loop => codeAny_compStart_dict loop (T.self X.A 0 _ _ _ st4 loop)) ?_
  refine compLoop_anyD (fun n s' => ∃ i H', Inv (X.blk s3 H3 scope ce fp) [] (wipe σ (own.map (·.2))) H' s' ∧ tn i s'.heap ∧ (∀ b ∈ fp, H' b = none) ∧ W i n H') ?_ m0 ⟨0, H3, I4, st4, fun b hb => (f3 b hb).1.1, w0⟩
  rintro n s5 ⟨i, H5, I5, st5, n5, w5⟩
  rcases turn i n H5 w5 with ⟨stop, qq⟩ | ⟨go, Nx, hNx, step⟩
  · -- the end: back in the def
    refine thnF (T.done (X.blk s3 H3 scope ce fp) rfl rfl rfl hc i [] s5 _ H5 (fun _ _ => False) I5 (stat I5 n5) st5 stop) fun r s6 ⟨hr, I6⟩ => ?_
    subst hr
    have I7 : Inv X pins σ H5 s6 := I3.call' (ch := fp) I6.os I6.base I6.hok I6.bare fun b hb => ⟨(f3 b hb).1.2.2.2.1, (f3 b hb).1.2.1, (f3 b hb).1.2.2.2.2.1, (f3 b hb).1.2.2.2.2.2⟩
    have nC : H5 ce.locals = none := I6.free
    obtain ⟨m, hn, _⟩ := I6.loc
    have hn' : s6.heap.Ns ce.locals m := hn
    rw [cL] at hn' nC
    exact hRR D s3.heap.objs.size s6 m H5 I7 qq hn' (I3.fpOk (Nat.le_refl _) nC)
  · refine thnF (T.item (X.blk s3 H3 scope ce fp) rfl rfl rfl hc i [] s5 _ H5 (fun _ _ => False) I5 (stat I5 n5) st5 go) fun r s6 ⟨u, hr, h6⟩ => ?_
    subst hr
    refine thnF h6 fun _ s7 ⟨x, H7, I7, r7, y7, st7, n7⟩ => ?_
    refine thnF (pg.run _ s7 _ H7 x u _ (I7.pinned (stat I7 n7) (T.obj _ _ st7)) r7 (step x H7 y7)) fun _ s8 ⟨σ8, H8, I8, hw8, q8⟩ => ?_
    refine thnF (pt.run _ s8 σ8 H8 _ I8 q8) fun b s9 ⟨H9, I9, q9⟩ => ?_
    -- a turn's end
    have fin : ∀ {s' : Shared} {H' : Hp}, Inv (X.blk s3 H3 scope ce fp) ([] ++ pinsAt fp s7.heap) σ8 H' s' → Nx H' → ∃ m, m < n ∧ ∃ i H', Inv (X.blk s3 H3 scope ce fp) [] (wipe σ (own.map (·.2))) H' s' ∧ tn i s'.heap ∧ (∀ b ∈ fp, H' b = none) ∧ W i m H' := fun {s' H'} I' nx => by
      obtain ⟨m', hm, w'⟩ := hNx H' nx
      have pin : ∀ b ∈ fp, ∀ o, s7.heap.get? b = some o → s'.heap.get? b = some o ∧ H' b = none := fun b hb o e => by
        have z := I'.pin (b, o) (List.mem_append_right _ (List.mem_append_right _ (mem_pinsAt hb e)))
        exact ⟨z.1, z.2.1⟩
      refine ⟨m', hm, i + 1, H', (I'.unpinned (pins := [])).weak (by rw [← hw8, wipe_length]) (fun j v e => ?_), T.keep _ _ _ st7 fun b hb o e => (pin b hb o e).1, fun b hb => ?_, w'⟩
      · rw [← hw8] at e
        exact (wipe_some e).1
      · obtain ⟨o, e, _⟩ := T.obj _ _ st7 b hb
        exact (pin b hb o e).2
    cases b with
    | false =>
      simp only [Bool.false_eq_true, if_false] at q9 ⊢
      exact fin I9 q9
    | true =>
      simp only [if_true] at q9 ⊢
      refine thnF (pk.run _ s9 σ8 H9 _ I9 q9) fun z sK ⟨yk, HK, IK, rK, qK⟩ => ?_
      refine thnF (pv.run _ sK σ8 HK _ IK qK) fun z2 sV ⟨yv, HV, IV, rV, H6, put, nx⟩ => ?_
      exact put_compV (X := X.blk s3 H3 scope ce fp) hu IV put rK rV fun s12 I12 => fin I12 nx
theorem pe_dcV (hu : X.A.units + 24 < cLine) (hc : X.calm = true) (hN : X.N.Nodup) (hi : PI X tg iter wi) (ok : BlkOk X.N X.env.scope scope own)
    (hg : ∀ (s : Shared) (H : Hp) (C : Addr) (cl : List (Str × Addr)) (fp : List Addr), PG (X.blk s H scope (compEnvC scope cl C X.env) fp) tg g)
    (ht : ∀ (s : Shared) (H : Hp) (C : Addr) (cl : List (Str × Addr)) (fp : List Addr), PTs (X.blk s H scope (compEnvC scope cl C X.env) fp) ifs tt)
    (hk : ∀ (s : Shared) (H : Hp) (C : Addr) (cl : List (Str × Addr)) (fp : List Addr), PE (X.blk s H scope (compEnvC scope cl C X.env) fp) kx tk)
    (hv : ∀ (s : Shared) (H : Hp) (C : Addr) (cl : List (Str × Addr)) (fp : List Addr), PE (X.blk s H scope (compEnvC scope cl C X.env) fp) vx tv) (hs : ∀ x, foldedSetIterable iter X.env x = pure x := by intro _; rfl) :
    PE X (.DictComp kx vx [⟨tg, iter, ifs, 0⟩] scope pos) (tDcV X.K X.w wi g tt tk tv (own.map (·.2))) := by
  refine ⟨fun pins s σ H Q I h => ?_⟩
  rw [arm_eval_DictComp]
  refine dcV_core hu hc hN I hi ok hg ht hk hv hs h fun D C s' m H' I' q hn f => ⟨m, hn, fun h'' sb => ?_⟩
  obtain ⟨f0, f1, f2, f3, f4, f5⟩ := f
  exact ⟨.ref D, H', I'.turned (t' := s'.toks) (fun b o hb e => (sb.2 b hb).trans e) f0 f1 f3 f4 f5, rfl, q⟩
/-- x = {k: v for ..} -/
theorem ps_setDcV {i : Nat} {y : Str} {py spos : Pos} (hu : X.A.units + 24 < cLine) (hc : X.calm = true) (hN : X.N.Nodup) (hy : X.N[i]? = some y) (hyl : X.env.scope.names.lookup y = some .local)
    (hsw : swapsWith (.DictComp kx vx [⟨tg, iter, ifs, 0⟩] scope pos) (some (.Name y py)) spos.line X.env = pure true) (hi : PI X tg iter wi) (ok : BlkOk X.N X.env.scope scope own)
    (hg : ∀ (s : Shared) (H : Hp) (C : Addr) (cl : List (Str × Addr)) (fp : List Addr), PG (X.blk s H scope (compEnvC scope cl C X.env) fp) tg g)
    (ht : ∀ (s : Shared) (H : Hp) (C : Addr) (cl : List (Str × Addr)) (fp : List Addr), PTs (X.blk s H scope (compEnvC scope cl C X.env) fp) ifs tt)
    (hk : ∀ (s : Shared) (H : Hp) (C : Addr) (cl : List (Str × Addr)) (fp : List Addr), PE (X.blk s H scope (compEnvC scope cl C X.env) fp) kx tk)
    (hv : ∀ (s : Shared) (H : Hp) (C : Addr) (cl : List (Str × Addr)) (fp : List Addr), PE (X.blk s H scope (compEnvC scope cl C X.env) fp) vx tv) (hs : ∀ x, foldedSetIterable iter X.env x = pure x := by intro _; rfl) :
    PS X (.Assign [.Name y py] (.DictComp kx vx [⟨tg, iter, ifs, 0⟩] scope pos) spos) (tAsg (tDcV X.K X.w wi g tt tk tv (own.map (·.2))) (gName i)) := by
  refine ⟨fun pins s σ H D I h => ?_⟩
  rw [exec_Assign_Name_used _ _ _ _ hsw]
  refine wpAny_bind (wpAny_standAt (wpAny_bind ?_))
  show wpAny _ X.A (do let _ ← comprehension (.DictComp kx vx [⟨tg, iter, ifs, 0⟩] scope pos) scope X.env (firstIterPos [⟨tg, iter, ifs, 0⟩] pos) newDict false (eval iter X.env) (some (assign (.Name y py) X.env))) _ _ s
  have h : tDcV X.K X.w wi g tt tk tv (own.map (·.2)) σ H (fun x H1 => gName i x σ H1 D.nx) := h
  refine wpAny_bind (thn (dcV_core (Qf := fun _ s' => SP X pins D .next s') hu hc hN I hi ok hg ht hk hv hs h fun L C s' m H' I' q hn f => ?_) fun _ s' hq => wpAny_pure (wpAny_pure hq))
  show wpAny _ _ (assign (.Name y py) X.env (.ref L)) _ _ _
  refine wpAny_assign_Name (store_ok2 (v := V.ref L) I' hN hy (.inl hyl) rfl (fun s2 I2 ⟨a, sb, ha⟩ => ?_) (.inr hyl))
  obtain ⟨f0, f1, f2, f3, f4, f5⟩ := f
  have haC : C ≠ a := by
    rcases ha with z | z
    · rw [z]; exact f1
    · exact fun e => f4 y a z e.symm
  refine ⟨m, hn.sameBut sb haC, fun h3 sb3 => ?_⟩
  exact ⟨_, H', I2.turned (t' := s2.toks) (fun b o hb e => (sb3.2 b hb).trans e) f0 f1 f3 f4 f5, q⟩
end
end NSet

/-! list(d), sorted(d) of a dict with data as keys -/
namespace NSet
open PySem PySem.Spec PySem.W PyProof.Rows L2
def kRef (x : DRowV) : V := .ref x.2.1
/-- the keys, as they are walked -/
theorem keys_vals {w : World} {L : List DRowV} {us : List Value} {es : Array DictEntry} (hl : L.length = us.length) (he : es.toList = ((L.zip us).map rowV).map (entV w)) {acc : Array Value} {n : Nat} (hn : n = L.length) (it : ItemsOf (fun i v => ∃ en : DictEntry, es[i]? = some en ∧ v = en.key) acc n) : Vals (L.map kRef) acc.toList := by
  have el : acc.toList.length = acc.size := by simp
  refine vals_of_at (by rw [List.length_map, el, it.1, hn]) fun j x v h1 h2 => ?_
  obtain ⟨en, hen, rfl⟩ := it.2 j v (by rw [← Array.getElem?_toList]; exact h2)
  rw [List.getElem?_map] at h1
  obtain ⟨r, hr, rfl⟩ := Option.map_eq_some_iff.mp h1
  have hj := (List.getElem?_eq_some_iff.mp hr).1
  have hu : us[j]? = some us[j] := List.getElem?_eq_getElem (by omega)
  rw [← Array.getElem?_toList, he, List.getElem?_map, List.getElem?_map, (List.getElem?_zip_eq_some (z := (r, us[j]))).mpr ⟨hr, hu⟩] at hen
  cases hen
  rfl
section
variable {X : Cx}
def rListDV (w : World) : List V → Hp → VK → Prop := fun xs H Q => ∃ (a : Addr) (L : List DRowV), xs = [.ref a] ∧ Rd H a (DictVO w a L) ∧ ∀ q, H q = none → Q (.ref q) (upd H q (.lst (L.map kRef)))
theorem call_listDV (hc : X.calm = true) : CallR X (.type "list") (rListDV X.w) := by
  intro pins s σ H xs us0 Q I r h
  obtain ⟨a, L, rfl, ha, q⟩ := h
  obtain ⟨u, rfl, rx⟩ := vals1 r
  obtain rfl : u = Value.ref a := rx
  obtain ⟨us, es, ep, ⟨ob, hob, hex, hdat⟩, rv, he, _, hz, hsys⟩ := dv_rd I ha
  have hl : L.length = us.length := by
    have := rv.length
    rwa [List.length_map] at this
  have sz : es.size = L.length := by rw [← Array.length_toList, he, List.length_map, List.length_map, List.length_zip, ← hl, Nat.min_self]
  refine kdl_call (kdl_raw hsys hex hdat) (I.ok.hd hc) hob (by omega) fun h' tk acc' c' hkeep hS hacc => ?_
  refine ⟨.ref s.heap.objs.size, upd H s.heap.objs.size (.lst (L.map kRef)), I.laid hkeep (Nat.le_refl _) (show ObjOk X.prog X.w _ _ _ (.lst (L.map kRef)) from ⟨by rw [List.length_map]; exact hz, acc'.toList, c', keys_vals hl he sz hacc, by rw [Array.toArray_toList]; exact hS⟩), rfl, q _ (I.hok.fresh (Nat.le_refl _))⟩
/-- sorted(d): the keys in order; ds are their data -/
def rSortDV (K : PySem.W.Frag) (w : World) : List V → Hp → VK → Prop := fun vs H Q => ∃ (a : Addr) (L : List DRowV) (ds : List PyData), vs = [.ref a] ∧ Rd H a (DictVO w a L) ∧ DaAll K H (L.map kRef) ds ∧ Sorts ds ∧
  ∀ (p : Addr) (ys : List V) (M : List PyData), H p = none → M.Perm ds → M.Pairwise (fun d e => dataLt e d = false) → DaAll K (upd H p (.lst ys)) ys M → Q (.ref p) (upd H p (.lst ys))
theorem cr_sortDV (hc : X.calm = true) (hu : X.A.units + 24 < cLine) : CallR X (.builtin "sorted") (rSortDV X.K X.w) := by
  intro pins s σ H vs us0 Q I r h
  obtain ⟨a, L, ds, rfl, ha, hd, hs, q⟩ := h
  obtain rfl := Vals.ref1 r
  obtain ⟨us, es, ep, ⟨ob, hob, hex, hdat⟩, rv, he, _, hz, hsys⟩ := dv_rd I ha
  have hl : L.length = us.length := by
    have := rv.length
    rwa [List.length_map] at this
  have sz : es.size = L.length := by rw [← Array.length_toList, he, List.length_map, List.length_map, List.length_zip, ← hl, Nat.min_self]
  -- the keys as values
  have rk : Vals (L.map kRef) (L.map fun x => Value.ref x.2.1) := by
    have := L2.vals_refs (L.map fun x => x.2.1)
    rw [List.map_map, List.map_map] at this
    exact this
  obtain ⟨T, e1, e2, e3, hT⟩ := tri_of hd hs.1 rk
  have tl : T.length = L.length := by
    have := congrArg List.length e1
    rwa [List.length_map, List.length_map] at this
  subst e3
  refine sorted_by hu I T hT hs (by rw [tl]; exact hz) (fun Qc hq => ?_) q
  refine kdu_collect (kdl_raw hsys hex hdat) (I.ok.hd hc) hob (by omega) fun h' tk acc hk hacc => ?_
  have rv2 := keys_vals hl he sz hacc
  have ea : acc.toList = T.map (·.2.1) := by
    rw [e2]
    have one : ∀ {xs : List DRowV} {us : List Value}, Vals (xs.map kRef) us → us = xs.map fun x => Value.ref x.2.1 := by
      intro xs
      induction xs with
      | nil =>
        intro us r
        cases r
        rfl
      | cons x xs ih =>
        intro us r
        cases r with
        | cons r1 r2 =>
          rw [ih r2, List.map_cons]
          congr 1
    exact one rv2
  rw [ea]
  exact hq _ T (I.kept (t' := tk) hk) (List.Perm.refl _)
end
end NSet

/-! == of two dicts with data as keys that hold the same numbers; len -/
namespace NSet
open PySem PySem.Spec PySem.W PyProof.Rows L2 RW9
section
variable {X : Cx}
def rEqV (K : PySem.W.Frag) (w : World) : R2 := fun x y H Q => ∃ (a b : Addr) (L M : List DRowV), x = .ref a ∧ y = .ref b ∧ Rd H a (DictVO w a L) ∧ Rd H b (DictVO w b M) ∧ MemV K H L ∧ MemV K H M ∧ L.length = M.length ∧
  (∀ x ∈ L, ∃ i : Int, x.2.2 = .int i ∧ ∃ y ∈ M, y.1 = x.1 ∧ y.2.2 = .int i) ∧ Q (.bl true) H
theorem zip_get {L : List DRowV} {us : List Value} (hl : L.length = us.length) {j : Nat} {x : DRowV} (h : L[j]? = some x) : ∃ u, us[j]? = some u ∧ ((L.zip us).map rowV)[j]? = some (rowV (x, u)) := by
  have hj := (List.getElem?_eq_some_iff.mp h).1
  have hu : us[j]? = some us[j] := List.getElem?_eq_getElem (by omega)
  refine ⟨us[j], hu, ?_⟩
  rw [List.getElem?_map, (List.getElem?_zip_eq_some (z := (x, us[j]))).mpr ⟨h, hu⟩]
  rfl
theorem op_eqV (hu : X.A.units + 24 < cLine) : OpR X (compareOp .Eq) (rEqV X.K X.w) := by
  intro pins s σ H x y v u Q I rx ry h
  obtain ⟨a, b, L, M, rfl, rfl, ea, eb, mL, mM, hlm, hv, q⟩ := h
  obtain rfl : v = Value.ref a := rx
  obtain rfl : u = Value.ref b := ry
  obtain ⟨us, ru, da⟩ := (dv_rd I ea).full (P := X.prog) (mL.nst I)
  obtain ⟨ws, rw', db⟩ := (dv_rd I eb).full (P := X.prog) (mM.nst I)
  have l1 : L.length = us.length := by
    have := ru.length
    rwa [List.length_map] at this
  have l2 : M.length = ws.length := by
    have := rw'.length
    rwa [List.length_map] at this
  refine eq_heap (knd := nestedKind X.prog X.w) (in1 hu) (by omega) (dv_at I ea).2.2 (dv_at I eb).2.2 da db (by rw [List.length_map, List.length_map, List.length_zip, List.length_zip]; omega) (fun x hx => ?_) ⟨.bl true, H, I, rfl, q⟩
  obtain ⟨j, hj⟩ := List.getElem?_of_mem hx
  have hjl : j < L.length := by
    have := (List.getElem?_eq_some_iff.mp hj).1
    rw [List.length_map, List.length_zip] at this
    omega
  obtain ⟨u, hu1, hu2⟩ := zip_get l1 (List.getElem?_eq_getElem hjl)
  rw [hj] at hu2
  cases hu2
  obtain ⟨i, e1, y, hy, e2, e3⟩ := hv L[j] (List.getElem_mem hjl)
  obtain ⟨m, hm⟩ := List.getElem?_of_mem hy
  obtain ⟨z, hz1, hz2⟩ := zip_get l2 hm
  have r1 := Vals.get (i := j) (x := L[j].2.2) ru (by rw [List.getElem?_map, List.getElem?_eq_getElem hjl]; rfl)
  have r2 := Vals.get (i := m) (x := y.2.2) rw' (by rw [List.getElem?_map, hm]; rfl)
  obtain ⟨u', q1, q2⟩ := r1
  obtain ⟨z', q3, q4⟩ := r2
  rw [hu1] at q1
  cases q1
  rw [hz1] at q3
  cases q3
  rw [e1] at q2
  rw [e3] at q4
  obtain ⟨t, ht⟩ := q2
  obtain ⟨t', ht'⟩ := q4
  refine ⟨m, (rowV (y, z)).2, by rw [hz2]; show some ((rowV (y, z)).1, (rowV (y, z)).2) = _; rw [show (rowV (y, z)).1 = y.1 from rfl, e2]; rfl, ?_⟩
  show SeqAt.EqAt X.A.in1 s u z true
  rw [ht, ht']
  have e := SeqAt.EqAt.int_int (A := X.A.in1) (s := s) i t i t'
  rw [beq_self_eq_true] at e
  exact e
end
end NSet

/-! sorted(d.items()) of a dict with data as keys and ints as values -/
namespace NSet
open PySem PySem.Spec PySem.W PyProof.Rows L2 RW9
def encV (q : PyData × Int) : PyData := .tuple [q.1, .int q.2]
section
variable {X : Cx} {o : Expr} {apos cpos : Pos} {td : TE}
def tItemsV (w : World) (td : TE) : TE := fun σ H Q => td σ H fun x H1 => ∃ (a : Addr) (L : List DRowV), x = .ref a ∧ Rd H1 a (DictVO w a L) ∧ ∀ v, H1 v = none → Q (.ref v) (upd H1 v (DX.itemsO v a))
theorem pe_itemsV (ho : PE X o td) (hbase : attributeBase o "items" X.env (eval o X.env) = eval o X.env := by rfl) (hline : (apos.endLine == cpos.line) = true := by rfl) : PE X (.Call (.Attribute o "items" apos) [] [] cpos) (tItemsV X.w td) := by
  refine ⟨fun pins s σ H Q I h => ?_⟩
  refine wpAny_Call_method0_late hbase hline (thn (ho.run pins s σ H _ I h) fun v s1 ⟨x, H1, I1, r1, a, L, ex, ha, q⟩ => ?_)
  subst ex
  obtain rfl : v = Value.ref a := r1
  obtain ⟨us, es, ep, ⟨ob, hob, hex, hdat⟩, _, _, _, _, hsys⟩ := dv_rd I1 ha
  refine ⟨"dict", "dict.items", PySem.F.plainAttrs_dict, PySem.F.slot_dict_items, PySem.F.type_dict_items, ⟨ob, hob, hex.1⟩, fun b e => ?_, Calls.callWith_builtin rfl (PySem.evalArgs_none ?_)⟩
  · cases e
    exact ⟨ob, hob, hex.2.1⟩
  refine DT.callItems (es := es) (ep := ep) hsys ⟨ob, hob, hex, hdat⟩ ?_
  have hnew := I1.hok.fresh (Nat.le_refl s1.heap.objs.size)
  exact ⟨.ref s1.heap.objs.size, _, I1.laid (t' := s1.toks) (fun b u e => Heap.get?_push_of_some _ e) (Nat.le_refl _) (DX.itemsO_ok (p := s1.heap.objs.size) (d := a) (Heap.get?_push_size _ rfl)), rfl, q _ hnew⟩
end
/-- a pair as sorted gives it -/
def PairAt (K : PySem.W.Frag) (H : Hp) (t : Addr) (q : PyData × Int) : Prop := ∃ kq, H t = some (.tup [.ref kq, .int q.2]) ∧ Da K H (.ref kq) q.1
def rSortItV (K : PySem.W.Frag) (w : World) : List V → Hp → VK → Prop := fun vs H Q => ∃ (p a : Addr) (L : List DRowV) (ds : List (PyData × Int)), vs = [.ref p] ∧ H p = some (DX.itemsO p a) ∧ Rd H a (DictVO w a L) ∧ DaAll K H (L.map kRef) (ds.map (·.1)) ∧ L.map (·.2.2) = ds.map (fun q => V.int q.2) ∧ Sorts (ds.map (·.1)) ∧
  ∀ (H' : Hp) (l : Addr) (ts : List Addr) (M : List (PyData × Int)), Same H H' → H l = none → M.Perm ds → M.Pairwise (fun p q => dataLt (encV q) (encV p) = false) → H' l = some (.lst (ts.map V.ref)) → Paired (PairAt K H') ts M → Q (.ref l) H'
theorem immAll_in : ∀ {ds : List PyData} {d : PyData}, immAll ds = true → d ∈ ds → imm d = true
  | e :: ds, d, h, hd => by
    have h' : (imm e && immAll ds) = true := h
    rw [Bool.and_eq_true] at h'
    rcases List.mem_cons.mp hd with rfl | hd
    · exact h'.1
    · exact immAll_in h'.2 hd
theorem cr_sortedItemsV {X : Cx} (hc : X.calm = true) (hu : X.A.units + 24 < cLine) : CallR X (.builtin "sorted") (rSortItV X.K X.w) := by
  intro pins s σ H xs us0 Q I r h
  obtain ⟨p, a, L, ds, rfl, hp, ha, hda, hvs, hso, q⟩ := h
  obtain rfl := Vals.ref1 r
  have view : s.heap.IsItemsView p a := (show ObjOk X.prog X.w H s.heap p (DX.itemsO p a) from I.hok p _ hp).1
  obtain ⟨us, es, ep, ⟨o, ho, hx, hdat⟩, rv, hes, _, z, hd⟩ := dv_rd I ha
  have lu : L.length = us.length := by
    have := rv.length
    rwa [List.length_map] at this
  have ld : L.length = ds.length := by
    have := congrArg List.length hvs
    rwa [List.length_map, List.length_map] at this
  have l2 : es.size = L.length := by rw [← Array.length_toList, hes, List.length_map, List.length_map, List.length_zip, ← lu, Nat.min_self]
  have hh : X.A.handled = none := I.ok.hd hc
  refine DT.sortedI (es := es) (ep := ep) hh view ⟨o, ho, hx, hdat⟩ (by omega) fun h' tk as hk' hlt hl hG => ?_
  have nd : as.Nodup := List.Pairwise.imp (fun h => Nat.ne_of_lt h) hG.rise
  have asl : as.length = ds.length := by omega
  have made : ∀ (j : Nat) (b : Addr), as[j]? = some b → ∃ (q : PyData × Int) (kq : Addr) (t : Tok), ds[j]? = some q ∧ (Da X.K H (.ref kq) q.1 ∧ imm q.1 = true) ∧ h'.get? b = some { cls := .type "tuple", data := .seq #[Value.ref kq, Value.int q.2 t] } := by
    intro j b hj
    obtain ⟨en, he, hg⟩ := hG.pairs j b hj
    have hjl : j < L.length := by
      have := (List.getElem?_eq_some_iff.mp hj).1
      omega
    obtain ⟨u, hu1, hu2⟩ := zip_get lu (List.getElem?_eq_getElem hjl)
    rw [← Array.getElem?_toList, hes, List.getElem?_map, hu2] at he
    cases he
    have hdj : ds[j]? = some (ds[j]'(by omega)) := List.getElem?_eq_getElem (by omega)
    generalize ds[j]'(by omega) = qq at hdj
    have e1 : (L.map (·.2.2))[j]? = some (V.int qq.2) := by rw [hvs, List.getElem?_map, hdj]; rfl
    have e2 : (L.map kRef)[j]? = some (kRef L[j]) := by rw [List.getElem?_map, List.getElem?_eq_getElem hjl]; rfl
    obtain ⟨u', q1, q2⟩ := Vals.get rv e1
    rw [hu1] at q1
    cases q1
    obtain ⟨t, ht⟩ := q2
    obtain ⟨dd, h1, h2⟩ := hda.get e2
    have e3 : dd = qq.1 := by
      rw [List.getElem?_map, hdj] at h1
      exact (Option.some.inj h1).symm
    subst e3
    refine ⟨qq, L[j].2.1, t, hdj, ⟨h2, ?_⟩, ?_⟩
    · exact immAll_in hso.1 (List.mem_map.mpr ⟨qq, List.mem_of_getElem? hdj, rfl⟩)
    · rw [hg]
      show some ({ cls := .type "tuple", data := .seq #[Value.ref L[j].2.1, u] } : Obj) = _
      rw [ht]
  obtain ⟨kf, hkf⟩ : ∃ kf : Addr → (PyData × Int) × Addr × Tok, ∀ (j : Nat) (b : Addr), as[j]? = some b → ds[j]? = some (kf b).1 ∧ (Da X.K H (.ref (kf b).2.1) (kf b).1.1 ∧ imm (kf b).1.1 = true) ∧ h'.get? b = some { cls := .type "tuple", data := .seq #[Value.ref (kf b).2.1, Value.int (kf b).1.2 (kf b).2.2] } := by
    have : ∀ b : Addr, ∃ k : (PyData × Int) × Addr × Tok, ∀ j : Nat, as[j]? = some b → ds[j]? = some k.1 ∧ (Da X.K H (.ref k.2.1) k.1.1 ∧ imm k.1.1 = true) ∧ h'.get? b = some { cls := .type "tuple", data := .seq #[Value.ref k.2.1, Value.int k.1.2 k.2.2] } := by
      intro b
      by_cases hb : b ∈ as
      · obtain ⟨j, hj⟩ := List.mem_iff_getElem?.mp hb
        obtain ⟨qq, kq, t, h1, h2, h3⟩ := made j b hj
        refine ⟨(qq, kq, t), fun i hi => ?_⟩
        have ji : j = i := (List.getElem?_inj (List.getElem?_eq_some_iff.mp hj).1 nd).mp (hj.trans hi.symm)
        subst ji
        exact ⟨h1, h2, h3⟩
      · exact ⟨((PyData.none, (0 : Int)), (0 : Addr), (0 : Nat)), fun j hj => absurd (List.mem_of_getElem? hj) hb⟩
    obtain ⟨f, hf⟩ := Classical.skolem.mp this
    exact ⟨f, fun j b hj => hf b j hj⟩
  have eL : as.map (fun b => (kf b).1) = ds := by
    refine List.ext_getElem? fun j => ?_
    rw [List.getElem?_map]
    cases hj : as[j]? with
    | none =>
      have : ds.length ≤ j := by
        have := List.getElem?_eq_none_iff.mp hj
        omega
      rw [List.getElem?_eq_none_iff.mpr this]
      rfl
    | some b => exact (hkf j b hj).1.symm
  have kIn : ∀ b ∈ as, (Da X.K H (.ref (kf b).2.1) (kf b).1.1 ∧ imm (kf b).1.1 = true) ∧ h'.get? b = some { cls := .type "tuple", data := .seq #[Value.ref (kf b).2.1, Value.int (kf b).1.2 (kf b).2.2] } := fun b hb => by
    obtain ⟨j, hj⟩ := List.mem_iff_getElem?.mp hb
    exact (hkf j b hj).2
  let enc : Value → PyData := fun v => match v with
    | .ref b => encV (kf b).1
    | _ => encV (.none, 0)
  have hob : (h'.push { cls := .type "list", data := .seq (as.map Value.ref).toArray }).get? h'.objs.size = some (seqObj "list" (as.map Value.ref).toArray 0) := Heap.get?_push_size _ rfl
  have ka : ∀ b o, h'.get? b = some o → (h'.push { cls := .type "list", data := .seq (as.map Value.ref).toArray }).get? b = some o := fun b o e => Heap.get?_push_of_some _ e
  have off : ∀ b o, h'.get? b = some o → b ≠ h'.objs.size := fun b o e => Nat.ne_of_lt (Heap.lt_size e)
  generalize hh2 : h'.push { cls := .type "list", data := .seq (as.map Value.ref).toArray } = h2 at hob ka ⊢
  have lenV : (as.map Value.ref).length ≤ sizeLine := by rw [List.length_map]; omega
  have er : ∀ h2' : Heap, (∀ b o, b ≠ h'.objs.size → h2.get? b = some o → h2'.get? b = some o) → ∀ v ∈ as.map Value.ref, ∃ ws, Reads h2' v (enc v) ws := by
    intro h2' keep v hv
    obtain ⟨b, hb, rfl⟩ := List.mem_map.mp hv
    obtain ⟨e1, e2⟩ := kIn b hb
    have I3 : Inv X pins σ H { s with heap := h2', toks := tk } := I.kept (t' := tk) fun c oc e => keep c oc (off _ _ (hk' _ _ e)) (ka _ _ (hk' _ _ e))
    obtain ⟨ws, hw⟩ := Dp.reads I3 _ _ _ (Da.dp _ _ e1.1) (show RelV (.ref (kf b).2.1) (.ref (kf b).2.1) from rfl)
    exact ⟨_, .tuple (keep _ _ (off _ _ e2) (ka _ _ e2)) rfl rfl (.cons hw (.cons (.int _ _) .nil))⟩
  have din : ∀ b ∈ as, (kf b).1.1 ∈ ds.map (·.1) := fun b hb => by
    obtain ⟨j, hj⟩ := List.mem_iff_getElem?.mp hb
    exact List.mem_map.mpr ⟨_, List.mem_of_getElem? (hkf j b hj).1, rfl⟩
  refine wpAny_call_entry PyProof.Rows.slot_list_sort ⟨_, hob, rfl⟩ PyProof.Rows.entry_list_sort
    (SrtO.list_sort_ord (s := { s with heap := h2, toks := tk }) (swo_data enc) hob lenV (fun h2l => sortable (s := { s with heap := h2, toks := tk }) h2l er (fun v hv u hu' => ?_) (fun v hv => ?_) fun v hv => ?_) fun out o1 o2 => ⟨.none, rfl, ?_⟩) (PyProof.Rows.args_list_sort _)
  · obtain ⟨b, hb, rfl⟩ := List.mem_map.mp hv
    obtain ⟨c, hc', rfl⟩ := List.mem_map.mp hu'
    show alike (encV (kf b).1) (encV (kf c).1) = true
    have := hso.2.1 _ (din b hb) _ (din c hc')
    simp [encV, alike, alikeAll, this]
  · obtain ⟨b, hb, rfl⟩ := List.mem_map.mp hv
    exact ⟨_, _, rfl⟩
  · obtain ⟨b, hb, rfl⟩ := List.mem_map.mp hv
    show X.A.in1.in1.units + (encV (kf b).1).depth < cLine
    have e1 : X.A.in1.in1.units = X.A.units + 2 := rfl
    have e3 := hso.2.2.2 _ (din b hb)
    have e2 : (encV (kf b).1).depth ≤ 17 := by
      simp only [encV, PyData.depth, PyData.depthAll]
      omega
    omega
  · show EP X pins σ Q (.ref h'.objs.size) { s with heap := sortedHeap h2 h'.objs.size (as.map Value.ref) out.toArray, toks := tk }
    have inV : ∀ v ∈ out, ∃ b ∈ as, v = Value.ref b := fun v hv => by
      obtain ⟨b, hb, e⟩ := List.mem_map.mp (o2.perm.mem_iff.mp hv)
      exact ⟨b, hb, e.symm⟩
    obtain ⟨ts, ets⟩ : ∃ ts : List Addr, out = ts.map Value.ref := ⟨out.map adO, ref_map fun v hv => by
      obtain ⟨b, _, e⟩ := inV v hv
      exact ⟨b, e⟩⟩
    subst ets
    have tsIn : ∀ b ∈ ts, b ∈ as := fun b hb => by
      obtain ⟨c, hc', e⟩ := inV (.ref b) (List.mem_map.mpr ⟨b, hb, rfl⟩)
      cases e
      exact hc'
    have tperm : ts.Perm as := by
      have e := o2.perm.map adO
      rwa [ad_map, ad_map] at e
    have M1 : (ts.map fun b => (kf b).1).Perm ds := by
      rw [← eL]
      exact tperm.map _
    have M2 : (ts.map fun b => (kf b).1).Pairwise (fun p q => dataLt (encV q) (encV p) = false) := by
      have e : (ts.map Value.ref).Pairwise (fun v u => dataLt (enc u) (enc v) = false) := o1
      rw [List.pairwise_map] at e ⊢
      exact e
    have kF : ∀ b oo, b ≠ h'.objs.size → h2.get? b = some oo → (sortedHeap h2 h'.objs.size (as.map Value.ref) (ts.map Value.ref).toArray).get? b = some oo := fun b oo hb e => (PyProof.Rows.sortedHeap_old hb (Heap.lt_size e)).trans e
    have kS : ∀ b oo, s.heap.get? b = some oo → (sortedHeap h2 h'.objs.size (as.map Value.ref) (ts.map Value.ref).toArray).get? b = some oo := fun b oo e => kF b oo (off _ _ (hk' b oo e)) (ka b oo (hk' b oo e))
    obtain ⟨eF, heF⟩ := PyProof.Rows.sortedHeap_at (vs := as.map Value.ref) (out := (ts.map Value.ref).toArray) hob
    have I1 : Inv X pins σ H { s with heap := sortedHeap h2 h'.objs.size (as.map Value.ref) (ts.map Value.ref).toArray, toks := tk } := I.kept (t' := tk) kS
    have newL : H h'.objs.size = none := I.hok.fresh (Nat.le_of_lt hlt)
    have I2 : Inv X pins σ (upd H h'.objs.size (.lst (ts.map V.ref))) { s with heap := sortedHeap h2 h'.objs.size (as.map Value.ref) (ts.map Value.ref).toArray, toks := tk } :=
      I1.take (h' := sortedHeap h2 h'.objs.size (as.map Value.ref) (ts.map Value.ref).toArray) (t' := tk) (fun b ob _ e => e) (I.fpOk (Nat.le_of_lt hlt) newL) ⟨by rw [List.length_map, tperm.length_eq]; omega, ts.map Value.ref, eF, LiI.vals_refs ts, heF⟩
    obtain ⟨H2, I3, g, qt⟩ := DX.takeT (P := fun b us => us = [V.ref (kf b).2.1, V.int (kf b).1.2]) I as _ I2 nd fun b hb => by
      have hbl : s.heap.objs.size ≤ b := Nat.le_of_lt (hG.above b hb)
      obtain ⟨e1, e2⟩ := kIn b hb
      refine ⟨hbl, ?_, _, rfl, fun H3 => ⟨by show 2 ≤ sizeLine; decide, [Value.ref (kf b).2.1, Value.int (kf b).1.2 (kf b).2.2], .cons rfl (.cons ⟨_, rfl⟩ .nil), ⟨_, kF _ _ (off _ _ e2) (ka _ _ e2), rfl, 0, rfl⟩⟩⟩
      rw [upd_ne (off _ _ e2)]
      exact I.hok.fresh hbl
    have gr : Same H H2 := fun b oo e => g b oo (by rw [upd_ne (ne_of_none e newL)]; exact e)
    refine ⟨.ref h'.objs.size, H2, I3, rfl, q H2 h'.objs.size ts _ gr newL M1 M2 (g _ _ upd_same) (paired_map fun b hb => ?_)⟩
    obtain ⟨us, eu, hu3⟩ := qt b (tsIn b hb)
    exact ⟨(kf b).2.1, by rw [hu3, eu], Da.same gr _ _ (kIn b (tsIn b hb)).1.1⟩
end NSet

/-! len of a dict with data as keys -/
namespace NSet
open PySem PySem.Spec PySem.W PyProof.Rows L2
section
variable {X : Cx}
def rLenV (K : PySem.W.Frag) (w : World) : List V → Hp → VK → Prop := fun xs H Q => ∃ (a : Addr) (L : List DRowV), xs = [.ref a] ∧ Rd H a (DictVO w a L) ∧ MemV K H L ∧ Q (.int (L.length : Nat)) H
theorem call_lenV : CallR X (.builtin "len") (rLenV X.K X.w) := by
  intro pins s σ H xs us0 Q I r h
  obtain ⟨a, L, rfl, ha, hm, q⟩ := h
  obtain ⟨u, rfl, rx⟩ := vals1 r
  obtain rfl : u = Value.ref a := rx
  obtain ⟨us, ru, dof⟩ := (dv_rd I ha).full (P := X.prog) (hm.nst I)
  have lu : L.length = us.length := by
    have := ru.length
    rwa [List.length_map] at this
  have zl : ((L.zip us).map rowV).length = L.length := by rw [List.length_map, List.length_zip, ← lu, Nat.min_self]
  obtain ⟨_, _, _, _, _, _, _, hz, _⟩ := dv_rd I ha
  refine call_len_dictH (dv_at I ha).2.2 dof (by rw [zl]; rw [sizeLine_eq] at hz; omega) ?_
  rw [zl]
  exact ⟨.int (L.length : Nat), H, I.tok _, ⟨_, rfl⟩, q⟩
end
end NSet

/-! == of two dicts with data as keys, either answer -/
namespace NSet
open PySem PySem.Calls PySem.W PySem.Spec PyProof.Rows
section
variable {prog : Program} {w : World} {K : Type} [DecidableEq K] {knd : HeapKind prog w K} {A : Around} {E : Value → Shared → Prop} {s : Shared}
theorem cmp_heap {nm : String} {a b : Addr} {xa xb : List (K × Addr × Value)} {Q : Bool → Shared → Prop} (hu : knd.room A) (ha : (a == sysModules) = false) (hb : (b == sysModules) = false)
    (da : s.heap.DictOfH knd a xa) (db : s.heap.DictOfH knd b xb) (hl : xa.length = xb.length) (P : K × Addr × Value → Bool)
    (hv : ∀ x ∈ xa, (∀ (j : Nat) (p : Addr × Value), xb[j]? = some (x.1, p) → SeqAt.EqAt A s x.2.2 p.2 (P x)) ∧ ((∀ (j : Nat) (p : Addr × Value), xb[j]? ≠ some (x.1, p)) → P x = false)) (h : Q (xa.all P) s) :
    wpAny (model prog w) A (Builtin.Dict.samePairs nm a b) Q E s := by
  obtain ⟨oa, es, ep, hoa, _, hda, hea, hia, hna⟩ := da
  obtain ⟨ob, es', ep', hob, _, hdb, heb, hib, hnb⟩ := db
  have la : es.size = xa.length := size_of_entries hea
  have lb : es'.size = xb.length := size_of_entries heb
  have hsz : es.size = es'.size := by omega
  have no : ∀ x ∈ xa, P x = false → xa.all P = false := fun x hx e => by
    rw [List.all_eq_false]
    exact ⟨x, hx, by rw [e]; exact Bool.false_ne_true⟩
  unfold Builtin.Dict.samePairs Builtin.Dict.showsAll
  rw [if_neg (show ¬ (a == sysModules) = true by rw [ha]; exact Bool.false_ne_true), if_neg (show ¬ (b == sysModules) = true by rw [hb]; exact Bool.false_ne_true)]
  refine wpAny_bind (wpAny_pure (wpAny_bind (wpAny_pure ?_)))
  refine wpAny_bind (wpAny_dictEntries hoa hda ?_)
  dsimp only
  refine wpAny_bind (wpAny_dictEntries hob hdb ?_)
  rw [if_neg (by rw [hsz]; simp)]
  refine wpAny_bind (wpAny_dictEpoch hoa hda ?_)
  refine wpAny_bind ?_
  rw [Std.Legacy.Range.forIn_eq_forIn_range']
  simp only [Std.Legacy.Range.size, Nat.sub_zero, Nat.add_sub_cancel, Nat.div_one]
  refine wpAny_forIn_list _ (fun rest q s' => s' = s ∧ q = (none, ()) ∧ (∀ i ∈ rest, i < es.size) ∧ ∀ (i : Nat) x, xa[i]? = some x → i ∉ rest → P x = true) _ ?_ ?_ _ _ ⟨rfl, rfl, fun i hi => ?_, fun i x hx hn => ?_⟩
  · rintro i rest q s' ⟨rfl, rfl, hr, hok⟩
    have hlt : i < es.size := hr i List.mem_cons_self
    have hlx : i < xa.length := by omega
    have hin : xa[i] ∈ xa := List.getElem_mem hlx
    have ent : es[i]? = some (entryOfKey knd xa[i]) := by
      rw [entry_at hea i, List.getElem?_eq_getElem hlx]
      rfl
    obtain ⟨h1, h2⟩ := hv _ hin
    refine wpAny_bind (wpAny_dictEntries hoa hda ?_)
    rw [ent]
    show wpAny _ _ (holding [(entryOfKey knd xa[i]).key, (entryOfKey knd xa[i]).val] _ >>= _) _ _ _
    refine wpAny_bind (wpAny_holding (wpAny_bind (wpAny_dictFind_heap hu (hia _ hin) hob hdb heb hib hnb (fun hno => ?_) fun j' p' hj' => ?_)))
    · have hf := no _ hin (h2 hno)
      rw [hf] at h
      first | exact wpAny_pure h | exact wpAny_pure (wpAny_pure h) | (exact wpAny_pure (wpAny_pure (wpAny_pure h)))
    refine wpAny_bind (wpAny_dictEntries hob hdb ?_)
    rw [entry_at heb j', hj']
    show wpAny _ _ (holding _ _) _ _ _
    refine wpAny_holding (h1 j' p' hj' prog w _ _ ?_)
    cases hp : P xa[i] with
    | true =>
      show wpAny _ _ (if (!true) = true then _ else _) _ _ _
      rw [if_neg (by decide)]
      refine wpAny_bind (wpAny_dictEpoch hoa hda ?_)
      rw [if_neg (by simp)]
      refine wpAny_pure ⟨rfl, rfl, fun i hi => hr i (List.mem_cons_of_mem _ hi), fun k x hx hn => ?_⟩
      by_cases z : k = i
      · subst z
        rw [List.getElem?_eq_getElem hlx] at hx
        cases hx
        exact hp
      · exact hok k x hx (fun hm => by
          rcases List.mem_cons.mp hm with e | e
          · exact z e
          · exact hn e)
    | false =>
      have hf := no _ hin hp
      rw [hf] at h
      show wpAny _ _ (if (!false) = true then _ else _) _ _ _
      rw [if_pos (by decide)]
      first | exact wpAny_pure h | exact wpAny_pure (wpAny_pure h) | (exact wpAny_pure (wpAny_pure (wpAny_pure h)))
  · rintro q s' ⟨rfl, rfl, _, hok⟩
    have : xa.all P = true := by
      rw [List.all_eq_true]
      intro x hx
      obtain ⟨i, hi⟩ := List.getElem?_of_mem hx
      exact hok i x hi (List.not_mem_nil)
    rw [this] at h
    exact wpAny_pure h
  · have := (List.mem_range'_1.mp hi).2
    omega
  · exfalso
    refine hn (List.mem_range'_1.mpr ⟨Nat.zero_le _, ?_⟩)
    have := (List.getElem?_eq_some_iff.mp hx).1
    omega
theorem len_heap {nm : String} {a b : Addr} {xa xb : List (K × Addr × Value)} {Q : Bool → Shared → Prop} (ha : (a == sysModules) = false) (hb : (b == sysModules) = false)
    (da : s.heap.DictOfH knd a xa) (db : s.heap.DictOfH knd b xb) (hl : xa.length ≠ xb.length) (h : Q false s) : wpAny (model prog w) A (Builtin.Dict.samePairs nm a b) Q E s := by
  obtain ⟨oa, es, ep, hoa, _, hda, hea, hia, hna⟩ := da
  obtain ⟨ob, es', ep', hob, _, hdb, heb, hib, hnb⟩ := db
  have la : es.size = xa.length := size_of_entries hea
  have lb : es'.size = xb.length := size_of_entries heb
  unfold Builtin.Dict.samePairs Builtin.Dict.showsAll
  rw [if_neg (show ¬ (a == sysModules) = true by rw [ha]; exact Bool.false_ne_true), if_neg (show ¬ (b == sysModules) = true by rw [hb]; exact Bool.false_ne_true)]
  refine wpAny_bind (wpAny_pure (wpAny_bind (wpAny_pure ?_)))
  refine wpAny_bind (wpAny_dictEntries hoa hda ?_)
  dsimp only
  refine wpAny_bind (wpAny_dictEntries hob hdb ?_)
  rw [if_pos (by simp; omega)]
  exact wpAny_bind (wpAny_rule (wpAny_pure h))
theorem eqB_heap {a b : Addr} {xa xb : List (K × Addr × Value)} {Q : Value → Shared → Prop} (hr : knd.room A.in1) (hu : A.units < cLine) (ha : (a == sysModules) = false) (hb : (b == sysModules) = false)
    (da : s.heap.DictOfH knd a xa) (db : s.heap.DictOfH knd b xb) (P : K × Addr × Value → Bool)
    (hv : ∀ x ∈ xa, (∀ (j : Nat) (p : Addr × Value), xb[j]? = some (x.1, p) → SeqAt.EqAt A.in1 s x.2.2 p.2 (P x)) ∧ ((∀ (j : Nat) (p : Addr × Value), xb[j]? ≠ some (x.1, p)) → P x = false)) (h : Q (.bool (decide (xa.length = xb.length) && xa.all P)) s) :
    wpAny (model prog w) A (compareOp .Eq (.ref a) (.ref b)) Q E s := by
  have ta : s.TypeIs (.ref a) "dict" := da.typeIs
  have tb : s.TypeIs (.ref b) "dict" := db.typeIs
  refine wpAny_richCompare_same_room (op := .Eq) ta tb PySem.F.slot_dict_eq (wpAny_call_entry PySem.F.slot_dict_eq ta PySem.F.entry_dict_eq ?_ (PySem.F.args_dict_eq_2 _ _)) hu
  show wpAny _ _ (Builtin.Dict.dictSlotArgs "__eq__" ⟨[.ref a, .ref b], []⟩ >>= _) _ _ s
  refine wpAny_bind ?_
  unfold Builtin.Dict.dictSlotArgs
  refine wpAny_bind (wpAny_notOrdered_dict ta ?_)
  show wpAny _ _ (pure (Value.ref a, Value.ref b)) _ _ s
  refine wpAny_pure ?_
  refine wpAny_bind (wpAny_isInstance (T := "dict") tb PySem.F.sub_dict_dict ?_)
  simp only [Bool.not_true, Bool.false_eq_true, if_false]
  refine wpAny_bind (wpAny_pure (wpAny_bind (wpAny_pure ?_)))
  by_cases hl : xa.length = xb.length
  · rw [decide_eq_true hl, Bool.true_and] at h
    refine wpAny_bind (cmp_heap hr ha hb da db hl P hv ?_)
    exact wpAny_pure ⟨_, rfl, (fun x => nomatch x), by rw [beq_true]; exact h⟩
  · rw [decide_eq_false hl, Bool.false_and] at h
    refine wpAny_bind (len_heap ha hb da db hl ?_)
    exact wpAny_pure ⟨_, rfl, (fun x => nomatch x), h⟩
end
end NSet

/-! dicts by kinds of keys; tallies over them -/
namespace NSet
open PySem PySem.Spec PySem.W PyProof.Rows L2
/-- a kind of keys -/
structure Kin where
  κ : Type
  dec : DecidableEq κ
  enc : κ → PyData
  inj : ∀ x y, enc x = enc y → x = y
  key : ∀ x, keyed (enc x) = true
  dep : ∀ x, (kOf (enc x)).depth ≤ 8
  dp : ∀ x, (enc x).depth ≤ 8
  tup : ∀ x, ∃ ds, enc x = .tuple ds
  nil : ∀ x y, alike (enc x) (enc y) = true
instance (E : Kin) : DecidableEq E.κ := E.dec
/-- a row of the dict is a key and a value -/
def RowIs (E : Kin) (K : PySem.W.Frag) (H : Hp) (r : DRowV) (p : E.κ × V) : Prop := Da K H (.ref r.2.1) (E.enc p.1) ∧ r.1 = kOf (E.enc p.1) ∧ r.2.2 = p.2
abbrev Rows (E : Kin) (K : PySem.W.Frag) (H : Hp) (Lr : List DRowV) (L : List (E.κ × V)) : Prop := Paired (RowIs E K H) Lr L
section
variable {E : Kin} {K : PySem.W.Frag} {w : World} {H H' : Hp} {a : Addr} {Lr : List DRowV} {L : List (E.κ × V)}
theorem Kin.ref {v : V} {k : E.κ} (h : Da K H v (E.enc k)) : ∃ b, v = .ref b := by
  obtain ⟨ds, e⟩ := E.tup k
  rw [e] at h
  cases h
  exact ⟨_, rfl⟩
theorem Kin.imm (E : Kin) (k : E.κ) : imm (E.enc k) = true := keyed_imm _ (E.key k)
theorem RowIs.st {r : DRowV} {p : E.κ × V} (h : RowIs E K H r p) (e : ST K H H') : RowIs E K H' r p := ⟨Da.st e _ _ (E.imm _) h.1, h.2⟩
theorem Rows.st (h : Rows E K H Lr L) (e : ST K H H') : Rows E K H' Lr L := Paired.mapP h fun _ _ r => RowIs.st r e
theorem pmem {α β : Type} {F : α → β → Prop} : ∀ {l : List α} {m : List β}, Paired F l m → ∀ x ∈ l, ∃ y ∈ m, F x y
  | _, _, .nil, x, hx => nomatch hx
  | _, _, .cons h t, x, hx => by
    rcases List.mem_cons.mp hx with rfl | hx
    · exact ⟨_, List.mem_cons_self, h⟩
    · obtain ⟨y, hy, hf⟩ := pmem t x hx
      exact ⟨y, List.mem_cons_of_mem _ hy, hf⟩
theorem pgetL {α β : Type} {F : α → β → Prop} : ∀ {l : List α} {m : List β} {i : Nat} {x : α}, Paired F l m → l[i]? = some x → ∃ y, m[i]? = some y ∧ F x y
  | _, _, _, _, .nil, h => by simp at h
  | _, _, 0, _, .cons h t, e => by
    simp at e
    subst e
    exact ⟨_, rfl, h⟩
  | _, _, i + 1, x, .cons h t, e => by
    obtain ⟨y, h1, h2⟩ := pgetL (i := i) t (by simpa using e)
    exact ⟨y, by simpa using h1, h2⟩
theorem plen {α β : Type} {F : α → β → Prop} : ∀ {l : List α} {m : List β}, Paired F l m → l.length = m.length
  | _, _, .nil => rfl
  | _, _, .cons _ t => congrArg (· + 1) (plen t)
theorem psnoc {α β : Type} {F : α → β → Prop} {x : α} {y : β} (h : F x y) : ∀ {l : List α} {m : List β}, Paired F l m → Paired F (l ++ [x]) (m ++ [y])
  | _, _, .nil => .cons h .nil
  | _, _, .cons r t => .cons r (psnoc h t)
theorem pmap2 {α β α' β' : Type} {F : α → β → Prop} {G : α' → β' → Prop} {f : α → α'} {g : β → β'} (hfg : ∀ x y, F x y → G (f x) (g y)) : ∀ {l : List α} {m : List β}, Paired F l m → Paired G (l.map f) (m.map g)
  | _, _, .nil => .nil
  | _, _, .cons r t => .cons (hfg _ _ r) (pmap2 hfg t)
theorem Rows.mem (h : Rows E K H Lr L) : MemV K H Lr := fun x hx => by
  obtain ⟨p, _, h1, h2, _⟩ := pmem h x hx
  exact ⟨E.enc p.1, h1, E.imm _, h2, E.dep _⟩
/-- the value of a key -/
def valA (L : List (E.κ × V)) (k : E.κ) : Option V := (L.find? fun p => decide (p.1 = k)).map (·.2)
def putA (L : List (E.κ × V)) (k : E.κ) (v : V) : List (E.κ × V) := if (L.any fun p => decide (p.1 = k)) = true then L.map (fun p => if p.1 = k then (p.1, v) else p) else L ++ [(k, v)]
theorem key_eq {x y : E.κ} : kOf (E.enc x) = kOf (E.enc y) ↔ x = y := ⟨fun h => E.inj _ _ (kOf_inj _ _ (E.key x) (E.key y) h), fun h => by rw [h]⟩
theorem valN_rows (k : E.κ) : ∀ {Lr : List DRowV} {L : List (E.κ × V)}, Rows E K H Lr L → valN Lr (kOf (E.enc k)) = valA L k
  | _, _, .nil => rfl
  | r :: Lr, p :: L, .cons h t => by
    have ih := valN_rows k t
    unfold valN valA at ih ⊢
    obtain ⟨h1, h2, h3⟩ := h
    rw [List.find?_cons, List.find?_cons]
    by_cases c : p.1 = k
    · have d1 : decide (r.1 = kOf (E.enc k)) = true := decide_eq_true (by rw [h2, c])
      have d2 : decide (p.1 = k) = true := decide_eq_true c
      simp only [d1, d2, Option.map_some, h3]
    · have d1 : decide (r.1 = kOf (E.enc k)) = false := decide_eq_false (by rw [h2]; exact fun z => c (key_eq.mp z))
      have d2 : decide (p.1 = k) = false := decide_eq_false c
      simp only [d1, d2]
      exact ih
theorem any_rows (k : E.κ) : ∀ {Lr : List DRowV} {L : List (E.κ × V)}, Rows E K H Lr L → (Lr.find? fun x => decide (x.1 = kOf (E.enc k))).isSome = (L.any fun p => decide (p.1 = k))
  | _, _, .nil => rfl
  | r :: Lr, p :: L, .cons h t => by
    have ih := any_rows k t
    obtain ⟨h1, h2, h3⟩ := h
    rw [List.find?_cons, List.any_cons]
    by_cases c : p.1 = k
    · have d1 : decide (r.1 = kOf (E.enc k)) = true := decide_eq_true (by rw [h2, c])
      have d2 : decide (p.1 = k) = true := decide_eq_true c
      simp only [d1, d2, Option.isSome_some, Bool.true_or]
    · have d1 : decide (r.1 = kOf (E.enc k)) = false := decide_eq_false (by rw [h2]; exact fun z => c (key_eq.mp z))
      have d2 : decide (p.1 = k) = false := decide_eq_false c
      simp only [d1, d2, Bool.false_or]
      exact ih
theorem Rows.stored (h : Rows E K H Lr L) {b : Addr} {k : E.κ} (v : V) (hb : Da K H (.ref b) (E.enc k)) : Rows E K H (storedV Lr (kOf (E.enc k)) b v) (putA L k v) := by
  unfold storedV putA
  rw [any_rows k h]
  split
  · refine pmap2 (fun r p hr => ?_) h
    obtain ⟨h1, h2, h3⟩ := hr
    by_cases c : p.1 = k
    · rw [if_pos c, if_pos (by rw [h2, c])]
      exact ⟨h1, h2, rfl⟩
    · rw [if_neg c, if_neg (by rw [h2]; exact fun z => c (key_eq.mp z))]
      exact ⟨h1, h2, h3⟩
  · exact psnoc ⟨hb, rfl, rfl⟩ h
theorem no_ext {g : Heap → Prop} : NoTup (.ext g) := True.intro
theorem dgetA (h : Rd H a (DictVO w a Lr)) (R : Rows E K H Lr L) {y : V} {k : E.κ} (hy : Da K H y (E.enc k)) : DGetV K w H a y (valA L k) := by
  obtain ⟨b, rfl⟩ := Kin.ref hy
  exact ⟨b, Lr, _, rfl, h, R.mem, hy, E.imm k, E.dep k, (valN_rows k R).symm⟩
theorem dputA (h : H a = some (DictVO w a Lr)) (R : Rows E K H Lr L) {y v : V} {k : E.κ} (hy : Da K H y (E.enc k)) (hl : L.length < sizeLine) : ∃ Lr', DPutV K w H a y v (upd H a (DictVO w a Lr')) ∧ Rows E K (upd H a (DictVO w a Lr')) Lr' (putA L k v) := by
  obtain ⟨b, rfl⟩ := Kin.ref hy
  refine ⟨storedV Lr (kOf (E.enc k)) b v, ⟨b, Lr, _, rfl, h, R.mem, hy, E.imm k, E.dep k, ?_, rfl⟩, (R.stored v hy).st (st_upd h no_ext)⟩
  rw [plen R]
  exact hl
/-- a[y] = v as sDPutV asks it -/
theorem sputA {σ : L2.St} {D : L2.Ends} (h : H a = some (DictVO w a Lr)) (R : Rows E K H Lr L) {y v : V} {k : E.κ} (hy : Da K H y (E.enc k)) (hl : L.length < sizeLine)
    (q : ∀ Lr', Rows E K (upd H a (DictVO w a Lr')) Lr' (putA L k v) → D.nx σ (upd H a (DictVO w a Lr'))) :
    ∃ (a' b : Addr) (L' : List DRowV) (d : PyData), V.ref a = .ref a' ∧ y = .ref b ∧ H a' = some (DictVO w a' L') ∧ MemV K H L' ∧ Da K H (.ref b) d ∧ imm d = true ∧ (kOf d).depth ≤ 8 ∧ L'.length < sizeLine ∧ D.nx σ (upd H a' (DictVO w a' (storedV L' (kOf d) b v))) := by
  obtain ⟨b, rfl⟩ := Kin.ref hy
  refine ⟨a, b, Lr, _, rfl, rfl, h, R.mem, hy, E.imm k, E.dep k, by rw [plen R]; exact hl, q _ ((R.stored v hy).st (st_upd h no_ext))⟩
/-- the i-th key of the walk -/
theorem rows_at (R : Rows E K H Lr L) {i : Nat} {r : DRowV} (h : Lr[i]? = some r) : ∃ p, L[i]? = some p ∧ Da K H (.ref r.2.1) (E.enc p.1) ∧ r.2.2 = p.2 := by
  obtain ⟨p, h1, h2, _, h3⟩ := pgetL R h
  exact ⟨p, h1, h2, h3⟩
theorem putA_new {L : List (E.κ × V)} {k : E.κ} {v : V} (h : k ∉ L.map (·.1)) : putA L k v = L ++ [(k, v)] := by
  unfold putA
  rw [if_neg]
  intro z
  obtain ⟨p, hp, e⟩ := List.any_eq_true.mp z
  exact h (List.mem_map.mpr ⟨p, hp, of_decide_eq_true e⟩)
end
/-! ### tallies: the values are ints -/
section
variable {E : Kin} {K : PySem.W.Frag} {w : World} {H H' : Hp} {a : Addr}
def ivs (L : List (E.κ × Int)) : List (E.κ × V) := L.map fun p => (p.1, V.int p.2)
theorem ivs_len (L : List (E.κ × Int)) : (ivs L).length = L.length := List.length_map ..
theorem find_ivs (L : List (E.κ × Int)) (k : E.κ) : valA (ivs L) k = (L.find? fun p => decide (p.1 = k)).map fun p => V.int p.2 := by
  unfold valA ivs
  rw [List.find?_map, Option.map_map]
  rfl
theorem find_cntA {L : List (E.κ × Int)} (hn : (Tl.keys L).Nodup) (k : E.κ) : L.find? (fun p => decide (p.1 = k)) = if k ∈ Tl.keys L then some (k, Tl.cnt L k) else none := by
  cases h : L.find? (fun p => decide (p.1 = k)) with
  | some p =>
    have hp := List.mem_of_find?_eq_some h
    have e : p.1 = k := of_decide_eq_true (List.find?_some (p := fun p : E.κ × Int => decide (p.1 = k)) h)
    rw [if_pos (by rw [← e]; exact List.mem_map.mpr ⟨p, hp, rfl⟩), ← e, Tl.cnt_in hn hp]
  | none =>
    rw [if_neg]
    intro z
    obtain ⟨p, hp, e⟩ := List.mem_map.mp z
    have := List.find?_eq_none.mp h p hp
    simp [e] at this
theorem val_ivs {L : List (E.κ × Int)} (hn : (Tl.keys L).Nodup) (k : E.κ) : (valA (ivs L) k).getD (.int 0) = .int (Tl.cnt L k) := by
  rw [find_ivs, find_cntA hn]
  split
  · rfl
  · next e => rw [Tl.cnt_out e]; rfl
theorem val_ivs_in {L : List (E.κ × Int)} (hn : (Tl.keys L).Nodup) {k : E.κ} (h : k ∈ Tl.keys L) : valA (ivs L) k = some (.int (Tl.cnt L k)) := by
  rw [find_ivs, find_cntA hn, if_pos h]
  rfl
theorem put_ivs (L : List (E.κ × Int)) (k : E.κ) (v : Int) : putA (ivs L) k (.int v) = ivs (Tl.put L k v) := by
  unfold putA Tl.put ivs
  have ha : ((L.map fun p => (p.1, V.int p.2)).any fun p => decide (p.1 = k)) = L.any fun p => decide (p.1 = k) := by
    rw [List.any_map]
    rfl
  rw [ha]
  split
  · rw [List.map_map, List.map_map]
    refine List.map_congr_left fun p _ => ?_
    show (if p.1 = k then (p.1, V.int v) else (p.1, V.int p.2)) = _
    by_cases e : p.1 = k
    · simp [e]
    · simp [e]
  · rw [List.map_append]
    rfl
/-- a tally at a -/
def TalAt (E : Kin) (K : PySem.W.Frag) (w : World) (H : Hp) (a : Addr) (L : List (E.κ × Int)) : Prop := ∃ Lr, H a = some (DictVO w a Lr) ∧ Rows E K H Lr (ivs L) ∧ (Tl.keys L).Nodup ∧ L.length ≤ 5000
theorem TalAt.same {L : List (E.κ × Int)} (t : TalAt E K w H a L) (e : Same H H') : TalAt E K w H' a L := by
  obtain ⟨Lr, h1, h2, h3, h4⟩ := t
  exact ⟨Lr, e _ _ h1, h2.st e.st, h3, h4⟩
theorem ivs_get {L : List (E.κ × Int)} {i : Nat} {p : E.κ × V} (h : (ivs L)[i]? = some p) : ∃ q, L[i]? = some q ∧ p = (q.1, V.int q.2) := by
  unfold ivs at h
  rw [List.getElem?_map] at h
  obtain ⟨q, h1, h2⟩ := Option.map_eq_some_iff.mp h
  exact ⟨q, h1, h2.symm⟩
end
/-! ### a dict comprehension over a dict, the same keys -/
def DcGoalV (K : PySem.W.Frag) (w : World) (J : It) (g : TG) (tt : TT) (tk tv : TE) (vs : List Nat) (σ : L2.St) (H1 : Hp) (D : Addr) (Qd : Hp → Prop) : Prop :=
  ∃ W : Nat → Nat → Hp → Prop, (∃ m, W 0 m (upd H1 D (DictVO w D []))) ∧ ∀ i m H, W i m H →
    (J.stop i H ∧ Qd H) ∨ (J.go i H ∧ ∃ Nx : Hp → Prop, (∀ H', Nx H' → ∃ m', m' < m ∧ W (i + 1) m' H') ∧ ∀ x H', J.yld i H x H' → g x (wipe σ vs) H' fun σ2 H2 => wipe σ2 vs = wipe σ vs ∧ tt σ2 H2 fun b H3 =>
      if b = true then tk σ2 H3 fun y H4 => tv σ2 H4 fun z H5 => ∃ H6, DPutV K w H5 D y z H6 ∧ Nx H6 else Nx H3)
theorem dcV_it {K : PySem.W.Frag} {w' : World} {J : It} {n : Nat} {G : Hp → Prop} {Y : Nat → Hp → V → Hp → Prop} (w : Walk J n G Y) {g : TG} {tt : TT} {tk tv : TE} {vs : List Nat} {σ : L2.St} {H1 : Hp} {D : Addr} {Qd : Hp → Prop} (Pv : Nat → Hp → Prop) (h0 : Pv 0 (upd H1 D (DictVO w' D []))) (hG : ∀ i H, i ≤ n → Pv i H → G H)
    (hs : ∀ i x H H', i < n → Pv i H → Y i H x H' → g x (wipe σ vs) H' fun σ2 H2 => wipe σ2 vs = wipe σ vs ∧ tt σ2 H2 fun b H3 =>
      if b = true then tk σ2 H3 fun y H4 => tv σ2 H4 fun z H5 => ∃ H6, DPutV K w' H5 D y z H6 ∧ Pv (i + 1) H6 else Pv (i + 1) H3)
    (hd : ∀ H, Pv n H → Qd H) : DcGoalV K w' J g tt tk tv vs σ H1 D Qd := by
  refine ⟨fun i m H => m = n - i ∧ i ≤ n ∧ Pv i H, ⟨n, by simp, Nat.zero_le _, h0⟩, ?_⟩
  rintro i m H ⟨rfl, hi, p⟩
  have q := hG i H hi p
  by_cases hlt : i < n
  · exact .inr ⟨w.goes i H hlt q, Pv (i + 1), fun H' p' => ⟨n - (i + 1), by omega, rfl, hlt, p'⟩, fun x H' y => hs i x H H' hlt p (w.yields i H x H' hlt q y)⟩
  · have e : i = n := by omega
    subst e
    exact .inl ⟨w.stops H q, hd H p⟩
section
variable {E : Kin} {K : PySem.W.Frag} {w : World}
theorem dcV_rows {L : List (E.κ × V)} {Lr : List DRowV} {a D : Addr} {od : Obj} {H1 : Hp} (hz : H1 a = some (.frz od (DictVO w a Lr))) (R : Rows E K H1 Lr L) (nd : (L.map (·.1)).Nodup) (hl : L.length ≤ 100000) {g : TG} {tt : TT} {tk tv : TE} {vs : List Nat} {σ : L2.St} {Qd : Hp → Prop} (hD : H1 D = none) (bs : E.κ × V → Bool) (fs : E.κ × V → V)
    (step : ∀ (p : E.κ × V) (q : Addr) (H2 : Hp) (Q2 : V → V → Hp → Prop) (R : Hp → Prop), p ∈ L → Same H1 H2 → Da K H2 (.ref q) (E.enc p.1) → (bs p = true → ∀ H4, Same H2 H4 → Q2 (.ref q) (fs p) H4) → (bs p = false → ∀ H3, Same H2 H3 → R H3) →
      g (.ref q) (wipe σ vs) H2 fun σ2 H2' => wipe σ2 vs = wipe σ vs ∧ tt σ2 H2' fun b H3 => if b = true then tk σ2 H3 fun y H4 => tv σ2 H4 fun z H5 => Q2 y z H5 else R H3)
    (hd : ∀ H' Lr', Same H1 H' → H' D = some (DictVO w D Lr') → Rows E K H' Lr' ((L.filter bs).map fun p => (p.1, fs p)) → Qd H') : DcGoalV K w (Itv w a od Lr) g tt tk tv vs σ H1 D Qd := by
  have en : Lr.length = L.length := plen R
  refine dcV_it (walk_keysV (L := Lr)) (fun i H' => Same H1 H' ∧ ∃ Lr', H' D = some (DictVO w D Lr') ∧ Rows E K H' Lr' (((L.take i).filter bs).map fun p => (p.1, fs p))) ⟨same_upd hD, [], upd_same, .nil⟩ (fun i H' _ p => p.1 _ _ hz) (fun i x H2 H3 hi pv y => ?_) (fun H' pv => ?_)
  · obtain ⟨rfl, r, hk, rfl⟩ := y
    obtain ⟨pv1, Lr', pv2, pv3⟩ := pv
    obtain ⟨p, hp, hr, _⟩ := rows_at (R.st pv1.st) hk
    have ht : L.take (i + 1) = L.take i ++ [p] := by rw [List.take_add_one, hp]; rfl
    have hnew : p.1 ∉ (((L.take i).filter bs).map fun p => (p.1, fs p)).map (·.1) := by
      intro h1
      obtain ⟨p1, hp1, e1⟩ := List.mem_map.mp h1
      obtain ⟨p2, hp2, e2⟩ := List.mem_map.mp hp1
      have hin : p2 ∈ L.take i := (List.mem_filter.mp hp2).1
      have hn2 : ((L.take (i + 1)).map (·.1)).Nodup := nd.sublist ((List.take_sublist _ _).map _)
      rw [ht, List.map_append] at hn2
      refine (List.nodup_append.mp hn2).2.2 p2.1 (List.mem_map.mpr ⟨p2, hin, rfl⟩) p.1 (by simp) ?_
      rw [← e1, ← e2]
    refine step p r.2.1 _ _ _ (List.mem_of_getElem? hp) pv1 hr (fun hb H4 e4 => ?_) (fun hb H3 e3 => ⟨pv1.trans e3, Lr', e3 _ _ pv2, ?_⟩)
    · have hD4 := e4 _ _ pv2
      have lt : (((L.take i).filter bs).map fun p => (p.1, fs p)).length < sizeLine := by
        rw [List.length_map]
        refine Nat.lt_of_le_of_lt (List.length_filter_le _ _) ?_
        refine Nat.lt_of_le_of_lt (List.length_take_le _ _) ?_
        rw [en] at hi
        exact Nat.lt_of_lt_of_le hi (Nat.le_trans hl (by decide))
      obtain ⟨Lr2, put, rows⟩ := dputA (v := fs p) hD4 (pv3.st e4.st) (Da.same e4 _ _ hr) lt
      refine ⟨_, put, (pv1.trans e4).mut hD, Lr2, upd_same, ?_⟩
      rw [putA_new hnew] at rows
      rw [ht, List.filter_append, List.map_append]
      simpa [hb] using rows
    · have := pv3.st (K := K) e3.st
      rw [ht, List.filter_append, List.map_append]
      simpa [hb] using this
  · have e : L.take Lr.length = L := by rw [en, List.take_length]
    rw [e] at pv
    obtain ⟨pv1, Lr', pv2, pv3⟩ := pv
    exact hd H' Lr' pv1 pv2 pv3
end
end NSet

namespace L2
open PySem PySem.Spec PySem.W
/-- a new dict with ints or texts as keys -/
theorem fresh_K : Fresh0 (.dK []) := fun P w H h hb => dk_empty h hb
end L2

namespace L2
open PySem PySem.Spec PyProof.Rows
/-! ### x[k] by the class's own __getitem__ -/
def rIxOwn (C : Addr) (sp : Sp) (E : XK) : R2 := fun x y H Q => ∃ a dx fs, x = .ref a ∧ H a = some (.ins C dx fs) ∧ sp [.ref a, y] H Q E
section
variable {X : Cx} {CX : CXT} {k : Nat} {f C : Addr} {fd : FuncData} {ps : List Str} {sp : Sp} {dvs : List V} {ds : List Value} {E : XK}
theorem run_fn1 {pins : List (Addr × Obj)} {σ : L2.St} {H : Hp} {s : Shared} {Q : VK} {us : List Value} {vs : List V} (F : FnOk X.prog X.w X.K X.mg X.base CX k f fd ps sp) (hr : Room (k + 1) X.A) (hb : Binds X.K fd ps ds) (hd : Vals dvs ds) (hx : Passes CX X E)
    (I : Inv X pins σ H s) (r : Vals vs us) (h : sp (vs ++ dvs) H Q E) : wpAny (model X.prog X.w) X.A.in1 (call (.ref f) us) (EP X pins σ Q) X.xe s := by
  have r2 : Vals (vs ++ dvs) (us ++ ds) := r.append hd
  have hl : (us ++ ds).length = ps.length := by rw [← r2.length]; exact F.len _ _ _ _ h
  refine wpAny_call (codeAny_mono (F.run X.A.in1 X.stack s H ⟨us, []⟩ (us ++ ds) (vs ++ dvs) Q E hr.in1 I.env0.in1 (hb s us I.kIn hl) r2 h) fun r s' hq => ?_)
  cases r with
  | error e => exact hx pins σ H s e s' I hq
  | ok fl =>
    cases fl with
    | ret u => exact I.after hq
    | next => exact False.elim hq
    | brk => exact False.elim hq
    | cont => exact False.elim hq
theorem pe_ixOwn {a b : Expr} {ta tb : TE} {pos : Pos} (D : MethD X.prog X.w X.K X.mg X.base C "__getitem__" k ps sp) (hr : Room (k + 1) X.A) (ha : PE X a ta) (hb : PE X b tb)
    (hsl : ∀ o i, subscripted b true o i = runValue (.builtin "lifetime.subscript" ⟨[o, i], []⟩) := by intro _ _; with_unfolding_all rfl) : PE X (.Subscript a b pos) (tOp (rIxOwn C sp E0) ta tb) := by
  obtain ⟨f, fd, M, F, bi, _, _, _, lk⟩ := D
  refine ⟨fun pins s σ H Q I h => ?_⟩
  refine Subscript_ (binT ha hb I h fun v u s2 x y H2 I2 rx ry q => ?_)
  obtain ⟨a, dx, fs, rfl, ha, q⟩ := q
  cases rx
  obtain ⟨mA, J, _⟩ := ins_get I2.hok ha
  obtain ⟨od, J, _⟩ := J.look
  obtain ⟨m, hF⟩ := I2.fr
  refine PySem.W.sub_K hF I2.ok.mod.kin J M.at_ ?_ M.fn ?_ (hsl _ _)
  · unfold PySem.W.fnIn
    rw [lk]
  exact run_fn1 (us := [.ref a, u]) (vs := [.ref a, y]) (dvs := []) F hr bi .nil pass0 I2 (.cons rfl (.cons ry .nil)) q
end
/-! ### xs[::2] -/
def ev2 {α : Type} : List α → List α
  | [] => []
  | [a] => [a]
  | a :: _ :: l => a :: ev2 l
theorem ev2_sub {α : Type} : ∀ {l : List α} {x : α}, x ∈ ev2 l → x ∈ l
  | [], _, h => h
  | [_], _, h => h
  | a :: b :: l, x, h => by
    rcases List.mem_cons.mp h with rfl | h
    · exact List.mem_cons_self ..
    · exact List.mem_cons_of_mem _ (List.mem_cons_of_mem _ (ev2_sub h))
theorem ev2_ne {α : Type} : ∀ {l : List α}, l ≠ [] → ev2 l ≠ []
  | [_], _ => by simp [ev2]
  | _ :: _ :: _, _ => by simp [ev2]
theorem ev2_len {α : Type} : ∀ l : List α, (ev2 l).length ≤ l.length
  | [] => Nat.le_refl _
  | [_] => Nat.le_refl _
  | _ :: _ :: l => by
    have := ev2_len l
    show (ev2 l).length + 1 ≤ l.length + 1 + 1
    omega
theorem ev2_rel : ∀ {xs : List V} {us : List Value}, Vals xs us → Vals (ev2 xs) (ev2 us)
  | _, _, .nil => .nil
  | _, _, .cons r .nil => .cons r .nil
  | _, _, .cons r (.cons _ t) => .cons r (ev2_rel t)
theorem ev2_pick {α : Type} : ∀ (l : List α) (d : Nat) (xs : List α), xs.drop d = l → ((List.range ((l.length + 1) / 2)).map fun k => d + 2 * k).filterMap (xs[·]?) = ev2 l
  | [], d, xs, _ => by simp [ev2]
  | [a], d, xs, h => by
    have h0 : xs[d]? = some a := by
      have := congrArg (·[0]?) h
      simpa using this
    have e1 : ([a].length + 1) / 2 = 1 := by simp
    rw [e1]
    simp [ev2, h0]
  | a :: b :: l, d, xs, h => by
    have h0 : xs[d]? = some a := by
      have := congrArg (·[0]?) h
      simpa using this
    have h2 : xs.drop (d + 2) = l := by
      have := congrArg (List.drop 2) h
      rw [List.drop_drop] at this
      simpa using this
    have ih := ev2_pick l (d + 2) xs h2
    have e : ((a :: b :: l).length + 1) / 2 = (l.length + 1) / 2 + 1 := by
      simp only [List.length_cons]
      omega
    rw [e, List.range_succ_eq_map, List.map_cons, List.map_map, List.filterMap_cons]
    simp only [Nat.mul_zero, Nat.add_zero, h0]
    show a :: _ = a :: ev2 l
    rw [← ih]
    congr 2
    refine List.map_congr_left fun k _ => ?_
    show d + 2 * (k + 1) = d + 2 + 2 * k
    omega
theorem ev2_slice (items : Array Value) : slicePick items none none (some 2) = (ev2 items.toList).toArray := by
  unfold slicePick
  have hb : sliceBounds none none (some 2) items.size = (0, (items.size : Int), 2) := by
    first
      | rfl
      | simp [sliceBounds]
  rw [hb]
  show ((sliceRange 0 (items.size : Int) 2).filterMap (items[·]?)).toArray = _
  have hr : sliceRange 0 (items.size : Int) 2 = (List.range ((items.toList.length + 1) / 2)).map fun k => 0 + 2 * k := by
    unfold sliceRange
    rw [if_pos (by decide)]
    have e : (if (0 : Int) < (items.size : Int) then ((items.size : Int) - 0 + 2 - 1) / 2 else 0).toNat = (items.toList.length + 1) / 2 := by
      rw [Array.length_toList]
      split <;> omega
    dsimp only
    rw [e]
    refine List.map_congr_left fun k _ => ?_
    show (0 + 2 * (k : Int)).toNat = 0 + 2 * k
    omega
  rw [hr]
  have := ev2_pick items.toList 0 items.toList rfl
  simp only [Array.getElem?_toList] at this
  rw [this]
def tEv2 (K : PySem.W.Frag) (te : TE) : TE := fun σ H Q => te σ H fun x H1 => ∃ a xs, x = .ref a ∧ SqL K H1 a xs ∧ ∀ p, H1 p = none → Q (.ref p) (upd H1 p (.lst (ev2 xs)))
theorem pe_ev2 {X : Cx} {e : Expr} {te : TE} {k : Nat} {p1 p3 pos : Pos} (he : PE X e te) : PE X (.Subscript e (.Slice none none (some (.Constant (.int 2) k p1)) p3) pos) (tEv2 X.K te) := by
  refine ⟨fun pins s σ H Q I h => ?_⟩
  refine Subscript_ (thn (he.run pins s σ H _ I h) fun v s1 ⟨x, H1, I1, r1, q1⟩ => ?_)
  obtain ⟨a, xs, ex, hx, q⟩ := q1
  subst ex
  cases r1
  have hst : PO X (some (.Constant (.int 2) k p1)) (tPart (tC (.int 2))) := po_some pe_int
  refine wpAny_Slice (thn (po_none.run pins s1 σ H1 (fun o H2 => o = none ∧ H2 = H1) I1 ⟨rfl, rfl⟩) fun vl s2 ⟨l, H2, I2, pl, el, e2⟩ => ?_)
  subst el e2
  refine thn (po_none.run pins s2 σ H2 (fun o H3 => o = none ∧ H3 = H2) I2 ⟨rfl, rfl⟩) fun vu s3 ⟨u, H3, I3, pu, eu, e3⟩ => ?_
  subst eu e3
  refine thn (hst.run pins s3 σ H3 (fun o H4 => o = some 2 ∧ H4 = H3) I3 ⟨2, rfl, rfl, rfl⟩) fun vs s4 ⟨o, H4, I4, ps, eo, e4⟩ => ?_
  subst eo e4
  have I5 : Inv X pins σ H4 { s4 with heap := s4.heap.push { cls := .type "slice", data := .fields #[vl, vu, vs] } } := I4.kept (t' := s4.toks) fun b ob q => Heap.get?_push_of_some _ q
  obtain ⟨its, r, ht, hz⟩ := I5.list hx
  have hlen := r.length
  show wpAny (model X.prog X.w) X.A (subscriptTail e (.Slice none none (some (.Constant (.int 2) k p1)) p3) (.ref a) (.ref s4.heap.objs.size)) (EP X pins σ Q) X.xe { s4 with heap := s4.heap.push { cls := .type "slice", data := .fields #[vl, vu, vs] } }
  refine tail_any (ops := [.ref a, .ref s4.heap.objs.size]) ht.isList.typeIs (PySem.slot_list_getitem.lookup) ?_ (by with_unfolding_all rfl)
  refine wpAny_getItem_list_slice ht.isList (Heap.IsSliceOf.new _ vl vu vs) pl pu ps (by decide) ?_ (by rw [List.size_toArray]; omega)
  rw [ev2_slice]
  refine ⟨.ref _, _, I5.laid (t' := s4.toks) (o := .lst (ev2 xs)) (fun b ob q => Heap.get?_push_of_some _ q) (Nat.le_refl _) ?_, rfl, q _ (I5.hok.fresh (Nat.le_refl _))⟩
  exact ⟨Nat.le_trans (ev2_len xs) hz, _, 0, ev2_rel r, Heap.get?_push_size _ rfl⟩
end L2

/-! own == (either answer), len of an own object, C(..) by a local name, {k: v} with data as key -/
namespace NSet
open PySem PySem.Spec PySem.W PyProof.Rows L2
section
variable {X : Cx} {k : Nat} {C : Addr} {ps : List Str} {sp : Sp}
/-- x == y by the class's own method -/
def rEqOwn (C : Addr) (sp : Sp) (E : XK) : R2 := fun x y H Q => ∃ a dx fs b dy gs, x = .ref a ∧ y = .ref b ∧ H a = some (.ins C dx fs) ∧ H b = some (.ins C dy gs) ∧ sp [.ref a, .ref b] H (fun v H' => ∃ c, v = .bl c ∧ Q (.bl c) H') E
theorem op_eqOwn (D : MethD X.prog X.w X.K X.mg X.base C "__eq__" k ps sp) (hr : Room k X.A) : OpR X (compareOp .Eq) (rEqOwn C sp E0) := by
  obtain ⟨f, fd, M, F, bd, _⟩ := D
  intro pins s σ H x y v u Q I rx ry h
  obtain ⟨a, dx, fs, b, dy, gs, rfl, rfl, ha, hb, q⟩ := h
  cases rx
  cases ry
  obtain ⟨mA, J, _⟩ := ins_get I.hok ha
  obtain ⟨mB, J', _⟩ := ins_get I.hok hb
  obtain ⟨od, J, _⟩ := J.look
  obtain ⟨od', J', _⟩ := J'.look
  obtain ⟨mm, hF⟩ := I.fr
  refine wpAny_mono (?_ : wpAny (model X.prog X.w) X.A (richCompare .Eq (.ref a) (.ref b)) (EP X pins σ Q) X.xe s) (fun _ _ z => z) fun _ _ z => z
  refine PySem.W.cmp_K (op := .Eq) (tb := .ref C) hr.units0 hF I.ok.mod.kin J J'.type (by simp [PySem.W.notFirst]) M.at_ M.fn ?_
  have q2 : sp ([V.ref a, V.ref b] ++ []) H (fun v H' => ∃ c, v = V.bl c ∧ Q (.bl c) H') E0 := q
  refine thn (run_fn (us := [.ref a, .ref b]) (vs := [.ref a, .ref b]) (dvs := []) F hr bd .nil pass0 I (.cons rfl (.cons rfl .nil)) q2) fun r s' hz => ?_
  obtain ⟨z, H', I', rz, c, ez, q'⟩ := hz
  subst ez
  cases rz
  exact ⟨V.bl c, H', I', rfl, q'⟩
/-- len(o) by the class's own method -/
def rLenOwn (C : Addr) (sp : Sp) (E : XK) : List V → Hp → VK → Prop := fun xs H Q => ∃ a dx fs, xs = [.ref a] ∧ H a = some (.ins C dx fs) ∧ sp [.ref a] H (fun v H' => ∃ n : Nat, v = .int n ∧ n ≤ 1000000 ∧ Q (.int n) H') E
theorem call_lenOwn (D : MethD X.prog X.w X.K X.mg X.base C "__len__" k ps sp) (hr : Room (k + 1) X.A) : CallR X (.builtin "len") (rLenOwn C sp E0) := by
  obtain ⟨f, fd, M, F, bi, _, _, _, lk⟩ := D
  intro pins s σ H xs us Q I r h
  obtain ⟨a, dx, fs, rfl, ha, q⟩ := h
  obtain rfl := Vals.ref1 r
  obtain ⟨mA, J, _⟩ := ins_get I.hok ha
  obtain ⟨od, J, _⟩ := J.look
  refine Calls.call_function_entry PySem.kind_len PySem.plain_len PySem.entry_len (PySem.args_len1 _) ?_
  unfold Builtin.«len»
  refine wpAny_bind (m := oneArg "len" _) (wpAny_pure ?_)
  refine wpAny_bind (m := callSpecial? (.ref a) (Str.ofString "__len__")) (PySem.W.special_fn I.kIn J M.at_ (beq_iff_eq.mp M.fn) ?_)
  refine thn (run_fn1 (us := [.ref a]) (vs := [.ref a]) (dvs := []) F hr bi .nil pass0 I (.cons rfl .nil) q) fun v s' ⟨z, H', I', rz, n, ez, hn, q'⟩ => ?_
  subst ez
  obtain ⟨t, rfl⟩ := rz
  refine wpAny_bind (wpAny_holding (wpAny_pure ?_))
  refine wpAny_bind (wpAny_letGo ?_)
  show wpAny _ _ (if ((n : Nat) : Int) < 0 then _ else _) _ _ _
  rw [if_neg (by omega)]
  show wpAny _ _ (if ((n : Nat) : Int) ≥ 2 ^ 63 then _ else _) _ _ _
  rw [if_neg (by omega)]
  exact wpAny_bind (wpAny_mkInt (wpAny_pure ⟨_, rfl, .int n, H', I'.tok _, ⟨_, rfl⟩, q'⟩))
variable {i : Nat} {x : Str} {p pos : Pos} {e : Expr} {es : List Expr} {t : TA}
/-- C(e, ..), the class by a local name -/
def tMakeLV (i : Nat) (C : Addr) (sp : Sp) (t : TA) : TE := fun σ H Q => σ[i]? = some (some (.ref C)) ∧ tMake C sp [] E0 t σ H Q
theorem pe_makeLV {x0 : Str} (D : MakeD X.prog X.w X.K X.mg X.base C x0 k ps sp) (hr : Room (k + 1) X.A) (hN : X.N[i]? = some x) (hv : Vis X.env.scope x) (ha : PA X (e :: es) t)
    (hdb : (x == ("__debug__" : Str)) = false := by decide) (hcd : (x == ("__classdict__" : Str)) = false := by decide)
    (he : starEach (e :: es) X.env = (false, eval e X.env) :: starEach es X.env := by rfl) (hpl : (backTo pos (starEach es X.env)).any (·.1) = false := by rfl) :
    PE X (.Call (.Name x p) (e :: es) [] pos) (tMakeLV i C sp t) := by
  obtain ⟨f, fd, M, hm, F, b⟩ := D
  refine ⟨fun pins s σ H Q I h => ?_⟩
  obtain ⟨hs, ht⟩ := h
  refine wpAny_Call_Name_kw (thn ((pe_var (pos := p) hN hv hdb hcd).run pins s σ H (fun v H1 => v = .ref C ∧ H1 = H) I ⟨.ref C, hs, rfl, rfl⟩) fun u s1 ⟨v, H1, I1, r1, q1⟩ => ?_)
  obtain ⟨rfl, rfl⟩ := q1
  cases r1
  refine PySem.W.callWith_K (h₀ := X.base) I1.ok.mod.kin M.kp (thn (ha.run pos pins s1 σ H1 _ I1 ht) fun us s2 ⟨vs, H2, I2, r, q⟩ => ⟨I2.kIn, ?_⟩) he hpl
  exact run_make M F hr b .nil pass0 I2 r q
/-- {k: v} -/
def tDispV1 (K : PySem.W.Frag) (w : World) (tk tv : TE) : TE := fun σ H Q => ∀ p, H p = none → tPairs [(tk, tv)] σ (upd H p (DictVO w p [])) fun ps H2 => ∃ y v H3, ps = [(y, v)] ∧ DPutV K w H2 p y v H3 ∧ Q (.ref p) H3
theorem pe_dispV1 {pos : Pos} {keys : List (Option Expr)} {values : List Expr} {tk tv : TE} (hu : X.A.units + 24 < cLine) (h : PPs X pos keys values [(tk, tv)]) (hall : keys.all (·.isSome) = true) (hl : keys.length = values.length) (h0 : keys ≠ [])
    (h15 : keys.length ≤ 15) : PE X (.Dict keys values pos) (tDispV1 X.K X.w tk tv) := by
  refine ⟨fun pins s σ H Q I q => ?_⟩
  have hn := I.hok.fresh (Nat.le_refl s.heap.objs.size)
  have I1 := I.laid (a := s.heap.objs.size) (o := DictVO X.w s.heap.objs.size []) (h' := s.heap.push { cls := .type "dict", data := .dict #[] }) (t' := s.toks) (fun _ _ q => Heap.get?_push_of_some _ q) (Nat.le_refl _) (new0 s.heap I.big)
  refine wpAny_Dict_any hall hl h0 h15 (thn (h.run pins _ σ _ _ I1 (q _ hn)) fun ws s2 ⟨ps, H2, I2, rel, y, v, H3, ep, hput, q2⟩ => ?_)
  subst ep
  cases rel with
  | @cons _ b _ _ hb ht =>
    cases ht
    obtain ⟨b1, b2⟩ := b
    unfold storeAll
    rw [List.forIn_cons]
    refine wpAny_bind (wpAny_bind (put_compV hu I2 hput hb.1 hb.2 fun s' I' => wpAny_pure ?_))
    show wpAny _ _ (forIn [] PUnit.unit _) _ _ _
    rw [List.forIn_nil]
    exact wpAny_pure ⟨.ref s.heap.objs.size, H3, I', rfl, q2⟩
end
end NSet

/-! tallies told in order; sorted keys; == of two tallies -/
namespace NSet
open PySem PySem.Spec PySem.W PyProof.Rows L2
def ltK (E : Kin) (x y : E.κ) : Bool := dataLt (E.enc x) (E.enc y)
structure OrdK (E : Kin) : Prop where
  tot : ∀ x y, ltK E x y = false → ltK E y x = false → x = y
section
variable {E : Kin}
theorem ltK_irr (x : E.κ) : ltK E x x = false := swoD.refl _
theorem ltK_asym {x y : E.κ} (h : ltK E x y = true) : ltK E y x = false := swoD.asym _ _ h
theorem ltK_trans (O : OrdK E) {x y z : E.κ} (h1 : ltK E x y = true) (h2 : ltK E y z = true) : ltK E x z = true := by
  cases e : ltK E x z with
  | true => rfl
  | false =>
    have a : ltK E y x = false := ltK_asym h1
    have b : ltK E z y = false := ltK_asym h2
    -- not x < z, not z < y: not x < y
    have := swoD.tr _ _ _ b e
    rw [show dataLt (E.enc x) (E.enc y) = ltK E x y from rfl, h1] at this
    cases this
/-- the counts c, told in ascending order -/
structure Told (E : Kin) (c : E.κ → Int) (D : List (E.κ × Int)) : Prop where
  val : ∀ p ∈ D, c p.1 = p.2 ∧ p.2 ≠ 0
  all : ∀ k, c k ≠ 0 → k ∈ Tl.keys D
  asc : D.Pairwise fun p q => ltK E p.1 q.1 = true
variable {c : E.κ → Int} {D D' : List (E.κ × Int)}
theorem Told.nd (T : Told E c D) : (Tl.keys D).Nodup := by
  refine List.pairwise_map.mpr (T.asc.imp fun {p q} h e => ?_)
  rw [e, ltK_irr] at h
  cases h
theorem Told.fin (T : Told E c D) : Tl.Fin D := ⟨T.nd, fun p hp => (T.val p hp).2⟩
theorem Told.cnt (T : Told E c D) (k : E.κ) : Tl.cnt D k = c k := by
  by_cases h : k ∈ Tl.keys D
  · obtain ⟨p, hp, rfl⟩ := List.mem_map.mp h
    rw [Tl.cnt_in T.nd hp, (T.val p hp).1]
  · rw [Tl.cnt_out h]
    refine Classical.byContradiction fun z => h (T.all k fun e => z e.symm)
theorem Told.uniq (O : OrdK E) (T : Told E c D) (T' : Told E c D') : D = D' := by
  have pm : D.Perm D' := T.fin.perm T'.fin fun k => by rw [T.cnt, T'.cnt]
  refine List.Perm.eq_of_pairwise (le := fun p q => ltK E p.1 q.1 = true) (fun a b ha hb h1 h2 => ?_) T.asc T'.asc pm
  rw [ltK_asym h1] at h2
  cases h2
theorem Told.congr {c' : E.κ → Int} (T : Told E c D) (h : ∀ k, c k = c' k) : Told E c' D := ⟨fun p hp => by rw [← h]; exact T.val p hp, fun k hk => T.all k (by rw [h]; exact hk), T.asc⟩
/-- told of a sorted list of keys -/
theorem told_of {L : List E.κ} (h : L.Pairwise fun x y => ltK E x y = true) (c : E.κ → Int) (hc : ∀ k, c k ≠ 0 → k ∈ L) : Told E c ((L.filter fun k => decide (c k ≠ 0)).map fun k => (k, c k)) := by
  refine ⟨fun p hp => ?_, fun k hk => ?_, ?_⟩
  · obtain ⟨k, hk, rfl⟩ := List.mem_map.mp hp
    exact ⟨rfl, of_decide_eq_true (List.mem_filter.mp hk).2⟩
  · exact List.mem_map.mpr ⟨(k, c k), List.mem_map.mpr ⟨k, List.mem_filter.mpr ⟨hc k hk, decide_eq_true hk⟩, rfl⟩, rfl⟩
  · exact List.pairwise_map.mpr (h.filter _)
theorem sorted_keys (O : OrdK E) {ks : List E.κ} {M : List PyData} (nd : ks.Nodup) (hp : M.Perm (ks.map E.enc)) (hw : M.Pairwise fun d e => dataLt e d = false) : ∃ L : List E.κ, M = L.map E.enc ∧ L.Perm ks ∧ L.Pairwise fun x y => ltK E x y = true := by
  obtain ⟨L, h1, h2⟩ := perm_lift E.enc hp ks rfl
  subst h2
  refine ⟨L, rfl, h1, ?_⟩
  have hw' := List.pairwise_map.mp hw
  have nd' : L.Nodup := h1.nodup_iff.mpr nd
  refine (hw'.and nd').imp fun {x y} ⟨a, b⟩ => ?_
  cases e : ltK E x y with
  | true => rfl
  | false => exact absurd (O.tot x y e a) b
theorem sorts_of (ks : List E.κ) : Sorts (ks.map E.enc) := by
  refine ⟨immAll_of fun d hd => ?_, fun d hd e he => ?_, fun _ d hd => ?_, fun d hd => ?_⟩
  · obtain ⟨k, _, rfl⟩ := List.mem_map.mp hd
    exact E.imm k
  · obtain ⟨k, _, rfl⟩ := List.mem_map.mp hd
    obtain ⟨k', _, rfl⟩ := List.mem_map.mp he
    exact E.nil k k'
  · obtain ⟨k, _, rfl⟩ := List.mem_map.mp hd
    exact E.tup k
  · obtain ⟨k, _, rfl⟩ := List.mem_map.mp hd
    exact Nat.le_trans (E.dp k) (by decide)
end
section
variable {E : Kin} {K : PySem.W.Frag} {w : World} {H H' : Hp}
theorem Rows.das : ∀ {Lr : List DRowV} {L : List (E.κ × V)}, Rows E K H Lr L → DaAll K H (Lr.map kRef) (L.map fun p => E.enc p.1)
  | _, _, .nil => .nil
  | _, _, .cons h t => .cons h.1 (Rows.das t)
theorem ivs_keys (L : List (E.κ × Int)) : (ivs L).map (fun p => E.enc p.1) = (Tl.keys L).map E.enc := by
  unfold ivs Tl.keys
  rw [List.map_map, List.map_map]
  rfl
def rEqTal (K : PySem.W.Frag) (w : World) : R2 := fun x y H Q => ∃ (E : Kin) (a b : Addr) (L M : List (E.κ × Int)) (Lr Mr : List DRowV), x = .ref a ∧ y = .ref b ∧ Rd H a (DictVO w a Lr) ∧ Rows E K H Lr (ivs L) ∧ Rd H b (DictVO w b Mr) ∧ Rows E K H Mr (ivs M) ∧ (Tl.keys L).Nodup ∧ (Tl.keys M).Nodup ∧
  ∀ v : Bool, (v = true ↔ L.Perm M) → Q (.bl v) H
theorem perm_of_sub {L M : List (E.κ × Int)} (nL : (Tl.keys L).Nodup) (nM : (Tl.keys M).Nodup) (hl : L.length = M.length) (hs : ∀ p ∈ L, p ∈ M) : L.Perm M := by
  refine (List.perm_ext_iff_of_nodup (Tl.nodup_keys nL) (Tl.nodup_keys nM)).mpr fun p => ⟨hs p, fun hp => ?_⟩
  refine Classical.byContradiction fun z => ?_
  have n2 : (p :: L).Nodup := List.nodup_cons.mpr ⟨z, Tl.nodup_keys nL⟩
  have := List.Nodup.length_le_of_subset n2 (l₂ := M) fun q hq => by
    rcases List.mem_cons.mp hq with rfl | hq
    · exact hp
    · exact hs q hq
  rw [List.length_cons] at this
  omega
theorem val_ivs_none {L : List (E.κ × Int)} {k : E.κ} (h : k ∉ Tl.keys L) : valA (ivs L) k = none := by
  rw [find_ivs, List.find?_eq_none.mpr fun p hp => ?_]
  · rfl
  · simp only [decide_eq_true_eq]
    exact fun e => h (e ▸ List.mem_map.mpr ⟨p, hp, rfl⟩)
theorem val_ivs_iff {L : List (E.κ × Int)} (hn : (Tl.keys L).Nodup) {k : E.κ} {i : Int} : valA (ivs L) k = some (.int i) ↔ (k, i) ∈ L := by
  by_cases h : k ∈ Tl.keys L
  · rw [val_ivs_in hn h]
    obtain ⟨p, hp, rfl⟩ := List.mem_map.mp h
    rw [Tl.cnt_in hn hp]
    constructor
    · intro e
      have : p.2 = i := by
        injection e with e
        injection e
      rw [← this]
      exact hp
    · intro e
      have := Tl.cnt_in hn e
      rw [Tl.cnt_in hn hp] at this
      rw [this]
  · rw [val_ivs_none h]
    exact ⟨fun z => (nomatch z), fun z => absurd (List.mem_map.mpr ⟨_, z, rfl⟩) h⟩
theorem op_eqTal {X : Cx} (hu : X.A.units + 24 < cLine) : OpR X (compareOp .Eq) (rEqTal X.K X.w) := by
  intro pins s σ H x y v u Q I rx ry h
  obtain ⟨E, a, b, L, M, Lr, Mr, rfl, rfl, ea, RL, eb, RM, nL, nM, q⟩ := h
  obtain rfl : v = Value.ref a := rx
  obtain rfl : u = Value.ref b := ry
  obtain ⟨us, ru, da⟩ := (dv_rd I ea).full (P := X.prog) (RL.mem.nst I)
  obtain ⟨ws, rw', db⟩ := (dv_rd I eb).full (P := X.prog) (RM.mem.nst I)
  have l1 : Lr.length = us.length := by
    have := ru.length
    rwa [List.length_map] at this
  have l2 : Mr.length = ws.length := by
    have := rw'.length
    rwa [List.length_map] at this
  have l3 : Lr.length = L.length := by rw [plen RL, ivs_len]
  have l4 : Mr.length = M.length := by rw [plen RM, ivs_len]
  -- a row of either, with its number
  have rowL : ∀ (j : Nat) (z : NestedKey × Addr × Value), ((Lr.zip us).map rowV)[j]? = some z → ∃ (p : E.κ × Int) (t : Tok), L[j]? = some p ∧ z.1 = kOf (E.enc p.1) ∧ z.2.2 = .int p.2 t := by
    intro j z hz
    have hjl : j < Lr.length := by
      have := (List.getElem?_eq_some_iff.mp hz).1
      rw [List.length_map, List.length_zip] at this
      omega
    obtain ⟨u, hu1, hu2⟩ := zip_get l1 (List.getElem?_eq_getElem hjl)
    rw [hz] at hu2
    cases hu2
    obtain ⟨p, hp, _, e1, e2⟩ := pgetL RL (List.getElem?_eq_getElem hjl)
    obtain ⟨q', hq, rfl⟩ := ivs_get hp
    obtain ⟨u', g1, g2⟩ := Vals.get (i := j) (x := Lr[j].2.2) ru (by rw [List.getElem?_map, List.getElem?_eq_getElem hjl]; rfl)
    rw [hu1] at g1
    cases g1
    rw [e2] at g2
    obtain ⟨t, ht⟩ := g2
    exact ⟨q', t, hq, e1, ht⟩
  have rowM : ∀ (j : Nat) (z : NestedKey × Addr × Value), ((Mr.zip ws).map rowV)[j]? = some z → ∃ (p : E.κ × Int) (t : Tok), M[j]? = some p ∧ z.1 = kOf (E.enc p.1) ∧ z.2.2 = .int p.2 t := by
    intro j z hz
    have hjl : j < Mr.length := by
      have := (List.getElem?_eq_some_iff.mp hz).1
      rw [List.length_map, List.length_zip] at this
      omega
    obtain ⟨u, hu1, hu2⟩ := zip_get l2 (List.getElem?_eq_getElem hjl)
    rw [hz] at hu2
    cases hu2
    obtain ⟨p, hp, _, e1, e2⟩ := pgetL RM (List.getElem?_eq_getElem hjl)
    obtain ⟨q', hq, rfl⟩ := ivs_get hp
    obtain ⟨u', g1, g2⟩ := Vals.get (i := j) (x := Mr[j].2.2) rw' (by rw [List.getElem?_map, List.getElem?_eq_getElem hjl]; rfl)
    rw [hu1] at g1
    cases g1
    rw [e2] at g2
    obtain ⟨t, ht⟩ := g2
    exact ⟨q', t, hq, e1, ht⟩
  let P : NestedKey × Addr × Value → Bool := fun x => match x.2.2 with
    | .int i _ => (valN Mr x.1 == some (.int i) : Bool)
    | _ => false
  have Pv : ∀ (j : Nat) (z : NestedKey × Addr × Value) (p : E.κ × Int) (t : Tok), z.1 = kOf (E.enc p.1) → z.2.2 = .int p.2 t → (P z = true ↔ p ∈ M) := by
    intro j z p t e1 e2
    show (match z.2.2 with | .int i _ => (valN Mr z.1 == some (.int i) : Bool) | _ => false) = true ↔ _
    rw [e2, e1, valN_rows p.1 RM]
    show (valA (ivs M) p.1 == some (.int p.2)) = true ↔ _
    rw [beq_iff_eq, val_ivs_iff nM]
  refine eqB_heap (knd := nestedKind X.prog X.w) (in1 hu) (by omega) (dv_at I ea).2.2 (dv_at I eb).2.2 da db P (fun x hx => ?_) ?_
  · obtain ⟨j, hj⟩ := List.getElem?_of_mem hx
    obtain ⟨p, t, hp, e1, e2⟩ := rowL j x hj
    refine ⟨fun j' p' hj' => ?_, fun hno => ?_⟩
    · obtain ⟨q', t', hq, e3, e4⟩ := rowM j' _ hj'
      have ek : q'.1 = p.1 := key_eq.mp (by rw [← e3, ← e1])
      have e4' : p'.2 = .int q'.2 t' := e4
      rw [e2, e4']
      have e := SeqAt.EqAt.int_int (A := X.A.in1) (s := s) p.2 t q'.2 t'
      have hb : P x = (p.2 == q'.2) := by
        rw [Bool.eq_iff_iff, Pv j x p t e1 e2, beq_iff_eq]
        have hqm := List.mem_of_getElem? hq
        constructor
        · intro hm
          have z1 := Tl.cnt_in nM hm
          have z2 := Tl.cnt_in nM hqm
          rw [ek] at z2
          omega
        · intro z
          have : p = q' := Prod.ext ek.symm z
          rw [this]
          exact hqm
      rw [hb]
      exact e
    · cases hb : P x with
      | false => rfl
      | true =>
        have hm := (Pv j x p t e1 e2).mp hb
        obtain ⟨i, hi⟩ := List.getElem?_of_mem hm
        have hil : i < Mr.length := by
          have := (List.getElem?_eq_some_iff.mp hi).1
          omega
        obtain ⟨u, hu1, hu2⟩ := zip_get l2 (List.getElem?_eq_getElem hil)
        obtain ⟨q', t', hq, e3, e4⟩ := rowM i _ hu2
        rw [hi] at hq
        cases hq
        refine absurd (?_ : _ = _) (hno i (rowV (Mr[i], u)).2)
        rw [hu2]
        show some ((rowV (Mr[i], u)).1, (rowV (Mr[i], u)).2) = _
        rw [e3, e1]
  · refine ⟨.bl _, H, I, rfl, q _ ?_⟩
    have la : ((Lr.zip us).map rowV).length = L.length := by rw [List.length_map, List.length_zip]; omega
    have lb : ((Mr.zip ws).map rowV).length = M.length := by rw [List.length_map, List.length_zip]; omega
    rw [la, lb, Bool.and_eq_true, decide_eq_true_eq, List.all_eq_true]
    constructor
    · rintro ⟨hl, hall⟩
      refine perm_of_sub nL nM hl fun p hp => ?_
      obtain ⟨i, hi⟩ := List.getElem?_of_mem hp
      have hil : i < Lr.length := by
        have := (List.getElem?_eq_some_iff.mp hi).1
        omega
      obtain ⟨u, hu1, hu2⟩ := zip_get l1 (List.getElem?_eq_getElem hil)
      obtain ⟨q', t', hq, e3, e4⟩ := rowL i _ hu2
      rw [hi] at hq
      cases hq
      exact (Pv i _ p t' e3 e4).mp (hall _ (List.mem_of_getElem? hu2))
    · intro pm
      refine ⟨pm.length_eq, fun z hz => ?_⟩
      obtain ⟨j, hj⟩ := List.getElem?_of_mem hz
      obtain ⟨p, t, hp, e1, e2⟩ := rowL j z hj
      exact (Pv j z p t e1 e2).mpr (pm.mem_iff.mp (List.mem_of_getElem? hp))
end
/-! ### the kinds that are wanted: rows, and pairs of two rows -/
theorem keyed_mo (m : List Int) : keyed (mo m) = true := keyedAll_of fun d hd => by
  obtain ⟨i, _, rfl⟩ := List.mem_map.mp hd
  rfl
theorem mo_inj {m n : List Int} (h : mo m = mo n) : m = n := (List.map_inj_right (f := PyData.int) (fun x y e => by injection e)).mp (PyData.tuple.inj h)
theorem mo_dp (m : List Int) : (mo m).depth ≤ 2 := by
  have : PyData.depthAll (m.map .int) ≤ 1 := depthAll_le _ fun d hd => by
    obtain ⟨i, _, rfl⟩ := List.mem_map.mp hd
    simp [PyData.depth]
  show PyData.depth (.tuple (m.map .int)) ≤ 2
  simp only [PyData.depth]
  omega
mutual
theorem kOf_depth : ∀ d : PyData, (kOf d).depth ≤ d.depth
  | .none => Nat.zero_le _
  | .bool b => Nat.zero_le _
  | .int _ => Nat.zero_le _
  | .str _ => Nat.zero_le _
  | .tuple ds => by
    have := kOfs_depth ds
    simp only [kOf, NestedKey.depth, PyData.depth]
    omega
  | .list _ => Nat.zero_le _
  | .dict _ => Nat.zero_le _
theorem kOfs_depth : ∀ ds : List PyData, NestedKey.depthAll (kOfs ds) ≤ PyData.depthAll ds
  | [] => Nat.zero_le _
  | d :: ds => by
    have h1 := kOf_depth d
    have h2 := kOfs_depth ds
    simp only [kOfs, NestedKey.depthAll, PyData.depthAll]
    omega
end
abbrev rowK : Kin where
  κ := List Int
  dec := inferInstance
  enc := mo
  inj _ _ h := mo_inj h
  key := keyed_mo
  dep m := Nat.le_trans (kOf_depth _) (Nat.le_trans (mo_dp m) (by decide))
  dp m := Nat.le_trans (mo_dp m) (by decide)
  tup m := ⟨_, rfl⟩
  nil x y := RW9.encR_alike x y
def pairD (p : List Int × List Int) : PyData := .tuple [mo p.1, mo p.2]
theorem pair_dp (p : List Int × List Int) : (pairD p).depth ≤ 3 := by
  have h1 := mo_dp p.1
  have h2 := mo_dp p.2
  simp only [pairD, PyData.depth, PyData.depthAll]
  omega
abbrev pairK : Kin where
  κ := List Int × List Int
  dec := inferInstance
  enc := pairD
  inj x y h := by
    have h' := PyData.tuple.inj h
    rw [List.cons.injEq, List.cons.injEq] at h'
    exact Prod.ext (mo_inj h'.1) (mo_inj h'.2.1)
  key x := by
    show (keyed (mo x.1) && (keyed (mo x.2) && true)) = true
    rw [keyed_mo, keyed_mo]
    rfl
  dep m := Nat.le_trans (kOf_depth _) (Nat.le_trans (pair_dp m) (by decide))
  dp m := Nat.le_trans (pair_dp m) (by decide)
  tup m := ⟨_, rfl⟩
  nil x y := by
    show alike (.tuple _) (.tuple _) = true
    have h1 := RW9.encR_alike x.1 y.1
    have h2 := RW9.encR_alike x.2 y.2
    have h1' : alike (mo x.1) (mo y.1) = true := h1
    have h2' : alike (mo x.2) (mo y.2) = true := h2
    simp [alike, alikeAll, h1', h2']
theorem lt_row (x y : List Int) : ltK rowK x y = decide (x < y) := RW9.encR_lt x y
theorem lt_pair (x y : List Int × List Int) : ltK pairK x y = if x.1 = y.1 then decide (x.2 < y.2) else decide (x.1 < y.1) := by
  show dataLt (.tuple [mo x.1, mo x.2]) (.tuple [mo y.1, mo y.2]) = _
  have e1 : dataLt (mo x.1) (mo y.1) = decide (x.1 < y.1) := RW9.encR_lt x.1 y.1
  have e2 : dataLt (mo x.2) (mo y.2) = decide (x.2 < y.2) := RW9.encR_lt x.2 y.2
  refine (dataLt_pair (RW9.encR_alike x.1 y.1) (RW9.encR_alike x.2 y.2)).trans ?_
  rw [← e1, ← e2]
  show (if PyData.eqv (mo x.1) (mo y.1) = true then _ else _) = _
  by_cases h : x.1 = y.1
  · rw [if_pos h, if_pos (by rw [h]; exact (eqv_keyed _ _ (keyed_mo _) (keyed_mo _)).mpr rfl)]
    by_cases h2 : x.2 = y.2
    · rw [if_pos (show PyData.eqv (RW9.encR x.2) (RW9.encR y.2) = true by rw [h2]; exact (eqv_keyed _ _ (keyed_mo _) (keyed_mo _)).mpr rfl), h2]
      exact (swoD.refl (mo y.2)).symm
    · rw [if_neg (show ¬ PyData.eqv (RW9.encR x.2) (RW9.encR y.2) = true from fun z => h2 (mo_inj ((eqv_keyed _ _ (keyed_mo _) (keyed_mo _)).mp z)))]
      rfl
  · rw [if_neg h, if_neg (fun z => h (mo_inj ((eqv_keyed _ _ (keyed_mo _) (keyed_mo _)).mp z)))]
    rfl
theorem row_tot {x y : List Int} (h1 : ¬ x < y) (h2 : ¬ y < x) : x = y := List.le_antisymm (List.not_lt.mp h2) (List.not_lt.mp h1)
theorem ordRow : OrdK rowK := ⟨fun (x y : List Int) h1 h2 => by
  have h1' := (lt_row x y).symm.trans h1
  have h2' := (lt_row y x).symm.trans h2
  exact row_tot (of_decide_eq_false h1') (of_decide_eq_false h2')⟩
theorem ordPair : OrdK pairK := ⟨fun (x y : List Int × List Int) h1 h2 => by
  replace h1 := (lt_pair x y).symm.trans h1
  replace h2 := (lt_pair y x).symm.trans h2
  by_cases h : x.1 = y.1
  · rw [if_pos h] at h1
    rw [if_pos (Eq.symm h)] at h2
    exact Prod.ext h (row_tot (of_decide_eq_false h1) (of_decide_eq_false h2))
  · rw [if_neg h] at h1
    rw [if_neg fun z => h z.symm] at h2
    exact absurd (row_tot (of_decide_eq_false h1) (of_decide_eq_false h2)) h⟩
end NSet

/-! a dict walked that is locked as the walk begins; C(..) with the last default; class methods by name -/
namespace NSet
open PySem PySem.Spec PySem.W PyProof.Rows L2
def iKeysLV (w : World) (td : TE) : TI := fun σ H R => td σ H fun x H1 => ∃ d L, x = .ref d ∧ ((H1 d = some (DictVO w d L) ∧ ∀ o, R (Itv w d o L) (upd H1 d (.frz o (DictVO w d L)))) ∨ ∃ o, H1 d = some (.frz o (DictVO w d L)) ∧ R (Itv w d o L) H1)
section
variable {X : Cx} {tg e : Expr} {td : TE}
theorem keysV_run {pins : List (Addr × Obj)} {s1 : Shared} {σ : L2.St} {H1 : Hp} {R : It → Hp → Prop} {d : Addr} {o : Obj} {L : List DRowV} (I1 : Inv X pins σ H1 s1) (hd : H1 d = some (.frz o (DictVO X.w d L))) (q : R (Itv X.w d o L) H1) :
    wpAny (model X.prog X.w) X.A (pyIter (.ref d)) (PIE X pins σ tg R) X.xe s1 := by
  obtain ⟨hs, hgd, hx, es, ep, hdt, hsz, ent⟩ := Inv.frzV I1 hd
  refine iter_keys hs hgd hx hdt (pi_one (tk := s1.toks) I1 _ (turn_keysV _ hdt) ⟨_, Heap.get?_push_size _ rfl, rfl, ?_⟩ q)
  rw [hsz] <;> rfl
theorem pi_keysLV (he : PE X e td) : PI X tg e (iKeysLV X.w td) := by
  refine ⟨fun pins s σ H R I h => ?_⟩
  refine thn (he.run pins s σ H _ I h) fun u s1 ⟨x, H1, I1, rx, d, L, ex, q⟩ => ?_
  subst ex
  obtain rfl : u = Value.ref d := rx
  rcases q with ⟨hd, q⟩ | ⟨o, hd, q⟩
  · obtain ⟨od, I2⟩ := I1.lock hd True.intro
    exact keysV_run I2 upd_same (q od)
  · exact keysV_run I1 hd q
end
section
variable {X : Cx} {C : Addr} {x m : Str} {k : Nat} {ps : List Str} {sp : Sp} {p pos apos : Pos} {o e : Expr} {es : List Expr} {t : TA} {ta : TE}
/-- C(e, ..), the last parameter by its default () -/
def tMakeD1 (K : PySem.W.Frag) (C : Addr) (sp : Sp) (t : TA) : TE := fun σ H Q => ∀ d, EmptyT K d → tMake C sp [.ref d] E0 t σ H Q
theorem pe_makeID (D : MakeI X.prog X.w X.K X.mg X.base C x k ps sp) (hr : Room (k + 1) X.A) (hg : Gl X x) (ha : PA X (e :: es) t) (hdb : (x == ("__debug__" : Str)) = false := by decide)
    (he : starEach (e :: es) X.env = (false, eval e X.env) :: starEach es X.env := by rfl) (hpl : (backTo pos (starEach es X.env)).any (·.1) = false := by rfl) : PE X (.Call (.Name x p) (e :: es) [] pos) (tMakeD1 X.K C sp t) := by
  obtain ⟨f, fd, M, g, F, _, d, hd, b⟩ := D
  refine ⟨fun pins s σ H Q I h => ?_⟩
  exact (pe_make M F hr hg g b (.cons (show RelV (.ref d) (.ref d) from rfl) .nil) pass0 ha hdb he hpl).run pins s σ H Q I (h d hd)
end
/-! ### class methods -/
/-- the def of the class method m stands in the class at C -/
def TopC (K : PySem.W.Frag) (C : Addr) (m qual : Str) (st : Stmt) (ps : List Str) : Prop :=
  ∃ (mc : Value) (p f : Addr) (fd : FuncData), ClX.CRead K C mc ∧ ClX.CMet K C mc m p f ∧ Fun K m qual st f fd ∧ Binds K fd ps []
def CMethD (P : Program) (w : World) (K : PySem.W.Frag) (mg : Str → Option Value) (base : Heap) (C : Addr) (m : Str) (k : Nat) (sp : Sp) : Prop :=
  ∃ (mc : Value) (p f : Addr), ClX.CRead K C mc ∧ ClX.CMet K C mc m p f ∧ FnR P w K mg base CX0 k f sp
section
variable {P : Program} {w : World} {K : PySem.W.Frag} {mg : Str → Option Value} {base : Heap} {C : Addr} {m qual : Str} {st : Stmt} {ps N : List Str} {k : Nat} {sp : Sp}
theorem mk_cmeth (T : TopC K C m qual st ps) (S : FnScope N ps (defScope st)) (len : ∀ vs H Q E, sp vs H Q E → vs.length = ps.length)
    (hbody : ∀ (f : Addr) (cdv : Value) (A : Around) (outer : List Env) (s : Shared) (H : Hp) (vs : List V) (Q : VK) (E : XK), Room k (A.deeper (envOfC qual (defScope st) s.heap.objs.size f cdv)) → sp vs H Q E →
      ∃ t, PSs (cxOf CX0 P w K mg base N qual (defScope st) f cdv A outer s H E).nox (defBody st) t ∧ t { nx := fun _ H' => Q .non H', rt := Q } (start N vs) H) :
    CMethD P w K mg base C m (k + 1) sp := by
  obtain ⟨mc, p, f, fd, r, c, F, b⟩ := T
  refine ⟨mc, p, f, r, c, ((F.ok S len (hbody f)).raw b .nil).imp fun vs H Q E h => ?_⟩
  rw [List.append_nil]
  exact h
end
section
variable {X : Cx} {C : Addr} {m : Str} {k : Nat} {sp : Sp} {pos apos : Pos} {o e : Expr} {es : List Expr} {t : TA} {ta : TE} {pl : Sem Bool}
theorem pe_cmethM (he : PE X o ta) (D : CMethD X.prog X.w X.K X.mg X.base C m k sp) (hr : Room k X.A) (ha : PA X (e :: es) t)
    (hst : starEach (e :: es) X.env = (false, eval e X.env) :: starEach es X.env := by rfl) (hpl : (backTo pos (starEach es X.env)).any (·.1) = false := by rfl)
    (ht : eval (.Call (.Attribute o m apos) (e :: es) [] pos) X.env = (do
      let ov ← eval o X.env
      standAt apos.atName
      let (f, first) ← holding [ov] (getMethod ov m pl)
      callWith pos f first (backTo pos (starEach (e :: es) X.env)) (backToKw pos (keywordEach [] X.env))) := by rfl) :
    PE X (.Call (.Attribute o m apos) (e :: es) [] pos) (ClX.tCMeth C sp E0 ta t) := by
  obtain ⟨mc, p, f, r, c, F⟩ := D
  exact ClX.pe_cmeth he r c F hr pass0 ha hst hpl ht
end
end NSet
namespace L2
open PySem PySem.Spec PyProof.Rows
theorem hu24 {A : Around} {k : Nat} (hr : Room k A) : A.units + 24 < cLine := by
  have := hr.un
  omega
end L2

/-! set(xs), xs a list of data -/
namespace NSet
open PySem PySem.Spec PySem.W PyProof.Rows L2 RW9 PpSet
/-- what the set has got from the first i items -/
structure GotN (ks : List (Addr × NestedKey)) (i : Nat) (L : List (Addr × NestedKey)) : Prop where
  sub : ∀ p ∈ L, p ∈ ks
  all : ∀ p ∈ ks.take i, p.2 ∈ L.map (·.2)
section
variable {P : Program} {w : World} {A : Around} {E : Value → Shared → Prop} {s : Shared}
theorem GotN.next {ks L L' : List (Addr × NestedKey)} {i : Nat} {x : Addr × NestedKey} (g : GotN ks i L) (h : ks[i]? = some x) (c1 : x.2 ∈ L.map (·.2) → L' = L) (c2 : x.2 ∉ L.map (·.2) → L'.Perm (x :: L)) : GotN ks (i + 1) L' := by
  have tk : ks.take (i + 1) = ks.take i ++ [x] := by rw [List.take_add_one, h]; rfl
  by_cases c : x.2 ∈ L.map (·.2)
  · rw [c1 c]
    refine ⟨g.sub, fun p hp => ?_⟩
    rw [tk] at hp
    rcases List.mem_append.mp hp with z | z
    · exact g.all p z
    · rw [List.mem_singleton.mp z]; exact c
  · have pm := c2 c
    refine ⟨fun p hp => ?_, fun p hp => ?_⟩
    · rcases List.mem_cons.mp (pm.mem_iff.mp hp) with e | z
      · rw [e]; exact List.mem_of_getElem? h
      · exact g.sub p z
    · rw [(pm.map (·.2)).mem_iff, List.map_cons]
      rw [tk] at hp
      rcases List.mem_append.mp hp with z | z
      · exact List.mem_cons_of_mem _ (g.all p z)
      · rw [List.mem_singleton.mp z]; exact List.mem_cons_self
/-- few different keys -/
def Few (ks : List (Addr × NestedKey)) : Prop := ∀ l : List NestedKey, l.Nodup → (∀ k ∈ l, k ∈ ks.map (·.2)) → l.length < 299
theorem SetN.move {h h' : Heap} {a : Addr} {L : List (Addr × NestedKey)} {es : Array (Int × Value)} {ep : Nat} {t : SetTable} (R : SetN w h a L es ep t) (ha : ∀ o, h.get? a = some o → h'.get? a = some o) (hk : ∀ p ∈ L, Nst h' p.2 p.1) : SetN w h' a L es ep t := by
  obtain ⟨o, ho, r⟩ := R.obj
  exact ⟨⟨o, ha o ho, r⟩, R.rows, R.tab, R.nd, hk, R.led, R.room, R.few⟩
theorem setN_fresh {h : Heap} {a : Addr} (ho : h.get? a = some { cls := .type "set", dict := none, data := .set #[] 0 (.fresh 0 0 (!w.params.followText "set-order")) }) : SetN w h a [] #[] 0 (.fresh 0 0 (!w.params.followText "set-order")) where
  obj := ⟨_, ho, ⟨rfl, rfl, rfl⟩, rfl⟩
  rows := rfl
  tab := ⟨List.Pairwise.nil, rfl, rfl, .inl (.inl rfl), (fun x hx => nomatch hx), (fun i h j hi => by simp at hi)⟩
  nd := List.nodup_nil
  key := fun p hp => nomatch hp
  led := by
    show _ ∨ (!w.params.followText "set-order") = true
    cases w.params.followText "set-order"
    · exact .inr rfl
    · exact .inl rfl
  room := by show 0 * 5 < 7 * 3; decide
  few := by show 0 < 300; decide
theorem set_loopN {I : Addr} {fp wr : List Addr} {G : Array GenState → Array GenState → Prop} {n : Nat} {Pv : Nat → Value → Prop} {St : Nat → Shared → Prop} {R : Result → Shared → Prop}
    (W : WalksS P w A.in1 I fp wr G n Pv St) (S : Addr) (hSf : S ∉ fp) (ks : List (Addr × NestedKey)) (hn : n = ks.length) (few : Few ks) (hval : ∀ i v, Pv i v → ∃ p, ks[i]? = some p ∧ v = .ref p.1)
    (h0 : Heap) (hk : ∀ p ∈ ks, Nst h0 p.2 p.1) (hS0 : h0.get? S = none) (hw0 : ∀ b ∈ wr, h0.get? b = none) (hu : A.in1.units + 8 < cLine) :
    ∀ (k i : Nat) (s : Shared), n - i = k → i ≤ n → St i s → (∀ b o, h0.get? b = some o → s.heap.get? b = some o) → (∃ L es ep t, SetN w s.heap S L es ep t ∧ GotN ks i L) →
      (∀ s' L es ep t, Moved (S :: wr) G s s' → SetN w s'.heap S L es ep t → GotN ks n L → (∀ b o, h0.get? b = some o → s'.heap.get? b = some o) → R (.ok (.ret .none)) s') →
      codeAny (model P w) A (.builtin "set.update.loop" ⟨[.ref S, .ref I], []⟩) R s := by
  have hSw : S ∉ wr := fun h => hSf (W.sub _ h)
  have mono : ∀ b ∈ wr, b ∈ S :: wr := fun b hb => List.mem_cons_of_mem _ hb
  have stay : ∀ {s s' : Shared}, Moved wr G s s' → (∀ b o, h0.get? b = some o → s.heap.get? b = some o) → ∀ b o, h0.get? b = some o → s'.heap.get? b = some o := fun hm kp b o e =>
    hm.heap b o (fun hb => by rw [hw0 b hb] at e; cases e) (kp b o e)
  intro k
  induction k with
  | zero =>
    intro i s hk' hi hst kp ⟨L, es, ep, t, hS, g⟩ hR
    obtain rfl : i = n := by omega
    refine codeAny_builtin F.entry_set_update_loop ?_
    rw [Around.under_plainId F.plain_set_update_loop _]
    show wpAny _ A.in1 (pyNext (.ref I) >>= _) _ _ s
    refine wpAny_bind (W.done s _ _ hst fun s' hm => ?_)
    show wpAny _ A.in1 (ret Value.none) _ _ s'
    have kp' := stay hm kp
    exact wpAny_pure (hR s' L es ep t (hm.mono mono) (hS.move (fun o e => hm.heap S o hSw e) fun p hp => (hk p (g.sub p hp)).keep kp') g kp')
  | succ k ih =>
    intro i s hk' hi hst kp ⟨L, es, ep, t, hS, g⟩ hR
    have hlt : i < n := by omega
    refine codeAny_builtin F.entry_set_update_loop ?_
    rw [Around.under_plainId F.plain_set_update_loop _]
    show wpAny _ A.in1 (pyNext (.ref I) >>= _) _ _ s
    refine wpAny_bind (W.item i s _ _ hlt hst fun v s' hP hst' hm => ?_)
    obtain ⟨p, hp, rfl⟩ := hval i v hP
    have kp' := stay hm kp
    have hS' := hS.move (fun o e => hm.heap S o hSw e) fun q hq => (hk q (g.sub q hq)).keep kp'
    have hx : Nst s'.heap p.2 p.1 := (hk p (List.mem_of_getElem? hp)).keep kp'
    have room := few (L.map (·.2)) hS.nd fun k hk2 => by
      obtain ⟨q, hq, rfl⟩ := List.mem_map.mp hk2
      exact List.mem_map.mpr ⟨q, g.sub q hq, rfl⟩
    rw [List.length_map] at room
    show wpAny _ A.in1 (holding [Value.ref p.1] (setAdd S (.ref p.1)) >>= _) _ _ s'
    refine wpAny_bind (wpAny_holding ?_)
    unfold setAdd
    refine wpAny_holding (wpAny_bind ((nestedKind P w).pyHash (k := p.2) hu hx ?_))
    refine put_key (s := { s' with toks := s'.toks + p.2.draws }) hS' hx hu (by omega) fun b h' L' es' ep' t' sb hS2 c1 c2 => ?_
    have kp2 : ∀ b o, h0.get? b = some o → h'.get? b = some o := fun b o e => (sb.2 b (fun z => by rw [z, hS0] at e; cases e)).trans (kp' b o e)
    refine wpAny_pure ⟨plainId_quiet F.plain_set_update_loop _, ih (i + 1) _ (by omega) hlt (W.frame _ s' _ _ hst' (Nat.le_add_right _ _) fun b hb o e => ?_) kp2 ⟨L', es', ep', t', hS2, g.next hp c1 c2⟩ fun s'' L2 es2 ep2 t2 hm'' hS'' g'' kp'' => ?_⟩
    · rw [sb.2 b (fun h : b = S => hSf (by rw [← h]; exact hb))]; exact e
    · refine hR s'' L2 es2 ep2 t2 (Moved.trans W.gtrans ((hm.mono mono).then_heap (Nat.le_add_right _ _) fun b o hb e => ?_) hm'') hS'' g'' kp''
      rw [sb.2 b (fun h : b = S => hb (by rw [h]; exact List.mem_cons_self))]; exact e
set_option maxHeartbeats 6400000 in
theorem call_setN {l : Addr} {items : Array Value} (ks : List (Addr × NestedKey)) {Q : Value → Shared → Prop} (hh : A.handled = none) (hl : s.heap.IsList l items) (hit : items.toList = ks.map fun p => Value.ref p.1)
    (hk : ∀ p ∈ ks, Nst s.heap p.2 p.1) (few : Few ks) (hu : A.units + 16 < cLine)
    (h : ∀ (h' : Heap) (tk : Nat) L es ep t, SetN w h' s.heap.objs.size L es ep t → GotN ks ks.length L → (∀ b o, s.heap.get? b = some o → h'.get? b = some o) → Q (.ref s.heap.objs.size) { s with heap := h', toks := tk }) :
    wpAny (model P w) A (call (.type "set") [.ref l]) Q E s := by
  generalize hob : ({ cls := .type "set", dict := none, data := .set #[] 0 (.fresh 0 0 (!w.params.followText "set-order")) } : Obj) = ob
  have isz : items.size = ks.length := by rw [← Array.length_toList, hit, List.length_map]
  have size1 : (s.heap.push ob).objs.size = s.heap.objs.size + 1 := Heap.size_push ..
  obtain ⟨c, tl, hmro⟩ := F.called_set.mro
  have hmade := F.called_set.made
  have hsub := F.called_set.sub
  refine wpAny_call (codeAny_of_tree ?_)
  show wpAny _ _ (callAny (.type "set") _) _ _ _
  refine wpAny_pure ⟨Code.quiet_builtin _ (by decide +kernel), codeAny_builtin F.entry_type_call ?_⟩
  rw [Around.under_plain (weight_type_call_type "set" [.ref l] []) rfl]
  have h1 := F.called_set.notType
  have h2 := F.called_set.canCreate
  have hct := F.typeCall_set_1 (.ref l)
  repeat (any_goals (first | assumption | wp_step))
  refine codeAny_mono (code_set_led1 (.ref l) (E := E) (Q₁ := fun obj s₁ => obj = .ref s.heap.objs.size ∧ s₁ = { s with heap := s.heap.push ob }) ⟨rfl, by rw [← hob]⟩) fun r s₁ hr => ?_
  cases r with
  | error e => exact hr
  | ok fl =>
    cases fl with
    | ret obj =>
      obtain ⟨rfl, rfl⟩ := hr
      have hS : (s.heap.push ob).get? s.heap.objs.size = some ob := Heap.get?_push_size _ (by rw [← hob]; rfl)
      have hT : Shared.TypeIs { s with heap := s.heap.push ob } (.ref s.heap.objs.size) "set" := ⟨_, hS, by rw [← hob]⟩
      have hli := F.called_set.init.lookup
      have hbi := F.called_set.init.bind (.ref s.heap.objs.size)
      repeat (any_goals (first | assumption | wp_step))
      refine codeAny_mono (codeAny_call_builtin (R := wants (fun r s₂ => r = .none ∧ ∃ h' tk L es ep t, s₂ = { s with heap := h', toks := tk } ∧ SetN w h' s.heap.objs.size L es ep t ∧ GotN ks ks.length L ∧
          (∀ b o, s.heap.get? b = some o → h'.get? b = some o)) E) F.called_set.init.plain F.entry_set_init (check_set_init_1 hT ?_)) fun r₂ s₂ hr₂ => ?_
      · obtain ⟨ol, hol, hcl, nl, hdl⟩ := hl
        obtain ⟨ocls, odict, odata, oslots⟩ := ol
        simp only at hcl hdl
        subst hcl; subst hdl
        have hol' : (s.heap.push ob).get? l = some { cls := .type "list", dict := odict, data := .seq items nl, slots := oslots } := Heap.get?_push_of_some _ hol
        have hsls := F.sub_list_set
        have hslf := F.sub_list_frozenset
        have hne : (Value.type "list" == Value.type "dict") = false := by decide
        have hl1 : (s.heap.push ob).IsList l items := ⟨_, hol', rfl, nl, rfl⟩
        have lS : l < s.heap.objs.size := Heap.lt_size hol
        subst hob
        unfold Builtin.«set.__init__» noKeywords Builtin.Frozenset.updateFrom
        generalize hPI : pyIter = PI
        wp_walk
        subst hPI
        refine wpAny_pyIter_list hl1 ?_
        refine wpAny_bind (wpAny_runValue ?_)
        have noneAt : ∀ b, s.heap.objs.size ≤ b → s.heap.get? b = none := fun b hb => by
          cases q : s.heap.get? b with
          | none => rfl
          | some o => exact absurd (Nat.lt_of_lt_of_le (Heap.lt_size q) hb) (Nat.lt_irrefl _)
        refine set_loopN ((Walks.list (show A.in1.in1.in1.handled = none by simp [hh]) _ l (Nat.ne_of_lt (by rw [size1]; exact Nat.lt_succ_of_lt lS)) items).toS) s.heap.objs.size
          (by
            rw [size1]
            intro z
            rcases List.mem_cons.mp z with z | z
            · exact absurd z (Nat.ne_of_lt (Nat.lt_succ_self _))
            · rw [List.mem_singleton] at z
              exact absurd z (Nat.ne_of_gt lS)) ks isz few (fun i v hv => ?_) s.heap hk (noneAt _ (Nat.le_refl _)) (fun b hb => noneAt b (by rw [List.mem_singleton.mp hb, size1]; exact Nat.le_succ _))
          (by have e : A.in1.in1.in1.units = A.units + 3 := rfl
              omega) (items.size - 0) 0 _ (by omega) (Nat.zero_le _)
          ⟨⟨_, Heap.get?_push_size _ rfl, rfl, rfl⟩, (hl1.push _)⟩ (fun b o e => Heap.get?_push_of_some _ (Heap.get?_push_of_some _ e)) ?hS0 ?hR
        · have q : items.toList[i]? = some v := by rw [Array.getElem?_toList]; exact hv
          rw [hit, List.getElem?_map] at q
          obtain ⟨p, hp, e⟩ := Option.map_eq_some_iff.mp q
          exact ⟨p, hp, e.symm⟩
        case hS0 =>
          refine ⟨[], #[], 0, _, setN_fresh (w := w) ?_, fun p hp => (nomatch hp), fun p hp => ?_⟩
          · exact Heap.get?_push_of_some _ hS
          · rw [List.take_zero] at hp
            cases hp
        case hR =>
          intro s' L es ep t hm hS' g' kp
          obtain ⟨h', g2, d', tk', os'⟩ := s'
          obtain rfl : g2 = s.gens := hm.gens
          obtain rfl : d' = s.drawn := hm.drawn
          obtain rfl : os' = s.os := hm.os
          show wpAny _ _ _ _ _ _
          refine wpAny_pure ?_
          show wpAny _ _ (ret Value.none) _ _ _
          rw [isz] at g'
          exact wpAny_pure ⟨rfl, h', tk', L, es, ep, t, rfl, hS', g', kp⟩
      · cases r₂ with
        | error e => exact hr₂
        | ok fl₂ =>
          cases fl₂ with
          | ret r =>
            obtain ⟨rfl, h', tk, L, es, ep, t, rfl, hS', g', hk'⟩ := hr₂
            repeat (any_goals (first | assumption | wp_step))
            exact h _ _ _ _ _ _ hS' g' hk'
          | _ => exact hr₂.elim
    | _ => exact hr.elim
end
section
variable {X : Cx}
/-- set(xs), xs a list of immutable data of few different keys; L the members as they were met -/
def rSetD (K : PySem.W.Frag) (w : World) : List V → Hp → VK → Prop := fun xs H Q => ∃ (l : Addr) (bs : List Addr) (ds : List PyData), xs = [V.ref l] ∧ SqL K H l (bs.map V.ref) ∧ DaAll K H (bs.map V.ref) ds ∧ (∀ d ∈ ds, imm d = true ∧ (kOf d).depth ≤ 8) ∧
  (∀ l : List NestedKey, l.Nodup → (∀ k ∈ l, k ∈ ds.map kOf) → l.length < 299) ∧
  ∀ a L es, H a = none → MemD K (upd H a (SetNO w a L)) L es → (∀ e ∈ es, e ∈ ds) → (∀ d ∈ ds, kOf d ∈ L.map (·.2)) → (L.map (·.2)).Nodup → Q (.ref a) (upd H a (SetNO w a L))
theorem ks_of {K : PySem.W.Frag} {H : Hp} : ∀ {bs : List Addr} {ds : List PyData}, DaAll K H (bs.map V.ref) ds → bs.length = ds.length
  | [], [], _ => rfl
  | b :: bs, d :: ds, .cons _ t => congrArg (· + 1) (ks_of t)
theorem refs_vals : ∀ {bs : List Addr} {us : List Value}, Vals (bs.map V.ref) us → us = bs.map Value.ref
  | [], _, .nil => rfl
  | b :: bs, _, .cons r t => by
    cases r
    rw [refs_vals t]
    rfl
theorem memD_of {K : PySem.W.Frag} {H : Hp} {bs : List Addr} {ds : List PyData} (h : DaAll K H (bs.map V.ref) ds) : ∀ L : List (Addr × NestedKey), (∀ p ∈ L, p ∈ bs.zip (ds.map kOf)) → ∃ es, MemD K H L es ∧ ∀ e ∈ es, e ∈ ds
  | [], _ => ⟨[], ⟨.nil, rfl⟩, fun e he => nomatch he⟩
  | p :: L, hL => by
    obtain ⟨es, m, he⟩ := memD_of h L fun q hq => hL q (List.mem_cons_of_mem _ hq)
    obtain ⟨i, hi⟩ := List.mem_iff_getElem?.mp (hL p List.mem_cons_self)
    obtain ⟨h1, h2⟩ := List.getElem?_zip_eq_some.mp hi
    rw [List.getElem?_map] at h2
    obtain ⟨d, hd, e⟩ := Option.map_eq_some_iff.mp h2
    obtain ⟨d', hd', hr⟩ := h.get (show (bs.map V.ref)[i]? = some (.ref p.1) by rw [List.getElem?_map, h1]; rfl)
    rw [hd] at hd'
    cases hd'
    refine ⟨d :: es, ⟨.cons hr m.1, by rw [List.map_cons, kOfs, m.2, e]⟩, fun x hx => ?_⟩
    rcases List.mem_cons.mp hx with rfl | hx
    · exact List.mem_of_getElem? hd
    · exact he x hx
theorem cr_setD (hc : X.calm = true) (hu : X.A.units + 64 < cLine) : CallR X (.type "set") (rSetD X.K X.w) := by
  intro pins s σ H xs us Q I r h
  obtain ⟨l, bs, ds, rfl, hl, hd, him, few, q⟩ := h
  rw [Vals.ref1 r]
  obtain ⟨its, rv, pl, hz⟩ := I.list hl
  have len := ks_of hd
  have lz : (bs.zip (ds.map kOf)).length = bs.length := by rw [List.length_zip, List.length_map, len, Nat.min_self]
  have snd : (bs.zip (ds.map kOf)).map (·.2) = ds.map kOf := by rw [List.map_snd_zip]; rw [List.length_map, len]; exact Nat.le_refl _
  have fst : (bs.zip (ds.map kOf)).map (fun p => Value.ref p.1) = bs.map Value.ref := by
    have e : (bs.zip (ds.map kOf)).map (·.1) = bs := by rw [List.map_fst_zip]; rw [List.length_map, len]; exact Nat.le_refl _
    have e2 : (bs.zip (ds.map kOf)).map (fun p => Value.ref p.1) = ((bs.zip (ds.map kOf)).map (·.1)).map Value.ref := by rw [List.map_map]; rfl
    rw [e2, e]
  have hn : H s.heap.objs.size = none := I.hok.fresh (Nat.le_refl _)
  refine call_setN (bs.zip (ds.map kOf)) (I.ok.hd hc) pl.isList (by rw [fst]; simpa using refs_vals rv) (fun p hp => ?_) (fun l nd hs => few l nd fun k hk => by rw [← snd]; exact hs k hk) (by omega) fun h' tk L es ep t R g k => ?_
  · obtain ⟨es, m, he⟩ := memD_of hd [p] fun z hz => by rw [List.mem_singleton.mp hz]; exact hp
    exact (memD_mem m fun e he' => him e (he e he')).nst I p (List.mem_singleton.mpr rfl)
  · have sm : Same H (upd H s.heap.objs.size (SetNO X.w s.heap.objs.size L)) := same_upd hn
    obtain ⟨es2, m, he⟩ := memD_of (Da.sameAll sm _ _ hd) L g.sub
    refine ⟨.ref s.heap.objs.size, upd H s.heap.objs.size (SetNO X.w s.heap.objs.size L), I.laid (t' := tk) k (Nat.le_refl _) (setNO_new R.bare), rfl, q _ L es2 hn m he (fun d hd2 => ?_) R.nd⟩
    have hk2 : kOf d ∈ (bs.zip (ds.map kOf)).map (·.2) := by rw [snd]; exact List.mem_map.mpr ⟨d, hd2, rfl⟩
    obtain ⟨p, hp, e⟩ := List.mem_map.mp hk2
    rw [← e]
    exact g.all p (by rw [List.take_length]; exact hp)
end
end NSet

/-! a text times a number -/
namespace NSet
open PySem PySem.Spec PySem.W PyProof.Rows L2
/-- some text comes of it -/
def rMulS : R2 := fun x y H Q => ∃ (z : Str) (k : Int), x = .str z ∧ y = .int k ∧ 1 ≤ k ∧ k ≤ 1000 ∧ z.length ≤ 1000 ∧ ∀ t, Q (.str t) H
theorem rep_size {α : Type} (x : Array α) : ∀ (n : Nat) (a : Array α), (List.foldl (fun x1 x2 => x1 ++ x2) a (List.replicate n x)).size = a.size + x.size * n
  | 0, a => rfl
  | n + 1, a => by
    rw [List.replicate_succ, List.foldl_cons, rep_size x n, Array.size_append, Nat.mul_succ]
    omega
section
variable {X : Cx}
theorem op_mulS : OpR X (binaryOp .Mult) rMulS := by
  intro pins s σ H x y v u Q I rx ry h
  obtain ⟨z, k, rfl, rfl, h1, h2, h3, q⟩ := h
  obtain ⟨t, rfl⟩ := (show ∃ t, v = Value.str z t from rx)
  obtain ⟨t2, rfl⟩ := (show ∃ t, u = Value.int k t from ry)
  have m : z.length * k.toNat ≤ 1000 * 1000 := Nat.mul_le_mul h3 (by omega)
  refine PySem.P.mul_str (by rw [decide_eq_false (by omega), decide_eq_false (by omega)]; rfl) (fun _ _ => ?_) (fun _ _ => ?_) ?_
  · have : (2 ^ 63 - 1) / k ≥ (2 ^ 63 - 1) / 1000 := by
      apply Int.le_ediv_of_mul_le (by omega)
      have : ((2 ^ 63 - 1) / 1000 : Int) * k ≤ ((2 ^ 63 - 1) / 1000 : Int) * 1000 := Int.mul_le_mul_of_nonneg_left h2 (by decide)
      omega
    omega
  · exact decide_eq_false (by rw [sizeLine_eq]; omega)
  · rw [if_neg (by omega)]
    split
    · exact ⟨.str z, H, I, ⟨t, rfl⟩, q _⟩
    · refine ⟨?_, .str _, H, I.tok _, ⟨_, rfl⟩, q _⟩
      show (List.foldl (fun x1 x2 => x1 ++ x2) #[] (List.replicate k.toNat z.cps)).size ≤ sizeLine
      rw [rep_size, sizeLine_eq]
      have e : z.cps.size * k.toNat ≤ 1000 * 1000 := m
      simp only [Array.size_empty]
      omega
end
end NSet

namespace L2
open PySem PySem.Spec PyProof.Rows
/-! ### min(l, default = d), l a list of moments of one length -/
theorem alike_ints : ∀ a b : List Int, PySem.W.alikeAll (a.map PyData.int) (b.map PyData.int) = true
  | [], _ => by simp [PySem.W.alikeAll]
  | _ :: _, [] => by simp [PySem.W.alikeAll]
  | x :: xs, y :: ys => by
    simp only [List.map_cons, PySem.W.alikeAll, PySem.W.alike, Bool.true_and]
    exact alike_ints xs ys
theorem alike_mo (a b : List Int) : PySem.W.alike (mo a) (mo b) = true := by
  unfold mo
  simp only [PySem.W.alike]
  exact alike_ints a b
theorem lt_ints : ∀ a b : List Int, a.length = b.length → PyProof.Rows.lexLt PyProof.Rows.itemOrd (PySem.W.keyToksAll (a.map PyData.int)) (PySem.W.keyToksAll (b.map PyData.int)) = HT.lexLt a b
  | [], [], _ => by
    simp [PySem.W.keyToksAll, PyProof.Rows.lexLt, HT.lexLt]
    rfl
  | x :: xs, y :: ys, h => by
    have ha : PySem.W.alike (.int x) (.int y) = true := by simp [PySem.W.alike]
    have he : PyData.eqv (.int x) (.int y) = decide (x = y) := by
      show (x == y) = _
      rw [Bool.eq_iff_iff]
      simp
    rw [List.map_cons, List.map_cons, HT.lexLt_cons]
    by_cases e : x = y
    · rw [if_pos e, PySem.W.dataLt_all_yes ha (by rw [he]; exact decide_eq_true e)]
      exact lt_ints xs ys (by simpa using h)
    · rw [if_neg e, PySem.W.dataLt_all_no ha (by rw [he]; exact decide_eq_false e), PySem.W.dataLt_int]
  | [], _ :: _, h => nomatch h
  | _ :: _, [], h => nomatch h
theorem dataLt_mo {a b : List Int} (h : a.length = b.length) : PySem.W.dataLt (mo a) (mo b) = HT.lexLt a b := by
  unfold mo
  rw [PySem.W.dataLt_tuple]
  exact lt_ints a b h
/-- the least of a list of rows, by the tuples' order; of equal ones the first -/
def minM (x : List Int) (xs : List (List Int)) : List Int := xs.foldl (fun a y => if HT.lexLt y a then y else a) x
theorem minD_mo {n : Nat} : ∀ (xs : List (List Int)) (x : List Int), x.length = n → (∀ y ∈ xs, y.length = n) → PySem.W.minD (mo x) (xs.map mo) = mo (minM x xs)
  | [], _, _, _ => rfl
  | y :: ys, x, hx, h => by
    have hy := h y List.mem_cons_self
    have hr : ∀ z ∈ ys, z.length = n := fun z hz => h z (List.mem_cons_of_mem _ hz)
    show PySem.W.minD (if PySem.W.dataLt (mo y) (mo x) = true then mo y else mo x) (ys.map mo) = mo (minM (if HT.lexLt y x = true then y else x) ys)
    rw [dataLt_mo (by rw [hy, hx])]
    by_cases e : HT.lexLt y x = true
    · rw [if_pos e, if_pos e]
      exact minD_mo ys y hy hr
    · rw [if_neg e, if_neg e]
      exact minD_mo ys x hx hr
def rMinDf (K : PySem.W.Frag) : List V → List V → Hp → VK → Prop := fun xs zs H Q => ∃ (a : Addr) (lv : List V) (ms : List (List Int)) (d : V) (n : Nat), xs = [V.ref a] ∧ zs = [d] ∧ SqL K H a lv ∧ DaAll K H lv (ms.map mo) ∧ (∀ m ∈ ms, m.length = n) ∧
  (ms = [] → Q d H) ∧ ∀ (y : List Int) (ys : List (List Int)) (v : V), ms = y :: ys → v ∈ lv → Mo K H v (minM y ys) → Q v H
theorem crk_minD {X : Cx} (hh : X.A.handled = none) (hu : X.A.units + 64 < cLine) : CallRK X (.builtin "min") ["default"] (rMinDf X.K) := by
  intro pins s σ H xs zs us ws Q I rx rz h
  obtain ⟨a, lv, ms, d, n, rfl, rfl, hs, hd, hn, q0, q1⟩ := h
  rw [Vals.ref1 rx]
  cases rz with
  | cons rd rn =>
    cases rn
    rename_i dv
    obtain ⟨its, rv, pl, hz⟩ := I.list hs
    obtain ⟨as, hr⟩ := Dp.readsAll I (ms.map mo) lv its (Da.dpAll _ _ hd) rv
    have hal : PySem.W.AlikeAll (ms.map mo) := by
      refine ⟨fun x hx y hy => ?_, fun x hx => ?_⟩
      · obtain ⟨x', _, rfl⟩ := List.mem_map.mp hx
        obtain ⟨y', _, rfl⟩ := List.mem_map.mp hy
        exact alike_mo x' y'
      · obtain ⟨x', _, rfl⟩ := List.mem_map.mp hx
        intro z
        cases z
    have hdep : ∀ ms : List (List Int), PyData.depthAll (ms.map mo) ≤ 1 := by
      intro ms
      induction ms with
      | nil => exact Nat.zero_le _
      | cons m ms ih =>
        show max (PyData.depthAll (m.map PyData.int) + 1) (PyData.depthAll (ms.map mo)) ≤ 1
        have : ∀ ns : List Int, PyData.depthAll (ns.map PyData.int) = 0 := by
          intro ns
          induction ns with
          | nil => rfl
          | cons n ns ih =>
            show max 0 (PyData.depthAll (ns.map PyData.int)) = 0
            rw [ih]
            rfl
        rw [this]
        exact Nat.max_le.mpr ⟨Nat.le_refl _, ih⟩
    have hd1 := hdep ms
    refine PySem.W.min_list_default (vs := its.toArray) hh pl.isList (by simpa using hr) hal (by omega) (fun e h' tk k => ?_) (fun y ys i v h' tk bs e hv hrd k => ?_)
    · have e' : ms = [] := by simpa using e
      exact ⟨d, H, I.kept k, rd, q0 e'⟩
    · cases ms with
      | nil => cases e
      | cons m ms =>
        cases e
        have hv' : its[i]? = some v := by simpa using hv
        obtain ⟨bs', r, hi, _, _⟩ := PySem.W.readsAll_at hr i v hv'
        have hi' : i < (m :: ms).length := by simpa using hi
        have r' := PySem.W.reads_keeps k r
        have hm : ((m :: ms).map mo).getD i .none = mo (m :: ms)[i] := by
          rw [List.getD_eq_getElem?_getD, List.getElem?_map, List.getElem?_eq_getElem hi']
          rfl
        rw [hm] at r'
        rw [minD_mo ms m (hn m List.mem_cons_self) fun z hz => hn z (List.mem_cons_of_mem _ hz)] at hrd
        have ec : ∀ ns : List Int, PyData.canLayAll0 (ns.map PyData.int) = true := by
          intro ns
          induction ns with
          | nil => rfl
          | cons n ns ih => exact ih
        have eu : mo (m :: ms)[i] = mo (minM m ms) := (Reads.unique r' _ _ hrd).1
        have lt : i < lv.length := by
          have := hd.length
          simp only [List.length_map] at this
          omega
        obtain ⟨dd, h1, h2⟩ := hd.get (i := i) (v := lv[i]) (by simp [lt])
        have hdd : dd = mo (m :: ms)[i] := by
          have : ((m :: ms).map mo)[i]? = some (mo (m :: ms)[i]) := by rw [List.getElem?_map, List.getElem?_eq_getElem hi']; rfl
          exact Option.some.inj (h1.symm.trans this)
        rw [hdd, eu] at h2
        obtain ⟨u, hu1, hu2⟩ := Vals.get (i := i) (x := lv[i]) rv (by simp [lt])
        have : u = v := Option.some.inj (hu1.symm.trans hv')
        subst this
        exact ⟨lv[i], H, I.kept k, hu2, q1 m ms lv[i] rfl (List.getElem_mem lt) h2⟩
end L2

namespace K0
open PySem PySem.Spec PyProof.Rows L2
def topS (i : Nat) : Stmt := PySem.Challenge.pw_deltamill_k00_moments_in_order.main.body.getD i (.Pass ⟨0, 0, 0, 0⟩)
abbrev sis_number : Stmt := topS 1
abbrev Nis_number : List Str := ["value"]
theorem scis_number : FnScope Nis_number ["value"] (defScope sis_number) := ⟨rfl, rfl, rfl, by decide +kernel, rfl, by decide +kernel, by decide +kernel⟩

abbrev sis_moment : Stmt := topS 3
abbrev Nis_moment : List Str := ["value", "axes", "coordinate"]
theorem scis_moment : FnScope Nis_moment ["value", "axes"] (defScope sis_moment) := ⟨rfl, rfl, rfl, by decide +kernel, rfl, by decide +kernel, by decide +kernel⟩

abbrev sbefore : Stmt := topS 4
abbrev Nbefore : List Str := ["first", "second", "low", "high"]
theorem scbefore : FnScope Nbefore ["first", "second"] (defScope sbefore) := ⟨rfl, rfl, rfl, by decide +kernel, rfl, by decide +kernel, by decide +kernel⟩

abbrev sjoin_of : Stmt := topS 5
abbrev Njoin_of : List Str := ["first", "second", "left", "right"]
theorem scjoin_of : FnScope Njoin_of ["first", "second"] (defScope sjoin_of) := ⟨rfl, rfl, rfl, by decide +kernel, rfl, by decide +kernel, by decide +kernel⟩

abbrev smeet_of : Stmt := topS 6
abbrev Nmeet_of : List Str := ["first", "second", "left", "right"]
theorem scmeet_of : FnScope Nmeet_of ["first", "second"] (defScope smeet_of) := ⟨rfl, rfl, rfl, by decide +kernel, rfl, by decide +kernel, by decide +kernel⟩

abbrev sclosure : Stmt := topS 7
abbrev Nclosure : List Str := ["moments", "closed", "moment", "joins", "other"]
theorem scclosure : FnScope Nclosure ["moments"] (defScope sclosure) := ⟨rfl, rfl, rfl, by decide +kernel, rfl, by decide +kernel, by decide +kernel⟩

abbrev s_law_pot : Stmt := topS 9
abbrev N_law_pot : List Str := ["script", "pot", "cell"]
theorem sc_law_pot : FnScope N_law_pot ["script"] (defScope s_law_pot) := ⟨rfl, rfl, rfl, by decide +kernel, rfl, by decide +kernel, by decide +kernel⟩

abbrev s_law_draw : Stmt := topS 10
abbrev N_law_draw : List Str := ["pot", "size", "digit"]
theorem sc_law_draw : FnScope N_law_draw ["pot", "size"] (defScope s_law_draw) := ⟨rfl, rfl, rfl, by decide +kernel, rfl, by decide +kernel, by decide +kernel⟩

abbrev s_law_great : Stmt := topS 11
abbrev N_law_great : List Str := ["pot", "high"]
theorem sc_law_great : FnScope N_law_great ["pot"] (defScope s_law_great) := ⟨rfl, rfl, rfl, by decide +kernel, rfl, by decide +kernel, by decide +kernel⟩

abbrev s_law_levels : Stmt := topS 12
abbrev N_law_levels : List Str := ["pot", "many", "levels", "k", "gap", "wide"]
theorem sc_law_levels : FnScope N_law_levels ["pot", "many"] (defScope s_law_levels) := ⟨rfl, rfl, rfl, by decide +kernel, rfl, by decide +kernel, by decide +kernel⟩

abbrev s_law_grid : Stmt := topS 13
abbrev N_law_grid : List Str := ["levels", "grid", "row", "longer", "head", "level"]
theorem sc_law_grid : FnScope N_law_grid ["levels"] (defScope s_law_grid) := ⟨rfl, rfl, rfl, by decide +kernel, rfl, by decide +kernel, by decide +kernel⟩

abbrev s_law_is_integer : Stmt := topS 14
abbrev N_law_is_integer : List Str := ["told"]
theorem sc_law_is_integer : FnScope N_law_is_integer ["told"] (defScope s_law_is_integer) := ⟨rfl, rfl, rfl, by decide +kernel, rfl, by decide +kernel, by decide +kernel⟩

abbrev s_law_is_moment : Stmt := topS 15
abbrev N_law_is_moment : List Str := ["told", "span", "one"]
theorem sc_law_is_moment : FnScope N_law_is_moment ["told", "span"] (defScope s_law_is_moment) := ⟨rfl, rfl, rfl, by decide +kernel, rfl, by decide +kernel, by decide +kernel⟩

abbrev s_law_are_moments : Stmt := topS 16
abbrev N_law_are_moments : List Str := ["told", "span", "one"]
theorem sc_law_are_moments : FnScope N_law_are_moments ["told", "span"] (defScope s_law_are_moments) := ⟨rfl, rfl, rfl, by decide +kernel, rfl, by decide +kernel, by decide +kernel⟩

abbrev s_law_before : Stmt := topS 17
abbrev N_law_before : List Str := ["one", "other", "k"]
theorem sc_law_before : FnScope N_law_before ["one", "other"] (defScope s_law_before) := ⟨rfl, rfl, rfl, by decide +kernel, rfl, by decide +kernel, by decide +kernel⟩

abbrev s_law_join : Stmt := topS 18
abbrev N_law_join : List Str := ["one", "other", "k"]
theorem sc_law_join : FnScope N_law_join ["one", "other"] (defScope s_law_join) := ⟨rfl, rfl, rfl, by decide +kernel, rfl, by decide +kernel, by decide +kernel⟩

abbrev s_law_moved : Stmt := topS 19
abbrev N_law_moved : List Str := ["pot", "moment", "one"]
theorem sc_law_moved : FnScope N_law_moved ["pot", "moment"] (defScope s_law_moved) := ⟨rfl, rfl, rfl, by decide +kernel, rfl, by decide +kernel, by decide +kernel⟩

abbrev s_law_pair_holds : Stmt := topS 20
abbrev N_law_pair_holds : List Str := ["one", "other", "told", "turned", "upper", "lower", "k"]
theorem sc_law_pair_holds : FnScope N_law_pair_holds ["one", "other"] (defScope s_law_pair_holds) := ⟨rfl, rfl, rfl, by decide +kernel, rfl, by decide +kernel, by decide +kernel⟩

abbrev s_law_pairs_hold : Stmt := topS 21
abbrev N_law_pairs_hold : List Str := ["some", "one", "other"]
theorem sc_law_pairs_hold : FnScope N_law_pairs_hold ["some"] (defScope s_law_pairs_hold) := ⟨rfl, rfl, rfl, by decide +kernel, rfl, by decide +kernel, by decide +kernel⟩

abbrev s_law_odd_values : Stmt := topS 22
abbrev N_law_odd_values : List Str := ["moment", "place", "odd", "bad"]
theorem sc_law_odd_values : FnScope N_law_odd_values ["moment", "place"] (defScope s_law_odd_values) := ⟨rfl, rfl, rfl, by decide +kernel, rfl, by decide +kernel, by decide +kernel⟩

abbrev s_law_knows_moments : Stmt := topS 23
abbrev N_law_knows_moments : List Str := ["moment", "place", "span", "k", "odd"]
theorem sc_law_knows_moments : FnScope N_law_knows_moments ["moment", "place"] (defScope s_law_knows_moments) := ⟨rfl, rfl, rfl, by decide +kernel, rfl, by decide +kernel, by decide +kernel⟩

abbrev s_law_joined : Stmt := topS 24
abbrev N_law_joined : List Str := ["given", "member", "span", "joined", "one"]
theorem sc_law_joined : FnScope N_law_joined ["given", "member", "span"] (defScope s_law_joined) := ⟨rfl, rfl, rfl, by decide +kernel, rfl, by decide +kernel, by decide +kernel⟩

abbrev s_law_closure_holds : Stmt := topS 25
abbrev N_law_closure_holds : List Str := ["given", "span", "handed", "told", "met", "k", "one", "member"]
theorem sc_law_closure_holds : FnScope N_law_closure_holds ["given", "span"] (defScope s_law_closure_holds) := ⟨rfl, rfl, rfl, by decide +kernel, rfl, by decide +kernel, by decide +kernel⟩

abbrev slaw : Stmt := topS 26
abbrev Nlaw : List Str := ["script", "pot", "span", "grid", "k", "many", "given", "moment", "some"]
theorem sclaw : FnScope Nlaw ["script"] (defScope slaw) := ⟨rfl, rfl, rfl, by decide +kernel, rfl, by decide +kernel, by decide +kernel⟩

/-- the built-in names that the text uses are the built-in ones -/
structure Bt (mg : Str → Option Value) : Prop where
  m_all : mg "all" = none
  m_zip : mg "zip" = none
  m_tuple : mg "tuple" = none
  m_max : mg "max" = none
  m_min : mg "min" = none
  m_int : mg "int" = none
  m_bool : mg "bool" = none
  m_len : mg "len" = none
  m_range : mg "range" = none
  m_isinstance : mg "isinstance" = none
  m_list : mg "list" = none
  m_any : mg "any" = none
  m_set : mg "set" = none
  m_sorted : mg "sorted" = none
end K0

namespace K0
open PySem PySem.Spec PyProof.Rows L2
section
variable {P : Program} {w : World} {K : PySem.W.Frag} {mg : Str → Option Value} {base : Heap}
/-! ### before, join_of, meet_of -/
def leL (ns ms : List Int) : List Bool := List.zipWith (fun x y => decide (x ≤ y)) ns ms
def leB (ns ms : List Int) : Bool := (leL ns ms).all id
def joinL (ns ms : List Int) : List Int := List.zipWith (fun x y => if y > x then y else x) ns ms
def meetL (ns ms : List Int) : List Int := List.zipWith (fun x y => if y < x then y else x) ns ms
/-- two moments of one length in, a bool out -/
def spB (K : PySem.W.Frag) (g : List Int → List Int → Bool) : Sp := fun vs H Q _ => ∃ (a b : Addr) (ns ms : List Int), vs = [.ref a, .ref b] ∧ SqT K H a (ns.map V.int) ∧ SqT K H b (ms.map V.int) ∧ ns.length = ms.length ∧ ns.length ≤ 1000 ∧
  ∀ H', Same H H' → Q (.bl (g ns ms)) H'
/-- two moments of one length in, a new moment out -/
def spM (K : PySem.W.Frag) (g : List Int → List Int → List Int) : Sp := fun vs H Q _ => ∃ (a b : Addr) (ns ms : List Int), vs = [.ref a, .ref b] ∧ SqT K H a (ns.map V.int) ∧ SqT K H b (ms.map V.int) ∧ ns.length = ms.length ∧ ns.length ≤ 1000 ∧
  ∀ H' p, Same H H' → H p = none → H' p = some (.tup ((g ns ms).map V.int)) → Q (.ref p) H'
theorem len2 {g : List Int → List Int → Bool} : ∀ vs H Q E, spB K g vs H Q E → vs.length = 2 := by
  rintro _ _ _ _ ⟨a, b, ns, ms, rfl, _⟩
  rfl
theorem len2m {g : List Int → List Int → List Int} : ∀ vs H Q E, spM K g vs H Q E → vs.length = 2 := by
  rintro _ _ _ _ ⟨a, b, ns, ms, rfl, _⟩
  rfl
theorem int_at {ns : List Int} {i : Nat} {x : V} (h : (ns.map V.int)[i]? = some x) : ∃ n, ns[i]? = some n ∧ x = .int n := by
  rw [List.getElem?_map] at h
  cases e : ns[i]? with
  | none => rw [e] at h; cases h
  | some n => rw [e] at h; exact ⟨n, rfl, (Option.some.inj h).symm⟩
theorem d_before (B : Bt mg) (T : Top K mg "before" sbefore ["first", "second"]) : Def P w K mg base "before" 1 ["first", "second"] (spB K leB) := by
  refine mk_def T scbefore len2 fun f cdv A outer s H vs Q E hr h => ?_
  obtain ⟨a, b, ns, ms, rfl, ha, hb, hl, hn, q⟩ := h
  refine ⟨_, (pss_one (ps_ret (pe_callB (cr_all rfl) (by rfl) B.m_all (by decide +kernel) (pa_cons (pe_lc (own := [("low", 2), ("high", 3)]) (g := (gTup K 2 (gCons (gName 2) (gCons (gName 3) gNil)))) (tt := tYes) (te := (tOp yLe (tVar 2) (tVar 3))) rfl scbefore.nd (RZ.pi_zipA (by rfl) B.m_zip (pa_cons (pv 0) (pa_cons (pv 1) pa_nil))) (blkOk_by (own := [("low", 2), ("high", 3)]) (N := Nbefore) (sc := defScope sbefore) (by decide +kernel)) (fun _ _ _ _ _ => (pg_tup rfl (pgs_cons (pg_name (i := 2) scbefore.nd rfl (Or.inl rfl)) (pgs_cons (pg_name (i := 3) scbefore.nd rfl (Or.inl rfl)) pgs_nil)))) (fun _ _ _ _ _ => pts_nil) (fun _ _ _ _ _ => (pe_cmpR op_le (pv 2) (pv 3) (nomark _)))) pa_nil)))), ?_⟩
  refine ⟨.ref a, rfl, .ref b, rfl, a, b, _, _, rfl, .inr ⟨ha, hb, fun L hL => ?_⟩⟩
  refine lc_val (walk_zipT (by simpa using hl)) hL (by simp; omega) (fun H1 e => ⟨e.seqT ha, e.seqT hb⟩) ((leL ns ms).map V.bl) (by simp [leL]; omega) (fun i x H1 H2 Q' hi e y k => ?_) (fun H1 e eL => ?_)
  · obtain ⟨T', x', z', rfl, nT, rfl, hx, hz⟩ := y
    obtain ⟨x1, hx1, rfl⟩ := int_at hx
    obtain ⟨z1, hz1, rfl⟩ := int_at hz
    refine ⟨T', [.int x1, .int z1], rfl, .inl (.inl upd_same), rfl, _, _, rfl, _, _, rfl, rfl, rfl, _, rfl, _, rfl, _, _, rfl, rfl, ?_⟩
    exact k _ _ (same_upd nT) (by simp [leL, List.getElem?_zipWith, hx1, hz1])
  · exact ⟨L, leL ns ms, rfl, SqL.of eL, q H1 e⟩
end
end K0

namespace K0
open PySem PySem.Spec PyProof.Rows L2
section
variable {P : Program} {w : World} {K : PySem.W.Frag} {mg : Str → Option Value} {base : Heap}
/-- the pot that numbers are drawn from -/
def PotAt (H : Hp) (p : Addr) : Prop := ∃ a b c : Int, H p = some (.lst [.int a, .int b, .int c]) ∧ 0 ≤ a ∧ 0 ≤ b ∧ 0 ≤ c
def spPot (K : PySem.W.Frag) : Sp := fun vs H Q _ => ∃ (a : Addr) (ns : List Int), vs = [.ref a] ∧ SqL K H a (ns.map V.int) ∧ ∀ H' p, Same H H' → H p = none → PotAt H' p → Q (.ref p) H'
theorem d_law_pot (B : Bt mg) (T : Top K mg "_law_pot" s_law_pot ["script"]) : Def P w K mg base "_law_pot" 1 ["script"] (spPot K) := by
  refine mk_def T sc_law_pot (by rintro _ _ _ _ ⟨a, ns, rfl, _⟩; rfl) fun f cdv A outer s H vs Q E hr h => ?_
  obtain ⟨a, ns, rfl, ha, q⟩ := h
  refine ⟨_, (pss_cons (ps_set (i := 1) sc_law_pot.nd rfl (Or.inl rfl) (pe_lst (pa_cons pe_int (pa_cons pe_int (pa_cons pe_int pa_nil)))))
      (pss_cons (ps_for PassesOwn.never rfl (pi_list (pv 0)) (pg_name (i := 2) sc_law_pot.nd rfl (Or.inl rfl)) (Evl.pss_cut (ps_if (pw_and (pt_cmpR op_eq (pe_ix ix_list (pv 1) pe_int (fun _ _ => rfl)) pe_int (nomark _)) (pw_and1 (pt_cmpR op_ge (pv 2) (pe_op op_pow pe_int pe_int) (nomark _)))).pt (pss_one (ps_asg (pv 2) (pg_sub (pv 1) pe_int set_list))) pss_nil)
      (pss_one (ps_asg (pe_op op_mod (pe_callTy call_int1 (by rfl) B.m_int (by decide +kernel) (pa_cons (pe_op op_add (pe_op op_add (pe_op op_mul (pe_ix ix_list (pv 1) pe_int (fun _ _ => rfl)) pe_int) (pe_op op_mul (pv 2) pe_int)) pe_int) pa_nil)) pe_int) (pg_sub (pv 1) pe_int set_list)))))
      (pss_one (ps_ret (pv 1))))), ?_⟩
  refine ⟨by show 3 ≤ sizeLine; decide, fun p hp => ?_⟩
  refine ⟨.ref a, rfl, a, rfl, ⟨_, (same_upd hp).seq ha⟩, ?_⟩
  refine for_list (xs := ns.map V.int) (fun i σ H' => ∃ y2, σ = [some (.ref a), some (.ref p), y2] ∧ Same H H' ∧ PotAt H' p) ⟨_, rfl, same_upd hp, 0, 20011, 0, upd_same, by decide, by decide, by decide⟩ (fun i σ H' _ pv' => ?_) (fun i x σ H' hx pv' => ?_) (fun σ H' pv' => ?_)
  · obtain ⟨y2, rfl, e, _⟩ := pv'
    exact e.seq ha
  · obtain ⟨y2, rfl, e, pa, pb, pc, ep, h1, h2, h3⟩ := pv'
    obtain ⟨c, hc, rfl⟩ := int_at hx
    refine ⟨fun σ' H3 => ∃ pa' : Int, σ' = [some (.ref a), some (.ref p), some (.int c)] ∧ H3 p = some (.lst [.int pa', .int pb, .int pc]) ∧ 0 ≤ pa' ∧ Same H H3, ?_, ?_⟩
    · refine ⟨.ref p, rfl, p, _, 0, .int pa, rfl, rfl, SqL.of ep, atI_nat (j := 0) rfl, rfl, _, rfl, ite2 (fun z => ?_) (fun z => iteF ⟨pa, rfl, ep, h1, e⟩)⟩
      refine ⟨.int c, rfl, _, _, rfl, rfl, ⟨by decide, by decide, by decide⟩, _, _, rfl, rfl, _, rfl, ite2 (fun z2 => ?_) (fun z2 => ⟨pa, rfl, ep, h1, e⟩)⟩
      refine ⟨.int c, rfl, .ref p, rfl, p, _, 0, 0, rfl, rfl, ep, rfl, ?_⟩
      have hc2 : (10 : Int) ^ (18 : Int).toNat ≤ c := of_decide_eq_true z2
      have h18 : (0 : Int) ≤ (10 : Int) ^ (18 : Int).toNat := by decide
      exact ⟨c, rfl, upd_same, by omega, e.mut hp⟩
    · rintro σ' H3 ⟨pa', rfl, e3, h0, s3⟩
      refine ⟨.ref p, rfl, p, _, 1, .int pb, rfl, rfl, SqL.of e3, atI_nat (j := 1) rfl, pb, 48271, rfl, rfl, .inr ⟨by decide, by decide⟩, .int c, rfl, c, 69621, rfl, rfl, .inr ⟨by decide, by decide⟩, _, _, rfl, rfl, _, _, rfl, rfl, .inl ⟨_, rfl, _, _, rfl, rfl, (by show (0:Int) < _; decide), ?_⟩⟩
      refine ⟨.ref p, rfl, p, _, 1, 1, rfl, rfl, e3, rfl, _, rfl, s3.mut hp, pa', _, pc, upd_same, h0, Int.emod_nonneg _ (by decide), h3⟩
  · obtain ⟨y2, rfl, e, pt⟩ := pv'
    exact ⟨.ref p, rfl, q H' p e hp pt⟩
def spDraw (K : PySem.W.Frag) : Sp := fun vs H Q _ => ∃ (p : Addr) (n : Int), vs = [.ref p, .int n] ∧ PotAt H p ∧ 0 < n ∧ n ≤ 1000000000000000 ∧ ∀ H' r, SameB p H H' → PotAt H' p → 0 ≤ r → r < n → Q (.int r) H'
theorem d_law_draw (B : Bt mg) (T : Top K mg "_law_draw" s_law_draw ["pot", "size"]) : Def P w K mg base "_law_draw" 1 ["pot", "size"] (spDraw K) := by
  refine mk_def T sc_law_draw (by rintro _ _ _ _ ⟨p, n, rfl, _⟩; rfl) fun f cdv A outer s H vs Q E hr h => ?_
  obtain ⟨p, n, rfl, ⟨pa, pb, pc, ep, h1, h2, h3⟩, hn, hn2, q⟩ := h
  have hdiv : CDivW pa n := wide_div (b := 60) hn (by omega) (by decide) (by decide)
  refine ⟨_, (pss_cons (ps_if (pt_cmpR op_gt (pe_ix ix_list (pv 0) pe_int (fun _ _ => rfl)) pe_int (nomark _)) (pss_cons (ps_set (i := 2) sc_law_draw.nd rfl (Or.inl rfl) (pe_op op_mod (pe_callTy call_int1 (by rfl) B.m_int (by decide +kernel) (pa_cons (pe_ix ix_list (pv 0) pe_int (fun _ _ => rfl)) pa_nil)) (pv 1)))
      (pss_cons (ps_asg (pe_op op_fdivW (pe_ix ix_list (pv 0) pe_int (fun _ _ => rfl)) (pv 1)) (pg_sub (pv 0) pe_int set_list))
      (pss_one (ps_ret (pv 2))))) pss_nil)
      (pss_cons (ps_asg (pe_op op_add (pe_ix ix_list (pv 0) pe_int (fun _ _ => rfl)) pe_int) (pg_sub (pv 0) pe_int set_list))
      (pss_cons (ps_asg (pe_op op_mod (pe_callTy call_int1 (by rfl) B.m_int (by decide +kernel) (pa_cons (pe_op op_add (pe_op op_mul (pe_ix ix_list (pv 0) pe_int (fun _ _ => rfl)) pe_int) (pe_op op_mul (pe_ix ix_list (pv 0) pe_int (fun _ _ => rfl)) pe_int)) pa_nil)) pe_int) (pg_sub (pv 0) pe_int set_list))
      (pss_one (ps_ret (pe_op op_mod (pe_op op_mod (pe_callTy call_int1 (by rfl) B.m_int (by decide +kernel) (pa_cons (pe_op op_add (pe_op op_mul (pe_op op_fdivW (pe_ix ix_list (pv 0) pe_int (fun _ _ => rfl)) pe_int) pe_int) (pe_op op_mod (pe_callTy call_int1 (by rfl) B.m_int (by decide +kernel) (pa_cons (pe_ix ix_list (pv 0) pe_int (fun _ _ => rfl)) pa_nil)) pe_int)) pa_nil)) pe_int) (pv 1))))))), ?_⟩
  refine ⟨.ref p, rfl, p, _, 0, .int pa, rfl, rfl, SqL.of ep, atI_nat (j := 0) rfl, _, _, rfl, rfl, _, rfl, ite2 (fun z => ?_) (fun z => ?_)⟩
  · refine ⟨.ref p, rfl, p, _, 0, .int pa, rfl, rfl, SqL.of ep, atI_nat (j := 0) rfl, .inl ⟨_, rfl, .int n, rfl, _, _, rfl, rfl, hn, ?_⟩⟩
    refine ⟨.ref p, rfl, p, _, 0, .int pa, rfl, rfl, SqL.of ep, atI_nat (j := 0) rfl, .int n, rfl, _, _, rfl, rfl, hdiv, .ref p, rfl, p, _, 0, 0, rfl, rfl, ep, rfl, ?_⟩
    refine ⟨_, rfl, q _ _ SameB.upd ⟨_, pb, pc, upd_same, Int.ediv_nonneg h1 (Int.le_of_lt hn), h2, h3⟩ (Int.emod_nonneg _ (by omega)) (Int.emod_lt_of_pos _ hn)⟩
  · refine ⟨.ref p, rfl, p, _, 2, .int pc, rfl, rfl, SqL.of ep, atI_nat (j := 2) rfl, _, _, rfl, rfl, .ref p, rfl, p, _, 2, 2, rfl, rfl, ep, rfl, ?_⟩
    have e1 : upd H p (.lst ([V.int pa, .int pb, .int pc].set 2 (.int (pc + 1)))) p = some (.lst [.int pa, .int pb, .int (pc + 1)]) := upd_same
    refine ⟨.ref p, rfl, p, _, 1, .int pb, rfl, rfl, SqL.of e1, atI_nat (j := 1) rfl, _, _, rfl, rfl, .inr ⟨by decide, by decide⟩, .ref p, rfl, p, _, 2, .int (pc + 1), rfl, rfl, SqL.of e1, atI_nat (j := 2) rfl, _, _, rfl, rfl, .inr ⟨by decide, by decide⟩, _, _, rfl, rfl,
      .inl ⟨_, rfl, _, _, rfl, rfl, (by show (0:Int) < _; decide), .ref p, rfl, p, _, 1, 1, rfl, rfl, e1, rfl, ?_⟩⟩
    rw [upd_upd]
    have e2 : ∀ x : Int, upd H p (.lst ([V.int pa, .int pb, .int (pc + 1)].set 1 (.int x))) p = some (.lst [.int pa, .int x, .int (pc + 1)]) := fun _ => upd_same
    refine ⟨.ref p, rfl, p, _, 1, _, rfl, rfl, SqL.of (e2 _), atI_nat (j := 1) rfl, _, _, rfl, rfl, ⟨by decide, by decide⟩, _, _, rfl, rfl, .inr ⟨by decide, by decide⟩, .ref p, rfl, p, _, 1, _, rfl, rfl, SqL.of (e2 _), atI_nat (j := 1) rfl,
      .inl ⟨_, rfl, _, _, rfl, rfl, (by show (0:Int) < _; decide), _, _, rfl, rfl, .inl ⟨_, rfl, _, _, rfl, rfl, (by show (0:Int) < _; decide), .int n, rfl, _, _, rfl, rfl, hn, ?_⟩⟩⟩
    exact q _ _ SameB.upd ⟨pa, _, pc + 1, e2 _, h1, Int.emod_nonneg _ (by decide), by omega⟩ (Int.emod_nonneg _ (by omega)) (Int.emod_lt_of_pos _ hn)
def spGreat (K : PySem.W.Frag) : Sp := fun vs H Q _ => ∃ p : Addr, vs = [.ref p] ∧ PotAt H p ∧ ∀ H' r, SameB p H H' → PotAt H' p → 0 ≤ r → r < 1000000000000000000000000000000 → Q (.int r) H'
theorem d_law_great (B : Bt mg) (T : Top K mg "_law_great" s_law_great ["pot"]) (D_law_draw : Def P w K mg base "_law_draw" 1 ["pot", "size"] (spDraw K)) : Def P w K mg base "_law_great" 2 ["pot"] (spGreat K) := by
  refine mk_def T sc_law_great (by rintro _ _ _ _ ⟨p, rfl, _⟩; rfl) fun f cdv A outer s H vs Q E hr h => ?_
  obtain ⟨p, rfl, pt, q⟩ := h
  refine ⟨_, (pss_cons (ps_set (i := 1) sc_law_great.nd rfl (Or.inl rfl) (pe_def D_law_draw (hr.mono (by first | decide | omega)) (by rfl) (pa_cons (pv 0) (pa_cons (pe_op op_pow pe_int pe_int) pa_nil))))
      (pss_one (ps_ret (pe_op op_add (pe_op op_mul (pv 1) (pe_op op_pow pe_int pe_int)) (pe_def D_law_draw (hr.mono (by first | decide | omega)) (by rfl) (pa_cons (pv 0) (pa_cons (pe_op op_pow pe_int pe_int) pa_nil))))))), ?_⟩
  refine ⟨.ref p, rfl, _, _, rfl, rfl, ⟨by decide, by decide, by decide⟩, p, _, rfl, pt, by decide, by decide, fun H1 r s1 p1 r0 r1 => ?_⟩
  refine ⟨.int r, rfl, _, _, rfl, rfl, ⟨by decide, by decide, by decide⟩, _, _, rfl, rfl, .inr ⟨by decide, by decide⟩, .ref p, rfl, _, _, rfl, rfl, ⟨by decide, by decide, by decide⟩, p, _, rfl, p1, by decide, by decide, fun H2 r' s2 p2 r2 r3 => ?_⟩
  have e : (10 : Int) ^ (15 : Int).toNat = 1000000000000000 := by decide
  rw [e] at r1 r3
  refine ⟨_, _, rfl, rfl, q H2 _ (s1.trans s2) p2 ?_ ?_⟩
  · rw [e]; omega
  · rw [e]; omega
end
end K0

namespace K0
open PySem PySem.Spec PyProof.Rows L2
/-! ### the grid -/
def gridStep (g : List (List Int)) (r : List Int) : List (List Int) := g.flatMap fun h => r.map fun l => h ++ [l]
def gridL (rows : List (List Int)) : List (List Int) := rows.foldl gridStep [[]]
theorem gridL_snoc (rows : List (List Int)) (r : List Int) : gridL (rows ++ [r]) = gridStep (gridL rows) r := by simp [gridL]
theorem gridL_take {rows : List (List Int)} {i : Nat} {r : List Int} (h : rows[i]? = some r) : gridL (rows.take (i + 1)) = gridStep (gridL (rows.take i)) r := by
  rw [List.take_add_one, h]
  exact gridL_snoc _ _
theorem gridStep_len {g : List (List Int)} {r : List Int} {n : Nat} (h : ∀ x ∈ g, x.length = n) : ∀ x ∈ gridStep g r, x.length = n + 1 := by
  intro x hx
  obtain ⟨y, hy, hz⟩ := List.mem_flatMap.mp hx
  obtain ⟨l, _, rfl⟩ := List.mem_map.mp hz
  simp [h y hy]
theorem gridL_len : ∀ (n : Nat) (rows : List (List Int)), rows.length = n → ∀ x ∈ gridL rows, x.length = n := by
  intro n
  induction n with
  | zero =>
    intro rows h x hx
    have : rows = [] := List.length_eq_zero_iff.mp h
    subst this
    simp [gridL] at hx
    simp [hx]
  | succ n ih =>
    intro rows h x hx
    have hne : rows ≠ [] := by
      intro e
      subst e
      simp at h
    rw [← List.dropLast_concat_getLast hne, gridL_snoc] at hx
    exact gridStep_len (ih _ (by simp [h])) x hx
/-- a list of ints, as data -/
def li (r : List Int) : PyData := .list (r.map .int)
theorem li_inv {K : PySem.W.Frag} {H : Hp} {v : V} {r : List Int} (h : Da K H v (li r)) : ∃ a, v = .ref a ∧ SqL K H a (r.map V.int) := by
  cases h with
  | lst hs ha =>
    rw [DaAll.ints ha] at hs
    exact ⟨_, rfl, hs⟩
theorem imm_mos (ms : List (List Int)) : immAll (ms.map mo) = true := by
  induction ms with
  | nil => rfl
  | cons m ms ih =>
    show (imm (mo m) && immAll (ms.map mo)) = true
    rw [imm_mo, ih]
    rfl
theorem mo_at {ms : List (List Int)} {i : Nat} {d : PyData} (h : (ms.map mo)[i]? = some d) : ∃ m, ms[i]? = some m ∧ d = mo m := by
  rw [List.getElem?_map] at h
  cases e : ms[i]? with
  | none => rw [e] at h; cases h
  | some n => rw [e] at h; exact ⟨n, rfl, (Option.some.inj h).symm⟩
theorem sz1000 {n : Nat} (h : n ≤ 100000) : n ≤ sizeLine := Nat.le_trans h (by decide)
section
variable {P : Program} {w : World} {K : PySem.W.Frag} {mg : Str → Option Value} {base : Heap}
def spGrid (K : PySem.W.Frag) : Sp := fun vs H Q _ => ∃ (a : Addr) (rows : List (List Int)), vs = [.ref a] ∧ Da K H (.ref a) (.list (rows.map li)) ∧ rows.length ≤ 10 ∧ (∀ i, (gridL (rows.take i)).length ≤ 10000) ∧ (∀ r ∈ rows, r.length ≤ 10000) ∧
  ∀ H' p gv, Same H H' → H p = none → H' p = some (.lst gv) → DaAll K H' gv ((gridL rows).map mo) → Q (.ref p) H'
/-- head + (level,) -/
theorem cat1 {H1 : Hp} {hv : V} {h : List Int} {l : Int} {Q : VK} (hh : Mo K H1 hv h) (hl : h.length ≤ 1000) (k : ∀ y H4, Same H1 H4 → Mo K H4 y (h ++ [l]) → Q y H4) (t : Addr) (ht : H1 t = none) :
    rCatA K hv (.ref t) (upd H1 t (.tup [.int l])) Q := by
  obtain ⟨a, rfl, ha⟩ := hh.inv
  have e1 : Same H1 (upd H1 t (.tup [.int l])) := same_upd ht
  refine ⟨a, t, _, _, rfl, rfl, e1.seqT ha, SqT.of upd_same, sz1000 (by simp; omega), fun z => ?_, fun _ (z : [V.int l] = []) => (nomatch z), fun _ _ p hp => ?_⟩
  · have : h = [] := by simpa using z
    subst this
    exact k _ _ e1 (Mo.of (m := [l]) (upd_same))
  · refine k _ _ (e1.trans (same_upd hp)) (Mo.of (?_))
    rw [upd_same, List.map_append]
    rfl
theorem d_law_grid (B : Bt mg) (T : Top K mg "_law_grid" s_law_grid ["levels"]) : Def P w K mg base "_law_grid" 1 ["levels"] (spGrid K) := by
  refine mk_def T sc_law_grid (by rintro _ _ _ _ ⟨p, _, rfl, _⟩; rfl) fun f cdv A outer s H vs Q E hr h => ?_
  obtain ⟨a, rows, rfl, hd, hn, hb, hr1, q⟩ := h
  refine ⟨_, (pss_cons (ps_set (i := 1) sc_law_grid.nd rfl (Or.inl rfl) (pe_lst (pa_cons (pe_tup pa_nil) pa_nil)))
      (pss_cons (ps_for PassesOwn.never rfl (pi_list (pv 0)) (pg_name (i := 2) sc_law_grid.nd rfl (Or.inl rfl)) (pss_cons (ps_set (i := 3) sc_law_grid.nd rfl (Or.inl rfl) (pe_lst pa_nil))
      (pss_cons (ps_for PassesOwn.never rfl (pi_list (pv 1)) (pg_name (i := 4) sc_law_grid.nd rfl (Or.inr rfl)) (pss_one (ps_expr (pe_bm PySem.F.plainAttrs_list PySem.F.slot_list_extend PySem.F.type_list_extend mt_extend (pv 3) (pa_cons (pe_lc (own := [("level", 5)]) (g := (gName 5)) (tt := tYes) (te := (tOp (rCatA K) (tVar 4) (tTup (tCons (tVar 5) tNil)))) rfl sc_law_grid.nd (pi_list (pv 2)) (blkOk_by (own := [("level", 5)]) (N := N_law_grid) (sc := defScope s_law_grid) (by decide +kernel)) (fun _ _ _ _ _ => (pg_name (i := 5) sc_law_grid.nd rfl (Or.inl rfl))) (fun _ _ _ _ _ => pts_nil) (fun _ _ _ _ _ => (pe_op op_catA (pv 4) (pe_tup (pa_cons (pv 5) pa_nil))))) pa_nil)))))
      (pss_one (ps_set (i := 1) sc_law_grid.nd rfl (Or.inl rfl) (pv 3))))))
      (pss_one (ps_ret (pv 1))))), ?_⟩
  refine ⟨Nat.zero_le _, fun t0 ht0 => ⟨by show 1 ≤ sizeLine; decide, fun g0 hg0 => ?_⟩⟩
  have s0 : Same H (upd (upd H t0 (.tup [])) g0 (.lst [.ref t0])) := (same_upd ht0).trans (same_upd hg0)
  have ng0 : H g0 = none := (same_upd ht0).new hg0
  have e0 : Mo K (upd (upd H t0 (.tup [])) g0 (.lst [.ref t0])) (.ref t0) [] := Mo.of ((same_upd hg0 _ _ upd_same))
  cases hd with
  | lst hs hda =>
    rename_i lv
    have hlen : lv.length = rows.length := by
      have := hda.length
      simpa using this
    refine ⟨.ref a, rfl, a, rfl, ⟨_, s0.seq hs⟩, ?_⟩
    refine for_list (xs := lv) (fun i σ H' => ∃ (G : Addr) (gv : List V) (y2 y3 y4 y5 : Option V), σ = [some (.ref a), some (.ref G), y2, y3, y4, y5] ∧ Same H H' ∧ H G = none ∧ H' G = some (.lst gv) ∧ DaAll K H' gv ((gridL (rows.take i)).map mo))
      ⟨g0, [.ref t0], none, none, none, none, rfl, s0, ng0, upd_same, .cons e0 .nil⟩ (fun i σ H' _ pv' => ?_) (fun i x σ H' hx pv' => ?_) (fun σ H' pv' => ?_)
    · obtain ⟨G, gv, _, _, _, _, rfl, e, _⟩ := pv'
      exact e.seq hs
    · obtain ⟨G, gv, y2, y3, y4, y5, rfl, e, nG, eG, dG⟩ := pv'
      obtain ⟨d, hd1, hd2⟩ := hda.get hx
      obtain ⟨r, hr2, rfl⟩ : ∃ r, rows[i]? = some r ∧ d = li r := by
        rw [List.getElem?_map] at hd1
        cases er : rows[i]? with
        | none => rw [er] at hd1; cases hd1
        | some r => rw [er] at hd1; exact ⟨r, rfl, (Option.some.inj hd1).symm⟩
      obtain ⟨b, rfl, hb2⟩ := li_inv hd2
      have hi : i < rows.length := (List.getElem?_eq_some_iff.mp hr2).1
      have hstep := gridL_take hr2
      -- longer = []
      refine ⟨Nat.zero_le _, fun Lg hLg => ?_⟩
      have nLg : H Lg = none := e.new hLg
      have neG : G ≠ Lg := ne_of_none eG hLg
      have e1 : Same H' (upd H' Lg (.lst [])) := same_upd hLg
      -- for head in grid
      refine ⟨.ref G, rfl, G, rfl, ⟨_, SqL.of (e1 _ _ eG)⟩, ?_⟩
      refine for_list (xs := gv) (fun j σ H2 => ∃ (lgv : List V) (y4 y5 : Option V), σ = [some (.ref a), some (.ref G), some (.ref b), some (.ref Lg), y4, y5] ∧ Same H H2 ∧ H2 G = some (.lst gv) ∧ DaAll K H2 gv ((gridL (rows.take i)).map mo) ∧ H2 Lg = some (.lst lgv) ∧ DaAll K H2 lgv ((gridStep ((gridL (rows.take i)).take j) r).map mo))
        ⟨[], y4, y5, rfl, e.trans e1, e1 _ _ eG, Da.sameAll e1 _ _ dG, upd_same, .nil⟩ (fun j σ H2 _ pw => ?_) (fun j x σ H2 hx2 pw => ?_) (fun σ H2 pw => ?_)
      · obtain ⟨_, _, _, rfl, _, eG2, _⟩ := pw
        exact SqL.of eG2
      · obtain ⟨lgv, z4, z5, rfl, e2, eG2, dG2, eL2, dL2⟩ := pw
        obtain ⟨dm, hdm, hdm2⟩ := dG2.get hx2
        obtain ⟨h, hh, rfl⟩ := mo_at hdm
        have hlh : h.length = i := by
          have := gridL_len i (rows.take i) (by simp; omega) h (List.mem_of_getElem? hh)
          exact this
        refine ⟨.ref Lg, rfl, .inl ⟨rfl, _, SqL.of eL2⟩, .ref b, rfl, b, rfl, ⟨_, e2.seq hb2⟩, fun D hD => ?_⟩
        refine lc_dat (K := K) walk_list hD (by simp; exact Nat.le_trans (hr1 r (List.mem_of_getElem? hr2)) (by decide)) (fun H3 e3 => (e2.trans e3).seq hb2) ((r.map fun l => h ++ [l]).map mo) (by simp) (imm_mos _) (fun k x3 H3 H3' Q' hk e3 y3' kk => ?_) (fun H3 acc e3 eD dD => ?_)
        · obtain ⟨rfl, hx3⟩ := y3'
          obtain ⟨l, hl, rfl⟩ := int_at hx3
          refine ⟨rfl, x, rfl, .int l, rfl, by show 1 ≤ sizeLine; decide, fun t ht => ?_⟩
          refine cat1 (Mo.same hdm2 e3) (by omega) (fun y H4 e4 d4 => kk y H4 _ e4 ?_ d4) t ht
          simp [hl]
        · have hlt := hb (i + 1)
          rw [hstep] at hlt
          have hnew : gridStep ((gridL (rows.take i)).take (j + 1)) r = gridStep ((gridL (rows.take i)).take j) r ++ r.map fun l => h ++ [l] := by
            unfold gridStep
            rw [List.take_add_one, hh, List.flatMap_append]
            simp
          have hle : (gridStep ((gridL (rows.take i)).take (j + 1)) r).length ≤ 10000 := by
            refine Nat.le_trans ?_ hlt
            conv => rhs; rw [← List.take_append_drop (j + 1) (gridL (rows.take i))]
            unfold gridStep
            rw [List.flatMap_append, List.length_append]
            omega
          have l1 := dL2.length
          have l2 := dD.length
          rw [hnew, List.length_append] at hle
          simp only [List.length_map] at l1 l2 hle
          have eL3 := e3 _ _ eL2
          refine ⟨Lg, D, lgv, acc, rfl, rfl, eL3, eD, sz1000 (by omega), ?_⟩
          have st : ST K H3 (upd H3 Lg (.lst (lgv ++ acc))) := st_upd eL3 True.intro
          refine ⟨lgv ++ acc, _, _, rfl, (e2.trans e3).mut nLg, ?_, Da.stAll (e3.st.trans st) _ _ (imm_mos _) dG2, upd_same, ?_⟩
          · rw [upd_ne neG]
            exact e3 _ _ eG2
          · rw [hnew, List.map_append]
            exact DaAll.append (Da.stAll st _ _ (imm_mos _) dD) (Da.stAll (e3.st.trans st) _ _ (imm_mos _) dL2)
      · obtain ⟨lgv, z4, z5, rfl, e2, eG2, dG2, eL2, dL2⟩ := pw
        refine ⟨.ref Lg, rfl, Lg, lgv, _, _, _, _, rfl, e2, nLg, eL2, ?_⟩
        have l1 := dG2.length
        simp only [List.length_map] at l1
        rw [List.take_of_length_le (by omega)] at dL2
        rw [hstep]
        exact dL2
    · obtain ⟨G, gv, _, _, _, _, rfl, e, nG, eG, dG⟩ := pv'
      rw [hlen, List.take_of_length_le (Nat.le_refl _)] at dG
      exact ⟨.ref G, rfl, q H' G gv e nG eG dG⟩
end
end K0

namespace K0
open PySem PySem.Spec PyProof.Rows L2
/-! ### the order of moments -/
def Le : List Int → List Int → Prop
  | [], [] => True
  | x :: xs, y :: ys => x ≤ y ∧ Le xs ys
  | _, _ => False
theorem Le.len : ∀ {a b : List Int}, Le a b → a.length = b.length
  | [], [], _ => rfl
  | x :: xs, y :: ys, h => congrArg (· + 1) (Le.len h.2)
  | [], _ :: _, h => h.elim
  | _ :: _, [], h => h.elim
theorem leB_cons (x y : Int) (xs ys : List Int) : leB (x :: xs) (y :: ys) = (decide (x ≤ y) && leB xs ys) := rfl
theorem leB_iff : ∀ {a b : List Int}, a.length = b.length → (leB a b = true ↔ Le a b)
  | [], [], _ => ⟨fun _ => True.intro, fun _ => rfl⟩
  | x :: xs, y :: ys, h => by
    rw [leB_cons, Bool.and_eq_true, decide_eq_true_iff, leB_iff (a := xs) (b := ys) (by simpa using h)]
    exact Iff.rfl
  | [], _ :: _, h => nomatch h
  | _ :: _, [], h => nomatch h
theorem Le.refl : ∀ a : List Int, Le a a
  | [] => True.intro
  | x :: xs => ⟨Int.le_refl x, Le.refl xs⟩
theorem Le.trans : ∀ {a b c : List Int}, Le a b → Le b c → Le a c
  | [], [], [], _, _ => True.intro
  | x :: xs, y :: ys, z :: zs, h, k => ⟨Int.le_trans h.1 k.1, Le.trans h.2 k.2⟩
  | [], _ :: _, _, h, _ => h.elim
  | _ :: _, [], _, h, _ => h.elim
  | [], [], _ :: _, _, k => k.elim
  | _ :: _, _ :: _, [], _, k => k.elim
theorem Le.anti : ∀ {a b : List Int}, Le a b → Le b a → a = b
  | [], [], _, _ => rfl
  | x :: xs, y :: ys, h, k => by rw [Int.le_antisymm h.1 k.1, Le.anti h.2 k.2]
  | [], _ :: _, h, _ => h.elim
  | _ :: _, [], h, _ => h.elim
theorem joinL_len {a b : List Int} (h : a.length = b.length) : (joinL a b).length = a.length := by simp [joinL]; omega
theorem meetL_len {a b : List Int} (h : a.length = b.length) : (meetL a b).length = a.length := by simp [meetL]; omega
theorem join_le : ∀ {a b x : List Int}, a.length = b.length → (Le (joinL a b) x ↔ Le a x ∧ Le b x)
  | [], [], [], _ => ⟨fun _ => ⟨True.intro, True.intro⟩, fun _ => True.intro⟩
  | [], [], _ :: _, _ => ⟨fun h => h.elim, fun h => h.1.elim⟩
  | p :: ps, q :: qs, [], _ => ⟨fun h => h.elim, fun h => h.1.elim⟩
  | p :: ps, q :: qs, z :: zs, h => by
    have ih := join_le (a := ps) (b := qs) (x := zs) (by simpa using h)
    show ((if q > p then q else p) ≤ z ∧ Le (joinL ps qs) zs) ↔ (p ≤ z ∧ Le ps zs) ∧ (q ≤ z ∧ Le qs zs)
    rw [ih]
    constructor
    · rintro ⟨h1, h2, h3⟩
      split at h1 <;> exact ⟨⟨by omega, h2⟩, by omega, h3⟩
    · rintro ⟨⟨h1, h2⟩, h3, h4⟩
      exact ⟨by split <;> omega, h2, h4⟩
  | [], _ :: _, _, h => nomatch h
  | _ :: _, [], _, h => nomatch h
theorem le_meet : ∀ {a b x : List Int}, a.length = b.length → (Le x (meetL a b) ↔ Le x a ∧ Le x b)
  | [], [], [], _ => ⟨fun _ => ⟨True.intro, True.intro⟩, fun _ => True.intro⟩
  | [], [], _ :: _, _ => ⟨fun h => h.elim, fun h => h.1.elim⟩
  | p :: ps, q :: qs, [], _ => ⟨fun h => h.elim, fun h => h.1.elim⟩
  | p :: ps, q :: qs, z :: zs, h => by
    have ih := le_meet (a := ps) (b := qs) (x := zs) (by simpa using h)
    show (z ≤ (if q < p then q else p) ∧ Le zs (meetL ps qs)) ↔ (z ≤ p ∧ Le zs ps) ∧ (z ≤ q ∧ Le zs qs)
    rw [ih]
    constructor
    · rintro ⟨h1, h2, h3⟩
      split at h1 <;> exact ⟨⟨by omega, h2⟩, by omega, h3⟩
    · rintro ⟨⟨h1, h2⟩, h3, h4⟩
      exact ⟨by split <;> omega, h2, h4⟩
  | [], _ :: _, _, h => nomatch h
  | _ :: _, [], _, h => nomatch h
theorem le_joinL {a b : List Int} (h : a.length = b.length) : Le a (joinL a b) := ((join_le h).mp (Le.refl _)).1
theorem le_joinR {a b : List Int} (h : a.length = b.length) : Le b (joinL a b) := ((join_le h).mp (Le.refl _)).2
/-! ### moments of the law: n coordinates in [0, BB) -/
def BB : Int := 10000000000000000000000000000000000000000
def Ok (n : Nat) (m : List Int) : Prop := m.length = n ∧ TS.Bd BB m
theorem bd_zip {g : Int → Int → Int} (hg : ∀ x y, g x y = x ∨ g x y = y) : ∀ {a b : List Int}, TS.Bd BB a → TS.Bd BB b → TS.Bd BB (List.zipWith g a b)
  | [], _, _, _ => fun c hc => by simp at hc
  | _ :: _, [], _, _ => fun c hc => by simp at hc
  | x :: xs, y :: ys, ha, hb => fun c hc => by
    rw [List.zipWith_cons_cons] at hc
    rcases List.mem_cons.mp hc with rfl | hc
    · rcases hg x y with e | e
      · rw [e]; exact ha.head
      · rw [e]; exact hb.head
    · exact bd_zip hg ha.tail hb.tail c hc
theorem Ok.join {n : Nat} {a b : List Int} (ha : Ok n a) (hb : Ok n b) : Ok n (joinL a b) := ⟨by rw [joinL_len (by rw [ha.1, hb.1]), ha.1], bd_zip (fun x y => by split <;> simp) ha.2 hb.2⟩
theorem Ok.meet {n : Nat} {a b : List Int} (ha : Ok n a) (hb : Ok n b) : Ok n (meetL a b) := ⟨by rw [meetL_len (by rw [ha.1, hb.1]), ha.1], bd_zip (fun x y => by split <;> simp) ha.2 hb.2⟩
theorem code_le : ∀ {a b : List Int}, Le a b → TS.Bd BB a → TS.Bd BB b → TS.code BB a ≤ TS.code BB b
  | [], [], _, _, _ => Int.le_refl _
  | x :: xs, y :: ys, h, ha, hb => by
    rcases Int.lt_or_eq_of_le h.1 with e | e
    · exact Int.le_of_lt (TS.code_lt h.2.len ha.tail hb.tail e)
    · subst e
      have ih := code_le h.2 ha.tail hb.tail
      have := not_congr (TS.code_same (B := BB) (d := x) h.2.len.symm) |>.mpr (by omega)
      omega
  | [], _ :: _, h, _, _ => h.elim
  | _ :: _, [], h, _, _ => h.elim
theorem code_inj : ∀ {a b : List Int}, a.length = b.length → TS.Bd BB a → TS.Bd BB b → TS.code BB a = TS.code BB b → a = b
  | [], [], _, _, _, _ => rfl
  | x :: xs, y :: ys, h, ha, hb, e => by
    have hl : xs.length = ys.length := by simpa using h
    rcases Int.lt_trichotomy x y with l | l | l
    · have := TS.code_lt hl ha.tail hb.tail l
      omega
    · subst l
      have h1 := (not_congr (TS.code_same (B := BB) (d := x) hl)).mp (by omega)
      have h2 := (not_congr (TS.code_same (B := BB) (d := x) hl.symm)).mp (by omega)
      rw [code_inj hl ha.tail hb.tail (by omega)]
    · have := TS.code_lt hl.symm hb.tail ha.tail l
      omega
  | [], _ :: _, h, _, _, _ => nomatch h
  | _ :: _, [], h, _, _, _ => nomatch h
/-! ### folds -/
def stepL (m : List Int) (d l : List Int) : List Int := meetL d (joinL m l)
def foldL : List (List Int) → List Int → List Int
  | [], m => List.replicate m.length 0
  | l :: ls, m => ls.foldl (stepL m) (joinL m l)
theorem foldl_ok {n : Nat} {m : List Int} (hm : Ok n m) : ∀ {ls : List (List Int)} {d : List Int}, (∀ l ∈ ls, Ok n l) → Ok n d → Ok n (ls.foldl (stepL m) d)
  | [], _, _, hd => hd
  | l :: ls, d, h, hd => foldl_ok (ls := ls) (d := stepL m d l) hm (fun x hx => h x (List.mem_cons_of_mem _ hx)) (hd.meet (hm.join (h l List.mem_cons_self)))
theorem foldL_ok {n : Nat} {m : List Int} {L : List (List Int)} (hm : Ok n m) (h : ∀ l ∈ L, Ok n l) : Ok n (foldL L m) := by
  cases L with
  | nil =>
    refine ⟨by simp [foldL, hm.1], fun c hc => ?_⟩
    rw [(List.mem_replicate.mp hc).2]
    exact ⟨Int.le_refl _, by decide⟩
  | cons l ls => exact foldl_ok (ls := ls) hm (fun x hx => h x (List.mem_cons_of_mem _ hx)) (hm.join (h l List.mem_cons_self))
theorem le_foldl {n : Nat} {m x : List Int} (hm : m.length = n) : ∀ {ls : List (List Int)} {d : List Int}, (∀ l ∈ ls, l.length = n) → d.length = n → (Le x (ls.foldl (stepL m) d) ↔ Le x d ∧ ∀ l ∈ ls, Le x (joinL m l))
  | [], _, _, _ => by simp
  | l :: ls, d, h, hd => by
    have hl := h l List.mem_cons_self
    have hj : (joinL m l).length = n := by rw [joinL_len (by omega)]; exact hm
    have h2 : (stepL m d l).length = n := by unfold stepL; rw [meetL_len (by omega)]; exact hd
    rw [List.foldl_cons, le_foldl hm (fun x hx => h x (List.mem_cons_of_mem _ hx)) h2]
    unfold stepL
    rw [le_meet (by omega)]
    simp only [List.mem_cons, forall_eq_or_imp, and_assoc]
theorem le_fold {n : Nat} {m x : List Int} {L : List (List Int)} (hm : m.length = n) (h : ∀ l ∈ L, l.length = n) (hL : L ≠ []) : Le x (foldL L m) ↔ ∀ l ∈ L, Le x (joinL m l) := by
  cases L with
  | nil => exact absurd rfl hL
  | cons l ls =>
    have hl := h l List.mem_cons_self
    show Le x (ls.foldl (stepL m) (joinL m l)) ↔ _
    rw [le_foldl hm (fun x hx => h x (List.mem_cons_of_mem _ hx)) (by rw [joinL_len (by omega)]; exact hm)]
    simp only [List.mem_cons, forall_eq_or_imp]
theorem fold_ge {n : Nat} {m : List Int} {L : List (List Int)} (hm : m.length = n) (h : ∀ l ∈ L, l.length = n) (hL : L ≠ []) : Le m (foldL L m) :=
  (le_fold hm h hL).mpr fun l hl => le_joinL (by rw [hm, h l hl])
theorem fold_le_join {n : Nat} {m l : List Int} {L : List (List Int)} (hm : m.length = n) (h : ∀ l ∈ L, l.length = n) (hl : l ∈ L) : Le (foldL L m) (joinL m l) :=
  (le_fold hm h (List.ne_nil_of_mem hl)).mp (Le.refl _) l hl
theorem fold_open {n : Nat} {m l : List Int} {L : List (List Int)} (hm : m.length = n) (h : ∀ l ∈ L, l.length = n) (hl : l ∈ L) (hle : Le l m) : foldL L m = m :=
  Le.anti ((fold_le_join hm h hl).trans ((join_le (by rw [hm, h l hl])).mpr ⟨Le.refl _, hle⟩)) (fold_ge hm h (List.ne_nil_of_mem hl))
theorem fold_sees {n : Nat} {m l x : List Int} {L : List (List Int)} (hm : m.length = n) (h : ∀ l ∈ L, l.length = n) (hl : l ∈ L) (hle : Le l x) : Le m x ↔ Le (foldL L m) x :=
  ⟨fun k => (fold_le_join hm h hl).trans ((join_le (by rw [hm, h l hl])).mpr ⟨k, hle⟩), fun k => (fold_ge hm h (List.ne_nil_of_mem hl)).trans k⟩
theorem foldL_len {n : Nat} {m : List Int} {L : List (List Int)} (hm : m.length = n) (h : ∀ l ∈ L, l.length = n) : (foldL L m).length = n := by
  by_cases e : L = []
  · subst e
    simp [foldL, hm]
  · exact ((fold_ge hm h e).len.symm.trans hm)
theorem fold_later {n : Nat} {m : List Int} {A L : List (List Int)} (hm : m.length = n) (hA : ∀ l ∈ A, l.length = n) (h : ∀ l ∈ L, l.length = n) (adv : ∀ l ∈ L, ∃ e ∈ A, Le e l) : foldL L (foldL A m) = foldL L m := by
  have hf : (foldL A m).length = n := foldL_len hm hA
  by_cases e : L = []
  · subst e
    show List.replicate (foldL A m).length (0 : Int) = List.replicate m.length 0
    rw [hf, hm]
  · have hA0 : A ≠ [] := by
      obtain ⟨l, hl⟩ := List.exists_mem_of_ne_nil _ e
      obtain ⟨a, ha, _⟩ := adv l hl
      exact List.ne_nil_of_mem ha
    refine Le.anti ((le_fold hm h e).mpr fun l hl => (fold_le_join hf h hl).trans ?_) ((le_fold hf h e).mpr fun l hl => (fold_le_join hm h hl).trans ?_)
    · obtain ⟨a, ha, hal⟩ := adv l hl
      have hml : m.length = l.length := by rw [hm, h l hl]
      refine (join_le (by rw [hf, h l hl])).mpr ⟨(fold_le_join hm hA ha).trans ((join_le (by rw [hm, hA a ha])).mpr ⟨le_joinL hml, hal.trans (le_joinR hml)⟩), le_joinR hml⟩
    · have hfl : (foldL A m).length = l.length := by rw [hf, h l hl]
      exact (join_le (by rw [hm, h l hl])).mpr ⟨(fold_ge hm hA hA0).trans (le_joinL hfl), le_joinR hfl⟩
theorem meetL_self : ∀ a : List Int, meetL a a = a
  | [] => rfl
  | x :: xs => by
    show (if x < x then x else x) :: meetL xs xs = x :: xs
    rw [meetL_self xs, if_neg (by omega)]
theorem foldLaw {m l : List Int} {ls : List (List Int)} : (l :: ls).foldl (stepL m) (joinL m l) = foldL (l :: ls) m := by
  show ls.foldl (stepL m) (stepL m (joinL m l) l) = ls.foldl (stepL m) (joinL m l)
  unfold stepL
  rw [meetL_self]
/-! ### the minimal ones, ascending -/
def Asc (L : List (List Int)) : Prop := L.Pairwise fun x y => TS.code BB x < TS.code BB y
structure IsL (ms L : List (List Int)) : Prop where
  asc : Asc L
  mem : ∀ x, x ∈ L ↔ x ∈ ms ∧ ∀ y ∈ ms, leB y x = true → y = x
theorem asc_uniq : ∀ {L L' : List (List Int)}, Asc L → Asc L' → (∀ x, x ∈ L ↔ x ∈ L') → L = L'
  | [], [], _, _, _ => rfl
  | [], y :: ys, _, _, h => by
    have := (h y).mpr List.mem_cons_self
    simp at this
  | x :: xs, [], _, _, h => by
    have := (h x).mp List.mem_cons_self
    simp at this
  | x :: xs, y :: ys, a, b, h => by
    have a' := List.pairwise_cons.mp a
    have b' := List.pairwise_cons.mp b
    have e : x = y := by
      rcases List.mem_cons.mp ((h x).mp List.mem_cons_self) with e | e
      · exact e
      · rcases List.mem_cons.mp ((h y).mpr List.mem_cons_self) with e' | e'
        · exact e'.symm
        · have := a'.1 y e'
          have := b'.1 x e
          omega
    subst e
    rw [asc_uniq a'.2 b'.2 fun z => ?_]
    have hz := h z
    rw [List.mem_cons, List.mem_cons] at hz
    constructor
    · intro k
      rcases hz.mp (.inr k) with e | e
      · subst e
        have := a'.1 z k
        omega
      · exact e
    · intro k
      rcases hz.mpr (.inr k) with e | e
      · subst e
        have := b'.1 z k
        omega
      · exact e
theorem IsL.uniq {ms L L' : List (List Int)} (h : IsL ms L) (k : IsL ms L') : L = L' := asc_uniq h.asc k.asc fun x => (h.mem x).trans (k.mem x).symm
theorem IsL.self {ms L : List (List Int)} (h : IsL ms L) : IsL L L := ⟨h.asc, fun x => ⟨fun k => ⟨k, fun y hy e => ((h.mem x).mp k).2 y ((h.mem y).mp hy).1 e⟩, fun k => k.1⟩⟩
/-- the program's way: the ascending ones, each kept if none that is kept is before it -/
structure PF (T F : List (List Int)) : Prop where
  asc : Asc F
  sub : ∀ f ∈ F, f ∈ T
  cov : ∀ x ∈ T, ∃ f ∈ F, leB f x = true
  min : ∀ f ∈ F, ∀ y ∈ T, leB y f = true → y = f
theorem PF.nil : PF [] [] := ⟨.nil, fun _ h => h, fun _ h => by simp at h, fun _ h => by simp at h⟩
theorem leB_refl (x : List Int) : leB x x = true := (leB_iff rfl).mpr (Le.refl x)
section
variable {n : Nat} {T F : List (List Int)} {x : List Int}
theorem PF.later (h : PF T F) (hT : ∀ y ∈ T, Ok n y ∧ TS.code BB y < TS.code BB x) (hx : Ok n x) {f : List Int} (hf : f ∈ F) (e : leB x f = true) : False := by
  obtain ⟨ho, hc⟩ := hT f (h.sub f hf)
  have := code_le ((leB_iff (by rw [hx.1, ho.1])).mp e) hx.2 ho.2
  omega
theorem PF.skip (h : PF T F) (hT : ∀ y ∈ T, Ok n y ∧ TS.code BB y < TS.code BB x) (hx : Ok n x) (k : ∃ f ∈ F, leB f x = true) : PF (T ++ [x]) F := by
  refine ⟨h.asc, fun f hf => List.mem_append_left _ (h.sub f hf), fun y hy => ?_, fun f hf y hy e => ?_⟩
  · rcases List.mem_append.mp hy with hy | hy
    · exact h.cov y hy
    · rw [List.mem_singleton.mp hy]
      exact k
  · rcases List.mem_append.mp hy with hy | hy
    · exact h.min f hf y hy e
    · rw [List.mem_singleton.mp hy] at e
      exact (h.later hT hx hf e).elim
theorem PF.add (h : PF T F) (hT : ∀ y ∈ T, Ok n y ∧ TS.code BB y < TS.code BB x) (hx : Ok n x) (k : ∀ f ∈ F, leB f x = false) : PF (T ++ [x]) (F ++ [x]) := by
  refine ⟨?_, fun f hf => ?_, fun y hy => ?_, fun f hf y hy e => ?_⟩
  · refine List.pairwise_append.mpr ⟨h.asc, by simp, fun a ha b hb => ?_⟩
    rw [List.mem_singleton.mp hb]
    exact (hT a (h.sub a ha)).2
  · rcases List.mem_append.mp hf with hf | hf
    · exact List.mem_append_left _ (h.sub f hf)
    · exact List.mem_append_right _ hf
  · rcases List.mem_append.mp hy with hy | hy
    · obtain ⟨f, hf, e⟩ := h.cov y hy
      exact ⟨f, List.mem_append_left _ hf, e⟩
    · exact ⟨y, List.mem_append_right _ hy, leB_refl y⟩
  · rcases List.mem_append.mp hf with hf | hf
    · rcases List.mem_append.mp hy with hy | hy
      · exact h.min f hf y hy e
      · rw [List.mem_singleton.mp hy] at e
        exact (h.later hT hx hf e).elim
    · have ef := List.mem_singleton.mp hf
      subst ef
      rcases List.mem_append.mp hy with hy | hy
      · obtain ⟨g, hg, e2⟩ := h.cov y hy
        have l1 := (hT g (h.sub g hg)).1.1
        have l2 := (hT y hy).1.1
        have : leB g f = true := (leB_iff (by rw [l1, hx.1])).mpr (((leB_iff (by rw [l1, l2])).mp e2).trans ((leB_iff (by rw [l2, hx.1])).mp e))
        rw [k g hg] at this
        cases this
      · exact List.mem_singleton.mp hy
theorem PF.done {ms : List (List Int)} (h : PF T F) (e : ∀ y, y ∈ T ↔ y ∈ ms) : IsL ms F := by
  refine ⟨h.asc, fun y => ⟨fun hy => ⟨(e y).mp (h.sub y hy), fun z hz k => h.min y hy z ((e z).mpr hz) k⟩, fun ⟨h1, h2⟩ => ?_⟩⟩
  obtain ⟨f, hf, k⟩ := h.cov y ((e y).mpr h1)
  rw [← h2 f ((e f).mp (h.sub f hf)) k]
  exact hf
/-- the law's way -/
structure LF (ms T F : List (List Int)) : Prop where
  asc : Asc F
  mem : ∀ x, x ∈ F ↔ x ∈ T ∧ ∀ y ∈ ms, leB y x = true → y = x
theorem LF.nil {ms : List (List Int)} : LF ms [] [] := ⟨.nil, fun x => by simp⟩
def under (ms : List (List Int)) (x : List Int) : Bool := ms.any fun y => decide (y ≠ x) && leB y x
theorem under_no {ms : List (List Int)} : under ms x = false ↔ ∀ y ∈ ms, leB y x = true → y = x := by
  unfold under
  rw [List.any_eq_false]
  constructor
  · intro h y hy e
    have := h y hy
    rw [e] at this
    simpa using this
  · intro h y hy
    cases e : leB y x with
    | false => simp
    | true => simp [h y hy e]
theorem LF.skip {ms : List (List Int)} (h : LF ms T F) (k : x ∈ F ∨ under ms x = true) : LF ms (T ++ [x]) F := by
  refine ⟨h.asc, fun y => ?_⟩
  rw [h.mem y, List.mem_append, List.mem_singleton]
  constructor
  · rintro ⟨h1, h2⟩
    exact ⟨.inl h1, h2⟩
  · rintro ⟨h1 | h1, h2⟩
    · exact ⟨h1, h2⟩
    · subst h1
      rcases k with k | k
      · exact (h.mem y).mp k
      · rw [under_no.mpr h2] at k
        cases k
theorem LF.add {ms : List (List Int)} (h : LF ms T F) (hT : ∀ y ∈ T, Ok n y ∧ TS.code BB y ≤ TS.code BB x) (hx : Ok n x) (k1 : x ∉ F) (k2 : under ms x = false) : LF ms (T ++ [x]) (F ++ [x]) := by
  refine ⟨List.pairwise_append.mpr ⟨h.asc, by simp, fun a ha b hb => ?_⟩, fun y => ?_⟩
  · rw [List.mem_singleton.mp hb]
    obtain ⟨h1, h2⟩ := hT a ((h.mem a).mp ha).1
    rcases Int.lt_or_eq_of_le h2 with l | l
    · exact l
    · have := code_inj (by rw [h1.1, hx.1]) h1.2 hx.2 l
      subst this
      exact absurd ha k1
  · rw [List.mem_append, List.mem_append, List.mem_singleton, h.mem y]
    constructor
    · rintro (⟨h1, h2⟩ | rfl)
      · exact ⟨.inl h1, h2⟩
      · exact ⟨.inr rfl, under_no.mp k2⟩
    · rintro ⟨h1 | h1, h2⟩
      · exact .inl ⟨h1, h2⟩
      · exact .inr h1
theorem LF.done {ms : List (List Int)} (h : LF ms T F) (e : ∀ y, y ∈ T ↔ y ∈ ms) : IsL ms F := ⟨h.asc, fun y => by rw [h.mem y, e y]⟩
end
/-- each of the later ones stands behind one of the earlier ones -/
def Adv (A L : List (List Int)) : Prop := ∀ l ∈ L, ∃ e ∈ A, Le e l
theorem Adv.refl (A : List (List Int)) : Adv A A := fun l hl => ⟨l, hl, Le.refl l⟩
theorem Adv.trans {A L M : List (List Int)} (h : Adv A L) (k : Adv L M) : Adv A M := fun m hm => by
  obtain ⟨l, hl, e⟩ := k m hm
  obtain ⟨a, ha, e'⟩ := h l hl
  exact ⟨a, ha, e'.trans e⟩
end K0

namespace K0
open PySem PySem.Spec PyProof.Rows L2
section
variable {P : Program} {w : World} {K : PySem.W.Frag} {mg : Str → Option Value} {base : Heap}
theorem d_join_of (B : Bt mg) (T : Top K mg "join_of" sjoin_of ["first", "second"]) : Def P w K mg base "join_of" 1 ["first", "second"] (spM K joinL) := by
  refine mk_def T scjoin_of len2m fun f cdv A outer s H vs Q E hr h => ?_
  obtain ⟨a, b, ns, ms, rfl, ha, hb, hl, hn, q⟩ := h
  refine ⟨_, (pss_one (ps_ret (pe_callTy call_tuple_of (by rfl) B.m_tuple (by decide +kernel) (pa_cons (pe_lc (own := [("left", 2), ("right", 3)]) (g := (gTup K 2 (gCons (gName 2) (gCons (gName 3) gNil)))) (tt := tYes) (te := (tCB yMax (tCons (tVar 2) (tCons (tVar 3) tNil)))) rfl scjoin_of.nd (RZ.pi_zipA (by rfl) B.m_zip (pa_cons (pv 0) (pa_cons (pv 1) pa_nil))) (blkOk_by (own := [("left", 2), ("right", 3)]) (N := Njoin_of) (sc := defScope sjoin_of) (by decide +kernel)) (fun _ _ _ _ _ => (pg_tup rfl (pgs_cons (pg_name (i := 2) scjoin_of.nd rfl (Or.inl rfl)) (pgs_cons (pg_name (i := 3) scjoin_of.nd rfl (Or.inl rfl)) pgs_nil)))) (fun _ _ _ _ _ => pts_nil) (fun _ _ _ _ _ => (pe_callB (call_max2 rfl) (by rfl) B.m_max (by decide +kernel) (pa_cons (pv 2) (pa_cons (pv 3) pa_nil))))) pa_nil)))), ?_⟩
  refine ⟨.ref a, rfl, .ref b, rfl, a, b, _, _, rfl, .inr ⟨ha, hb, fun L hL => ?_⟩⟩
  refine lc_val (walk_zipT (by simpa using hl)) hL (by simp; omega) (fun H1 e => ⟨e.seqT ha, e.seqT hb⟩) ((joinL ns ms).map V.int) (by simp [joinL]; omega) (fun i x H1 H2 Q' hi e y k => ?_) (fun H1 e eL => ?_)
  · obtain ⟨T', x', z', rfl, nT, rfl, hx, hz⟩ := y
    obtain ⟨x1, hx1, rfl⟩ := int_at hx
    obtain ⟨z1, hz1, rfl⟩ := int_at hz
    refine ⟨T', [.int x1, .int z1], rfl, .inl (.inl upd_same), rfl, _, _, rfl, _, _, rfl, rfl, rfl, _, rfl, _, rfl, _, _, rfl, ?_⟩
    exact k _ _ (same_upd nT) (by simp [joinL, List.getElem?_zipWith, hx1, hz1])
  · exact ⟨L, _, rfl, .inl ⟨SqL.of eL, fun p hp => q _ p (e.trans (same_upd hp)) (e.new hp) upd_same⟩⟩
theorem d_meet_of (B : Bt mg) (T : Top K mg "meet_of" smeet_of ["first", "second"]) : Def P w K mg base "meet_of" 1 ["first", "second"] (spM K meetL) := by
  refine mk_def T scmeet_of len2m fun f cdv A outer s H vs Q E hr h => ?_
  obtain ⟨a, b, ns, ms, rfl, ha, hb, hl, hn, q⟩ := h
  refine ⟨_, (pss_one (ps_ret (pe_callTy call_tuple_of (by rfl) B.m_tuple (by decide +kernel) (pa_cons (pe_lc (own := [("left", 2), ("right", 3)]) (g := (gTup K 2 (gCons (gName 2) (gCons (gName 3) gNil)))) (tt := tYes) (te := (tCB yMin (tCons (tVar 2) (tCons (tVar 3) tNil)))) rfl scmeet_of.nd (RZ.pi_zipA (by rfl) B.m_zip (pa_cons (pv 0) (pa_cons (pv 1) pa_nil))) (blkOk_by (own := [("left", 2), ("right", 3)]) (N := Nmeet_of) (sc := defScope smeet_of) (by decide +kernel)) (fun _ _ _ _ _ => (pg_tup rfl (pgs_cons (pg_name (i := 2) scmeet_of.nd rfl (Or.inl rfl)) (pgs_cons (pg_name (i := 3) scmeet_of.nd rfl (Or.inl rfl)) pgs_nil)))) (fun _ _ _ _ _ => pts_nil) (fun _ _ _ _ _ => (pe_callB (call_min2 rfl) (by rfl) B.m_min (by decide +kernel) (pa_cons (pv 2) (pa_cons (pv 3) pa_nil))))) pa_nil)))), ?_⟩
  refine ⟨.ref a, rfl, .ref b, rfl, a, b, _, _, rfl, .inr ⟨ha, hb, fun L hL => ?_⟩⟩
  refine lc_val (walk_zipT (by simpa using hl)) hL (by simp; omega) (fun H1 e => ⟨e.seqT ha, e.seqT hb⟩) ((meetL ns ms).map V.int) (by simp [meetL]; omega) (fun i x H1 H2 Q' hi e y k => ?_) (fun H1 e eL => ?_)
  · obtain ⟨T', x', z', rfl, nT, rfl, hx, hz⟩ := y
    obtain ⟨x1, hx1, rfl⟩ := int_at hx
    obtain ⟨z1, hz1, rfl⟩ := int_at hz
    refine ⟨T', [.int x1, .int z1], rfl, .inl (.inl upd_same), rfl, _, _, rfl, _, _, rfl, rfl, rfl, _, rfl, _, rfl, _, _, rfl, ?_⟩
    exact k _ _ (same_upd nT) (by simp [meetL, List.getElem?_zipWith, hx1, hz1])
  · exact ⟨L, _, rfl, .inl ⟨SqL.of eL, fun p hp => q _ p (e.trans (same_upd hp)) (e.new hp) upd_same⟩⟩
/-! ### the law's own -/
theorem d_law_before (B : Bt mg) (T : Top K mg "_law_before" s_law_before ["one", "other"]) : Def P w K mg base "_law_before" 1 ["one", "other"] (spB K leB) := by
  refine mk_def T sc_law_before len2 fun f cdv A outer s H vs Q E hr h => ?_
  obtain ⟨a, b, ns, ms, rfl, ha, hb, hl, hn, q⟩ := h
  refine ⟨_, (pss_one (ps_ret (pe_callB (cr_all rfl) (by rfl) B.m_all (by decide +kernel) (pa_cons (pe_lc (own := [("k", 2)]) (g := (gName 2)) (tt := tYes) (te := (tOp yLe (tOp (rIxT K) (tVar 0) (tVar 2)) (tOp (rIxT K) (tVar 1) (tVar 2)))) rfl sc_law_before.nd (pi_range1 (by rfl) B.m_range (pa_cons (pe_callB call_len_seq (by rfl) B.m_len PySem.boot_len (pa_cons (pv 0) pa_nil)) pa_nil)) (blkOk_by (own := [("k", 2)]) (N := N_law_before) (sc := defScope s_law_before) (by decide +kernel)) (fun _ _ _ _ _ => (pg_name (i := 2) sc_law_before.nd rfl (Or.inl rfl))) (fun _ _ _ _ _ => pts_nil) (fun _ _ _ _ _ => (pe_cmpR op_le (pe_ix ix_tup (pv 0) (pv 2) (fun _ _ => rfl)) (pe_ix ix_tup (pv 1) (pv 2) (fun _ _ => rfl)) (nomark _)))) pa_nil)))), ?_⟩
  refine ⟨.ref a, rfl, a, _, rfl, .inr ha, _, rfl, by omega, by simp; omega, fun L hL => ?_⟩
  refine lc_val walk_range hL (by simp; omega) (fun H1 e => True.intro) ((leL ns ms).map V.bl) (by simp [leL]; omega) (fun i x H1 H2 Q' hi e y k => ?_) (fun H1 e eL => ?_)
  · obtain ⟨rfl, rfl⟩ := y
    have hi1 : i < ns.length := by simpa using hi
    have hi2 : i < ms.length := by omega
    refine ⟨rfl, .ref a, rfl, _, rfl, a, _, _, .int ns[i], rfl, rfl, e.seqT ha, at_of (j := i) (by omega) (by simp [hi1]), .ref b, rfl, _, rfl, b, _, _, .int ms[i], rfl, rfl, e.seqT hb, at_of (j := i) (by omega) (by simp [hi2]), _, _, rfl, rfl, ?_⟩
    exact k _ _ (Same.refl _) (by simp [leL, List.getElem?_zipWith, hi1, hi2])
  · exact ⟨L, leL ns ms, rfl, SqL.of eL, q H1 e⟩
theorem d_law_join (B : Bt mg) (T : Top K mg "_law_join" s_law_join ["one", "other"]) : Def P w K mg base "_law_join" 1 ["one", "other"] (spM K joinL) := by
  refine mk_def T sc_law_join len2m fun f cdv A outer s H vs Q E hr h => ?_
  obtain ⟨a, b, ns, ms, rfl, ha, hb, hl, hn, q⟩ := h
  refine ⟨_, (pss_one (ps_ret (pe_callTy call_tuple_of (by rfl) B.m_tuple (by decide +kernel) (pa_cons (pe_lc (own := [("k", 2)]) (g := (gName 2)) (tt := tYes) (te := (tCB yMax (tCons (tOp (rIxT K) (tVar 0) (tVar 2)) (tCons (tOp (rIxT K) (tVar 1) (tVar 2)) tNil)))) rfl sc_law_join.nd (pi_range1 (by rfl) B.m_range (pa_cons (pe_callB call_len_seq (by rfl) B.m_len PySem.boot_len (pa_cons (pv 0) pa_nil)) pa_nil)) (blkOk_by (own := [("k", 2)]) (N := N_law_join) (sc := defScope s_law_join) (by decide +kernel)) (fun _ _ _ _ _ => (pg_name (i := 2) sc_law_join.nd rfl (Or.inl rfl))) (fun _ _ _ _ _ => pts_nil) (fun _ _ _ _ _ => (pe_callB (call_max2 rfl) (by rfl) B.m_max (by decide +kernel) (pa_cons (pe_ix ix_tup (pv 0) (pv 2) (fun _ _ => rfl)) (pa_cons (pe_ix ix_tup (pv 1) (pv 2) (fun _ _ => rfl)) pa_nil))))) pa_nil)))), ?_⟩
  refine ⟨.ref a, rfl, a, _, rfl, .inr ha, _, rfl, by omega, by simp; omega, fun L hL => ?_⟩
  refine lc_val walk_range hL (by simp; omega) (fun H1 e => True.intro) ((joinL ns ms).map V.int) (by simp [joinL]; omega) (fun i x H1 H2 Q' hi e y k => ?_) (fun H1 e eL => ?_)
  · obtain ⟨rfl, rfl⟩ := y
    have hi1 : i < ns.length := by simpa using hi
    have hi2 : i < ms.length := by omega
    refine ⟨rfl, .ref a, rfl, _, rfl, a, _, _, .int ns[i], rfl, rfl, e.seqT ha, at_of (j := i) (by omega) (by simp [hi1]), .ref b, rfl, _, rfl, b, _, _, .int ms[i], rfl, rfl, e.seqT hb, at_of (j := i) (by omega) (by simp [hi2]), _, _, rfl, ?_⟩
    exact k _ _ (Same.refl _) (by simp [joinL, List.getElem?_zipWith, hi1, hi2])
  · exact ⟨L, _, rfl, .inl ⟨SqL.of eL, fun p hp => q _ p (e.trans (same_upd hp)) (e.new hp) upd_same⟩⟩
def spIsInt : Sp := fun vs H Q _ => ∃ i : Int, vs = [.int i] ∧ ∀ H', Same H H' → Q (.bl true) H'
theorem d_law_is_integer (B : Bt mg) (T : Top K mg "_law_is_integer" s_law_is_integer ["told"]) : Def P w K mg base "_law_is_integer" 1 ["told"] spIsInt := by
  refine mk_def T sc_law_is_integer (by rintro _ _ _ _ ⟨i, rfl, _⟩; rfl) fun f cdv A outer s H vs Q E hr h => ?_
  obtain ⟨i, rfl, q⟩ := h
  refine ⟨_, (pss_one (ps_ret (pe_and (pe_callB call_isi (by rfl) B.m_isinstance (by decide +kernel) (pa_cons (pv 0) (pa_cons (pe_bltn (v := .ty "int") (by rfl) B.m_int (by decide +kernel) rfl) pa_nil))) (pe_one (pe_not (pe_callB call_isi (by rfl) B.m_isinstance (by decide +kernel) (pa_cons (pv 0) (pa_cons (pe_bltn (v := .ty "bool") (by rfl) B.m_bool (by decide +kernel) rfl) pa_nil)))))))), ?_⟩
  refine ⟨.int i, rfl, _, _, .type "int", .type "int", true, rfl, .ty _, .base (.int i), kit_ty (by decide +kernel), _, rfl, ?_⟩
  refine ⟨.int i, rfl, _, _, .type "int", .type "bool", false, rfl, .ty _, .base (.int i), kit_ty (by decide +kernel), _, rfl, ?_⟩
  exact q H (Same.refl _)
end
end K0

namespace K0
open PySem PySem.Spec PyProof.Rows L2
section
variable {P : Program} {w : World} {K : PySem.W.Frag} {mg : Str → Option Value} {base : Heap}
def spIsMoment (K : PySem.W.Frag) : Sp := fun vs H Q _ => ∃ (v : V) (m : List Int), vs = [v, .int (m.length : Nat)] ∧ Mo K H v m ∧ (∀ c ∈ m, 0 ≤ c) ∧ m.length ≤ 1000 ∧ ∀ H', Same H H' → Q (.bl true) H'
theorem d_law_is_moment (B : Bt mg) (T : Top K mg "_law_is_moment" s_law_is_moment ["told", "span"]) (D_law_is_integer : Def P w K mg base "_law_is_integer" 1 ["told"] spIsInt) : Def P w K mg base "_law_is_moment" 2 ["told", "span"] (spIsMoment K) := by
  refine mk_def T sc_law_is_moment (by rintro _ _ _ _ ⟨_, _, rfl, _⟩; rfl) fun f cdv A outer s H vs Q E hr h => ?_
  obtain ⟨v, m, rfl, hm, h0, h1, q⟩ := h
  refine ⟨_, (pss_cons (ps_if (pw_or (pt_not (pt_val (pe_callB call_isi (by rfl) B.m_isinstance (by decide +kernel) (pa_cons (pv 0) (pa_cons (pe_bltn (v := .ty "tuple") (by rfl) B.m_tuple (by decide +kernel) rfl) pa_nil))))) (pw_or1 (pt_cmpR op_ne (pe_callB call_len_seq (by rfl) B.m_len PySem.boot_len (pa_cons (pv 0) pa_nil)) (pv 1) (nomark _)))).pt (pss_one (ps_ret pe_bl)) pss_nil)
      (pss_one (ps_ret (pe_callB (cr_all rfl) (by rfl) B.m_all (by decide +kernel) (pa_cons (pe_lc (own := [("one", 2)]) (g := (gName 2)) (tt := tYes) (te := (tAndV (tCall spIsInt [] E0 (tCons (tVar 2) tNil)) (tOp yGe (tVar 2) (tC (.int 0))))) rfl sc_law_is_moment.nd (pi_tup (pv 0)) (blkOk_by (own := [("one", 2)]) (N := N_law_is_moment) (sc := defScope s_law_is_moment) (by decide +kernel)) (fun _ _ _ _ _ => (pg_name (i := 2) sc_law_is_moment.nd rfl (Or.inl rfl))) (fun _ _ _ _ _ => pts_nil) (fun _ _ _ _ _ => (pe_and (pe_def D_law_is_integer (hr.mono (by first | decide | omega)) (by rfl) (pa_cons (pv 2) pa_nil)) (pe_one (pe_cmpR op_ge (pv 2) pe_int (nomark _)))))) pa_nil))))), ?_⟩
  obtain ⟨a, rfl, ha⟩ := hm.trk
  refine ⟨.ref a, rfl, _, _, .type "tuple", .type "tuple", true, rfl, .ty _, .base (.tup ha), kit_ty (by decide +kernel), _, rfl, iteF ⟨.ref a, rfl, a, _, rfl, .inr (SqT.of ha), .int (m.length : Nat), rfl, rfl, _, rfl, ?_⟩⟩
  refine iteNS (by simp) ?_
  refine ⟨.ref a, rfl, a, rfl, ⟨_, SqT.of ha⟩, fun D hD => ?_⟩
  refine lc_val (walk_tup (K := K)) hD (by simp; omega) (fun H1 e => e.seqT (SqT.of ha)) (List.replicate m.length (V.bl true)) (by simp) (fun i x H1 H2 Q' hi e y k => ?_) (fun H1 e eD => ?_)
  · obtain ⟨rfl, hx⟩ := y
    obtain ⟨c, hc, rfl⟩ := int_at hx
    refine ⟨rfl, .int c, rfl, c, rfl, fun H3 s3 => ?_⟩
    have hi' : i < m.length := by simpa using hi
    refine ⟨true, rfl, iteT ⟨.int c, rfl, _, _, rfl, rfl, ?_⟩⟩
    refine k _ _ s3 ?_
    have h0c := h0 c (List.mem_of_getElem? hc)
    simp [hi', h0c]
  · refine ⟨D, List.replicate m.length true, rfl, SqL.of (by rw [eD, List.map_replicate]), ?_⟩
    rw [show (List.replicate m.length true).all id = true by simp]
    exact q H1 e
end
end K0

namespace K0
open PySem PySem.Spec PyProof.Rows L2
theorem PotAt.there {H : Hp} {p : Addr} (h : PotAt H p) : ∃ o, H p = some o := let ⟨_, _, _, e, _⟩ := h; ⟨_, e⟩
theorem PotAt.same {H H' : Hp} {p : Addr} (h : PotAt H p) (e : Same H H') : PotAt H' p := let ⟨a, b, c, e1, r⟩ := h; ⟨a, b, c, e _ _ e1, r⟩
theorem PotAt.ne {H : Hp} {p q : Addr} (h : PotAt H p) (n : H q = none) : p ≠ q := let ⟨_, _, _, e, _⟩ := h; ne_of_none e n
theorem PotAt.upd {H : Hp} {p q : Addr} {o : HO} (h : PotAt H p) (n : p ≠ q) : PotAt (L2.upd H q o) p := let ⟨a, b, c, e1, r⟩ := h; ⟨a, b, c, by rw [upd_ne n]; exact e1, r⟩
section
variable {P : Program} {w : World} {K : PySem.W.Frag} {mg : Str → Option Value} {base : Heap}
def GH : Int := 1000000000000000000000000000000000000000
def spLevels (K : PySem.W.Frag) : Sp := fun vs H Q _ => ∃ (p : Addr) (n : Nat), vs = [.ref p, .int (n : Nat)] ∧ PotAt H p ∧ 1 ≤ n ∧ n ≤ 10 ∧
  ∀ H' a (r : List Int), SameB p H H' → PotAt H' p → H a = none → H' a = some (.lst (r.map V.int)) → r.length = n → TS.Bd GH r → r.Pairwise (· < ·) → Q (.ref a) H'
def GG : Int := 10000000000000000000000000000000
theorem d_law_levels (B : Bt mg) (T : Top K mg "_law_levels" s_law_levels ["pot", "many"]) (D_law_draw : Def P w K mg base "_law_draw" 1 ["pot", "size"] (spDraw K)) (D_law_great : Def P w K mg base "_law_great" 2 ["pot"] (spGreat K)) : Def P w K mg base "_law_levels" 3 ["pot", "many"] (spLevels K) := by
  refine mk_def T sc_law_levels (by rintro _ _ _ _ ⟨_, _, rfl, _⟩; rfl) fun f cdv A outer s H vs Q E hr h => ?_
  obtain ⟨p, n, rfl, pt, h1, h10, q⟩ := h
  refine ⟨_, (pss_cons (ps_set (i := 2) sc_law_levels.nd rfl (Or.inl rfl) (pe_lst (pa_cons (pe_op op_fdivW (pe_def D_law_draw (hr.mono (by first | decide | omega)) (by rfl) (pa_cons (pv 0) (pa_cons pe_int pa_nil))) pe_int) pa_nil)))
      (pss_cons (ps_for PassesOwn.never rfl (pi_range1 (by rfl) B.m_range (pa_cons (pe_op op_sub (pv 1) pe_int) pa_nil)) (pg_name (i := 3) sc_law_levels.nd rfl (Or.inl rfl)) (pss_cons (ps_set (i := 4) sc_law_levels.nd rfl (Or.inl rfl) pe_int)
      (pss_cons (ps_set (i := 5) sc_law_levels.nd rfl (Or.inl rfl) (pe_def D_law_draw (hr.mono (by first | decide | omega)) (by rfl) (pa_cons (pv 0) (pa_cons pe_int pa_nil))))
      (Evl.pss_cut (ps_if (pt_cmpR op_eq (pv 5) pe_int (nomark _)) (pss_one (ps_set (i := 4) sc_law_levels.nd rfl (Or.inl rfl) (pe_op op_add pe_int (pe_def D_law_draw (hr.mono (by first | decide | omega)) (by rfl) (pa_cons (pv 0) (pa_cons pe_int pa_nil)))))) pss_nil)
      (Evl.pss_cut (ps_if (pt_cmpR op_eq (pv 5) pe_int (nomark _)) (pss_one (ps_set (i := 4) sc_law_levels.nd rfl (Or.inl rfl) (pe_op op_add pe_int (pe_def D_law_great (hr.mono (by first | decide | omega)) (by rfl) (pa_cons (pv 0) pa_nil))))) pss_nil)
      (pss_one (ps_expr (pe_bm PySem.F.plainAttrs_list PySem.F.slot_list_append PySem.F.type_list_append mt_append (pv 2) (pa_cons (pe_op op_add (pe_ix ix_list (pv 2) (pe_un un_neg pe_int) (fun _ _ => rfl)) (pv 4)) pa_nil)))))))))
      (pss_one (ps_ret (pv 2))))), ?_⟩
  refine ⟨.ref p, rfl, p, 3, rfl, pt, by decide, by decide, fun H1 r s1 p1 r0 r1 => ⟨_, _, rfl, rfl, ⟨by decide, by decide⟩, by show 1 ≤ sizeLine; decide, fun L hL => ?_⟩⟩
  have nL : H L = none := s1.fresh pt.there hL p1.there
  have npL : p ≠ L := p1.ne hL
  refine ⟨.int (n : Nat), rfl, _, _, rfl, rfl, (n : Int) - 1, rfl, by omega, by omega, ?_⟩
  refine for_range (lo := 0) (n := ((n : Int) - 1).toNat) (fun i σ H' => ∃ (y3 y4 y5 : Option V) (ms : List Int) (last : Int), σ = [some (.ref p), some (.int (n : Nat)), some (.ref L), y3, y4, y5] ∧ SameB p H H' ∧ PotAt H' p ∧ H' L = some (.lst ((ms ++ [last]).map V.int)) ∧ ms.length = i ∧ (ms ++ [last]).Pairwise (· < ·) ∧ ∀ x ∈ ms ++ [last], 0 ≤ x ∧ x ≤ ((i : Int) + 1) * GG)
    ⟨none, none, none, [], r / 2, rfl, s1.trans (Same.b (same_upd hL)), p1.upd npL, upd_same, rfl, by simp, fun x hx => ?_⟩ (fun i σ H' hi pv' => ?_) (fun σ H' pv' => ?_)
  · have := List.mem_singleton.mp hx
    subst this
    have : (1 : Int) ≤ (0 + 1) * GG := by decide
    constructor
    · omega
    · have e : ((0 : Nat) : Int) = 0 := rfl
      rw [e]
      omega
  · obtain ⟨y3, y4, y5, ms, last, rfl, e, pt1, eL, hl, hpw, hms⟩ := pv'
    refine ⟨.ref p, rfl, p, 7, rfl, pt1, by decide, by decide, fun H2 wd s2 p2 w0 w1 => ?_⟩
    have eL2 := s2 _ _ npL.symm eL
    refine ⟨fun σ' H3 => ∃ g : Int, σ' = [some (.ref p), some (.int (n : Nat)), some (.ref L), some (.int (0 + (i : Nat))), some (.int g), some (.int wd)] ∧ SameB p H H3 ∧ PotAt H3 p ∧ H3 L = some (.lst ((ms ++ [last]).map V.int)) ∧ 1 ≤ g ∧ g ≤ GG, ?_, ?_⟩
    · refine ⟨.int wd, rfl, rfl, _, rfl, ite2 (fun z => ⟨.ref p, rfl, p, 9, rfl, p2, by decide, by decide, fun H3 g s3 p3 g0 g1 => ⟨_, _, rfl, rfl, _, rfl, (e.trans s2).trans s3, p3, s3 _ _ npL.symm eL2, by omega, ?_⟩⟩) (fun z => ⟨1, rfl, e.trans s2, p2, eL2, by decide, by decide⟩)⟩
      have : (11 : Int) ≤ GG := by decide
      omega
    · rintro σ' H3 ⟨g, rfl, e3, p3, eL3, g0, g1⟩
      refine ⟨fun σ' H4 => ∃ g : Int, σ' = [some (.ref p), some (.int (n : Nat)), some (.ref L), some (.int (0 + (i : Nat))), some (.int g), some (.int wd)] ∧ SameB p H H4 ∧ PotAt H4 p ∧ H4 L = some (.lst ((ms ++ [last]).map V.int)) ∧ 1 ≤ g ∧ g ≤ GG, ?_, ?_⟩
      · refine ⟨.int wd, rfl, rfl, _, rfl, ite2 (fun z => ⟨.ref p, rfl, p, rfl, p3, fun H4 g' s4 p4 g0' g1' => ⟨_, _, rfl, rfl, _, rfl, e3.trans s4, p4, s4 _ _ npL.symm eL3, by omega, ?_⟩⟩) (fun z => ⟨g, rfl, e3, p3, eL3, g0, g1⟩)⟩
        have : (1000000000000000000000000000000 : Int) + 1 ≤ GG := by decide
        omega
      · rintro σ' H4 ⟨g, rfl, e4, p4, eL4, g0, g1⟩
        refine ⟨.ref L, rfl, .inl ⟨rfl, _, SqL.of eL4⟩, .ref L, rfl, _, rfl, L, _, _, .int last, rfl, rfl, SqL.of eL4, ?_, .int g, rfl, _, _, rfl, rfl, L, _, _, rfl, rfl, eL4, ?_, ?_⟩
        · rw [List.map_append]
          exact atI_last _ _
        · exact Nat.lt_of_le_of_lt (show ((ms ++ [last]).map V.int).length ≤ 11 by simp; omega) (by decide)
        · refine ⟨_, _, _, ms ++ [last], last + g, rfl, e4.mut nL, p4.upd npL, ?_, by simp [hl], ?_, fun x hx => ?_⟩
          rotate_left
          · refine List.pairwise_append.mpr ⟨hpw, by simp, fun x hx y hy => ?_⟩
            rw [List.mem_singleton.mp hy]
            rcases List.mem_append.mp hx with hx | hx
            · have := (List.pairwise_append.mp hpw).2.2 x hx last (by simp)
              omega
            · rw [List.mem_singleton.mp hx]
              omega
          rotate_right
          · rw [upd_same, List.map_append (l₁ := ms ++ [last])]
            rfl
          · have hlast := hms last (by simp)
            have hst : (((i + 1 : Nat) : Int) + 1) * GG = ((i : Int) + 1) * GG + GG := by
              rw [show (((i + 1 : Nat) : Int) + 1) = ((i : Int) + 1) + 1 by omega, Int.add_mul ((i : Int) + 1) 1 GG, Int.one_mul]
            rw [hst]
            rcases List.mem_append.mp hx with hx | hx
            · have := hms x hx
              omega
            · rw [List.mem_singleton.mp hx]
              omega
  · obtain ⟨y3, y4, y5, ms, last, rfl, e, pt1, eL, hl, hpw, hms⟩ := pv'
    refine ⟨.ref L, rfl, q H' L (ms ++ [last]) e pt1 nL eL (by simp; omega) (fun x hx => ?_) hpw⟩
    have h := hms x hx
    refine ⟨h.1, ?_⟩
    have h2 : (((((n : Int) - 1).toNat : Nat) : Int) + 1) * GG ≤ 10 * GG := Int.mul_le_mul_of_nonneg_right (by omega) (by decide)
    have h3 : 10 * GG < GH := by decide
    omega
end
end K0

namespace K0
open PySem PySem.Spec PyProof.Rows L2
/-- a list of moments -/
def MoL (K : PySem.W.Frag) (H : Hp) (v : V) (ms : List (List Int)) : Prop := ∃ a lv, v = .ref a ∧ H a = some (.lst lv) ∧ DaAll K H lv (ms.map mo)
theorem MoL.same {K : PySem.W.Frag} {H H' : Hp} {v : V} {ms : List (List Int)} (h : MoL K H v ms) (e : Same H H') : MoL K H' v ms := by
  obtain ⟨a, lv, rfl, h1, h2⟩ := h
  exact ⟨a, lv, rfl, e _ _ h1, Da.sameAll e _ _ h2⟩
theorem Ok.pos {n : Nat} {m : List Int} (h : Ok n m) : ∀ c ∈ m, 0 ≤ c := fun c hc => (h.2 c hc).1
def spAreMoments (K : PySem.W.Frag) : Sp := fun vs H Q _ => ∃ (v : V) (z : Int) (n : Nat) (ms : List (List Int)), vs = [v, .int z] ∧ z = (n : Int) ∧ MoL K H v ms ∧ (∀ m ∈ ms, Ok n m) ∧ n ≤ 4 ∧ ms.length ≤ 10000 ∧ ∀ H', Same H H' → Q (.bl true) H'
section
variable {P : Program} {w : World} {K : PySem.W.Frag} {mg : Str → Option Value} {base : Heap}
theorem d_law_are_moments (B : Bt mg) (T : Top K mg "_law_are_moments" s_law_are_moments ["told", "span"]) (D_law_is_moment : Def P w K mg base "_law_is_moment" 2 ["told", "span"] (spIsMoment K)) : Def P w K mg base "_law_are_moments" 3 ["told", "span"] (spAreMoments K) := by
  refine mk_def T sc_law_are_moments (by rintro _ _ _ _ ⟨_, _, _, _, rfl, _⟩; rfl) fun f cdv A outer s H vs Q E hr h => ?_
  obtain ⟨v, z, n, ms, rfl, rfl, ⟨a, lv, rfl, ha, hd⟩, hok, hn, hl, q⟩ := h
  refine ⟨_, (pss_cons (ps_if (pt_not (pt_val (pe_callB call_isi (by rfl) B.m_isinstance (by decide +kernel) (pa_cons (pv 0) (pa_cons (pe_bltn (v := .ty "list") (by rfl) B.m_list (by decide +kernel) rfl) pa_nil))))) (pss_one (ps_ret pe_bl)) pss_nil)
      (pss_one (ps_ret (pe_callB (cr_all rfl) (by rfl) B.m_all (by decide +kernel) (pa_cons (pe_lc (own := [("one", 2)]) (g := (gName 2)) (tt := tYes) (te := (tCall (spIsMoment K) [] E0 (tCons (tVar 2) (tCons (tVar 1) tNil)))) rfl sc_law_are_moments.nd (pi_list (pv 0)) (blkOk_by (own := [("one", 2)]) (N := N_law_are_moments) (sc := defScope s_law_are_moments) (by decide +kernel)) (fun _ _ _ _ _ => (pg_name (i := 2) sc_law_are_moments.nd rfl (Or.inl rfl))) (fun _ _ _ _ _ => pts_nil) (fun _ _ _ _ _ => (pe_def D_law_is_moment (hr.mono (by first | decide | omega)) (by rfl) (pa_cons (pv 2) (pa_cons (pv 1) pa_nil))))) pa_nil))))), ?_⟩
  have ll : lv.length = ms.length := by simpa using hd.length
  refine ⟨.ref a, rfl, _, _, .type "list", .type "list", true, rfl, .ty _, .base (.lst ha), kit_ty (by decide +kernel), _, rfl, iteF ⟨.ref a, rfl, a, rfl, ⟨_, SqL.of ha⟩, fun D hD => ?_⟩⟩
  refine lc_val (walk_list (K := K)) hD (by omega) (fun H3 e3 => SqL.of (e3 _ _ ha)) (List.replicate lv.length (V.bl true)) (by simp) (fun j y H3 H4 Q' hj e3 y1 k => ?_) (fun H3 e3 eD => ?_)
  · obtain ⟨rfl, hy⟩ := y1
    obtain ⟨dd, hd1, hd2⟩ := hd.get hy
    obtain ⟨m, hm, rfl⟩ := mo_at hd1
    have hom := hok m (List.mem_of_getElem? hm)
    refine ⟨rfl, y, rfl, .int (n : Nat), rfl, y, m, (by rw [hom.1]; rfl), Mo.same hd2 e3, hom.pos, by rw [hom.1]; omega, fun H5 s5 => k _ _ s5 ?_⟩
    rw [List.getElem?_replicate, if_pos hj]
  · refine ⟨D, List.replicate lv.length true, rfl, SqL.of (by rw [eD, List.map_replicate]), ?_⟩
    rw [show (List.replicate lv.length true).all id = true by simp]
    exact q H3 e3
end
end K0

namespace K0
open PySem PySem.Spec PyProof.Rows L2 NSet
/-! ### closure -/
def cloStep (c : List (List Int)) (m : List Int) : List (List Int) := c ++ c.map (joinL m) ++ [m]
/-- all joins of some of them -/
def clo (ms : List (List Int)) : List (List Int) := ms.foldl cloStep []
theorem clo_snoc (ms : List (List Int)) (m : List Int) : clo (ms ++ [m]) = cloStep (clo ms) m := by simp [clo]
theorem clo_take {ms : List (List Int)} {i : Nat} {m : List Int} (h : ms[i]? = some m) : clo (ms.take (i + 1)) = cloStep (clo (ms.take i)) m := by
  rw [List.take_add_one, h]
  exact clo_snoc _ _
theorem mem_step {c : List (List Int)} {m x : List Int} : x ∈ cloStep c m ↔ x ∈ c ∨ (∃ y ∈ c, joinL m y = x) ∨ x = m := by
  unfold cloStep
  rw [List.mem_append, List.mem_append, List.mem_map, List.mem_singleton, or_assoc]
/-- R tells the set S in order -/
structure Tells (R S : List (List Int)) : Prop where
  asc : R.Pairwise fun x y => ltK rowK x y = true
  mem : ∀ x, x ∈ R ↔ x ∈ S
theorem Tells.nodup {R S : List (List Int)} (t : Tells R S) : R.Nodup := t.asc.imp fun {x y} h e => by
  rw [e, ltK_irr] at h
  cases h
/-- few moments, with each two their join -/
structure Box (n : Nat) (G : List (List Int)) : Prop where
  few : G.length < 299
  ok : ∀ m ∈ G, Ok n m
  jn : ∀ a ∈ G, ∀ b ∈ G, joinL a b ∈ G
theorem clo_box {n : Nat} {G : List (List Int)} (g : Box n G) : ∀ (l c : List (List Int)), (∀ m ∈ l, m ∈ G) → (∀ m ∈ c, m ∈ G) → ∀ x ∈ l.foldl cloStep c, x ∈ G
  | [], c, _, hc, x, hx => hc x hx
  | m :: l, c, hl, hc, x, hx => clo_box g l (cloStep c m) (fun y hy => hl y (List.mem_cons_of_mem _ hy)) (fun y hy => by
      rcases mem_step.mp hy with h | ⟨z, hz, rfl⟩ | rfl
      · exact hc y h
      · exact g.jn _ (hl m List.mem_cons_self) _ (hc z hz)
      · exact hl _ List.mem_cons_self) x hx
theorem mos_refs {K : PySem.W.Frag} {H : Hp} : ∀ {gv : List V} {ms : List (List Int)}, DaAll K H gv (ms.map mo) → ∃ bs : List Addr, gv = bs.map V.ref
  | _, [], .nil => ⟨[], rfl⟩
  | _, m :: ms, .cons r t => by
    obtain ⟨a, rfl, _⟩ := Mo.trk r
    obtain ⟨bs, rfl⟩ := mos_refs (ms := ms) t
    exact ⟨a :: bs, rfl⟩
theorem mos_of : ∀ {es : List PyData}, (∀ e ∈ es, ∃ m : List Int, e = mo m) → ∃ ms : List (List Int), es = ms.map mo
  | [], _ => ⟨[], rfl⟩
  | e :: es, h => by
    obtain ⟨m, rfl⟩ := h e List.mem_cons_self
    obtain ⟨ms, rfl⟩ := mos_of fun d hd => h d (List.mem_cons_of_mem _ hd)
    exact ⟨m :: ms, rfl⟩
/-- sorted(set(xs)), xs a list of moments out of a box -/
theorem sortset {K : PySem.W.Frag} {w : World} {H : Hp} {l : Addr} {lv : List V} {X G : List (List Int)} {n : Nat} {Q : VK} (g : Box n G) (hX : ∀ x ∈ X, x ∈ G) (el : H l = some (.lst lv)) (dl : DaAll K H lv (X.map mo))
    (q : ∀ H' p R, Same H H' → H p = none → MoL K H' (.ref p) R → Tells R X → Q (.ref p) H') : rSetD K w [.ref l] H fun u H1 => rSortSN K w [u] H1 Q := by
  obtain ⟨bs, rfl⟩ := mos_refs dl
  refine ⟨l, bs, X.map mo, rfl, SqL.of el, dl, fun d hd => ?_, fun l nd hl => ?_, fun a L es ha mD hs hc nL => ?_⟩
  · obtain ⟨m, _, rfl⟩ := List.mem_map.mp hd
    exact ⟨imm_mo m, rowK.dep m⟩
  · have := List.Nodup.length_le_of_subset nd (l₂ := G.map fun x => kOf (mo x)) fun k hk => by
      obtain ⟨d, hd, rfl⟩ := List.mem_map.mp (hl k hk)
      obtain ⟨m, hm, rfl⟩ := List.mem_map.mp hd
      exact List.mem_map.mpr ⟨m, hX m hm, rfl⟩
    rw [List.length_map] at this
    exact Nat.lt_of_le_of_lt this g.few
  · obtain ⟨ms, rfl⟩ := mos_of fun e he => by
      obtain ⟨m, _, rfl⟩ := List.mem_map.mp (hs e he)
      exact ⟨m, rfl⟩
    have s1 := same_upd (o := SetNO w a L) ha
    refine ⟨a, L, ms.map rowK.enc, rfl, upd_same, mD.1, mD.2, fun d hd => ?_, sorts_of _, fun p ys M np pm nM so dM => ?_⟩
    · obtain ⟨m, _, rfl⟩ := List.mem_map.mp hd
      exact rowK.dep m
    · obtain ⟨S, hS1, hS2⟩ := NSet.perm_lift mo pm ms rfl
      subst hS2
      have nS : S.Nodup := List.Pairwise.of_map mo (fun _ _ ne e => ne (congrArg _ e)) nM
      have so' := List.pairwise_map.mp so
      have aS : S.Pairwise fun x y => ltK rowK x y = true := (so'.and nS).imp fun {x y} ⟨a, b⟩ => by
        cases e : ltK rowK x y with
        | true => rfl
        | false => exact absurd (ordRow.tot x y e a) b
      refine q _ p S (s1.trans (same_upd np)) (s1.new np) ⟨p, ys, rfl, upd_same, dM⟩ ⟨aS, fun m => ⟨fun hm => ?_, fun hm => ?_⟩⟩
      · have hm2 : mo m ∈ X.map mo := hs _ (List.mem_map.mpr ⟨m, hS1.mem_iff.mp hm, rfl⟩)
        obtain ⟨m', h1, h2⟩ := List.mem_map.mp hm2
        rw [← mo_inj h2]
        exact h1
      · have := hc (mo m) (List.mem_map.mpr ⟨m, hm, rfl⟩)
        rw [mD.2, kOfs_map] at this
        obtain ⟨e', he', ee⟩ := List.mem_map.mp this
        obtain ⟨m', hm', rfl⟩ := List.mem_map.mp he'
        have := (key_eq (E := rowK)).mp ee
        rw [← this]
        exact hS1.mem_iff.mpr hm'
theorem mos_app {K : PySem.W.Frag} {H : Hp} : ∀ {a b : List V} {x y : List (List Int)}, DaAll K H a (x.map mo) → DaAll K H b (y.map mo) → DaAll K H (a ++ b) ((x ++ y).map mo)
  | _, _, [], y, .nil, h => h
  | _, _, m :: x, y, .cons r t, h => .cons r (mos_app (x := x) t h)
section
variable {P : Program} {w : World} {K : PySem.W.Frag} {mg : Str → Option Value} {base : Heap}
def spClosure (K : PySem.W.Frag) : Sp := fun vs H Q _ => ∃ (v : V) (n : Nat) (ms G : List (List Int)), vs = [v] ∧ MoL K H v ms ∧ Box n G ∧ (∀ m ∈ ms, m ∈ G) ∧ n ≤ 4 ∧ ∀ H' y R, Same H H' → MoL K H' y R → Tells R (clo ms) → Q y H'
theorem d_closure (B : Bt mg) (T : Top K mg "closure" sclosure ["moments"]) (Djoin_of : Def P w K mg base "join_of" 1 ["first", "second"] (spM K joinL)) : Def P w K mg base "closure" 2 ["moments"] (spClosure K) := by
  refine mk_def T scclosure (by rintro _ _ _ _ ⟨_, _, _, _, rfl, _⟩; rfl) fun f cdv A outer s H vs Q E hr h => ?_
  obtain ⟨v, n, ms, G, rfl, ⟨a, lv, rfl, ha, hd⟩, g, hG, hn, q⟩ := h
  refine ⟨_, (pss_cons (ps_set (i := 1) scclosure.nd rfl (Or.inl rfl) (pe_lst pa_nil))
      (pss_cons (ps_for PassesOwn.never rfl (pi_list (pv 0)) (pg_name (i := 2) scclosure.nd rfl (Or.inr rfl)) (pss_cons (ps_setLc (i := 3) (own := [("other", 4)]) (g := (gName 4)) (tt := tYes) (te := (tCall (spM K joinL) [] E0 (tCons (tVar 2) (tCons (tVar 4) tNil)))) rfl scclosure.nd rfl rfl (sw_true rfl rfl rfl (by decide +kernel)) (pi_list (pv 1)) (blkOk_by (own := [("other", 4)]) (N := Nclosure) (sc := defScope sclosure) (by decide +kernel)) (fun _ _ _ _ _ => (pg_name (i := 4) scclosure.nd rfl (Or.inl rfl))) (fun _ _ _ _ _ => pts_nil) (fun _ _ _ _ _ => (pe_def Djoin_of (hr.mono (by first | decide | omega)) (by rfl) (pa_cons (pv 2) (pa_cons (pv 4) pa_nil)))))
      (pss_one (ps_set (i := 1) scclosure.nd rfl (Or.inl rfl) (pe_callB (NSet.cr_sortSN rfl (hu24 hr)) (by rfl) B.m_sorted (by decide +kernel) (pa_cons (pe_callTy (NSet.cr_setD rfl (hu64 hr)) (by rfl) B.m_set (by decide +kernel) (pa_cons (pe_op op_cat (pe_op op_cat (pv 1) (pv 3)) (pe_lst (pa_cons (pv 2) pa_nil))) pa_nil)) pa_nil))))))
      (pss_one (ps_ret (pv 1))))), ?_⟩
  refine ⟨Nat.zero_le _, fun c0 hc0 => ?_⟩
  have s0 : Same H (L2.upd H c0 (.lst [])) := same_upd hc0
  refine ⟨.ref a, rfl, a, rfl, ⟨_, SqL.of (s0 _ _ ha)⟩, ?_⟩
  have ll : lv.length = ms.length := by simpa using hd.length
  refine for_list (xs := lv) (fun i σ H' => ∃ c y2 y3 y4 R, σ = [some (.ref a), some c, y2, y3, y4] ∧ Same H H' ∧ MoL K H' c R ∧ Tells R (clo (ms.take i)))
    ⟨.ref c0, none, none, none, [], rfl, s0, ⟨c0, [], rfl, upd_same, .nil⟩, .nil, fun x => Iff.rfl⟩ (fun i σ H' _ pv' => ?_) (fun i x σ H' hx pv' => ?_) (fun σ H' pv' => ?_)
  · obtain ⟨_, _, _, _, _, rfl, e, _⟩ := pv'
    exact SqL.of (e _ _ ha)
  · obtain ⟨_, y2, y3, y4, R, rfl, e, ⟨c, cv, rfl, hc, dc⟩, t⟩ := pv'
    obtain ⟨d, hd1, hd2⟩ := hd.get hx
    obtain ⟨m, hm, rfl⟩ := mo_at hd1
    have mG := hG m (List.mem_of_getElem? hm)
    have om := g.ok m mG
    have RG : ∀ r ∈ R, r ∈ G := fun r hr => clo_box g (ms.take i) [] (fun y hy => hG y (List.mem_of_mem_take hy)) (fun y hy => nomatch hy) r ((t.mem r).mp hr)
    have lR : R.length < 299 := Nat.lt_of_le_of_lt (List.Nodup.length_le_of_subset t.nodup RG) g.few
    have lc : cv.length = R.length := by simpa using dc.length
    have hmx : Mo K H' x m := Mo.same hd2 e
    refine ⟨.ref c, rfl, c, rfl, ⟨_, SqL.of hc⟩, fun D hD => ?_⟩
    refine lc_dat (K := K) (walk_list (K := K) (a := c) (xs := cv)) hD (by omega) (fun H5 e5 => SqL.of (e5 _ _ hc)) ((R.map (joinL m)).map mo) (by simp [lc]) (imm_mos _) (fun j z H5' H5 Q' hj e5 y k => ?_) (fun H5 acc e5 eD dD => ?_)
    · obtain ⟨rfl, hz⟩ := y
      obtain ⟨d2, hd3, hd4⟩ := dc.get hz
      obtain ⟨r, hr, rfl⟩ := mo_at hd3
      have or := g.ok r (RG r (List.mem_of_getElem? hr))
      obtain ⟨b1, rfl, hb1⟩ := (Mo.same hmx e5).inv
      obtain ⟨b2, rfl, hb2⟩ := (Mo.same hd4 e5).inv
      refine ⟨rfl, .ref b1, rfl, .ref b2, rfl, b1, b2, m, r, rfl, hb1, hb2, by rw [om.1, or.1], by rw [om.1]; omega, fun H6 y6 s6 ny6 ey6 => ?_⟩
      exact k _ _ (mo (joinL m r)) s6 (by simp [hr]) (Mo.of ey6)
    · have la : acc.length = R.length := by simpa using dD.length
      have ec5 := e5 _ _ hc
      have dc5 := Da.sameAll e5 _ _ dc
      have hm5 := Mo.same hmx e5
      refine ⟨.ref c, rfl, .ref D, rfl, c, D, cv, acc, rfl, rfl, ec5, eD, by rw [lc, la]; exact Nat.le_trans (show R.length + R.length ≤ 1000 by omega) (by decide), fun l1 h1 => ?_⟩
      have s1 := same_upd (o := .lst (cv ++ acc)) h1
      refine ⟨x, rfl, by show 1 ≤ sizeLine; decide, fun l2 h2 => ?_⟩
      have e1 : L2.upd H5 l1 (.lst (cv ++ acc)) l1 = some (.lst (cv ++ acc)) := upd_same
      have s2 := same_upd (o := .lst [x]) h2
      have e2 : L2.upd (L2.upd H5 l1 (.lst (cv ++ acc))) l2 (.lst [x]) l2 = some (.lst [x]) := upd_same
      refine ⟨l1, l2, cv ++ acc, [x], rfl, rfl, s2 _ _ e1, e2, by simp [lc, la]; exact Nat.le_trans (show R.length + R.length + 1 ≤ 1000 by omega) (by decide), fun l3 h3 => ?_⟩
      have s12 := s1.trans s2
      have s3 := same_upd (o := .lst (cv ++ acc ++ [x])) h3
      have sA := s12.trans s3
      have dX : DaAll K (L2.upd (L2.upd (L2.upd H5 l1 (.lst (cv ++ acc))) l2 (.lst [x])) l3 (.lst (cv ++ acc ++ [x]))) (cv ++ acc ++ [x]) ((R ++ R.map (joinL m) ++ [m]).map mo) :=
        mos_app (mos_app (Da.sameAll sA _ _ dc5) (Da.sameAll sA _ _ dD)) (.cons (Mo.same hm5 sA) .nil)
      have e3 : L2.upd (L2.upd (L2.upd H5 l1 (.lst (cv ++ acc))) l2 (.lst [x])) l3 (.lst (cv ++ acc ++ [x])) l3 = some (.lst (cv ++ acc ++ [x])) := upd_same
      have sH := (e.trans e5).trans sA
      generalize L2.upd (L2.upd (L2.upd H5 l1 (.lst (cv ++ acc))) l2 (.lst [x])) l3 (.lst (cv ++ acc ++ [x])) = H6 at dX e3 sH ⊢
      show rSetD K w [V.ref l3] H6 fun u H1 => rSortSN K w [u] H1 fun u2 H2 => gName 1 u2 _ H2 _
      refine sortset g (fun y hy => ?_) e3 dX fun H7 p R2 s7 np hR2 tR2 => ?_
      · rcases mem_step.mp (show y ∈ cloStep R m from hy) with h | ⟨z, hz, rfl⟩ | rfl
        · exact RG y h
        · exact g.jn _ mG _ (RG z hz)
        · exact mG
      · refine ⟨_, _, _, _, R2, rfl, sH.trans s7, hR2, tR2.asc, fun y => ?_⟩
        rw [tR2.mem y, clo_take hm]
        show y ∈ cloStep R m ↔ _
        rw [mem_step, mem_step, t.mem y]
        refine or_congr Iff.rfl (or_congr ?_ Iff.rfl)
        exact ⟨fun ⟨z, hz, e⟩ => ⟨z, (t.mem z).mp hz, e⟩, fun ⟨z, hz, e⟩ => ⟨z, (t.mem z).mpr hz, e⟩⟩
  · obtain ⟨c, y2, y3, y4, R, rfl, e, hc, t⟩ := pv'
    rw [ll, List.take_length] at t
    exact ⟨c, rfl, q H' c R e hc t⟩
end
end K0

namespace K0
open PySem PySem.Spec PyProof.Rows L2 NSet
/-- a value that is no whole number, and its type's name -/
inductive Odd (H : Hp) : V → String → Prop where
  | non : Odd H .non "NoneType"
  | bl (b : Bool) : Odd H (.bl b) "bool"
  | str (x : Str) : Odd H (.str x) "str"
  | tup {a : Addr} {xs : List V} (e : H a = some (.tup xs)) : Odd H (.ref a) "tuple"
  | lst {a : Addr} {xs : List V} (e : H a = some (.lst xs)) : Odd H (.ref a) "list"
  | dT {a : Addr} {kvs : List (List Key × V)} (e : H a = some (.dT kvs)) : Odd H (.ref a) "dict"
theorem Odd.same {H H' : Hp} {v : V} {n : String} (h : Odd H v n) (s : Same H H') : Odd H' v n := by
  cases h with
  | non => exact .non
  | bl b => exact .bl b
  | str x => exact .str x
  | tup e => exact .tup (s _ _ e)
  | lst e => exact .lst (s _ _ e)
  | dT e => exact .dT (s _ _ e)
theorem Odd.ty {K : PySem.W.Frag} {H : Hp} {v : V} {n : String} (h : Odd H v n) : TyX K H v (.type n) := by
  cases h with
  | non => exact .base .non
  | bl b => exact .base (.bl b)
  | str x => exact .base (.str x)
  | tup e => exact .base (.tup e)
  | lst e => exact .base (.lst e)
  | dT e => exact .base (.dT e)
/-- whether it is a number -/
def IsN (H : Hp) (v : V) (b : Bool) : Prop := (∃ i, v = .int i ∧ b = true) ∨ (b = false ∧ ∃ n, Odd H v n)
/-- whether it is a coordinate -/
def CoV (H : Hp) (v : V) (b : Bool) : Prop := (∃ i, v = .int i ∧ b = decide (0 ≤ i)) ∨ (b = false ∧ ∃ n, Odd H v n)
theorem CoV.same {H H' : Hp} {v : V} {b : Bool} (h : CoV H v b) (s : Same H H') : CoV H' v b := by
  rcases h with h | ⟨h, n, o⟩
  · exact .inl h
  · exact .inr ⟨h, n, o.same s⟩
/-- whether it is a moment with n axes -/
def MoV (H : Hp) (v : V) (n : Nat) (b : Bool) : Prop := (b = false ∧ ((∃ i, v = .int i) ∨ ∃ k, Odd H v k ∧ k ≠ "tuple")) ∨
  ∃ a xs, v = .ref a ∧ H a = some (.tup xs) ∧ xs.length ≤ 1000 ∧ ((xs.length ≠ n ∧ b = false) ∨ (xs.length = n ∧ ∃ bs : List Bool, Paired (CoV H) xs bs ∧ b = bs.all id))
theorem Paired.imp {α β : Type} {R S : α → β → Prop} (h : ∀ a b, R a b → S a b) : ∀ {xs : List α} {ys : List β}, Paired R xs ys → Paired S xs ys
  | _, _, .nil => .nil
  | _, _, .cons r t => .cons (h _ _ r) (Paired.imp h t)
theorem Paired.at {α β : Type} {R : α → β → Prop} : ∀ {xs : List α} {ys : List β}, Paired R xs ys → ∀ {i : Nat} {x : α}, xs[i]? = some x → ∃ y, ys[i]? = some y ∧ R x y
  | _, _, .cons r t, 0, x, h => by
    cases h
    exact ⟨_, rfl, r⟩
  | _, _, .cons r t, i + 1, x, h => Paired.at t (i := i) h
theorem Paired.len {α β : Type} {R : α → β → Prop} : ∀ {xs : List α} {ys : List β}, Paired R xs ys → xs.length = ys.length
  | _, _, .nil => rfl
  | _, _, .cons r t => congrArg (· + 1) (Paired.len t)
theorem MoV.same {H H' : Hp} {v : V} {n : Nat} {b : Bool} (h : MoV H v n b) (s : Same H H') : MoV H' v n b := by
  rcases h with ⟨h, o⟩ | ⟨a, xs, rfl, e, l, c⟩
  · refine .inl ⟨h, o.imp id fun ⟨k, o, ne⟩ => ⟨k, o.same s, ne⟩⟩
  · exact .inr ⟨a, xs, rfl, s _ _ e, l, c.imp id fun ⟨z, bs, p, q⟩ => ⟨z, bs, Paired.imp (fun _ _ r => CoV.same r s) p, q⟩⟩
/-- a moment is one -/
theorem MoV.mo {K : PySem.W.Frag} {H : Hp} {v : V} {m : List Int} (h : Mo K H v m) (h0 : ∀ c ∈ m, 0 ≤ c) (hl : m.length ≤ 1000) (n : Nat) : MoV H v n (decide (m.length = n)) := by
  obtain ⟨a, rfl, ha⟩ := h.trk
  refine .inr ⟨a, _, rfl, ha, by simpa using hl, ?_⟩
  by_cases e : m.length = n
  · refine .inr ⟨by simpa using e, m.map fun _ => true, ?_, ?_⟩
    · have : ∀ m : List Int, (∀ c ∈ m, 0 ≤ c) → Paired (CoV H) (m.map V.int) (m.map fun _ => true) := by
        intro m
        induction m with
        | nil => intro _; exact .nil
        | cons c m ih => intro h; exact .cons (.inl ⟨c, rfl, (decide_eq_true (h c List.mem_cons_self)).symm⟩) (ih fun d hd => h d (List.mem_cons_of_mem _ hd))
      exact this m h0
    · simp [e]
  · exact .inl ⟨by simpa using e, by simp [e]⟩
section
variable {P : Program} {w : World} {K : PySem.W.Frag} {mg : Str → Option Value} {base : Heap}
def spIsNum (K : PySem.W.Frag) : Sp := fun vs H Q _ => ∃ (v : V) (b : Bool), vs = [v] ∧ IsN H v b ∧ ∀ H', Same H H' → Q (.bl b) H'
theorem d_is_number (B : Bt mg) (T : Top K mg "is_number" sis_number ["value"]) : Def P w K mg base "is_number" 1 ["value"] (spIsNum K) := by
  refine mk_def T scis_number (by rintro _ _ _ _ ⟨_, _, rfl, _⟩; rfl) fun f cdv A outer s H vs Q E hr h => ?_
  obtain ⟨v, b, rfl, hn, q⟩ := h
  refine ⟨_, (pss_one (ps_ret (pe_and (pe_callB call_isi (by rfl) B.m_isinstance (by decide +kernel) (pa_cons (pv 0) (pa_cons (pe_bltn (v := .ty "int") (by rfl) B.m_int (by decide +kernel) rfl) pa_nil))) (pe_one (pe_not (pe_callB call_isi (by rfl) B.m_isinstance (by decide +kernel) (pa_cons (pv 0) (pa_cons (pe_bltn (v := .ty "bool") (by rfl) B.m_bool (by decide +kernel) rfl) pa_nil)))))))), ?_⟩
  rcases hn with ⟨i, rfl, rfl⟩ | ⟨rfl, n, o⟩
  · refine ⟨.int i, rfl, _, _, .type "int", .type "int", true, rfl, .ty _, .base (.int i), kit_ty (by decide +kernel), _, rfl, ?_⟩
    refine ⟨.int i, rfl, _, _, .type "int", .type "bool", false, rfl, .ty _, .base (.int i), kit_ty (by decide +kernel), _, rfl, ?_⟩
    exact q H (Same.refl _)
  · have ty := o.ty (K := K)
    cases o with
    | bl c =>
      refine ⟨.bl c, rfl, _, _, .type "bool", .type "int", true, rfl, .ty _, ty, kit_ty (by decide +kernel), _, rfl, ?_⟩
      refine ⟨.bl c, rfl, _, _, .type "bool", .type "bool", true, rfl, .ty _, ty, kit_ty (by decide +kernel), _, rfl, ?_⟩
      exact q H (Same.refl _)
    | non => exact ⟨_, rfl, _, _, .type "NoneType", .type "int", false, rfl, .ty _, ty, kit_ty (by decide +kernel), _, rfl, q H (Same.refl _)⟩
    | str x => exact ⟨_, rfl, _, _, .type "str", .type "int", false, rfl, .ty _, ty, kit_ty (by decide +kernel), _, rfl, q H (Same.refl _)⟩
    | tup e => exact ⟨_, rfl, _, _, .type "tuple", .type "int", false, rfl, .ty _, ty, kit_ty (by decide +kernel), _, rfl, q H (Same.refl _)⟩
    | lst e => exact ⟨_, rfl, _, _, .type "list", .type "int", false, rfl, .ty _, ty, kit_ty (by decide +kernel), _, rfl, q H (Same.refl _)⟩
    | dT e => exact ⟨_, rfl, _, _, .type "dict", .type "int", false, rfl, .ty _, ty, kit_ty (by decide +kernel), _, rfl, q H (Same.refl _)⟩
def spIsMo (K : PySem.W.Frag) : Sp := fun vs H Q _ => ∃ (v : V) (n : Nat) (b : Bool), vs = [v, .int (n : Nat)] ∧ MoV H v n b ∧ ∀ H', Same H H' → Q (.bl b) H'
theorem d_is_moment (B : Bt mg) (T : Top K mg "is_moment" sis_moment ["value", "axes"]) (Dis_number : Def P w K mg base "is_number" 1 ["value"] (spIsNum K)) : Def P w K mg base "is_moment" 2 ["value", "axes"] (spIsMo K) := by
  refine mk_def T scis_moment (by rintro _ _ _ _ ⟨_, _, _, rfl, _⟩; rfl) fun f cdv A outer s H vs Q E hr h => ?_
  obtain ⟨v, n, b, rfl, hm, q⟩ := h
  refine ⟨_, (pss_cons (ps_if (pw_or (pt_not (pt_val (pe_callB call_isi (by rfl) B.m_isinstance (by decide +kernel) (pa_cons (pv 0) (pa_cons (pe_bltn (v := .ty "tuple") (by rfl) B.m_tuple (by decide +kernel) rfl) pa_nil))))) (pw_or1 (pt_cmpR op_ne (pe_callB call_len_seq (by rfl) B.m_len PySem.boot_len (pa_cons (pv 0) pa_nil)) (pv 1) (nomark _)))).pt (pss_one (ps_ret pe_bl)) pss_nil)
      (pss_one (ps_ret (pe_callB (cr_all rfl) (by rfl) B.m_all (by decide +kernel) (pa_cons (pe_lc (own := [("coordinate", 2)]) (g := (gName 2)) (tt := tYes) (te := (tAndV (tCall (spIsNum K) [] E0 (tCons (tVar 2) tNil)) (tOp yGe (tVar 2) (tC (.int 0))))) rfl scis_moment.nd (pi_tup (pv 0)) (blkOk_by (own := [("coordinate", 2)]) (N := Nis_moment) (sc := defScope sis_moment) (by decide +kernel)) (fun _ _ _ _ _ => (pg_name (i := 2) scis_moment.nd rfl (Or.inl rfl))) (fun _ _ _ _ _ => pts_nil) (fun _ _ _ _ _ => (pe_and (pe_def Dis_number (hr.mono (by first | decide | omega)) (by rfl) (pa_cons (pv 2) pa_nil)) (pe_one (pe_cmpR op_ge (pv 2) pe_int (nomark _)))))) pa_nil))))), ?_⟩
  have no : ∀ (k : String), TyX K H v (.type k) → PySem.W.kitOne K (.type k) (.type "tuple") = some false → b = false → ∃ x, start Nis_moment [v, V.int (n : Nat)] = x ∧ True := fun _ _ _ _ => ⟨_, rfl, True.intro⟩
  clear no
  rcases hm with ⟨rfl, hk⟩ | ⟨a, xs, rfl, ha, hl, hb⟩
  · rcases hk with ⟨i, rfl⟩ | ⟨k, o, ne⟩
    · exact ⟨_, rfl, _, _, .type "int", .type "tuple", false, rfl, .ty _, .base (.int i), kit_ty (by decide +kernel), _, rfl, iteT (q H (Same.refl _))⟩
    · have ty := o.ty (K := K)
      cases o with
      | bl c => exact ⟨_, rfl, _, _, .type "bool", .type "tuple", false, rfl, .ty _, ty, kit_ty (by decide +kernel), _, rfl, iteT (q H (Same.refl _))⟩
      | non => exact ⟨_, rfl, _, _, .type "NoneType", .type "tuple", false, rfl, .ty _, ty, kit_ty (by decide +kernel), _, rfl, iteT (q H (Same.refl _))⟩
      | str x => exact ⟨_, rfl, _, _, .type "str", .type "tuple", false, rfl, .ty _, ty, kit_ty (by decide +kernel), _, rfl, iteT (q H (Same.refl _))⟩
      | tup e => exact absurd rfl ne
      | lst e => exact ⟨_, rfl, _, _, .type "list", .type "tuple", false, rfl, .ty _, ty, kit_ty (by decide +kernel), _, rfl, iteT (q H (Same.refl _))⟩
      | dT e => exact ⟨_, rfl, _, _, .type "dict", .type "tuple", false, rfl, .ty _, ty, kit_ty (by decide +kernel), _, rfl, iteT (q H (Same.refl _))⟩
  · refine ⟨.ref a, rfl, _, _, .type "tuple", .type "tuple", true, rfl, .ty _, .base (.tup ha), kit_ty (by decide +kernel), _, rfl, iteF ⟨.ref a, rfl, a, _, rfl, .inr (SqT.of ha), .int (n : Nat), rfl, rfl, _, rfl, ?_⟩⟩
    rcases hb with ⟨ne, rfl⟩ | ⟨el, bs, ps, rfl⟩
    · exact ite2 (fun _ => q H (Same.refl _)) (fun z => absurd (by simp at z; omega) ne)
    · refine iteNS (by simp [el]) ?_
      refine ⟨.ref a, rfl, a, rfl, ⟨_, SqT.of ha⟩, fun D hD => ?_⟩
      refine lc_val (walk_tup (K := K)) hD (by omega) (fun H1 e => e.seqT (SqT.of ha)) (bs.map V.bl) (by simp [Paired.len ps]) (fun i x H1 H2 Q' hi e y k => ?_) (fun H1 e eD => ?_)
      · obtain ⟨rfl, hx⟩ := y
        obtain ⟨c, hc, hcv⟩ := Paired.at ps hx
        have hcv := CoV.same hcv e
        refine ⟨rfl, x, rfl, ?_⟩
        rcases hcv with ⟨j, rfl, rfl⟩ | ⟨rfl, m, o⟩
        · refine ⟨.int j, true, rfl, .inl ⟨j, rfl, rfl⟩, fun H3 s3 => ?_⟩
          refine ⟨true, rfl, iteT ⟨.int j, rfl, _, _, rfl, rfl, ?_⟩⟩
          exact k _ _ s3 (by simp [hc])
        · refine ⟨x, false, rfl, .inr ⟨rfl, m, o⟩, fun H3 s3 => ?_⟩
          refine ⟨false, rfl, iteF ?_⟩
          exact k _ _ s3 (by simp [hc])
      · refine ⟨D, bs, rfl, SqL.of eD, ?_⟩
        exact q H1 e
end
end K0

namespace K0
open PySem PySem.Spec PyProof.Rows L2
theorem can_ints : ∀ ns : List Int, PyData.canLayAll0 (ns.map PyData.int) = true
  | [] => rfl
  | n :: ns => can_ints ns
theorem depth_ints : ∀ ns : List Int, PyData.depthAll (ns.map PyData.int) = 0
  | [] => rfl
  | n :: ns => by
    show max 0 (PyData.depthAll (ns.map PyData.int)) = 0
    rw [depth_ints ns]
    rfl
theorem shaped_mo (m : List Int) : SeqAt.shaped (mo m) = true := by
  unfold SeqAt.shaped
  rw [show PyData.canLay0 (mo m) = true from can_ints m, Bool.true_and]
  refine decide_eq_true ?_
  show PyData.depthAll (m.map PyData.int) + 1 ≤ 64
  rw [depth_ints]
  decide
theorem can_mos : ∀ ms : List (List Int), PyData.canLayAll0 (ms.map mo) = true
  | [] => rfl
  | m :: ms => by
    show (PyData.canLay0 (mo m) && PyData.canLayAll0 (ms.map mo)) = true
    rw [show PyData.canLay0 (mo m) = true from can_ints m, can_mos ms]
    rfl
theorem depth_mos : ∀ ms : List (List Int), PyData.depthAll (ms.map mo) ≤ 1
  | [] => Nat.zero_le _
  | m :: ms => by
    show max (PyData.depthAll (m.map PyData.int) + 1) (PyData.depthAll (ms.map mo)) ≤ 1
    rw [depth_ints]
    exact Nat.max_le.mpr ⟨Nat.le_refl _, depth_mos ms⟩
theorem shaped_mos (ms : List (List Int)) : SeqAt.shaped (.list (ms.map mo)) = true := by
  unfold SeqAt.shaped
  rw [show PyData.canLay0 (.list (ms.map mo)) = true from can_mos ms, Bool.true_and]
  refine decide_eq_true ?_
  show PyData.depthAll (ms.map mo) + 1 ≤ 64
  have := depth_mos ms
  omega
theorem eqvAll_ints : ∀ ns ms : List Int, PyData.eqvAll (ns.map PyData.int) (ms.map PyData.int) = decide (ns = ms)
  | [], [] => rfl
  | [], _ :: _ => rfl
  | _ :: _, [] => rfl
  | n :: ns, m :: ms => by
    show ((n == m) && PyData.eqvAll (ns.map PyData.int) (ms.map PyData.int)) = _
    rw [eqvAll_ints ns ms, Bool.eq_iff_iff]
    simp
theorem eqv_mo (a b : List Int) : PyData.eqv (mo a) (mo b) = decide (a = b) := eqvAll_ints a b
theorem eqvAll_mos : ∀ as bs : List (List Int), PyData.eqvAll (as.map mo) (bs.map mo) = decide (as = bs)
  | [], [] => rfl
  | [], _ :: _ => rfl
  | _ :: _, [] => rfl
  | n :: ns, m :: ms => by
    show (PyData.eqv (mo n) (mo m) && PyData.eqvAll (ns.map mo) (ms.map mo)) = _
    rw [eqvAll_mos ns ms, eqv_mo, Bool.eq_iff_iff]
    simp
theorem eqv_mos (a b : List (List Int)) : PyData.eqv (.list (a.map mo)) (.list (b.map mo)) = decide (a = b) := eqvAll_mos a b
theorem MoL.da {K : PySem.W.Frag} {H : Hp} {v : V} {ms : List (List Int)} (h : MoL K H v ms) : Da K H v (.list (ms.map mo)) := by
  obtain ⟨a, lv, rfl, h1, h2⟩ := h
  exact .lst (SqL.of h1) h2
theorem SameB.potst {K : PySem.W.Frag} {H H' : Hp} {p : Addr} (e : SameB p H H') (pt : PotAt H p) : ST K H H' := by
  obtain ⟨a, b, c, e1, _⟩ := pt
  exact SameB.st e e1 True.intro
theorem MoL.sameB {K : PySem.W.Frag} {H H' : Hp} {v : V} {ms : List (List Int)} {p : Addr} (h : MoL K H v ms) (e : SameB p H H') (pt : PotAt H p) : MoL K H' v ms := by
  obtain ⟨a, lv, rfl, h1, h2⟩ := h
  have st : ST K H H' := SameB.potst e pt
  refine ⟨a, lv, rfl, e _ _ (fun z => ?_) h1, Da.stAll st _ _ (imm_mos _) h2⟩
  subst z
  obtain ⟨x, y, z, e1, _⟩ := pt
  rw [h1] at e1
  cases e1
  cases ms with
  | nil => cases h2
  | cons m ms =>
    cases h2 with
    | cons r _ => cases r
theorem Mo.sameB {K : PySem.W.Frag} {H H' : Hp} {v : V} {m : List Int} {p : Addr} (h : Mo K H v m) (e : SameB p H H') (pt : PotAt H p) : Mo K H' v m := Mo.st h (SameB.potst e pt)
def kwR {α : Type} : List α → List α → List α
  | [], [w, z] => [z, w]
  | _, _ => []
theorem kwR_rel : ∀ {vs : List V} {us : List Value} {zs : List V} {ws : List Value}, Vals vs us → Vals zs ws → Vals (kwR vs zs) (kwR us ws)
  | _, _, _, _, .nil, .cons r1 (.cons r2 .nil) => .cons r2 (.cons r1 .nil)
  | _, _, _, _, .nil, .nil => .nil
  | _, _, _, _, .nil, .cons _ .nil => .nil
  | _, _, _, _, .nil, .cons _ (.cons _ (.cons _ _)) => .nil
  | _, _, _, _, .cons _ _, _ => .nil
theorem kwR_binds {K : PySem.W.Frag} {fd : FuncData} {a b : Str} (h : ∀ (s : Shared) (w z : Value), K.In s.heap → BindsTo s fd ⟨[], [(b, w), (a, z)]⟩ [(a, z), (b, w)]) : KBinds K fd [a, b] [b, a] kwR kwR :=
  ⟨(fun s us ws X hl => match us, ws, hl with
    | [], [w, z], _ => h s w z X
    | [], [], hl => nomatch hl
    | [], [_], hl => nomatch hl
    | [], _ :: _ :: _ :: _, hl => nomatch hl
    | _ :: _, _, hl => nomatch hl), kwR_rel⟩
/-- coordinates of a moment -/
def Nn (n : Nat) (m : List Int) : Prop := m.length = n ∧ ∀ c ∈ m, 0 ≤ c
theorem Ok.nn {n : Nat} {m : List Int} (h : Ok n m) : Nn n m := ⟨h.1, fun c hc => (h.2 c hc).1⟩
theorem zip_nn {g : Int → Int → Int} (hg : ∀ x y, 0 ≤ x → 0 ≤ y → 0 ≤ g x y) {n : Nat} {a b : List Int} (ha : Nn n a) (hb : Nn n b) : Nn n (List.zipWith g a b) := by
  refine ⟨by rw [List.length_zipWith, ha.1, hb.1, Nat.min_self], fun c hc => ?_⟩
  obtain ⟨i, hi⟩ := List.mem_iff_getElem?.mp hc
  rw [List.getElem?_zipWith] at hi
  cases e1 : a[i]? with
  | none => rw [e1] at hi; cases hi
  | some x =>
    cases e2 : b[i]? with
    | none => rw [e1, e2] at hi; cases hi
    | some y =>
      rw [e1, e2] at hi
      cases hi
      exact hg x y (ha.2 x (List.mem_of_getElem? e1)) (hb.2 y (List.mem_of_getElem? e2))
section
variable {P : Program} {w : World} {K : PySem.W.Frag} {mg : Str → Option Value} {base : Heap}
def spMoved (K : PySem.W.Frag) : Sp := fun vs H Q _ => ∃ (p : Addr) (v : V) (n : Nat) (m : List Int), vs = [.ref p, v] ∧ PotAt H p ∧ Mo K H v m ∧ Nn n m ∧ n ≤ 4 ∧ ∀ H' y m', SameB p H H' → PotAt H' p → Mo K H' y m' → Nn n m' → Q y H'
theorem d_law_moved (B : Bt mg) (T : Top K mg "_law_moved" s_law_moved ["pot", "moment"]) (D_law_draw : Def P w K mg base "_law_draw" 1 ["pot", "size"] (spDraw K)) : Def P w K mg base "_law_moved" 2 ["pot", "moment"] (spMoved K) := by
  refine mk_def T sc_law_moved (by rintro _ _ _ _ ⟨_, _, _, _, rfl, _⟩; rfl) fun f cdv A outer s H vs Q E hr h => ?_
  obtain ⟨p, v, n, m, rfl, pt, hm, hn, hn4, q⟩ := h
  obtain ⟨a, rfl, ha⟩ := hm.trk
  refine ⟨_, (pss_one (ps_ret (pe_callTy call_tuple_of (by rfl) B.m_tuple (by decide +kernel) (pa_cons (pe_lc (own := [("one", 2)]) (g := (gName 2)) (tt := tYes) (te := (tCB yMax (tCons (tC (.int 0)) (tCons (tOp ySub (tOp yAdd (tVar 2) (tCall (spDraw K) [] E0 (tCons (tVar 0) (tCons (tC (.int 3)) tNil)))) (tC (.int 1))) tNil)))) rfl sc_law_moved.nd (pi_tup (pv 1)) (blkOk_by (own := [("one", 2)]) (N := N_law_moved) (sc := defScope s_law_moved) (by decide +kernel)) (fun _ _ _ _ _ => (pg_name (i := 2) sc_law_moved.nd rfl (Or.inl rfl))) (fun _ _ _ _ _ => pts_nil) (fun _ _ _ _ _ => (pe_callB (call_max2 rfl) (by rfl) B.m_max (by decide +kernel) (pa_cons pe_int (pa_cons (pe_op op_sub (pe_op op_add (pv 2) (pe_def D_law_draw (hr.mono (by first | decide | omega)) (by rfl) (pa_cons (pv 0) (pa_cons pe_int pa_nil)))) pe_int) pa_nil))))) pa_nil)))), ?_⟩
  refine ⟨.ref a, rfl, a, rfl, ⟨_, SqT.of ha⟩, fun D hD => ?_⟩
  have npD := pt.ne hD
  have npa : a ≠ p := fun z => by
    obtain ⟨x, y, z', e, _⟩ := pt
    rw [z, e] at ha
    cases ha
  refine lc_it (walk_tup (K := K) (a := a) (xs := m.map V.int)) (fun i H' => SameB p H H' ∧ PotAt H' p ∧ ∃ ns : List Int, H' D = some (.lst (ns.map V.int)) ∧ ns.length = i ∧ ∀ c ∈ ns, 0 ≤ c)
    ⟨Same.b (same_upd hD), pt.upd npD, [], upd_same, rfl, fun c hc => by simp at hc⟩ (fun i H' _ pv => SqT.of (pv.1 _ _ npa ha)) (fun i x H' H'' hi pv' y => ?_) (fun H3 pv' => ?_)
  · obtain ⟨rfl, hx⟩ := y
    obtain ⟨c, hc, rfl⟩ := int_at hx
    obtain ⟨e1, pt3, ns, eb, hl, hb⟩ := pv'
    refine ⟨rfl, .int c, rfl, .ref p, rfl, p, 3, rfl, pt3, by decide, by decide, fun H5 r' s5 pt5 r0' r1' => ⟨_, _, rfl, rfl, _, _, rfl, rfl, _, _, rfl, ?_⟩⟩
    have eb5 := s5 _ _ npD.symm eb
    refine ⟨_, eb5, ?_, (e1.trans s5).mut hD, pt5.upd npD, ns ++ [if c + r' - 1 > 0 then c + r' - 1 else 0], ?_, by simp [hl], fun c hc => ?_⟩
    · rw [List.length_map, hl]
      have hi' : i < m.length := by simpa using hi
      exact Nat.lt_of_lt_of_le hi' (Nat.le_trans (show m.length ≤ 4 by rw [hn.1]; exact hn4) (by decide))
    · rw [upd_same, List.map_append]
      rfl
    · rcases List.mem_append.mp hc with h' | h'
      · exact hb c h'
      · rw [List.mem_singleton.mp h']
        split <;> omega
  · obtain ⟨e3, pt3, ns, eb, hl, hb⟩ := pv'
    refine ⟨D, _, rfl, .inl ⟨SqL.of eb, fun t ht => ?_⟩⟩
    exact q _ _ ns (e3.trans (Same.b (same_upd ht))) (pt3.upd (pt3.ne ht)) (Mo.of upd_same) ⟨by rw [hl, List.length_map]; exact hn.1, hb⟩
def spPairHolds (K : PySem.W.Frag) : Sp := fun vs H Q _ => ∃ (v u : V) (n : Nat) (a b : List Int), vs = [v, u] ∧ Mo K H v a ∧ Mo K H u b ∧ Nn n a ∧ Nn n b ∧ n ≤ 4 ∧ ∀ H', Same H H' → Q (.bl true) H'
theorem d_law_pair_holds (B : Bt mg) (T : Top K mg "_law_pair_holds" s_law_pair_holds ["one", "other"]) (Dbefore : Def P w K mg base "before" 1 ["first", "second"] (spB K leB)) (Dbefore_second_first : DefK P w K mg base "before" 1 ["first", "second"] ["second", "first"] kwR (spB K leB)) (D_law_before : Def P w K mg base "_law_before" 1 ["one", "other"] (spB K leB))
    (Djoin_of_second_first : DefK P w K mg base "join_of" 1 ["first", "second"] ["second", "first"] kwR (spM K joinL)) (Dmeet_of_second_first : DefK P w K mg base "meet_of" 1 ["first", "second"] ["second", "first"] kwR (spM K meetL)) (D_law_is_moment : Def P w K mg base "_law_is_moment" 2 ["told", "span"] (spIsMoment K)) : Def P w K mg base "_law_pair_holds" 3 ["one", "other"] (spPairHolds K) := by
  refine mk_def T sc_law_pair_holds (by rintro _ _ _ _ ⟨_, _, _, _, _, rfl, _⟩; rfl) fun f cdv A outer s H vs Q E hr h => ?_
  obtain ⟨v, u, n, a, b, rfl, ha, hb, na, nb, hn, q⟩ := h
  refine ⟨_, (pss_cons (ps_set (i := 2) sc_law_pair_holds.nd rfl (Or.inl rfl) (pe_def Dbefore (hr.mono (by first | decide | omega)) (by rfl) (pa_cons (pv 0) (pa_cons (pv 1) pa_nil))))
      (pss_cons (ps_set (i := 3) sc_law_pair_holds.nd rfl (Or.inl rfl) (pe_defK0 Dbefore_second_first (hr.mono (by first | decide | omega)) (by rfl) (pk_cons (pv 0) (pk_cons (pv 1) pk_nil))))
      (pss_cons (ps_if (pw_or (pt_not (pt_val (pe_callB call_isi (by rfl) B.m_isinstance (by decide +kernel) (pa_cons (pv 2) (pa_cons (pe_bltn (v := .ty "bool") (by rfl) B.m_bool (by decide +kernel) rfl) pa_nil))))) (pw_or1 (pt_cmpR op_ne (pv 2) (pe_def D_law_before (hr.mono (by first | decide | omega)) (by rfl) (pa_cons (pv 0) (pa_cons (pv 1) pa_nil))) (nomark _)))).pt (pss_one (ps_ret pe_bl)) pss_nil)
      (pss_cons (ps_if (pw_or (pt_not (pt_val (pe_callB call_isi (by rfl) B.m_isinstance (by decide +kernel) (pa_cons (pv 3) (pa_cons (pe_bltn (v := .ty "bool") (by rfl) B.m_bool (by decide +kernel) rfl) pa_nil))))) (pw_or1 (pt_cmpR op_ne (pv 3) (pe_def D_law_before (hr.mono (by first | decide | omega)) (by rfl) (pa_cons (pv 1) (pa_cons (pv 0) pa_nil))) (nomark _)))).pt (pss_one (ps_ret pe_bl)) pss_nil)
      (pss_cons (ps_set (i := 4) sc_law_pair_holds.nd rfl (Or.inl rfl) (pe_defK0 Djoin_of_second_first (hr.mono (by first | decide | omega)) (by rfl) (pk_cons (pv 1) (pk_cons (pv 0) pk_nil))))
      (pss_cons (ps_set (i := 5) sc_law_pair_holds.nd rfl (Or.inl rfl) (pe_defK0 Dmeet_of_second_first (hr.mono (by first | decide | omega)) (by rfl) (pk_cons (pv 1) (pk_cons (pv 0) pk_nil))))
      (pss_cons (ps_if (pw_or (pt_not (pt_val (pe_def D_law_is_moment (hr.mono (by first | decide | omega)) (by rfl) (pa_cons (pv 4) (pa_cons (pe_callB call_len_seq (by rfl) B.m_len PySem.boot_len (pa_cons (pv 0) pa_nil)) pa_nil))))) (pw_or1 (pt_not (pt_val (pe_def D_law_is_moment (hr.mono (by first | decide | omega)) (by rfl) (pa_cons (pv 5) (pa_cons (pe_callB call_len_seq (by rfl) B.m_len PySem.boot_len (pa_cons (pv 0) pa_nil)) pa_nil))))))).pt (pss_one (ps_ret pe_bl)) pss_nil)
      (pss_cons (ps_for PassesOwn.never rfl (pi_range1 (by rfl) B.m_range (pa_cons (pe_callB call_len_seq (by rfl) B.m_len PySem.boot_len (pa_cons (pv 0) pa_nil)) pa_nil)) (pg_name (i := 6) sc_law_pair_holds.nd rfl (Or.inl rfl)) (pss_one (ps_if (pw_or (pt_cmpR op_ne (pe_ix ix_tup (pv 4) (pv 6) (fun _ _ => rfl)) (pe_callB (call_max2 rfl) (by rfl) B.m_max (by decide +kernel) (pa_cons (pe_ix ix_tup (pv 0) (pv 6) (fun _ _ => rfl)) (pa_cons (pe_ix ix_tup (pv 1) (pv 6) (fun _ _ => rfl)) pa_nil))) (nomark _)) (pw_or1 (pt_cmpR op_ne (pe_ix ix_tup (pv 5) (pv 6) (fun _ _ => rfl)) (pe_callB (call_min2 rfl) (by rfl) B.m_min (by decide +kernel) (pa_cons (pe_ix ix_tup (pv 0) (pv 6) (fun _ _ => rfl)) (pa_cons (pe_ix ix_tup (pv 1) (pv 6) (fun _ _ => rfl)) pa_nil))) (nomark _)))).pt (pss_one (ps_ret pe_bl)) pss_nil)))
      (pss_one (ps_ret pe_bl)))))))))), ?_⟩
  obtain ⟨p1, rfl, h1⟩ := ha.inv
  obtain ⟨p2, rfl, h2⟩ := hb.inv
  have el : a.length = b.length := by rw [na.1, nb.1]
  have l1 : a.length ≤ 1000 := by rw [na.1]; omega
  have l2 : b.length ≤ 1000 := by rw [nb.1]; omega
  refine ⟨.ref p1, rfl, .ref p2, rfl, p1, p2, a, b, rfl, h1, h2, el, l1, fun H1 s1 => ?_⟩
  refine ⟨.ref p1, rfl, .ref p2, rfl, p2, p1, b, a, rfl, s1.seqT h2, s1.seqT h1, el.symm, l2, fun H2 s2 => ?_⟩
  have s12 := s1.trans s2
  refine ⟨_, rfl, _, _, .type "bool", .type "bool", true, rfl, .ty _, .base (.bl _), kit_ty (by decide +kernel), _, rfl, iteF ⟨_, rfl, .ref p1, rfl, .ref p2, rfl, p1, p2, a, b, rfl, s12.seqT h1, s12.seqT h2, el, l1, fun H3 s3 => ⟨rfl, _, rfl, iteNS rfl ?_⟩⟩⟩
  have s13 := s12.trans s3
  refine ⟨_, rfl, _, _, .type "bool", .type "bool", true, rfl, .ty _, .base (.bl _), kit_ty (by decide +kernel), _, rfl, iteF ⟨_, rfl, .ref p2, rfl, .ref p1, rfl, p2, p1, b, a, rfl, s13.seqT h2, s13.seqT h1, el.symm, l2, fun H4 s4 => ⟨rfl, _, rfl, iteNS rfl ?_⟩⟩⟩
  have s14 := s13.trans s4
  refine ⟨.ref p2, rfl, .ref p1, rfl, p1, p2, a, b, rfl, s14.seqT h1, s14.seqT h2, el, l1, fun H5 j s5 nj ej => ?_⟩
  have s15 := s14.trans s5
  refine ⟨.ref p2, rfl, .ref p1, rfl, p1, p2, a, b, rfl, s15.seqT h1, s15.seqT h2, el, l1, fun H6 k s6 nk ek => ?_⟩
  have s16 := s15.trans s6
  have ej6 := s6 _ _ ej
  have nJ : Nn n (joinL a b) := zip_nn (fun x y hx hy => by omega) na nb
  have nM : Nn n (meetL a b) := zip_nn (fun x y hx hy => by omega) na nb
  have lJ : (joinL a b).length = a.length := joinL_len el
  have lM : (meetL a b).length = a.length := meetL_len el
  refine ⟨.ref j, rfl, .ref p1, rfl, p1, _, rfl, .inr (s16.seqT h1), .ref j, joinL a b, by rw [lJ, List.length_map]; rfl, Mo.of ej6, nJ.2, by rw [lJ]; exact l1, fun H7 s7 => ⟨true, rfl, iteF ?_⟩⟩
  have s17 := s16.trans s7
  refine ⟨.ref k, rfl, .ref p1, rfl, p1, _, rfl, .inr (s17.seqT h1), .ref k, meetL a b, by rw [lM, List.length_map]; rfl, Mo.of (s7 _ _ ek), nM.2, by rw [lM]; exact l1, fun H8 s8 => ⟨true, rfl, iteF ?_⟩⟩
  have s18 := s17.trans s8
  have ej8 := s8 _ _ (s7 _ _ ej6)
  have ek8 := s8 _ _ (s7 _ _ ek)
  refine ⟨.ref p1, rfl, p1, _, rfl, .inr (s18.seqT h1), ((a.map V.int).length : Nat), rfl, by omega, by simp; omega, ?_⟩
  refine for_range (lo := 0) (n := (((a.map V.int).length : Nat) : Int).toNat) (fun i σ H' => ∃ y2 y3 y6, σ = [some (.ref p1), some (.ref p2), y2, y3, some (.ref j), some (.ref k), y6] ∧ Same H8 H') ⟨_, _, _, rfl, Same.refl _⟩ (fun i σ H' hi pv' => ?_) (fun σ H' pv' => ?_)
  · obtain ⟨y2, y3, y6, rfl, e⟩ := pv'
    have hia : i < a.length := by simp at hi; omega
    have hib : i < b.length := by omega
    have ga : (a.map V.int)[i]? = some (.int a[i]) := by simp [hia]
    have gb : (b.map V.int)[i]? = some (.int b[i]) := by simp [hib]
    have gj : ((joinL a b).map V.int)[i]? = some (.int (if b[i] > a[i] then b[i] else a[i])) := by simp only [joinL, List.getElem?_map, List.getElem?_zipWith, List.getElem?_eq_getElem hia, List.getElem?_eq_getElem hib]; rfl
    have gm : ((meetL a b).map V.int)[i]? = some (.int (if b[i] < a[i] then b[i] else a[i])) := by simp only [meetL, List.getElem?_map, List.getElem?_zipWith, List.getElem?_eq_getElem hia, List.getElem?_eq_getElem hib]; rfl
    refine ⟨.ref j, rfl, .int (0 + (i : Nat)), rfl, j, _, 0 + (i : Nat), _, rfl, rfl, SqT.of (e _ _ ej8), at_of (j := i) (by omega) gj, ?_⟩
    refine ⟨.ref p1, rfl, .int (0 + (i : Nat)), rfl, p1, _, 0 + (i : Nat), _, rfl, rfl, e.seqT (s18.seqT h1), at_of (j := i) (by omega) ga, .ref p2, rfl, .int (0 + (i : Nat)), rfl, p2, _, 0 + (i : Nat), _, rfl, rfl, e.seqT (s18.seqT h2), at_of (j := i) (by omega) gb, _, _, rfl, rfl, _, rfl, iteNS rfl ?_⟩
    refine ⟨.ref k, rfl, .int (0 + (i : Nat)), rfl, k, _, 0 + (i : Nat), _, rfl, rfl, SqT.of (e _ _ ek8), at_of (j := i) (by omega) gm, ?_⟩
    refine ⟨.ref p1, rfl, .int (0 + (i : Nat)), rfl, p1, _, 0 + (i : Nat), _, rfl, rfl, e.seqT (s18.seqT h1), at_of (j := i) (by omega) ga, .ref p2, rfl, .int (0 + (i : Nat)), rfl, p2, _, 0 + (i : Nat), _, rfl, rfl, e.seqT (s18.seqT h2), at_of (j := i) (by omega) gb, _, _, rfl, rfl, _, rfl, iteNS rfl ?_⟩
    exact ⟨_, _, _, rfl, e⟩
  · obtain ⟨y2, y3, y6, rfl, e⟩ := pv'
    exact q H' (s18.trans e)
def spPairs (K : PySem.W.Frag) : Sp := fun vs H Q _ => ∃ (o : Addr) (lv : List V) (n : Nat) (ms : List (List Int)), vs = [.ref o] ∧ H o = some (.lst lv) ∧ DaAll K H lv (ms.map mo) ∧ (∀ m ∈ ms, Nn n m) ∧ n ≤ 4 ∧ ∀ H', Same H H' → Q (.bl true) H'
theorem d_law_pairs_hold (B : Bt mg) (T : Top K mg "_law_pairs_hold" s_law_pairs_hold ["some"]) (D_law_pair_holds : Def P w K mg base "_law_pair_holds" 3 ["one", "other"] (spPairHolds K)) : Def P w K mg base "_law_pairs_hold" 4 ["some"] (spPairs K) := by
  refine mk_def T sc_law_pairs_hold (by rintro _ _ _ _ ⟨_, _, _, _, rfl, _⟩; rfl) fun f cdv A outer s H vs Q E hr h => ?_
  obtain ⟨o, lv, n, ms, rfl, ho, hd, hn, hn4, q⟩ := h
  refine ⟨_, (pss_cons (ps_for PassesOwn.never rfl (pi_list (pv 0)) (pg_name (i := 1) sc_law_pairs_hold.nd rfl (Or.inl rfl)) (pss_one (ps_for PassesOwn.never rfl (pi_list (pv 0)) (pg_name (i := 2) sc_law_pairs_hold.nd rfl (Or.inl rfl)) (pss_one (ps_if (pt_not (pt_val (pe_def D_law_pair_holds (hr.mono (by first | decide | omega)) (by rfl) (pa_cons (pv 1) (pa_cons (pv 2) pa_nil))))) (pss_one (ps_ret pe_bl)) pss_nil)))))
      (pss_one (ps_ret pe_bl))), ?_⟩
  refine ⟨.ref o, rfl, o, rfl, ⟨_, SqL.of ho⟩, ?_⟩
  refine for_list (xs := lv) (fun i σ H' => ∃ y1 y2, σ = [some (.ref o), y1, y2] ∧ Same H H') ⟨_, _, rfl, Same.refl _⟩ (fun i σ H' _ pv' => ?_) (fun i x σ H' hx pv' => ?_) (fun σ H' pv' => ?_)
  · obtain ⟨_, _, rfl, e⟩ := pv'
    exact SqL.of (e _ _ ho)
  · obtain ⟨y1, y2, rfl, e⟩ := pv'
    obtain ⟨d, hd1, hd2⟩ := hd.get hx
    obtain ⟨m, hm, rfl⟩ := mo_at hd1
    refine ⟨.ref o, rfl, o, rfl, ⟨_, SqL.of (e _ _ ho)⟩, ?_⟩
    refine for_list (xs := lv) (fun i σ H' => ∃ y2, σ = [some (.ref o), some x, y2] ∧ Same H H') ⟨_, rfl, e⟩ (fun i σ H' _ pv' => ?_) (fun i z σ H' hz pv' => ?_) (fun σ H' pv' => ?_)
    · obtain ⟨_, rfl, e⟩ := pv'
      exact SqL.of (e _ _ ho)
    · obtain ⟨y2, rfl, e⟩ := pv'
      obtain ⟨d2, hd3, hd4⟩ := hd.get hz
      obtain ⟨m2, hm2, rfl⟩ := mo_at hd3
      exact ⟨x, rfl, z, rfl, x, z, n, m, m2, rfl, Mo.same hd2 e, Mo.same hd4 e, hn m (List.mem_of_getElem? hm), hn m2 (List.mem_of_getElem? hm2), hn4, fun H3 s3 => ⟨true, rfl, iteF ⟨_, rfl, e.trans s3⟩⟩⟩
    · obtain ⟨y2, rfl, e⟩ := pv'
      exact ⟨_, _, rfl, e⟩
  · obtain ⟨_, _, rfl, e⟩ := pv'
    exact q H' e
end
end K0

namespace K0
open PySem PySem.Spec PyProof.Rows L2 NSet
/-- a tuple -/
def TupV (H : Hp) (v : V) (xs : List V) : Prop := ∃ a, v = .ref a ∧ H a = some (.tup xs)
theorem TupV.same {H H' : Hp} {v : V} {xs : List V} (h : TupV H v xs) (s : Same H H') : TupV H' v xs := by
  obtain ⟨a, rfl, e⟩ := h
  exact ⟨a, rfl, s _ _ e⟩
theorem slV {K : PySem.W.Frag} {H : Hp} {x : V} {xs : List V} {lo hi : Option Int} {Q : VK} (h : TupV H x xs) (k : ∀ v H', Same H H' → TupV H' v (cutV xs lo hi) → Q v H') : rSlA K x lo hi H Q := by
  obtain ⟨a, rfl, ha⟩ := h
  refine ⟨a, _, rfl, SqT.of ha, fun e => ?_, fun _ p hp => ?_⟩
  · refine k _ H (Same.refl _) ⟨a, rfl, ?_⟩
    have : cutV xs lo hi = xs := by
      unfold cutV
      rw [e.1, e.2]
      simp
    rw [this]
    exact ha
  · exact k _ _ (same_upd hp) ⟨p, rfl, upd_same⟩
theorem catV {K : PySem.W.Frag} {H : Hp} {x y : V} {a b : List V} {Q : VK} (hx : TupV H x a) (hy : TupV H y b) (hl : a.length + b.length ≤ 1000) (k : ∀ v H', Same H H' → TupV H' v (a ++ b) → Q v H') : rCatA K x y H Q := by
  obtain ⟨p, rfl, hp⟩ := hx
  obtain ⟨q, rfl, hq⟩ := hy
  refine ⟨p, q, _, _, rfl, rfl, SqT.of hp, SqT.of hq, sz1000 (by omega), fun e => ?_, fun _ e => ?_, fun _ _ c hc => ?_⟩
  · subst e
    exact k _ _ (Same.refl _) ⟨q, rfl, hq⟩
  · subst e
    refine k _ _ (Same.refl _) ⟨p, rfl, ?_⟩
    rw [List.append_nil]
    exact hp
  · exact k _ _ (same_upd hc) ⟨c, rfl, upd_same⟩
/-- all but the list o stays; it stays a list -/
structure Mut (o : Addr) (H H' : Hp) : Prop where
  st : SameB o H H'
  a : ∃ lv, H o = some (.lst lv)
  b : ∃ lv, H' o = some (.lst lv)
theorem Mut.same {o : Addr} {H H' : Hp} {lv : List V} (e : H o = some (.lst lv)) (s : Same H H') : Mut o H H' := ⟨Same.b s, ⟨lv, e⟩, ⟨lv, s _ _ e⟩⟩
theorem Mut.trans {o : Addr} {H H1 H2 : Hp} (m : Mut o H H1) (n : Mut o H1 H2) : Mut o H H2 := ⟨m.st.trans n.st, m.a, n.b⟩
theorem Mut.upd {o : Addr} {H : Hp} {lv lw : List V} (e : H o = some (.lst lv)) : Mut o H (L2.upd H o (.lst lw)) := ⟨fun a u n h => by rw [upd_ne n]; exact h, ⟨lv, e⟩, ⟨lw, upd_same⟩⟩
theorem Odd.mut {o : Addr} {H H' : Hp} {v : V} {n : String} (h : Odd H v n) (m : Mut o H H') : Odd H' v n := by
  obtain ⟨lw, ew⟩ := m.a
  obtain ⟨lv, ev⟩ := m.b
  cases h with
  | non => exact .non
  | bl b => exact .bl b
  | str x => exact .str x
  | @tup a xs e => exact .tup (m.st _ _ (fun z => by rw [z, ew] at e; cases e) e)
  | @lst a xs e =>
    by_cases z : a = o
    · rw [z]; exact .lst ev
    · exact .lst (m.st _ _ z e)
  | @dT a kvs e => exact .dT (m.st _ _ (fun z => by rw [z, ew] at e; cases e) e)
theorem CoV.mut {o : Addr} {H H' : Hp} {v : V} {b : Bool} (h : CoV H v b) (m : Mut o H H') : CoV H' v b := h.imp id fun ⟨h, n, o⟩ => ⟨h, n, o.mut m⟩
theorem MoV.mut {o : Addr} {H H' : Hp} {v : V} {n : Nat} {b : Bool} (h : MoV H v n b) (m : Mut o H H') : MoV H' v n b := by
  obtain ⟨lw, ew⟩ := m.a
  rcases h with ⟨h, o⟩ | ⟨a, xs, rfl, e, l, c⟩
  · exact .inl ⟨h, o.imp id fun ⟨k, o, ne⟩ => ⟨k, o.mut m, ne⟩⟩
  · exact .inr ⟨a, xs, rfl, m.st _ _ (fun z => by rw [z, ew] at e; cases e) e, l, c.imp id fun ⟨z, bs, p, q⟩ => ⟨z, bs, Paired.imp (fun _ _ r => CoV.mut r m) p, q⟩⟩
theorem TupV.mut {o : Addr} {H H' : Hp} {v : V} {xs : List V} (h : TupV H v xs) (m : Mut o H H') : TupV H' v xs := by
  obtain ⟨a, rfl, e⟩ := h
  obtain ⟨lw, ew⟩ := m.a
  exact ⟨a, rfl, m.st _ _ (fun z => by rw [z, ew] at e; cases e) e⟩
theorem MoV.int {H : Hp} {i : Int} {n : Nat} : MoV H (.int i) n false := .inl ⟨rfl, .inl ⟨i, rfl⟩⟩
theorem MoV.odd {H : Hp} {v : V} {k : String} {n : Nat} (h : Odd H v k) (ne : k ≠ "tuple") : MoV H v n false := .inl ⟨rfl, .inr ⟨k, h, ne⟩⟩
theorem MoV.len {H : Hp} {v : V} {xs : List V} {n : Nat} (h : TupV H v xs) (ne : xs.length ≠ n) (l : xs.length ≤ 1000) : MoV H v n false := by
  obtain ⟨a, rfl, e⟩ := h
  exact .inr ⟨a, xs, rfl, e, l, .inl ⟨ne, rfl⟩⟩
theorem co_ints {H : Hp} : ∀ m : List Int, (∀ c ∈ m, 0 ≤ c) → Paired (CoV H) (m.map V.int) (m.map fun _ => true)
  | [], _ => .nil
  | c :: m, h => .cons (.inl ⟨c, rfl, (decide_eq_true (h c List.mem_cons_self)).symm⟩) (co_ints m fun d hd => h d (List.mem_cons_of_mem _ hd))
theorem Paired.app {α β : Type} {R : α → β → Prop} : ∀ {xs : List α} {ys : List β} {us : List α} {vs : List β}, Paired R xs ys → Paired R us vs → Paired R (xs ++ us) (ys ++ vs)
  | _, _, _, _, .nil, h => h
  | _, _, _, _, .cons r t, h => .cons r (Paired.app t h)
/-- a bad item among the coordinates -/
theorem MoV.bad {H : Hp} {v x : V} {a b : List Int} {n : Nat} (h : TupV H v ((a.map V.int ++ [x]) ++ b.map V.int)) (hx : CoV H x false) (ha : ∀ c ∈ a, 0 ≤ c) (hb : ∀ c ∈ b, 0 ≤ c) (l : a.length + 1 + b.length = n) (hn : n ≤ 1000) : MoV H v n false := by
  obtain ⟨p, rfl, e⟩ := h
  refine .inr ⟨p, _, rfl, e, by simp; omega, .inr ⟨by simp; omega, _, Paired.app (Paired.app (co_ints a ha) (.cons hx .nil)) (co_ints b hb), ?_⟩⟩
  simp
section
variable {P : Program} {w : World} {K : PySem.W.Frag} {mg : Str → Option Value} {base : Heap}
def spOdd (K : PySem.W.Frag) : Sp := fun vs H Q _ => ∃ (v : V) (n : Nat) (m : List Int) (place : Nat), vs = [v, .int (place : Nat)] ∧ Mo K H v m ∧ Nn n m ∧ n ≤ 4 ∧ place < n ∧
  ∀ H' o lv, Same H H' → H' o = some (.lst lv) → (∀ x ∈ lv, MoV H' x n false) → Q (.ref o) H'
theorem d_law_odd_values (B : Bt mg) (T : Top K mg "_law_odd_values" s_law_odd_values ["moment", "place"]) : Def P w K mg base "_law_odd_values" 1 ["moment", "place"] (spOdd K) := by
  refine mk_def T sc_law_odd_values (by rintro _ _ _ _ ⟨_, _, _, _, rfl, _⟩; rfl) fun f cdv A outer s H vs Q E hr h => ?_
  obtain ⟨v, n, m, place, rfl, hm, nm, hn, hp, q⟩ := h
  refine ⟨_, (pss_cons (ps_set (i := 2) sc_law_odd_values.nd rfl (Or.inl rfl) (pe_lst (pa_cons pe_non (pa_cons pe_bl (pa_cons pe_int (pa_cons (pe_ix ix_tup (pv 0) (pv 1) (fun _ _ => rfl)) (pa_cons pe_str (pa_cons pe_str (pa_cons (pe_op NSet.op_mulS pe_str (pe_callB call_len_seq (by rfl) B.m_len PySem.boot_len (pa_cons (pv 0) pa_nil))) (pa_cons (pe_lst pa_nil) (pa_cons (pe_dnewT) (pa_cons (pe_tup pa_nil) (pa_cons (pe_callTy call_list_of (by rfl) B.m_list (by decide +kernel) (pa_cons (pv 0) pa_nil)) pa_nil)))))))))))))
      (pss_cons (ps_expr (pe_bm PySem.F.plainAttrs_list PySem.F.slot_list_extend PySem.F.type_list_extend mt_extend (pv 2) (pa_cons (pe_lst (pa_cons (pe_op op_catA (pv 0) (pe_tup (pa_cons pe_int pa_nil))) (pa_cons (pe_op op_catA (pe_tup (pa_cons pe_int pa_nil)) (pv 0)) (pa_cons (pe_slice sl_tupA (pv 0) (po_some pe_int) po_none) (pa_cons (pe_slice sl_tupA (pv 0) po_none (po_some (pe_un un_neg pe_int))) (pa_cons (pe_tup (pa_cons (pv 0) pa_nil)) pa_nil)))))) pa_nil)))
      (pss_cons (ps_for PassesOwn.never rfl (pi_list (pe_lst (pa_cons pe_non (pa_cons pe_bl (pa_cons pe_bl (pa_cons (pe_un un_neg pe_int) (pa_cons (pe_op op_sub (pe_un un_neg pe_int) (pe_ix ix_tup (pv 0) (pv 1) (fun _ _ => rfl))) (pa_cons pe_str (pa_cons pe_str (pa_cons (pe_tup pa_nil) (pa_cons (pe_tup (pa_cons pe_int pa_nil)) (pa_cons (pe_lst (pa_cons pe_int pa_nil)) pa_nil)))))))))))) (pg_name (i := 3) sc_law_odd_values.nd rfl (Or.inl rfl)) (pss_one (ps_expr (pe_bm PySem.F.plainAttrs_list PySem.F.slot_list_append PySem.F.type_list_append mt_append (pv 2) (pa_cons (pe_op op_catA (pe_op op_catA (pe_slice sl_tupA (pv 0) po_none (po_some (pv 1))) (pe_tup (pa_cons (pv 3) pa_nil))) (pe_slice sl_tupA (pv 0) (po_some (pe_op op_add (pv 1) pe_int)) po_none)) pa_nil)))))
      (pss_one (ps_ret (pv 2)))))), ?_⟩
  obtain ⟨a, rfl, ha⟩ := hm.trk
  have lm : m.length = n := nm.1
  have gp : (m.map V.int)[place]? = some (.int (m[place]'(by omega))) := by simp [show place < m.length by omega]
  refine ⟨.ref a, rfl, .int (place : Nat), rfl, a, _, (place : Nat), _, rfl, rfl, SqT.of ha, atI_nat gp, ?_⟩
  refine ⟨.ref a, rfl, a, _, rfl, .inr (SqT.of ha), _, _, rfl, rfl, by simp; omega, by simp; omega, by decide, fun t1 => ?_⟩
  refine ⟨by show 0 ≤ sizeLine; decide, fun l1 h1 d1 hd1 => ⟨by show 0 ≤ sizeLine; decide, fun e1 he1 => ?_⟩⟩
  have s1 := same_upd (o := .lst []) h1
  have f1 : L2.upd H l1 (.lst []) l1 = some (.lst []) := upd_same
  generalize L2.upd H l1 (.lst []) = H1 at s1 f1 hd1 he1 ⊢
  have s2 := same_upd (o := .dT []) hd1
  have f2 : L2.upd H1 d1 (.dT []) d1 = some (.dT []) := upd_same
  generalize L2.upd H1 d1 (.dT []) = H2 at s2 f2 he1 ⊢
  have s3 := same_upd (o := .tup []) he1
  have f3 : L2.upd H2 e1 (.tup []) e1 = some (.tup []) := upd_same
  generalize L2.upd H2 e1 (.tup []) = H3 at s3 f3 ⊢
  have s13 := (s1.trans s2).trans s3
  refine ⟨.ref a, rfl, a, _, rfl, .inr (SqT.of (s13 _ _ ha)), fun l2 h2 => ?_⟩
  have s4 := same_upd (o := .lst (m.map V.int)) h2
  have f4 : L2.upd H3 l2 (.lst (m.map V.int)) l2 = some (.lst (m.map V.int)) := upd_same
  generalize L2.upd H3 l2 (.lst (m.map V.int)) = H4 at s4 f4 ⊢
  refine ⟨by show 11 ≤ sizeLine; decide, fun o ho => ?_⟩
  have s04 := s13.trans s4
  have e0 : MoV H4 (.ref e1) n false := MoV.len (xs := []) ⟨e1, rfl, s4 _ _ f3⟩ (show 0 ≠ n by omega) (Nat.zero_le _)
  have m5 : ∀ x ∈ [V.non, .bl true, .int 0, .int (m[place]'(by omega)), .str (Str.ofString ""), .str (Str.ofString "0"), .str t1, .ref l1, .ref d1, .ref e1, .ref l2], MoV (L2.upd H4 o (.lst [V.non, .bl true, .int 0, .int (m[place]'(by omega)), .str (Str.ofString ""), .str (Str.ofString "0"), .str t1, .ref l1, .ref d1, .ref e1, .ref l2])) x n false := by
    intro x hx
    refine MoV.same ?_ (same_upd ho)
    simp only [List.mem_cons, List.not_mem_nil, or_false] at hx
    rcases hx with rfl | rfl | rfl | rfl | rfl | rfl | rfl | rfl | rfl | rfl | rfl
    · exact .odd .non (by decide)
    · exact .odd (.bl _) (by decide)
    · exact .int
    · exact .int
    · exact .odd (.str _) (by decide)
    · exact .odd (.str _) (by decide)
    · exact .odd (.str _) (by decide)
    · exact .odd (.lst (((s2.trans s3).trans s4) _ _ f1)) (by decide)
    · exact .odd (.dT ((s3.trans s4) _ _ f2)) (by decide)
    · exact e0
    · exact .odd (.lst f4) (by decide)
  have s5 := same_upd (o := .lst [V.non, .bl true, .int 0, .int (m[place]'(by omega)), .str (Str.ofString ""), .str (Str.ofString "0"), .str t1, .ref l1, .ref d1, .ref e1, .ref l2]) ho
  have f5 : L2.upd H4 o (.lst [V.non, .bl true, .int 0, .int (m[place]'(by omega)), .str (Str.ofString ""), .str (Str.ofString "0"), .str t1, .ref l1, .ref d1, .ref e1, .ref l2]) o = some (.lst [V.non, .bl true, .int 0, .int (m[place]'(by omega)), .str (Str.ofString ""), .str (Str.ofString "0"), .str t1, .ref l1, .ref d1, .ref e1, .ref l2]) := upd_same
  have s05 := s04.trans s5
  have no : H o = none := s04.new ho
  generalize hL0 : [V.non, .bl true, .int 0, .int (m[place]'(by omega)), .str (Str.ofString ""), .str (Str.ofString "0"), .str t1, .ref l1, .ref d1, .ref e1, .ref l2] = L0 at m5 s5 f5 s05
  have lL0 : L0.length = 11 := by rw [← hL0]; rfl
  generalize L2.upd H4 o (.lst L0) = H5 at m5 s5 f5 s05 ⊢
  have tm : TupV H5 (.ref a) (m.map V.int) := ⟨a, rfl, s05 _ _ ha⟩
  have g6 : m.map V.int ≠ [] := by
    intro z
    have := congrArg List.length z
    rw [List.length_map] at this
    simp only [List.length_nil] at this
    omega
  have lv : (m.map V.int).length = n := by rw [List.length_map]; exact lm
  -- the second five
  refine ⟨.ref o, rfl, .inl ⟨rfl, _, SqL.of f5⟩, .ref a, rfl, by show 1 ≤ sizeLine; decide, fun t6 ht6 => ?_⟩
  have u6 := same_upd (o := .tup [.int 0]) ht6
  refine catV (tm.same u6) ⟨t6, rfl, upd_same⟩ (by rw [lv]; simp; omega) fun v1 H6 s6 hv1 => ?_
  have r6 := u6.trans s6
  refine ⟨by show 1 ≤ sizeLine; decide, fun t7 ht7 => ⟨.ref a, rfl, ?_⟩⟩
  have u7 := same_upd (o := .tup [.int 0]) ht7
  refine catV ⟨t7, rfl, upd_same⟩ ((tm.same r6).same u7) (by rw [lv]; simp; omega) fun v2 H7 s7 hv2 => ?_
  have r7 := u7.trans s7
  refine ⟨.ref a, rfl, 1, rfl, ?_⟩
  delta tNoPart
  refine slV ((tm.same r6).same r7) fun v3 H8 s8 hv3 => ?_
  refine ⟨.ref a, rfl, ?_⟩
  refine ⟨1, rfl, -1, rfl, ?_⟩
  refine slV (((tm.same r6).same r7).same s8) fun v4 H9 s9 hv4 => ?_
  refine ⟨.ref a, rfl, by show 1 ≤ sizeLine; decide, fun t8 ht8 => ?_⟩
  have s10 := same_upd (o := .tup [V.ref a]) ht8
  have f10 : L2.upd H9 t8 (.tup [V.ref a]) t8 = some (.tup [V.ref a]) := upd_same
  generalize L2.upd H9 t8 (.tup [V.ref a]) = H10 at s10 f10 ⊢
  refine ⟨by show 5 ≤ sizeLine; decide, fun b hb => ?_⟩
  have s11 := same_upd (o := .lst [v1, v2, v3, v4, .ref t8]) hb
  have f11 : L2.upd H10 b (.lst [v1, v2, v3, v4, .ref t8]) b = some (.lst [v1, v2, v3, v4, .ref t8]) := upd_same
  generalize L2.upd H10 b (.lst [v1, v2, v3, v4, .ref t8]) = H11 at s11 f11 ⊢
  have s9b := s10.trans s11
  have s8b := s9.trans s9b
  have s7b := s8.trans s8b
  have s6b := r7.trans s7b
  have s5b := r6.trans s6b
  have f5b := s5b _ _ f5
  refine ⟨o, b, _, _, rfl, rfl, f5b, f11, by rw [lL0]; show 16 ≤ sizeLine; decide, ?_⟩
  have m12 : ∀ x ∈ L0 ++ [v1, v2, v3, v4, .ref t8], MoV (L2.upd H11 o (.lst (L0 ++ [v1, v2, v3, v4, .ref t8]))) x n false := by
    intro x hx
    refine MoV.mut ?_ (Mut.upd f5b)
    rcases List.mem_append.mp hx with hx | hx
    · exact MoV.same (m5 x hx) s5b
    simp only [List.mem_cons, List.not_mem_nil, or_false] at hx
    rcases hx with rfl | rfl | rfl | rfl | rfl
    · exact MoV.same (MoV.len hv1 (by simp; omega) (by simp; omega)) s6b
    · exact MoV.same (MoV.len hv2 (by simp; omega) (by simp; omega)) s7b
    · refine MoV.same (MoV.len hv3 ?_ ?_) s8b
      · unfold cutV
        rw [List.length_take, List.length_drop, lv]
        rw [HT.sIx_none, show HT.sIx n 0 (some 1) = min 1 n from HT.sIx_nat n 0 1]
        omega
      · exact Nat.le_trans (cutV_length _ _ _) (by rw [lv]; omega)
    · refine MoV.same (MoV.len hv4 ?_ ?_) s9b
      · unfold cutV
        rw [List.length_take, List.length_drop, lv]
        rw [HT.sIx_none, show HT.sIx n n (some (-1)) = ((-1 : Int) + (n : Int)).toNat from rfl]
        omega
      · exact Nat.le_trans (cutV_length _ _ _) (by rw [lv]; omega)
    · refine MoV.same ?_ s11
      by_cases e : n = 1
      · exact MoV.bad (a := []) (b := []) ⟨t8, rfl, f10⟩ (.inr ⟨rfl, _, .tup ((((r6.trans r7).trans (s8.trans s9)).trans s10) _ _ (s05 _ _ ha))⟩) (fun c hc => nomatch hc) (fun c hc => nomatch hc) (by simp [e]) (by omega)
      · exact MoV.len (xs := [.ref a]) ⟨t8, rfl, f10⟩ (show 1 ≠ n by omega) (by show 1 ≤ 1000; decide)
  have b12 : Mut o H5 (L2.upd H11 o (.lst (L0 ++ [v1, v2, v3, v4, .ref t8]))) := (Mut.same f5 s5b).trans (Mut.upd f5b)
  have f12 : L2.upd H11 o (.lst (L0 ++ [v1, v2, v3, v4, .ref t8])) o = some (.lst (L0 ++ [v1, v2, v3, v4, .ref t8])) := upd_same
  have l12 : (L0 ++ [v1, v2, v3, v4, .ref t8]).length = 16 := by rw [List.length_append, lL0]; rfl
  generalize L0 ++ [v1, v2, v3, v4, V.ref t8] = L1 at m12 b12 f12 l12 ⊢
  generalize L2.upd H11 o (.lst L1) = H12 at m12 b12 f12 ⊢
  have tm12 := tm.mut b12
  obtain ⟨a', ea', ha12⟩ := id tm12
  cases ea'
  -- the bad items
  refine ⟨1, rfl, 1, rfl, .ref a, rfl, .int (place : Nat), rfl, a, _, (place : Nat), _, rfl, rfl, SqT.of ha12, atI_nat gp, _, _, rfl, rfl, ?_⟩
  refine ⟨by show 0 ≤ sizeLine; decide, fun t13 ht13 => ?_⟩
  have s13' := same_upd (o := .tup []) ht13
  have f13 : L2.upd H12 t13 (.tup []) t13 = some (.tup []) := upd_same
  generalize L2.upd H12 t13 (.tup []) = H13 at s13' f13 ⊢
  refine ⟨by show 1 ≤ sizeLine; decide, fun t14 ht14 => ?_⟩
  have s14 := same_upd (o := .tup [.int 0]) ht14
  have f14 : L2.upd H13 t14 (.tup [.int 0]) t14 = some (.tup [.int 0]) := upd_same
  generalize L2.upd H13 t14 (.tup [.int 0]) = H14 at s14 f14 ⊢
  refine ⟨by show 1 ≤ sizeLine; decide, fun l15 hl15 => ?_⟩
  have s15 := same_upd (o := .lst [.int 0]) hl15
  have f15 : L2.upd H14 l15 (.lst [.int 0]) l15 = some (.lst [.int 0]) := upd_same
  generalize L2.upd H14 l15 (.lst [.int 0]) = H15 at s15 f15 ⊢
  refine ⟨by show 10 ≤ sizeLine; decide, fun l16 hl16 => ?_⟩
  have h0p : 0 ≤ m[place]'(by omega) := nm.2 _ (List.getElem_mem _)
  have bad : ∀ x ∈ [V.non, .bl true, .bl false, .int (-1), .int (-1 - m[place]'(by omega)), .str (Str.ofString "0"), .str (Str.ofString ""), .ref t13, .ref t14, .ref l15], CoV (L2.upd H15 l16 (.lst [V.non, .bl true, .bl false, .int (-1), .int (-1 - m[place]'(by omega)), .str (Str.ofString "0"), .str (Str.ofString ""), .ref t13, .ref t14, .ref l15])) x false := by
    intro x hx
    refine CoV.same ?_ (same_upd hl16)
    simp only [List.mem_cons, List.not_mem_nil, or_false] at hx
    rcases hx with rfl | rfl | rfl | rfl | rfl | rfl | rfl | rfl | rfl | rfl
    · exact .inr ⟨rfl, _, .non⟩
    · exact .inr ⟨rfl, _, .bl _⟩
    · exact .inr ⟨rfl, _, .bl _⟩
    · exact .inl ⟨_, rfl, by decide⟩
    · exact .inl ⟨_, rfl, (decide_eq_false (by omega)).symm⟩
    · exact .inr ⟨rfl, _, .str _⟩
    · exact .inr ⟨rfl, _, .str _⟩
    · exact .inr ⟨rfl, _, .tup ((s14.trans s15) _ _ f13)⟩
    · exact .inr ⟨rfl, _, .tup (s15 _ _ f14)⟩
    · exact .inr ⟨rfl, _, .lst f15⟩
  have s16 := same_upd (o := .lst [V.non, .bl true, .bl false, .int (-1), .int (-1 - m[place]'(by omega)), .str (Str.ofString "0"), .str (Str.ofString ""), .ref t13, .ref t14, .ref l15]) hl16
  have f16 : L2.upd H15 l16 (.lst [V.non, .bl true, .bl false, .int (-1), .int (-1 - m[place]'(by omega)), .str (Str.ofString "0"), .str (Str.ofString ""), .ref t13, .ref t14, .ref l15]) l16 = some (.lst [V.non, .bl true, .bl false, .int (-1), .int (-1 - m[place]'(by omega)), .str (Str.ofString "0"), .str (Str.ofString ""), .ref t13, .ref t14, .ref l15]) := upd_same
  have s1216 := ((s13'.trans s14).trans s15).trans s16
  have no16 : l16 ≠ o := fun z => by
    have := ((s13'.trans s14).trans s15) _ _ f12
    rw [← z, hl16] at this
    cases this
  have b16 : Mut o H12 (L2.upd H15 l16 (.lst [V.non, .bl true, .bl false, .int (-1), .int (-1 - m[place]'(by omega)), .str (Str.ofString "0"), .str (Str.ofString ""), .ref t13, .ref t14, .ref l15])) := Mut.same f12 s1216
  have f12' := s1216 _ _ f12
  have m16 := fun x hx => MoV.same (m12 x hx) s1216
  generalize hB : [V.non, .bl true, .bl false, .int (-1), .int (-1 - m[place]'(by omega)), .str (Str.ofString "0"), .str (Str.ofString ""), .ref t13, .ref t14, .ref l15] = B0 at bad s16 f16 b16 s1216 f12' m16
  have lB : B0.length = 10 := by rw [← hB]; rfl
  generalize L2.upd H15 l16 (.lst B0) = H16 at bad s16 f16 b16 s1216 f12' m16 ⊢
  refine ⟨l16, rfl, ⟨_, SqL.of f16⟩, ?_⟩
  refine for_list (xs := B0) (fun i σ H' => ∃ y3 lw, σ = [some (.ref a), some (.int (place : Nat)), some (.ref o), y3] ∧ Mut o H16 H' ∧ H' o = some (.lst lw) ∧ lw.length = 16 + i ∧ ∀ x ∈ lw, MoV H' x n false)
    ⟨_, _, rfl, Mut.same f12' (Same.refl _), f12', by rw [l12], m16⟩ (fun i σ H' _ pv' => ?_) (fun i x σ H' hx pv' => ?_) (fun σ H' pv' => ?_)
  · obtain ⟨_, _, rfl, e, _⟩ := pv'
    exact SqL.of (e.st _ _ no16 f16)
  · obtain ⟨y3, lw, rfl, e, eo, hl, hall⟩ := pv'
    have hi10 : i < 10 := by
      have := (List.getElem?_eq_some_iff.mp hx).1
      omega
    have tmi := (tm12.mut b16).mut e
    have bx := CoV.mut (bad x (List.mem_of_getElem? hx)) e
    refine ⟨.ref o, rfl, .inl ⟨rfl, _, SqL.of eo⟩, .ref a, rfl, .int (place : Nat), rfl, (place : Nat), rfl, slV tmi fun v1 H17 s17 hv1 => ?_⟩
    refine ⟨x, rfl, by show 1 ≤ sizeLine; decide, fun t ht => ?_⟩
    have s18 := same_upd (o := .tup [x]) ht
    have f18 : L2.upd H17 t (.tup [x]) t = some (.tup [x]) := upd_same
    generalize L2.upd H17 t (.tup [x]) = H18 at s18 f18 ⊢
    have c1 : cutV (m.map V.int) none (some (place : Nat)) = (m.take place).map V.int := by
      unfold cutV
      rw [lv, HT.sIx_none, HT.sIx_nat, List.drop_zero, List.map_take, Nat.min_eq_left (by omega), Nat.sub_zero]
    have c2 : cutV (m.map V.int) (some ((place : Int) + 1)) none = (m.drop (place + 1)).map V.int := by
      unfold cutV
      rw [lv, HT.sIx_none, show ((place : Int) + 1) = ((place + 1 : Nat) : Int) by omega, HT.sIx_nat, Nat.min_eq_left (by omega), List.map_drop, List.take_of_length_le (by rw [List.length_drop, lv]; omega)]
    rw [c1] at hv1
    refine catV (hv1.same s18) ⟨t, rfl, f18⟩ (by simp; omega) fun v2 H19 s19 hv2 => ?_
    have s1619 := (s17.trans s18).trans s19
    refine ⟨.ref a, rfl, .int (place : Nat), rfl, _, _, rfl, rfl, (place : Int) + 1, rfl, ?_⟩
    refine slV (tmi.same s1619) fun v3 H20 s20 hv3 => ?_
    rw [c2] at hv3
    refine catV (hv2.same s20) hv3 (by simp; omega) fun v4 H21 s21 hv4 => ?_
    have sA := (s1619.trans s20).trans s21
    have eo21 := sA _ _ eo
    refine ⟨o, lw, v4, rfl, rfl, eo21, by rw [hl]; exact Nat.lt_of_lt_of_le (show 16 + i < 1000 by omega) (by decide), ?_⟩
    have mu : Mut o H21 (L2.upd H21 o (.lst (lw ++ [v4]))) := Mut.upd eo21
    refine ⟨_, _, rfl, e.trans ((Mut.same eo sA).trans mu), upd_same, by rw [List.length_append, hl]; rfl, fun y hy => ?_⟩
    refine MoV.mut ?_ mu
    rcases List.mem_append.mp hy with hy | hy
    · exact MoV.same (hall y hy) sA
    · rw [List.mem_singleton.mp hy]
      exact MoV.bad hv4 (CoV.same bx sA) (fun c hc => nm.2 c (List.mem_of_mem_take hc)) (fun c hc => nm.2 c (List.mem_of_mem_drop hc)) (by simp; omega) (by omega)
  · obtain ⟨y3, lw, rfl, e, eo, hl, hall⟩ := pv'
    have allM := (b12.trans b16).trans e
    have sF : Same H H' := fun p u hp => by
      have hne : p ≠ o := fun z => by rw [z, no] at hp; cases hp
      exact allM.st _ _ hne (s05 _ _ hp)
    exact ⟨.ref o, rfl, q H' o lw sF eo hall⟩
end
end K0

namespace K0
open PySem PySem.Spec PyProof.Rows L2 NSet
section
variable {P : Program} {w : World} {K : PySem.W.Frag} {mg : Str → Option Value} {base : Heap}
def spKnows (K : PySem.W.Frag) : Sp := fun vs H Q _ => ∃ (v : V) (n : Nat) (m : List Int) (place : Nat), vs = [v, .int (place : Nat)] ∧ Mo K H v m ∧ Nn n m ∧ n ≤ 4 ∧ place < n ∧ ∀ H', Same H H' → Q (.bl true) H'
theorem d_law_knows_moments (B : Bt mg) (T : Top K mg "_law_knows_moments" s_law_knows_moments ["moment", "place"]) (Dis_moment : Def P w K mg base "is_moment" 2 ["value", "axes"] (spIsMo K)) (Dis_moment_axes_value : DefK P w K mg base "is_moment" 2 ["value", "axes"] ["axes", "value"] kwR (spIsMo K))
    (D_law_odd_values : Def P w K mg base "_law_odd_values" 1 ["moment", "place"] (spOdd K)) : Def P w K mg base "_law_knows_moments" 3 ["moment", "place"] (spKnows K) := by
  refine mk_def T sc_law_knows_moments (by rintro _ _ _ _ ⟨_, _, _, _, rfl, _⟩; rfl) fun f cdv A outer s H vs Q E hr h => ?_
  obtain ⟨v, n, m, place, rfl, hm, nm, hn, hp, q⟩ := h
  refine ⟨_, (pss_cons (ps_set (i := 2) sc_law_knows_moments.nd rfl (Or.inl rfl) (pe_callB call_len_seq (by rfl) B.m_len PySem.boot_len (pa_cons (pv 0) pa_nil)))
      (pss_cons (ps_if (pw_or (pt_cmpR op_notBl (pe_def Dis_moment (hr.mono (by first | decide | omega)) (by rfl) (pa_cons (pv 0) (pa_cons (pv 2) pa_nil))) pe_bl (nomark _)) (pw_or1 (pt_cmpR op_notBl (pe_defK0 Dis_moment_axes_value (hr.mono (by first | decide | omega)) (by rfl) (pk_cons (pv 2) (pk_cons (pv 0) pk_nil))) pe_bl (nomark _)))).pt (pss_one (ps_ret pe_bl)) pss_nil)
      (pss_cons (ps_for PassesOwn.never rfl (pi_range2 (by rfl) B.m_range (pa_cons pe_int (pa_cons pe_int pa_nil))) (pg_name (i := 3) sc_law_knows_moments.nd rfl (Or.inl rfl)) (pss_one (ps_if (pw_and (pt_cmpR op_ne (pv 3) (pv 2) (nomark _)) (pw_and1 (pt_cmpR op_notBl (pe_def Dis_moment (hr.mono (by first | decide | omega)) (by rfl) (pa_cons (pv 0) (pa_cons (pv 3) pa_nil))) pe_bl (nomark _)))).pt (pss_one (ps_ret pe_bl)) pss_nil)))
      (pss_cons (ps_for PassesOwn.never rfl (pi_list (pe_def D_law_odd_values (hr.mono (by first | decide | omega)) (by rfl) (pa_cons (pv 0) (pa_cons (pv 1) pa_nil)))) (pg_name (i := 4) sc_law_knows_moments.nd rfl (Or.inl rfl)) (pss_one (ps_if (pt_cmpR op_notBl (pe_def Dis_moment (hr.mono (by first | decide | omega)) (by rfl) (pa_cons (pv 4) (pa_cons (pv 2) pa_nil))) pe_bl (nomark _)) (pss_one (ps_ret pe_bl)) pss_nil)))
      (pss_one (ps_ret pe_bl)))))), ?_⟩
  obtain ⟨a, rfl, ha⟩ := hm.trk
  have lm : (m.map V.int).length = n := by rw [List.length_map]; exact nm.1
  have mv : ∀ k, MoV H (.ref a) k (decide (n = k)) := fun k => by
    have := MoV.mo hm nm.2 (by rw [nm.1]; omega) k
    rwa [nm.1] at this
  have yes : MoV H (.ref a) n true := by simpa using mv n
  refine ⟨.ref a, rfl, a, _, rfl, .inr (SqT.of ha), ?_⟩
  rw [lm]
  refine ⟨.ref a, rfl, .int (n : Nat), rfl, .ref a, n, true, rfl, yes, fun H1 s1 => ⟨true, true, rfl, rfl, _, rfl, iteF ?_⟩⟩
  refine ⟨.int (n : Nat), rfl, .ref a, rfl, .ref a, n, true, rfl, yes.same s1, fun H2 s2 => ⟨true, true, rfl, rfl, _, rfl, iteF ?_⟩⟩
  have s12 := s1.trans s2
  refine ⟨1, 5, rfl, by decide, ?_⟩
  refine for_range (lo := 1) (n := ((5 : Int) - 1).toNat) (fun i σ H' => ∃ y3 y4, σ = [some (.ref a), some (.int (place : Nat)), some (.int (n : Nat)), y3, y4] ∧ Same H H') ⟨_, _, rfl, s12⟩ (fun i σ H' hi pv' => ?_) (fun σ H' pv' => ?_)
  · obtain ⟨y3, y4, rfl, e⟩ := pv'
    refine ⟨_, rfl, _, rfl, rfl, _, rfl, ite2 (fun z => ?_) (fun z => ⟨_, _, rfl, e⟩)⟩
    have ne : n ≠ 1 + i := by
      intro z2
      simp [z2] at z
    have mk := mv (1 + i)
    rw [decide_eq_false ne] at mk
    refine ⟨.ref a, rfl, .int (1 + (i : Nat)), rfl, .ref a, 1 + i, false, by rw [show ((1 + i : Nat) : Int) = 1 + (i : Int) by omega]; rfl, mk.same e, fun H3 s3 => ⟨false, false, rfl, rfl, _, rfl, iteF ⟨_, _, rfl, e.trans s3⟩⟩⟩
  · obtain ⟨y3, y4, rfl, e⟩ := pv'
    refine ⟨.ref a, rfl, .int (place : Nat), rfl, .ref a, n, m, place, rfl, hm.same e, nm, hn, hp, fun H3 o lv s3 ho hl => ?_⟩
    refine ⟨o, rfl, ⟨_, SqL.of ho⟩, ?_⟩
    refine for_list (xs := lv) (fun i σ H' => ∃ y3 y4, σ = [some (.ref a), some (.int (place : Nat)), some (.int (n : Nat)), y3, y4] ∧ Same H3 H') ⟨_, _, rfl, Same.refl _⟩ (fun i σ H' _ pv' => ?_) (fun i x σ H' hx pv' => ?_) (fun σ H' pv' => ?_)
    · obtain ⟨_, _, rfl, e4⟩ := pv'
      exact SqL.of (e4 _ _ ho)
    · obtain ⟨_, _, rfl, e4⟩ := pv'
      exact ⟨x, rfl, .int (n : Nat), rfl, x, n, false, rfl, (hl x (List.mem_of_getElem? hx)).same e4, fun H5 s5 => ⟨false, false, rfl, rfl, _, rfl, iteF ⟨_, _, rfl, e4.trans s5⟩⟩⟩
    · obtain ⟨_, _, rfl, e4⟩ := pv'
      exact q H' ((e.trans s3).trans e4)
end
end K0

namespace K0
open PySem PySem.Spec PyProof.Rows L2 NSet
/-! ### joins of moments with n axes -/
theorem joinL_n {n : Nat} {a b : List Int} (ha : a.length = n) (hb : b.length = n) : (joinL a b).length = n := by rw [joinL_len (by omega)]; exact ha
theorem joinL_comm {a b : List Int} (h : a.length = b.length) : joinL a b = joinL b a :=
  Le.anti ((join_le h).mpr ⟨le_joinR h.symm, le_joinL h.symm⟩) ((join_le h.symm).mpr ⟨le_joinR h, le_joinL h⟩)
theorem joinL_self (a : List Int) : joinL a a = a := Le.anti ((join_le rfl).mpr ⟨Le.refl _, Le.refl _⟩) (le_joinL rfl)
theorem joinL_assoc {n : Nat} {a b c : List Int} (ha : a.length = n) (hb : b.length = n) (hc : c.length = n) : joinL (joinL a b) c = joinL a (joinL b c) := by
  have hab := joinL_n ha hb
  have hbc := joinL_n hb hc
  have e1 : a.length = b.length := by omega
  have e2 : b.length = c.length := by omega
  have e3 : (joinL a b).length = c.length := by omega
  have e4 : a.length = (joinL b c).length := by omega
  refine Le.anti ((join_le e3).mpr ⟨(join_le e1).mpr ⟨le_joinL e4, (le_joinL e2).trans (le_joinR e4)⟩, (le_joinR e2).trans (le_joinR e4)⟩) ((join_le e4).mpr ⟨(le_joinL e1).trans (le_joinL e3), (join_le e2).mpr ⟨(le_joinR e1).trans (le_joinL e3), le_joinR e3⟩⟩)
theorem joinL_right {n : Nat} {a b : List Int} (ha : a.length = n) (hb : b.length = n) : joinL (joinL a b) a = joinL a b := by
  have e1 : a.length = b.length := by omega
  have hab := joinL_n ha hb
  exact Le.anti ((join_le (by omega)).mpr ⟨Le.refl _, le_joinL e1⟩) (le_joinL (by omega))
/-! ### the closure -/
theorem snoc_ind {α : Type} {p : List α → Prop} (h0 : p []) (h1 : ∀ l a, p l → p (l ++ [a])) (l : List α) : p l := by
  have : ∀ l : List α, p l.reverse := fun l => by
    induction l with
    | nil => exact h0
    | cons a l ih => rw [List.reverse_cons]; exact h1 _ _ ih
  have h := this l.reverse
  rwa [List.reverse_reverse] at h
/-- what is asked of the closure -/
structure CloOk (n : Nat) (ms C : List (List Int)) : Prop where
  len : ∀ x ∈ C, x.length = n
  self : ∀ m ∈ ms, m ∈ C
  jn : ∀ x ∈ C, ∀ m ∈ ms, joinL x m ∈ C
  low : ∀ x ∈ C, ∃ m ∈ ms, Le m x
  sum : ∀ x ∈ C, ∀ z u, Le x z → (∀ m ∈ ms, Le m z → Le m u) → Le x u
theorem clo_okN {n : Nat} (ms : List (List Int)) : (∀ m ∈ ms, m.length = n) → CloOk n ms (clo ms) := by
  refine snoc_ind (p := fun ms => (∀ m ∈ ms, m.length = n) → CloOk n ms (clo ms)) ?_ ?_ ms
  · intro _
    exact ⟨fun x hx => (by cases hx), fun x hx => (by cases hx), fun x hx => (by cases hx), fun x hx => (by cases hx), fun x hx => (by cases hx)⟩
  · intro l a ih h
    have hl : ∀ m ∈ l, m.length = n := fun m hm => h m (List.mem_append_left _ hm)
    have ha : a.length = n := h a (List.mem_append_right _ (by simp))
    have c := ih hl
    rw [clo_snoc]
    refine ⟨fun x hx => ?_, fun m hm => ?_, fun x hx m hm => ?_, fun x hx => ?_, fun x hx z u hz hu => ?_⟩
    · rcases mem_step.mp hx with hx | ⟨y, hy, rfl⟩ | rfl
      · exact c.len x hx
      · exact joinL_n ha (c.len y hy)
      · exact ha
    · rcases List.mem_append.mp hm with hm | hm
      · exact mem_step.mpr (.inl (c.self m hm))
      · rw [List.mem_singleton.mp hm]
        exact mem_step.mpr (.inr (.inr rfl))
    · rcases List.mem_append.mp hm with hm | hm
      · rcases mem_step.mp hx with hx | ⟨y, hy, rfl⟩ | e
        · exact mem_step.mpr (.inl (c.jn x hx m hm))
        · exact mem_step.mpr (.inr (.inl ⟨joinL y m, c.jn y hy m hm, (joinL_assoc ha (c.len y hy) (hl m hm)).symm⟩))
        · rw [e]; exact mem_step.mpr (.inr (.inl ⟨m, c.self m hm, rfl⟩))
      · rw [List.mem_singleton.mp hm]
        rcases mem_step.mp hx with hx | ⟨y, hy, rfl⟩ | e
        · exact mem_step.mpr (.inr (.inl ⟨x, hx, joinL_comm (by rw [ha, c.len x hx])⟩))
        · exact mem_step.mpr (.inr (.inl ⟨y, hy, (joinL_right ha (c.len y hy)).symm⟩))
        · rw [e]; exact mem_step.mpr (.inr (.inr (joinL_self _)))
    · rcases mem_step.mp hx with hx | ⟨y, hy, rfl⟩ | rfl
      · obtain ⟨m, hm, k⟩ := c.low x hx
        exact ⟨m, List.mem_append_left _ hm, k⟩
      · exact ⟨a, List.mem_append_right _ (by simp), le_joinL (by rw [ha, c.len y hy])⟩
      · exact ⟨x, List.mem_append_right _ (by simp), Le.refl _⟩
    · have hu' : ∀ m ∈ l, Le m z → Le m u := fun m hm => hu m (List.mem_append_left _ hm)
      have hua := hu a (List.mem_append_right _ (by simp))
      rcases mem_step.mp hx with hx | ⟨y, hy, rfl⟩ | rfl
      · exact c.sum x hx z u hz hu'
      · have e : a.length = y.length := by rw [ha, c.len y hy]
        obtain ⟨h1, h2⟩ := (join_le e).mp hz
        exact (join_le e).mpr ⟨hua h1, c.sum y hy z u h2 hu'⟩
      · exact hua hz
/-- the join of those that are before x -/
def joinedL (n : Nat) (ms : List (List Int)) (x : List Int) : List Int := ms.foldl (fun j m => if leB m x = true then joinL j m else j) (List.replicate n 0)
theorem joined_take {n i : Nat} {ms : List (List Int)} {m x : List Int} (h : ms[i]? = some m) : joinedL n (ms.take (i + 1)) x = if leB m x = true then joinL (joinedL n (ms.take i) x) m else joinedL n (ms.take i) x := by
  unfold joinedL
  rw [List.take_add_one, h, Option.toList_some, List.foldl_append]
  rfl
theorem zeros_le : ∀ {n : Nat} {x : List Int}, x.length = n → (∀ c ∈ x, 0 ≤ c) → Le (List.replicate n 0) x
  | 0, [], _, _ => True.intro
  | n + 1, c :: x, h, k => ⟨k c List.mem_cons_self, zeros_le (by simpa using h) fun d hd => k d (List.mem_cons_of_mem _ hd)⟩
  | 0, _ :: _, h, _ => nomatch h
  | _ + 1, [], h, _ => nomatch h
theorem joined_len {n : Nat} {x : List Int} : ∀ (ms : List (List Int)) (j : List Int), (∀ m ∈ ms, m.length = n) → j.length = n → (ms.foldl (fun j m => if leB m x = true then joinL j m else j) j).length = n
  | [], j, _, h => h
  | m :: ms, j, h, hj => joined_len ms _ (fun y hy => h y (List.mem_cons_of_mem _ hy)) (by
      show (if leB m x = true then joinL j m else j).length = n
      split
      · exact joinL_n hj (h m List.mem_cons_self)
      · exact hj)
theorem joined_le {n : Nat} {x y : List Int} (hx : x.length = n) : ∀ (ms : List (List Int)) (j : List Int), (∀ m ∈ ms, m.length = n) → j.length = n →
    (Le (ms.foldl (fun j m => if leB m x = true then joinL j m else j) j) y ↔ Le j y ∧ ∀ m ∈ ms, Le m x → Le m y)
  | [], j, _, _ => by simp
  | m :: ms, j, h, hj => by
    have hm := h m List.mem_cons_self
    have hms : ∀ y ∈ ms, y.length = n := fun y hy => h y (List.mem_cons_of_mem _ hy)
    rw [List.foldl_cons]
    have lm := leB_iff (a := m) (b := x) (by omega)
    by_cases e : leB m x = true
    · rw [if_pos e, joined_le hx ms _ hms (joinL_n hj hm), join_le (by omega)]
      simp only [List.mem_cons, forall_eq_or_imp, and_assoc, lm.mp e, true_imp_iff]
    · rw [if_neg e, joined_le hx ms _ hms hj]
      have : ¬ Le m x := fun k => e (lm.mpr k)
      simp only [List.mem_cons, forall_eq_or_imp, this, false_imp_iff, true_and]
theorem joined_clo {n : Nat} {ms : List (List Int)} {x : List Int} (h : ∀ m ∈ ms, m.length = n) (hx : x ∈ clo ms) (h0 : ∀ c ∈ x, 0 ≤ c) : joinedL n ms x = x := by
  have c := clo_okN ms h
  have lx := c.len x hx
  have hj := fun y => joined_le (y := y) lx ms (List.replicate n 0) h (by simp)
  refine Le.anti ((hj x).mpr ⟨zeros_le lx h0, fun m hm k => k⟩) (c.sum x hx x _ (Le.refl x) fun m hm k => ?_)
  exact ((hj _).mp (Le.refl _)).2 m hm k
theorem lexLt_row : ∀ x y : List Int, HT.lexLt x y = decide (x < y)
  | [], [] => by rw [HT.lexLt_nil_nil]; rfl
  | [], y :: ys => by rw [HT.lexLt_nil_cons]; symm; exact decide_eq_true (List.nil_lt_cons _ _)
  | x :: xs, [] => by rw [HT.lexLt_cons_nil]; symm; exact decide_eq_false (List.not_lt_nil _)
  | x :: xs, y :: ys => by
    rw [HT.lexLt_cons, lexLt_row xs ys, Bool.eq_iff_iff]
    rw [decide_eq_true_iff, List.cons_lt_cons_iff]
    split
    · next e => subst e; simp
    · next e => simp [e]
end K0

namespace K0
open PySem PySem.Spec PyProof.Rows L2 NSet
theorem rep_zeros {K : PySem.W.Frag} {H : Hp} {t : Addr} {n : Nat} {Q : VK} (ht : H t = some (.tup [.int 0])) (hn1 : 1 ≤ n) (hn : n ≤ 1000) (q : ∀ H' y, Same H H' → Mo K H' y (List.replicate n 0) → Q y H') : rRepA K (.ref t) (.int (n : Nat)) H Q := by
  by_cases h : n = 1
  · subst h
    exact .inl ⟨t, [.int 0], rfl, rfl, SqT.of ht, q _ _ (Same.refl _) (Mo.of (m := [0]) ht)⟩
  · refine .inr ⟨t, (n : Nat), [.int 0], rfl, rfl, SqT.of ht, by simp, by omega, by omega, by simp, fun a ha => q _ _ (same_upd ha) ?_⟩
    refine Mo.of ?_
    rw [upd_same, Int.toNat_natCast, List.map_replicate]
    congr 2
    have : ∀ k : Nat, (List.replicate k [V.int 0]).flatten = List.replicate k (V.int 0) := by
      intro k
      induction k with
      | zero => rfl
      | succ k ih => rw [List.replicate_succ, List.flatten_cons, ih]; rfl
    exact this n
section
variable {P : Program} {w : World} {K : PySem.W.Frag} {mg : Str → Option Value} {base : Heap}
def spJoined (K : PySem.W.Frag) : Sp := fun vs H Q _ => ∃ (v u : V) (z : Int) (n : Nat) (ms : List (List Int)) (x : List Int), vs = [v, u, .int z] ∧ z = (n : Int) ∧ MoL K H v ms ∧ Mo K H u x ∧ (∀ m ∈ ms, m.length = n) ∧ x.length = n ∧ 1 ≤ n ∧ n ≤ 4 ∧ ∀ H' y, Same H H' → Mo K H' y (joinedL n ms x) → Q y H'
theorem d_law_joined (B : Bt mg) (T : Top K mg "_law_joined" s_law_joined ["given", "member", "span"]) (D_law_before : Def P w K mg base "_law_before" 1 ["one", "other"] (spB K leB)) (D_law_join : Def P w K mg base "_law_join" 1 ["one", "other"] (spM K joinL)) : Def P w K mg base "_law_joined" 2 ["given", "member", "span"] (spJoined K) := by
  refine mk_def T sc_law_joined (by rintro _ _ _ _ ⟨_, _, _, _, _, _, rfl, _⟩; rfl) fun f cdv A outer s H vs Q E hr h => ?_
  obtain ⟨v, u, z, n, ms, x, rfl, rfl, ⟨g, gv, rfl, hg, dg⟩, hx, hms, lx, hn1, hn4, q⟩ := h
  refine ⟨_, (pss_cons (ps_set (i := 3) sc_law_joined.nd rfl (Or.inl rfl) (pe_op op_repA (pe_tup (pa_cons pe_int pa_nil)) (pv 2)))
      (pss_cons (ps_for PassesOwn.never rfl (pi_list (pv 0)) (pg_name (i := 4) sc_law_joined.nd rfl (Or.inl rfl)) (pss_one (ps_if (pt_val (pe_def D_law_before (hr.mono (by first | decide | omega)) (by rfl) (pa_cons (pv 4) (pa_cons (pv 1) pa_nil)))) (pss_one (ps_set (i := 3) sc_law_joined.nd rfl (Or.inl rfl) (pe_def D_law_join (hr.mono (by first | decide | omega)) (by rfl) (pa_cons (pv 3) (pa_cons (pv 4) pa_nil))))) pss_nil)))
      (pss_one (ps_ret (pv 3))))), ?_⟩
  obtain ⟨c, rfl, hc⟩ := hx.trk
  have lg : gv.length = ms.length := by simpa using dg.length
  refine ⟨by show 1 ≤ sizeLine; decide, fun t ht => ⟨.int (n : Nat), rfl, ?_⟩⟩
  have s0 := same_upd (o := .tup [.int 0]) ht
  refine rep_zeros (K := K) (n := n) upd_same hn1 (by omega) fun H1 y0 s1 hy0 => ?_
  have s01 := s0.trans s1
  refine ⟨.ref g, rfl, g, rfl, ⟨_, SqL.of (s01 _ _ hg)⟩, ?_⟩
  refine for_list (xs := gv) (fun i σ H' => ∃ y y4, σ = [some (.ref g), some (.ref c), some (.int (n : Nat)), some y, y4] ∧ Same H H' ∧ Mo K H' y (joinedL n (ms.take i) x)) ⟨y0, none, rfl, s01, hy0⟩ (fun i σ H' _ pv' => ?_) (fun i o σ H' hx' pv' => ?_) (fun σ H' pv' => ?_)
  · obtain ⟨_, _, rfl, e, _⟩ := pv'
    exact SqL.of (e _ _ hg)
  · obtain ⟨y, y4, rfl, e, hy⟩ := pv'
    obtain ⟨d, hd1, hd2⟩ := dg.get hx'
    obtain ⟨m, hm, rfl⟩ := mo_at hd1
    have lm := hms m (List.mem_of_getElem? hm)
    obtain ⟨b, rfl, hb⟩ := (Mo.same hd2 e).inv
    obtain ⟨j, rfl, hj⟩ := hy.inv
    have lj : (joinedL n (ms.take i) x).length = n := joined_len _ _ (fun y hy => hms y (List.mem_of_mem_take hy)) (by simp)
    refine ⟨.ref b, rfl, .ref c, rfl, b, c, m, x, rfl, hb, SqT.of (e _ _ hc), by omega, by omega, fun H2 s2 => ⟨_, rfl, ite2 (fun z => ?_) (fun z => ?_)⟩⟩
    · refine ⟨.ref j, rfl, .ref b, rfl, j, b, _, m, rfl, s2.seqT hj, s2.seqT hb, by omega, by omega, fun H3 p s3 np ep => ⟨_, _, rfl, (e.trans s2).trans s3, ?_⟩⟩
      rw [joined_take hm, if_pos z]
      exact Mo.of ep
    · refine ⟨_, _, rfl, e.trans s2, ?_⟩
      rw [joined_take hm, if_neg (by simpa using z)]
      exact Mo.same hy s2
  · obtain ⟨y, y4, rfl, e, hy⟩ := pv'
    rw [lg, List.take_length] at hy
    exact ⟨y, rfl, q H' y e hy⟩
end
end K0

namespace K0
open PySem PySem.Spec PyProof.Rows L2 NSet
/-! ### the dict of those that are met -/
def keyL (m : List Int) : List Key := m.map Sum.inl
theorem keyL_kV (m : List Int) : (keyL m).map kV = m.map V.int := by
  unfold keyL
  rw [List.map_map]
  rfl
theorem keyL_inj : ∀ {a b : List Int}, keyL a = keyL b → a = b
  | [], [], _ => rfl
  | x :: a, y :: b, h => by
    injection h with h1 h2
    injection h1 with h1
    rw [h1, keyL_inj h2]
  | [], _ :: _, h => nomatch h
  | _ :: _, [], h => nomatch h
def metL (L : List (List Int)) : List (List Key × V) := L.map fun m => (keyL m, V.bl true)
theorem met_put {L : List (List Int)} {m : List Int} (h : m ∉ L) : putK (metL L) (keyL m) (.bl true) = metL (L ++ [m]) := by
  unfold putK
  rw [if_neg, metL, metL, List.map_append]
  · rfl
  · intro z
    obtain ⟨p, hp, e⟩ := List.any_eq_true.mp z
    obtain ⟨x, hx, rfl⟩ := List.mem_map.mp hp
    exact h (keyL_inj (of_decide_eq_true e) ▸ hx)
theorem met_val {L : List (List Int)} {m : List Int} (h : m ∈ L) : (valV (metL L) (keyL m)).isSome = true := by
  unfold valV
  rw [Option.isSome_map, List.find?_isSome]
  exact ⟨(keyL m, .bl true), List.mem_map.mpr ⟨m, h, rfl⟩, by simp⟩
theorem met_get {H : Hp} {d b : Addr} {L : List (List Int)} {m : List Int} (hd : H d = some (.dT (metL L))) (hb : H b = some (.tup (m.map V.int))) (h : m ∈ L) : ∃ o, DGet H d (.ref b) o ∧ o.isSome = true :=
  ⟨_, DGet.t (k := keyL m) hd (by rw [keyL_kV]; exact hb), met_val h⟩
theorem mo_ref {K : PySem.W.Frag} {H : Hp} {vs : List V} {ms : List (List Int)} {i : Nat} {m : List Int} (d : DaAll K H vs (ms.map mo)) (h : ms[i]? = some m) : ∃ b, vs[i]? = some (.ref b) ∧ H b = some (.tup (m.map V.int)) := by
  have l : vs.length = ms.length := by simpa using d.length
  have hi := (List.getElem?_eq_some_iff.mp h).1
  obtain ⟨x, hx⟩ : ∃ x, vs[i]? = some x := ⟨_, List.getElem?_eq_getElem (by omega)⟩
  obtain ⟨e, h1, h2⟩ := d.get hx
  obtain ⟨m', hm', rfl⟩ := mo_at h1
  rw [h] at hm'
  cases hm'
  obtain ⟨b, rfl, hb⟩ := Mo.trk h2
  exact ⟨b, hx, hb⟩
section
variable {P : Program} {w : World} {K : PySem.W.Frag} {mg : Str → Option Value} {base : Heap}
def spCloHolds (K : PySem.W.Frag) : Sp := fun vs H Q _ => ∃ (v : V) (z : Int) (n : Nat) (ms G : List (List Int)), vs = [v, .int z] ∧ z = (n : Int) ∧ MoL K H v ms ∧ Box n G ∧ (∀ m ∈ ms, m ∈ G) ∧ ms.length ≤ 1000 ∧ 1 ≤ n ∧ n ≤ 4 ∧ ∀ H', Same H H' → Q (.bl true) H'
theorem d_law_closure_holds (B : Bt mg) (T : Top K mg "_law_closure_holds" s_law_closure_holds ["given", "span"]) (Dclosure_moments : DefK P w K mg base "closure" 2 ["moments"] ["moments"] (fun vs zs => vs ++ zs) (spClosure K))
    (D_law_are_moments : Def P w K mg base "_law_are_moments" 3 ["told", "span"] (spAreMoments K)) (D_law_before : Def P w K mg base "_law_before" 1 ["one", "other"] (spB K leB)) (D_law_join : Def P w K mg base "_law_join" 1 ["one", "other"] (spM K joinL)) (D_law_joined : Def P w K mg base "_law_joined" 2 ["given", "member", "span"] (spJoined K)) : Def P w K mg base "_law_closure_holds" 4 ["given", "span"] (spCloHolds K) := by
  refine mk_def T sc_law_closure_holds (by rintro _ _ _ _ ⟨_, _, _, _, _, rfl, _⟩; rfl) fun f cdv A outer s H vs Q E hr h => ?_
  obtain ⟨v, z, n, ms, G, rfl, rfl, hG, bx, hin, lms, hn1, hn4, q⟩ := h
  refine ⟨_, (pss_cons (ps_set (i := 2) sc_law_closure_holds.nd rfl (Or.inl rfl) (pe_callTy call_list_of (by rfl) B.m_list (by decide +kernel) (pa_cons (pv 0) pa_nil)))
      (pss_cons (ps_set (i := 3) sc_law_closure_holds.nd rfl (Or.inl rfl) (pe_defK0 Dclosure_moments (hr.mono (by first | decide | omega)) (by rfl) (pk_cons (pv 2) pk_nil)))
      (pss_cons (ps_if (pw_or (pt_cmpR (op_neD (hu64 hr)) (pv 2) (pv 0) (nomark _)) (pw_or1 (pt_not (pt_val (pe_def D_law_are_moments (hr.mono (by first | decide | omega)) (by rfl) (pa_cons (pv 3) (pa_cons (pv 1) pa_nil))))))).pt (pss_one (ps_ret pe_bl)) pss_nil)
      (pss_cons (ps_set (i := 4) sc_law_closure_holds.nd rfl (Or.inr rfl) (pe_dnewT))
      (pss_cons (ps_for PassesOwn.never rfl (pi_range1 (by rfl) B.m_range (pa_cons (pe_callB call_len_seq (by rfl) B.m_len PySem.boot_len (pa_cons (pv 3) pa_nil)) pa_nil)) (pg_name (i := 5) sc_law_closure_holds.nd rfl (Or.inl rfl)) (pss_cons (ps_if (pw_and (pt_cmpR op_gt (pv 5) pe_int (nomark _)) (pw_and1 (pt_not (pt_cmpR (op_ltT (hu0 hr)) (pe_ix ix_list (pv 3) (pe_op op_sub (pv 5) pe_int) (fun _ _ => rfl)) (pe_ix ix_list (pv 3) (pv 5) (fun _ _ => rfl)) (nomark _))))).pt (pss_one (ps_ret pe_bl)) pss_nil)
      (pss_one (ps_dput (hu_of hr) (pv 4) (pe_ix ix_list (pv 3) (pv 5) (fun _ _ => rfl)) pe_bl rfl))))
      (pss_cons (ps_if (pt_not (pt_val (pe_callB (cr_all rfl) (by rfl) B.m_all (by decide +kernel) (pa_cons (pe_lc (own := [("one", 6)]) (g := (gName 6)) (tt := tYes) (te := (tDIn (tVar 6) (tVar 4))) rfl sc_law_closure_holds.nd (pi_list (pv 0)) (blkOk_by (own := [("one", 6)]) (N := N_law_closure_holds) (sc := defScope s_law_closure_holds) (by decide +kernel)) (fun _ _ _ _ _ => (pg_name (i := 6) sc_law_closure_holds.nd rfl (Or.inl rfl))) (fun _ _ _ _ _ => pts_nil) (fun _ _ _ _ _ => (pe_cmp (pc_din (hu_of hr) (pv 6) (pv 4))))) pa_nil)))) (pss_one (ps_ret pe_bl)) pss_nil)
      (pss_cons (ps_for PassesOwn.never rfl (pi_list (pv 3)) (pg_name (i := 7) sc_law_closure_holds.nd rfl (Or.inr rfl)) (pss_cons (ps_if (pt_not (pt_val (pe_callB (cr_all rfl) (by rfl) B.m_all (by decide +kernel) (pa_cons (pe_lc (own := [("one", 6)]) (g := (gName 6)) (tt := tYes) (te := (tDIn (tCall (spM K joinL) [] E0 (tCons (tVar 7) (tCons (tVar 6) tNil))) (tVar 4))) rfl sc_law_closure_holds.nd (pi_list (pv 0)) (blkOk_by (own := [("one", 6)]) (N := N_law_closure_holds) (sc := defScope s_law_closure_holds) (by decide +kernel)) (fun _ _ _ _ _ => (pg_name (i := 6) sc_law_closure_holds.nd rfl (Or.inl rfl))) (fun _ _ _ _ _ => pts_nil) (fun _ _ _ _ _ => (pe_cmp (pc_din (hu_of hr) (pe_def D_law_join (hr.mono (by first | decide | omega)) (by rfl) (pa_cons (pv 7) (pa_cons (pv 6) pa_nil))) (pv 4))))) pa_nil)))) (pss_one (ps_ret pe_bl)) pss_nil)
      (pss_cons (ps_if (pt_not (pt_val (pe_callB (cr_any rfl) (by rfl) B.m_any (by decide +kernel) (pa_cons (pe_lc (own := [("one", 6)]) (g := (gName 6)) (tt := tYes) (te := (tCall (spB K leB) [] E0 (tCons (tVar 6) (tCons (tVar 7) tNil)))) rfl sc_law_closure_holds.nd (pi_list (pv 0)) (blkOk_by (own := [("one", 6)]) (N := N_law_closure_holds) (sc := defScope s_law_closure_holds) (by decide +kernel)) (fun _ _ _ _ _ => (pg_name (i := 6) sc_law_closure_holds.nd rfl (Or.inl rfl))) (fun _ _ _ _ _ => pts_nil) (fun _ _ _ _ _ => (pe_def D_law_before (hr.mono (by first | decide | omega)) (by rfl) (pa_cons (pv 6) (pa_cons (pv 7) pa_nil))))) pa_nil)))) (pss_one (ps_ret pe_bl)) pss_nil)
      (pss_one (ps_if (pt_cmpR (op_neD (hu64 hr)) (pe_def D_law_joined (hr.mono (by first | decide | omega)) (by rfl) (pa_cons (pv 0) (pa_cons (pv 7) (pa_cons (pv 1) pa_nil)))) (pv 7) (nomark _)) (pss_one (ps_ret pe_bl)) pss_nil)))))
      (pss_one (ps_ret pe_bl))))))))), ?_⟩
  obtain ⟨g, gv, rfl, hg, dg⟩ := id hG
  have lgv : gv.length = ms.length := by simpa using dg.length
  refine ⟨.ref g, rfl, g, gv, rfl, .inl (SqL.of hg), fun h nh => ?_⟩
  have s1 := same_upd (o := .lst gv) nh
  have hH1 : MoL K (L2.upd H h (.lst gv)) (.ref h) ms := ⟨h, gv, rfl, upd_same, Da.sameAll s1 _ _ dg⟩
  have hG1 := hG.same s1
  generalize L2.upd H h (.lst gv) = H1 at s1 hH1 hG1 ⊢
  refine ⟨.ref h, rfl, .ref h, n, ms, G, rfl, hH1, bx, hin, hn4, fun H2 t R s2 hT tR => ?_⟩
  have s12 := s1.trans s2
  refine ⟨.ref h, rfl, .ref g, rfl, _, _, Da.dp _ _ (hH1.same s2).da, Da.dp _ _ (hG1.same s2).da, shaped_mos _, shaped_mos _, ?_⟩
  rw [eqv_mos, decide_eq_true rfl]
  obtain ⟨t, tv, rfl, ht, dt⟩ := id hT
  have lt : tv.length = R.length := by simpa using dt.length
  have hms : ∀ m ∈ ms, m.length = n := fun m hm => (bx.ok m (hin m hm)).1
  have co := clo_okN ms hms
  have RG : ∀ r ∈ R, r ∈ G := fun r hr => clo_box bx ms [] hin (fun y hy => nomatch hy) r ((tR.mem r).mp hr)
  have lR : R.length < 299 := Nat.lt_of_le_of_lt (List.Nodup.length_le_of_subset tR.nodup RG) bx.few
  have okR : ∀ r ∈ R, Ok n r := fun r hr => bx.ok r (RG r hr)
  refine ⟨_, rfl, iteF ⟨.ref t, rfl, .int (n : Nat), rfl, .ref t, (n : Int), n, R, rfl, rfl, hT, okR, hn4, by omega, fun H3 s3 => ⟨true, rfl, iteF ?_⟩⟩⟩
  have s13 := s12.trans s3
  refine fun d hd => ?_
  have ht3 := s3 _ _ ht
  have dt3 := Da.sameAll s3 _ _ dt
  have hG3 := hG.same s13
  refine ⟨.ref t, rfl, t, tv, rfl, .inl (SqL.of ((same_upd hd) _ _ ht3)), (tv.length : Nat), rfl, by omega, by omega, ?_⟩
  refine for_range (lo := 0) (n := (((tv.length : Nat) : Int)).toNat) (fun i σ H' => ∃ y5, σ = [some (.ref g), some (.int (n : Nat)), some (.ref h), some (.ref t), some (.ref d), y5, none, none] ∧ Same H3 H' ∧ H' d = some (.dT (metL (R.take i)))) ⟨_, rfl, same_upd hd, upd_same⟩ (fun i σ H' hi pv' => ?_) (fun σ H' pv' => ?_)
  · obtain ⟨y5, rfl, e, ed⟩ := pv'
    have hir : i < R.length := by rw [Int.toNat_natCast] at hi; omega
    obtain ⟨m, hm⟩ : ∃ m, R[i]? = some m := ⟨_, List.getElem?_eq_getElem hir⟩
    obtain ⟨b, hxb, hb⟩ := mo_ref dt3 hm
    have tk : R.take i ++ [m] = R.take (i + 1) := by rw [List.take_add_one, hm]; rfl
    have nm : m ∉ R.take i := by
      have nd : (R.take (i + 1)).Nodup := tR.nodup.sublist (List.take_sublist _ _)
      rw [← tk] at nd
      exact fun z => (List.nodup_append.mp nd).2.2 m z m (by simp) rfl
    refine ⟨_, rfl, _, _, rfl, rfl, _, rfl, ite2 (fun z => ?_) (fun z => ?_)⟩
    · have hi1 : 1 ≤ i := by
        have := of_decide_eq_true z
        omega
      obtain ⟨m', hm'⟩ : ∃ m', R[i - 1]? = some m' := ⟨_, List.getElem?_eq_getElem (by omega)⟩
      obtain ⟨b', hxb', hb'⟩ := mo_ref dt3 hm'
      refine ⟨.ref t, rfl, .int (0 + (i : Nat)), rfl, _, _, rfl, rfl, t, tv, 0 + (i : Nat) - 1, .ref b', rfl, rfl, SqL.of (e _ _ ht3), at_of (j := i - 1) (by omega) hxb', .ref t, rfl, .int (0 + (i : Nat)), rfl, t, tv, 0 + (i : Nat), .ref b, rfl, rfl, SqL.of (e _ _ ht3), at_of (j := i) (by omega) hxb, ?_⟩
      refine ⟨b', b, m', m, rfl, rfl, SqT.of (e _ _ hb'), SqT.of (e _ _ hb), ?_⟩
      have lt' : HT.lexLt m' m = true := by
        rw [lexLt_row, ← lt_row]
        have h1 := List.getElem?_eq_some_iff.mp hm
        have h2 := List.getElem?_eq_some_iff.mp hm'
        have := List.pairwise_iff_getElem.mp tR.asc (i - 1) i (by omega) hir (by omega)
        rwa [h1.2, h2.2] at this
      rw [lt']
      refine ⟨true, rfl, iteF ?_⟩
      refine ⟨.ref d, rfl, .ref t, rfl, .int (0 + (i : Nat)), rfl, t, tv, 0 + (i : Nat), .ref b, rfl, rfl, SqL.of (e _ _ ht3), at_of (j := i) (by omega) hxb, d, _, rfl, DPut.t (k := keyL m) ed (by rw [keyL_kV]; exact e _ _ hb) (by rw [metL, List.length_map, List.length_take]; exact Nat.lt_of_lt_of_le (show min i R.length < 299 by omega) (by decide)), ?_⟩
      refine ⟨_, rfl, e.mut hd, ?_⟩
      rw [met_put nm, tk]
      exact upd_same
    · refine ⟨.ref d, rfl, .ref t, rfl, .int (0 + (i : Nat)), rfl, t, tv, 0 + (i : Nat), .ref b, rfl, rfl, SqL.of (e _ _ ht3), at_of (j := i) (by omega) hxb, d, _, rfl, DPut.t (k := keyL m) ed (by rw [keyL_kV]; exact e _ _ hb) (by rw [metL, List.length_map, List.length_take]; exact Nat.lt_of_lt_of_le (show min i R.length < 299 by omega) (by decide)), ?_⟩
      refine ⟨_, rfl, e.mut hd, ?_⟩
      rw [met_put nm, tk]
      exact upd_same
  · obtain ⟨y5, rfl, e, ed⟩ := pv'
    rw [Int.toNat_natCast, lt, List.take_length] at ed
    have s4 := s13.trans e
    refine ⟨.ref g, rfl, g, rfl, ⟨_, SqL.of (s4 _ _ hg)⟩, fun D hD => ?_⟩
    refine lc_val (walk_list (K := K) (a := g) (xs := gv)) hD (by omega) (fun H5 e5 => SqL.of (e5 _ _ (s4 _ _ hg))) (List.replicate gv.length (V.bl true)) (by simp) (fun i x H5' H5 Q' hi e5 y k => ?_) (fun H5 e5 eD => ?_)
    · obtain ⟨rfl, hx⟩ := y
      obtain ⟨m, hm⟩ : ∃ m, ms[i]? = some m := ⟨_, List.getElem?_eq_getElem (by omega)⟩
      obtain ⟨b, hxb, hb⟩ := mo_ref dg hm
      rw [hxb] at hx
      cases hx
      obtain ⟨o, hgt, ho⟩ := met_get (e5 _ _ ed) (e5 _ _ (s4 _ _ hb)) ((tR.mem m).mpr (co.self m (List.mem_of_getElem? hm)))
      refine ⟨rfl, .ref b, rfl, .ref d, rfl, d, o, rfl, hgt, ?_⟩
      rw [ho]
      exact k _ _ (Same.refl _) (by rw [List.getElem?_replicate, if_pos hi])
    refine ⟨D, List.replicate gv.length true, rfl, SqL.of (by rw [eD, List.map_replicate]), ?_⟩
    rw [show (List.replicate gv.length true).all id = true by simp]
    refine ⟨true, rfl, iteF ?_⟩
    have s5 := s4.trans e5
    have ed5 := e5 _ _ ed
    have ht5 := e5 _ _ (e _ _ ht3)
    have dt5 := Da.sameAll (e.trans e5) _ _ dt3
    refine ⟨.ref t, rfl, t, rfl, ⟨_, SqL.of ht5⟩, ?_⟩
    refine for_list (xs := tv) (fun i σ H' => ∃ y7, σ = [some (.ref g), some (.int (n : Nat)), some (.ref h), some (.ref t), some (.ref d), y5, none, y7] ∧ Same H5 H') ⟨_, rfl, Same.refl _⟩ (fun i σ H' _ pv' => ?_) (fun i x σ H6 hx pv' => ?_) (fun σ H' pv' => ?_)
    · obtain ⟨_, rfl, e6⟩ := pv'
      exact SqL.of (e6 _ _ ht5)
    · obtain ⟨y7, rfl, e6⟩ := pv'
      have hir : i < R.length := by
        have := (List.getElem?_eq_some_iff.mp hx).1
        omega
      obtain ⟨r, hr'⟩ : ∃ r, R[i]? = some r := ⟨_, List.getElem?_eq_getElem hir⟩
      obtain ⟨b, hxb, hb⟩ := mo_ref dt5 hr'
      rw [hxb] at hx
      cases hx
      have rR := List.mem_of_getElem? hr'
      have rC := (tR.mem r).mp rR
      have lr := co.len r rC
      have s6 := s5.trans e6
      -- all joins are met
      refine ⟨.ref g, rfl, g, rfl, ⟨_, SqL.of (s6 _ _ hg)⟩, fun D1 hD1 => ?_⟩
      refine lc_val (walk_list (K := K) (a := g) (xs := gv)) hD1 (by omega) (fun H7 e7 => SqL.of (e7 _ _ (s6 _ _ hg))) (List.replicate gv.length (V.bl true)) (by simp) (fun i x H7' H7 Q' hi e7 y k => ?_) (fun H7 e7 eD1 => ?_)
      · obtain ⟨rfl, hx⟩ := y
        obtain ⟨m, hm⟩ : ∃ m, ms[i]? = some m := ⟨_, List.getElem?_eq_getElem (by omega)⟩
        obtain ⟨c, hxc, hc⟩ := mo_ref dg hm
        rw [hxc] at hx
        cases hx
        have mm := List.mem_of_getElem? hm
        have lm := hms m mm
        refine ⟨rfl, .ref b, rfl, .ref c, rfl, b, c, r, m, rfl, SqT.of (e7 _ _ (e6 _ _ hb)), SqT.of (e7 _ _ (s6 _ _ hc)), by omega, by omega, fun H8 p s8 np ep => ?_⟩
        obtain ⟨o, hgt, ho⟩ := met_get (s8 _ _ (e7 _ _ (e6 _ _ ed5))) ep ((tR.mem _).mpr (co.jn r rC m mm))
        refine ⟨.ref d, rfl, d, o, rfl, hgt, ?_⟩
        rw [ho]
        exact k _ _ s8 (by rw [List.getElem?_replicate, if_pos hi])
      refine ⟨D1, List.replicate gv.length true, rfl, SqL.of (by rw [eD1, List.map_replicate]), ?_⟩
      rw [show (List.replicate gv.length true).all id = true by simp]
      refine ⟨true, rfl, iteF ?_⟩
      have e67 := e6.trans e7
      have s7 := s5.trans e67
      -- one is before it
      refine ⟨.ref g, rfl, g, rfl, ⟨_, SqL.of (s7 _ _ hg)⟩, fun D2 hD2 => ?_⟩
      refine lc_val (walk_list (K := K) (a := g) (xs := gv)) hD2 (by omega) (fun H8 e8 => SqL.of (e8 _ _ (s7 _ _ hg))) (ms.map fun m => V.bl (leB m r)) (by simp [lgv]) (fun i x H8' H8 Q' hi e8 y k => ?_) (fun H8 e8 eD2 => ?_)
      · obtain ⟨rfl, hx⟩ := y
        obtain ⟨m, hm⟩ : ∃ m, ms[i]? = some m := ⟨_, List.getElem?_eq_getElem (by omega)⟩
        obtain ⟨c, hxc, hc⟩ := mo_ref dg hm
        rw [hxc] at hx
        cases hx
        have lm := hms m (List.mem_of_getElem? hm)
        exact ⟨rfl, .ref c, rfl, .ref b, rfl, c, b, m, r, rfl, SqT.of (e8 _ _ (s7 _ _ hc)), SqT.of (e8 _ _ (e67 _ _ hb)), by omega, by omega, fun H9 s9 => k _ _ s9 (by rw [List.getElem?_map, hm]; rfl)⟩
      refine ⟨D2, ms.map fun m => leB m r, rfl, SqL.of (by rw [eD2, List.map_map]; rfl), ?_⟩
      have an : (ms.map fun m => leB m r).any id = true := by
        obtain ⟨m, hm, k⟩ := co.low r rC
        exact List.any_eq_true.mpr ⟨_, List.mem_map.mpr ⟨m, hm, rfl⟩, (leB_iff (by rw [hms m hm, lr])).mpr k⟩
      rw [an]
      refine ⟨true, rfl, iteF ?_⟩
      have e68 := e67.trans e8
      have s8 := s5.trans e68
      have hb8 := e68 _ _ hb
      refine ⟨.ref g, rfl, .ref b, rfl, .int (n : Nat), rfl, .ref g, .ref b, (n : Int), n, ms, r, rfl, rfl, hG.same s8, Mo.of hb8, hms, lr, hn1, hn4, fun H9 y s9 hy => ?_⟩
      refine ⟨.ref b, rfl, _, _, Da.dp _ _ hy, Da.dp _ _ (Mo.of (s9 _ _ hb8)), shaped_mo _, shaped_mo _, ?_⟩
      rw [eqv_mo, decide_eq_true (joined_clo hms rC fun c hc => ((okR r rR).2 c hc).1)]
      exact ⟨_, rfl, iteF ⟨_, rfl, e68.trans s9⟩⟩
    · obtain ⟨_, rfl, e6⟩ := pv'
      exact q H' (s5.trans e6)
end
end K0

namespace K0
open PySem PySem.Spec PyProof.Rows L2 NSet
/-! ### the grid's members -/
theorem gs_len (g : List (List Int)) (r : List Int) : (gridStep g r).length = g.length * r.length := by
  unfold gridStep
  induction g with
  | nil => simp
  | cons x g ih => rw [List.flatMap_cons, List.length_append, ih, List.length_map, List.length_cons, Nat.succ_mul, Nat.add_comm]
theorem gf_len {c : Nat} : ∀ (rows : List (List Int)) (g : List (List Int)), (∀ r ∈ rows, r.length ≤ c) → (rows.foldl gridStep g).length ≤ g.length * c ^ rows.length
  | [], g, _ => by simp
  | r :: rows, g, h => by
    refine Nat.le_trans (gf_len rows (gridStep g r) fun x hx => h x (List.mem_cons_of_mem _ hx)) ?_
    rw [gs_len, List.length_cons, Nat.pow_succ, Nat.mul_comm (c ^ rows.length) c, ← Nat.mul_assoc]
    exact Nat.mul_le_mul_right _ (Nat.mul_le_mul_left _ (h r List.mem_cons_self))
theorem gf_bd : ∀ (rows : List (List Int)) (g : List (List Int)), (∀ x ∈ g, TS.Bd GH x) → (∀ r ∈ rows, TS.Bd GH r) → ∀ x ∈ rows.foldl gridStep g, TS.Bd GH x
  | [], g, h, _ => h
  | r :: rows, g, h, hr => gf_bd rows (gridStep g r) (fun x hx => by
      obtain ⟨y, hy, hz⟩ := List.mem_flatMap.mp hx
      obtain ⟨l, hl, rfl⟩ := List.mem_map.mp hz
      intro c hc
      rcases List.mem_append.mp hc with hc | hc
      · exact h y hy c hc
      · rw [List.mem_singleton.mp hc]
        exact hr r List.mem_cons_self l hl) fun x hx => hr x (List.mem_cons_of_mem _ hx)
theorem gf_pos : ∀ (rows : List (List Int)) (g : List (List Int)), 0 < g.length → (∀ r ∈ rows, 0 < r.length) → 0 < (rows.foldl gridStep g).length
  | [], g, h, _ => h
  | r :: rows, g, h, hr => gf_pos rows (gridStep g r) (by rw [gs_len]; exact Nat.mul_pos h (hr r List.mem_cons_self)) fun x hx => hr x (List.mem_cons_of_mem _ hx)
theorem das_li {K : PySem.W.Frag} {H : Hp} : ∀ {acc : List V} {rows : List (List Int)}, acc.length = rows.length → (∀ (j : Nat) (r : List Int), rows[j]? = some r → ∃ qa : Addr, acc[j]? = some (V.ref qa) ∧ H qa = some (.lst (r.map V.int))) → DaAll K H acc (rows.map li)
  | [], [], _, _ => .nil
  | v :: vs, r :: rs, hl, h => by
    obtain ⟨qa, h1, h2⟩ := h 0 r rfl
    have : v = .ref qa := by simpa using h1
    subst this
    exact .cons (.lst (SqL.of h2) (da_ints r)) (das_li (by simpa using hl) fun j r' hr => h (j + 1) r' (by simpa using hr))
  | [], _ :: _, hl, _ => nomatch hl
  | _ :: _, [], hl, _ => nomatch hl
def cap (n : Nat) : Nat := if n = 1 then 6 else if n = 2 then 5 else 3
theorem cap_at {n : Nat} (h1 : 1 ≤ n) (h2 : n ≤ 4) : atI [V.int 6, .int 5, .int 3, .int 3] ((n : Int) - 1) = some (.int (cap n : Nat)) := by
  have : n = 1 ∨ n = 2 ∨ n = 3 ∨ n = 4 := by omega
  rcases this with rfl | rfl | rfl | rfl <;> rfl
theorem cap_bd (n : Nat) : 1 ≤ cap n ∧ cap n ≤ 6 := by
  unfold cap
  split
  · omega
  · split
    · omega
    · omega
theorem cap_pow {n : Nat} (h1 : 1 ≤ n) (h2 : n ≤ 4) : cap n ^ n ≤ 81 := by
  have : n = 1 ∨ n = 2 ∨ n = 3 ∨ n = 4 := by omega
  rcases this with rfl | rfl | rfl | rfl <;> decide
def JClosed (g : List (List Int)) : Prop := ∀ x ∈ g, ∀ y ∈ g, joinL x y ∈ g
theorem joinL_snoc : ∀ {a b : List Int} (x y : Int), a.length = b.length → joinL (a ++ [x]) (b ++ [y]) = joinL a b ++ [if y > x then y else x]
  | [], [], _, _, _ => rfl
  | a :: as, b :: bs, x, y, h => by
    show (if b > a then b else a) :: joinL (as ++ [x]) (bs ++ [y]) = _
    rw [joinL_snoc x y (by simpa using h)]
    rfl
  | [], _ :: _, _, _, h => nomatch h
  | _ :: _, [], _, _, h => nomatch h
theorem gf_join : ∀ (rows : List (List Int)) (g : List (List Int)) (n : Nat), (∀ x ∈ g, x.length = n) → JClosed g → JClosed (rows.foldl gridStep g)
  | [], g, _, _, h => h
  | r :: rows, g, n, hl, h => by
    refine gf_join rows (gridStep g r) (n + 1) (gridStep_len hl) fun x hx y hy => ?_
    obtain ⟨p, hp, hx'⟩ := List.mem_flatMap.mp hx
    obtain ⟨q, hq, hy'⟩ := List.mem_flatMap.mp hy
    obtain ⟨a, ha, rfl⟩ := List.mem_map.mp hx'
    obtain ⟨b, hb, rfl⟩ := List.mem_map.mp hy'
    rw [joinL_snoc a b (by rw [hl p hp, hl q hq])]
    refine List.mem_flatMap.mpr ⟨joinL p q, h p hp q hq, List.mem_map.mpr ⟨if b > a then b else a, ?_, rfl⟩⟩
    split
    · exact hb
    · exact ha
theorem grid_join (rows : List (List Int)) : JClosed (gridL rows) := gf_join rows [[]] 0 (fun x hx => by rw [List.mem_singleton.mp hx]; rfl) fun x hx y hy => by
  rw [List.mem_singleton.mp hx, List.mem_singleton.mp hy]
  exact List.mem_singleton.mpr rfl
theorem mos_take {K : PySem.W.Frag} {H : Hp} : ∀ {a : List V} {x : List (List Int)}, DaAll K H a (x.map mo) → ∀ k, DaAll K H (a.take k) ((x.take k).map mo)
  | _, [], .nil, k => by rw [List.take_nil, List.take_nil]; exact .nil
  | _, _ :: _, .cons r t, 0 => .nil
  | _, _ :: _, .cons r t, k + 1 => .cons r (mos_take t k)
section
variable {P : Program} {w : World} {K : PySem.W.Frag} {mg : Str → Option Value} {base : Heap}
def spLaw (K : PySem.W.Frag) : Sp := fun vs H Q _ => ∃ (a : Addr) (ns : List Int), vs = [.ref a] ∧ SqL K H a (ns.map V.int) ∧ ns.length ≤ 63 ∧ ∀ H', Q (.bl true) H'
theorem d_law (B : Bt mg) (T : Top K mg "law" slaw ["script"]) (D_law_pot : Def P w K mg base "_law_pot" 1 ["script"] (spPot K)) (D_law_draw : Def P w K mg base "_law_draw" 1 ["pot", "size"] (spDraw K)) (D_law_levels : Def P w K mg base "_law_levels" 3 ["pot", "many"] (spLevels K)) (D_law_grid : Def P w K mg base "_law_grid" 1 ["levels"] (spGrid K))
    (D_law_moved : Def P w K mg base "_law_moved" 2 ["pot", "moment"] (spMoved K)) (D_law_pairs_hold : Def P w K mg base "_law_pairs_hold" 4 ["some"] (spPairs K)) (D_law_knows_moments : Def P w K mg base "_law_knows_moments" 3 ["moment", "place"] (spKnows K)) (D_law_closure_holds : Def P w K mg base "_law_closure_holds" 4 ["given", "span"] (spCloHolds K)) :
    Def P w K mg base "law" 5 ["script"] (spLaw K) := by
  refine mk_def T sclaw (by rintro _ _ _ _ ⟨_, _, rfl, _⟩; rfl) fun ff cdv A outer s H vs Q E hr h => ?_
  obtain ⟨a, ns, rfl, hS, hns, q⟩ := h
  refine ⟨_, (pss_cons (ps_set (i := 1) sclaw.nd rfl (Or.inr rfl) (pe_def D_law_pot (hr.mono (by first | decide | omega)) (by rfl) (pa_cons (pv 0) pa_nil)))
      (pss_cons (ps_set (i := 2) sclaw.nd rfl (Or.inr rfl) (pe_op op_add pe_int (pe_def D_law_draw (hr.mono (by first | decide | omega)) (by rfl) (pa_cons (pv 1) (pa_cons pe_int pa_nil)))))
      (pss_cons (ps_set (i := 3) sclaw.nd rfl (Or.inr rfl) (pe_def D_law_grid (hr.mono (by first | decide | omega)) (by rfl) (pa_cons (pe_lc (own := [("k", 4)]) (g := (gName 4)) (tt := tYes) (te := (tCall (spLevels K) [] E0 (tCons (tVar 1) (tCons (tOp (rIxL K) (tLst (tCons (tC (.int 6)) (tCons (tC (.int 5)) (tCons (tC (.int 3)) (tCons (tC (.int 3)) tNil))))) (tOp ySub (tVar 2) (tC (.int 1)))) tNil)))) rfl sclaw.nd (pi_range1 (by rfl) B.m_range (pa_cons (pv 2) pa_nil)) (blkOk_by (own := [("k", 4)]) (N := Nlaw) (sc := defScope slaw) (by decide +kernel)) (fun _ _ _ _ _ => (pg_name (i := 4) sclaw.nd rfl (Or.inl rfl))) (fun _ _ _ _ _ => pts_nil) (fun _ _ _ _ _ => (pe_def D_law_levels (hr.mono (by first | decide | omega)) (by rfl) (pa_cons (pv 1) (pa_cons (pe_ix ix_list (pe_lst (pa_cons pe_int (pa_cons pe_int (pa_cons pe_int (pa_cons pe_int pa_nil))))) (pe_op op_sub (pv 2) pe_int) (fun _ _ => rfl)) pa_nil))))) pa_nil)))
      (pss_cons (ps_set (i := 5) sclaw.nd rfl (Or.inl rfl) (pe_def D_law_draw (hr.mono (by first | decide | omega)) (by rfl) (pa_cons (pv 1) (pa_cons pe_int pa_nil))))
      (pss_cons (ps_setLc (i := 6) (own := [("k", 4)]) (g := (gName 4)) (tt := tYes) (te := (tOp (rIxL K) (tVar 3) (tCall (spDraw K) [] E0 (tCons (tVar 1) (tCons (tCB (yLen K) (tCons (tVar 3) tNil)) tNil))))) rfl sclaw.nd rfl rfl (sw_true rfl rfl rfl (by decide +kernel)) (pi_range1 (by rfl) B.m_range (pa_cons (pv 5) pa_nil)) (blkOk_by (own := [("k", 4)]) (N := Nlaw) (sc := defScope slaw) (by decide +kernel)) (fun _ _ _ _ _ => (pg_name (i := 4) sclaw.nd rfl (Or.inl rfl))) (fun _ _ _ _ _ => pts_nil) (fun _ _ _ _ _ => (pe_ix ix_list (pv 3) (pe_def D_law_draw (hr.mono (by first | decide | omega)) (by rfl) (pa_cons (pv 1) (pa_cons (pe_callB call_len_seq (by rfl) B.m_len PySem.boot_len (pa_cons (pv 3) pa_nil)) pa_nil))) (fun _ _ => rfl))))
      (pss_cons (ps_set (i := 7) sclaw.nd rfl (Or.inl rfl) (pe_ix ix_list (pv 3) (pe_def D_law_draw (hr.mono (by first | decide | omega)) (by rfl) (pa_cons (pv 1) (pa_cons (pe_callB call_len_seq (by rfl) B.m_len PySem.boot_len (pa_cons (pv 3) pa_nil)) pa_nil))) (fun _ _ => rfl)))
      (pss_cons (ps_set (i := 8) sclaw.nd rfl (Or.inl rfl) (pe_op op_cat (pe_lst (pa_cons (pv 7) (pa_cons (pe_def D_law_moved (hr.mono (by first | decide | omega)) (by rfl) (pa_cons (pv 1) (pa_cons (pv 7) pa_nil))) (pa_cons (pe_def D_law_moved (hr.mono (by first | decide | omega)) (by rfl) (pa_cons (pv 1) (pa_cons (pv 7) pa_nil))) pa_nil)))) (pe_slice sl_list (pv 6) po_none (po_some pe_int))))
      (pss_cons (ps_if (pt_not (pt_val (pe_def D_law_pairs_hold (hr.mono (by first | decide | omega)) (by rfl) (pa_cons (pv 8) pa_nil)))) (pss_one (ps_ret pe_bl)) pss_nil)
      (pss_cons (ps_if (pt_not (pt_val (pe_def D_law_knows_moments (hr.mono (by first | decide | omega)) (by rfl) (pa_cons (pv 7) (pa_cons (pe_def D_law_draw (hr.mono (by first | decide | omega)) (by rfl) (pa_cons (pv 1) (pa_cons (pv 2) pa_nil))) pa_nil))))) (pss_one (ps_ret pe_bl)) pss_nil)
      (pss_one (ps_ret (pe_def D_law_closure_holds (hr.mono (by first | decide | omega)) (by rfl) (pa_cons (pv 6) (pa_cons (pv 2) pa_nil)))))))))))))), ?_⟩
  -- pot, span
  refine ⟨.ref a, rfl, a, ns, rfl, hS, fun H1 p s1 np pt1 => ?_⟩
  refine ⟨.ref p, rfl, p, 4, rfl, pt1, by decide, by decide, fun H2 r s2 pt2 r0 r4 => ⟨_, _, rfl, rfl, ?_⟩⟩
  obtain ⟨n, hnv⟩ : ∃ n : Nat, (1 + r) = (n : Int) := ⟨(1 + r).toNat, by omega⟩
  have hn1 : 1 ≤ n := by omega
  have hn4 : n ≤ 4 := by omega
  -- the levels
  refine ⟨.int (1 + r), rfl, (1 + r), rfl, by omega, by omega, fun Db hDb => ?_⟩
  have npDb := pt2.ne hDb
  refine lc_it (walk_range (lo := 0) (n := (1 + r).toNat)) (fun i H' => SameB p H2 H' ∧ PotAt H' p ∧ ∃ (acc : List V) (rows : List (List Int)), H' Db = some (.lst acc) ∧ acc.length = rows.length ∧ rows.length = i ∧ (∀ r ∈ rows, r.length = cap n ∧ TS.Bd GH r ∧ r.Pairwise (· < ·)) ∧ ∀ (j : Nat) (r : List Int), rows[j]? = some r → ∃ qa : Addr, acc[j]? = some (V.ref qa) ∧ qa ≠ Db ∧ qa ≠ p ∧ H' qa = some (.lst (r.map V.int)))
    ⟨Same.b (same_upd hDb), pt2.upd npDb, [], [], upd_same, rfl, rfl, fun r hr => by simp at hr, fun j r hj => by simp at hj⟩ (fun i H' _ _ => True.intro) (fun i x H' H'' hi pv' y => ?_) (fun H3 pv' => ?_)
  · obtain ⟨rfl, rfl⟩ := y
    obtain ⟨e1, pt3, acc, rows, eb, hl0, hl, hrows, hat⟩ := pv'
    refine ⟨rfl, .ref p, rfl, by show 4 ≤ sizeLine; decide, fun l hl2 => ⟨.int (1 + r), rfl, _, _, rfl, rfl, l, _, (1 + r) - 1, _, rfl, rfl, SqL.of upd_same, (by rw [hnv]; exact cap_at hn1 hn4), p, cap n, rfl, pt3.upd (pt3.ne hl2), (cap_bd n).1, by have := (cap_bd n).2; omega, fun H5 qa r' s5 pt5 nqa eqa hlr hbr hpr => ?_⟩⟩
    have sA : SameB p H'' H5 := (Same.b (same_upd hl2)).trans s5
    have eb5 := sA _ _ npDb.symm eb
    have eb' : L2.upd H'' l (.lst [V.int 6, .int 5, .int 3, .int 3]) Db = some (.lst acc) := same_upd hl2 _ _ eb
    have nqD : qa ≠ Db := (ne_of_none eb' nqa).symm
    have nqp : qa ≠ p := fun z => by
      subst z
      obtain ⟨o, ho⟩ := (pt3.same (same_upd hl2)).there
      rw [nqa] at ho
      cases ho
    refine ⟨acc, eb5, ?_, (e1.trans sA).mut hDb, pt5.upd npDb, acc ++ [.ref qa], rows ++ [r'], upd_same, by simp [hl0], by simp [hl], fun z hz => ?_, fun j z hj => ?_⟩
    · rw [hl0, hl]
      exact Nat.lt_of_lt_of_le hi (Nat.le_trans (show (1 + r).toNat ≤ 4 by omega) (by decide))
    · rcases List.mem_append.mp hz with hz | hz
      · exact hrows z hz
      · rw [List.mem_singleton.mp hz]
        exact ⟨hlr, hbr, hpr⟩
    · by_cases hj' : j < rows.length
      · rw [List.getElem?_append_left hj'] at hj
        obtain ⟨qb, h1, h2, h3, h4⟩ := hat j z hj
        exact ⟨qb, by rw [List.getElem?_append_left (by omega)]; exact h1, h2, h3, by rw [upd_ne h2]; exact sA _ _ h3 h4⟩
      · rw [List.getElem?_append_right (by omega)] at hj
        have hj0 : j - rows.length = 0 := by
          have := (List.getElem?_eq_some_iff.mp hj).1
          simp at this
          omega
        rw [hj0] at hj
        have hz : r' = z := by simpa using hj
        subst hz
        refine ⟨qa, ?_, nqD, nqp, by rw [upd_ne nqD]; exact eqa⟩
        rw [List.getElem?_append_right (by omega), hl0, hj0]
        rfl
  obtain ⟨e3, pt3, acc, rows, eb, hl0, hl, hrows, hat⟩ := pv'
  have hl4 : rows.length = n := by omega
  have hcap : ∀ z ∈ rows, z.length ≤ cap n := fun z hz => by rw [(hrows z hz).1]; exact Nat.le_refl _
  have hgl : ∀ rs : List (List Int), (∀ z ∈ rs, z.length ≤ cap n) → rs.length ≤ n → (gridL rs).length ≤ 81 := fun rs h1 h2 => by
    refine Nat.le_trans (gf_len rs [[]] h1) ?_
    rw [List.length_singleton, Nat.one_mul]
    exact Nat.le_trans (Nat.pow_le_pow_right (cap_bd n).1 h2) (cap_pow hn1 hn4)
  have dDb : Da K H3 (.ref Db) (.list (rows.map li)) := .lst (SqL.of eb) (das_li hl0 fun j z hj => by
    obtain ⟨qb, h1, _, _, h4⟩ := hat j z hj
    exact ⟨qb, h1, h4⟩)
  -- the grid
  refine ⟨Db, rows, rfl, dDb, by omega, fun i => Nat.le_trans (hgl (rows.take i) (fun z hz => hcap z (List.mem_of_mem_take hz)) (by rw [List.length_take]; omega)) (by decide), fun z hz => Nat.le_trans (hcap z hz) (Nat.le_trans (cap_bd n).2 (by decide)), fun H4 gA gv s4 ngA egA dgA => ?_⟩
  obtain ⟨grid, hgrid⟩ : ∃ grid, grid = gridL rows := ⟨_, rfl⟩
  rw [← hgrid] at dgA
  have hgA : MoL K H4 (.ref gA) grid := ⟨gA, gv, rfl, egA, dgA⟩
  have hgok : ∀ m ∈ grid, Ok n m := fun m hm => by
    rw [hgrid] at hm
    exact ⟨by rw [gridL_len rows.length rows rfl m hm, hl4], fun c hc => by
      have := gf_bd rows [[]] (fun x hx => by rw [List.mem_singleton.mp hx]; exact fun c hc => by simp at hc) (fun z hz => (hrows z hz).2.1) m hm c hc
      exact ⟨this.1, Int.lt_trans this.2 (by decide)⟩⟩
  have hglen : grid.length ≤ 81 := by
    rw [hgrid]
    exact hgl rows hcap (by omega)
  have hgne : grid ≠ [] := by
    rw [hgrid]
    exact List.length_pos_iff.mp (gf_pos rows [[]] (by decide) fun z hz => by rw [(hrows z hz).1]; have := (cap_bd n).1; omega)
  have pt4 := pt3.same s4
  have bx : Box n grid := ⟨by omega, hgok, fun a ha b hb => by
    rw [hgrid] at ha hb ⊢
    exact grid_join rows a ha b hb⟩
  -- given
  refine ⟨.ref p, rfl, p, 13, rfl, pt4, by decide, by decide, fun H5 many s5 pt5 m0 m13 => ⟨.int many, rfl, many, rfl, by omega, by omega, fun Dg hDg => ?_⟩⟩
  have hgA5 := hgA.sameB s5 pt4
  have npDg := pt5.ne hDg
  refine lc_it (walk_range (lo := 0) (n := many.toNat)) (fun i H' => SameB p H5 H' ∧ PotAt H' p ∧ ∃ (gms : List (List Int)), MoL K H' (.ref Dg) gms ∧ gms.length = i ∧ ∀ m ∈ gms, m ∈ grid)
    ⟨Same.b (same_upd hDg), pt5.upd npDg, [], ⟨Dg, [], rfl, upd_same, .nil⟩, rfl, fun m hm => by simp at hm⟩ (fun i H' _ _ => True.intro) (fun i x H' H'' hi pv' y => ?_) (fun H6 pv' => ?_)
  · obtain ⟨rfl, rfl⟩ := y
    obtain ⟨e1, pt6, gms, hG, hl, hin⟩ := pv'
    have hg1 := hgA5.sameB e1 pt5
    obtain ⟨ga', lv', ea', ha1, hd1⟩ := id hg1
    cases ea'
    have ll : lv'.length = grid.length := by simpa using hd1.length
    have hpos : 0 < grid.length := List.length_pos_iff.mpr hgne
    refine ⟨rfl, .ref gA, rfl, .ref p, rfl, .ref gA, rfl, gA, _, rfl, .inl (SqL.of ha1), p, (lv'.length : Nat), rfl, pt6, by omega, by omega, fun H7 r2 s7 pt7 r02 r12 => ?_⟩
    obtain ⟨ga2, lv2, ea2, ha2, hd2⟩ := id (hg1.sameB s7 pt6)
    cases ea2
    have ll2 : lv2.length = grid.length := by simpa using hd2.length
    have hlt2 : r2.toNat < lv2.length := by omega
    obtain ⟨dd, h1, h2⟩ := hd2.get (i := r2.toNat) (v := lv2[r2.toNat]) (by simp [hlt2])
    obtain ⟨m, hm, rfl⟩ := mo_at h1
    refine ⟨gA, lv2, r2, lv2[r2.toNat], rfl, rfl, SqL.of ha2, at_of (j := r2.toNat) (by omega) (by simp [hlt2]), ?_⟩
    obtain ⟨Dg', lv, eD, h3, h4⟩ := hG.sameB s7 pt6
    cases eD
    have lv1 : lv.length = gms.length := by simpa using h4.length
    have st : ST K H7 (L2.upd H7 Dg (.lst (lv ++ [lv2[r2.toNat]]))) := st_upd h3 True.intro
    refine ⟨lv, h3, ?_, (e1.trans s7).mut hDg, pt7.upd npDg, gms ++ [m], ⟨Dg, _, rfl, upd_same, ?_⟩, by simp [hl], fun z hz => ?_⟩
    · rw [lv1, hl]
      exact Nat.lt_of_lt_of_le hi (Nat.le_trans (show many.toNat ≤ 13 by omega) (by decide))
    · rw [List.map_append]
      exact DaAll.snoc (Da.st st _ _ (imm_mo _) h2) (Da.stAll st _ _ (imm_mos _) h4)
    · rcases List.mem_append.mp hz with hz | hz
      · exact hin z hz
      · rw [List.mem_singleton.mp hz]
        exact List.mem_of_getElem? hm
  obtain ⟨e6, pt6, gms, hG, hGl, hGin⟩ := pv'
  have hA6 := hgA5.sameB e6 pt5
  -- moment
  obtain ⟨ga', lv', ea', ha1, hd1⟩ := id hA6
  cases ea'
  have ll : lv'.length = grid.length := by simpa using hd1.length
  have hpos : 0 < grid.length := List.length_pos_iff.mpr hgne
  refine ⟨.ref gA, rfl, .ref p, rfl, .ref gA, rfl, gA, _, rfl, .inl (SqL.of ha1), p, (lv'.length : Nat), rfl, pt6, by omega, by omega, fun H7 r2 s7 pt7 r02 r12 => ?_⟩
  have hA7 := hA6.sameB s7 pt6
  have hG7 := hG.sameB s7 pt6
  obtain ⟨ga2, lv2, ea2, ha2, hd2⟩ := id hA7
  cases ea2
  have ll2 : lv2.length = grid.length := by simpa using hd2.length
  obtain ⟨m, hm⟩ : ∃ m, grid[r2.toNat]? = some m := ⟨_, List.getElem?_eq_getElem (by omega)⟩
  obtain ⟨mb, hxb, hmb⟩ := mo_ref hd2 hm
  refine ⟨gA, lv2, r2, .ref mb, rfl, rfl, SqL.of ha2, at_of (j := r2.toNat) (by omega) hxb, ?_⟩
  have hM7 : Mo K H7 (.ref mb) m := Mo.of hmb
  have nnm : Nn n m := (hgok m (List.mem_of_getElem? hm)).nn
  -- some
  refine ⟨.ref mb, rfl, .ref p, rfl, .ref mb, rfl, p, .ref mb, n, m, rfl, pt7, hM7, nnm, hn4, fun H8 y1 m1 s8 pt8 hy1 nn1 => ?_⟩
  have hM8 := Mo.sameB hM7 s8 pt7
  refine ⟨.ref p, rfl, .ref mb, rfl, p, .ref mb, n, m, rfl, pt8, hM8, nnm, hn4, fun H9 y2 m2 s9 pt9 hy2 nn2 => ⟨by show 3 ≤ sizeLine; decide, fun l1 hl1 => ?_⟩⟩
  have hM9 := Mo.sameB hM8 s9 pt8
  have hy19 := Mo.sameB hy1 s9 pt8
  have hG9 := (hG7.sameB s8 pt7).sameB s9 pt8
  have s10 := same_upd (o := .lst [.ref mb, y1, y2]) hl1
  have f10 : L2.upd H9 l1 (.lst [.ref mb, y1, y2]) l1 = some (.lst [.ref mb, y1, y2]) := upd_same
  have pt10 := pt9.same s10
  generalize L2.upd H9 l1 (.lst [.ref mb, y1, y2]) = H10 at s10 f10 pt10 ⊢
  obtain ⟨dg', gv', eg', hg10, dg10⟩ := id (hG9.same s10)
  cases eg'
  refine ⟨.ref Dg, rfl, 3, rfl, Dg, gv', rfl, SqL.of hg10, fun l2 hl2 => ?_⟩
  have s11 := same_upd (o := .lst (cutV gv' none (some 3))) hl2
  have f11 : L2.upd H10 l2 (.lst (cutV gv' none (some 3))) l2 = some (.lst (cutV gv' none (some 3))) := upd_same
  have pt11 := pt10.same s11
  generalize L2.upd H10 l2 (.lst (cutV gv' none (some 3))) = H11 at s11 f11 pt11 ⊢
  have lgv : gv'.length = gms.length := by simpa using dg10.length
  have c3 : cutV gv' none (some 3) = gv'.take 3 := by
    unfold cutV
    rw [HT.sIx_none, show HT.sIx gv'.length gv'.length (some 3) = min 3 gv'.length from HT.sIx_nat _ _ 3, List.drop_zero, Nat.sub_zero, ← List.take_take, List.take_length]
  rw [c3] at f11
  refine ⟨l1, l2, _, _, rfl, rfl, s11 _ _ f10, f11, by rw [List.length_take]; exact Nat.le_trans (show 3 + min 3 gv'.length ≤ 6 by omega) (by decide), fun l3 hl3 => ?_⟩
  have s12 := same_upd (o := .lst ([.ref mb, y1, y2] ++ gv'.take 3)) hl3
  have f12 : L2.upd H11 l3 (.lst ([.ref mb, y1, y2] ++ gv'.take 3)) l3 = some (.lst ([.ref mb, y1, y2] ++ gv'.take 3)) := upd_same
  have pt12 := pt11.same s12
  generalize L2.upd H11 l3 (.lst ([.ref mb, y1, y2] ++ gv'.take 3)) = H12 at s12 f12 pt12 ⊢
  have s912 := (s10.trans s11).trans s12
  have d12 : DaAll K H12 ([.ref mb, y1, y2] ++ gv'.take 3) (([m, m1, m2] ++ gms.take 3).map mo) :=
    mos_app (.cons (Mo.same hM9 s912) (.cons (Mo.same hy19 s912) (.cons (Mo.same hy2 s912) .nil))) (mos_take (Da.sameAll (s11.trans s12) _ _ dg10) 3)
  -- the pairs
  refine ⟨.ref l3, rfl, l3, _, n, _, rfl, f12, d12, fun x hx => ?_, hn4, fun H13 s13 => ⟨true, rfl, iteF ?_⟩⟩
  · rcases List.mem_append.mp hx with hx | hx
    · simp only [List.mem_cons, List.not_mem_nil, or_false] at hx
      rcases hx with rfl | rfl | rfl
      · exact nnm
      · exact nn1
      · exact nn2
    · exact (hgok x (hGin x (List.mem_of_mem_take hx))).nn
  have pt13 := pt12.same s13
  -- what it knows
  refine ⟨.ref mb, rfl, .ref p, rfl, .int (1 + r), rfl, p, (1 + r), rfl, pt13, by omega, by omega, fun H14 r3 s14 pt14 r30 r31 => ?_⟩
  obtain ⟨pl, rfl⟩ : ∃ pl : Nat, r3 = (pl : Int) := ⟨r3.toNat, by omega⟩
  have s913 := s912.trans s13
  refine ⟨.ref mb, n, m, pl, rfl, Mo.sameB (Mo.same hM9 s913) s14 pt13, nnm, hn4, by omega, fun H15 s15 => ⟨true, rfl, iteF ?_⟩⟩
  exact ⟨.ref Dg, rfl, .int (1 + r), rfl, .ref Dg, (1 + r), n, gms, grid, rfl, hnv, ((hG9.same s913).sameB s14 pt13).same s15, bx, hGin, by omega, hn1, hn4, fun H16 s16 => q H16⟩
end
end K0

namespace K0
open PySem PySem.Spec PyProof.Rows L2 NSet
section
theorem all_mk {l : PySem.W.OpenLaw} {w : World} {K : PySem.W.Frag} {h : Heap} {mg : Str → Option Value} {fa f0 f1 f2 f3 f4 f5 f6 f7 f8 f9 f10 f11 f12 f13 f14 f15 f16 f17 f18 f19 f20 f21 f22 f23 : Addr} (X : K.In h) (G : h.Ns mainGlobals mg) (hfa : mg "law" = some (.ref fa))
    {od0 an0 : Option Addr} {sl0 : Array (Option Value)} {oc0 kV0 dc0 pm0 cd0 ct0 : Value}
    {od1 an1 : Option Addr} {sl1 : Array (Option Value)} {oc1 kV1 dc1 pm1 cd1 ct1 : Value}
    {od2 an2 : Option Addr} {sl2 : Array (Option Value)} {oc2 kV2 dc2 pm2 cd2 ct2 : Value}
    {od3 an3 : Option Addr} {sl3 : Array (Option Value)} {oc3 kV3 dc3 pm3 cd3 ct3 : Value}
    {od4 an4 : Option Addr} {sl4 : Array (Option Value)} {oc4 kV4 dc4 pm4 cd4 ct4 : Value}
    {od5 an5 : Option Addr} {sl5 : Array (Option Value)} {oc5 kV5 dc5 pm5 cd5 ct5 : Value}
    {od6 an6 : Option Addr} {sl6 : Array (Option Value)} {oc6 kV6 dc6 pm6 cd6 ct6 : Value}
    {od7 an7 : Option Addr} {sl7 : Array (Option Value)} {oc7 kV7 dc7 pm7 cd7 ct7 : Value}
    {od8 an8 : Option Addr} {sl8 : Array (Option Value)} {oc8 kV8 dc8 pm8 cd8 ct8 : Value}
    {od9 an9 : Option Addr} {sl9 : Array (Option Value)} {oc9 kV9 dc9 pm9 cd9 ct9 : Value}
    {od10 an10 : Option Addr} {sl10 : Array (Option Value)} {oc10 kV10 dc10 pm10 cd10 ct10 : Value}
    {od11 an11 : Option Addr} {sl11 : Array (Option Value)} {oc11 kV11 dc11 pm11 cd11 ct11 : Value}
    {od12 an12 : Option Addr} {sl12 : Array (Option Value)} {oc12 kV12 dc12 pm12 cd12 ct12 : Value}
    {od13 an13 : Option Addr} {sl13 : Array (Option Value)} {oc13 kV13 dc13 pm13 cd13 ct13 : Value}
    {od14 an14 : Option Addr} {sl14 : Array (Option Value)} {oc14 kV14 dc14 pm14 cd14 ct14 : Value}
    {od15 an15 : Option Addr} {sl15 : Array (Option Value)} {oc15 kV15 dc15 pm15 cd15 ct15 : Value}
    {od16 an16 : Option Addr} {sl16 : Array (Option Value)} {oc16 kV16 dc16 pm16 cd16 ct16 : Value}
    {od17 an17 : Option Addr} {sl17 : Array (Option Value)} {oc17 kV17 dc17 pm17 cd17 ct17 : Value}
    {od18 an18 : Option Addr} {sl18 : Array (Option Value)} {oc18 kV18 dc18 pm18 cd18 ct18 : Value}
    {od19 an19 : Option Addr} {sl19 : Array (Option Value)} {oc19 kV19 dc19 pm19 cd19 ct19 : Value}
    {od20 an20 : Option Addr} {sl20 : Array (Option Value)} {oc20 kV20 dc20 pm20 cd20 ct20 : Value}
    {od21 an21 : Option Addr} {sl21 : Array (Option Value)} {oc21 kV21 dc21 pm21 cd21 ct21 : Value}
    {od22 an22 : Option Addr} {sl22 : Array (Option Value)} {oc22 kV22 dc22 pm22 cd22 ct22 : Value}
    {od23 an23 : Option Addr} {sl23 : Array (Option Value)} {oc23 kV23 dc23 pm23 cd23 ct23 : Value}
    (a0 : PySem.W.nsIn K mainGlobals "is_number" = some (some (.ref f0))) (l0 : K.lookup f0 = some ⟨oc0, od0, .func (PySem.W.fnOf "is_number" "is_number" (defArgs sis_number) (defBody sis_number) (defScope sis_number) .none kV0 dc0 pm0 an0 cd0 ct0), sl0⟩) (c0 : PySem.W.codeIn K cd0 "is_number" = true) (k0 : PySem.W.keepIn K (.ref f0) = true)
    (a1 : PySem.W.nsIn K mainGlobals "is_moment" = some (some (.ref f1))) (l1 : K.lookup f1 = some ⟨oc1, od1, .func (PySem.W.fnOf "is_moment" "is_moment" (defArgs sis_moment) (defBody sis_moment) (defScope sis_moment) .none kV1 dc1 pm1 an1 cd1 ct1), sl1⟩) (c1 : PySem.W.codeIn K cd1 "is_moment" = true) (k1 : PySem.W.keepIn K (.ref f1) = true)
    (a2 : PySem.W.nsIn K mainGlobals "before" = some (some (.ref f2))) (l2 : K.lookup f2 = some ⟨oc2, od2, .func (PySem.W.fnOf "before" "before" (defArgs sbefore) (defBody sbefore) (defScope sbefore) .none kV2 dc2 pm2 an2 cd2 ct2), sl2⟩) (c2 : PySem.W.codeIn K cd2 "before" = true) (k2 : PySem.W.keepIn K (.ref f2) = true)
    (a3 : PySem.W.nsIn K mainGlobals "join_of" = some (some (.ref f3))) (l3 : K.lookup f3 = some ⟨oc3, od3, .func (PySem.W.fnOf "join_of" "join_of" (defArgs sjoin_of) (defBody sjoin_of) (defScope sjoin_of) .none kV3 dc3 pm3 an3 cd3 ct3), sl3⟩) (c3 : PySem.W.codeIn K cd3 "join_of" = true) (k3 : PySem.W.keepIn K (.ref f3) = true)
    (a4 : PySem.W.nsIn K mainGlobals "meet_of" = some (some (.ref f4))) (l4 : K.lookup f4 = some ⟨oc4, od4, .func (PySem.W.fnOf "meet_of" "meet_of" (defArgs smeet_of) (defBody smeet_of) (defScope smeet_of) .none kV4 dc4 pm4 an4 cd4 ct4), sl4⟩) (c4 : PySem.W.codeIn K cd4 "meet_of" = true) (k4 : PySem.W.keepIn K (.ref f4) = true)
    (a5 : PySem.W.nsIn K mainGlobals "closure" = some (some (.ref f5))) (l5 : K.lookup f5 = some ⟨oc5, od5, .func (PySem.W.fnOf "closure" "closure" (defArgs sclosure) (defBody sclosure) (defScope sclosure) .none kV5 dc5 pm5 an5 cd5 ct5), sl5⟩) (c5 : PySem.W.codeIn K cd5 "closure" = true) (k5 : PySem.W.keepIn K (.ref f5) = true)
    (a6 : PySem.W.nsIn K mainGlobals "_law_pot" = some (some (.ref f6))) (l6 : K.lookup f6 = some ⟨oc6, od6, .func (PySem.W.fnOf "_law_pot" "_law_pot" (defArgs s_law_pot) (defBody s_law_pot) (defScope s_law_pot) .none kV6 dc6 pm6 an6 cd6 ct6), sl6⟩) (c6 : PySem.W.codeIn K cd6 "_law_pot" = true) (k6 : PySem.W.keepIn K (.ref f6) = true)
    (a7 : PySem.W.nsIn K mainGlobals "_law_draw" = some (some (.ref f7))) (l7 : K.lookup f7 = some ⟨oc7, od7, .func (PySem.W.fnOf "_law_draw" "_law_draw" (defArgs s_law_draw) (defBody s_law_draw) (defScope s_law_draw) .none kV7 dc7 pm7 an7 cd7 ct7), sl7⟩) (c7 : PySem.W.codeIn K cd7 "_law_draw" = true) (k7 : PySem.W.keepIn K (.ref f7) = true)
    (a8 : PySem.W.nsIn K mainGlobals "_law_great" = some (some (.ref f8))) (l8 : K.lookup f8 = some ⟨oc8, od8, .func (PySem.W.fnOf "_law_great" "_law_great" (defArgs s_law_great) (defBody s_law_great) (defScope s_law_great) .none kV8 dc8 pm8 an8 cd8 ct8), sl8⟩) (c8 : PySem.W.codeIn K cd8 "_law_great" = true) (k8 : PySem.W.keepIn K (.ref f8) = true)
    (a9 : PySem.W.nsIn K mainGlobals "_law_levels" = some (some (.ref f9))) (l9 : K.lookup f9 = some ⟨oc9, od9, .func (PySem.W.fnOf "_law_levels" "_law_levels" (defArgs s_law_levels) (defBody s_law_levels) (defScope s_law_levels) .none kV9 dc9 pm9 an9 cd9 ct9), sl9⟩) (c9 : PySem.W.codeIn K cd9 "_law_levels" = true) (k9 : PySem.W.keepIn K (.ref f9) = true)
    (a10 : PySem.W.nsIn K mainGlobals "_law_grid" = some (some (.ref f10))) (l10 : K.lookup f10 = some ⟨oc10, od10, .func (PySem.W.fnOf "_law_grid" "_law_grid" (defArgs s_law_grid) (defBody s_law_grid) (defScope s_law_grid) .none kV10 dc10 pm10 an10 cd10 ct10), sl10⟩) (c10 : PySem.W.codeIn K cd10 "_law_grid" = true) (k10 : PySem.W.keepIn K (.ref f10) = true)
    (a11 : PySem.W.nsIn K mainGlobals "_law_is_integer" = some (some (.ref f11))) (l11 : K.lookup f11 = some ⟨oc11, od11, .func (PySem.W.fnOf "_law_is_integer" "_law_is_integer" (defArgs s_law_is_integer) (defBody s_law_is_integer) (defScope s_law_is_integer) .none kV11 dc11 pm11 an11 cd11 ct11), sl11⟩) (c11 : PySem.W.codeIn K cd11 "_law_is_integer" = true) (k11 : PySem.W.keepIn K (.ref f11) = true)
    (a12 : PySem.W.nsIn K mainGlobals "_law_is_moment" = some (some (.ref f12))) (l12 : K.lookup f12 = some ⟨oc12, od12, .func (PySem.W.fnOf "_law_is_moment" "_law_is_moment" (defArgs s_law_is_moment) (defBody s_law_is_moment) (defScope s_law_is_moment) .none kV12 dc12 pm12 an12 cd12 ct12), sl12⟩) (c12 : PySem.W.codeIn K cd12 "_law_is_moment" = true) (k12 : PySem.W.keepIn K (.ref f12) = true)
    (a13 : PySem.W.nsIn K mainGlobals "_law_are_moments" = some (some (.ref f13))) (l13 : K.lookup f13 = some ⟨oc13, od13, .func (PySem.W.fnOf "_law_are_moments" "_law_are_moments" (defArgs s_law_are_moments) (defBody s_law_are_moments) (defScope s_law_are_moments) .none kV13 dc13 pm13 an13 cd13 ct13), sl13⟩) (c13 : PySem.W.codeIn K cd13 "_law_are_moments" = true) (k13 : PySem.W.keepIn K (.ref f13) = true)
    (a14 : PySem.W.nsIn K mainGlobals "_law_before" = some (some (.ref f14))) (l14 : K.lookup f14 = some ⟨oc14, od14, .func (PySem.W.fnOf "_law_before" "_law_before" (defArgs s_law_before) (defBody s_law_before) (defScope s_law_before) .none kV14 dc14 pm14 an14 cd14 ct14), sl14⟩) (c14 : PySem.W.codeIn K cd14 "_law_before" = true) (k14 : PySem.W.keepIn K (.ref f14) = true)
    (a15 : PySem.W.nsIn K mainGlobals "_law_join" = some (some (.ref f15))) (l15 : K.lookup f15 = some ⟨oc15, od15, .func (PySem.W.fnOf "_law_join" "_law_join" (defArgs s_law_join) (defBody s_law_join) (defScope s_law_join) .none kV15 dc15 pm15 an15 cd15 ct15), sl15⟩) (c15 : PySem.W.codeIn K cd15 "_law_join" = true) (k15 : PySem.W.keepIn K (.ref f15) = true)
    (a16 : PySem.W.nsIn K mainGlobals "_law_moved" = some (some (.ref f16))) (l16 : K.lookup f16 = some ⟨oc16, od16, .func (PySem.W.fnOf "_law_moved" "_law_moved" (defArgs s_law_moved) (defBody s_law_moved) (defScope s_law_moved) .none kV16 dc16 pm16 an16 cd16 ct16), sl16⟩) (c16 : PySem.W.codeIn K cd16 "_law_moved" = true) (k16 : PySem.W.keepIn K (.ref f16) = true)
    (a17 : PySem.W.nsIn K mainGlobals "_law_pair_holds" = some (some (.ref f17))) (l17 : K.lookup f17 = some ⟨oc17, od17, .func (PySem.W.fnOf "_law_pair_holds" "_law_pair_holds" (defArgs s_law_pair_holds) (defBody s_law_pair_holds) (defScope s_law_pair_holds) .none kV17 dc17 pm17 an17 cd17 ct17), sl17⟩) (c17 : PySem.W.codeIn K cd17 "_law_pair_holds" = true) (k17 : PySem.W.keepIn K (.ref f17) = true)
    (a18 : PySem.W.nsIn K mainGlobals "_law_pairs_hold" = some (some (.ref f18))) (l18 : K.lookup f18 = some ⟨oc18, od18, .func (PySem.W.fnOf "_law_pairs_hold" "_law_pairs_hold" (defArgs s_law_pairs_hold) (defBody s_law_pairs_hold) (defScope s_law_pairs_hold) .none kV18 dc18 pm18 an18 cd18 ct18), sl18⟩) (c18 : PySem.W.codeIn K cd18 "_law_pairs_hold" = true) (k18 : PySem.W.keepIn K (.ref f18) = true)
    (a19 : PySem.W.nsIn K mainGlobals "_law_odd_values" = some (some (.ref f19))) (l19 : K.lookup f19 = some ⟨oc19, od19, .func (PySem.W.fnOf "_law_odd_values" "_law_odd_values" (defArgs s_law_odd_values) (defBody s_law_odd_values) (defScope s_law_odd_values) .none kV19 dc19 pm19 an19 cd19 ct19), sl19⟩) (c19 : PySem.W.codeIn K cd19 "_law_odd_values" = true) (k19 : PySem.W.keepIn K (.ref f19) = true)
    (a20 : PySem.W.nsIn K mainGlobals "_law_knows_moments" = some (some (.ref f20))) (l20 : K.lookup f20 = some ⟨oc20, od20, .func (PySem.W.fnOf "_law_knows_moments" "_law_knows_moments" (defArgs s_law_knows_moments) (defBody s_law_knows_moments) (defScope s_law_knows_moments) .none kV20 dc20 pm20 an20 cd20 ct20), sl20⟩) (c20 : PySem.W.codeIn K cd20 "_law_knows_moments" = true) (k20 : PySem.W.keepIn K (.ref f20) = true)
    (a21 : PySem.W.nsIn K mainGlobals "_law_joined" = some (some (.ref f21))) (l21 : K.lookup f21 = some ⟨oc21, od21, .func (PySem.W.fnOf "_law_joined" "_law_joined" (defArgs s_law_joined) (defBody s_law_joined) (defScope s_law_joined) .none kV21 dc21 pm21 an21 cd21 ct21), sl21⟩) (c21 : PySem.W.codeIn K cd21 "_law_joined" = true) (k21 : PySem.W.keepIn K (.ref f21) = true)
    (a22 : PySem.W.nsIn K mainGlobals "_law_closure_holds" = some (some (.ref f22))) (l22 : K.lookup f22 = some ⟨oc22, od22, .func (PySem.W.fnOf "_law_closure_holds" "_law_closure_holds" (defArgs s_law_closure_holds) (defBody s_law_closure_holds) (defScope s_law_closure_holds) .none kV22 dc22 pm22 an22 cd22 ct22), sl22⟩) (c22 : PySem.W.codeIn K cd22 "_law_closure_holds" = true) (k22 : PySem.W.keepIn K (.ref f22) = true)
    (a23 : PySem.W.nsIn K mainGlobals "law" = some (some (.ref f23))) (l23 : K.lookup f23 = some ⟨oc23, od23, .func (PySem.W.fnOf "law" "law" (defArgs slaw) (defBody slaw) (defScope slaw) .none kV23 dc23 pm23 an23 cd23 ct23), sl23⟩) (c23 : PySem.W.codeIn K cd23 "law" = true) (k23 : PySem.W.keepIn K (.ref f23) = true)
    (z0 : PySem.W.nsIn K mainGlobals "all" = some none)
    (z1 : PySem.W.nsIn K mainGlobals "zip" = some none)
    (z2 : PySem.W.nsIn K mainGlobals "tuple" = some none)
    (z3 : PySem.W.nsIn K mainGlobals "max" = some none)
    (z4 : PySem.W.nsIn K mainGlobals "min" = some none)
    (z5 : PySem.W.nsIn K mainGlobals "int" = some none)
    (z6 : PySem.W.nsIn K mainGlobals "bool" = some none)
    (z7 : PySem.W.nsIn K mainGlobals "len" = some none)
    (z8 : PySem.W.nsIn K mainGlobals "range" = some none)
    (z9 : PySem.W.nsIn K mainGlobals "isinstance" = some none)
    (z10 : PySem.W.nsIn K mainGlobals "list" = some none)
    (z11 : PySem.W.nsIn K mainGlobals "any" = some none)
    (z12 : PySem.W.nsIn K mainGlobals "set" = some none)
    (z13 : PySem.W.nsIn K mainGlobals "sorted" = some none)
    : ∃ fd : FuncData, (∀ (s : Shared) (v : Value), BindsTo s fd ⟨[v], []⟩ [("script", v)]) ∧ ∀ base : Heap, K.In base → base.Ns mainGlobals mg → FnOk l.prog w K mg base CX0 5 fa fd ["script"] (spLaw K) := by
  have e := hfa.symm.trans (PySem.W.mg_of X G a23)
  cases e
  have B : Bt mg := ⟨PySem.W.mg_none_of X G z0, PySem.W.mg_none_of X G z1, PySem.W.mg_none_of X G z2, PySem.W.mg_none_of X G z3, PySem.W.mg_none_of X G z4, PySem.W.mg_none_of X G z5, PySem.W.mg_none_of X G z6, PySem.W.mg_none_of X G z7, PySem.W.mg_none_of X G z8, PySem.W.mg_none_of X G z9, PySem.W.mg_none_of X G z10, PySem.W.mg_none_of X G z11, PySem.W.mg_none_of X G z12, PySem.W.mg_none_of X G z13⟩
  have F0 := fun_mk (st := sis_number) l0 c0 k0
  have Tis_number : Top K mg "is_number" sis_number ["value"] := ⟨_, _, F0, PySem.W.mg_of X G a0, F0.binds (ps := ["value"]) fun _ _ _ _ _ _ us hl => match us, hl with | [_], _ => rfl⟩
  have F1 := fun_mk (st := sis_moment) l1 c1 k1
  have Tis_moment : Top K mg "is_moment" sis_moment ["value", "axes"] := ⟨_, _, F1, PySem.W.mg_of X G a1, F1.binds (ps := ["value", "axes"]) fun _ _ _ _ _ _ us hl => match us, hl with | [_, _], _ => rfl⟩
  have F2 := fun_mk (st := sbefore) l2 c2 k2
  have Tbefore : Top K mg "before" sbefore ["first", "second"] := ⟨_, _, F2, PySem.W.mg_of X G a2, F2.binds (ps := ["first", "second"]) fun _ _ _ _ _ _ us hl => match us, hl with | [_, _], _ => rfl⟩
  have F3 := fun_mk (st := sjoin_of) l3 c3 k3
  have Tjoin_of : Top K mg "join_of" sjoin_of ["first", "second"] := ⟨_, _, F3, PySem.W.mg_of X G a3, F3.binds (ps := ["first", "second"]) fun _ _ _ _ _ _ us hl => match us, hl with | [_, _], _ => rfl⟩
  have F4 := fun_mk (st := smeet_of) l4 c4 k4
  have Tmeet_of : Top K mg "meet_of" smeet_of ["first", "second"] := ⟨_, _, F4, PySem.W.mg_of X G a4, F4.binds (ps := ["first", "second"]) fun _ _ _ _ _ _ us hl => match us, hl with | [_, _], _ => rfl⟩
  have F5 := fun_mk (st := sclosure) l5 c5 k5
  have Tclosure : Top K mg "closure" sclosure ["moments"] := ⟨_, _, F5, PySem.W.mg_of X G a5, F5.binds (ps := ["moments"]) fun _ _ _ _ _ _ us hl => match us, hl with | [_], _ => rfl⟩
  have F6 := fun_mk (st := s_law_pot) l6 c6 k6
  have T_law_pot : Top K mg "_law_pot" s_law_pot ["script"] := ⟨_, _, F6, PySem.W.mg_of X G a6, F6.binds (ps := ["script"]) fun _ _ _ _ _ _ us hl => match us, hl with | [_], _ => rfl⟩
  have F7 := fun_mk (st := s_law_draw) l7 c7 k7
  have T_law_draw : Top K mg "_law_draw" s_law_draw ["pot", "size"] := ⟨_, _, F7, PySem.W.mg_of X G a7, F7.binds (ps := ["pot", "size"]) fun _ _ _ _ _ _ us hl => match us, hl with | [_, _], _ => rfl⟩
  have F8 := fun_mk (st := s_law_great) l8 c8 k8
  have T_law_great : Top K mg "_law_great" s_law_great ["pot"] := ⟨_, _, F8, PySem.W.mg_of X G a8, F8.binds (ps := ["pot"]) fun _ _ _ _ _ _ us hl => match us, hl with | [_], _ => rfl⟩
  have F9 := fun_mk (st := s_law_levels) l9 c9 k9
  have T_law_levels : Top K mg "_law_levels" s_law_levels ["pot", "many"] := ⟨_, _, F9, PySem.W.mg_of X G a9, F9.binds (ps := ["pot", "many"]) fun _ _ _ _ _ _ us hl => match us, hl with | [_, _], _ => rfl⟩
  have F10 := fun_mk (st := s_law_grid) l10 c10 k10
  have T_law_grid : Top K mg "_law_grid" s_law_grid ["levels"] := ⟨_, _, F10, PySem.W.mg_of X G a10, F10.binds (ps := ["levels"]) fun _ _ _ _ _ _ us hl => match us, hl with | [_], _ => rfl⟩
  have F11 := fun_mk (st := s_law_is_integer) l11 c11 k11
  have T_law_is_integer : Top K mg "_law_is_integer" s_law_is_integer ["told"] := ⟨_, _, F11, PySem.W.mg_of X G a11, F11.binds (ps := ["told"]) fun _ _ _ _ _ _ us hl => match us, hl with | [_], _ => rfl⟩
  have F12 := fun_mk (st := s_law_is_moment) l12 c12 k12
  have T_law_is_moment : Top K mg "_law_is_moment" s_law_is_moment ["told", "span"] := ⟨_, _, F12, PySem.W.mg_of X G a12, F12.binds (ps := ["told", "span"]) fun _ _ _ _ _ _ us hl => match us, hl with | [_, _], _ => rfl⟩
  have F13 := fun_mk (st := s_law_are_moments) l13 c13 k13
  have T_law_are_moments : Top K mg "_law_are_moments" s_law_are_moments ["told", "span"] := ⟨_, _, F13, PySem.W.mg_of X G a13, F13.binds (ps := ["told", "span"]) fun _ _ _ _ _ _ us hl => match us, hl with | [_, _], _ => rfl⟩
  have F14 := fun_mk (st := s_law_before) l14 c14 k14
  have T_law_before : Top K mg "_law_before" s_law_before ["one", "other"] := ⟨_, _, F14, PySem.W.mg_of X G a14, F14.binds (ps := ["one", "other"]) fun _ _ _ _ _ _ us hl => match us, hl with | [_, _], _ => rfl⟩
  have F15 := fun_mk (st := s_law_join) l15 c15 k15
  have T_law_join : Top K mg "_law_join" s_law_join ["one", "other"] := ⟨_, _, F15, PySem.W.mg_of X G a15, F15.binds (ps := ["one", "other"]) fun _ _ _ _ _ _ us hl => match us, hl with | [_, _], _ => rfl⟩
  have F16 := fun_mk (st := s_law_moved) l16 c16 k16
  have T_law_moved : Top K mg "_law_moved" s_law_moved ["pot", "moment"] := ⟨_, _, F16, PySem.W.mg_of X G a16, F16.binds (ps := ["pot", "moment"]) fun _ _ _ _ _ _ us hl => match us, hl with | [_, _], _ => rfl⟩
  have F17 := fun_mk (st := s_law_pair_holds) l17 c17 k17
  have T_law_pair_holds : Top K mg "_law_pair_holds" s_law_pair_holds ["one", "other"] := ⟨_, _, F17, PySem.W.mg_of X G a17, F17.binds (ps := ["one", "other"]) fun _ _ _ _ _ _ us hl => match us, hl with | [_, _], _ => rfl⟩
  have F18 := fun_mk (st := s_law_pairs_hold) l18 c18 k18
  have T_law_pairs_hold : Top K mg "_law_pairs_hold" s_law_pairs_hold ["some"] := ⟨_, _, F18, PySem.W.mg_of X G a18, F18.binds (ps := ["some"]) fun _ _ _ _ _ _ us hl => match us, hl with | [_], _ => rfl⟩
  have F19 := fun_mk (st := s_law_odd_values) l19 c19 k19
  have T_law_odd_values : Top K mg "_law_odd_values" s_law_odd_values ["moment", "place"] := ⟨_, _, F19, PySem.W.mg_of X G a19, F19.binds (ps := ["moment", "place"]) fun _ _ _ _ _ _ us hl => match us, hl with | [_, _], _ => rfl⟩
  have F20 := fun_mk (st := s_law_knows_moments) l20 c20 k20
  have T_law_knows_moments : Top K mg "_law_knows_moments" s_law_knows_moments ["moment", "place"] := ⟨_, _, F20, PySem.W.mg_of X G a20, F20.binds (ps := ["moment", "place"]) fun _ _ _ _ _ _ us hl => match us, hl with | [_, _], _ => rfl⟩
  have F21 := fun_mk (st := s_law_joined) l21 c21 k21
  have T_law_joined : Top K mg "_law_joined" s_law_joined ["given", "member", "span"] := ⟨_, _, F21, PySem.W.mg_of X G a21, F21.binds (ps := ["given", "member", "span"]) fun _ _ _ _ _ _ us hl => match us, hl with | [_, _, _], _ => rfl⟩
  have F22 := fun_mk (st := s_law_closure_holds) l22 c22 k22
  have T_law_closure_holds : Top K mg "_law_closure_holds" s_law_closure_holds ["given", "span"] := ⟨_, _, F22, PySem.W.mg_of X G a22, F22.binds (ps := ["given", "span"]) fun _ _ _ _ _ _ us hl => match us, hl with | [_, _], _ => rfl⟩
  have F23 := fun_mk (st := slaw) l23 c23 k23
  have Tlaw : Top K mg "law" slaw ["script"] := ⟨_, _, F23, PySem.W.mg_of X G a23, F23.binds (ps := ["script"]) fun _ _ _ _ _ _ us hl => match us, hl with | [_], _ => rfl⟩
  have TKbefore_second_first : TopK K mg "before" sbefore ["first", "second"] ["second", "first"] kwR := ⟨_, _, kwR, F2, PySem.W.mg_of X G a2, kwR_binds fun s w z X => .of_eq rfl⟩
  have TKjoin_of_second_first : TopK K mg "join_of" sjoin_of ["first", "second"] ["second", "first"] kwR := ⟨_, _, kwR, F3, PySem.W.mg_of X G a3, kwR_binds fun s w z X => .of_eq rfl⟩
  have TKmeet_of_second_first : TopK K mg "meet_of" smeet_of ["first", "second"] ["second", "first"] kwR := ⟨_, _, kwR, F4, PySem.W.mg_of X G a4, kwR_binds fun s w z X => .of_eq rfl⟩
  have TKis_moment_axes_value : TopK K mg "is_moment" sis_moment ["value", "axes"] ["axes", "value"] kwR := ⟨_, _, kwR, F1, PySem.W.mg_of X G a1, kwR_binds fun s w z X => .of_eq rfl⟩
  have TKclosure_moments : TopK K mg "closure" sclosure ["moments"] ["moments"] (fun vs zs => vs ++ zs) := ⟨_, _, fun us ws => us ++ ws, F5, PySem.W.mg_of X G a5, ⟨fun s us ws _ hl => match us, ws, hl with
    | [], [_], _ => .of_eq rfl
    | [_], [], _ => .of_eq rfl, fun r1 r2 => r1.append r2⟩⟩
  refine ⟨PySem.W.fnOf "law" "law" (defArgs slaw) (defBody slaw) (defScope slaw) .none kV23 dc23 pm23 an23 cd23 ct23, fun s v => .of_eq rfl, fun base _ _ => ?_⟩
  have Dbefore := d_before (P := l.prog) (w := w) (K := K) (mg := mg) (base := base) B Tbefore
  have Dbefore_second_first := Dbefore.kw TKbefore_second_first
  have Djoin_of := d_join_of (P := l.prog) (w := w) (K := K) (mg := mg) (base := base) B Tjoin_of
  have Djoin_of_second_first := Djoin_of.kw TKjoin_of_second_first
  have Dmeet_of := d_meet_of (P := l.prog) (w := w) (K := K) (mg := mg) (base := base) B Tmeet_of
  have Dmeet_of_second_first := Dmeet_of.kw TKmeet_of_second_first
  have D_law_before := d_law_before (P := l.prog) (w := w) (K := K) (mg := mg) (base := base) B T_law_before
  have D_law_join := d_law_join (P := l.prog) (w := w) (K := K) (mg := mg) (base := base) B T_law_join
  have D_law_is_integer := d_law_is_integer (P := l.prog) (w := w) (K := K) (mg := mg) (base := base) B T_law_is_integer
  have D_law_pot := d_law_pot (P := l.prog) (w := w) (K := K) (mg := mg) (base := base) B T_law_pot
  have D_law_draw := d_law_draw (P := l.prog) (w := w) (K := K) (mg := mg) (base := base) B T_law_draw
  have D_law_great := d_law_great (P := l.prog) (w := w) (K := K) (mg := mg) (base := base) B T_law_great D_law_draw
  have D_law_grid := d_law_grid (P := l.prog) (w := w) (K := K) (mg := mg) (base := base) B T_law_grid
  have D_law_is_moment := d_law_is_moment (P := l.prog) (w := w) (K := K) (mg := mg) (base := base) B T_law_is_moment D_law_is_integer
  have Dclosure := d_closure (P := l.prog) (w := w) (K := K) (mg := mg) (base := base) B Tclosure Djoin_of
  have Dclosure_moments := Dclosure.kw TKclosure_moments
  have Dis_number := d_is_number (P := l.prog) (w := w) (K := K) (mg := mg) (base := base) B Tis_number
  have Dis_moment := d_is_moment (P := l.prog) (w := w) (K := K) (mg := mg) (base := base) B Tis_moment Dis_number
  have Dis_moment_axes_value := Dis_moment.kw TKis_moment_axes_value
  have D_law_odd_values := d_law_odd_values (P := l.prog) (w := w) (K := K) (mg := mg) (base := base) B T_law_odd_values
  have D_law_levels := d_law_levels (P := l.prog) (w := w) (K := K) (mg := mg) (base := base) B T_law_levels D_law_draw D_law_great
  have D_law_moved := d_law_moved (P := l.prog) (w := w) (K := K) (mg := mg) (base := base) B T_law_moved D_law_draw
  have D_law_pair_holds := d_law_pair_holds (P := l.prog) (w := w) (K := K) (mg := mg) (base := base) B T_law_pair_holds Dbefore Dbefore_second_first D_law_before Djoin_of_second_first Dmeet_of_second_first D_law_is_moment
  have D_law_pairs_hold := d_law_pairs_hold (P := l.prog) (w := w) (K := K) (mg := mg) (base := base) B T_law_pairs_hold D_law_pair_holds
  have D_law_knows_moments := d_law_knows_moments (P := l.prog) (w := w) (K := K) (mg := mg) (base := base) B T_law_knows_moments Dis_moment Dis_moment_axes_value D_law_odd_values
  have D_law_joined := d_law_joined (P := l.prog) (w := w) (K := K) (mg := mg) (base := base) B T_law_joined D_law_before D_law_join
  have D_law_are_moments := d_law_are_moments (P := l.prog) (w := w) (K := K) (mg := mg) (base := base) B T_law_are_moments D_law_is_moment
  have D_law_closure_holds := d_law_closure_holds (P := l.prog) (w := w) (K := K) (mg := mg) (base := base) B T_law_closure_holds Dclosure_moments D_law_are_moments D_law_before D_law_join D_law_joined
  have D := d_law (P := l.prog) (w := w) (K := K) (mg := mg) (base := base) B Tlaw D_law_pot D_law_draw D_law_levels D_law_grid D_law_moved D_law_pairs_hold D_law_knows_moments D_law_closure_holds
  obtain ⟨f, fd', F, g, _, _, _, _, _, lk⟩ := D
  obtain rfl : fa = f := Value.ref.inj (Option.some.inj ((PySem.W.mg_of X G a23).symm.trans g))
  rw [l23] at lk
  cases lk
  exact F
end
end K0
open PySem PySem.W PyProof.Rows
set_option maxHeartbeats 0 in
theorem PySem.Challenge.cw_deltamill_k00_moments_in_order_holds : PySem.Challenge.rw_deltamill_k00_moments_in_order.Holds := by
  w_on; o_law; k_head; (case hw => w_witness2)
  k_fill
  refine L2.walk_of (l := PySem.Challenge.rw_deltamill_k00_moments_in_order) (n := 63) (k := 5) (x := "script") (CX := fun _ => L2.CX0) (sp := fun w => K0.spLaw _) rfl (by decide) rfl ⟨rfl, by decide, by decide⟩ (fun w h Y => PySem.W.kIn_of Y) ?F (fun _ _ a ns hl _ hS => ⟨a, ns, rfl, hS, hl, fun _ => rfl⟩) (fun _ _ _ _ _ h => h)
  case F =>
    intro w mg fa h KX G hmg
    refine' K0.all_mk KX G hmg ?a0 ?l0 ?c0 ?k0 ?a1 ?l1 ?c1 ?k1 ?a2 ?l2 ?c2 ?k2 ?a3 ?l3 ?c3 ?k3 ?a4 ?l4 ?c4 ?k4 ?a5 ?l5 ?c5 ?k5 ?a6 ?l6 ?c6 ?k6 ?a7 ?l7 ?c7 ?k7 ?a8 ?l8 ?c8 ?k8 ?a9 ?l9 ?c9 ?k9 ?a10 ?l10 ?c10 ?k10 ?a11 ?l11 ?c11 ?k11 ?a12 ?l12 ?c12 ?k12 ?a13 ?l13 ?c13 ?k13 ?a14 ?l14 ?c14 ?k14 ?a15 ?l15 ?c15 ?k15 ?a16 ?l16 ?c16 ?k16 ?a17 ?l17 ?c17 ?k17 ?a18 ?l18 ?c18 ?k18 ?a19 ?l19 ?c19 ?k19 ?a20 ?l20 ?c20 ?k20 ?a21 ?l21 ?c21 ?k21 ?a22 ?l22 ?c22 ?k22 ?a23 ?l23 ?c23 ?k23 ?z0 ?z1 ?z2 ?z3 ?z4 ?z5 ?z6 ?z7 ?z8 ?z9 ?z10 ?z11 ?z12 ?z13
    (case a0 => k_is); (case l0 => k_is); (case c0 => k_is); (case k0 => k_is); (case a1 => k_is); (case l1 => k_is); (case c1 => k_is); (case k1 => k_is); (case a2 => k_is); (case l2 => k_is); (case c2 => k_is); (case k2 => k_is); (case a3 => k_is); (case l3 => k_is); (case c3 => k_is); (case k3 => k_is); (case a4 => k_is); (case l4 => k_is); (case c4 => k_is); (case k4 => k_is); (case a5 => k_is); (case l5 => k_is); (case c5 => k_is); (case k5 => k_is); (case a6 => k_is); (case l6 => k_is); (case c6 => k_is); (case k6 => k_is); (case a7 => k_is); (case l7 => k_is); (case c7 => k_is); (case k7 => k_is); (case a8 => k_is); (case l8 => k_is); (case c8 => k_is); (case k8 => k_is); (case a9 => k_is); (case l9 => k_is); (case c9 => k_is); (case k9 => k_is); (case a10 => k_is); (case l10 => k_is); (case c10 => k_is); (case k10 => k_is); (case a11 => k_is); (case l11 => k_is); (case c11 => k_is); (case k11 => k_is); (case a12 => k_is); (case l12 => k_is); (case c12 => k_is); (case k12 => k_is); (case a13 => k_is); (case l13 => k_is); (case c13 => k_is); (case k13 => k_is); (case a14 => k_is); (case l14 => k_is); (case c14 => k_is); (case k14 => k_is); (case a15 => k_is); (case l15 => k_is); (case c15 => k_is); (case k15 => k_is); (case a16 => k_is); (case l16 => k_is); (case c16 => k_is); (case k16 => k_is); (case a17 => k_is); (case l17 => k_is); (case c17 => k_is); (case k17 => k_is); (case a18 => k_is); (case l18 => k_is); (case c18 => k_is); (case k18 => k_is); (case a19 => k_is); (case l19 => k_is); (case c19 => k_is); (case k19 => k_is); (case a20 => k_is); (case l20 => k_is); (case c20 => k_is); (case k20 => k_is); (case a21 => k_is); (case l21 => k_is); (case c21 => k_is); (case k21 => k_is); (case a22 => k_is); (case l22 => k_is); (case c22 => k_is); (case k22 => k_is); (case a23 => k_is); (case l23 => k_is); (case c23 => k_is); (case k23 => k_is); (case z0 => k_is); (case z1 => k_is); (case z2 => k_is); (case z3 => k_is); (case z4 => k_is); (case z5 => k_is); (case z6 => k_is); (case z7 => k_is); (case z8 => k_is); (case z9 => k_is); (case z10 => k_is); (case z11 => k_is); (case z12 => k_is); (case z13 => k_is)
