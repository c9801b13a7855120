import PyProof.Rows.All
import Wide.All
import OpenK.AllK
import Wide.FinOn
import HandS.ForMost
import HandS.Zip
import HandS.Conv
import HandS.TupAny
import HandS.TupLe
import HandS.Wide
import HandS.Style
import HandS.IsInst
import HandS.Flow
import HandS.More
import HandS.Walk
import HandS.MakeKwOnly
import HandS.Evl
import HandS.TupSets
import HandS.TupMul
import HandS.Deep
import HandS.DictComp
import HandS.DictTup
import HandS.SortInts
import HandS.SortRule
import HandS.ListItems
import HandS.SetKeys
import HandS.NamedTupSort
import KE.SortData
import KE.KEqDict
import PyProof.DictFindH
import PyProof.DictMoreH
import HandS.SetBool
import KE.KeyNested
import HandS.Star
import HandS.CallLocal
import KE.DataEq
import HandS.Strs
import HandS.DictSubView
import KE.KDictList
import KE.KDictKeyed
import KE.DataMinMax
import PyProof.TupleOfSeq
import KE.KDictSum
import HandS.TupLen
import KE.KRevSl
import OpenK.KMeth
import HandS.ClsMeth
import HandS.OwnEq
import KE.KStateDown
import HandS.Ends
import HandS.Head0
import HandS.Head1
import HandS.Head2
import HandS.HeadEnd
import HandS.HeadHook1
import HandS.HeadHook2
import HandS.HeadNt
import PySem.Challenge.RW_deltamill_k11_whole_one_minimal_is_fewes
set_option Elab.async false
set_option linter.all false
set_option maxRecDepth 100000
set_option maxHeartbeats 8000000
/-! The common layer of the laws about deltamill: defs by name, moments, pots. -/
namespace L2
open PySem PySem.Spec PyProof.Rows

/-! ### defs by name -/
/-- the def x stands behind the top -/
def Top (K : PySem.W.Frag) (mg : Str → Option Value) (x : Str) (st : Stmt) (ps : List Str) : Prop :=
  ∃ (f : Addr) (fd : FuncData), Fun K x x st f fd ∧ mg x = some (.ref f) ∧ Binds K fd ps []
/-- the def x keeps the promise sp -/
def Def (P : Program) (w : World) (K : PySem.W.Frag) (mg : Str → Option Value) (base : Heap) (x : Str) (k : Nat) (ps : List Str) (sp : Sp) : Prop :=
  ∃ (f : Addr) (fd : FuncData), FnOk P w K mg base CX0 k f fd ps sp ∧ mg x = some (.ref f) ∧ PySem.W.keepIn K (.ref f) = true ∧ Binds K fd ps [] ∧ ∃ (oc : Value) (od : Option Addr) (osl : Array (Option Value)), K.lookup f = some ⟨oc, od, .func fd, osl⟩
/-- .. and is called by keywords -/
def DefK (P : Program) (w : World) (K : PySem.W.Frag) (mg : Str → Option Value) (base : Heap) (x : Str) (k : Nat) (ps ks : List Str) (gV : List V → List V → List V) (sp : Sp) : Prop :=
  ∃ (f : Addr) (fd : FuncData) (g : List Value → List Value → List Value), FnOk P w K mg base CX0 k f fd ps sp ∧ mg x = some (.ref f) ∧ PySem.W.keepIn K (.ref f) = true ∧ KBinds K fd ps ks g gV
def TopK (K : PySem.W.Frag) (mg : Str → Option Value) (x : Str) (st : Stmt) (ps ks : List Str) (gV : List V → List V → List V) : Prop :=
  ∃ (f : Addr) (fd : FuncData) (g : List Value → List Value → List Value), Fun K x x st f fd ∧ mg x = some (.ref f) ∧ KBinds K fd ps ks g gV
section
variable {P : Program} {w : World} {K : PySem.W.Frag} {mg : Str → Option Value} {base : Heap} {x : Str} {st : Stmt} {ps N : List Str} {k : Nat} {sp : Sp}
theorem mk_def (T : Top K mg x st ps) (S : FnScope N ps (defScope st)) (len : ∀ vs H Q E, sp vs H Q E → vs.length = ps.length)
    (hbody : ∀ (f : Addr) (cdv : Value) (A : Around) (outer : List Env) (s : Shared) (H : Hp) (vs : List V) (Q : VK) (E : XK), Room k (A.deeper (envOfC x (defScope st) s.heap.objs.size f cdv)) → sp vs H Q E →
      ∃ t, PSs (cxOf CX0 P w K mg base N x (defScope st) f cdv A outer s H E).nox (defBody st) t ∧ t { nx := fun _ H' => Q .non H', rt := Q } (start N vs) H) :
    Def P w K mg base x (k + 1) ps sp := by
  obtain ⟨f, fd, F, g, b⟩ := T
  obtain ⟨oc, _, _, _, _, _, _, _, osl, _, lk, _⟩ := id F.ex
  exact ⟨f, fd, F.ok S len (hbody f), g, F.kp, b, _, _, _, lk⟩
theorem Def.kw {ks : List Str} {gV : List V → List V → List V} (D : Def P w K mg base x k ps sp) (T : TopK K mg x st ps ks gV) : DefK P w K mg base x k ps ks gV sp := by
  obtain ⟨f, fd, F, g, kp, _, _, _, _, lk⟩ := D
  obtain ⟨f', fd', g', F', m', b'⟩ := T
  obtain rfl : f' = f := Value.ref.inj (Option.some.inj (m'.symm.trans g))
  obtain ⟨oc, _, _, _, _, _, _, _, osl, _, lk', _⟩ := id F'.ex
  rw [lk] at lk'
  cases lk'
  exact ⟨f', fd, g', F, g, kp, b'⟩
theorem Def.mono {j : Nat} (h : Def P w K mg base x j ps sp) (hk : j ≤ k) : Def P w K mg base x k ps sp := by
  obtain ⟨f, fd, F, r⟩ := h
  exact ⟨f, fd, F.mono hk, r⟩
end
section
variable {X : Cx} {x : Str} {k : Nat} {ps : List Str} {sp : Sp} {p pos : Pos} {e : Expr} {es : List Expr} {t : TA}
/-- f(e, ..) -/
theorem pe_def (D : Def X.prog X.w X.K X.mg X.base x k ps sp) (hr : Room k X.A) (hg : Gl X x) (ha : PA X (e :: es) t) (hdb : (x == ("__debug__" : Str)) = false := by decide)
    (he : starEach (e :: es) X.env = (false, eval e X.env) :: starEach es X.env := by rfl) (hpl : (backTo pos (starEach es X.env)).any (·.1) = false := by rfl) :
    PE X (.Call (.Name x p) (e :: es) [] pos) (tCall sp [] E0 t) := by
  obtain ⟨f, fd, F, g, kp, b, _⟩ := D
  exact pe_call F hr hg g kp b .nil pass0 ha hdb he hpl
/-- f(k = v, ..) -/
theorem pe_defK0 {ks : List Str} {gV : List V → List V → List V} {kws : List Keyword} {tk : TA} (D : DefK X.prog X.w X.K X.mg X.base x k ps ks gV sp) (hr : Room k X.A) (hg : Gl X x) (hkw : PK X kws tk)
    (hall : (backToKw pos (keywordEach kws X.env)).all (·.1.isSome) = true := by rfl) (hks : (backToKw pos (keywordEach kws X.env)).filterMap (·.1) = ks := by rfl) (hdb : (x == ("__debug__" : Str)) = false := by decide)
    (hpl : ((backTo pos (starEach [] X.env)).any (·.1) || (backToKw pos (keywordEach kws X.env)).any (·.1.isNone)) = false := by rfl) :
    PE X (.Call (.Name x p) [] kws pos) (tCallK sp gV E0 tNil tk) := by
  obtain ⟨f, fd, g, F, hm, kp, b⟩ := D
  refine ⟨fun pins s σ H Q I h => ?_⟩
  refine wpAny_Call_Name_kw (ld_glob I hg hm ?_ hdb)
  refine PySem.W.callWith_KW0 (h₀ := X.base) I.ok.mod.kin kp hall ?_ hpl
  refine thn (hkw.run pos pins s σ H _ I h) fun ws s2 ⟨zs, H2, I2, rz, q2⟩ => ⟨I2.kIn, ?_⟩
  rw [hks]
  exact run_fnk (us := []) (vs := []) F hr b pass0 I2 .nil rz q2
end
/-! ### heaps -/
/-- all that was tracked but p stays -/
def SameB (p : Addr) (H H' : Hp) : Prop := ∀ b o, b ≠ p → H b = some o → H' b = some o
theorem SameB.refl (p : Addr) (H : Hp) : SameB p H H := fun _ _ _ h => h
theorem SameB.trans {p : Addr} {H H1 H2 : Hp} (a : SameB p H H1) (b : SameB p H1 H2) : SameB p H H2 := fun c o n h => b c o n (a c o n h)
theorem Same.b {p : Addr} {H H' : Hp} (a : Same H H') : SameB p H H' := fun c o _ h => a c o h
theorem SameB.upd {p : Addr} {H : Hp} {o : HO} : SameB p H (upd H p o) := fun b u n h => by
  rw [upd_ne n]
  exact h
theorem same_upd {H : Hp} {p : Addr} {o : HO} (h : H p = none) : Same H (upd H p o) := fun b x e => by
  rw [upd_ne (ne_of_none e h)]
  exact e
/-- a new object may change -/
theorem Same.mut {H H' : Hp} {p : Addr} {o : HO} (e : Same H H') (h : H p = none) : Same H (upd H' p o) := fun a u ha => by
  rw [upd_ne (ne_of_none ha h)]
  exact e a u ha
theorem Same.seqT {K : PySem.W.Frag} {H H' : Hp} {a : Addr} {xs : List V} (e : Same H H') (h : SqT K H a xs) : SqT K H' a xs := by
  rcases h with (h | ⟨o, h⟩) | h
  · exact .inl (.inl (e _ _ h))
  · exact .inl (.inr ⟨o, e _ _ h⟩)
  · exact .inr h
theorem Same.new {H H1 : Hp} {p : Addr} (e : Same H H1) (h : H1 p = none) : H p = none := by
  cases q : H p with
  | none => rfl
  | some o =>
    rw [e p o q] at h
    cases h
end L2

namespace L2
open PySem PySem.Spec PyProof.Rows

/-! ### data: tuples are tracked -/
mutual
inductive Da (K : PySem.W.Frag) (H : Hp) : V → PyData → Prop
  | non : Da K H .non .none
  | bl (b : Bool) : Da K H (.bl b) (.bool b)
  | int (i : Int) : Da K H (.int i) (.int i)
  | str (x : Str) : Da K H (.str x) (.str x)
  | lst {a : Addr} {xs : List V} {ds : List PyData} : SqL K H a xs → DaAll K H xs ds → Da K H (.ref a) (.list ds)
  | tup {a : Addr} {xs : List V} {ds : List PyData} : H a = some (.tup xs) → DaAll K H xs ds → Da K H (.ref a) (.tuple ds)
inductive DaAll (K : PySem.W.Frag) (H : Hp) : List V → List PyData → Prop
  | nil : DaAll K H [] []
  | cons {v : V} {vs : List V} {d : PyData} {ds : List PyData} : Da K H v d → DaAll K H vs ds → DaAll K H (v :: vs) (d :: ds)
end
mutual
theorem Da.dp {K : PySem.W.Frag} {H : Hp} : ∀ (d : PyData) (v : V), Da K H v d → Dp K H v d
  | .none, _, h => by
    cases h
    exact .non
  | .bool b, _, h => by
    cases h
    exact .bl b
  | .int i, _, h => by
    cases h
    exact .int i
  | .str x, _, h => by
    cases h
    exact .str x
  | .tuple ds, _, h => by
    cases h with
    | tup hs ha => exact .tup (SqT.of hs) (Da.dpAll ds _ ha)
  | .list ds, _, h => by
    cases h with
    | lst hs ha => exact .lst hs (Da.dpAll ds _ ha)
  | .dict _, _, h => by cases h
theorem Da.dpAll {K : PySem.W.Frag} {H : Hp} : ∀ (ds : List PyData) (vs : List V), DaAll K H vs ds → DpAll K H vs ds
  | [], _, h => by
    cases h
    exact .nil
  | d :: ds, _, h => by
    cases h with
    | cons h1 h2 => exact .cons (Da.dp d _ h1) (Da.dpAll ds _ h2)
end
/-! ### tuples stay -/
def ST (_ : PySem.W.Frag) (H H' : Hp) : Prop := ∀ a xs, H a = some (.tup xs) → H' a = some (.tup xs)
theorem ST.refl {K : PySem.W.Frag} (H : Hp) : ST K H H := fun _ _ h => h
theorem ST.trans {K : PySem.W.Frag} {H H1 H2 : Hp} (a : ST K H H1) (b : ST K H1 H2) : ST K H H2 := fun x o h => b x o (a x o h)
theorem Same.st {K : PySem.W.Frag} {H H' : Hp} (e : Same H H') : ST K H H' := fun _ _ h => e _ _ h
/-- what is no tuple may change -/
def NoTup : HO → Prop
  | .tup _ => False
  | _ => True
theorem SameB.st {K : PySem.W.Frag} {H H' : Hp} {p : Addr} {o : HO} (e : SameB p H H') (h : H p = some o) (n : NoTup o) : ST K H H' := fun a xs q => by
  refine e a _ (fun z => ?_) q
  subst z
  rw [h] at q
  cases q
  exact n
theorem st_upd {K : PySem.W.Frag} {H : Hp} {p : Addr} {o u : HO} (h : H p = some o) (n : NoTup o) : ST K H (upd H p u) := SameB.st SameB.upd h n

/-! ### immutable data -/
mutual
def imm : PyData → Bool
  | .none => true
  | .bool _ => true
  | .int _ => true
  | .str _ => true
  | .tuple ds => immAll ds
  | .list _ => false
  | .dict _ => false
def immAll : List PyData → Bool
  | [] => true
  | d :: ds => imm d && immAll ds
end
mutual
theorem Da.st {K : PySem.W.Frag} {H H' : Hp} (e : ST K H H') : ∀ (d : PyData) (v : V), imm d = true → Da K H v d → Da K H' v d
  | .none, _, _, h => by
    cases h
    exact .non
  | .bool b, _, _, h => by
    cases h
    exact .bl b
  | .int i, _, _, h => by
    cases h
    exact .int i
  | .str x, _, _, h => by
    cases h
    exact .str x
  | .tuple ds, _, hi, h => by
    cases h with
    | tup hs ha => exact .tup (e _ _ hs) (Da.stAll e ds _ hi ha)
  | .list _, _, hi, _ => by cases hi
  | .dict _, _, hi, _ => by cases hi
theorem Da.stAll {K : PySem.W.Frag} {H H' : Hp} (e : ST K H H') : ∀ (ds : List PyData) (vs : List V), immAll ds = true → DaAll K H vs ds → DaAll K H' vs ds
  | [], _, _, h => by
    cases h
    exact .nil
  | d :: ds, _, hi, h => by
    cases h with
    | cons h1 h2 =>
      have hi' : (imm d && immAll ds) = true := hi
      rw [Bool.and_eq_true] at hi'
      exact .cons (Da.st e d _ hi'.1 h1) (Da.stAll e ds _ hi'.2 h2)
end
mutual
/-- all that was tracked stays: data of any kind -/
theorem Da.same {K : PySem.W.Frag} {H H' : Hp} (e : Same H H') : ∀ (d : PyData) (v : V), Da K H v d → Da K H' v d
  | .none, _, h => by
    cases h
    exact .non
  | .bool b, _, h => by
    cases h
    exact .bl b
  | .int i, _, h => by
    cases h
    exact .int i
  | .str x, _, h => by
    cases h
    exact .str x
  | .tuple ds, _, h => by
    cases h with
    | tup hs ha => exact .tup (e _ _ hs) (Da.sameAll e ds _ ha)
  | .list ds, _, h => by
    cases h with
    | lst hs ha => exact .lst (e.seq hs) (Da.sameAll e ds _ ha)
  | .dict _, _, h => by cases h
theorem Da.sameAll {K : PySem.W.Frag} {H H' : Hp} (e : Same H H') : ∀ (ds : List PyData) (vs : List V), DaAll K H vs ds → DaAll K H' vs ds
  | [], _, h => by
    cases h
    exact .nil
  | d :: ds, _, h => by
    cases h with
    | cons h1 h2 => exact .cons (Da.same e d _ h1) (Da.sameAll e ds _ h2)
end
theorem DaAll.length {K : PySem.W.Frag} {H : Hp} : ∀ {vs : List V} {ds : List PyData}, DaAll K H vs ds → vs.length = ds.length
  | _, _, .nil => rfl
  | _, _, .cons _ t => congrArg (· + 1) (DaAll.length t)
theorem DaAll.snoc {K : PySem.W.Frag} {H : Hp} {v : V} {d : PyData} (h : Da K H v d) : ∀ {vs : List V} {ds : List PyData}, DaAll K H vs ds → DaAll K H (vs ++ [v]) (ds ++ [d])
  | _, _, .nil => .cons h .nil
  | _, _, .cons r t => .cons r (DaAll.snoc h t)
theorem DaAll.append {K : PySem.W.Frag} {H : Hp} {us : List V} {es : List PyData} (h : DaAll K H us es) : ∀ {vs : List V} {ds : List PyData}, DaAll K H vs ds → DaAll K H (vs ++ us) (ds ++ es)
  | _, _, .nil => h
  | _, _, .cons r t => .cons r (DaAll.append h t)
theorem DaAll.get {K : PySem.W.Frag} {H : Hp} : ∀ {vs : List V} {ds : List PyData} {i : Nat} {v : V}, DaAll K H vs ds → vs[i]? = some v → ∃ d, ds[i]? = some d ∧ Da K H v d
  | _, _, _, _, .nil, e => by simp at e
  | _, _, 0, _, .cons r _, e => by
    simp at e
    subst e
    exact ⟨_, rfl, r⟩
  | _, _, i + 1, v, .cons _ t, e => by
    obtain ⟨d, h1, h2⟩ := DaAll.get (i := i) (v := v) t (by simpa using e)
    exact ⟨d, by simpa using h1, h2⟩
theorem DaAll.at {K : PySem.W.Frag} {H : Hp} : ∀ {vs : List V} {ds : List PyData} {i : Nat} {d : PyData}, DaAll K H vs ds → ds[i]? = some d → ∃ v, vs[i]? = some v ∧ Da K H v d
  | _, _, _, _, .nil, e => by simp at e
  | _, _, 0, _, .cons r _, e => by
    simp at e
    subst e
    exact ⟨_, rfl, r⟩
  | _, _, i + 1, d, .cons _ t, e => by
    obtain ⟨v, h1, h2⟩ := DaAll.at (i := i) (d := d) t (by simpa using e)
    exact ⟨v, by simpa using h1, h2⟩
theorem DaAll.ints {K : PySem.W.Frag} {H : Hp} : ∀ {vs : List V} {ns : List Int}, DaAll K H vs (ns.map PyData.int) → vs = ns.map V.int
  | _, [], .nil => rfl
  | _, n :: ns, .cons r t => by
    cases r
    rw [DaAll.ints (ns := ns) t]
    rfl
theorem da_ints {K : PySem.W.Frag} {H : Hp} : ∀ ns : List Int, DaAll K H (ns.map V.int) (ns.map PyData.int)
  | [] => .nil
  | n :: ns => .cons (.int n) (da_ints ns)
theorem imm_ints : ∀ ns : List Int, immAll (ns.map PyData.int) = true
  | [] => rfl
  | n :: ns => by
    show (imm (.int n) && immAll (ns.map PyData.int)) = true
    rw [imm_ints ns]
    rfl
/-- a moment (or a row of ints) -/
def mo (m : List Int) : PyData := .tuple (m.map .int)
abbrev Mo (K : PySem.W.Frag) (H : Hp) (v : V) (m : List Int) : Prop := Da K H v (mo m)
theorem imm_mo (m : List Int) : imm (mo m) = true := imm_ints m
theorem Mo.inv {K : PySem.W.Frag} {H : Hp} {v : V} {m : List Int} (h : Mo K H v m) : ∃ a, v = .ref a ∧ SqT K H a (m.map V.int) := by
  cases h with
  | tup hs ha =>
    rw [DaAll.ints ha] at hs
    exact ⟨_, rfl, SqT.of hs⟩
theorem Mo.trk {K : PySem.W.Frag} {H : Hp} {v : V} {m : List Int} (h : Mo K H v m) : ∃ a, v = .ref a ∧ H a = some (.tup (m.map V.int)) := by
  cases h with
  | tup hs ha =>
    rw [DaAll.ints ha] at hs
    exact ⟨_, rfl, hs⟩
theorem Mo.of {K : PySem.W.Frag} {H : Hp} {a : Addr} {m : List Int} (h : H a = some (.tup (m.map V.int))) : Mo K H (.ref a) m := .tup h (da_ints m)
theorem Mo.st {K : PySem.W.Frag} {H H' : Hp} {v : V} {m : List Int} (h : Mo K H v m) (e : ST K H H') : Mo K H' v m := Da.st e _ _ (imm_mo m) h
theorem Mo.same {K : PySem.W.Frag} {H H' : Hp} {v : V} {m : List Int} (h : Mo K H v m) (e : Same H H') : Mo K H' v m := h.st e.st

/-! ### walks -/
theorem walk_zipT {K : PySem.W.Frag} {a b : Addr} {xs ys : List V} (hl : xs.length = ys.length) : Walk (RZ.ItzT K a b) xs.length (fun H => SqT K H a xs ∧ SqT K H b ys) (YPair (fun i => xs[i]?) (fun i => ys[i]?)) := by
  refine ⟨fun i _ hi q => ?_, fun _ q => ⟨xs, ys, q.1, q.2, .inl (Nat.le_refl _)⟩, fun i H v H' _ q y => ?_⟩
  · have h2 : i < ys.length := by omega
    exact ⟨xs, ys, xs[i], ys[i], q.1, q.2, by simp [hi], by simp [h2]⟩
  · obtain ⟨T, x, z, h1, h2, h3, h4, h5⟩ := y
    exact ⟨T, x, z, h1, h2, h3, h4 xs q.1, h5 ys q.2⟩

/-! ### comprehensions -/
section
variable {J : It} {n : Nat} {G : Hp → Prop} {Y : Nat → Hp → V → Hp → Prop} {K : PySem.W.Frag}
/-- what lc_it gives, by name -/
abbrev LcGoal (J : It) (g : TG) (tt : TT) (te : TE) (vs : List Nat) (σ : L2.St) (H1 : Hp) (D : Addr) (Qd : Hp → Prop) : Prop :=
  ∃ W : Nat → Nat → Hp → Prop, (∃ m, W 0 m (upd H1 D (.lst []))) ∧ ∀ i m H, W i m H →
      (J.stop i H ∧ Qd H) ∨ (J.go i H ∧ ∃ Nx : Hp → Prop, (∀ H', Nx H' → ∃ m', m' < m ∧ W (i + 1) m' H') ∧ ∀ x H', J.yld i H x H' → g x (wipe σ vs) H' fun σ2 H2 => wipe σ2 vs = wipe σ vs ∧ tt σ2 H2 fun b H3 =>
        if b = true then te σ2 H3 fun y H4 => ∃ acc, H4 D = some (.lst acc) ∧ acc.length < sizeLine ∧ Nx (upd H4 D (.lst (acc ++ [y]))) else Nx H3)
/-- all elements are values told ahead -/
theorem lc_val (w : Walk J n G Y) {g : TG} {te : TE} {vs : List Nat} {σ : L2.St} {H1 : Hp} {D : Addr} {Qd : Hp → Prop} (hD : H1 D = none) (hn : n ≤ 100000) (hG : ∀ H, Same H1 H → G H) (fs : List V) (hl : fs.length = n)
    (step : ∀ i x H H' (Q : VK), i < n → Same H1 H → Y i H x H' → (∀ y H4, Same H H4 → fs[i]? = some y → Q y H4) → g x (wipe σ vs) H' fun σ2 H2 => wipe σ2 vs = wipe σ vs ∧ te σ2 H2 Q)
    (hd : ∀ H, Same H1 H → H D = some (.lst fs) → Qd H) : LcGoal J g tYes te vs σ H1 D Qd := by
  refine lc_it w (fun i H => Same H1 H ∧ H D = some (.lst (fs.take i))) ⟨same_upd hD, upd_same⟩ (fun i H _ p => hG H p.1) (fun i x H H' hi p y => ?_) (fun H p => ?_)
  · refine step i x H H' _ hi p.1 y fun v H4 e he => ⟨_, e _ _ p.2, ?_, (p.1.trans e).mut hD, ?_⟩
    · rw [List.length_take]
      exact Nat.lt_of_le_of_lt (Nat.min_le_left _ _) (Nat.lt_of_lt_of_le hi (Nat.le_trans hn (by decide)))
    · rw [upd_same, List.take_add_one, he]
      rfl
  · refine hd H p.1 ?_
    rw [p.2, List.take_of_length_le (Nat.le_of_eq hl)]
/-- all elements are immutable data told ahead -/
theorem lc_dat (w : Walk J n G Y) {g : TG} {te : TE} {vs : List Nat} {σ : L2.St} {H1 : Hp} {D : Addr} {Qd : Hp → Prop} (hD : H1 D = none) (hn : n ≤ 100000) (hG : ∀ H, Same H1 H → G H) (ds : List PyData) (hl : ds.length = n) (him : immAll ds = true)
    (step : ∀ i x H H' (Q : VK), i < n → Same H1 H → Y i H x H' → (∀ y H4 d, Same H H4 → ds[i]? = some d → Da K H4 y d → Q y H4) → g x (wipe σ vs) H' fun σ2 H2 => wipe σ2 vs = wipe σ vs ∧ te σ2 H2 Q)
    (hd : ∀ H acc, Same H1 H → H D = some (.lst acc) → DaAll K H acc ds → Qd H) : LcGoal J g tYes te vs σ H1 D Qd := by
  have himt : ∀ i, immAll (ds.take i) = true := by
    have : ∀ (l : List PyData) (i : Nat), immAll l = true → immAll (l.take i) = true := by
      intro l
      induction l with
      | nil => intro i _; cases i <;> rfl
      | cons d l ih =>
        intro i h
        have h' : (imm d && immAll l) = true := h
        rw [Bool.and_eq_true] at h'
        cases i with
        | zero => rfl
        | succ i =>
          show (imm d && immAll (l.take i)) = true
          rw [h'.1, ih i h'.2]
          rfl
    exact fun i => this ds i him
  refine lc_it w (fun i H => Same H1 H ∧ ∃ acc, H D = some (.lst acc) ∧ DaAll K H acc (ds.take i)) ⟨same_upd hD, [], upd_same, .nil⟩ (fun i H _ p => hG H p.1) (fun i x H H' hi p y => ?_) (fun H p => ?_)
  · obtain ⟨p1, acc, p2, p3⟩ := p
    refine step i x H H' _ hi p1 y fun v H4 d e he hv => ⟨acc, e _ _ p2, ?_, (p1.trans e).mut hD, _, upd_same, ?_⟩
    · rw [p3.length, List.length_take]
      exact Nat.lt_of_le_of_lt (Nat.min_le_left _ _) (Nat.lt_of_lt_of_le hi (Nat.le_trans hn (by decide)))
    · rw [List.take_add_one, he]
      have e4 : H4 D = some (.lst acc) := e _ _ p2
      have st : ST K H4 (upd H4 D (.lst (acc ++ [v]))) := st_upd e4 True.intro
      have hid : imm d = true := by
        have : ∀ (l : List PyData) (i : Nat), immAll l = true → l[i]? = some d → imm d = true := by
          intro l
          induction l with
          | nil => intro i _ h; simp at h
          | cons d' l ih =>
            intro i h h2
            have h' : (imm d' && immAll l) = true := h
            rw [Bool.and_eq_true] at h'
            cases i with
            | zero =>
              simp at h2
              subst h2
              exact h'.1
            | succ i => exact ih i h'.2 (by simpa using h2)
        exact this ds i him he
      exact DaAll.snoc (Da.st st _ _ hid hv) (Da.stAll (e.st.trans st) _ _ (himt i) p3)
  · obtain ⟨p1, acc, p2, p3⟩ := p
    rw [List.take_of_length_le (Nat.le_of_eq hl)] at p3
    exact hd H acc p1 p2 p3
end
/-! ### short names of readings -/
abbrev yAdd : R2 := rI0 fun i j => .int (i + j)
abbrev ySub : R2 := rI0 fun i j => .int (i - j)
abbrev yMul : R2 := rI CMul fun i j => .int (i * j)
abbrev yDiv : R2 := rI CDivW fun i j => .int (i / j)
abbrev yMod : R2 := rI (fun _ j => 0 < j) fun i j => .int (i % j)
abbrev yPow : R2 := rI CPow fun i j => .int (i ^ j.toNat)
abbrev yLt : R2 := rI0 fun i j => .bl (decide (i < j))
abbrev yLe : R2 := rI0 fun i j => .bl (decide (i ≤ j))
abbrev yGt : R2 := rI0 fun i j => .bl (decide (j < i))
abbrev yGe : R2 := rI0 fun i j => .bl (decide (j ≤ i))
abbrev yNeg : V → Hp → VK → Prop := rU fun i => .int (-i)
abbrev yLen (K : PySem.W.Frag) : List V → Hp → VK → Prop := fun vs H Q => ∃ p ys, vs = [.ref p] ∧ (SqL K H p ys ∨ SqT K H p ys) ∧ Q (.int ys.length) H
abbrev yMax : List V → Hp → VK → Prop := fun vs H Q => ∃ i j, vs = [.int i, .int j] ∧ Q (.int (if j > i then j else i)) H
abbrev yMin : List V → Hp → VK → Prop := fun vs H Q => ∃ i j, vs = [.int i, .int j] ∧ Q (.int (if j < i then j else i)) H
abbrev yInt : List V → Hp → VK → Prop := fun vs H Q => (∃ i, vs = [.int i] ∧ Q (.int i) H) ∨ ∃ k, vs = [.bl k] ∧ Q (.int (if k then 1 else 0)) H
abbrev yTup (K : PySem.W.Frag) : List V → Hp → VK → Prop := fun vs H Q => ∃ p ys, vs = [.ref p] ∧ ((SqL K H p ys ∧ ∀ l, H l = none → Q (.ref l) (upd H l (.tup ys))) ∨ (SqT K H p ys ∧ Q (.ref p) H))
abbrev yLst (K : PySem.W.Frag) : List V → Hp → VK → Prop := fun vs H Q => ∃ p ys, vs = [.ref p] ∧ (SqL K H p ys ∨ SqT K H p ys) ∧ ∀ l, H l = none → Q (.ref l) (upd H l (.lst ys))
theorem hu64 {A : Around} {k : Nat} (hr : Room k A) : A.units + 64 < cLine := by
  have := hr.un
  omega
theorem hu0 {A : Around} {k : Nat} (hr : Room k A) : A.units < cLine := by
  have := hr.un
  omega
end L2

namespace L2
open PySem PySem.Spec PyProof.Rows
theorem immAll_append : ∀ {a b : List PyData}, immAll a = true → immAll b = true → immAll (a ++ b) = true
  | [], _, _, h => h
  | d :: a, b, h1, h2 => by
    have h' : (imm d && immAll a) = true := h1
    rw [Bool.and_eq_true] at h'
    show (imm d && immAll (a ++ b)) = true
    rw [h'.1, immAll_append h'.2 h2]
    rfl
theorem immAll_at {d : PyData} : ∀ {l : List PyData} {i : Nat}, immAll l = true → l[i]? = some d → imm d = true
  | [], _, _, h => by simp at h
  | e :: l, i, h1, h2 => by
    have h' : (imm e && immAll l) = true := h1
    rw [Bool.and_eq_true] at h'
    cases i with
    | zero =>
      simp at h2
      subst h2
      exact h'.1
    | succ i => exact immAll_at h'.2 (by simpa using h2)
theorem immAll_take : ∀ {l : List PyData} (i : Nat), immAll l = true → immAll (l.take i) = true
  | [], i, _ => by cases i <;> rfl
  | e :: l, i, h1 => by
    have h' : (imm e && immAll l) = true := h1
    rw [Bool.and_eq_true] at h'
    cases i with
    | zero => rfl
    | succ i =>
      show (imm e && immAll (l.take i)) = true
      rw [h'.1, immAll_take i h'.2]
      rfl
theorem immAll_of : ∀ {l : List PyData}, (∀ d ∈ l, imm d = true) → immAll l = true
  | [], _ => rfl
  | e :: l, h => by
    show (imm e && immAll l) = true
    rw [h e List.mem_cons_self, immAll_of fun d hd => h d (List.mem_cons_of_mem _ hd)]
    rfl
theorem sz1000' {n : Nat} (h : n ≤ 100000) : n ≤ sizeLine := Nat.le_trans h (by decide)
section
variable {J J1 : It} {n n1 : Nat} {G G1 : Hp → Prop} {Y Y1 : Nat → Hp → V → Hp → Prop} {K : PySem.W.Frag}
/-- two clauses, the inner one over a thing that stands still; immutable data told ahead -/
theorem lc2_dat (w : Walk J n G Y) (w1 : Walk J1 n1 G1 Y1) {wi1 : TI} {g g1 : TG} {te : TE} {vs vs1 : List Nat} {σ : L2.St} {H1 : Hp} {D : Addr} {Qd : Hp → Prop} (hD : H1 D = none) (hn : n * n1 ≤ 100000)
    (hG : ∀ H, Same H1 H → G H) (hG1 : ∀ H, Same H1 H → G1 H) (ds : Nat → List PyData) (hl : ∀ i, i < n → (ds i).length = n1) (him : ∀ i, i < n → immAll (ds i) = true)
    (step : ∀ i x H H' (Q : L2.St → Hp → Prop), i < n → Same H1 H → Y i H x H' →
      (∀ σ2 H2, Same H H2 → wipe σ2 vs = wipe σ vs → ((∀ H3 R, Same H2 H3 → R J1 H3 → wi1 σ2 H3 R) ∧
        (∀ j y H3 H3' (Q' : VK), j < n1 → Same H1 H3 → ST K H2 H3 → Y1 j H3 y H3' → (∀ z H4 d, Same H3 H4 → (ds i)[j]? = some d → Da K H4 z d → Q' z H4) → g1 y (wipe σ2 vs1) H3' fun σ3 H5 => wipe σ3 vs1 = wipe σ2 vs1 ∧ te σ3 H5 Q')) → Q σ2 H2) → g x (wipe σ vs) H' Q)
    (hd : ∀ H acc, Same H1 H → H D = some (.lst acc) → DaAll K H acc ((List.range n).map ds).flatten → Qd H) :
    ∃ W : Nat → Nat → Hp → Prop, (∃ m, W 0 m (upd H1 D (.lst []))) ∧ ∀ i m H, W i m H →
      (J.stop i H ∧ Qd H) ∨ (J.go i H ∧ ∃ Nx : Hp → Prop, (∀ H', Nx H' → ∃ m', m' < m ∧ W (i + 1) m' H') ∧ ∀ x H', J.yld i H x H' → g x (wipe σ vs) H' fun σ2 H2 => wipe σ2 vs = wipe σ vs ∧ tYes σ2 H2 fun b H3 =>
        if b = true then wi1 σ2 H3 fun J1 H4 => ∃ W1 : Nat → Nat → Hp → Prop, (∃ m, W1 0 m H4) ∧ ∀ j k H, W1 j k H →
          (J1.stop j H ∧ Nx H) ∨ (J1.go j H ∧ ∃ Nx1 : Hp → Prop, (∀ H', Nx1 H' → ∃ k', k' < k ∧ W1 (j + 1) k' H') ∧ ∀ x H', J1.yld j H x H' → g1 x (wipe σ2 vs1) H' fun σ3 H5 => wipe σ3 vs1 = wipe σ2 vs1 ∧ tYes σ3 H5 fun b H6 =>
            if b = true then te σ3 H6 fun y H7 => ∃ acc, H7 D = some (.lst acc) ∧ acc.length < sizeLine ∧ Nx1 (upd H7 D (.lst (acc ++ [y]))) else Nx1 H6)
        else Nx H3) := by
  have flen : ∀ i, i ≤ n → ((List.range i).map ds).flatten.length = i * n1 := by
    intro i
    induction i with
    | zero => intro _; simp
    | succ i ih =>
      intro h
      rw [List.range_succ, List.map_append, List.flatten_append, List.length_append, ih (by omega)]
      simp [hl i (by omega), Nat.succ_mul]
  have fimm : ∀ i, i ≤ n → immAll ((List.range i).map ds).flatten = true := by
    intro i
    induction i with
    | zero => intro _; rfl
    | succ i ih =>
      intro h
      rw [List.range_succ, List.map_append, List.flatten_append]
      refine immAll_append (ih (by omega)) ?_
      simpa using him i (by omega)
  have fsnoc : ∀ i, ((List.range (i + 1)).map ds).flatten = ((List.range i).map ds).flatten ++ ds i := by
    intro i
    rw [List.range_succ, List.map_append, List.flatten_append]
    simp
  refine ⟨fun i m H => m = n - i ∧ i ≤ n ∧ Same H1 H ∧ ∃ acc, H D = some (.lst acc) ∧ DaAll K H acc ((List.range i).map ds).flatten, ⟨n, by simp, Nat.zero_le _, same_upd hD, [], upd_same, .nil⟩, ?_⟩
  rintro i m H ⟨rfl, hi, p1, acc, p2, p3⟩
  by_cases hlt : i < n
  · refine .inr ⟨w.goes i H hlt (hG H p1), fun H' => Same H1 H' ∧ ∃ acc, H' D = some (.lst acc) ∧ DaAll K H' acc ((List.range (i + 1)).map ds).flatten, fun H' ⟨q1, q2⟩ => ⟨n - (i + 1), by omega, rfl, hlt, q1, q2⟩, fun x H' y => ?_⟩
    refine step i x H H' _ hlt p1 (w.yields i H x H' hlt (hG H p1) y) fun σ2 H2 e2 ws ⟨hin, el⟩ => ?_
    refine ⟨ws, ?_⟩
    show wi1 σ2 H2 _
    refine hin H2 _ (Same.refl _) ?_
    refine ⟨fun j k H => k = n1 - j ∧ j ≤ n1 ∧ Same H1 H ∧ ST K H2 H ∧ ∃ acc, H D = some (.lst acc) ∧ DaAll K H acc (((List.range i).map ds).flatten ++ (ds i).take j), ⟨n1, by simp, Nat.zero_le _, p1.trans e2, ST.refl _, acc, e2 _ _ p2, ?_⟩, ?_⟩
    · rw [List.take_zero, List.append_nil]
      exact Da.sameAll e2 _ _ p3
    · rintro j k H3 ⟨rfl, hj, q1, qb, acc3, q2, q3⟩
      by_cases hjl : j < n1
      · refine .inr ⟨w1.goes j H3 hjl (hG1 H3 q1), fun H' => Same H1 H' ∧ ST K H2 H' ∧ ∃ acc, H' D = some (.lst acc) ∧ DaAll K H' acc (((List.range i).map ds).flatten ++ (ds i).take (j + 1)), fun H' ⟨r1, r2⟩ => ⟨n1 - (j + 1), by omega, rfl, hjl, r1, r2⟩, fun x3 H3' y3 => ?_⟩
        refine el j x3 H3 H3' _ hjl q1 qb (w1.yields j H3 x3 H3' hjl (hG1 H3 q1) y3) fun z H4 d e4 hd4 hz => ?_
        have e5 : H4 D = some (.lst acc3) := e4 _ _ q2
        have st : ST K H4 (upd H4 D (.lst (acc3 ++ [z]))) := st_upd e5 True.intro
        refine ⟨acc3, e5, ?_, (q1.trans e4).mut hD, (qb.trans e4.st).trans st, _, upd_same, ?_⟩
        · have l3 := q3.length
          rw [List.length_append, flen i hi, List.length_take] at l3
          have hle : (i + 1) * n1 ≤ n * n1 := Nat.mul_le_mul_right _ hlt
          rw [Nat.succ_mul] at hle
          refine Nat.lt_of_lt_of_le ?_ (sz1000' hn)
          have : min j (ds i).length ≤ j := Nat.min_le_left _ _
          omega
        · rw [List.take_add_one, hd4, ← List.append_assoc]
          exact DaAll.snoc (Da.st st _ _ (immAll_at (him i hlt) hd4) hz) (Da.stAll (e4.st.trans st) _ _ (immAll_append (fimm i hi) (immAll_take j (him i hlt))) q3)
      · have ej : j = n1 := by omega
        subst ej
        refine .inl ⟨w1.stops H3 (hG1 H3 q1), q1, acc3, q2, ?_⟩
        rw [fsnoc]
        rw [List.take_of_length_le (Nat.le_of_eq (hl i hlt))] at q3
        exact q3
  · have e : i = n := by omega
    subst e
    exact .inl ⟨w.stops H (hG H p1), hd H acc p1 p2 p3⟩
/-- a comprehension with a test: values told ahead -/
theorem lc_val_if (w : Walk J n G Y) {g : TG} {tt : TT} {te : TE} {vs : List Nat} {σ : L2.St} {H1 : Hp} {D : Addr} {Qd : Hp → Prop} (hD : H1 D = none) (hn : n ≤ 100000) (hG : ∀ H, Same H1 H → G H) (bs : Nat → Bool) (fs : Nat → V)
    (step : ∀ i x H H' (Q : VK) (R : Hp → Prop), i < n → Same H1 H → Y i H x H' → (∀ H4, bs i = true → Same H H4 → Q (fs i) H4) → (∀ H3, bs i = false → Same H H3 → R H3) →
      g x (wipe σ vs) H' fun σ2 H2 => wipe σ2 vs = wipe σ vs ∧ tt σ2 H2 fun b H3 => if b = true then te σ2 H3 Q else R H3)
    (hd : ∀ H, Same H1 H → H D = some (.lst (((List.range n).filter bs).map fs)) → Qd H) : LcGoal J g tt te vs σ H1 D Qd := by
  refine lc_it w (fun i H => Same H1 H ∧ H D = some (.lst (((List.range i).filter bs).map fs))) ⟨same_upd hD, upd_same⟩ (fun i H _ p => hG H p.1) (fun i x H H' hi p y => ?_) (fun H p => hd H p.1 p.2)
  refine step i x H H' _ _ hi p.1 y (fun H4 hb e => ⟨_, e _ _ p.2, ?_, (p.1.trans e).mut hD, ?_⟩) fun H3 hb e => ⟨p.1.trans e, ?_⟩
  · rw [List.length_map]
    refine Nat.lt_of_le_of_lt (List.length_filter_le _ _) ?_
    rw [List.length_range]
    exact Nat.lt_of_lt_of_le hi (Nat.le_trans hn (by decide))
  · rw [upd_same, List.range_succ, List.filter_append, List.map_append]
    simp [hb]
  · rw [e _ _ p.2, List.range_succ, List.filter_append, List.map_append]
    simp [hb]
end
theorem SameB.mut {p q : Addr} {H H' : Hp} {o : HO} (e : SameB p H H') (h : H q = none) : SameB p H (L2.upd H' q o) := fun a u n ha => by
  rw [upd_ne (ne_of_none ha h)]
  exact e a u n ha
theorem SameB.fresh {p q : Addr} {H H' : Hp} (e : SameB p H H') (hp : ∃ o, H p = some o) (h : H' q = none) (hp' : ∃ o, H' p = some o) : H q = none := by
  cases z : H q with
  | none => rfl
  | some o =>
    by_cases hq : q = p
    · subst hq
      obtain ⟨o', ho'⟩ := hp'
      rw [h] at ho'
      cases ho'
    · rw [e q o hq z] at h
      cases h
theorem SameB.seqT {K : PySem.W.Frag} {p a : Addr} {H H' : Hp} {l xs : List V} (e : SameB p H H') (hp : H p = some (.lst l)) (h : SqT K H a xs) : SqT K H' a xs := by
  rcases h with (h | ⟨o, h⟩) | h
  · exact .inl (.inl (e _ _ (ne_of h hp (by intro z; cases z)) h))
  · exact .inl (.inr ⟨o, e _ _ (ne_of h hp (by intro z; cases z)) h⟩)
  · exact .inr h
/-- a lock and its key: behind the unlocking all is as it was -/
theorem same_unlock {d : Addr} {o : Obj} {u : HO} {H H' : Hp} (h : H d = some u) (e : Same (upd H d (.frz o u)) H') : Same H (upd H' d u) := fun a x ha => by
  by_cases z : a = d
  · subst z
    rw [upd_same, ← h, ha]
  · rw [upd_ne z]
    exact e a x (by rw [upd_ne z]; exact ha)
theorem same_lock {d : Addr} {o : Obj} {u : HO} {H H' : Hp} (e : Same (upd H d (.frz o u)) H') : SameB d H H' := fun a x n ha => e a x (by rw [upd_ne n]; exact ha)
end L2

namespace L2
open PySem PySem.Spec PyProof.Rows
/-! ### x in o, by the class's own __contains__ -/
def rInOwn (C : Addr) (sp : Sp) (E : XK) : R2 := fun x y H Q => ∃ a dx fs, y = .ref a ∧ H a = some (.ins C dx fs) ∧ sp [.ref a, x] H (fun v H' => ∃ b, v = .bl b ∧ Q (.bl b) H') E
section
variable {X : Cx} {CX : CXT} {k : Nat} {C f : Addr} {fd : FuncData} {ps : List Str} {sp : Sp} {E : XK}
theorem op_inOwn (F : FnOk X.prog X.w X.K X.mg X.base CX k f fd ps sp) (hs : PySem.W.findIn X.K (.ref C) "__contains__" = some (some (.ref f))) (hf : PySem.W.isFn X.K (.ref f) = true) (hb : Binds X.K fd ps []) (hx : Passes CX X E) (hr : Room k X.A) : OpR X (compareOp .In) (rInOwn C sp E) := by
  intro pins s σ H x y v u Q I rx ry h
  obtain ⟨a, dx, fs, rfl, ha, q⟩ := h
  cases ry
  obtain ⟨mA, J, _⟩ := ins_get I.hok ha
  obtain ⟨od, J, _⟩ := J.look
  obtain ⟨m, hF⟩ := I.fr
  refine PySem.W.in_K hF I.ok.mod.kin J hs hf ?_
  have q2 : sp ([V.ref a, x] ++ []) H (fun v H' => ∃ b, v = V.bl b ∧ Q (.bl b) H') E := q
  refine thn (run_fn (us := [.ref a, v]) (vs := [.ref a, x]) (dvs := []) F hr hb .nil hx I (.cons rfl (.cons rx .nil)) q2) fun r s' hz => ?_
  obtain ⟨z, H', I', rz, b, ez, q'⟩ := hz
  subst ez
  cases rz
  exact wpAny_truthy_bool ⟨V.bl b, H', I', rfl, q'⟩
/-- o.m(k = v, ..) -/
def tMethK0 (m : Str) (C : Addr) (sp : Sp) (gV : List V → List V → List V) (E : XK) (ta : TE) (tk : TA) : TE := fun σ H Q => ta σ H fun x H1 => ∃ a dx fs, x = .ref a ∧ H1 a = some (.ins C dx fs) ∧ fs.lookup m = none ∧ tk σ H1 fun zs H2 => sp (gV [x] zs) H2 Q E
theorem pe_methK0 {m : Str} {o : Expr} {apos pos : Pos} {ta : TE} {tk : TA} {kws : List Keyword} {ks : List Str} {g : List Value → List Value → List Value} {gV : List V → List V → List V} {pl : Sem Bool} (he : PE X o ta) (c : Cls X.K C) (hm : Meth X.K C m f)
    (F : FnOk X.prog X.w X.K X.mg X.base CX k f fd ps sp) (hr : Room k X.A) (hb : KBinds X.K fd ps ks g gV) (hx : Passes CX X E) (hkw : PK X kws tk)
    (hall : (backToKw pos (keywordEach kws X.env)).all (·.1.isSome) = true := by rfl) (hks : (backToKw pos (keywordEach kws X.env)).filterMap (·.1) = ks := by rfl)
    (hpl : ((backTo pos (starEach [] X.env)).any (·.1) || (backToKw pos (keywordEach kws X.env)).any (·.1.isNone)) = false := by rfl)
    (ht : eval (.Call (.Attribute o m apos) [] kws pos) X.env = (do
      let ov ← eval o X.env
      standAt apos.atName
      let (f, first) ← holding [ov] (getMethod ov m pl)
      callWith pos f first (backTo pos (starEach [] X.env)) (backToKw pos (keywordEach kws X.env))) := by rfl) :
    PE X (.Call (.Attribute o m apos) [] kws pos) (tMethK0 m C sp gV E ta tk) := by
  refine ⟨fun pins s σ H Q I h => ?_⟩
  refine PySem.W.methodCall_KW (pl := pl) (thn (he.run pins s σ H _ I h) fun u s1 ⟨x, H1, I1, rx, a, dx, fs, ex, ea, l, q⟩ => ?_) ht
  subst ex
  obtain rfl : u = Value.ref a := rx
  refine getmeth_ok I1 ea c hm l ?_
  refine PySem.W.callWith_KW0 (first := [.ref a]) (h₀ := X.base) I.ok.mod.kin hm.kp hall ?_ hpl
  refine thn (hkw.run pos pins s1 σ H1 _ I1 q) fun ws s2 ⟨zs, H2, I2, rz, q2⟩ => ⟨I2.kIn, ?_⟩
  rw [hks]
  exact run_fnk (us := [.ref a]) (vs := [.ref a]) F hr hb hx I2 (.cons rfl .nil) rz q2
end
/-! ### tuple * int, 1 included -/
theorem tuple_mul1 (l : Addr) (items : Array Value) (n : Nat) (dd : Option Addr) (sl : Array (Option Value)) (u : Tok) :
    Meets (Builtin.«tuple.__mul__» ⟨[.ref l, .int 1 u], []⟩) (fun _ R s => s.heap.get? l = some { cls := .type "tuple", dict := dd, data := .seq items n, slots := sl } ∧ R (.ok (.ret (Value.ref l))) s) :=
  .of_wp fun prog w A R s h => by
    obtain ⟨hp, g, d, tk, os⟩ := s
    obtain ⟨hl, h⟩ := h
    have f1 := AutoSeq1.idx_int
    wp_walk using wpAny_loadPart' hl
    exact ⟨_, rfl, h⟩
def rRepA (K : PySem.W.Frag) : R2 := fun x y H Q => (∃ l xs, x = .ref l ∧ y = .int 1 ∧ SqT K H l xs ∧ Q (.ref l) H) ∨ rRepT K x y H Q
theorem op_repA {X : Cx} : OpR X (binaryOp .Mult) (rRepA X.K) := by
  intro pins s σ H x y v u Q I rx ry h
  rcases h with h | h
  · obtain ⟨l, xs, rfl, rfl, hT, q⟩ := h
    cases rx
    obtain ⟨t, rfl⟩ := ry
    obtain ⟨its, r, ⟨⟨cls, dd, data, sl⟩, ho, hc, n, hd⟩, hs⟩ := I.tuple hT
    simp only at hc hd
    subst hc hd
    refine wpAny_binaryOp_repeat_ref (T := "tuple") (U := "int") (by decide) ⟨_, ho, rfl⟩ (fun s' => typeIs_int s' 1 t) noFill_tuple_mul F.fills_int_mul F.slot_int_rmul repeat_tuple F.slot_int_index.lookup
      (call_meets F.slot_int_rmul (typeIs_int s 1 t) F.entry_int_rmul (F.args_int_rmul_2 _ _) (int_rmul_tuple 1 t l its.toArray n dd sl)
        ⟨ho, rfl, ⟨_, ho, rfl⟩, call_meets F.slot_tuple_mul ⟨_, ho, rfl⟩ F.entry_tuple_mul (F.args_tuple_mul_2 _ _) (tuple_mul1 l its.toArray n dd sl t) ⟨ho, ?_⟩⟩)
    exact ⟨.ref l, H, I, rfl, q⟩
  · exact op_repT pins s σ H x y v u Q I rx ry h

theorem hu65 {A : Around} {k : Nat} (hr : Room k A) : A.units + 65 < cLine := by
  have := hr.un
  omega
theorem pe_globI {X : Cx} {x : Str} {i : Int} {pos : Pos} (h : ∃ t, X.mg x = some (.int i t)) (hg : Gl X x) (hdb : (x == ("__debug__" : Str)) = false := by decide) : PE X (.Name x pos) (tC (.int i)) := by
  obtain ⟨t, h⟩ := h
  exact pe_glob hg h ⟨t, rfl⟩ hdb
/-- sorted(xs), fewer than 64 tuples of d ints in [0, B) -/
def rSortM (K : PySem.W.Frag) : List V → Hp → VK → Prop := fun vs H Q => ∃ d B, 1 ≤ d ∧ rSortU K d B vs H Q
theorem cr_sortM {X : Cx} : CallR X (.builtin "sorted") (rSortM X.K) := by
  intro pins s σ H vs us Q I r h
  obtain ⟨d, B, hd, h⟩ := h
  exact cr_sortT hd pins s σ H vs us Q I r h
/-! ### classes by name -/
/-- the def m stands in the class at C -/
def TopM (K : PySem.W.Frag) (C : Addr) (m qual : Str) (st : Stmt) (ps : List Str) : Prop :=
  ∃ (f : Addr) (fd : FuncData), Fun K m qual st f fd ∧ Meth K C m f ∧ Binds K fd ps []
def TopMK (K : PySem.W.Frag) (C : Addr) (m qual : Str) (st : Stmt) (ps ks : List Str) (gV : List V → List V → List V) : Prop :=
  ∃ (f : Addr) (fd : FuncData) (g : List Value → List Value → List Value), Fun K m qual st f fd ∧ Meth K C m f ∧ KBinds K fd ps ks g gV
def MethD (P : Program) (w : World) (K : PySem.W.Frag) (mg : Str → Option Value) (base : Heap) (C : Addr) (m : Str) (k : Nat) (ps : List Str) (sp : Sp) : Prop :=
  ∃ (f : Addr) (fd : FuncData), Meth K C m f ∧ FnOk P w K mg base CX0 k f fd ps sp ∧ Binds K fd ps [] ∧ ∃ (oc : Value) (od : Option Addr) (osl : Array (Option Value)), K.lookup f = some ⟨oc, od, .func fd, osl⟩
def MethDK (P : Program) (w : World) (K : PySem.W.Frag) (mg : Str → Option Value) (base : Heap) (C : Addr) (m : Str) (k : Nat) (ps ks : List Str) (gV : List V → List V → List V) (sp : Sp) : Prop :=
  ∃ (f : Addr) (fd : FuncData) (g : List Value → List Value → List Value), Meth K C m f ∧ FnOk P w K mg base CX0 k f fd ps sp ∧ KBinds K fd ps ks g gV
def MakeD (P : Program) (w : World) (K : PySem.W.Frag) (mg : Str → Option Value) (base : Heap) (C : Addr) (x : Str) (k : Nat) (ps : List Str) (sp : Sp) : Prop :=
  ∃ (f : Addr) (fd : FuncData), Mk K C f ∧ mg x = some (.ref C) ∧ FnOk P w K mg base CX0 k f fd ps sp ∧ Binds K fd ps []
section
variable {P : Program} {w : World} {K : PySem.W.Frag} {mg : Str → Option Value} {base : Heap} {C : Addr} {m qual x : Str} {st : Stmt} {ps N : List Str} {k : Nat} {sp : Sp}
theorem mk_meth (T : TopM K C m qual st ps) (S : FnScope N ps (defScope st)) (len : ∀ vs H Q E, sp vs H Q E → vs.length = ps.length)
    (hbody : ∀ (f : Addr) (cdv : Value) (A : Around) (outer : List Env) (s : Shared) (H : Hp) (vs : List V) (Q : VK) (E : XK), Room k (A.deeper (envOfC qual (defScope st) s.heap.objs.size f cdv)) → sp vs H Q E →
      ∃ t, PSs (cxOf CX0 P w K mg base N qual (defScope st) f cdv A outer s H E).nox (defBody st) t ∧ t { nx := fun _ H' => Q .non H', rt := Q } (start N vs) H) :
    MethD P w K mg base C m (k + 1) ps sp := by
  obtain ⟨f, fd, F, M, b⟩ := T
  obtain ⟨oc, _, _, _, _, _, _, _, osl, _, lk, _⟩ := id F.ex
  exact ⟨f, fd, M, F.ok S len (hbody f), b, _, _, _, lk⟩
theorem MethD.kw {ks : List Str} {gV : List V → List V → List V} (D : MethD P w K mg base C m k ps sp) (T : TopMK K C m qual st ps ks gV) : MethDK P w K mg base C m k ps ks gV sp := by
  obtain ⟨f, fd, M, F, b, _, _, _, lk⟩ := D
  obtain ⟨f', fd', g', F', M', b'⟩ := T
  have e := M'.at_.symm.trans M.at_
  obtain rfl : f' = f := Value.ref.inj (Option.some.inj (Option.some.inj e))
  obtain ⟨oc, _, _, _, _, _, _, _, osl, _, lk', _⟩ := id F'.ex
  rw [lk] at lk'
  cases lk'
  exact ⟨f', fd, g', M, F, b'⟩
theorem MethD.make (D : MethD P w K mg base C "__init__" k ps sp) (hm : PySem.W.makesIn K C = true) (hk : PySem.W.keepIn K (.ref C) = true) (hg : mg x = some (.ref C)) : MakeD P w K mg base C x k ps sp := by
  obtain ⟨f, fd, M, F, b, _⟩ := D
  exact ⟨f, fd, ⟨hm, M.at_, M.fn, hk⟩, hg, F, b⟩
end
section
variable {X : Cx} {C : Addr} {m x : Str} {k : Nat} {ps : List Str} {sp : Sp} {p pos apos : Pos} {o e : Expr} {es : List Expr} {ta : TE} {t : TA}
theorem pe_methM {pl : Sem Bool} (he : PE X o ta) (c : Cls X.K C) (D : MethD X.prog X.w X.K X.mg X.base C m k ps sp) (hr : Room k X.A) (ha : PA X (e :: es) t)
    (hst : starEach (e :: es) X.env = (false, eval e X.env) :: starEach es X.env := by rfl) (hpl : (backTo pos (starEach es X.env)).any (·.1) = false := by rfl)
    (ht : eval (.Call (.Attribute o m apos) (e :: es) [] pos) X.env = (do
      let ov ← eval o X.env
      standAt apos.atName
      let (f, first) ← holding [ov] (getMethod ov m pl)
      callWith pos f first (backTo pos (starEach (e :: es) X.env)) (backToKw pos (keywordEach [] X.env))) := by rfl) :
    PE X (.Call (.Attribute o m apos) (e :: es) [] pos) (tMeth C m sp [] E0 ta t) := by
  obtain ⟨f, fd, M, F, b, _⟩ := D
  exact pe_meth he c M F hr b .nil pass0 ha hst hpl ht
theorem pe_methM0 {pl : Sem Bool} (he : PE X o ta) (c : Cls X.K C) (D : MethD X.prog X.w X.K X.mg X.base C m k ps sp) (hr : Room k X.A)
    (ht : eval (.Call (.Attribute o m apos) [] [] pos) X.env = (do
      let ov ← eval o X.env
      standAt apos.atName
      let (f, first) ← holding [ov] (getMethod ov m pl)
      callWith pos f first (backTo pos (starEach [] X.env)) (backToKw pos (keywordEach [] X.env))) := by rfl) :
    PE X (.Call (.Attribute o m apos) [] [] pos) (tMeth C m sp [] E0 ta tNil) := by
  obtain ⟨f, fd, M, F, b, _⟩ := D
  exact pe_meth0 he c M F hr b .nil pass0 ht
theorem pe_methMK0 {pl : Sem Bool} {ks : List Str} {gV : List V → List V → List V} {kws : List Keyword} {tk : TA} (he : PE X o ta) (c : Cls X.K C) (D : MethDK X.prog X.w X.K X.mg X.base C m k ps ks gV sp) (hr : Room k X.A) (hkw : PK X kws tk)
    (hall : (backToKw pos (keywordEach kws X.env)).all (·.1.isSome) = true := by rfl) (hks : (backToKw pos (keywordEach kws X.env)).filterMap (·.1) = ks := by rfl)
    (hpl : ((backTo pos (starEach [] X.env)).any (·.1) || (backToKw pos (keywordEach kws X.env)).any (·.1.isNone)) = false := by rfl)
    (ht : eval (.Call (.Attribute o m apos) [] kws pos) X.env = (do
      let ov ← eval o X.env
      standAt apos.atName
      let (f, first) ← holding [ov] (getMethod ov m pl)
      callWith pos f first (backTo pos (starEach [] X.env)) (backToKw pos (keywordEach kws X.env))) := by rfl) :
    PE X (.Call (.Attribute o m apos) [] kws pos) (tMethK0 m C sp gV E0 ta tk) := by
  obtain ⟨f, fd, g, M, F, b⟩ := D
  exact pe_methK0 he c M F hr b pass0 hkw hall hks hpl ht
theorem pe_makeM (D : MakeD X.prog X.w X.K X.mg X.base C x k ps sp) (hr : Room (k + 1) X.A) (hg : Gl X x) (ha : PA X (e :: es) t) (hdb : (x == ("__debug__" : Str)) = false := by decide)
    (he : starEach (e :: es) X.env = (false, eval e X.env) :: starEach es X.env := by rfl) (hpl : (backTo pos (starEach es X.env)).any (·.1) = false := by rfl) :
    PE X (.Call (.Name x p) (e :: es) [] pos) (tMake C sp [] E0 t) := by
  obtain ⟨f, fd, M, hm, F, b⟩ := D
  exact pe_make M F hr hg hm b .nil pass0 ha hdb he hpl
theorem op_inM (D : MethD X.prog X.w X.K X.mg X.base C "__contains__" k ps sp) (hr : Room k X.A) : OpR X (compareOp .In) (rInOwn C sp E0) := by
  obtain ⟨f, fd, M, F, b, _⟩ := D
  exact op_inOwn F M.at_ M.fn b pass0 hr
end
/-- o.m(k = v): the object, then the value -/
def kwG {α : Type} : List α → List α → List α
  | [u], [w] => [u, w]
  | _, _ => []
theorem kw_rel : ∀ {vs : List V} {us : List Value} {zs : List V} {ws : List Value}, Vals vs us → Vals zs ws → Vals (kwG vs zs) (kwG us ws)
  | _, _, _, _, .nil, _ => .nil
  | _, _, _, _, .cons r .nil, .cons r' .nil => .cons r (.cons r' .nil)
  | _, _, _, _, .cons r .nil, .nil => .nil
  | _, _, _, _, .cons r .nil, .cons _ (.cons _ _) => .nil
  | _, _, _, _, .cons _ (.cons _ _), _ => .nil
theorem kw_binds {K : PySem.W.Frag} {fd : FuncData} {a b : Str} (h : ∀ (s : Shared) (u w : Value), K.In s.heap → BindsTo s fd ⟨[u], [(b, w)]⟩ [(a, u), (b, w)]) : KBinds K fd [a, b] [b] kwG kwG :=
  ⟨(fun s us ws X hl => match us, ws, hl with
    | [u], [w], _ => h s u w X
    | [], _, hl => nomatch hl
    | [_], [], hl => nomatch hl
    | [_], _ :: _ :: _, hl => nomatch hl
    | _ :: _ :: _, _, hl => nomatch hl), kw_rel⟩
end L2

namespace L2
open PySem PySem.Spec PyProof.Rows
/-- x & y, x | y by the class's own method; an object comes back -/
def rBinOwn (C : Addr) (sp : Sp) (E : XK) : R2 := fun x y H Q => ∃ a dx fs b dy gs, x = .ref a ∧ y = .ref b ∧ H a = some (.ins C dx fs) ∧ H b = some (.ins C dy gs) ∧ sp [.ref a, .ref b] H (fun v H' => ∃ c, v = .ref c ∧ Q (.ref c) H') E
theorem op_binM {X : Cx} {k : Nat} {C : Addr} {m : Str} {ps : List Str} {sp : Sp} {op : Operator} (hd : PySem.dunder op.info.2 = m) (D : MethD X.prog X.w X.K X.mg X.base C m k ps sp) (SF : PySem.W.selfFirst X.K C = true) (hr : Room k X.A) : OpR X (binaryOp op) (rBinOwn C sp E0) := by
  obtain ⟨f, fd, M, F, bd, _⟩ := D
  subst hd
  intro pins s σ H x y v u Q I rx ry h
  obtain ⟨a, dx, fs, b, dy, gs, rfl, rfl, ha, hb, q⟩ := h
  cases rx
  cases ry
  obtain ⟨mA, J, _⟩ := ins_get I.hok ha
  obtain ⟨mB, J', _⟩ := ins_get I.hok hb
  obtain ⟨od, J, _⟩ := J.look
  obtain ⟨od', J', _⟩ := J'.look
  obtain ⟨mm, hF⟩ := I.fr
  refine PySem.W.binop_K hF I.ok.mod.kin J J'.type SF M.at_ M.fn ?_
  have q2 : sp ([V.ref a, V.ref b] ++ []) H (fun v H' => ∃ c, v = V.ref c ∧ Q (.ref c) H') E0 := q
  refine thn (run_fn (us := [.ref a, .ref b]) (vs := [.ref a, .ref b]) (dvs := []) F hr bd .nil pass0 I (.cons rfl (.cons rfl .nil)) q2) fun r s' hz => ?_
  obtain ⟨z, H', I', rz, c, ez, q'⟩ := hz
  subst ez
  cases rz
  exact ⟨V.ref c, H', I', rfl, q'⟩
/-- what isinstance asks of a class -/
structure TxI (K : PySem.W.Frag) (C : Addr) : Prop where
  ha : PySem.W.findIn K (.ref C) "__class__" = some (some (.builtin "object.__class__"))
  hn : PySem.W.specialIn K (.builtin "object.__class__") "__get__" = some (some (.builtin "getset_descriptor.__get__"))
  htk : PySem.W.takesIn K (.builtin "object.__class__") = some true
  hm : PySem.W.mroIn K C (.type "object") = some true
  ko : PySem.W.kitOne K (.ref C) (.ref C) = some true
end L2
namespace L2
open PySem PySem.Spec PyProof.Rows
theorem kit_self {K : PySem.W.Frag} {C : Addr} : PySem.W.kitOne K (.ref C) (.ref C) = some true := by
  unfold PySem.W.kitOne
  rw [if_pos]
  simp
end L2

/-! sorted(d.items()) of a dict of whole numbers -/
namespace L2
open PySem PySem.Spec PyProof.Rows
abbrev yMulW : R2 := rI CMulW fun i j => .int (i * j)
abbrev yAbs : List V → Hp → VK → Prop := fun vs H Q => ∃ i, vs = [.int i] ∧ Q (.int (if i < 0 then -i else i)) H
def rItemsK : V → List V → Hp → VK → Prop := fun x xs H Q => ∃ (a : Addr) (kvs : List (Key × V)), x = .ref a ∧ xs = [] ∧ H a = some (.dK kvs) ∧ ∀ v, H v = none → Q (.ref v) (upd H v (DX.itemsO v a))
theorem mt_itemsK {X : Cx} : MtR X "dict.items" rItemsK := by
  intro pins s σ H x xs v us Q I rx rxs h
  obtain ⟨a, kvs, rfl, rfl, ha, q⟩ := h
  cases rx
  cases rxs
  obtain ⟨z, hd, vs, rel, o, es, ep, ho, hx, hdat, _⟩ := dk_of I.hok ha
  refine DT.callItems (es := es) (ep := ep) hd ⟨o, ho, hx, hdat⟩ ?_
  have hnew := I.hok.fresh (Nat.le_refl s.heap.objs.size)
  exact ⟨.ref s.heap.objs.size, _, I.laid (t' := s.toks) (fun b u e => Heap.get?_push_of_some _ e) (Nat.le_refl _) (DX.itemsO_ok (p := s.heap.objs.size) (d := a) (Heap.get?_push_size _ rfl)), rfl, q _ hnew⟩
theorem isPair_one {h : Heap} {v : Value} {x y x' y' : Int} (p : Srt.IsPair h v x y) (q : Srt.IsPair h v x' y') : (x, y) = (x', y') := by
  obtain ⟨a, o, t, u, n, e, ho, _, hd⟩ := p
  obtain ⟨a', o', t', u', n', e', ho', _, hd'⟩ := q
  rw [e] at e'
  cases e'
  rw [ho] at ho'
  cases ho'
  rw [hd] at hd'
  cases hd'
  rfl
theorem pairs_at {P : Program} {w : World} {es : List DictEntry} {vs : List (Key × Value)} (r : Pairs (mixKind P w) es vs) : ∀ {j : Nat} {e : DictEntry}, es[j]? = some e → ∃ k v, vs[j]? = some (k, v) ∧ keyIs k e.key = true ∧ e.val = v := by
  induction r with
  | nil => intro j e h; simp at h
  | @cons e0 kv es kvs h1 h2 _ ih =>
    intro j e h
    cases j with
    | zero =>
      simp at h
      subst h
      exact ⟨kv.1, kv.2, rfl, h1, h2⟩
    | succ j => exact ih (by simpa using h)
/-- a dict from whole numbers to whole numbers -/
abbrev dkI (L : List (Int × Int)) : List (Key × V) := L.map fun q => (Sum.inl q.1, V.int q.2)
def rSortItK : List V → Hp → VK → Prop := fun vs H Q => ∃ (p a : Addr) (L : List (Int × Int)), vs = [.ref p] ∧ H p = some (DX.itemsO p a) ∧ H a = some (.dK (dkI L)) ∧
  ∀ (H' : Hp) (l : Addr) (ts : List Addr) (M : List (Int × Int)), Same H H' → H l = none → M.Perm L → SrtO.Srtd SrtO.lexB M → H' l = some (.lst (ts.map V.ref)) → Paired (fun (t : Addr) (q : Int × Int) => H' t = some (.tup [.int q.1, .int q.2])) ts M → Q (.ref l) H'
theorem paired_map {α β : Type} {F : α → β → Prop} {f : α → β} : ∀ {l : List α}, (∀ x ∈ l, F x (f x)) → Paired F l (l.map f)
  | [], _ => .nil
  | x :: l, h => .cons (h x List.mem_cons_self) (paired_map fun y hy => h y (List.mem_cons_of_mem _ hy))
theorem cr_sortedItemsK {X : Cx} (hc : X.calm = true) : CallR X (.builtin "sorted") rSortItK := by
  intro pins s σ H xs us Q I r h
  obtain ⟨p, a, L, rfl, hp, ha, q⟩ := h
  obtain rfl := Vals.ref1 r
  have view : s.heap.IsItemsView p a := (show ObjOk X.prog X.w H s.heap p (DX.itemsO p a) from I.hok p _ hp).1
  obtain ⟨z, hd, vs, rel, o, es, ep, ho, hx, hdat, hk, hpr, hn⟩ := dk_of I.hok ha
  have l1 : L.length = vs.length := by
    have e := rel.length
    rwa [List.length_map] at e
  have l2 : es.size = vs.length := by
    have e := hpr.length
    simpa using e
  rw [List.length_map] at z
  have hh : X.A.handled = none := I.ok.hd hc
  refine DT.sortedI (es := es) (ep := ep) hh view ⟨o, ho, hx, hdat⟩ (by omega) fun h' tk as hk' hlt hl hG => ?_
  have nd : as.Nodup := List.Pairwise.imp (fun h => Nat.ne_of_lt h) hG.rise
  have asl : as.length = L.length := by omega
  -- what stands at each of the new pairs
  have made : ∀ (j : Nat) (b : Addr), as[j]? = some b → ∃ q : Int × Int, L[j]? = some q ∧ Srt.IsPair h' (.ref b) q.1 q.2 := by
    intro j b hj
    obtain ⟨en, he, hg⟩ := hG.pairs j b hj
    obtain ⟨k, v, hv, hkey, hval⟩ := pairs_at hpr (j := j) (e := en) (by simpa using he)
    obtain ⟨x, hx1, hx2⟩ := KV.at' rel hv
    rw [List.getElem?_map] at hx1
    cases hL : L[j]? with
    | none =>
      rw [hL] at hx1
      cases hx1
    | some qq =>
      rw [hL] at hx1
      have e1 : (Sum.inl qq.1, V.int qq.2) = (k, x) := Option.some.inj hx1
      injection e1 with e2 e3
      subst e2
      subst e3
      obtain ⟨t, ht⟩ := relV_key hkey
      obtain ⟨u, hu⟩ := hx2
      refine ⟨qq, rfl, b, _, t, u, 0, rfl, hg, rfl, ?_⟩
      rw [ht, hval, hu]
  obtain ⟨kf, hkf⟩ : ∃ kf : Addr → Int × Int, ∀ b ∈ as, Srt.IsPair h' (.ref b) (kf b).1 (kf b).2 := by
    have : ∀ b : Addr, ∃ qq : Int × Int, b ∈ as → Srt.IsPair h' (.ref b) qq.1 qq.2 := by
      intro b
      by_cases hb : b ∈ as
      · obtain ⟨j, hj⟩ := List.mem_iff_getElem?.mp hb
        obtain ⟨qq, _, hq⟩ := made j b hj
        exact ⟨qq, fun _ => hq⟩
      · exact ⟨(0, 0), fun y => absurd y hb⟩
    exact Classical.skolem.mp this
  have eL : as.map kf = L := by
    refine List.ext_getElem? fun j => ?_
    rw [List.getElem?_map]
    cases hj : as[j]? with
    | none =>
      have : L.length ≤ j := by
        have := List.getElem?_eq_none_iff.mp hj
        omega
      rw [List.getElem?_eq_none_iff.mpr this]
      rfl
    | some b =>
      obtain ⟨qq, h1, h2⟩ := made j b hj
      rw [h1]
      have := isPair_one (hkf b (List.mem_of_getElem? hj)) h2
      exact congrArg some this
  let kV2 : Value → Int × Int := fun v => match v with
    | .ref b => kf b
    | _ => (0, 0)
  have hob : (h'.push { cls := .type "list", data := .seq (as.map Value.ref).toArray }).get? h'.objs.size = some (seqObj "list" (as.map Value.ref).toArray 0) := Heap.get?_push_size _ rfl
  have ka : ∀ b o, h'.get? b = some o → (h'.push { cls := .type "list", data := .seq (as.map Value.ref).toArray }).get? b = some o := fun b o e => Heap.get?_push_of_some _ e
  have off : ∀ b o, h'.get? b = some o → b ≠ h'.objs.size := fun b o e => Nat.ne_of_lt (Heap.lt_size e)
  generalize hh2 : h'.push { cls := .type "list", data := .seq (as.map Value.ref).toArray } = h2 at hob ka ⊢
  have hp2 : ∀ v ∈ as.map Value.ref, Srt.IsPair h2 v (kV2 v).1 (kV2 v).2 := by
    intro v hv
    obtain ⟨b, hb, rfl⟩ := List.mem_map.mp hv
    exact (hkf b hb).keeps fun c oc e _ => ka c oc e
  have lenV : (as.map Value.ref).length ≤ sizeLine := by rw [List.length_map]; omega
  refine wpAny_call_entry PyProof.Rows.slot_list_sort ⟨_, hob, rfl⟩ PyProof.Rows.entry_list_sort
    (SrtO.list_sort_ord (s := { s with heap := h2, toks := tk }) (SrtO.swo_lex kV2) hob lenV (fun h2' => SrtO.pairs_sortableO (s := { s with heap := h2, toks := tk }) (by omega) hp2 fun oo e => ?_) fun out o1 o2 => ⟨.none, rfl, ?_⟩) (PyProof.Rows.args_list_sort _)
  · have e' : some oo = some (seqObj "list" (as.map Value.ref).toArray 0) := e.symm.trans hob
    cases e'
    intro c
    exact absurd (Value.type.inj c) (by decide)
  · show EP X pins σ Q (.ref h'.objs.size) { s with heap := sortedHeap h2 h'.objs.size (as.map Value.ref) out.toArray, toks := tk }
    have inV : ∀ v ∈ out, ∃ b ∈ as, v = Value.ref b := fun v hv => by
      obtain ⟨b, hb, e⟩ := List.mem_map.mp (o2.perm.mem_iff.mp hv)
      exact ⟨b, hb, e.symm⟩
    obtain ⟨ts, ets⟩ : ∃ ts : List Addr, out = ts.map Value.ref := by
      have : ∀ l : List Value, (∀ v ∈ l, ∃ b ∈ as, v = Value.ref b) → ∃ ts : List Addr, l = ts.map Value.ref := by
        intro l
        induction l with
        | nil => intro _; exact ⟨[], rfl⟩
        | cons v l ih =>
          intro hl'
          obtain ⟨b, _, e⟩ := hl' v List.mem_cons_self
          obtain ⟨ts, e2⟩ := ih fun y hy => hl' y (List.mem_cons_of_mem _ hy)
          exact ⟨b :: ts, by rw [e, e2]; rfl⟩
      exact this out inV
    subst ets
    have tsIn : ∀ b ∈ ts, b ∈ as := fun b hb => by
      obtain ⟨c, hc', e⟩ := inV (.ref b) (List.mem_map.mpr ⟨b, hb, rfl⟩)
      cases e
      exact hc'
    have tperm : ts.Perm as := by
      have e := o2.perm.map (fun v : Value => match v with
        | .ref b => b
        | _ => 0)
      have back : ∀ l : List Addr, (l.map Value.ref).map (fun v : Value => match v with
        | .ref b => b
        | _ => 0) = l := by
        intro l
        rw [List.map_map]
        exact List.map_id' l
      rwa [back, back] at e
    have M1 : (ts.map kf).Perm L := by
      rw [← eL]
      exact tperm.map kf
    have M2 : SrtO.Srtd SrtO.lexB (ts.map kf) := by
      have e : SrtO.Srtd SrtO.lexB ((ts.map Value.ref).map kV2) := SrtO.srtd_map o1
      rwa [List.map_map] at e
    have kF : ∀ b oo, b ≠ h'.objs.size → h2.get? b = some oo → (sortedHeap h2 h'.objs.size (as.map Value.ref) (ts.map Value.ref).toArray).get? b = some oo := fun b oo hb e => (PyProof.Rows.sortedHeap_old hb (Heap.lt_size e)).trans e
    have kS : ∀ b oo, s.heap.get? b = some oo → (sortedHeap h2 h'.objs.size (as.map Value.ref) (ts.map Value.ref).toArray).get? b = some oo := fun b oo e => kF b oo (off _ _ (hk' b oo e)) (ka b oo (hk' b oo e))
    obtain ⟨eF, heF⟩ := PyProof.Rows.sortedHeap_at (vs := as.map Value.ref) (out := (ts.map Value.ref).toArray) hob
    have I1 : Inv X pins σ H { s with heap := sortedHeap h2 h'.objs.size (as.map Value.ref) (ts.map Value.ref).toArray, toks := tk } := I.kept (t' := tk) kS
    have newL : H h'.objs.size = none := I.hok.fresh (Nat.le_of_lt hlt)
    have I2 : Inv X pins σ (upd H h'.objs.size (.lst (ts.map V.ref))) { s with heap := sortedHeap h2 h'.objs.size (as.map Value.ref) (ts.map Value.ref).toArray, toks := tk } :=
      I1.take (h' := sortedHeap h2 h'.objs.size (as.map Value.ref) (ts.map Value.ref).toArray) (t' := tk) (fun b ob _ e => e) (I.fpOk (Nat.le_of_lt hlt) newL) ⟨by rw [List.length_map, tperm.length_eq]; omega, ts.map Value.ref, eF, LiI.vals_refs ts, heF⟩
    obtain ⟨H2, I3, g, qt⟩ := DX.takeT (P := fun b us => us = [V.int (kf b).1, V.int (kf b).2]) I as _ I2 nd fun b hb => by
      have hbl : s.heap.objs.size ≤ b := Nat.le_of_lt (hG.above b hb)
      obtain ⟨c, oc, t, u, n, e, hoc, hcc, hdc⟩ := hkf b hb
      cases e
      refine ⟨hbl, ?_, _, rfl, fun H3 => ⟨by show 2 ≤ sizeLine; decide, [Value.int (kf b).1 t, Value.int (kf b).2 u], .cons ⟨t, rfl⟩ (.cons ⟨u, rfl⟩ .nil), ⟨oc, kF _ _ (off _ _ hoc) (ka _ _ hoc), hcc, n, hdc⟩⟩⟩
      rw [upd_ne (off _ _ hoc)]
      exact I.hok.fresh hbl
    have gr : Same H H2 := fun b oo e => g b oo (by rw [upd_ne (ne_of_none e newL)]; exact e)
    refine ⟨.ref h'.objs.size, H2, I3, rfl, q H2 h'.objs.size ts (ts.map kf) gr newL M1 M2 (g _ _ upd_same) (paired_map fun b hb => ?_)⟩
    obtain ⟨us, eu, hu⟩ := qt b (tsIn b hb)
    rw [hu, eu]
end L2

/-! rows (tuples of whole numbers of any length) sorted; dicts whose keys are rows: their items sorted -/
namespace RW9
open PySem PySem.Spec PySem.W PyProof.Rows
section
variable {prog : Program} {w : World} {A : Around} {s : Shared}
theorem eachIs_self {R : Value → PyData → Prop} {enc : Value → PyData} : ∀ {vs : List Value}, (∀ v ∈ vs, R v (enc v)) → EachIs R vs (vs.map enc)
  | [], _ => .nil
  | v :: vs, h => .cons (h v List.mem_cons_self) (eachIs_self fun u hu => h u (List.mem_cons_of_mem _ hu))
/-- tuples that read as alike data, with an item at least where there are two of them -/
theorem sortable {a : Addr} {vs : List Value} {enc : Value → PyData} (h2 : 2 ≤ vs.length)
    (er : ∀ h' : Heap, (∀ b o, b ≠ a → s.heap.get? b = some o → h'.get? b = some o) → ∀ v ∈ vs, ∃ as, Reads h' v (enc v) as)
    (hal : ∀ v ∈ vs, ∀ u ∈ vs, alike (enc v) (enc u) = true) (ht : ∀ v ∈ vs, ∃ x r, enc v = .tuple (x :: r)) (hu : ∀ v ∈ vs, A.units + (enc v).depth < cLine) :
    SrtO.SortableO prog w A s a vs fun v u => dataLt (enc v) (enc u) := by
  intro h' keep
  have hal' : AllAlike (vs.map enc) := by
    intro d hd d' hd'
    obtain ⟨v, hv, rfl⟩ := List.mem_map.mp hd
    obtain ⟨u, hu', rfl⟩ := List.mem_map.mp hd'
    exact hal v hv u hu'
  have S : SortsAt prog w A { s with heap := h' } (dataKind h' (vs.map enc)) vs :=
    SortsAt.data (s := { s with heap := h' }) (eachIs_self (R := fun v d => ∃ as, Reads h' v d as) (er h' keep)) hal' (.inl fun d hd => by
      obtain ⟨v, hv, rfl⟩ := List.mem_map.mp hd
      exact ht v hv) fun d hd => by
      obtain ⟨v, hv, rfl⟩ := List.mem_map.mp hd
      exact hu v hv
  obtain ⟨kd, lt, kk⟩ := S.kind
  refine ⟨kd, fun Q E hq => kk h2 E hq, ?_⟩
  intro p q hp hq
  obtain ⟨as, ra⟩ := er h' keep p.1 hp
  obtain ⟨bs, rb⟩ := er h' keep q.1 hq
  exact lt (fun _ _ => False) p.1 q.1 _ _ (dataKind_some hal' (List.mem_map.mpr ⟨_, hp, rfl⟩) ra) (dataKind_some hal' (List.mem_map.mpr ⟨_, hq, rfl⟩) rb) ⟨rfl, rfl⟩
/-- a datum's order -/
theorem swo_data (enc : Value → PyData) : SrtO.Swo fun v u => dataLt (enc v) (enc u) := by
  have ir := (listOrd itemOrd).irrefl
  refine ⟨fun x y h => ?_, fun x y z h1 h2 => ?_⟩
  · show (listOrd itemOrd).blt (keyToks (enc y)) (keyToks (enc x)) = false
    cases e : (listOrd itemOrd).blt (keyToks (enc y)) (keyToks (enc x)) with
    | false => rfl
    | true => exact absurd ((listOrd itemOrd).trans _ _ _ h e) (by rw [ir]; exact Bool.false_ne_true)
  · show (listOrd itemOrd).blt (keyToks (enc z)) (keyToks (enc x)) = false
    cases e : (listOrd itemOrd).blt (keyToks (enc z)) (keyToks (enc x)) with
    | false => rfl
    | true =>
      rcases (listOrd itemOrd).negTrans _ (keyToks (enc y)) _ e with q | q
      · exact absurd (q.symm.trans h2) (by decide)
      · exact absurd (q.symm.trans h1) (by decide)
/-! ### the order of rows -/
def ltR (xs ys : List Int) : Bool := decide (xs < ys)
abbrev encR (r : List Int) : PyData := .tuple (r.map .int)
theorem encR_lt (xs ys : List Int) : dataLt (encR xs) (encR ys) = ltR xs ys := by
  rw [dataLt_tuple]
  exact dataLt_ints xs ys
theorem encR_alike (xs ys : List Int) : alike (encR xs) (encR ys) = true := by
  simp [alike, alike_ints]
theorem eqv_ints : ∀ {xs ys : List Int}, PyData.eqvAll (xs.map .int) (ys.map .int) = true → xs = ys
  | [], [], _ => rfl
  | [], y :: ys, h => by simp [PyData.eqvAll] at h
  | x :: xs, [], h => by simp [PyData.eqvAll] at h
  | x :: xs, y :: ys, h => by
    have h' : (PyData.eqv (.int x) (.int y) && PyData.eqvAll (xs.map .int) (ys.map .int)) = true := by rw [← eqv_all_cons]; exact h
    obtain ⟨h1, h2⟩ := Bool.and_eq_true_iff.mp h'
    rw [eqv_ints h2, (show x = y by simpa [PyData.eqv] using h1)]
theorem encR_eqv {xs ys : List Int} (h : PyData.eqv (encR xs) (encR ys) = true) : xs = ys := eqv_ints (by simpa [PyData.eqv] using h)
/-- an item: a row and a number -/
abbrev encI (q : List Int × Int) : PyData := .tuple [encR q.1, .int q.2]
theorem encI_lt {p q : List Int × Int} (h : p.1 ≠ q.1) : dataLt (encI p) (encI q) = ltR p.1 q.1 := by
  rw [dataLt_pair (encR_alike _ _) (by simp [alike]), if_neg (fun e => h (encR_eqv e)), encR_lt]
theorem reads_row {h : Heap} {b : Addr} {r : List Int} {its : List Value} (hI : IntsAre its r) (ht : IsTup h b its.toArray) : ∃ as, Reads h (.ref b) (encR r) as := by
  obtain ⟨o, ho, hc, n, hd⟩ := ht
  have z : ∀ {its : List Value} {r : List Int}, IntsAre its r → ReadsAll h its (r.map .int) [] := by
    intro its r q
    induction q with
    | nil => exact .nil
    | cons i t _ ih => exact .cons (as := []) (.int _ _) ih
  exact ⟨_, .tuple ho hc hd (by simpa using z hI)⟩
end
end RW9

namespace L2
open PySem PySem.Spec PySem.W PyProof.Rows RW9
abbrev rk (r : List Int) : List L2.Key := r.map Sum.inl
theorem rk_kV (r : List Int) : (rk r).map kV = r.map V.int := by
  rw [List.map_map]
  rfl
theorem rk_inj {r q : List Int} (h : rk r = rk q) : r = q := (List.map_inj_right (f := (Sum.inl : Int → L2.Key)) (fun x y e => Sum.inl.inj e)).mp h
/-- a dict from rows to numbers -/
abbrev rowD (L : List (List Int × Int)) : List (List L2.Key × V) := L.map fun q => (rk q.1, V.int q.2)
theorem rowD_keys {H : Hp} : ∀ {L : List (List Int × Int)} {xs : List (List L2.Key × Addr × Value)}, KT H (rowD L) xs → (xs.map (·.1)).Nodup → (L.map (·.1)).Nodup := by
  intro L xs r hn
  have e : xs.map (·.1) = (L.map (·.1)).map rk := by
    have z : ∀ {kvs : List (List L2.Key × V)} {xs : List (List L2.Key × Addr × Value)}, KT H kvs xs → xs.map (·.1) = kvs.map (·.1) := by
      intro kvs xs r
      induction r with
      | nil => rfl
      | cons h t ih => rw [List.map_cons, List.map_cons, ih, ← h.1]
    rw [z r, List.map_map, List.map_map]
    rfl
  rw [e] at hn
  exact List.Pairwise.of_map rk (fun a b h e => h (by rw [e])) hn
theorem row_ints {X : Cx} {pins : List (Addr × Obj)} {σ : St} {H : Hp} {s : Shared} (I : Inv X pins σ H s) {b : Addr} {r : List Int} (h : H b = some (.tup (r.map V.int))) : ∃ its, IntsAre its r ∧ IsTup s.heap b its.toArray := by
  obtain ⟨_, its, rv, q⟩ := (show ObjOk X.prog X.w H s.heap b (.tup (r.map V.int)) from I.hok b _ h)
  exact ⟨its, by simpa using rv.ints, q⟩
/-- what an item of the new list is -/
def ItemAt (H : Hp) (t : Addr) (q : List Int × Int) : Prop := ∃ b, H t = some (.tup [.ref b, .int q.2]) ∧ H b = some (.tup (q.1.map V.int))
def rSortItR : List V → Hp → VK → Prop := fun vs H Q => ∃ (p a : Addr) (L : List (List Int × Int)), vs = [.ref p] ∧ H p = some (DX.itemsO p a) ∧ H a = some (.dT (rowD L)) ∧
  ∀ (H' : Hp) (l : Addr) (ts : List Addr) (M : List (List Int × Int)), Same H H' → H l = none → M.Perm L → (M.map (·.1)).Nodup → M.Pairwise (fun p q => ltR q.1 p.1 = false) → H' l = some (.lst (ts.map V.ref)) → Paired (ItemAt H') ts M → Q (.ref l) H'
theorem cr_sortedItemsR {X : Cx} (hc : X.calm = true) (hu : X.A.units + 8 < cLine) : CallR X (.builtin "sorted") rSortItR := by
  intro pins s σ H xs us Q I r h
  obtain ⟨p, a, L, rfl, hp, ha, q⟩ := h
  obtain rfl := Vals.ref1 r
  have view : s.heap.IsItemsView p a := (show ObjOk X.prog X.w H s.heap p (DX.itemsO p a) from I.hok p _ hp).1
  obtain ⟨z, hd, xs', rel, o, es, ep, ho, hx, hdat, hes, his, hn⟩ := dt_of I.hok ha
  have ndL : (L.map (·.1)).Nodup := rowD_keys rel hn
  have l1 : L.length = xs'.length := by
    have e := Paired.length rel
    rwa [List.length_map] at e
  have l2 : es.size = xs'.length := size_of_entries hes
  rw [List.length_map] at z
  have hh : X.A.handled = none := I.ok.hd hc
  refine DT.sortedI (es := es) (ep := ep) hh view ⟨o, ho, hx, hdat⟩ (by omega) fun h' tk as hk' hlt hl hG => ?_
  have nd : as.Nodup := List.Pairwise.imp (fun h => Nat.ne_of_lt h) hG.rise
  have asl : as.length = L.length := by omega
  have made : ∀ (j : Nat) (b : Addr), as[j]? = some b → ∃ (q : List Int × Int) (kq : Addr) (t : Tok), L[j]? = some q ∧ H kq = some (.tup (q.1.map V.int)) ∧ h'.get? b = some { cls := .type "tuple", data := .seq #[Value.ref kq, Value.int q.2 t] } := by
    intro j b hj
    obtain ⟨en, he, hg⟩ := hG.pairs j b hj
    rw [entry_at hes j] at he
    cases hxj : xs'[j]? with
    | none =>
      rw [hxj] at he
      exact nomatch (show (none : Option DictEntry) = some en from he)
    | some x =>
      rw [hxj] at he
      have een : entryOfKey (tupleKind (mixKind X.prog X.w)) x = en := Option.some.inj he
      obtain ⟨e0, he0, r1, r2, r3⟩ := DX.pget rel hxj
      rw [List.getElem?_map] at he0
      cases hL : L[j]? with
      | none =>
        rw [hL] at he0
        cases he0
      | some qq =>
        rw [hL] at he0
        have ee : (rk qq.1, V.int qq.2) = e0 := Option.some.inj he0
        subst ee
        obtain ⟨t, ht⟩ := r3
        refine ⟨qq, x.2.1, t, rfl, ?_, ?_⟩
        · rw [← rk_kV]
          exact r2
        · rw [hg, ← een, ← ht]
          all_goals rfl
  obtain ⟨kf, hkf⟩ : ∃ kf : Addr → (List Int × Int) × Addr × Tok, ∀ (j : Nat) (b : Addr), as[j]? = some b → L[j]? = some (kf b).1 ∧ H (kf b).2.1 = some (.tup ((kf b).1.1.map V.int)) ∧ h'.get? b = some { cls := .type "tuple", data := .seq #[Value.ref (kf b).2.1, Value.int (kf b).1.2 (kf b).2.2] } := by
    have : ∀ b : Addr, ∃ k : (List Int × Int) × Addr × Tok, ∀ j : Nat, as[j]? = some b → L[j]? = some k.1 ∧ H k.2.1 = some (.tup (k.1.1.map V.int)) ∧ h'.get? b = some { cls := .type "tuple", data := .seq #[Value.ref k.2.1, Value.int k.1.2 k.2.2] } := by
      intro b
      by_cases hb : b ∈ as
      · obtain ⟨j, hj⟩ := List.mem_iff_getElem?.mp hb
        obtain ⟨qq, kq, t, h1, h2, h3⟩ := made j b hj
        refine ⟨(qq, kq, t), fun i hi => ?_⟩
        have ji : j = i := (List.getElem?_inj (List.getElem?_eq_some_iff.mp hj).1 nd).mp (hj.trans hi.symm)
        subst ji
        exact ⟨h1, h2, h3⟩
      · exact ⟨((([] : List Int), (0 : Int)), (0 : Addr), (0 : Nat)), fun j hj => absurd (List.mem_of_getElem? hj) hb⟩
    obtain ⟨f, hf⟩ := Classical.skolem.mp this
    exact ⟨f, fun j b hj => hf b j hj⟩
  have eL : as.map (fun b => (kf b).1) = L := by
    refine List.ext_getElem? fun j => ?_
    rw [List.getElem?_map]
    cases hj : as[j]? with
    | none =>
      have : L.length ≤ j := by
        have := List.getElem?_eq_none_iff.mp hj
        omega
      rw [List.getElem?_eq_none_iff.mpr this]
      rfl
    | some b => exact (hkf j b hj).1.symm
  have kIn : ∀ b ∈ as, H (kf b).2.1 = some (.tup ((kf b).1.1.map V.int)) ∧ h'.get? b = some { cls := .type "tuple", data := .seq #[Value.ref (kf b).2.1, Value.int (kf b).1.2 (kf b).2.2] } := fun b hb => by
    obtain ⟨j, hj⟩ := List.mem_iff_getElem?.mp hb
    exact (hkf j b hj).2
  let enc : Value → PyData := fun v => match v with
    | .ref b => encI (kf b).1
    | _ => encI ([], 0)
  have hob : (h'.push { cls := .type "list", data := .seq (as.map Value.ref).toArray }).get? h'.objs.size = some (seqObj "list" (as.map Value.ref).toArray 0) := Heap.get?_push_size _ rfl
  have ka : ∀ b o, h'.get? b = some o → (h'.push { cls := .type "list", data := .seq (as.map Value.ref).toArray }).get? b = some o := fun b o e => Heap.get?_push_of_some _ e
  have off : ∀ b o, h'.get? b = some o → b ≠ h'.objs.size := fun b o e => Nat.ne_of_lt (Heap.lt_size e)
  generalize hh2 : h'.push { cls := .type "list", data := .seq (as.map Value.ref).toArray } = h2 at hob ka ⊢
  have lenV : (as.map Value.ref).length ≤ sizeLine := by rw [List.length_map]; omega
  have er : ∀ h2' : Heap, (∀ b o, b ≠ h'.objs.size → h2.get? b = some o → h2'.get? b = some o) → ∀ v ∈ as.map Value.ref, ∃ ws, Reads h2' v (enc v) ws := by
    intro h2' keep v hv
    obtain ⟨b, hb, rfl⟩ := List.mem_map.mp hv
    obtain ⟨e1, e2⟩ := kIn b hb
    obtain ⟨its, hI, ob, hob', hcb, nb, hdb⟩ := row_ints I e1
    obtain ⟨ws, hw⟩ := reads_row (h := h2') hI ⟨ob, keep _ _ (off _ _ (hk' _ _ hob')) (ka _ _ (hk' _ _ hob')), hcb, nb, hdb⟩
    exact ⟨_, .tuple (keep _ _ (off _ _ e2) (ka _ _ e2)) rfl rfl (.cons hw (.cons (.int _ _) .nil))⟩
  refine wpAny_call_entry PyProof.Rows.slot_list_sort ⟨_, hob, rfl⟩ PyProof.Rows.entry_list_sort
    (SrtO.list_sort_ord (s := { s with heap := h2, toks := tk }) (swo_data enc) hob lenV (fun h2l => sortable (s := { s with heap := h2, toks := tk }) h2l er (fun v hv u hu' => ?_) (fun v hv => ?_) fun v hv => ?_) fun out o1 o2 => ⟨.none, rfl, ?_⟩) (PyProof.Rows.args_list_sort _)
  · obtain ⟨b, hb, rfl⟩ := List.mem_map.mp hv
    obtain ⟨c, hc', rfl⟩ := List.mem_map.mp hu'
    show alike (encI (kf b).1) (encI (kf c).1) = true
    simp [alike, alikeAll, alike_ints]
  · obtain ⟨b, hb, rfl⟩ := List.mem_map.mp hv
    exact ⟨_, _, rfl⟩
  · obtain ⟨b, hb, rfl⟩ := List.mem_map.mp hv
    show X.A.in1.in1.units + (encI (kf b).1).depth < cLine
    have e1 : X.A.in1.in1.units = X.A.units + 2 := rfl
    have e2 : (encI (kf b).1).depth ≤ 4 := by
      simp [PyData.depth, PyData.depthAll, depth_ints]
    omega
  · show EP X pins σ Q (.ref h'.objs.size) { s with heap := sortedHeap h2 h'.objs.size (as.map Value.ref) out.toArray, toks := tk }
    have inV : ∀ v ∈ out, ∃ b ∈ as, v = Value.ref b := fun v hv => by
      obtain ⟨b, hb, e⟩ := List.mem_map.mp (o2.perm.mem_iff.mp hv)
      exact ⟨b, hb, e.symm⟩
    obtain ⟨ts, ets⟩ : ∃ ts : List Addr, out = ts.map Value.ref := ⟨out.map adO, ref_map fun v hv => by
      obtain ⟨b, _, e⟩ := inV v hv
      exact ⟨b, e⟩⟩
    subst ets
    have tsIn : ∀ b ∈ ts, b ∈ as := fun b hb => by
      obtain ⟨c, hc', e⟩ := inV (.ref b) (List.mem_map.mpr ⟨b, hb, rfl⟩)
      cases e
      exact hc'
    have tperm : ts.Perm as := by
      have e := o2.perm.map adO
      rwa [ad_map, ad_map] at e
    have M1 : (ts.map fun b => (kf b).1).Perm L := by
      rw [← eL]
      exact tperm.map _
    have M0 : ((ts.map fun b => (kf b).1).map (·.1)).Nodup := (M1.map (·.1)).nodup_iff.mpr ndL
    have M2 : (ts.map fun b => (kf b).1).Pairwise (fun p q => ltR q.1 p.1 = false) := by
      have e : (ts.map Value.ref).Pairwise (fun v u => dataLt (enc u) (enc v) = false) := o1
      rw [List.pairwise_map] at e ⊢
      rw [List.map_map, List.Nodup, List.pairwise_map] at M0
      refine (e.and M0).imp fun {x y} hxy => ?_
      have e2 : dataLt (encI (kf y).1) (encI (kf x).1) = false := hxy.1
      rwa [encI_lt (fun z => hxy.2 z.symm)] at e2
    have kF : ∀ b oo, b ≠ h'.objs.size → h2.get? b = some oo → (sortedHeap h2 h'.objs.size (as.map Value.ref) (ts.map Value.ref).toArray).get? b = some oo := fun b oo hb e => (PyProof.Rows.sortedHeap_old hb (Heap.lt_size e)).trans e
    have kS : ∀ b oo, s.heap.get? b = some oo → (sortedHeap h2 h'.objs.size (as.map Value.ref) (ts.map Value.ref).toArray).get? b = some oo := fun b oo e => kF b oo (off _ _ (hk' b oo e)) (ka b oo (hk' b oo e))
    obtain ⟨eF, heF⟩ := PyProof.Rows.sortedHeap_at (vs := as.map Value.ref) (out := (ts.map Value.ref).toArray) hob
    have I1 : Inv X pins σ H { s with heap := sortedHeap h2 h'.objs.size (as.map Value.ref) (ts.map Value.ref).toArray, toks := tk } := I.kept (t' := tk) kS
    have newL : H h'.objs.size = none := I.hok.fresh (Nat.le_of_lt hlt)
    have I2 : Inv X pins σ (upd H h'.objs.size (.lst (ts.map V.ref))) { s with heap := sortedHeap h2 h'.objs.size (as.map Value.ref) (ts.map Value.ref).toArray, toks := tk } :=
      I1.take (h' := sortedHeap h2 h'.objs.size (as.map Value.ref) (ts.map Value.ref).toArray) (t' := tk) (fun b ob _ e => e) (I.fpOk (Nat.le_of_lt hlt) newL) ⟨by rw [List.length_map, tperm.length_eq]; omega, ts.map Value.ref, eF, LiI.vals_refs ts, heF⟩
    obtain ⟨H2, I3, g, qt⟩ := DX.takeT (P := fun b us => us = [V.ref (kf b).2.1, V.int (kf b).1.2]) I as _ I2 nd fun b hb => by
      have hbl : s.heap.objs.size ≤ b := Nat.le_of_lt (hG.above b hb)
      obtain ⟨e1, e2⟩ := kIn b hb
      refine ⟨hbl, ?_, _, rfl, fun H3 => ⟨by show 2 ≤ sizeLine; decide, [Value.ref (kf b).2.1, Value.int (kf b).1.2 (kf b).2.2], .cons rfl (.cons ⟨_, rfl⟩ .nil), ⟨_, kF _ _ (off _ _ e2) (ka _ _ e2), rfl, 0, rfl⟩⟩⟩
      rw [upd_ne (off _ _ e2)]
      exact I.hok.fresh hbl
    have gr : Same H H2 := fun b oo e => g b oo (by rw [upd_ne (ne_of_none e newL)]; exact e)
    refine ⟨.ref h'.objs.size, H2, I3, rfl, q H2 h'.objs.size ts _ gr newL M1 M0 M2 (g _ _ upd_same) (paired_map fun b hb => ?_)⟩
    obtain ⟨us, eu, hu3⟩ := qt b (tsIn b hb)
    exact ⟨_, by rw [hu3, eu], gr _ _ (kIn b (tsIn b hb)).1⟩
end L2

namespace L2
open PySem PySem.Spec PySem.W PyProof.Rows RW9
/-- sorted(d), d a dict whose keys are rows -/
def rSortKeysR : List V → Hp → VK → Prop := fun vs H Q => ∃ (a : Addr) (kvs : List (List L2.Key × V)) (ks : List (List Int)), vs = [.ref a] ∧ Rd H a (.dT kvs) ∧ kvs.map (·.1) = ks.map rk ∧ (2 ≤ ks.length → [] ∉ ks) ∧
  ∀ (p : Addr) (ts : List Addr) (M : List (List Int)), H p = none → M.Perm ks → M.Nodup → M.Pairwise (fun p q => ltR q p = false) → Paired (fun (t : Addr) (r : List Int) => H t = some (.tup (r.map V.int))) ts M → Q (.ref p) (upd H p (.lst (ts.map V.ref)))
theorem cr_sortedKeysR {X : Cx} (hc : X.calm = true) (hu : X.A.units + 8 < cLine) : CallR X (.builtin "sorted") rSortKeysR := by
  intro pins s σ H xs us Q I r h
  obtain ⟨a, kvs, ks, rfl, hd, hks, hne, q⟩ := h
  obtain rfl := Vals.ref1 r
  obtain ⟨z, hs, xs', rel, o, es, ep, ho, hx, hdt, he, hn⟩ := (show ObjOk X.prog X.w H s.heap a (.dT kvs) from hd.ok I.hok)
  have l1 : es.size = xs'.length := size_of_entries he
  have l2 : kvs.length = xs'.length := Paired.length rel
  have l3 : kvs.length = ks.length := by
    have e := congrArg List.length hks
    rwa [List.length_map, List.length_map] at e
  -- the row of each key
  have at' : ∀ (j : Nat) (x : List L2.Key × Addr × Value), xs'[j]? = some x → ∃ r : List Int, ks[j]? = some r ∧ x.1 = rk r ∧ H x.2.1 = some (.tup (r.map V.int)) := by
    intro j x hj
    obtain ⟨e0, he0, r1, r2, _⟩ := DX.pget rel hj
    have e1 : (kvs.map (·.1))[j]? = some e0.1 := by rw [List.getElem?_map, he0]; rfl
    rw [hks, List.getElem?_map] at e1
    obtain ⟨r, hr, e2⟩ := Option.map_eq_some_iff.mp e1
    exact ⟨r, hr, by rw [← r1, e2], by rw [← rk_kV, e2]; exact r2⟩
  have ndk : ks.Nodup := by
    have e : xs'.map (·.1) = ks.map rk := by
      rw [← hks]
      refine List.ext_getElem? fun j => ?_
      rw [List.getElem?_map, List.getElem?_map]
      cases hj : xs'[j]? with
      | none =>
        have := List.getElem?_eq_none_iff.mp hj
        rw [List.getElem?_eq_none (by omega)]
        rfl
      | some x =>
        obtain ⟨e0, he0, r1, _⟩ := DX.pget rel hj
        rw [he0]
        exact congrArg some r1.symm
    rw [e] at hn
    exact List.Pairwise.of_map rk (fun a b h e => h (by rw [e])) hn
  refine Calls.call_function_entry PyProof.Rows.kind_sorted PyProof.Rows.plain_sorted PyProof.Rows.entry_sorted (PyProof.Rows.args_sorted1 _) ?_
  unfold Builtin.«sorted»
  refine wpAny_bind (m := checkCount "sorted" 1 1 _) (wpAny_pure ?_)
  refine wpAny_bind (PySem.W.kdu_collect (A := X.A.in1) (kdl_raw hs hx hdt) (I.ok.hd hc) ho (by omega) fun h' tk acc hk hacc => ?_)
  have hal : acc.toList.length = xs'.length := by rw [Array.length_toList, hacc.1]; exact l1
  have ea : acc.toList = (xs'.map fun x => x.2.1).map Value.ref := by
    refine List.ext_getElem? fun j => ?_
    rw [List.map_map, List.getElem?_map]
    cases hj : acc.toList[j]? with
    | none =>
      have := List.getElem?_eq_none_iff.mp hj
      rw [List.getElem?_eq_none (by omega)]
      rfl
    | some v =>
      obtain ⟨en, hen, hv⟩ := hacc.2 j v (by rw [← Array.getElem?_toList]; exact hj)
      have qe := entry_at he j
      rw [hen] at qe
      cases hb : xs'[j]? with
      | none =>
        rw [hb] at qe
        exact nomatch (show some en = none from qe)
      | some b =>
        rw [hb] at qe
        have e2 : en = entryOfKey (tupleKind (mixKind X.prog X.w)) b := Option.some.inj qe
        rw [hv, e2]
        rfl
  generalize has : (xs'.map fun x => x.2.1) = as at ea
  have asl : as.length = ks.length := by rw [← has, List.length_map]; omega
  obtain ⟨kf, hkf⟩ : ∃ kf : Addr → List Int, ∀ (j : Nat) (b : Addr), as[j]? = some b → ks[j]? = some (kf b) ∧ H b = some (.tup ((kf b).map V.int)) := by
    have : ∀ b : Addr, ∃ r : List Int, ∀ j : Nat, as[j]? = some b → ks[j]? = some r ∧ H b = some (.tup (r.map V.int)) := by
      intro b
      by_cases hb : b ∈ as
      · obtain ⟨j, hj⟩ := List.mem_iff_getElem?.mp hb
        have one : ∀ i : Nat, as[i]? = some b → ∃ r, ks[i]? = some r ∧ H b = some (.tup (r.map V.int)) := by
          intro i hi
          rw [← has, List.getElem?_map] at hi
          obtain ⟨x, hx1, hx2⟩ := Option.map_eq_some_iff.mp hi
          subst hx2
          obtain ⟨r, hr, _, e3⟩ := at' i x hx1
          exact ⟨r, hr, e3⟩
        obtain ⟨r, h1, h2⟩ := one j hj
        refine ⟨r, fun i hi => ?_⟩
        obtain ⟨r', h3, h4⟩ := one i hi
        have e : r'.map V.int = r.map V.int := by
          rw [h2] at h4
          injection h4 with h4
          injection h4 with h4
          exact h4.symm
        have er : r' = r := (List.map_inj_right (f := V.int) (fun x y e => by injection e)).mp e
        subst er
        exact ⟨h3, h2⟩
      · exact ⟨[], fun j hj => absurd (List.mem_of_getElem? hj) hb⟩
    obtain ⟨f, hf⟩ := Classical.skolem.mp this
    exact ⟨f, fun j b hj => hf b j hj⟩
  have eL : as.map kf = ks := by
    refine List.ext_getElem? fun j => ?_
    rw [List.getElem?_map]
    cases hj : as[j]? with
    | none =>
      have := List.getElem?_eq_none_iff.mp hj
      rw [List.getElem?_eq_none (by omega)]
      rfl
    | some b => exact (hkf j b hj).1.symm
  have kIn : ∀ b ∈ as, H b = some (.tup ((kf b).map V.int)) := fun b hb => by
    obtain ⟨j, hj⟩ := List.mem_iff_getElem?.mp hb
    exact (hkf j b hj).2
  let enc : Value → PyData := fun v => match v with
    | .ref b => encR (kf b)
    | _ => encR []
  have I1 : Inv X pins σ H { s with heap := h', toks := tk } := I.kept hk
  rw [ea]
  have lenV : (as.map Value.ref).length ≤ sizeLine := by rw [List.length_map]; omega
  refine wpAny_bind (wpAny_newList ?_ lenV)
  have hob : (h'.push (seqObj "list" (as.map Value.ref).toArray 0)).get? h'.objs.size = some (seqObj "list" (as.map Value.ref).toArray 0) := Heap.get?_push_size _ rfl
  have ka : ∀ b o, h'.get? b = some o → (h'.push (seqObj "list" (as.map Value.ref).toArray 0)).get? b = some o := fun b o e => Heap.get?_push_of_some _ e
  have off : ∀ b o, h'.get? b = some o → b ≠ h'.objs.size := fun b o e => Nat.ne_of_lt (Heap.lt_size e)
  show wpAny _ _ _ _ _ { s with heap := h'.push (seqObj "list" (as.map Value.ref).toArray 0), toks := tk }
  generalize hh2 : h'.push (seqObj "list" (as.map Value.ref).toArray 0) = h2 at hob ka ⊢
  have er : ∀ h2' : Heap, (∀ b o, b ≠ h'.objs.size → h2.get? b = some o → h2'.get? b = some o) → ∀ v ∈ as.map Value.ref, ∃ ws, Reads h2' v (enc v) ws := by
    intro h2' keep v hv
    obtain ⟨b, hb, rfl⟩ := List.mem_map.mp hv
    obtain ⟨its, hI, ob, hob', hcb, nb, hdb⟩ := row_ints I1 (kIn b hb)
    exact reads_row (h := h2') hI ⟨ob, keep _ _ (off _ _ hob') (ka _ _ hob'), hcb, nb, hdb⟩
  refine wpAny_bind (wpAny_holding (wpAny_call_entry PyProof.Rows.slot_list_sort ⟨_, hob, rfl⟩ PyProof.Rows.entry_list_sort
    (SrtO.list_sort_ord (s := { s with heap := h2, toks := tk }) (swo_data enc) hob lenV (fun h2l => sortable (s := { s with heap := h2, toks := tk }) h2l er (fun v hv u hu' => ?_) (fun v hv => ?_) fun v hv => ?_) fun out o1 o2 => ⟨_, rfl, ?_⟩) (PyProof.Rows.args_list_sort _)))
  · obtain ⟨b, hb, rfl⟩ := List.mem_map.mp hv
    obtain ⟨c, hc', rfl⟩ := List.mem_map.mp hu'
    exact encR_alike _ _
  · obtain ⟨b, hb, rfl⟩ := List.mem_map.mp hv
    show ∃ x r, encR (kf b) = .tuple (x :: r)
    have ne : kf b ≠ [] := fun e => hne (by rw [← asl]; rwa [List.length_map] at h2l) (by
      rw [← eL, ← e]
      exact List.mem_map.mpr ⟨b, hb, rfl⟩)
    cases e : kf b with
    | nil => exact absurd e ne
    | cons x r => exact ⟨_, _, rfl⟩
  · obtain ⟨b, hb, rfl⟩ := List.mem_map.mp hv
    show X.A.in1.in1.units + (encR (kf b)).depth < cLine
    have e1 : X.A.in1.in1.units = X.A.units + 2 := rfl
    have e2 : (encR (kf b)).depth ≤ 4 := by
      simp [PyData.depth, depth_ints]
    omega
  · refine wpAny_pure ?_
    have inV : ∀ v ∈ out, ∃ b ∈ as, v = Value.ref b := fun v hv => by
      obtain ⟨b, hb, e⟩ := List.mem_map.mp (o2.perm.mem_iff.mp hv)
      exact ⟨b, hb, e.symm⟩
    obtain ⟨ts, ets⟩ : ∃ ts : List Addr, out = ts.map Value.ref := ⟨out.map adO, ref_map fun v hv => by
      obtain ⟨b, _, e⟩ := inV v hv
      exact ⟨b, e⟩⟩
    subst ets
    have tsIn : ∀ b ∈ ts, b ∈ as := fun b hb => by
      obtain ⟨c, hc', e⟩ := inV (.ref b) (List.mem_map.mpr ⟨b, hb, rfl⟩)
      cases e
      exact hc'
    have tperm : ts.Perm as := by
      have e := o2.perm.map adO
      rwa [ad_map, ad_map] at e
    have M1 : (ts.map kf).Perm ks := by
      rw [← eL]
      exact tperm.map _
    have M2 : (ts.map kf).Pairwise (fun p q => ltR q p = false) := by
      have e : (ts.map Value.ref).Pairwise (fun v u => dataLt (enc u) (enc v) = false) := o1
      rw [List.pairwise_map] at e ⊢
      refine e.imp fun {x y} hxy => ?_
      have e2 : dataLt (encR (kf y)) (encR (kf x)) = false := hxy
      rwa [encR_lt] at e2
    obtain ⟨eF, heF⟩ := PyProof.Rows.sortedHeap_at (vs := as.map Value.ref) (out := (ts.map Value.ref).toArray) hob
    have kF : ∀ b oo, h'.get? b = some oo → (sortedHeap h2 h'.objs.size (as.map Value.ref) (ts.map Value.ref).toArray).get? b = some oo := fun b oo e => (PyProof.Rows.sortedHeap_old (off _ _ e) (Heap.lt_size (ka _ _ e))).trans (ka _ _ e)
    refine ⟨.ref h'.objs.size, rfl, .ref h'.objs.size, upd H h'.objs.size (.lst (ts.map V.ref)), I1.laid (t' := tk) kF (Nat.le_refl _) ⟨by rw [List.length_map, tperm.length_eq]; omega, ts.map Value.ref, eF, LiI.vals_refs ts, heF⟩, rfl, q _ ts _ (I1.hok.fresh (Nat.le_refl _)) M1 (M1.nodup_iff.mpr ndk) M2 (paired_map fun b hb => kIn b (tsIn b hb))⟩
end L2

/-! dicts whose keys are rows: == of two equal ones, setdefault, comprehensions -/
namespace RW9
open PySem PySem.Calls PySem.W PySem.Spec PyProof.Rows
section
variable {prog : Program} {w : World} {K : Type} [DecidableEq K] {knd : HeapKind prog w K} {A : Around} {E : Value → Shared → Prop} {s : Shared}
theorem same_heap {nm : String} {a b : Addr} {xa xb : List (K × Addr × Value)} {Q : Bool → Shared → Prop} (hu : knd.room A) (ha : (a == sysModules) = false) (hb : (b == sysModules) = false)
    (da : s.heap.DictOfH knd a xa) (db : s.heap.DictOfH knd b xb) (hl : xa.length = xb.length) (hv : ∀ x ∈ xa, ∃ (j : Nat) (p : Addr × Value), xb[j]? = some (x.1, p) ∧ SeqAt.EqAt A s x.2.2 p.2 true) (h : Q true s) :
    wpAny (model prog w) A (Builtin.Dict.samePairs nm a b) Q E s := by
  obtain ⟨oa, es, ep, hoa, _, hda, hea, hia, hna⟩ := da
  obtain ⟨ob, es', ep', hob, _, hdb, heb, hib, hnb⟩ := db
  have la : es.size = xa.length := size_of_entries hea
  have lb : es'.size = xb.length := size_of_entries heb
  have hsz : es.size = es'.size := by omega
  unfold Builtin.Dict.samePairs Builtin.Dict.showsAll
  rw [if_neg (show ¬ (a == sysModules) = true by rw [ha]; exact Bool.false_ne_true), if_neg (show ¬ (b == sysModules) = true by rw [hb]; exact Bool.false_ne_true)]
  refine wpAny_bind (wpAny_pure (wpAny_bind (wpAny_pure ?_)))
  refine wpAny_bind (wpAny_dictEntries hoa hda ?_)
  dsimp only
  refine wpAny_bind (wpAny_dictEntries hob hdb ?_)
  rw [if_neg (by rw [hsz]; simp)]
  refine wpAny_bind (wpAny_dictEpoch hoa hda ?_)
  refine wpAny_bind ?_
  rw [Std.Legacy.Range.forIn_eq_forIn_range']
  simp only [Std.Legacy.Range.size, Nat.sub_zero, Nat.add_sub_cancel, Nat.div_one]
  refine wpAny_forIn_list _ (fun rest q s' => s' = s ∧ q = (none, ()) ∧ ∀ i ∈ rest, i < es.size) _ ?_ ?_ _ _ ⟨rfl, rfl, fun i hi => by
    have := (List.mem_range'_1.mp hi).2
    omega⟩
  · rintro i rest q s' ⟨rfl, rfl, hr⟩
    have hlt : i < es.size := hr i List.mem_cons_self
    have hlx : i < xa.length := by omega
    have hin : xa[i] ∈ xa := List.getElem_mem hlx
    have ent : es[i]? = some (entryOfKey knd xa[i]) := by
      rw [entry_at hea i, List.getElem?_eq_getElem hlx]
      rfl
    obtain ⟨j, p, hj, heq⟩ := hv _ hin
    refine wpAny_bind (wpAny_dictEntries hoa hda ?_)
    rw [ent]
    show wpAny _ _ (holding [(entryOfKey knd xa[i]).key, (entryOfKey knd xa[i]).val] _ >>= _) _ _ _
    refine wpAny_bind (wpAny_holding (wpAny_bind (wpAny_dictFind_heap hu (hia _ hin) hob hdb heb hib hnb (fun hno => absurd hj (hno j p)) fun j' p' hj' => ?_)))
    have e1 : j' = j := idxH_unique hnb hj' hj
    subst e1
    have e2 : p' = p := by
      rw [hj] at hj'
      injection hj' with e
      injection e with _ e
      exact e.symm
    subst e2
    refine wpAny_bind (wpAny_dictEntries hob hdb ?_)
    rw [entry_at heb j', hj]
    show wpAny _ _ (holding _ _) _ _ _
    refine wpAny_holding (heq prog w _ _ ?_)
    show wpAny _ _ (if (!true) = true then _ else _) _ _ _
    rw [if_neg (by decide)]
    refine wpAny_bind (wpAny_dictEpoch hoa hda ?_)
    rw [if_neg (by simp)]
    exact wpAny_pure ⟨rfl, rfl, fun i hi => hr i (List.mem_cons_of_mem _ hi)⟩
  · rintro q s' ⟨rfl, rfl, _⟩
    exact wpAny_pure h
theorem eq_heap {a b : Addr} {xa xb : List (K × Addr × Value)} {Q : Value → Shared → Prop} (hr : knd.room A.in1) (hu : A.units < cLine) (ha : (a == sysModules) = false) (hb : (b == sysModules) = false)
    (da : s.heap.DictOfH knd a xa) (db : s.heap.DictOfH knd b xb) (hl : xa.length = xb.length) (hv : ∀ x ∈ xa, ∃ (j : Nat) (p : Addr × Value), xb[j]? = some (x.1, p) ∧ SeqAt.EqAt A.in1 s x.2.2 p.2 true) (h : Q (.bool true) s) :
    wpAny (model prog w) A (compareOp .Eq (.ref a) (.ref b)) Q E s := by
  have ta : s.TypeIs (.ref a) "dict" := da.typeIs
  have tb : s.TypeIs (.ref b) "dict" := db.typeIs
  refine wpAny_richCompare_same_room (op := .Eq) ta tb PySem.F.slot_dict_eq (wpAny_call_entry PySem.F.slot_dict_eq ta PySem.F.entry_dict_eq ?_ (PySem.F.args_dict_eq_2 _ _)) hu
  show wpAny _ _ (Builtin.Dict.dictSlotArgs "__eq__" ⟨[.ref a, .ref b], []⟩ >>= _) _ _ s
  refine wpAny_bind ?_
  unfold Builtin.Dict.dictSlotArgs
  refine wpAny_bind (wpAny_notOrdered_dict ta ?_)
  show wpAny _ _ (pure (Value.ref a, Value.ref b)) _ _ s
  refine wpAny_pure ?_
  refine wpAny_bind (wpAny_isInstance (T := "dict") tb PySem.F.sub_dict_dict ?_)
  simp only [Bool.not_true, Bool.false_eq_true, if_false]
  refine wpAny_bind (wpAny_pure (wpAny_bind (wpAny_pure ?_)))
  refine wpAny_bind (same_heap hr ha hb da db hl hv ?_)
  exact wpAny_pure ⟨_, rfl, (fun x => nomatch x), h⟩
end
end RW9

namespace L2
open PySem PySem.Spec PySem.W PyProof.Rows RW9
section
variable {X : Cx}
/-- == of two dicts from rows to numbers that hold the same -/
def rEqRow : R2 := fun x y H Q => ∃ a b L M, x = .ref a ∧ y = .ref b ∧ H a = some (.dT (rowD L)) ∧ H b = some (.dT (rowD M)) ∧ L.Perm M ∧ Q (.bl true) H
theorem op_eq_row (hu : X.A.units + 1 < cLine) : OpR X (compareOp .Eq) rEqRow := by
  intro pins s σ H x y v u Q I rx ry h
  obtain ⟨a, b, L, M, rfl, rfl, ea, eb, pm, q⟩ := h
  obtain rfl : v = Value.ref a := rx
  obtain rfl : u = Value.ref b := ry
  obtain ⟨_, ya, xa, ra, da⟩ := dt_of I.hok ea
  obtain ⟨_, yb, xb, rb, db⟩ := dt_of I.hok eb
  have la : L.length = xa.length := by
    have e := Paired.length ra
    rwa [List.length_map] at e
  have lb : M.length = xb.length := by
    have e := Paired.length rb
    rwa [List.length_map] at e
  have lm := pm.length_eq
  refine eq_heap (tupleKind_room_in1 hu) (by omega) ya yb da db (by omega) (fun x hx => ?_) (fin_bl I q rfl)
  obtain ⟨i, hi⟩ := List.mem_iff_getElem?.mp hx
  obtain ⟨e0, he0, r1, _, r3⟩ := DX.pget ra hi
  rw [List.getElem?_map] at he0
  obtain ⟨p, hp, e1⟩ := Option.map_eq_some_iff.mp he0
  subst e1
  obtain ⟨j, hj⟩ := List.mem_iff_getElem?.mp (pm.mem_iff.mp (List.mem_of_getElem? hp))
  have hjx : ∃ z, xb[j]? = some z := ⟨xb[j]'(by have := (List.getElem?_eq_some_iff.mp hj).1; omega), List.getElem?_eq_getElem _⟩
  obtain ⟨z, hz⟩ := hjx
  obtain ⟨e2, he2, s1, _, s3⟩ := DX.pget rb hz
  rw [List.getElem?_map, hj] at he2
  have e3 : (rk p.1, V.int p.2) = e2 := Option.some.inj he2
  subst e3
  obtain ⟨t, ht⟩ := r3
  obtain ⟨t', ht'⟩ := s3
  refine ⟨j, z.2, by rw [hz, ← r1, s1], ?_⟩
  rw [ht, ht']
  have e := SeqAt.EqAt.int_int (A := X.A.in1) (s := s) p.2 t p.2 t'
  rw [beq_self_eq_true] at e
  exact e
/-! ### setdefault -/
def tDSetdT (td ty tx : TE) : TE := fun σ H Q => td σ H fun x H1 => ∃ a, x = .ref a ∧ IsD H1 a ∧ ty σ H1 fun y H2 => tx σ H2 fun z H3 => ∃ (kvs : List (List Key × V)) (k : List Key) (b : Addr), H3 a = some (.dT kvs) ∧ y = .ref b ∧ H3 b = some (.tup (k.map kV)) ∧ kvs.length < sizeLine ∧
  (∀ v, valV kvs k = some v → Q v H3) ∧ (valV kvs k = none → Q z (upd H3 a (.dT (putK kvs k z))))
theorem d_setdT {pins : List (Addr × Obj)} {σ : St} {H : Hp} {s : Shared} {a b : Addr} {r : Value} {d : V} {k : List Key} {A : Around} {E : Value → Shared → Prop} {kvs : List (List Key × V)} {Q : Value → Shared → Prop} (hu : A.units + 1 < cLine) (I : Inv X pins σ H s)
    (e : H a = some (.dT kvs)) (eb : H b = some (.tup (k.map kV))) (rd : RelV d r) (hl : kvs.length < sizeLine)
    (h1 : ∀ v, valV kvs k = some v → ∀ (w' : Value) (s' : Shared), Inv X pins σ H s' → RelV v w' → Q w' s') (h2 : valV kvs k = none → ∀ (w' : Value) (s' : Shared), Inv X pins σ (upd H a (.dT (putK kvs k d))) s' → RelV d w' → Q w' s') :
    wpAny (model X.prog X.w) A (call (.builtin "dict.setdefault") [.ref a, .ref b, r]) Q E s := by
  obtain ⟨z, hd, xs, rel, dd⟩ := dt_of I.hok e
  have hz : xs.length ≤ sizeLine := by rw [← Paired.length rel]; exact z
  have rv := rel.val k
  refine call_meetsIn PySem.F.slot_dict_setdefault dd.typeIs PySem.F.entry_dict_setdefault (PySem.F.args_dict_setdefault_3 _ _ _) (meetsH_dict_setdefault (tupleKind (mixKind X.prog X.w)) a b hd r) ⟨tupleKind_room_in1 hu, k, xs, key_of I.hok eb, dd, hz, fun p hp => ?_, fun hn h' dd' hs => ?_⟩
  · rw [hp] at rv
    cases q0 : valV kvs k with
    | none =>
      rw [q0] at rv
      exact (show False from rv).elim
    | some v0 =>
      rw [q0] at rv
      exact h1 v0 q0 _ _ (I.tok _) rv
  · rw [hn] at rv
    cases q0 : valV kvs k with
    | some v0 =>
      rw [q0] at rv
      exact (show False from rv).elim
    | none =>
      have hl2 : (putK kvs k d).length ≤ sizeLine := by
        have := length_putK kvs k d
        omega
      obtain ⟨q, es, ep, hq, g2, g3, g4, _, g5⟩ := dd'
      exact h2 q0 _ _ (d_write I (by rw [e]; exact True.intro) hs ⟨q, hq⟩ ⟨hl2, hd, _, (rel.put k eb rd).keeps fun c ys ec => (by rw [upd_ne (ne_of ec e (fun z => nomatch z))]; exact ec), q, es, ep, hq, g2, g3, g4, g5⟩) rd
theorem pe_dsetdT {o e f : Expr} {td ty tx : TE} {apos cpos : Pos} (hu : X.A.units + 1 < cLine) (ho : PE X o td) (he : PE X e ty) (hf : PE X f tx) (m : M2 X o "setdefault" apos e f cpos) : PE X (.Call (.Attribute o "setdefault" apos) [e, f] [] cpos) (tDSetdT td ty tx) := by
  refine ⟨fun pins s σ H Q I h => ?_⟩
  refine wpAny_Call_method m.base m.few m.line PySem.F.plainAttrs_dict PySem.F.slot_dict_setdefault PySem.F.type_dict_setdefault (thn (ho.run pins s σ H _ I h) fun u s1 ⟨x, H1, I1, rx, a, ex, d, q1⟩ => ?_)
  subst ex
  obtain rfl : u = Value.ref a := rx
  obtain ⟨t1, t2, _⟩ := isD_at I1 d
  refine ⟨t1, t2, ?_⟩
  rw [m.trees]
  refine Calls.callWith_builtin rfl (Calls.evalArgs_plain (Calls.spliced_cons (thn (he.run pins s1 σ H1 _ I1 q1) fun iv s2 ⟨y, H2, I2, ry, q2⟩ =>
    Calls.spliced_cons (thn (hf.run pins s2 σ H2 _ I2 q2) fun fv s3 ⟨z, H3, I3, rz, kvs, k, b, ea, ey, eb, hl, q3, q4⟩ => Calls.spliced_nil ?_))))
  subst ey
  obtain rfl : iv = Value.ref b := ry
  exact d_setdT hu I3 ea eb rz hl (fun v hv w' s4 I4 rw' => ⟨v, _, I4, rw', q3 v hv⟩) fun hn w' s4 I4 rw' => ⟨z, _, I4, rw', q4 hn⟩
/-! ### a comprehension's own put -/
theorem d_dictSetT {pins : List (Addr × Obj)} {σ : St} {H : Hp} {s : Shared} {E : Value → Shared → Prop} {D b : Addr} {kvs : List (List Key × V)} {k : List Key} {v : V} {r : Value} {Q : Unit → Shared → Prop} (hu : X.A.units < cLine) (I : Inv X pins σ H s) (hD : H D = some (.dT kvs)) (eb : H b = some (.tup (k.map kV))) (hz : kvs.length < sizeLine)
    (rv : RelV v r) (h : ∀ s', Inv X pins σ (upd H D (.dT (putK kvs k v))) s' → Q () s') : wpAny (model X.prog X.w) X.A (dictSet D (.ref b) r) Q E s := by
  obtain ⟨z, hd, xs, rel, dd⟩ := dt_of I.hok hD
  have hzv : xs.length ≤ sizeLine := by rw [← Paired.length rel]; exact z
  have hl : (putK kvs k v).length ≤ sizeLine := by have := length_putK kvs k v; omega
  refine wpAny_dictSet_heap (hsz := hzv) (knd := tupleKind (mixKind X.prog X.w)) hu (key_of I.hok eb) dd fun h' dd' hs => h _ ?_
  obtain ⟨q, es, ep, hq, g2, g3, g4, _, g5⟩ := dd'
  exact d_write I (by rw [hD]; exact True.intro) hs ⟨q, hq⟩ ⟨hl, hd, _, (rel.put k eb rv).keeps fun c ys ec => (by rw [upd_ne (ne_of ec hD (fun z => nomatch z))]; exact ec), q, es, ep, hq, g2, g3, g4, g5⟩
end
end L2

/-! a dict comprehension whose keys may be rows -/
namespace L2
open PySem PySem.Spec PyProof.Rows
/-- a comprehension's put, either kind of dict -/
theorem put_comp {X : Cx} {pins : List (Addr × Obj)} {σ : St} {H H' : Hp} {s : Shared} {E : Value → Shared → Prop} {D : Addr} {y v : V} {u r : Value} {Q : Unit → Shared → Prop} (hu : X.A.units < cLine) (I : Inv X pins σ H s) (g : DPut H D y v H') (ry : RelV y u) (rv : RelV v r) (h : ∀ s', Inv X pins σ H' s' → Q () s') :
    wpAny (model X.prog X.w) X.A (dictSet D u r) Q E s := by
  rcases g with ⟨kvs, k, e, rfl, l, rfl⟩ | ⟨kvs, k, b, e, rfl, eb, l, rfl⟩
  · exact d_dictSet I e l ry rv h
  · obtain rfl : u = Value.ref b := ry
    exact d_dictSetT hu I e eb l rv h
/-- {k: v for target in iter if ..}: D the new dict, o0 what it is at first -/
def tDcP (o0 : HO) (wi : TI) (g : TG) (tt : TT) (tk tv : TE) (vs : List Nat) : TE := fun σ H Q => wi σ H fun J H1 => ∀ D, H1 D = none → ∃ W : Nat → Nat → Hp → Prop, (∃ m, W 0 m (upd H1 D o0)) ∧ ∀ i m H, W i m H →
  (J.stop i H ∧ Q (.ref D) H) ∨ (J.go i H ∧ ∃ Nx : Hp → Prop, (∀ H', Nx H' → ∃ m', m' < m ∧ W (i + 1) m' H') ∧ ∀ x H', J.yld i H x H' → g x (wipe σ vs) H' fun σ2 H2 => wipe σ2 vs = wipe σ vs ∧ tt σ2 H2 fun b H3 =>
    if b = true then tk σ2 H3 fun y H4 => tv σ2 H4 fun z H5 => ∃ H6, DPut H5 D y z H6 ∧ Nx H6 else Nx H3)
/-- what a new dict may be at first -/
def Fresh0 (o0 : HO) : Prop := ∀ (P : Program) (w : World) (H : Hp) (h : Heap), sysModules < h.objs.size → ObjOk P w H (h.push { cls := .type "dict", data := .dict #[] }) h.objs.size o0
theorem fresh_T : Fresh0 (.dT []) := fun P w H h hb => dt_empty h hb
section
variable {X : Cx} {kx vx tg iter : Expr} {ifs : List Expr} {scope : Scope} {own : List (Str × Nat)} {pos : Pos} {o0 : HO} {wi : TI} {g : TG} {tt : TT} {tk tv : TE}
theorem dcP_core {pins : List (Addr × Obj)} {s : Shared} {σ : L2.St} {H : Hp} {Q : VK} {pos' : Pos} {use : Option (Value → Sem Unit)} {Qf : Value → Shared → Prop} (h0 : Fresh0 o0) (hu : X.A.units < cLine) (hc : X.calm = true) (hN : X.N.Nodup) (I : Inv X pins σ H s) (hi : PI X tg iter wi) (ok : BlkOk X.N X.env.scope scope own)
    (hg : ∀ (s : Shared) (H : Hp) (C : Addr) (cl : List (Str × Addr)) (fp : List Addr), PG (X.blk s H scope (compEnvC scope cl C X.env) fp) tg g)
    (ht : ∀ (s : Shared) (H : Hp) (C : Addr) (cl : List (Str × Addr)) (fp : List Addr), PTs (X.blk s H scope (compEnvC scope cl C X.env) fp) ifs tt)
    (hk : ∀ (s : Shared) (H : Hp) (C : Addr) (cl : List (Str × Addr)) (fp : List Addr), PE (X.blk s H scope (compEnvC scope cl C X.env) fp) kx tk)
    (hv : ∀ (s : Shared) (H : Hp) (C : Addr) (cl : List (Str × Addr)) (fp : List Addr), PE (X.blk s H scope (compEnvC scope cl C X.env) fp) vx tv) (hs : ∀ x, foldedSetIterable iter X.env x = pure x)
    (h : tDcP o0 wi g tt tk tv (own.map (·.2)) σ H Q)
    (hRR : ∀ D C s' m H', Inv X pins σ H' s' → Q (.ref D) H' → s'.heap.Ns C m → FpOk X pins H' C → compPost (model X.prog X.w) X.A X.xe use Qf (.ref D) C (.ok .next) s') :
    wpAny (model X.prog X.w) X.A (comprehension (.DictComp kx vx [⟨tg, iter, ifs, 0⟩] scope pos) scope X.env pos' newDict false (eval iter X.env) use) Qf X.xe s := by
  have cells : ∀ y ∈ scope.names, y.2 = .free → ∃ c, X.env.cells.lookup y.1 = some c := fun y hy e => (ok.free y hy e).elim (fun k => I.ok.has _ (.inl k)) fun k => I.ok.has _ (.inr k)
  refine wpAny_comprehension_free (use := use) rfl hs (closure_ok cells) ok.kind (fun y hy e => by rw [ok.uniq y hy, e]) (thn (hi.run pins s σ H _ I h) fun xv sA hx => thn hx fun itv sB hB => ?_)
  obtain ⟨it, fp, tn, J, H2, e, I2, T, st2, f2, q⟩ := hB
  subst e
  refine wpAny_newObj_type (newEnv_comp ?_)
  generalize hD : sB.heap.objs.size = D
  obtain ⟨W, ⟨m0, w0⟩, turn⟩ := q D (I2.hok.fresh (Nat.le_of_eq hD))
  -- the new dict
  have oldB : ∀ b o, sB.heap.get? b = some o → (sB.heap.push { cls := .type "dict", data := .dict #[] }).get? b = some o := fun b o e => Heap.get?_push_of_some _ e
  have I3 : Inv X pins σ (upd H2 D o0) { sB with heap := sB.heap.push { cls := .type "dict", data := .dict #[] } } :=
    I2.laid (t' := sB.toks) oldB (Nat.le_of_eq hD) (by rw [← hD]; exact h0 _ _ _ sB.heap I2.big)
  have below : ∀ b ∈ fp, b < sB.heap.objs.size := fun b hb => (T.obj _ _ st2 b hb).elim fun o e => Heap.lt_size e.1
  generalize hs3 : ({ sB with heap := sB.heap.push { cls := .type "dict", data := .dict #[] } } : Shared) = s3 at I3
  have eh3 : s3.heap = sB.heap.push { cls := .type "dict", data := .dict #[] } := by rw [← hs3]
  have f3 : ∀ b ∈ fp, FpOk X pins (upd H2 D o0) b ∧ b < s3.heap.objs.size := fun b hb => by
    have l := below b hb
    refine ⟨⟨?_, (f2 b hb).2⟩, by rw [eh3, Heap.size_push]; exact Nat.lt_succ_of_lt l⟩
    rw [upd_ne (fun z => absurd l (by rw [z, ← hD]; exact Nat.lt_irrefl _))]
    exact (f2 b hb).1
  have I4 := block_start I3 ok hN f3
  generalize hH3 : upd H2 D o0 = H3 at I3 I4 w0 f3
  generalize hcl : cellsFrom (s3.heap.objs.size + 1) scope.names (cloFrom X.env.cells scope.names []) = cl at I4
  have pg := hg s3 H3 s3.heap.objs.size cl fp
  have pt := ht s3 H3 s3.heap.objs.size cl fp
  have pk := hk s3 H3 s3.heap.objs.size cl fp
  have pv := hv s3 H3 s3.heap.objs.size cl fp
  show codeAny _ _ (.compStart (.DictComp kx vx [⟨tg, iter, ifs, 0⟩] scope pos) 0 (.ref it) (.ref D) (compEnvC scope cl s3.heap.objs.size X.env)) (compPost (model X.prog X.w) X.A X.xe use Qf (.ref D) s3.heap.objs.size) { s3 with heap := pushCells (s3.heap.push { cls := .type "dict", data := .dict #[] }) scope.names }
  generalize hce : compEnvC scope cl s3.heap.objs.size X.env = ce at I4 pg pt pk pv ⊢
  have cL : ce.locals = s3.heap.objs.size := by rw [← hce]; rfl
  generalize hs4 : ({ s3 with heap := pushCells (s3.heap.push { cls := .type "dict", data := .dict #[] }) scope.names } : Shared) = s4 at I4 ⊢
  have st4 : tn 0 s4.heap := T.keep _ _ _ st2 fun b _ o e => by
    rw [← hs4]
    exact pushCells_keeps _ _ _ _ (Heap.get?_push_of_some _ (by rw [eh3]; exact oldB b o e))
  have stat : ∀ {σ' : St} {H' : Hp} {s' : Shared}, Inv (X.blk s3 H3 scope ce fp) [] σ' H' s' → (∀ b ∈ fp, H' b = none) → ∀ b ∈ fp, FpOk (X.blk s3 H3 scope ce fp) [] H' b := fun {σ' H' s'} I' hn b hb =>
    ⟨hn b hb, (I'.ok.exf b hb).1, I'.ok.exfs b hb, .inl hb, fun x c e => (I'.ok.exf b hb).2 x c e, fun p hp => absurd (show p ∈ ([] : List (Addr × Obj)) ++ [] from hp) (by simp)⟩
  refine (fun loop => codeAny_compStart_dict loop (T.self X.A 0 _ _ _ st4 loop)) ?_
  refine compLoop_anyD (fun n s' => ∃ i H', Inv (X.blk s3 H3 scope ce fp) [] (wipe σ (own.map (·.2))) H' s' ∧ tn i s'.heap ∧ (∀ b ∈ fp, H' b = none) ∧ W i n H') ?_ m0 ⟨0, H3, I4, st4, fun b hb => (f3 b hb).1.1, w0⟩
  rintro n s5 ⟨i, H5, I5, st5, n5, w5⟩
  rcases turn i n H5 w5 with ⟨stop, qq⟩ | ⟨go, Nx, hNx, step⟩
  · -- the end: back in the def
    refine thnF (T.done (X.blk s3 H3 scope ce fp) rfl rfl rfl hc i [] s5 _ H5 (fun _ _ => False) I5 (stat I5 n5) st5 stop) fun r s6 ⟨hr, I6⟩ => ?_
    subst hr
    have I7 : Inv X pins σ H5 s6 := I3.call' (ch := fp) I6.os I6.base I6.hok I6.bare fun b hb => ⟨(f3 b hb).1.2.2.2.1, (f3 b hb).1.2.1, (f3 b hb).1.2.2.2.2.1, (f3 b hb).1.2.2.2.2.2⟩
    have nC : H5 ce.locals = none := I6.free
    obtain ⟨m, hn, _⟩ := I6.loc
    have hn' : s6.heap.Ns ce.locals m := hn
    rw [cL] at hn' nC
    exact hRR D s3.heap.objs.size s6 m H5 I7 qq hn' (I3.fpOk (Nat.le_refl _) nC)
  · refine thnF (T.item (X.blk s3 H3 scope ce fp) rfl rfl rfl hc i [] s5 _ H5 (fun _ _ => False) I5 (stat I5 n5) st5 go) fun r s6 ⟨u, hr, h6⟩ => ?_
    subst hr
    refine thnF h6 fun _ s7 ⟨x, H7, I7, r7, y7, st7, n7⟩ => ?_
    refine thnF (pg.run _ s7 _ H7 x u _ (I7.pinned (stat I7 n7) (T.obj _ _ st7)) r7 (step x H7 y7)) fun _ s8 ⟨σ8, H8, I8, hw8, q8⟩ => ?_
    refine thnF (pt.run _ s8 σ8 H8 _ I8 q8) fun b s9 ⟨H9, I9, q9⟩ => ?_
    -- a turn's end
    have fin : ∀ {s' : Shared} {H' : Hp}, Inv (X.blk s3 H3 scope ce fp) ([] ++ pinsAt fp s7.heap) σ8 H' s' → Nx H' → ∃ m, m < n ∧ ∃ i H', Inv (X.blk s3 H3 scope ce fp) [] (wipe σ (own.map (·.2))) H' s' ∧ tn i s'.heap ∧ (∀ b ∈ fp, H' b = none) ∧ W i m H' := fun {s' H'} I' nx => by
      obtain ⟨m', hm, w'⟩ := hNx H' nx
      have pin : ∀ b ∈ fp, ∀ o, s7.heap.get? b = some o → s'.heap.get? b = some o ∧ H' b = none := fun b hb o e => by
        have z := I'.pin (b, o) (List.mem_append_right _ (List.mem_append_right _ (mem_pinsAt hb e)))
        exact ⟨z.1, z.2.1⟩
      refine ⟨m', hm, i + 1, H', (I'.unpinned (pins := [])).weak (by rw [← hw8, wipe_length]) (fun j v e => ?_), T.keep _ _ _ st7 fun b hb o e => (pin b hb o e).1, fun b hb => ?_, w'⟩
      · rw [← hw8] at e
        exact (wipe_some e).1
      · obtain ⟨o, e, _⟩ := T.obj _ _ st7 b hb
        exact (pin b hb o e).2
    cases b with
    | false =>
      simp only [Bool.false_eq_true, if_false] at q9 ⊢
      exact fin I9 q9
    | true =>
      simp only [if_true] at q9 ⊢
      refine thnF (pk.run _ s9 σ8 H9 _ I9 q9) fun z sK ⟨yk, HK, IK, rK, qK⟩ => ?_
      refine thnF (pv.run _ sK σ8 HK _ IK qK) fun z2 sV ⟨yv, HV, IV, rV, H6, put, nx⟩ => ?_
      exact put_comp (X := X.blk s3 H3 scope ce fp) hu IV put rK rV fun s12 I12 => fin I12 nx
theorem pe_dcP (h0 : Fresh0 o0) (hu : X.A.units < cLine) (hc : X.calm = true) (hN : X.N.Nodup) (hi : PI X tg iter wi) (ok : BlkOk X.N X.env.scope scope own)
    (hg : ∀ (s : Shared) (H : Hp) (C : Addr) (cl : List (Str × Addr)) (fp : List Addr), PG (X.blk s H scope (compEnvC scope cl C X.env) fp) tg g)
    (ht : ∀ (s : Shared) (H : Hp) (C : Addr) (cl : List (Str × Addr)) (fp : List Addr), PTs (X.blk s H scope (compEnvC scope cl C X.env) fp) ifs tt)
    (hk : ∀ (s : Shared) (H : Hp) (C : Addr) (cl : List (Str × Addr)) (fp : List Addr), PE (X.blk s H scope (compEnvC scope cl C X.env) fp) kx tk)
    (hv : ∀ (s : Shared) (H : Hp) (C : Addr) (cl : List (Str × Addr)) (fp : List Addr), PE (X.blk s H scope (compEnvC scope cl C X.env) fp) vx tv) (hs : ∀ x, foldedSetIterable iter X.env x = pure x := by intro _; rfl) :
    PE X (.DictComp kx vx [⟨tg, iter, ifs, 0⟩] scope pos) (tDcP o0 wi g tt tk tv (own.map (·.2))) := by
  refine ⟨fun pins s σ H Q I h => ?_⟩
  rw [arm_eval_DictComp]
  refine dcP_core h0 hu hc hN I hi ok hg ht hk hv hs h fun D C s' m H' I' q hn f => ⟨m, hn, fun h'' sb => ?_⟩
  obtain ⟨f0, f1, f2, f3, f4, f5⟩ := f
  exact ⟨.ref D, H', I'.turned (t' := s'.toks) (fun b o hb e => (sb.2 b hb).trans e) f0 f1 f3 f4 f5, rfl, q⟩
theorem swD_true {gs : List Comprehension} {py : Pos} {y : Str} {l : Nat} {env : Env} (hk : env.scope.kind = .function) (hy : env.scope.names.lookup y = some .local) (hl : (py.line == pos.line) = true)
    (ha : (scope.names.any fun (n, k) => n == y && (k == .local || k == .cell)) = false) : swapsWith (.DictComp kx vx gs scope pos) (some (.Name y py)) l env = pure true := by
  have ky : env.kindOf y = some .local := hy
  have hb : env.blockKind = .function := by unfold Env.blockKind; rw [hk]; rfl
  unfold swapsWith
  simp only [hb, ky, ha, Expr.pos, hl]
  rfl
/-- x = {k: v for ..} -/
theorem ps_setDcP {i : Nat} {y : Str} {py spos : Pos} (h0 : Fresh0 o0) (hu : X.A.units < cLine) (hc : X.calm = true) (hN : X.N.Nodup) (hy : X.N[i]? = some y) (hyl : X.env.scope.names.lookup y = some .local)
    (hsw : swapsWith (.DictComp kx vx [⟨tg, iter, ifs, 0⟩] scope pos) (some (.Name y py)) spos.line X.env = pure true) (hi : PI X tg iter wi) (ok : BlkOk X.N X.env.scope scope own)
    (hg : ∀ (s : Shared) (H : Hp) (C : Addr) (cl : List (Str × Addr)) (fp : List Addr), PG (X.blk s H scope (compEnvC scope cl C X.env) fp) tg g)
    (ht : ∀ (s : Shared) (H : Hp) (C : Addr) (cl : List (Str × Addr)) (fp : List Addr), PTs (X.blk s H scope (compEnvC scope cl C X.env) fp) ifs tt)
    (hk : ∀ (s : Shared) (H : Hp) (C : Addr) (cl : List (Str × Addr)) (fp : List Addr), PE (X.blk s H scope (compEnvC scope cl C X.env) fp) kx tk)
    (hv : ∀ (s : Shared) (H : Hp) (C : Addr) (cl : List (Str × Addr)) (fp : List Addr), PE (X.blk s H scope (compEnvC scope cl C X.env) fp) vx tv) (hs : ∀ x, foldedSetIterable iter X.env x = pure x := by intro _; rfl) :
    PS X (.Assign [.Name y py] (.DictComp kx vx [⟨tg, iter, ifs, 0⟩] scope pos) spos) (tAsg (tDcP o0 wi g tt tk tv (own.map (·.2))) (gName i)) := by
  refine ⟨fun pins s σ H D I h => ?_⟩
  rw [exec_Assign_Name_used _ _ _ _ hsw]
  refine wpAny_bind (wpAny_standAt (wpAny_bind ?_))
  show wpAny _ X.A (do let _ ← comprehension (.DictComp kx vx [⟨tg, iter, ifs, 0⟩] scope pos) scope X.env (firstIterPos [⟨tg, iter, ifs, 0⟩] pos) newDict false (eval iter X.env) (some (assign (.Name y py) X.env))) _ _ s
  have h : tDcP o0 wi g tt tk tv (own.map (·.2)) σ H (fun x H1 => gName i x σ H1 D.nx) := h
  refine wpAny_bind (thn (dcP_core (Qf := fun _ s' => SP X pins D .next s') h0 hu hc hN I hi ok hg ht hk hv hs h fun L C s' m H' I' q hn f => ?_) fun _ s' hq => wpAny_pure (wpAny_pure hq))
  show wpAny _ _ (assign (.Name y py) X.env (.ref L)) _ _ _
  refine wpAny_assign_Name (store_ok2 (v := V.ref L) I' hN hy (.inl hyl) rfl (fun s2 I2 ⟨a, sb, ha⟩ => ?_) (.inr hyl))
  obtain ⟨f0, f1, f2, f3, f4, f5⟩ := f
  have haC : C ≠ a := by
    rcases ha with z | z
    · rw [z]; exact f1
    · exact fun e => f4 y a z e.symm
  refine ⟨m, hn.sameBut sb haC, fun h3 sb3 => ?_⟩
  exact ⟨_, H', I2.turned (t' := s2.toks) (fun b o hb e => (sb3.2 b hb).trans e) f0 f1 f3 f4 f5, q⟩
end
end L2

/-! sets of texts: made by a comprehension, sorted -/
namespace L2
open PySem PySem.Spec PySem.W PyProof.Rows
def txOf (e : Int × Value) : Str := match e.2 with
  | .str x _ => x
  | _ => Str.empty
def GoodX (w : World) (e : Int × Value) : Prop := ∃ x tk, e.2 = Value.str x tk ∧ e.1 = hashStr w x
/-- the set of the texts L at a -/
def SetX (w : World) (h : Heap) (a : Addr) (L : List Str) : Prop :=
  ∃ o es ep t, h.get? a = some o ∧ o.ExactSet ∧ o.data = .set es ep t ∧ (∀ e ∈ es.toList, GoodX w e) ∧ (es.toList.map txOf).Perm L ∧ L.Nodup ∧ es.size < scanBound ∧ t.fits es.size = true ∧ Ris t.place.toList ∧ (w.params.followText "set-order" = true ∨ t.led = true)
section
variable {P : Program} {w : World} {A : Around} {E : Value → Shared → Prop} {s : Shared} {a : Addr} {L : List Str}
theorem goodX_is {e : Int × Value} (g : GoodX w e) (x : Str) : (strKind P w).is x e.2 = true ↔ txOf e = x := by
  obtain ⟨y, tk, h1, _⟩ := g
  unfold txOf
  rw [h1]
  constructor
  · intro h
    obtain ⟨t, e⟩ := Value.isStrOf_shape (x := x) (v := .str y tk) h
    exact (Value.str.inj e).1
  · intro h
    rw [← h]
    exact strKind_is P w y tk
theorem goodX_elems {l : List (Int × Value)} (g : ∀ e ∈ l, GoodX w e) : ElemsOf (strKind P w) l := fun e he => by
  obtain ⟨x, tk, h1, h2⟩ := g e he
  exact ⟨⟨x, by rw [h1]; exact strKind_is P w x tk, h2⟩, by rw [h1]; rfl⟩
theorem SetX.typeIs (R : SetX w s.heap a L) : s.TypeIs (.ref a) "set" := by
  obtain ⟨o, es, ep, t, ho, hx, _⟩ := R
  exact ⟨o, ho, hx.1⟩
/-- a member is put in -/
theorem setX_add {x : Str} {tk : Tok} {Q : Value → Shared → Prop} (R : SetX w s.heap a L) (room : L.length + 1 < scanBound)
    (hQ : ∀ h', Heap.SameBut a s.heap h' → SetX w h' a (if x ∈ L then L else x :: L) → Q .none { s with heap := h', toks := s.toks + 1 }) :
    wpAny (model P w) A (call (.builtin "set.add") [.ref a, .str x tk]) Q E s := by
  have ty := R.typeIs
  obtain ⟨o, es, ep, t, ho, hex, hd, g, pm0, nd, hb, hf, hr, hl⟩ := R
  have hn : es.size = L.length := by rw [← Array.length_toList, ← pm0.length_eq, List.length_map]
  have hkey : (strKind P w).is x (.str x tk) = true := strKind_is P w x tk
  have hsc : (Value.str x tk).scannable = true := rfl
  have hel : ElemsOf (strKind P w) es.toList := goodX_elems g
  -- one more, then perhaps all anew
  have quiet : ∀ (f g : String) (b : Bool) {s₁ : Shared} {Q' : Unit → Shared → Prop}, Q' () s₁ → wpAny (model P w) A.in1 (if b = true then rule f else pure ()) Q' E s₁ := fun f g b s₁ Q' q => by
    cases b
    · exact wpAny_pure q
    · exact wpAny_rule q
  refine wpAny_call_entry F.slot_set_add ty F.entry_set_add ?_ (F.args_set_add_2 _ _)
  unfold Builtin.«set.add» Builtin.Frozenset.oneOther
  simp only [List.isEmpty_nil, bind_assoc]
  unfold Builtin.Frozenset.addrOf setAdd
  refine wpAny_bind (wpAny_pure ?_)
  try dsimp only
  refine wpAny_bind (wpAny_pure ?_)
  try dsimp only
  refine wpAny_bind (wpAny_holding (wpAny_bind ((strKind P w).pyHash hkey ?_)))
  unfold setAddHashed setAddHashedIn
  refine wpAny_holding (wpAny_bind (wpAny_setState_of (s := { s with toks := s.toks + 1 }) ho hd hf ?_))
  dsimp only
  rw [byScan_of hsc hb hel]
  simp only [↓reduceIte]
  unfold setAddByScan
  refine wpAny_bind (wpAny_bind (wpAny_rule (wpAny_bind (wpAny_setScan_of (s := { s with toks := s.toks + 1 }) hkey ho hd hf hel ?_))))
  cases hfi : List.findIdx? (fun e => (strKind P w).is x e.2) es.toList with
  | some j =>
    dsimp only
    obtain ⟨hj, pj, _⟩ := List.findIdx?_eq_some_iff_getElem.mp hfi
    have hin : x ∈ L := pm0.mem_iff.mp (List.mem_map.mpr ⟨es.toList[j], List.getElem_mem hj, (goodX_is (g _ (List.getElem_mem hj)) x).mp pj⟩)
    have q := hQ s.heap (Heap.SameBut.refl a s.heap)
    rw [if_pos hin] at q
    exact wpAny_pure (wpAny_pure (wpAny_pure ⟨_, rfl, q ⟨o, es, ep, t, ho, hex, hd, g, pm0, nd, hb, hf, hr, hl⟩⟩))
  | none =>
    dsimp only
    have hno : x ∉ L := fun z => by
      obtain ⟨e, he, q⟩ := List.mem_map.mp (pm0.mem_iff.mpr z)
      have c := List.findIdx?_eq_none_iff.mp hfi e he
      rw [(goodX_is (P := P) (g e he) x).mpr q] at c
      cases c
    have pm := layNew_perm t es ((strKind P w).hash x) (.str x tk)
    have hf1 := layNew_fits t es ((strKind P w).hash x) (.str x tk)
    have hr1 := layNew_ris t es ((strKind P w).hash x) (.str x tk) hr
    have hl1 := layNew_led t es ((strKind P w).hash x) (.str x tk)
    generalize layNew t es ((strKind P w).hash x) (.str x tk) = Z at pm hf1 hr1 hl1 ⊢
    obtain ⟨es1, t1, wasDummy, gave⟩ := Z
    dsimp only at pm hf1 hr1 hl1 ⊢
    rw [Array.toList_push] at pm
    have pc : es1.toList.Perm (((strKind P w).hash x, Value.str x tk) :: es.toList) := pm.trans (List.perm_append_singleton _ _)
    have pk : (es1.toList.map txOf).Perm (x :: L) := (pc.map txOf).trans (pm0.cons x)
    have g1 : ∀ e ∈ es1.toList, GoodX w e := fun e he => by
      rcases List.mem_cons.mp (pc.mem_iff.mp he) with z | z
      · rw [z]
        exact ⟨x, tk, rfl, rfl⟩
      · exact g e z
    have nd1 : (x :: L).Nodup := List.nodup_cons.mpr ⟨hno, nd⟩
    have hsz : es1.size = L.length + 1 := by rw [← Array.length_toList, pc.length_eq, List.length_cons, Array.length_toList, hn]
    have hb1 : es1.size < scanBound := by rw [hsz]; exact room
    have hled : w.params.followText "set-order" = true ∨ t1.led = true := hl.imp id fun z => by rw [hl1]; exact z
    have fin : ∀ h', Heap.SameBut a s.heap h' → SetX w h' a (x :: L) → Q .none { s with heap := h', toks := s.toks + 1 } := fun h' sb r => by
      have q := hQ h' sb
      rw [if_neg hno] at q
      exact q r
    -- the two stores
    have tail : ∀ (t2 : SetTable) (wd : Bool) (gg : Bool → Sem Unit) (R : Option Bool → Shared → Prop), t2.fits es1.size = true → Ris t2.place.toList → (w.params.followText "set-order" = true ∨ t2.led = true) →
        (∀ (b : Bool) (s₁ : Shared) (Q' : Unit → Shared → Prop), Q' () s₁ → wpAny (model P w) A.in1 (gg b) Q' (fun e s' => E e s') s₁) →
        (∀ h', Heap.SameBut a s.heap h' → SetX w h' a (x :: L) → R (some true) { s with heap := h', toks := s.toks + 1 }) →
        wpAny (model P w) A.in1 (do
          storeSet a es1 t2
          if (!wd && t2.tooFull) = true then do
              gg (relayAll t2 es1 (SetTable.grown es1.size)).2.2
              storeSet a (relayAll t2 es1 (SetTable.grown es1.size)).1 (relayAll t2 es1 (SetTable.grown es1.size)).2.1
              pure (some true)
            else pure (some true)) R (fun e s' => E e s') { s with toks := s.toks + 1 } := by
      intro t2 wd gg R hf2 hr2 hl2 hgg hR
      refine wpAny_bind (wpAny_storeSet_of (s := { s with toks := s.toks + 1 }) ho hd ?_ (fits_of_scanBound hb1))
      have ho1 := store_at (es' := es1) (t' := t2) ho hd
      have sb1 := Heap.SameBut.update s.heap a (Obj.putSet es1 t2)
      split
      · have pr := relayAll_perm t2 es1 (SetTable.grown es1.size)
        have hf3 := relayAll_fits t2 es1 (SetTable.grown es1.size)
        have hr3 := relayAll_ris t2 es1 (SetTable.grown es1.size)
        have hl3 := relayAll_led t2 es1 (SetTable.grown es1.size)
        generalize relayAll t2 es1 (SetTable.grown es1.size) = Y at pr hf3 hr3 hl3 ⊢
        obtain ⟨es2, t3, gv⟩ := Y
        dsimp only at pr hf3 hr3 hl3 ⊢
        have hb2 : es2.size < scanBound := by
          rw [← Array.length_toList, pr.length_eq, Array.length_toList]
          exact hb1
        refine wpAny_bind (hgg _ _ _ ?_)
        refine wpAny_bind (wpAny_storeSet_of ho1 rfl ?_ (fits_of_scanBound hb2))
        have ho2 := store_at (es' := es2) (t' := t3) ho1 rfl
        exact wpAny_pure (hR _ (sb1.trans (Heap.SameBut.update _ a _)) ⟨_, es2, _, t3, ho2, hex, rfl, fun e he => g1 e (pr.mem_iff.mp he), (pr.map txOf).trans pk, nd1, hb2, hf3, hr3, hl2.imp id fun z => by rw [hl3]; exact z⟩)
      · exact wpAny_pure (hR _ sb1 ⟨_, es1, _, t2, ho1, hex, rfl, g1, pk, nd1, hb1, hf2, hr2, hl2⟩)
    have hgw : ∀ (b : Bool) {s₁ : Shared} {Q' : Unit → Shared → Prop}, Q' () s₁ → wpAny (model P w) A.in1 (match b with | true => rule "set.scan.the-table-gave-way" | false => pure ()) Q' (fun e s' => E e s') s₁ :=
      fun b s₁ Q' q => by cases b <;> first | exact wpAny_pure q | exact wpAny_rule q
    refine wpAny_bind (hgw _ ?_)
    split
    · refine wpAny_bind ?_
      rw [hashByValue_scannable 8 hsc]
      refine wpAny_pure ?_
      refine tail _ _ _ _ ?_ ?_ ?_ ?_ ?_
      · first | (split <;> first | exact hf1 | exact SetTable.fits_plain_off hf1) | exact hf1
      · first | (split <;> exact hr1) | exact hr1
      · first | (split <;> exact hled) | exact hled
      · intro b s₁ Q' q; cases b <;> first | exact wpAny_pure q | exact wpAny_rule q
      · intro h' sb r; dsimp only; exact wpAny_pure (wpAny_pure ⟨_, rfl, fin h' sb r⟩)
    · refine wpAny_bind (wpAny_pure ?_)
      simp only [↓reduceIte]
      refine tail _ _ _ _ hf1 hr1 hled ?_ ?_
      · intro b s₁ Q' q; cases b <;> first | exact wpAny_pure q | exact wpAny_rule q
      · intro h' sb r; dsimp only; exact wpAny_pure (wpAny_pure ⟨_, rfl, fin h' sb r⟩)
end
end L2

namespace L2
open PySem PySem.Spec PySem.W PyProof.Rows RW9 PpSet
def SetXO (w : World) (a : Addr) (L : List Str) : HO := .ext fun h => SetX w h a L
theorem setX_at {w : World} {h h' : Heap} {a : Addr} {L : List Str} (R : SetX w h a L) (k : ∀ o, h.get? a = some o → h'.get? a = some o) : SetX w h' a L := by
  obtain ⟨o, es, ep, t, ho, r⟩ := R
  exact ⟨o, es, ep, t, k o ho, r⟩
theorem setXO_new {w : World} {P : Program} {H : Hp} {h : Heap} {a : Addr} {L : List Str} (R : SetX w h a L) : ObjOk P w H h a (SetXO w a L) := by
  have ⟨o, _, _, _, ho, _⟩ := R
  exact ⟨R, ⟨o, ho⟩, fun h1 h2 p k => setX_at p k⟩
theorem setX_fresh {h : Heap} (w : World) : SetX w (h.push { cls := .type "set", dict := none, data := .set #[] 0 (.fresh 0 0 (!w.params.followText "set-order")) }) h.objs.size [] :=
  ⟨_, #[], 0, _, Heap.get?_push_size _ rfl, ⟨rfl, rfl, rfl⟩, rfl, (fun e he => by simp at he), .nil, List.Pairwise.nil, (by decide), (by rfl), List.Pairwise.nil, by
    show _ ∨ (!w.params.followText "set-order") = true
    cases w.params.followText "set-order"
    · exact .inr rfl
    · exact .inl rfl⟩
section
variable {X : Cx}
theorem addX_ok {pins : List (Addr × Obj)} {σ : L2.St} {H : Hp} {s : Shared} {E : Value → Shared → Prop} {D : Addr} {L : List Str} {x : Str} {tk : Tok} {Q : Value → Shared → Prop} (I : Inv X pins σ H s) (hD : H D = some (SetXO X.w D L)) (room : L.length + 1 < scanBound)
    (h : ∀ s', Inv X pins σ (upd H D (SetXO X.w D (if x ∈ L then L else x :: L))) s' → Q .none s') : wpAny (model X.prog X.w) X.A (call (.builtin "set.add") [.ref D, .str x tk]) Q E s := by
  have R : SetX X.w s.heap D L := (I.hok D _ hD).1
  refine setX_add R room fun h' sb new => ?_
  have he : ∃ u, h'.get? D = some u := by
    have ⟨o, _, _, _, ho, _⟩ := new
    exact ⟨o, ho⟩
  exact h _ (I.write (e := D) (t' := s.toks + 1) (by rw [hD]; trivial) (.inl rfl) (fun b u hb hu => (sb.2 b hb).trans hu) he (setXO_new new))
/-- {elt for target in iter if ..}, elt a text: D the new set -/
def tScX (w : World) (wi : TI) (g : TG) (tt : TT) (te : TE) (vs : List Nat) : TE := fun σ H Q => wi σ H fun J H1 => ∀ D, H1 D = none → ∃ W : Nat → Nat → Hp → Prop, (∃ m, W 0 m (upd H1 D (SetXO w D []))) ∧ ∀ i m H, W i m H →
  (J.stop i H ∧ Q (.ref D) H) ∨ (J.go i H ∧ ∃ Nx : Hp → Prop, (∀ H', Nx H' → ∃ m', m' < m ∧ W (i + 1) m' H') ∧ ∀ x H', J.yld i H x H' → g x (wipe σ vs) H' fun σ2 H2 => wipe σ2 vs = wipe σ vs ∧ tt σ2 H2 fun b H3 =>
    if b = true then te σ2 H3 fun y H4 => ∃ (x : Str) (L : List Str), y = .str x ∧ H4 D = some (SetXO w D L) ∧ L.length + 1 < scanBound ∧ Nx (upd H4 D (SetXO w D (if x ∈ L then L else x :: L))) else Nx H3)
variable {elt tg iter : Expr} {ifs : List Expr} {scope : Scope} {own : List (Str × Nat)} {pos : Pos} {wi : TI} {g : TG} {tt : TT} {te : TE}
theorem pe_scX (hc : X.calm = true) (hN : X.N.Nodup) (hi : PI X tg iter wi) (ok : BlkOk X.N X.env.scope scope own)
    (hg : ∀ (s : Shared) (H : Hp) (C : Addr) (cl : List (Str × Addr)) (fp : List Addr), PG (X.blk s H scope (compEnvC scope cl C X.env) fp) tg g)
    (ht : ∀ (s : Shared) (H : Hp) (C : Addr) (cl : List (Str × Addr)) (fp : List Addr), PTs (X.blk s H scope (compEnvC scope cl C X.env) fp) ifs tt)
    (hv : ∀ (s : Shared) (H : Hp) (C : Addr) (cl : List (Str × Addr)) (fp : List Addr), PE (X.blk s H scope (compEnvC scope cl C X.env) fp) elt te) (hs : ∀ x, foldedSetIterable iter X.env x = pure x := by intro _; rfl) :
    PE X (.SetComp elt [⟨tg, iter, ifs, 0⟩] scope pos) (tScX X.w wi g tt te (own.map (·.2))) := by
  refine ⟨fun pins s σ H Q I h => ?_⟩
  rw [eval_SetComp]
  have cells : ∀ y ∈ scope.names, y.2 = .free → ∃ c, X.env.cells.lookup y.1 = some c := fun y hy e => (ok.free y hy e).elim (fun k => I.ok.has _ (.inl k)) fun k => I.ok.has _ (.inr k)
  refine wpAny_comprehension_free (use := none) rfl hs (closure_ok cells) ok.kind (fun y hy e => by rw [ok.uniq y hy, e]) (thn (hi.run pins s σ H _ I h) fun xv sA hx => thn hx fun itv sB hB => ?_)
  obtain ⟨it, fp, tn, J, H2, e, I2, T, st2, f2, q⟩ := hB
  subst e
  refine newSet_ok (newEnv_comp ?_)
  generalize hD : sB.heap.objs.size = D
  obtain ⟨W, ⟨m0, w0⟩, turn⟩ := q D (I2.hok.fresh (Nat.le_of_eq hD))
  generalize hob : ({ cls := .type "set", dict := none, data := .set #[] 0 (.fresh 0 0 (!X.w.params.followText "set-order")) } : Obj) = ob
  have oldB : ∀ b o, sB.heap.get? b = some o → (sB.heap.push ob).get? b = some o := fun b o e => Heap.get?_push_of_some _ e
  have I3 : Inv X pins σ (upd H2 D (SetXO X.w D [])) { sB with heap := sB.heap.push ob } := by
    refine I2.laid (t' := sB.toks) oldB (Nat.le_of_eq hD) ?_
    rw [← hD, ← hob]
    exact setXO_new (setX_fresh X.w)
  have below : ∀ b ∈ fp, b < sB.heap.objs.size := fun b hb => (T.obj _ _ st2 b hb).elim fun o e => Heap.lt_size e.1
  generalize hs3 : ({ sB with heap := sB.heap.push ob } : Shared) = s3 at I3
  have eh3 : s3.heap = sB.heap.push ob := by rw [← hs3]
  have f3 : ∀ b ∈ fp, FpOk X pins (upd H2 D (SetXO X.w D [])) b ∧ b < s3.heap.objs.size := fun b hb => by
    have l := below b hb
    refine ⟨⟨?_, (f2 b hb).2⟩, by rw [eh3, Heap.size_push]; exact Nat.lt_succ_of_lt l⟩
    rw [upd_ne (fun z => absurd l (by rw [z, ← hD]; exact Nat.lt_irrefl _))]
    exact (f2 b hb).1
  have I4 := block_start I3 ok hN f3
  generalize hH3 : upd H2 D (SetXO X.w D []) = H3 at I3 I4 w0 f3
  generalize hcl : cellsFrom (s3.heap.objs.size + 1) scope.names (cloFrom X.env.cells scope.names []) = cl at I4
  have pg := hg s3 H3 s3.heap.objs.size cl fp
  have pt := ht s3 H3 s3.heap.objs.size cl fp
  have pv := hv s3 H3 s3.heap.objs.size cl fp
  show codeAny _ _ (.compStart (.SetComp elt [⟨tg, iter, ifs, 0⟩] scope pos) 0 (.ref it) (.ref D) (compEnvC scope cl s3.heap.objs.size X.env)) (compPost (model X.prog X.w) X.A X.xe none (EP X pins σ Q) (.ref D) s3.heap.objs.size) { s3 with heap := pushCells (s3.heap.push { cls := .type "dict", data := .dict #[] }) scope.names }
  generalize hce : compEnvC scope cl s3.heap.objs.size X.env = ce at I4 pg pt pv ⊢
  have cL : ce.locals = s3.heap.objs.size := by rw [← hce]; rfl
  generalize hs4 : ({ s3 with heap := pushCells (s3.heap.push { cls := .type "dict", data := .dict #[] }) scope.names } : Shared) = s4 at I4 ⊢
  have st4 : tn 0 s4.heap := T.keep _ _ _ st2 fun b _ o e => by
    rw [← hs4]
    exact pushCells_keeps _ _ _ _ (Heap.get?_push_of_some _ (by rw [eh3]; exact oldB b o e))
  have stat : ∀ {σ' : L2.St} {H' : Hp} {s' : Shared}, Inv (X.blk s3 H3 scope ce fp) [] σ' H' s' → (∀ b ∈ fp, H' b = none) → ∀ b ∈ fp, FpOk (X.blk s3 H3 scope ce fp) [] H' b := fun {σ' H' s'} I' hn b hb =>
    ⟨hn b hb, (I'.ok.exf b hb).1, I'.ok.exfs b hb, .inl hb, fun x c e => (I'.ok.exf b hb).2 x c e, fun p hp => absurd (show p ∈ ([] : List (Addr × Obj)) ++ [] from hp) (by simp)⟩
  refine (fun loop => codeAny_compStart_set loop (T.self X.A 0 _ _ _ st4 loop)) ?_
  refine compLoopS_any (fun n s' => ∃ i H', Inv (X.blk s3 H3 scope ce fp) [] (wipe σ (own.map (·.2))) H' s' ∧ tn i s'.heap ∧ (∀ b ∈ fp, H' b = none) ∧ W i n H') ?_ m0 ⟨0, H3, I4, st4, fun b hb => (f3 b hb).1.1, w0⟩
  rintro n s5 ⟨i, H5, I5, st5, n5, w5⟩
  rcases turn i n H5 w5 with ⟨stop, qq⟩ | ⟨go, Nx, hNx, step⟩
  · refine thnF (T.done (X.blk s3 H3 scope ce fp) rfl rfl rfl hc i [] s5 _ H5 (fun _ _ => False) I5 (stat I5 n5) st5 stop) fun r s6 ⟨hr, I6⟩ => ?_
    subst hr
    have I7 : Inv X pins σ H5 s6 := I3.call' (ch := fp) I6.os I6.base I6.hok I6.bare fun b hb => ⟨(f3 b hb).1.2.2.2.1, (f3 b hb).1.2.1, (f3 b hb).1.2.2.2.2.1, (f3 b hb).1.2.2.2.2.2⟩
    have nC : H5 ce.locals = none := I6.free
    obtain ⟨m, hn, _⟩ := I6.loc
    have hn' : s6.heap.Ns ce.locals m := hn
    rw [cL] at hn' nC
    refine ⟨m, hn', fun h'' sb => ?_⟩
    obtain ⟨c0, c1, c2, c3, c4, c5⟩ := I3.fpOk (Nat.le_refl s3.heap.objs.size) nC
    exact ⟨.ref D, H5, I7.turned (t' := s6.toks) (fun b o hb e => (sb.2 b hb).trans e) c0 c1 c3 c4 c5, rfl, qq⟩
  · refine thnF (T.item (X.blk s3 H3 scope ce fp) rfl rfl rfl hc i [] s5 _ H5 (fun _ _ => False) I5 (stat I5 n5) st5 go) fun r s6 ⟨u, hr, h6⟩ => ?_
    subst hr
    refine thnF h6 fun _ s7 ⟨x, H7, I7, r7, y7, st7, n7⟩ => ?_
    refine thnF (pg.run _ s7 _ H7 x u _ (I7.pinned (stat I7 n7) (T.obj _ _ st7)) r7 (step x H7 y7)) fun _ s8 ⟨σ8, H8, I8, hw8, q8⟩ => ?_
    refine thnF (pt.run _ s8 σ8 H8 _ I8 q8) fun b s9 ⟨H9, I9, q9⟩ => ?_
    have fin : ∀ {s' : Shared} {H' : Hp}, Inv (X.blk s3 H3 scope ce fp) ([] ++ pinsAt fp s7.heap) σ8 H' s' → Nx H' → ∃ m, m < n ∧ ∃ i H', Inv (X.blk s3 H3 scope ce fp) [] (wipe σ (own.map (·.2))) H' s' ∧ tn i s'.heap ∧ (∀ b ∈ fp, H' b = none) ∧ W i m H' := fun {s' H'} I' nx => by
      obtain ⟨m', hm, w'⟩ := hNx H' nx
      have pin : ∀ b ∈ fp, ∀ o, s7.heap.get? b = some o → s'.heap.get? b = some o ∧ H' b = none := fun b hb o e => by
        have z := I'.pin (b, o) (List.mem_append_right _ (List.mem_append_right _ (mem_pinsAt hb e)))
        exact ⟨z.1, z.2.1⟩
      refine ⟨m', hm, i + 1, H', (I'.unpinned (pins := [])).weak (by rw [← hw8, wipe_length]) (fun j v e => ?_), T.keep _ _ _ st7 fun b hb o e => (pin b hb o e).1, fun b hb => ?_, w'⟩
      · rw [← hw8] at e
        exact (wipe_some e).1
      · obtain ⟨o, e, _⟩ := T.obj _ _ st7 b hb
        exact (pin b hb o e).2
    cases b with
    | false =>
      simp only [Bool.false_eq_true, if_false] at q9 ⊢
      exact fin I9 q9
    | true =>
      simp only [if_true] at q9 ⊢
      refine thnF (pv.run _ s9 σ8 H9 _ I9 q9) fun z sV ⟨yv, HV, IV, rV, tx, L0, ey, hDV, room, nx⟩ => ?_
      subst ey
      obtain ⟨tk, rfl⟩ := (show ∃ t, z = Value.str tx t from rV)
      exact addX_ok (X := X.blk s3 H3 scope ce fp) IV hDV room fun s12 I12 => fin I12 nx
/-! ### sorted of a set of texts -/
def rSortX (w : World) : List V → Hp → VK → Prop := fun vs H Q => ∃ (a : Addr) (L : List Str), vs = [.ref a] ∧ H a = some (SetXO w a L) ∧ ∀ (p : Addr) (M : List Str), H p = none → M.Perm L → M.Nodup → Q (.ref p) (upd H p (.lst (M.map V.str)))
theorem cr_sortedX (hc : X.calm = true) (hu : X.A.units + 8 < cLine) : CallR X (.builtin "sorted") (rSortX X.w) := by
  intro pins s σ H xs us Q I r h
  obtain ⟨a, L, rfl, ha, q⟩ := h
  obtain rfl := Vals.ref1 r
  obtain ⟨o, es, ep, t, ho, hex, hd, g, pm0, nd, hb, hf, hr, hl⟩ := (show SetX X.w s.heap a L from (I.hok a _ ha).1)
  refine Calls.call_function_entry PyProof.Rows.kind_sorted PyProof.Rows.plain_sorted PyProof.Rows.entry_sorted (PyProof.Rows.args_sorted1 _) ?_
  unfold Builtin.«sorted»
  refine wpAny_bind (m := checkCount "sorted" 1 1 _) (wpAny_pure ?_)
  refine wpAny_bind (collect_set (A := X.A.in1) (I.ok.hd hc) ⟨o, ho, hex.1, hd⟩ hf hb hr hl fun s1 vs k1 hz g1 o1 pm => ?_)
  let tx : Value → Str := fun v => match v with
    | .str x _ => x
    | _ => Str.empty
  have isS : ∀ v ∈ vs, ∃ x tk, v = Value.str x tk := fun v hv => by
    obtain ⟨e, he, q⟩ := List.mem_map.mp (pm.mem_iff.mp hv)
    obtain ⟨x, tk, h1, _⟩ := g e he
    exact ⟨x, tk, by rw [← q]; exact h1⟩
  have pL : (vs.map tx).Perm L := by
    have e : (vs.map tx).Perm (es.toList.map txOf) := by
      have z := pm.map tx
      rw [List.map_map] at z
      exact z
    exact e.trans pm0
  have vl : vs.length ≤ sizeLine := by
    rw [pm.length_eq, List.length_map, Array.length_toList]
    exact fits_of_scanBound hb
  have I1 : Inv X pins σ H s1 := I.call' (ch := []) o1 (Un.kept k1) (I.hok.kept k1) (by rw [g1]; exact I.bare) (fun _ z => nomatch z)
  refine wpAny_bind (wpAny_newList ?_ vl)
  have hob : (s1.heap.push (seqObj "list" vs.toArray 0)).get? s1.heap.objs.size = some (seqObj "list" vs.toArray 0) := Heap.get?_push_size _ rfl
  have ka : ∀ b o, s1.heap.get? b = some o → (s1.heap.push (seqObj "list" vs.toArray 0)).get? b = some o := fun b o e => Heap.get?_push_of_some _ e
  show wpAny _ _ _ _ _ { s1 with heap := s1.heap.push (seqObj "list" vs.toArray 0) }
  generalize hh2 : s1.heap.push (seqObj "list" vs.toArray 0) = h2 at hob ka ⊢
  let enc : Value → PyData := fun v => .str (tx v)
  refine wpAny_bind (wpAny_holding (wpAny_call_entry PyProof.Rows.slot_list_sort ⟨_, hob, rfl⟩ PyProof.Rows.entry_list_sort
    (SrtO.list_sort_ord (s := { s1 with heap := h2 }) (swo_data enc) hob vl (fun h2l h' _ => ?_) fun out p1 p2 => ⟨_, rfl, ?_⟩) (PyProof.Rows.args_list_sort _)))
  · have S : SortsAt X.prog X.w X.A.in1.in1 { s1 with heap := h' } (dataKind h' (vs.map enc)) vs :=
      SortsAt.data (s := { s1 with heap := h' }) (eachIs_self (R := fun v d => ∃ as, Reads h' v d as) fun v hv => by
        obtain ⟨x, tk, rfl⟩ := isS v hv
        exact ⟨[], .str x tk⟩) (fun d hd d' hd' => by
        obtain ⟨v, _, rfl⟩ := List.mem_map.mp hd
        obtain ⟨u, _, rfl⟩ := List.mem_map.mp hd'
        rfl) (.inr fun d hd => by
        obtain ⟨v, _, rfl⟩ := List.mem_map.mp hd
        exact ⟨fun z => PyData.noConfusion z, fun xs z => PyData.noConfusion z⟩) fun d hd => by
        obtain ⟨v, _, rfl⟩ := List.mem_map.mp hd
        show X.A.in1.in1.units + (PyData.str (tx v)).depth < cLine
        have e1 : X.A.in1.in1.units = X.A.units + 2 := rfl
        have e2 : (PyData.str (tx v)).depth = 0 := by simp [PyData.depth]
        omega
    obtain ⟨kd, lt, kk⟩ := S.kind
    refine ⟨kd, fun Q E hq => kk h2l E hq, ?_⟩
    have hal : AllAlike (vs.map enc) := fun d hd d' hd' => by
      obtain ⟨v, _, rfl⟩ := List.mem_map.mp hd
      obtain ⟨u, _, rfl⟩ := List.mem_map.mp hd'
      rfl
    have rd : ∀ v ∈ vs, ∃ as, Reads h' v (enc v) as := fun v hv => by
      obtain ⟨x, tk, rfl⟩ := isS v hv
      exact ⟨[], .str x tk⟩
    intro p q hp hq
    obtain ⟨as, ra⟩ := rd p.1 hp
    obtain ⟨bs, rb⟩ := rd q.1 hq
    exact lt (fun _ _ => False) p.1 q.1 _ _ (dataKind_some hal (List.mem_map.mpr ⟨_, hp, rfl⟩) ra) (dataKind_some hal (List.mem_map.mpr ⟨_, hq, rfl⟩) rb) ⟨rfl, rfl⟩
  · refine wpAny_pure ?_
    have isO : ∀ v ∈ out, ∃ x tk, v = Value.str x tk := fun v hv => isS v (p2.perm.mem_iff.mp hv)
    have pO : (out.map tx).Perm L := (p2.perm.map tx).trans pL
    obtain ⟨eF, heF⟩ := PyProof.Rows.sortedHeap_at (vs := vs) (out := out.toArray) hob
    have rv : Vals ((out.map tx).map V.str) out := by
      have z : ∀ l : List Value, (∀ v ∈ l, ∃ x tk, v = Value.str x tk) → Vals ((l.map tx).map V.str) l := by
        intro l
        induction l with
        | nil => intro _; exact .nil
        | cons v l ih =>
          intro hl'
          obtain ⟨x, tk, rfl⟩ := hl' v List.mem_cons_self
          exact .cons ⟨tk, rfl⟩ (ih fun u hu => hl' u (List.mem_cons_of_mem _ hu))
      exact z out isO
    have kF : ∀ b oo, s1.heap.get? b = some oo → (sortedHeap h2 s1.heap.objs.size vs out.toArray).get? b = some oo := fun b oo e => (PyProof.Rows.sortedHeap_old (Nat.ne_of_lt (Heap.lt_size e)) (Heap.lt_size (ka _ _ e))).trans (ka _ _ e)
    refine ⟨.ref s1.heap.objs.size, rfl, .ref s1.heap.objs.size, upd H s1.heap.objs.size (.lst ((out.map tx).map V.str)), I1.laid (t' := s1.toks) kF (Nat.le_refl _) ⟨by rw [List.length_map, List.length_map, p2.perm.length_eq]; exact vl, out, eF, rv, heF⟩, rfl, q _ _ (I1.hok.fresh (Nat.le_refl _)) pO (pO.nodup_iff.mpr nd)⟩
end
end L2

/-! sets of nested keys: made by a comprehension, sorted -/
namespace NSet
open PySem PySem.Spec PySem.W PyProof.Rows L2

/-- the tuple at a is the nested key k -/
def Nst (h : Heap) (k : NestedKey) (a : Addr) : Prop := NestedIs h k (.ref a) ∧ k.depth ≤ 8

section
variable {P : Program} {w : World} {A : Around} {E : Value → Shared → Prop} {s : Shared}
mutual
/-- whether a nested key is hashed by value: some answer, nothing changes -/
theorem hashBy_val : ∀ (k : NestedKey) (v : Value) (n : Nat) (Q : Bool → Shared → Prop), NestedIs s.heap k v → (∀ b, Q b s) → wpAny (model P w) A (hashByValue n v) Q E s
  | .none, v, n, Q, hk, q => by
    cases hk
    cases n <;> exact wpAny_pure (q _)
  | .num i, v, n, Q, hk, q => by
    cases hk <;> cases n <;> exact wpAny_pure (q _)
  | .text x, v, n, Q, hk, q => by
    cases hk
    cases n <;> exact wpAny_pure (q _)
  | .tup ks, v, 0, Q, hk, q => by
    cases hk
    exact wpAny_pure (q _)
  | .tup ks, v, n + 1, Q, hk, q => by
    cases hk with
    | @tup a o vs m _ ho hc hd hi =>
      unfold hashByValue
      refine wpAny_bind (wpAny_specialOf (T := "tuple") ⟨o, ho, hc⟩ F.slot_tuple_hash.lookup ?_)
      show wpAny _ _ (seqItems? (.ref a) >>= _) _ _ s
      refine wpAny_bind (wpAny_seqItems ho hd (wpAny_bind ?_))
      show wpAny _ _ (forIn vs _ _) _ _ s
      rw [← Array.forIn_toList]
      refine wpAny_forIn_list _ (fun rest r s1 => s1 = s ∧ ∃ js, NestedAll s.heap js rest ∧ ∀ v ∈ rest, ∀ (Q1 : Bool → Shared → Prop), (∀ b, Q1 b s) → wpAny (model P w) A (hashByValue n v) Q1 E s) _ ?_ ?_ _ _ ⟨rfl, ks, hi, fun v hv Q1 q1 => hashBy_all ks vs.toList n Q1 hi q1 v hv⟩
      · rintro v rest r s1 ⟨rfl, js, ha, hall⟩
        have hrest : ∃ js, NestedAll s1.heap js rest := by
          cases ha with
          | cons _ t => exact ⟨_, t⟩
        obtain ⟨js2, hj⟩ := hrest
        refine wpAny_bind (hall v List.mem_cons_self _ fun b => ?_)
        cases b with
        | true =>
          simp only [Bool.not_true, Bool.false_eq_true, if_false]
          exact wpAny_pure ⟨rfl, js2, hj, fun u hu => hall u (List.mem_cons_of_mem _ hu)⟩
        | false =>
          simp only [Bool.not_false, if_true]
          exact wpAny_pure (wpAny_pure (q false))
      · rintro ⟨r1, r2⟩ s1 ⟨rfl, _⟩
        cases r1 with
        | none => exact wpAny_pure (q true)
        | some b => exact wpAny_pure (q b)
theorem hashBy_all : ∀ (ks : List NestedKey) (vs : List Value) (n : Nat) (Q : Bool → Shared → Prop), NestedAll s.heap ks vs → (∀ b, Q b s) → ∀ v ∈ vs, wpAny (model P w) A (hashByValue n v) Q E s
  | [], vs, n, Q, hk, q, v, hv => by
    cases hk
    cases hv
  | k :: ks, vs, n, Q, hk, q, v, hv => by
    cases hk with
    | cons h1 h2 =>
      rcases List.mem_cons.mp hv with e | hv
      · rw [e]
        exact hashBy_val k _ n Q h1 q
      · exact hashBy_all ks _ n Q h2 q v hv
end
mutual
/-- a nested key is of no class statement -/
theorem noClass_val : ∀ (k : NestedKey) (v : Value) (n : Nat) (Q : Bool → Shared → Prop), NestedIs s.heap k v → k.depth ≤ n → Q false s → wpAny (model P w) A (ofAClassStatement n v) Q E s
  | .none, v, n, Q, hk, _, q => by
    cases hk
    cases n <;> exact wpAny_pure q
  | .num i, v, n, Q, hk, _, q => by
    cases hk <;> cases n <;> exact wpAny_pure q
  | .text x, v, n, Q, hk, _, q => by
    cases hk
    cases n <;> exact wpAny_pure q
  | .tup ks, v, 0, Q, hk, hn, q => absurd hn (by simp only [NestedKey.depth]; omega)
  | .tup ks, v, n + 1, Q, hk, hn, q => by
    simp only [NestedKey.depth] at hn
    cases hk with
    | @tup a o vs m _ ho hc hd hi =>
      unfold ofAClassStatement
      refine wpAny_bind (wpAny_typeOf (T := "tuple") ⟨o, ho, hc⟩ ?_)
      dsimp only
      have e : (("tuple" : String) == "tuple") = true := by decide
      simp only [e, if_true, Bool.not_true, Bool.false_eq_true, if_false]
      try refine wpAny_bind (wpAny_pure ?_)
      try simp only [Bool.not_true, Bool.false_eq_true, if_false]
      show wpAny _ _ (seqItems? (.ref a) >>= _) _ _ s
      refine wpAny_bind (wpAny_seqItems ho hd ?_)
      dsimp only
      refine wpAny_bind ?_
      show wpAny _ _ (forIn vs _ _) _ _ s
      rw [← Array.forIn_toList]
      refine wpAny_forIn_list _ (fun rest r s1 => r.1 = none ∧ s1 = s ∧ ∀ v ∈ rest, ∀ (Q1 : Bool → Shared → Prop), Q1 false s → wpAny (model P w) A (ofAClassStatement n v) Q1 E s) _ ?_ ?_ _ _ ⟨rfl, rfl, fun v hv Q1 q1 => noClass_all ks vs.toList n Q1 hi (by omega) q1 v hv⟩
      · rintro v rest r s1 ⟨hr, rfl, hall⟩
        refine wpAny_bind (hall v List.mem_cons_self _ ?_)
        simp only [Bool.false_eq_true, if_false]
        exact wpAny_pure ⟨rfl, rfl, fun u hu => hall u (List.mem_cons_of_mem _ hu)⟩
      · rintro ⟨r1, r2⟩ s1 ⟨hr, rfl, _⟩
        simp only at hr
        subst hr
        exact wpAny_pure q
theorem noClass_all : ∀ (ks : List NestedKey) (vs : List Value) (n : Nat) (Q : Bool → Shared → Prop), NestedAll s.heap ks vs → NestedKey.depthAll ks ≤ n → Q false s → ∀ v ∈ vs, wpAny (model P w) A (ofAClassStatement n v) Q E s
  | [], vs, n, Q, hk, _, q, v, hv => by
    cases hk
    cases hv
  | k :: ks, vs, n, Q, hk, hn, q, v, hv => by
    simp only [NestedKey.depthAll] at hn
    cases hk with
    | cons h1 h2 =>
      rcases List.mem_cons.mp hv with e | hv
      · rw [e]
        exact noClass_val k _ n Q h1 (by omega) q
      · exact noClass_all ks _ n Q h2 (by omega) q v hv
end
/-- a search among nested keys shows nothing -/
theorem unseen {k : NestedKey} {b : Addr} {Q : Bool → Shared → Prop} (hk : Nst s.heap k b) {ys : List Value} (hy : ∀ y ∈ ys, ∃ j c, y = Value.ref c ∧ Nst s.heap j c) (h : Q false s) :
    wpAny (model P w) A (searchCouldBeSeen (.ref b) ys) Q E s := by
  unfold searchCouldBeSeen
  refine wpAny_bind (wpAny_forIn_list _ (fun rest r s1 => r.1 = none ∧ s1 = s ∧ ∀ y ∈ rest, ∃ j c, y = Value.ref c ∧ Nst s.heap j c) _ ?_ ?_ _ _ ⟨rfl, rfl, hy⟩)
  · rintro v rest r s1 ⟨hr, rfl, hall⟩
    obtain ⟨j, c, rfl, hc⟩ := hall v List.mem_cons_self
    have more : ∀ y ∈ rest, ∃ j c, y = Value.ref c ∧ Nst s1.heap j c := fun u hu => hall u (List.mem_cons_of_mem _ hu)
    dsimp only
    by_cases hv : (b == c || (carriedByValue (.ref b) && carriedByValue (.ref c))) = true
    · exact wp_if_pos hv (wpAny_pure ⟨rfl, rfl, more⟩)
    · refine wp_if_neg hv (wpAny_bind (quiet_key k _ 8 s1 hk.1 hk.2 A E _ ?_))
      simp only [Bool.not_true, Bool.false_eq_true, if_false]
      refine wpAny_bind (quiet_key j _ 8 s1 hc.1 hc.2 A E _ ?_)
      simp only [Bool.not_true, Bool.false_eq_true, if_false]
      refine wpAny_bind (noClass_val k _ 8 _ hk.1 hk.2 ?_)
      simp only [Bool.false_eq_true, if_false]
      refine wpAny_bind (noClass_val j _ 8 _ hc.1 hc.2 ?_)
      simp only [Bool.false_eq_true, if_false]
      exact wpAny_pure ⟨rfl, rfl, more⟩
  · rintro ⟨r1, r2⟩ s1 ⟨hr, rfl, _⟩
    simp only at hr
    subst hr
    exact wpAny_pure h
end
end NSet

/-! sets of nested keys: the table -/
namespace NSet
open PySem PySem.Spec PySem.W PyProof.Rows L2
/-- an entry as the table holds it -/
def ent (w : World) (p : Addr × NestedKey) : Int × Value := (p.2.hash w, Value.ref p.1)
abbrev hsh (w : World) (L : List (Addr × NestedKey)) : List Int := L.map fun p => p.2.hash w
/-- the set at a of the nested keys L -/
structure SetN (w : World) (h : Heap) (a : Addr) (L : List (Addr × NestedKey)) (es : Array (Int × Value)) (ep : Nat) (t : SetTable) : Prop where
  obj : ∃ o, h.get? a = some o ∧ o.ExactSet ∧ o.data = .set es ep t
  rows : es.toList = L.map (ent w)
  tab : TabOk t (hsh w L)
  nd : (L.map (·.2)).Nodup
  key : ∀ p ∈ L, Nst h p.2 p.1
  led : w.params.followText "set-order" = true ∨ t.led = true
  room : L.length * 5 < t.mask * 3
  few : L.length < 77
section
variable {P : Program} {w : World} {A : Around} {E : Value → Shared → Prop} {s : Shared} {a : Addr} {L : List (Addr × NestedKey)} {es : Array (Int × Value)} {ep : Nat} {t : SetTable}
theorem SetN.size (R : SetN w s.heap a L es ep t) : es.size = L.length := by
  rw [← Array.length_toList, R.rows, List.length_map]
theorem SetN.fits (R : SetN w s.heap a L es ep t) : t.fits es.size = true := by
  have h1 := R.tab.sz
  rw [List.length_map] at h1
  have h2 := R.size
  have h3 := R.room
  unfold SetTable.fits SetTable.fill
  rw [R.tab.dm, Bool.and_eq_true, beq_iff_eq, decide_eq_true_eq]
  exact ⟨by omega, by show t.place.size + 0 ≤ t.mask; omega⟩
theorem SetN.ent (R : SetN w s.heap a L es ep t) {i : Nat} {p : Addr × NestedKey} (h : L[i]? = some p) : es[i]? = some (p.2.hash w, Value.ref p.1) := by
  rw [← Array.getElem?_toList, R.rows, List.getElem?_map, h]
  rfl
theorem SetN.gw (R : SetN w s.heap a L es ep t) : ¬ t.gaveWay = true := by
  unfold SetTable.gaveWay
  rw [mask_odd R.tab.mok]
  decide
/-- the walk of the hash h in the table t: its c-th probe -/
abbrev prb (t : SetTable) (h : Int) (c : Nat) : SetTable.Probe := nth t.mask (runAt t.mask (SetTable.bits h % (t.mask + 1)) (SetTable.bits h)) c
theorem prb_add (t : SetTable) (h : Int) (c q : Nat) : nth t.mask (prb t h c) q = prb t h (c + q) := (nth_add t.mask c _ q).symm
theorem prb_dummy (t : SetTable) (h : Int) (c : Nat) : (prb t h c).dummy = none := by
  have all : ∀ (n : Nat) (p : SetTable.Probe), p.dummy = none → (nth t.mask p n).dummy = none := by
    intro n
    induction n with
    | zero => intro p e; exact e
    | succ n ih =>
      intro p e
      refine ih (adv t.mask p) ?_
      unfold adv
      split <;> exact e
  exact all c _ rfl
theorem find_on (R : SetN w s.heap a L es ep t) {x : Addr} {k : NestedKey} (hx : Nst s.heap k x) (hu : A.units + 8 < cLine) {N : Nat} (hN : N < 10 * SetTable.turns t.mask)
    (free : way t.mask (k.hash w) N ∉ t.place.toList) (taken : ∀ c, c < N → way t.mask (k.hash w) c ∈ t.place.toList) {Q : SetFound → Shared → Prop}
    (yes : k ∈ L.map (·.2) → Q (.there none) s) (no : k ∉ L.map (·.2) → Q (.free (way t.mask (k.hash w) N) false) s) :
    ∀ (f c : Nat) (st : Option SetTable.Probe), st.getD (t.probeStart (k.hash w)) = prb t (k.hash w) c → c ≤ N → N - c < f →
      (∀ (i : Nat) p, L[i]? = some p → p.2 = k → ∃ d, c ≤ d ∧ d < N ∧ t.place.toList[i]? = some (way t.mask (k.hash w) d)) →
      wpAny (model P w) A (setSearchFrom a (.ref x) (k.hash w) true f st) Q E s
  | 0, _, _, _, _, hf, _ => absurd hf (Nat.not_lt_zero _)
  | f + 1, c, st, hst, hc, hf, ahead => by
    obtain ⟨o, ho, hex, hd⟩ := R.obj
    rw [setSearchFrom_succ]
    refine wpAny_bind (wpAny_setState_of ho hd R.fits ?_)
    dsimp only
    refine wp_if_neg R.gw ?_
    try refine wpAny_bind (wpAny_pure ?_)
    have at_ : ∀ q, (nth t.mask (prb t (k.hash w) c) q).j = way t.mask (k.hash w) (c + q) := fun q => congrArg SetTable.Probe.j (prb_add t (k.hash w) c q)
    have hash_at : ∀ (i : Nat) p, L[i]? = some p → (fun i => (es[i]?.map (·.1)).getD 0) i = p.2.hash w := fun i p hp => by
      show (es[i]?.map (·.1)).getD 0 = _
      rw [R.ent hp]
      rfl
    have how := go_spec t R.tab.ris R.tab.dm (fun i => (es[i]?.map (·.1)).getD 0) (k.hash w) (10 * SetTable.turns t.mask) (N - c) (prb t (k.hash w) c) (prb_dummy t _ c) (by omega)
      (fun q hq => by rw [at_]; exact taken (c + q) (by omega)) (by rw [at_, show c + (N - c) = N by omega]; exact free)
    rcases how with ⟨q, i, hq, hi, hh, hno, hpr⟩ | ⟨hno, hpr⟩
    · have hp1 : t.probe (fun i => (es[i]?.map (·.1)).getD 0) (k.hash w) (st.getD (t.probeStart (k.hash w))) = some (.candidate (way t.mask (k.hash w) (c + q)) i (prb t (k.hash w) (c + (q + 1)))) := by
        rw [hst, ← at_, ← prb_add]
        exact hpr
      rw [hp1]
      dsimp only
      rw [at_] at hi
      have hil : i < L.length := by
        have h1 : i < t.place.toList.length := (List.getElem?_eq_some_iff.mp hi).1
        have h2 := R.tab.sz
        rw [List.length_map] at h2
        rw [Array.length_toList] at h1
        omega
      obtain ⟨p, hp⟩ : ∃ p, L[i]? = some p := ⟨L[i], List.getElem?_eq_getElem hil⟩
      have pL : p ∈ L := List.mem_of_getElem? hp
      have pk := R.key p pL
      have after : wpAny (model P w) A (searchRest a (.ref x) (k.hash w) true f es t (way t.mask (k.hash w) (c + q)) i (prb t (k.hash w) (c + (q + 1)))) Q E s := by
        unfold searchRest
        rw [R.ent hp]
        dsimp only
        refine wpAny_bind (wpAny_holding ((nestedKind P w).eqBool (x := p.2) (y := k) hu pk hx ?_))
        refine wpAny_bind (wpAny_setState_of ho hd R.fits ?_)
        dsimp only
        by_cases same : p.2 = k
        · exact wp_if_pos (by simp [same]) (wpAny_pure (yes (List.mem_map.mpr ⟨p, pL, same⟩)))
        · refine wp_if_neg (by simp [same]) ?_
          try refine wpAny_bind (wpAny_pure ?_)
          rw [sameMem]
          dsimp only
          have live : t.slot (way t.mask (k.hash w) (c + q)) = .live i := slot_live R.tab.ris hi
          simp only [if_true, live, R.ent hp]
          refine wpAny_bind (wpAny_isSame_ref_self (wpAny_bind (wpAny_pure ?_)))
          simp only [if_true]
          refine wp_if_neg (by simp [same]) ?_
          refine find_on R hx hu hN free taken yes no f (c + (q + 1)) _ rfl (by omega) (by omega) fun i0 p0 h0 k0 => ?_
          obtain ⟨d, a1, a2, a3⟩ := ahead i0 p0 h0 k0
          refine ⟨d, ?_, a2, a3⟩
          by_cases z : d < c + q
          · exfalso
            refine hno (d - c) i0 (by omega) (by rw [at_, show c + (d - c) = d by omega]; exact a3) ?_
            exact (hash_at i0 p0 h0).trans (congrArg (NestedKey.hash w) k0)
          · by_cases y : d = c + q
            · exfalso
              rw [y] at a3
              have s0 := slot_live R.tab.ris a3
              rw [live] at s0
              injection s0 with s0
              rw [← s0, hp] at h0
              exact same ((congrArg Prod.snd (Option.some.inj h0)).trans k0)
            · omega
      by_cases hl : t.led = true
      · refine wp_if_neg (by simp [hl]) ?_
        try refine wpAny_bind (wpAny_pure ?_)
        exact after
      · refine wp_if_pos (by simp [hl]) (wpAny_bind (unseen hx (fun y hy => ?_) ?_))
        · obtain ⟨e, he, ee⟩ := List.mem_map.mp hy
          have he1 : e ∈ es ∧ e.1 = k.hash w := by simpa using he
          have he2 : e ∈ es.toList := by simpa using he1.1
          rw [R.rows] at he2
          obtain ⟨p2, hp2, e2⟩ := List.mem_map.mp he2
          exact ⟨p2.2, p2.1, by rw [← ee, ← e2]; rfl, R.key p2 hp2⟩
        · refine wp_if_neg (by decide) ?_
          try refine wpAny_bind (wpAny_pure ?_)
          exact after
    · have hp1 : t.probe (fun i => (es[i]?.map (·.1)).getD 0) (k.hash w) (st.getD (t.probeStart (k.hash w))) = some (.empty (way t.mask (k.hash w) N) none) := by
        have e2 : way t.mask (k.hash w) N = (nth t.mask (prb t (k.hash w) c) (N - c)).j := by rw [at_, show c + (N - c) = N by omega]
        rw [hst, e2]
        exact hpr
      rw [hp1]
      dsimp only
      refine wpAny_pure (no fun hm => ?_)
      obtain ⟨p0, h0, k0⟩ := List.mem_map.mp hm
      obtain ⟨i0, hi0⟩ := List.getElem?_of_mem h0
      obtain ⟨d, a1, a2, a3⟩ := ahead i0 p0 hi0 k0
      refine hno (d - c) i0 (by omega) (by rw [at_, show c + (d - c) = d by omega]; exact a3) ?_
      exact (hash_at i0 p0 hi0).trans (congrArg (NestedKey.hash w) k0)
/-- the search of adding -/
theorem find_key (R : SetN w s.heap a L es ep t) {x : Addr} {k : NestedKey} (hx : Nst s.heap k x) (hu : A.units + 8 < cLine) {Q : SetFound → Shared → Prop}
    (yes : k ∈ L.map (·.2) → Q (.there none) s)
    (no : ∀ N, k ∉ L.map (·.2) → way t.mask (k.hash w) N ∉ t.place.toList → (∀ c, c < N → way t.mask (k.hash w) c ∈ t.place.toList) → Q (.free (way t.mask (k.hash w) N) false) s) :
    wpAny (model P w) A (setSearch a (.ref x) (k.hash w) true) Q E s := by
  have hroom := R.room
  obtain ⟨N, h1, h2, h3⟩ := R.tab.first (by rw [List.length_map]; omega) (k.hash w)
  have big : N < 100000 := by
    have : 10 * SetTable.turns t.mask ≤ 1420 := by
      unfold SetTable.turns
      rcases R.tab.mok with e | e | e <;> omega
    omega
  unfold setSearch
  refine find_on R hx hu h1 h2 h3 yes (fun hn => no N hn h2 h3) 100000 0 none rfl (Nat.zero_le _) (by omega) fun i p hp hk => ?_
  have hi : (hsh w L)[i]? = some (k.hash w) := by
    rw [List.getElem?_map, hp, ← hk]
    rfl
  have hil : i < t.place.toList.length := by
    have h1 : i < L.length := (List.getElem?_eq_some_iff.mp hp).1
    have h2 := R.tab.sz
    rw [List.length_map] at h2
    rw [Array.length_toList]
    omega
  have hj := List.getElem?_eq_getElem hil
  obtain ⟨c, hc, e⟩ := R.tab.before h2 hi hj
  exact ⟨c, Nat.zero_le _, hc, by rw [hj, e]⟩
end
/-! ### laid anew -/
section
variable {P : Program} {w : World} {A : Around} {E : Value → Shared → Prop} {s : Shared}
theorem Nst.but {h h' : Heap} {k : NestedKey} {a b : Addr} {o : Obj} {es : Array (Int × Value)} {ep : Nat} {t : SetTable} (hb : Nst h k b) (ho : h.get? a = some o) (hd : o.data = .set es ep t) (hs : Heap.SameBut a h h') : Nst h' k b := by
  refine ⟨NestedIs.at (fun c oc vs n hc hcd => (hs.2 c ?_).trans hc) _ _ hb.1, hb.2⟩
  rintro rfl
  rw [ho] at hc
  cases hc
  rw [hd] at hcd
  cases hcd
theorem Nst.keep {h h' : Heap} {k : NestedKey} {b : Addr} (hb : Nst h k b) (kp : ∀ c o, h.get? c = some o → h'.get? c = some o) : Nst h' k b := ⟨NestedIs.at (fun c oc vs n hc _ => kp c oc hc) _ _ hb.1, hb.2⟩
/-- the entries in another order -/
theorem reorder {α β : Type} (f : α → β) (L : List α) (es : Array β) (order : Array Nat) (hr : es.toList = L.map f) (hp : order.toList.Perm (List.range L.length)) :
    ∃ M : List α, (order.filterMap (es[·]?)).toList = M.map f ∧ M.Perm L ∧ M.map f = order.toList.filterMap fun i => (L.map f)[i]? := by
  refine ⟨order.toList.filterMap fun i => L[i]?, ?_, ?_, ?_⟩
  · have e : (order.filterMap (es[·]?)).toList = order.toList.filterMap (fun i => es[i]?) := by simp
    rw [e, List.map_filterMap]
    congr 1
    funext i
    rw [← Array.getElem?_toList, hr, List.getElem?_map]
  · have e : (List.range L.length).filterMap (fun i => L[i]?) = L := by
      have all : ∀ n, n ≤ L.length → (List.range n).filterMap (fun i => L[i]?) = L.take n := by
        intro n
        induction n with
        | zero => intro _; rfl
        | succ n ih =>
          intro hn
          rw [List.range_succ, List.filterMap_append, ih (by omega), List.take_add_one, List.getElem?_eq_getElem hn]
          simp [List.getElem?_eq_getElem hn]
      rw [all _ (Nat.le_refl _), List.take_length]
    have z := hp.filterMap fun i => L[i]?
    rw [e] at z
    exact z
  · rw [List.map_filterMap]
    congr 1
    funext i
    rw [List.getElem?_map]
variable {a : Addr} {L : List (Addr × NestedKey)} {es : Array (Int × Value)} {ep : Nat} {t : SetTable}
theorem hash_order (L : List (Addr × NestedKey)) (es : Array (Int × Value)) (order : List Nat) (hr : es.toList = L.map (ent w)) (hp : ∀ i ∈ order, i < L.length) {M : List (Addr × NestedKey)} (hM : M.map (ent w) = order.filterMap fun i => (L.map (ent w))[i]?) :
    hsh w M = order.map fun i => (es.map (·.1)).getD i 0 := by
  have e1 : hsh w M = (M.map (ent w)).map (·.1) := by
    rw [List.map_map]
    rfl
  rw [e1, hM]
  clear hM e1
  induction order with
  | nil => rfl
  | cons i l ih =>
    have hi := hp i List.mem_cons_self
    have q : (L.map (ent w))[i]? = some (ent w L[i]) := by rw [List.getElem?_map, List.getElem?_eq_getElem hi]; rfl
    have q2 : es[i]? = some (ent w L[i]) := by rw [← Array.getElem?_toList, hr, q]
    rw [List.filterMap_cons_some q, List.map_cons, List.map_cons, ih fun j hj => hp j (List.mem_cons_of_mem _ hj)]
    have q3 : (es.map (·.1)).getD i 0 = (ent w L[i]).1 := by
      rw [Array.getD_eq_getD_getElem?, Array.getElem?_map, q2]
      rfl
    rw [q3]
theorem grow_to {o : Obj} (ho : s.heap.get? a = some o) (hex : o.ExactSet) (hd : o.data = .set es ep t) (rows : es.toList = L.map (ent w)) (sz : t.place.size = es.size) (dm : t.dummies = #[]) (fl : es.size ≤ t.mask)
    (nd : (L.map (·.2)).Nodup) (key : ∀ p ∈ L, Nst s.heap p.2 p.1) (ld : w.params.followText "set-order" = true ∨ t.led = true) (few : L.length < 77) {wanted M : Nat}
    (hw : SetTable.sizeAbove wanted - 1 = M) (hM : MaskOk M) (hw2 : SetTable.sizeAbove wanted ≤ 128) (hn : L.length * 5 < M * 3) {Q : Unit → Shared → Prop}
    (q : ∀ h' L' es' ep' t', Heap.SameBut a s.heap h' → SetN w h' a L' es' ep' t' → L'.Perm L → Q () { s with heap := h' }) : wpAny (model P w) A (setRelay a wanted) Q E s := by
  have sl : es.size = L.length := by rw [← Array.length_toList, rows, List.length_map]
  have fits : t.fits es.size = true := by
    unfold SetTable.fits SetTable.fill
    rw [dm, Bool.and_eq_true, beq_iff_eq, decide_eq_true_eq]
    exact ⟨sz, by show t.place.size + 0 ≤ t.mask; omega⟩
  obtain ⟨t2, order, e, hp, T, em, el, _, ed⟩ := relaid_ok t (hs := es.map (·.1)) (wanted := wanted) hw hM (by rw [Array.size_map, sl]; omega)
  rw [Array.size_map, sl] at hp
  obtain ⟨L2, r1, r2, r3⟩ := reorder (ent w) L es order rows hp
  rw [← hash_order L es order.toList rows (fun i hi => List.mem_range.mp (hp.mem_iff.mp hi)) r3] at T
  have s2 : (order.filterMap (es[·]?)).size = es.size := by rw [← Array.length_toList, r1, List.length_map, r2.length_eq, sl]
  rw [setRelay_eq]
  refine wpAny_bind (wpAny_setState_of ho hd fits ?_)
  dsimp only
  refine wp_if_neg (by rw [sizeLine_eq]; omega) ?_
  try refine wpAny_bind (wpAny_pure ?_)
  rw [e]
  dsimp only
  refine wpAny_bind (wp_if_neg (by rw [s2]; simp) ?_)
  try refine wpAny_bind (wpAny_pure ?_)
  refine wpAny_pure ?_
  dsimp only
  refine wpAny_storeSet_of ho hd ?_ (by rw [s2, sl, sizeLine_eq]; omega)
  have sb : Heap.SameBut a s.heap (s.heap.update a (Obj.putSet (order.filterMap (es[·]?)) t2)) := Heap.SameBut.update ..
  refine q _ L2 (order.filterMap (es[·]?)) (ep + 1) t2 sb ⟨⟨_, store_at ho hd, ⟨hex.1, hex.2.1, hex.2.2⟩, rfl⟩, r1, T, (r2.map (·.2)).nodup_iff.mpr nd, fun p hpm => Nst.but (key p (r2.mem_iff.mp hpm)) ho hd sb, by rw [el]; exact ld, by rw [r2.length_eq, em]; exact hn, by rw [r2.length_eq]; exact few⟩ r2
/-- a nested key is put in -/
theorem put_key (R : SetN w s.heap a L es ep t) {x : Addr} {k : NestedKey} (hx : Nst s.heap k x) (hu : A.units + 8 < cLine) (few : L.length + 1 < 77) {Q : Bool → Shared → Prop}
    (q : ∀ b h' L' es' ep' t', Heap.SameBut a s.heap h' → SetN w h' a L' es' ep' t' → (k ∈ L.map (·.2) → L' = L) → (k ∉ L.map (·.2) → L'.Perm ((x, k) :: L)) → Q b { s with heap := h' }) :
    wpAny (model P w) A (setAddHashed a (.ref x) (k.hash w)) Q E s := by
  obtain ⟨o, ho, hex, hd⟩ := R.obj
  have sl := R.size
  have room := R.room
  unfold setAddHashed
  refine wpAny_holding ?_
  rw [show (100000 : Nat) = 99999 + 1 from rfl, setAddHashedIn_succ]
  refine wpAny_bind (wpAny_setState_of ho hd R.fits ?_)
  dsimp only
  refine wp_if_neg (by simp [byScan, Value.scannable]) ?_
  try refine wpAny_bind (wpAny_pure ?_)
  refine wpAny_bind (find_key R hx hu (fun hm => ?_) fun N hm hN hb => ?_)
  · dsimp only
    exact wpAny_pure (q false s.heap L es ep t (Heap.SameBut.refl a s.heap) R (fun _ => rfl) fun z => absurd hm z)
  dsimp only
  refine wpAny_bind (wpAny_setState_of ho hd R.fits ?_)
  dsimp only
  obtain ⟨q1, q2, q3, q4, q5, q6, q7, q8, q9⟩ := R.tab.put hN hb
  generalize hpt : t.put (way t.mask (k.hash w) N) = pt at q1 q3 q4 q5 q6 q7 q8 q9 ⊢
  obtain ⟨t0, pz⟩ := pt
  dsimp only at q1 q3 q4 q5 q6 q7 q8 q9 ⊢
  subst q1
  -- by value or not: the table is the same but for its mark
  have onward : ∀ t1 : SetTable, (∃ pl, t1 = { t0 with plain := pl }) → wpAny (model P w) A (do
      storeSet a (SetTable.insertAt es (SetTable.below t.place (way t.mask (k.hash w) N)) (k.hash w, Value.ref x)) t1
      if !false && t1.tooFull then setRelay a (SetTable.grown (es.size + 1))
      return true) Q E s := by
    rintro t1 ⟨pl, e1⟩
    have m1 : t1.mask = t.mask := by rw [e1]; exact q4
    have f1 : t1.fill = (hsh w L).length + 1 := by rw [e1]; exact q9
    have l1 : t1.led = t.led := by rw [e1]; exact q5
    have d1 : t1.dummies = #[] := by rw [e1]; exact q3.dm
    have T1 : TabOk t1 ((hsh w L).take (SetTable.below t.place (way t.mask (k.hash w) N)) ++ k.hash w :: (hsh w L).drop (SetTable.below t.place (way t.mask (k.hash w) N))) := by
      rw [e1]
      exact ⟨q3.ris, q3.dm, q3.sz, q3.mok, q3.bd, q3.reach⟩
    have hin : (SetTable.insertAt es (SetTable.below t.place (way t.mask (k.hash w) N)) (k.hash w, Value.ref x)).toList = (L.take (SetTable.below t.place (way t.mask (k.hash w) N)) ++ (x, k) :: L.drop (SetTable.below t.place (way t.mask (k.hash w) N))).map (ent w) := by
      rw [SetTable.toList_insertAt, R.rows, List.map_append, List.map_cons, List.map_take, List.map_drop]
      rfl
    generalize hpp : SetTable.below t.place (way t.mask (k.hash w) N) = p at q2 T1 hin ⊢
    have pm := put_perm L p (x, k)
    have hh : hsh w (L.take p ++ (x, k) :: L.drop p) = (hsh w L).take p ++ k.hash w :: (hsh w L).drop p := by
      show List.map _ _ = _
      rw [List.map_append, List.map_cons, List.map_take, List.map_drop]
    rw [← hh] at T1
    generalize L.take p ++ (x, k) :: L.drop p = L1 at pm T1 hin hh
    have len1 : L1.length = L.length + 1 := pm.length_eq
    have nd1 : (L1.map (·.2)).Nodup := by
      refine (pm.map (·.2)).nodup_iff.mpr ?_
      rw [List.map_cons]
      exact List.nodup_cons.mpr ⟨hm, R.nd⟩
    have es1 : (SetTable.insertAt es p (k.hash w, Value.ref x)).size = L.length + 1 := by rw [← Array.length_toList, hin, List.length_map, len1]
    generalize SetTable.insertAt es p (k.hash w, Value.ref x) = en at hin es1 ⊢
    refine wpAny_bind (wpAny_storeSet_of ho hd ?_ (by rw [es1, sizeLine_eq]; omega))
    have sb : Heap.SameBut a s.heap (s.heap.update a (Obj.putSet en t1)) := Heap.SameBut.update ..
    have ho1 := store_at (es' := en) (t' := t1) ho hd
    generalize s.heap.update a (Obj.putSet en t1) = h1 at sb ho1 ⊢
    have key1 : ∀ p ∈ L1, Nst h1 p.2 p.1 := fun p hp => by
      rcases List.mem_cons.mp (pm.mem_iff.mp hp) with e | hp
      · rw [e]
        exact Nst.but hx ho hd sb
      · exact Nst.but (R.key p hp) ho hd sb
    have led1 : w.params.followText "set-order" = true ∨ t1.led = true := by rw [l1]; exact R.led
    have size1 : t1.place.size = en.size := by
      have h := T1.sz
      rw [List.length_map, len1] at h
      rw [h, es1]
    by_cases hf : t1.tooFull = true
    · have full : (L.length + 1) * 5 ≥ t.mask * 3 := by
        have h := hf
        unfold SetTable.tooFull at h
        rw [decide_eq_true_eq, f1, List.length_map, m1] at h
        exact h
      have two : (t.mask = 7 ∧ L.length = 4) ∨ (t.mask = 31 ∧ L.length = 18) := by
        rcases R.tab.mok with e | e | e
        · left
          rw [e] at full room
          exact ⟨e, by omega⟩
        · right
          rw [e] at full room
          exact ⟨e, by omega⟩
        · exfalso
          rw [e] at full
          omega
      have go : ∀ M, SetTable.sizeAbove (SetTable.grown (L.length + 1)) - 1 = M → MaskOk M → SetTable.sizeAbove (SetTable.grown (L.length + 1)) ≤ 128 → (L.length + 1) * 5 < M * 3 →
          wpAny (model P w) A (setRelay a (SetTable.grown (es.size + 1))) (fun _ s1 => wpAny (model P w) A (pure true) Q E s1) E { s with heap := h1 } := fun M g1 g2 g3 g4 => by
        rw [sl]
        refine grow_to (s := { s with heap := h1 }) ho1 ⟨hex.1, hex.2.1, hex.2.2⟩ rfl hin size1 d1 (by rw [es1, m1]; rcases two with ⟨e, e2⟩ | ⟨e, e2⟩ <;> omega) nd1 key1 led1 (by rw [len1]; exact few) g1 g2 g3 (by rw [len1]; exact g4) fun h2 L2 es2 ep2 t2 sb2 R2 pm2 => ?_
        exact wpAny_pure (q true h2 L2 es2 ep2 t2 (sb.trans sb2) R2 (fun z => absurd z hm) fun _ => pm2.trans pm)
      have fin : wpAny (model P w) A (setRelay a (SetTable.grown (es.size + 1))) (fun _ s1 => wpAny (model P w) A (pure true) Q E s1) E { s with heap := h1 } := by
        rcases two with ⟨_, e2⟩ | ⟨_, e2⟩
        · exact go 31 (by rw [e2, size_20]) (.inr (.inl rfl)) (by rw [e2, size_20]; decide) (by omega)
        · exact go 127 (by rw [e2, size_76]) (.inr (.inr rfl)) (by rw [e2, size_76]; decide) (by omega)
      first
        | exact wpAny_bind (wp_if_pos (by simp [hf]) fin)
        | exact wp_if_pos (by simp [hf]) (wpAny_bind fin)
    · have fin := q true h1 L1 en (ep + 1) t1 sb ⟨⟨_, ho1, ⟨hex.1, hex.2.1, hex.2.2⟩, rfl⟩, hin, T1, nd1, key1, led1, (by
        have h := hf
        unfold SetTable.tooFull at h
        rw [decide_eq_true_eq, f1, List.length_map] at h
        rw [len1]
        omega), by rw [len1]; exact few⟩ (fun z => absurd z hm) fun _ => pm
      first
        | exact wp_if_neg (by simp [hf]) (wpAny_pure fin)
        | exact wpAny_bind (wp_if_neg (by simp [hf]) (wpAny_pure (wpAny_pure fin)))
  by_cases hpl : t0.plain = true
  · first
      | (refine wp_if_pos hpl (wpAny_bind (hashBy_val k _ 8 _ hx.1 fun b => ?_)))
      | (refine wpAny_bind (wp_if_pos hpl (hashBy_val k _ 8 _ hx.1 fun b => ?_)))
    cases b
    · exact onward _ ⟨false, rfl⟩
    · exact onward _ ⟨t0.plain, rfl⟩
  · first
      | (refine wp_if_neg hpl (wpAny_bind (wpAny_pure ?_)))
      | (refine wpAny_bind (wp_if_neg hpl (wpAny_pure ?_)))
    exact onward _ ⟨t0.plain, rfl⟩
end
end NSet

/-! sorting of tuples, of which some may be empty -/
namespace RW9
open PySem PySem.Spec PySem.W PySem.Calls PyProof.Rows PySem.SeqAt
def neT : PyData → Bool
  | .tuple (_ :: _) => true
  | _ => false
section
variable {prog : Program} {w : World} {A : Around} {s : Shared} {E : Value → Shared → Prop}
theorem oneLt_tup {xs ys : List PyData} {a b : Value} {as bs : List Addr} {Q : Bool → Shared → Prop} (ra : Reads s.heap a (.tuple xs) as) (rb : Reads s.heap b (.tuple ys) bs) (h : alike (.tuple xs) (.tuple ys) = true)
    (hu : A.units + min (PyData.tuple xs).depth (PyData.tuple ys).depth < cLine) (hq : Q (dataLt (.tuple xs) (.tuple ys)) s) : wpAny (model prog w) A (oneLt' true a b) Q E s := by
  have hal : alikeAll xs ys = true := by simpa [alike] using h
  cases ra with
  | @tuple l o vs n _ as₁ h1 h2 h3 h4 =>
    cases rb with
    | @tuple l' o' vs' n' _ bs₁ k1 k2 k3 k4 =>
      have n1 : vs.size = xs.length := by simpa using ReadsAll.length _ _ _ h4
      have n2 : vs'.size = ys.length := by simpa using ReadsAll.length _ _ _ k4
      rw [dataLt_tuple, ← firstLt_toks xs ys hal, ← n1, ← n2] at hq
      rw [oneLt'_eq]
      simp only [if_true]
      refine wpAny_bind (wpAny_cRoomFor (room_here hu) ?_)
      have he : ∀ j (j1 : j < vs.size) (j2 : j < vs'.size), EqAt A.in1 s vs[j] vs'[j] (pairEq xs ys j) := fun j j1 j2 => by
        have := eqAt_alikeAll xs ys A.in1 s vs.toList vs'.toList _ _ h4 k4 hal (room_in hu) j (by simpa using j1) (by simpa using j2)
        simpa using this
      have hr : ∀ j (j1 : j < vs.size) (j2 : j < vs'.size), pairEq xs ys j = false → RcLt A.in1 s vs[j] vs'[j] (dataLt (xs.getD j .none) (ys.getD j .none)) := fun j j1 j2 hj => by
        have := rcLt_alikeAll xs ys A.in1 s vs.toList vs'.toList _ _ h4 k4 hal (room_in hu) j (by simpa using j1) (by simpa using j2) hj
        simpa using this
      obtain ⟨cls, dd, data, sl⟩ := o
      obtain ⟨cls2, dd2, data2, sl2⟩ := o'
      simp only at h2 h3 k2 k3
      subst h2 h3 k2 k3
      refine wpAny_bind (wpAny_callSpecialIfBound?_slot (T := "tuple") ⟨_, h1, rfl⟩ PySem.F.slot_tuple_lt (call_meets PySem.F.slot_tuple_lt ⟨_, h1, rfl⟩ PySem.F.entry_tuple_lt (PySem.F.args_tuple_lt_2 _ _) (tuple_ltAt l l' vs vs' n n' dd dd2 sl sl2 (pairEq xs ys) fun j => dataLt (xs.getD j .none) (ys.getD j .none)) ⟨h1, k1, he, hr, ?_⟩))
      exact wpAny_truthy_bool hq
theorem firstsE {M : Model} : ∀ {vs : List Value} {ds : List PyData}, EachIs (fun v d => ∃ as, Reads s.heap v d as) vs ds → (∀ d ∈ ds, ∃ r, d = .tuple r) → ∃ os : List (Option Value), os.map (·.isSome) = ds.map neT ∧ ∀ Q : List (Option Value) → Shared → Prop, Q os s → wpAny M A (vs.mapM firstOfTuple') Q E s
  | _, _, .nil, _ => ⟨[], rfl, fun Q h => by rw [List.mapM_nil]; exact wpAny_pure h⟩
  | _, _, .cons (a := v) (b := d) ⟨as, r⟩ t, ht => by
    obtain ⟨os, h1, h2⟩ := firstsE t fun d hd => ht d (List.mem_cons_of_mem _ hd)
    obtain ⟨rs, rfl⟩ := ht d List.mem_cons_self
    cases r with
    | @tuple a o xs n _ _ ho hc hd hr =>
      refine ⟨xs[0]? :: os, ?_, fun Q hq => ?_⟩
      · rw [List.map_cons, List.map_cons, h1]
        congr 1
        have n1 : xs.size = rs.length := by simpa using SeqAt.ReadsAll.length _ _ _ hr
        cases rs with
        | nil =>
          rw [Array.getElem?_eq_none (by rw [n1]; exact Nat.le_refl _)]
          rfl
        | cons x r =>
          rw [Array.getElem?_eq_getElem (by rw [n1]; exact Nat.succ_pos _)]
          rfl
      · rw [List.mapM_cons]
        refine wpAny_bind ?_
        rw [kas_first_eq]
        refine wpAny_bind (Looks.here (show Looks M s.heap (typeOf (.ref a)) o.cls from (Looks.ld ho).andThen .now) ?_)
        rw [hc, if_neg (by first | decide | simp)]
        refine wpAny_bind (listItems_at ho hd (wpAny_pure ?_))
        exact wpAny_bind (h2 (fun bs s' => wpAny M A (pure (xs[0]? :: bs)) Q E s') (wpAny_pure hq))
def kindE (ds : List PyData) : SortKind := if (ds.map neT).head? = some true then general' else oneType'
theorem kind_ofE {M : Model} {vs : List Value} {ds : List PyData} {Q : SortKind → Shared → Prop} (h2 : 2 ≤ vs.length) (e : EachIs (fun v d => ∃ as, Reads s.heap v d as) vs ds) (ht : ∀ d ∈ ds, ∃ r, d = .tuple r) (hne : (ds.map neT).all id = false) (hq : Q (kindE ds) s) :
    wpAny M A (keyKind' vs.toArray) Q E s := by
  obtain ⟨os, e1, hos⟩ := firstsE (M := M) (A := A) (E := E) e ht
  rw [keyKind'_eq, List.mapM_toArray, map_eq_pure_bind]
  refine wpAny_bind (wpAny_bind (hos _ (wpAny_pure ?_)))
  have hall : (os.toArray.all fun x => x.isSome) = false := by
    rw [List.all_toArray, ← hne, ← e1, List.all_map]
    rfl
  rw [if_neg (by rw [hall]; exact Bool.false_ne_true)]
  have hh : (os.toArray[0]?.bind id).isSome = decide ((ds.map neT).head? = some true) := by
    rw [← e1]
    cases os with
    | nil => rfl
    | cons o os => cases o <;> simp
  unfold kindE at hq
  by_cases c : (ds.map neT).head? = some true
  · rw [if_pos c] at hq
    rw [if_pos (by rw [hh]; exact decide_eq_true c)]
    exact wpAny_pure hq
  · rw [if_neg c] at hq
    rw [if_neg (by rw [hh, decide_eq_false c]; exact Bool.false_ne_true)]
    obtain ⟨v₁, v₂, rest, rfl⟩ : ∃ v₁ v₂ rest, vs = v₁ :: v₂ :: rest := by
      match vs, h2 with
      | [], h2 => simp at h2
      | [_], h2 => simp at h2
      | v₁ :: v₂ :: rest, _ => exact ⟨v₁, v₂, rest, rfl⟩
    have hT : ∀ v ∈ v₁ :: v₂ :: rest, Looks M s.heap (typeOf v) (.type "tuple") := fun v hv => by
      obtain ⟨d, hd, as, r⟩ := e.left v hv
      obtain ⟨rs, rfl⟩ := ht d hd
      exact looks_reads r
    rw [oneTypeOnly'_eq, List.mapM_toArray, map_eq_pure_bind]
    refine wpAny_bind (wpAny_bind (wpAny_bind (kas_mapM (r := Value.type "tuple") _ (fun v hv Q' hq => (hT v hv).here hq) (wpAny_pure ?_))))
    have hall : ((List.map (fun _ => Value.type "tuple") (v₁ :: v₂ :: rest)).toArray.all fun x => x == Value.type "tuple") = true := by
      simp only [List.all_toArray, List.all_map, List.all_eq_true]
      intro _ _
      exact beq_self_eq_true _
    have h0 : (List.map (fun _ => Value.type "tuple") (v₁ :: v₂ :: rest)).toArray[0]? = some (Value.type "tuple") := by simp
    rw [h0]
    simp only [hall, if_true]
    exact wpAny_pure (wpAny_pure hq)
/-- tuples that read as alike data -/
theorem sortableE {a : Addr} {vs : List Value} {enc : Value → PyData} (h2 : 2 ≤ vs.length)
    (er : ∀ h' : Heap, (∀ b o, b ≠ a → s.heap.get? b = some o → h'.get? b = some o) → ∀ v ∈ vs, ∃ as, Reads h' v (enc v) as)
    (hal : ∀ v ∈ vs, ∀ u ∈ vs, alike (enc v) (enc u) = true) (ht : ∀ v ∈ vs, ∃ r, enc v = .tuple r) (hu : ∀ v ∈ vs, A.units + (enc v).depth < cLine) :
    SrtO.SortableO prog w A s a vs fun v u => dataLt (enc v) (enc u) := by
  cases hne : ((vs.map enc).map neT).all id with
  | true =>
    refine sortable h2 er hal (fun v hv => ?_) hu
    obtain ⟨r, e⟩ := ht v hv
    have := List.all_eq_true.mp hne (neT (enc v)) (List.mem_map.mpr ⟨_, List.mem_map.mpr ⟨v, hv, rfl⟩, rfl⟩)
    rw [e] at this ⊢
    cases r with
    | nil => exact absurd this (by simp [neT])
    | cons x r => exact ⟨x, r, rfl⟩
  | false =>
    intro h' keep
    have hds : ∀ d ∈ vs.map enc, ∃ r, d = .tuple r := fun d hd => by
      obtain ⟨v, hv, rfl⟩ := List.mem_map.mp hd
      exact ht v hv
    refine ⟨kindE (vs.map enc), fun Q E hq => kind_ofE (s := { s with heap := h' }) h2 (eachIs_self (R := fun v d => ∃ as, Reads h' v d as) (er h' keep)) hds hne hq, ?_⟩
    intro p q hp hq
    obtain ⟨as, ra⟩ := er h' keep p.1 hp
    obtain ⟨bs, rb⟩ := er h' keep q.1 hq
    obtain ⟨xs, ex⟩ := ht p.1 hp
    obtain ⟨ys, ey⟩ := ht q.1 hq
    have al := hal p.1 hp q.1 hq
    have hr : A.units + min (enc p.1).depth (enc q.1).depth < cLine := Nat.lt_of_le_of_lt (Nat.add_le_add_left (Nat.min_le_left _ _) _) (hu p.1 hp)
    show wpAny _ _ (keyLt' (kindE (vs.map enc)) p.1 q.1) _ _ _
    unfold kindE
    by_cases c : ((vs.map enc).map neT).head? = some true
    · rw [if_pos c]
      refine oneLt_alike (s := { s with heap := h' }) (f := false) (fun z => absurd z Bool.false_ne_true) ra rb al (by rw [ex]; exact fun z => nomatch z) hr ?_
      exact ⟨rfl, rfl⟩
    · rw [if_neg c, keyLt'_oneType]
      refine oneLt_tup (s := { s with heap := h' }) (ex ▸ ra) (ey ▸ rb) (by rw [← ex, ← ey]; exact al) (by rw [← ex, ← ey]; exact hr) ?_
      rw [← ex, ← ey]
      exact ⟨rfl, rfl⟩
end
end RW9

namespace L2
open PySem PySem.Spec PyProof.Rows
section
variable {J : It} {n : Nat} {G : Hp → Prop} {Y : Nat → Hp → V → Hp → Prop} {K : PySem.W.Frag}
/-- two clauses, the inner one over a thing of the turn; immutable data told ahead -/
theorem lc2_datV (w : Walk J n G Y) {wi1 : TI} {g g1 : TG} {te : TE} {vs vs1 : List Nat} {σ : L2.St} {H1 : Hp} {D : Addr} {Qd : Hp → Prop} (hD : H1 D = none)
    (hG : ∀ H, Same H1 H → G H) (ds : Nat → List PyData) (hn : ((List.range n).map ds).flatten.length ≤ 100000) (him : ∀ i, i < n → immAll (ds i) = true)
    (step : ∀ i x H H' (Q : L2.St → Hp → Prop), i < n → Same H1 H → Y i H x H' →
      (∀ σ2 H2, Same H H2 → wipe σ2 vs = wipe σ vs → (∃ (J1 : It) (G1 : Hp → Prop) (Y1 : Nat → Hp → V → Hp → Prop), Walk J1 (ds i).length G1 Y1 ∧ (∀ H, Same H2 H ∨ (Same H1 H ∧ ST K H2 H) → G1 H) ∧ (∀ H3 R, Same H2 H3 → R J1 H3 → wi1 σ2 H3 R) ∧
        (∀ j y H3 H3' (Q' : VK), j < (ds i).length → Same H1 H3 → ST K H2 H3 → Y1 j H3 y H3' → (∀ z H4 d, Same H3 H4 → (ds i)[j]? = some d → Da K H4 z d → Q' z H4) → g1 y (wipe σ2 vs1) H3' fun σ3 H5 => wipe σ3 vs1 = wipe σ2 vs1 ∧ te σ3 H5 Q')) → Q σ2 H2) → g x (wipe σ vs) H' Q)
    (hd : ∀ H acc, Same H1 H → H D = some (.lst acc) → DaAll K H acc ((List.range n).map ds).flatten → Qd H) :
    ∃ W : Nat → Nat → Hp → Prop, (∃ m, W 0 m (upd H1 D (.lst []))) ∧ ∀ i m H, W i m H →
      (J.stop i H ∧ Qd H) ∨ (J.go i H ∧ ∃ Nx : Hp → Prop, (∀ H', Nx H' → ∃ m', m' < m ∧ W (i + 1) m' H') ∧ ∀ x H', J.yld i H x H' → g x (wipe σ vs) H' fun σ2 H2 => wipe σ2 vs = wipe σ vs ∧ tYes σ2 H2 fun b H3 =>
        if b = true then wi1 σ2 H3 fun J1 H4 => ∃ W1 : Nat → Nat → Hp → Prop, (∃ m, W1 0 m H4) ∧ ∀ j k H, W1 j k H →
          (J1.stop j H ∧ Nx H) ∨ (J1.go j H ∧ ∃ Nx1 : Hp → Prop, (∀ H', Nx1 H' → ∃ k', k' < k ∧ W1 (j + 1) k' H') ∧ ∀ x H', J1.yld j H x H' → g1 x (wipe σ2 vs1) H' fun σ3 H5 => wipe σ3 vs1 = wipe σ2 vs1 ∧ tYes σ3 H5 fun b H6 =>
            if b = true then te σ3 H6 fun y H7 => ∃ acc, H7 D = some (.lst acc) ∧ acc.length < sizeLine ∧ Nx1 (upd H7 D (.lst (acc ++ [y]))) else Nx1 H6)
        else Nx H3) := by
  have fsnoc : ∀ i, ((List.range (i + 1)).map ds).flatten = ((List.range i).map ds).flatten ++ ds i := by
    intro i
    rw [List.range_succ, List.map_append, List.flatten_append]
    simp
  have fimm : ∀ i, i ≤ n → immAll ((List.range i).map ds).flatten = true := by
    intro i
    induction i with
    | zero => intro _; rfl
    | succ i ih =>
      intro h
      rw [fsnoc]
      exact immAll_append (ih (by omega)) (him i (by omega))
  have fle : ∀ k i, i + k = n → ((List.range i).map ds).flatten.length ≤ ((List.range n).map ds).flatten.length := by
    intro k
    induction k with
    | zero => intro i e; rw [show i = n by omega]; exact Nat.le_refl _
    | succ k ih =>
      intro i e
      have := ih (i + 1) (by omega)
      rw [fsnoc i, List.length_append] at this
      omega
  refine ⟨fun i m H => m = n - i ∧ i ≤ n ∧ Same H1 H ∧ ∃ acc, H D = some (.lst acc) ∧ DaAll K H acc ((List.range i).map ds).flatten, ⟨n, by simp, Nat.zero_le _, same_upd hD, [], upd_same, .nil⟩, ?_⟩
  rintro i m H ⟨rfl, hi, p1, acc, p2, p3⟩
  by_cases hlt : i < n
  · refine .inr ⟨w.goes i H hlt (hG H p1), fun H' => Same H1 H' ∧ ∃ acc, H' D = some (.lst acc) ∧ DaAll K H' acc ((List.range (i + 1)).map ds).flatten, fun H' ⟨q1, q2⟩ => ⟨n - (i + 1), by omega, rfl, hlt, q1, q2⟩, fun x H' y => ?_⟩
    refine step i x H H' _ hlt p1 (w.yields i H x H' hlt (hG H p1) y) fun σ2 H2 e2 ws ⟨J1, G1, Y1, w1, hG1, hin, el⟩ => ?_
    refine ⟨ws, ?_⟩
    show wi1 σ2 H2 _
    refine hin H2 _ (Same.refl _) ?_
    refine ⟨fun j k H => k = (ds i).length - j ∧ j ≤ (ds i).length ∧ Same H1 H ∧ ST K H2 H ∧ ∃ acc, H D = some (.lst acc) ∧ DaAll K H acc (((List.range i).map ds).flatten ++ (ds i).take j), ⟨(ds i).length, by simp, Nat.zero_le _, p1.trans e2, ST.refl _, acc, e2 _ _ p2, ?_⟩, ?_⟩
    · rw [List.take_zero, List.append_nil]
      exact Da.sameAll e2 _ _ p3
    · rintro j k H3 ⟨rfl, hj, q1, qb, acc3, q2, q3⟩
      by_cases hjl : j < (ds i).length
      · refine .inr ⟨w1.goes j H3 hjl (hG1 H3 (.inr ⟨q1, qb⟩)), fun H' => Same H1 H' ∧ ST K H2 H' ∧ ∃ acc, H' D = some (.lst acc) ∧ DaAll K H' acc (((List.range i).map ds).flatten ++ (ds i).take (j + 1)), fun H' ⟨r1, r2⟩ => ⟨(ds i).length - (j + 1), by omega, rfl, hjl, r1, r2⟩, fun x3 H3' y3 => ?_⟩
        refine el j x3 H3 H3' _ hjl q1 qb (w1.yields j H3 x3 H3' hjl (hG1 H3 (.inr ⟨q1, qb⟩)) y3) fun z H4 d e4 hd4 hz => ?_
        have e5 : H4 D = some (.lst acc3) := e4 _ _ q2
        have st : ST K H4 (upd H4 D (.lst (acc3 ++ [z]))) := st_upd e5 True.intro
        refine ⟨acc3, e5, ?_, (q1.trans e4).mut hD, (qb.trans e4.st).trans st, _, upd_same, ?_⟩
        · have l3 := q3.length
          rw [List.length_append, List.length_take] at l3
          have hle := fle (n - (i + 1)) (i + 1) (by omega)
          rw [fsnoc i, List.length_append] at hle
          refine Nat.lt_of_lt_of_le ?_ (sz1000' hn)
          have : min j (ds i).length ≤ j := Nat.min_le_left _ _
          omega
        · rw [List.take_add_one, hd4, ← List.append_assoc]
          exact DaAll.snoc (Da.st st _ _ (immAll_at (him i hlt) hd4) hz) (Da.stAll (e4.st.trans st) _ _ (immAll_append (fimm i hi) (immAll_take j (him i hlt))) q3)
      · have ej : j = (ds i).length := by omega
        subst ej
        refine .inl ⟨w1.stops H3 (hG1 H3 (.inr ⟨q1, qb⟩)), q1, acc3, q2, ?_⟩
        rw [fsnoc]
        rw [List.take_length] at q3
        exact q3
  · have e : i = n := by omega
    subst e
    exact .inl ⟨w.stops H (hG H p1), hd H acc p1 p2 p3⟩
end
end L2

/-! tallies: lists of pairs (a key, a count) -/
namespace Tl
section
variable {κ : Type} [DecidableEq κ]
/-- the sum of the counts of k -/
def cnt : List (κ × Int) → κ → Int
  | [], _ => 0
  | p :: l, k => (if p.1 = k then p.2 else 0) + cnt l k
abbrev keys (L : List (κ × Int)) : List κ := L.map (·.1)
theorem cnt_append (l m : List (κ × Int)) (k : κ) : cnt (l ++ m) k = cnt l k + cnt m k := by
  induction l with
  | nil => simp [cnt]
  | cons p l ih =>
    show (if p.1 = k then p.2 else 0) + cnt (l ++ m) k = (if p.1 = k then p.2 else 0) + cnt l k + cnt m k
    rw [ih]
    omega
theorem cnt_perm {l m : List (κ × Int)} (h : l.Perm m) (k : κ) : cnt l k = cnt m k := by
  induction h with
  | nil => rfl
  | cons x _ ih => simp only [cnt, ih]
  | swap x y l =>
    simp only [cnt]
    omega
  | trans _ _ h1 h2 => exact h1.trans h2
theorem cnt_out {L : List (κ × Int)} {k : κ} (h : k ∉ keys L) : cnt L k = 0 := by
  induction L with
  | nil => rfl
  | cons p L ih =>
    have h' : ¬ (k ∈ p.1 :: keys L) := h
    simp only [cnt]
    rw [if_neg (fun e => h' (by rw [e]; exact List.mem_cons_self)), ih (fun z => h' (List.mem_cons_of_mem _ z))]
    rfl
theorem cnt_in {L : List (κ × Int)} (hn : (keys L).Nodup) {p : κ × Int} (h : p ∈ L) : cnt L p.1 = p.2 := by
  induction L with
  | nil => cases h
  | cons q L ih =>
    obtain ⟨h1, h2⟩ := List.nodup_cons.mp (show (q.1 :: keys L).Nodup from hn)
    simp only [cnt]
    rcases List.mem_cons.mp h with e | h
    · subst e
      rw [if_pos rfl, cnt_out h1]
      omega
    · rw [if_neg (fun e => h1 (by rw [e]; exact List.mem_map.mpr ⟨p, h, rfl⟩)), ih h2 h]
      omega
theorem cnt_mem {L : List (κ × Int)} {k : κ} (h : cnt L k ≠ 0) : k ∈ keys L := by
  refine Classical.byContradiction fun z => h (cnt_out z)
/-- L is a tally without zeros -/
structure Fin (L : List (κ × Int)) : Prop where
  nd : (keys L).Nodup
  nz : ∀ p ∈ L, p.2 ≠ 0
theorem Fin.mem {L : List (κ × Int)} (F : Fin L) {p : κ × Int} : p ∈ L ↔ cnt L p.1 = p.2 ∧ p.2 ≠ 0 := by
  constructor
  · intro h
    exact ⟨cnt_in F.nd h, F.nz p h⟩
  · rintro ⟨h1, h2⟩
    obtain ⟨q, hq, e⟩ := List.mem_map.mp (cnt_mem (show cnt L p.1 ≠ 0 by rw [h1]; exact h2))
    have e2 := cnt_in F.nd hq
    rw [e, h1] at e2
    have : q = p := Prod.ext e e2.symm
    rw [← this]
    exact hq
theorem nodup_keys {L : List (κ × Int)} (h : (keys L).Nodup) : L.Nodup := List.Pairwise.of_map (·.1) (fun _ _ ne e => ne (congrArg _ e)) h
/-- two such tallies with the same sums hold the same -/
theorem Fin.perm {L M : List (κ × Int)} (F : Fin L) (G : Fin M) (h : ∀ k, cnt L k = cnt M k) : L.Perm M := by
  refine (List.perm_ext_iff_of_nodup (nodup_keys F.nd) (nodup_keys G.nd)).mpr fun p => ?_
  rw [F.mem, G.mem, h]
theorem Fin.of_perm {L M : List (κ × Int)} (F : Fin L) (h : L.Perm M) : Fin M := ⟨(h.map (·.1)).nodup_iff.mp F.nd, fun p hp => F.nz p (h.mem_iff.mpr hp)⟩
def nzL (L : List (κ × Int)) : List (κ × Int) := L.filter fun p => decide (p.2 ≠ 0)
theorem cnt_nz (L : List (κ × Int)) (k : κ) : cnt (nzL L) k = cnt L k := by
  induction L with
  | nil => rfl
  | cons p L ih =>
    unfold nzL at ih ⊢
    by_cases e : p.2 = 0
    · rw [List.filter_cons_of_neg (by simp [e]), ih]
      simp only [cnt, e]
      split <;> simp
    · rw [List.filter_cons_of_pos (by simp [e])]
      simp only [cnt, ih]
theorem fin_nz {L : List (κ × Int)} (h : (keys L).Nodup) : Fin (nzL L) := ⟨h.sublist (List.Sublist.map _ List.filter_sublist), fun p hp => of_decide_eq_true (List.mem_filter.mp hp).2⟩
/-- a count is put -/
def put (L : List (κ × Int)) (k : κ) (v : Int) : List (κ × Int) := if (L.any fun p => decide (p.1 = k)) = true then L.map (fun p => if p.1 = k then (p.1, v) else p) else L ++ [(k, v)]
theorem any_keys {L : List (κ × Int)} {k : κ} : (L.any fun p => decide (p.1 = k)) = true ↔ k ∈ keys L := by
  rw [List.any_eq_true]
  constructor
  · rintro ⟨p, hp, e⟩
    exact List.mem_map.mpr ⟨p, hp, of_decide_eq_true e⟩
  · intro h
    obtain ⟨p, hp, e⟩ := List.mem_map.mp h
    exact ⟨p, hp, decide_eq_true e⟩
theorem put_keys {L : List (κ × Int)} {k : κ} {v : Int} : keys (put L k v) = if k ∈ keys L then keys L else keys L ++ [k] := by
  unfold put
  by_cases e : k ∈ keys L
  · rw [if_pos (any_keys.mpr e), if_pos e]
    unfold keys
    rw [List.map_map]
    refine List.map_congr_left fun p _ => ?_
    show (if p.1 = k then (p.1, v) else p).1 = p.1
    split <;> rfl
  · rw [if_neg (fun z => e (any_keys.mp z)), if_neg e]
    unfold keys
    rw [List.map_append]
    rfl
theorem put_nodup {L : List (κ × Int)} {k : κ} {v : Int} (h : (keys L).Nodup) : (keys (put L k v)).Nodup := by
  rw [put_keys]
  split
  · exact h
  · next e =>
    refine List.nodup_append.mpr ⟨h, by simp, fun a ha b hb => ?_⟩
    rw [List.mem_singleton.mp hb]
    intro z
    exact e (z ▸ ha)
theorem put_len {L : List (κ × Int)} {k : κ} {v : Int} : (put L k v).length ≤ L.length + 1 := by
  unfold put
  split <;> simp
theorem put_cnt {L : List (κ × Int)} {k : κ} {v : Int} (h : (keys L).Nodup) (j : κ) : cnt (put L k v) j = if j = k then v else cnt L j := by
  by_cases e : k ∈ keys L
  · unfold put
    rw [if_pos (any_keys.mpr e)]
    induction L with
    | nil => cases e
    | cons p L ih =>
      obtain ⟨h1, h2⟩ := List.nodup_cons.mp (show (p.1 :: keys L).Nodup from h)
      by_cases ek : p.1 = k
      · have same : L.map (fun p => if p.1 = k then (p.1, v) else p) = L := by
          have z : ∀ q ∈ L, (if q.1 = k then (q.1, v) else q) = q := fun q hq => if_neg fun eq => h1 (by rw [ek, ← eq]; exact List.mem_map.mpr ⟨q, hq, rfl⟩)
          rw [List.map_congr_left z, List.map_id']
        rw [List.map_cons, same, if_pos ek]
        simp only [cnt]
        by_cases ej : j = k
        · rw [if_pos (by rw [ek, ej]), if_pos ej, ej, cnt_out (by rw [← ek]; exact h1)]
          omega
        · rw [if_neg (fun z => ej (by rw [← z, ek])), if_neg ej, if_neg (fun z => ej (by rw [← z, ek]))]
      · have e' : k ∈ keys L := by
          rcases List.mem_cons.mp (show k ∈ p.1 :: keys L from e) with z | z
          · exact absurd z.symm ek
          · exact z
        rw [List.map_cons, if_neg ek]
        simp only [cnt]
        rw [ih h2 e']
        by_cases ej : j = k
        · rw [if_pos ej, if_pos ej, if_neg (fun z => ek (z.trans ej))]
          omega
        · rw [if_neg ej, if_neg ej]
  · unfold put
    rw [if_neg (fun z => e (any_keys.mp z)), cnt_append]
    simp only [cnt]
    by_cases ej : j = k
    · rw [if_pos ej, if_pos ej.symm, ej, cnt_out e]
      omega
    · rw [if_neg ej, if_neg (fun z => ej z.symm)]
      omega
theorem put_mem {L : List (κ × Int)} {k : κ} {v : Int} {p : κ × Int} (h : p ∈ put L k v) : p.1 = k ∨ p.1 ∈ keys L := by
  have z : p.1 ∈ keys (put L k v) := List.mem_map.mpr ⟨p, h, rfl⟩
  rw [put_keys] at z
  split at z
  · exact .inr z
  · rcases List.mem_append.mp z with z | z
    · exact .inr z
    · exact .inl (List.mem_singleton.mp z)
end
end Tl

namespace L2
open PySem PySem.Spec PySem.W PyProof.Rows RW9 Tl
theorem val_row (k : List Int) : ∀ L : List (List Int × Int), valV (rowD L) (rk k) = (L.find? fun p => decide (p.1 = k)).map fun p => V.int p.2
  | [] => rfl
  | p :: L => by
    have ih := val_row k L
    by_cases e : p.1 = k
    · rw [show rowD (p :: L) = (rk p.1, V.int p.2) :: rowD L from rfl, valV_pos (show (rk p.1, V.int p.2).1 = rk k by rw [e]), List.find?_cons_of_pos (by simp [e])]
      rfl
    · rw [show rowD (p :: L) = (rk p.1, V.int p.2) :: rowD L from rfl, valV_neg (show ¬ (rk p.1, V.int p.2).1 = rk k from fun h => e (rk_inj h)), List.find?_cons_of_neg (by simp [e])]
      exact ih
theorem find_cnt {L : List (List Int × Int)} (hn : (keys L).Nodup) (k : List Int) : L.find? (fun p => decide (p.1 = k)) = if k ∈ keys L then some (k, cnt L k) else none := by
  cases h : L.find? (fun p => decide (p.1 = k)) with
  | some p =>
    have hp := List.mem_of_find?_eq_some h
    have e : p.1 = k := of_decide_eq_true (List.find?_some (p := fun p : List Int × Int => decide (p.1 = k)) h)
    rw [if_pos (by rw [← e]; exact List.mem_map.mpr ⟨p, hp, rfl⟩), ← e, cnt_in hn hp]
  | none =>
    rw [if_neg]
    intro z
    obtain ⟨p, hp, e⟩ := List.mem_map.mp z
    have := List.find?_eq_none.mp h p hp
    simp [e] at this
theorem get_row {L : List (List Int × Int)} (hn : (keys L).Nodup) (k : List Int) : (valV (rowD L) (rk k)).getD (.int 0) = .int (cnt L k) := by
  rw [val_row, find_cnt hn]
  split
  · rfl
  · next e => rw [cnt_out e]; rfl
theorem get_row_in {L : List (List Int × Int)} (hn : (keys L).Nodup) {k : List Int} (h : k ∈ keys L) : valV (rowD L) (rk k) = some (.int (cnt L k)) := by
  rw [val_row, find_cnt hn, if_pos h]
  rfl
theorem put_row (L : List (List Int × Int)) (k : List Int) (v : Int) : putK (rowD L) (rk k) (V.int v) = rowD (put L k v) := by
  have ha : ((rowD L).any fun kv => decide (kv.1 = rk k)) = L.any fun p => decide (p.1 = k) := by
    unfold rowD
    rw [List.any_map]
    congr 1
    funext p
    show decide (rk p.1 = rk k) = decide (p.1 = k)
    by_cases e : p.1 = k
    · simp [e]
    · rw [decide_eq_false e]
      exact decide_eq_false fun h => e (rk_inj h)
  unfold putK put
  rw [ha]
  split
  · unfold rowD
    rw [List.map_map, List.map_map]
    refine List.map_congr_left fun p _ => ?_
    show (if rk p.1 = rk k then (rk p.1, V.int v) else (rk p.1, V.int p.2)) = _
    by_cases e : p.1 = k
    · rw [if_pos (by rw [e])]
      simp [e]
    · rw [if_neg fun h => e (rk_inj h)]
      simp [e]
  · unfold rowD
    rw [List.map_append]
    rfl
/-- the tuple at b is the row r -/
abbrev RowAt (H : Hp) (b : Addr) (r : List Int) : Prop := H b = some (.tup (r.map V.int))
theorem dget_row {H : Hp} {a b : Addr} {L : List (List Int × Int)} {r : List Int} (h : Rd H a (.dT (rowD L))) (hn : (keys L).Nodup) (hr : RowAt H b r) : ∃ o, DGet H a (.ref b) o ∧ o.getD (.int 0) = .int (cnt L r) :=
  ⟨_, .inr ⟨_, rk r, b, h, rfl, by rw [rk_kV]; exact hr, rfl⟩, get_row hn r⟩
theorem dget_row_in {H : Hp} {a b : Addr} {L : List (List Int × Int)} {r : List Int} (h : Rd H a (.dT (rowD L))) (hn : (keys L).Nodup) (hr : RowAt H b r) (hin : r ∈ keys L) : DGet H a (.ref b) (some (.int (cnt L r))) :=
  .inr ⟨_, rk r, b, h, rfl, by rw [rk_kV]; exact hr, (get_row_in hn hin).symm⟩
theorem dput_row {H : Hp} {a b : Addr} {L : List (List Int × Int)} {r : List Int} {v : Int} (h : H a = some (.dT (rowD L))) (hr : RowAt H b r) (hl : L.length < sizeLine) : DPut H a (.ref b) (.int v) (upd H a (.dT (rowD (put L r v)))) := by
  rw [← put_row]
  exact DPut.t h (by rw [rk_kV]; exact hr) (by rw [List.length_map]; exact hl)
/-- a dict of rows, walked: the i-th key's tuple -/
theorem key_row {H : Hp} {L : List (List Int × Int)} {i : Nat} {k : List L2.Key} {v : V} {q : Addr} (h : (rowD L)[i]? = some (k, v)) (hq : H q = some (.tup (k.map kV))) : ∃ p, L[i]? = some p ∧ RowAt H q p.1 := by
  rw [List.getElem?_map] at h
  obtain ⟨p, hp, e⟩ := Option.map_eq_some_iff.mp h
  have e1 : rk p.1 = k := congrArg Prod.fst e
  exact ⟨p, hp, by unfold RowAt; rw [← rk_kV, e1]; exact hq⟩
end L2

namespace L2
open PySem PySem.Spec PySem.W PyProof.Rows RW9 Tl
/-- what tDcP asks behind its walk -/
def DcGoal (J : It) (o0 : HO) (g : TG) (tt : TT) (tk tv : TE) (vs : List Nat) (σ : L2.St) (H1 : Hp) (D : Addr) (Qd : Hp → Prop) : Prop :=
  ∃ W : Nat → Nat → Hp → Prop, (∃ m, W 0 m (upd H1 D o0)) ∧ ∀ i m H, W i m H →
    (J.stop i H ∧ Qd H) ∨ (J.go i H ∧ ∃ Nx : Hp → Prop, (∀ H', Nx H' → ∃ m', m' < m ∧ W (i + 1) m' H') ∧ ∀ x H', J.yld i H x H' → g x (wipe σ vs) H' fun σ2 H2 => wipe σ2 vs = wipe σ vs ∧ tt σ2 H2 fun b H3 =>
      if b = true then tk σ2 H3 fun y H4 => tv σ2 H4 fun z H5 => ∃ H6, DPut H5 D y z H6 ∧ Nx H6 else Nx H3)
theorem dcP_it {J : It} {n : Nat} {G : Hp → Prop} {Y : Nat → Hp → V → Hp → Prop} (w : Walk J n G Y) {o0 : HO} {g : TG} {tt : TT} {tk tv : TE} {vs : List Nat} {σ : L2.St} {H1 : Hp} {D : Addr} {Qd : Hp → Prop} (Pv : Nat → Hp → Prop) (h0 : Pv 0 (upd H1 D o0)) (hG : ∀ i H, i ≤ n → Pv i H → G H)
    (hs : ∀ i x H H', i < n → Pv i H → Y i H x H' → g x (wipe σ vs) H' fun σ2 H2 => wipe σ2 vs = wipe σ vs ∧ tt σ2 H2 fun b H3 =>
      if b = true then tk σ2 H3 fun y H4 => tv σ2 H4 fun z H5 => ∃ H6, DPut H5 D y z H6 ∧ Pv (i + 1) H6 else Pv (i + 1) H3)
    (hd : ∀ H, Pv n H → Qd H) : DcGoal J o0 g tt tk tv vs σ H1 D Qd := by
  refine ⟨fun i m H => m = n - i ∧ i ≤ n ∧ Pv i H, ⟨n, by simp, Nat.zero_le _, h0⟩, ?_⟩
  rintro i m H ⟨rfl, hi, p⟩
  have q := hG i H hi p
  by_cases hlt : i < n
  · exact .inr ⟨w.goes i H hlt q, Pv (i + 1), fun H' p' => ⟨n - (i + 1), by omega, rfl, hlt, p'⟩, fun x H' y => hs i x H H' hlt p (w.yields i H x H' hlt q y)⟩
  · have e : i = n := by omega
    subst e
    exact .inl ⟨w.stops H q, hd H p⟩
theorem putL_new {L : List (List Int × Int)} {k : List Int} {v : Int} (h : k ∉ keys L) : put L k v = L ++ [(k, v)] := by
  unfold put
  rw [if_neg fun z => h (any_keys.mp z)]
/-- {row: f for row in d if ..}: d a dict of rows -/
theorem dc_rows {L : List (List Int × Int)} {a D : Addr} {od : Obj} {H1 : Hp} (hz : H1 a = some (.frz od (.dT (rowD L)))) (nd : (keys L).Nodup) (hl : L.length ≤ 100000) {g : TG} {tt : TT} {tk tv : TE} {vs : List Nat} {σ : L2.St} {Qd : Hp → Prop} (hD : H1 D = none) (bs : List Int × Int → Bool) (fs : List Int × Int → Int)
    (step : ∀ (p : List Int × Int) (q : Addr) (H2 : Hp) (Q2 : V → V → Hp → Prop) (R : Hp → Prop), p ∈ L → Same H1 H2 → RowAt H2 q p.1 → (bs p = true → ∀ H4, Same H2 H4 → Q2 (.ref q) (.int (fs p)) H4) → (bs p = false → ∀ H3, Same H2 H3 → R H3) →
      g (.ref q) (wipe σ vs) H2 fun σ2 H2' => wipe σ2 vs = wipe σ vs ∧ tt σ2 H2' fun b H3 => if b = true then tk σ2 H3 fun y H4 => tv σ2 H4 fun z H5 => Q2 y z H5 else R H3)
    (hd : ∀ H', Same H1 H' → H' D = some (.dT (rowD ((L.filter bs).map fun p => (p.1, fs p)))) → Qd H') : DcGoal (Itkt a od (rowD L)) (.dT []) g tt tk tv vs σ H1 D Qd := by
  have en : (rowD L).length = L.length := by simp
  refine dcP_it (walk_keysT (kvs := rowD L)) (fun i H' => Same H1 H' ∧ H' D = some (.dT (rowD (((L.take i).filter bs).map fun p => (p.1, fs p))))) ⟨same_upd hD, upd_same⟩ (fun i H' _ p => p.1 _ _ hz) (fun i x H2 H3 hi pv y => ?_) (fun H' pv => ?_)
  · obtain ⟨rfl, k, v, q, hk, rfl, hq⟩ := y
    obtain ⟨p, hp, hr⟩ := key_row hk hq
    have ht : L.take (i + 1) = L.take i ++ [p] := by rw [List.take_add_one, hp]; rfl
    have hnew : p.1 ∉ keys (((L.take i).filter bs).map fun p => (p.1, fs p)) := by
      intro h1
      obtain ⟨p1, hp1, e1⟩ := List.mem_map.mp h1
      obtain ⟨p2, hp2, e2⟩ := List.mem_map.mp hp1
      have hin : p2 ∈ L.take i := (List.mem_filter.mp hp2).1
      have hn2 : (keys (L.take (i + 1))).Nodup := nd.sublist ((List.take_sublist _ _).map _)
      rw [ht, keys, List.map_append] at hn2
      refine (List.nodup_append.mp hn2).2.2 p2.1 (List.mem_map.mpr ⟨p2, hin, rfl⟩) p.1 (by simp) ?_
      rw [← e1, ← e2]
    refine step p q _ _ _ (List.mem_of_getElem? hp) pv.1 hr (fun hb H4 e4 => ?_) (fun hb H3 e3 => ⟨pv.1.trans e3, ?_⟩)
    · have hD4 := e4 _ _ pv.2
      refine ⟨_, dput_row hD4 (e4 _ _ hr) ?_, (pv.1.trans e4).mut hD, ?_⟩
      · rw [List.length_map]
        refine Nat.lt_of_le_of_lt (List.length_filter_le _ _) ?_
        refine Nat.lt_of_le_of_lt (List.length_take_le _ _) ?_
        rw [en] at hi
        exact Nat.lt_of_lt_of_le hi (Nat.le_trans hl (by decide))
      · rw [upd_same, putL_new hnew, ht, List.filter_append, List.map_append]
        simp [hb]
    · rw [e3 _ _ pv.2, ht, List.filter_append, List.map_append]
      simp [hb]
  · have e : L.take (rowD L).length = L := by rw [List.take_of_length_le]; simp
    rw [e] at pv
    exact hd H' pv.1 pv.2
end L2

/-! a class whose __init__ has an empty tuple as the default of its last parameter; calls of a def held by a local name, with a star -/
namespace L2
open PySem PySem.Spec PySem.W PyProof.Rows RW9 Tl
theorem hu8 {A : Around} {k : Nat} (hr : Room k A) : A.units + 8 < cLine := by
  have := hr.un
  omega
/-- an empty tuple of the text -/
def EmptyT (K : PySem.W.Frag) (t : Addr) : Prop := ∃ (o : Obj) (n : Nat), K.lookup t = some o ∧ o.cls = .type "tuple" ∧ o.data = .seq #[] n
theorem EmptyT.seq {K : PySem.W.Frag} {t : Addr} (h : EmptyT K t) (H : Hp) : SqT K H t [] := by
  obtain ⟨o, n, h1, h2, h3⟩ := h
  exact .inr ⟨o, #[], n, h1, h2, h3, by decide, .nil⟩
def TopI (K : PySem.W.Frag) (C : Addr) (qual : Str) (st : Stmt) (ps : List Str) : Prop :=
  ∃ (f : Addr) (fd : FuncData) (t : Addr), FunD K "__init__" qual (defArgs st) (defBody st) (defScope st) [V.ref t] [] f fd ∧ Meth K C "__init__" f ∧ Binds K fd ps [] ∧ EmptyT K t ∧ Binds K fd ps [.ref t]
def MakeI (P : Program) (w : World) (K : PySem.W.Frag) (mg : Str → Option Value) (base : Heap) (C : Addr) (x : Str) (k : Nat) (ps : List Str) (sp : Sp) : Prop :=
  ∃ (f : Addr) (fd : FuncData), Mk K C f ∧ mg x = some (.ref C) ∧ FnOk P w K mg base CX0 k f fd ps sp ∧ Binds K fd ps [] ∧ ∃ t, EmptyT K t ∧ Binds K fd ps [.ref t]
section
variable {P : Program} {w : World} {K : PySem.W.Frag} {mg : Str → Option Value} {base : Heap} {C : Addr} {qual x : Str} {st : Stmt} {ps N : List Str} {k : Nat} {sp : Sp}
theorem mk_init (T : TopI K C qual st ps) (S : FnScope N ps (defScope st)) (len : ∀ vs H Q E, sp vs H Q E → vs.length = ps.length) (hm : PySem.W.makesIn K C = true) (hk : PySem.W.keepIn K (.ref C) = true) (hg : mg x = some (.ref C))
    (hbody : ∀ (f : Addr) (cdv : Value) (A : Around) (outer : List Env) (s : Shared) (H : Hp) (vs : List V) (Q : VK) (E : XK), Room k (A.deeper (envOfC qual (defScope st) s.heap.objs.size f cdv)) → sp vs H Q E →
      ∃ t, PSs (cxOf CX0 P w K mg base N qual (defScope st) f cdv A outer s H E).nox (defBody st) t ∧ t { nx := fun _ H' => Q .non H', rt := Q } (start N vs) H) :
    MakeI P w K mg base C x (k + 1) ps sp := by
  obtain ⟨f, fd, t, F, M, b, b0⟩ := T
  refine ⟨f, fd, ⟨hm, M.at_, M.fn, hk⟩, hg, F.ok S len fun cdv A outer s H vs Q E hr h => ?_, b, t, b0⟩
  obtain ⟨tm, h1, h2⟩ := hbody f cdv A outer s H vs Q E hr h
  exact ⟨tm, h1.nox, h2⟩
end
section
variable {X : Cx} {C : Addr} {x : Str} {k : Nat} {ps : List Str} {sp : Sp} {p pos : Pos} {e : Expr} {es : List Expr} {t : TA}
theorem pe_makeI (D : MakeI X.prog X.w X.K X.mg X.base C x k ps sp) (hr : Room (k + 1) X.A) (hg : Gl X x) (ha : PA X (e :: es) t) (hdb : (x == ("__debug__" : Str)) = false := by decide)
    (he : starEach (e :: es) X.env = (false, eval e X.env) :: starEach es X.env := by rfl) (hpl : (backTo pos (starEach es X.env)).any (·.1) = false := by rfl) : PE X (.Call (.Name x p) (e :: es) [] pos) (tMake C sp [] E0 t) := by
  obtain ⟨f, fd, M, g, F, b, _⟩ := D
  exact pe_make M F hr hg g b .nil pass0 ha hdb he hpl
/-- C() -/
def tMake0 (K : PySem.W.Frag) (C : Addr) (sp : Sp) : TE := fun σ H Q => ∀ t, EmptyT K t → tMake C sp [.ref t] E0 tNil σ H Q
theorem pe_makeI0 (D : MakeI X.prog X.w X.K X.mg X.base C x k ps sp) (hr : Room (k + 1) X.A) (hg : Gl X x) (hdb : (x == ("__debug__" : Str)) = false := by decide) : PE X (.Call (.Name x p) [] [] pos) (tMake0 X.K C sp) := by
  obtain ⟨f, fd, M, g, F, _, t, ht, b⟩ := D
  refine ⟨fun pins s σ H Q I h => ?_⟩
  exact (pe_make0 M F hr hg g b (.cons (show RelV (.ref t) (.ref t) from rfl) .nil) pass0 hdb).run pins s σ H Q I (h t ht)
end
end L2

namespace L2
open PySem PySem.Spec PySem.W PyProof.Rows RW9 Tl
/-- the def at f keeps sp, called with a star or not -/
def HeldR (P : Program) (w : World) (K : PySem.W.Frag) (mg : Str → Option Value) (base : Heap) (k : Nat) (f : Addr) (sp : Sp) : Prop := FnR P w K mg base CX0 k f sp ∧ PySem.W.keepIn K (.ref f) = true
section
variable {X : Cx} {k i : Nat} {x : Str} {p pos : Pos} {e : Expr} {es : List Expr} {t : TA}
def tCallSL (P : Program) (w : World) (K : PySem.W.Frag) (mg : Str → Option Value) (base : Heap) (k i : Nat) (t : TA) : TE := fun σ H Q => ∃ f sp, σ[i]? = some (some (.ref f)) ∧ HeldR P w K mg base k f sp ∧ t σ H fun vs H1 => sp vs H1 Q E0
/-- x(e, .., *y), x a local name that holds a def -/
theorem pe_callSL (hr : Room k X.A) (hN : X.N[i]? = some x) (hv : Vis X.env.scope x) (ha : PA X (e :: es) t)
    (hdb : (x == ("__debug__" : Str)) = false := by decide) (hcd : (x == ("__classdict__" : Str)) = false := by decide)
    (he : starEach (e :: es) X.env = (false, eval e X.env) :: starEach es X.env := by rfl) (hst : (backTo pos (starEach es X.env)).any (·.1) = true := by rfl) :
    PE X (.Call (.Name x p) (e :: es) [] pos) (tCallSL X.prog X.w X.K X.mg X.base k i t) := by
  refine ⟨fun pins s σ H Q I h => ?_⟩
  obtain ⟨f, sp, hs, ⟨F, hk⟩, ht⟩ := h
  refine wpAny_Call_Name_kw (thn ((pe_var (pos := p) hN hv hdb hcd).run pins s σ H (fun v H1 => v = .ref f ∧ H1 = H) I ⟨.ref f, hs, rfl, rfl⟩) fun u s1 ⟨v, H1, I1, r1, q1⟩ => ?_)
  obtain ⟨rfl, rfl⟩ := q1
  cases r1
  refine PySem.W.callWith_S2 (h₀ := X.base) I.ok.mod.kin hk (thn (ha.run pos pins s1 σ _ _ I1 ht) fun us s2 ⟨vs, H2, I2, r, q⟩ => ⟨I2.kIn, ?_⟩) he hst
  exact wpAny_call (run_fnR F hr pass0 I2 r q)
end
end L2

namespace L2
open PySem PySem.Spec PyProof.Rows
section
variable {J : It} {n : Nat} {G : Hp → Prop} {Y : Nat → Hp → V → Hp → Prop} {K : PySem.W.Frag}
/-- two clauses, the inner one over a thing of the turn; immutable data told ahead -/
theorem lc2_datW (w : Walk J n G Y) {wi1 : TI} {g g1 : TG} {te : TE} {vs vs1 : List Nat} {σ : L2.St} {H1 : Hp} {D : Addr} {Qd : Hp → Prop} (hD : H1 D = none)
    (hG : ∀ H, Same H1 H → G H) (ds : Nat → List PyData) (hn : ((List.range n).map ds).flatten.length ≤ 100000) (him : ∀ i, i < n → immAll (ds i) = true)
    (step : ∀ i x H H' (Q : L2.St → Hp → Prop), i < n → Same H1 H → Y i H x H' →
      (∀ σ2 H2, Same H H2 → wipe σ2 vs = wipe σ vs → (∀ R : It → Hp → Prop,
        (∀ (J1 : It) (G1 : Hp → Prop) (Y1 : Nat → Hp → V → Hp → Prop) H3, Same H2 H3 → Walk J1 (ds i).length G1 Y1 → (∀ H, Same H3 H → G1 H) → (0 < (ds i).length → ∀ H, Same H1 H → G1 H) →
          (∀ j y H4 H4' (Q' : VK), j < (ds i).length → Same H1 H4 → ST K H3 H4 → Y1 j H4 y H4' → (∀ z H5 d, Same H4 H5 → (ds i)[j]? = some d → Da K H5 z d → Q' z H5) → g1 y (wipe σ2 vs1) H4' fun σ3 H6 => wipe σ3 vs1 = wipe σ2 vs1 ∧ te σ3 H6 Q') → R J1 H3) → wi1 σ2 H2 R) → Q σ2 H2) → g x (wipe σ vs) H' Q)
    (hd : ∀ H acc, Same H1 H → H D = some (.lst acc) → DaAll K H acc ((List.range n).map ds).flatten → Qd H) :
    ∃ W : Nat → Nat → Hp → Prop, (∃ m, W 0 m (upd H1 D (.lst []))) ∧ ∀ i m H, W i m H →
      (J.stop i H ∧ Qd H) ∨ (J.go i H ∧ ∃ Nx : Hp → Prop, (∀ H', Nx H' → ∃ m', m' < m ∧ W (i + 1) m' H') ∧ ∀ x H', J.yld i H x H' → g x (wipe σ vs) H' fun σ2 H2 => wipe σ2 vs = wipe σ vs ∧ tYes σ2 H2 fun b H3 =>
        if b = true then wi1 σ2 H3 fun J1 H4 => ∃ W1 : Nat → Nat → Hp → Prop, (∃ m, W1 0 m H4) ∧ ∀ j k H, W1 j k H →
          (J1.stop j H ∧ Nx H) ∨ (J1.go j H ∧ ∃ Nx1 : Hp → Prop, (∀ H', Nx1 H' → ∃ k', k' < k ∧ W1 (j + 1) k' H') ∧ ∀ x H', J1.yld j H x H' → g1 x (wipe σ2 vs1) H' fun σ3 H5 => wipe σ3 vs1 = wipe σ2 vs1 ∧ tYes σ3 H5 fun b H6 =>
            if b = true then te σ3 H6 fun y H7 => ∃ acc, H7 D = some (.lst acc) ∧ acc.length < sizeLine ∧ Nx1 (upd H7 D (.lst (acc ++ [y]))) else Nx1 H6)
        else Nx H3) := by
  have fsnoc : ∀ i, ((List.range (i + 1)).map ds).flatten = ((List.range i).map ds).flatten ++ ds i := by
    intro i
    rw [List.range_succ, List.map_append, List.flatten_append]
    simp
  have fimm : ∀ i, i ≤ n → immAll ((List.range i).map ds).flatten = true := by
    intro i
    induction i with
    | zero => intro _; rfl
    | succ i ih =>
      intro h
      rw [fsnoc]
      exact immAll_append (ih (by omega)) (him i (by omega))
  have fle : ∀ k i, i + k = n → ((List.range i).map ds).flatten.length ≤ ((List.range n).map ds).flatten.length := by
    intro k
    induction k with
    | zero => intro i e; rw [show i = n by omega]; exact Nat.le_refl _
    | succ k ih =>
      intro i e
      have := ih (i + 1) (by omega)
      rw [fsnoc i, List.length_append] at this
      omega
  refine ⟨fun i m H => m = n - i ∧ i ≤ n ∧ Same H1 H ∧ ∃ acc, H D = some (.lst acc) ∧ DaAll K H acc ((List.range i).map ds).flatten, ⟨n, by simp, Nat.zero_le _, same_upd hD, [], upd_same, .nil⟩, ?_⟩
  rintro i m H ⟨rfl, hi, p1, acc, p2, p3⟩
  by_cases hlt : i < n
  · refine .inr ⟨w.goes i H hlt (hG H p1), fun H' => Same H1 H' ∧ ∃ acc, H' D = some (.lst acc) ∧ DaAll K H' acc ((List.range (i + 1)).map ds).flatten, fun H' ⟨q1, q2⟩ => ⟨n - (i + 1), by omega, rfl, hlt, q1, q2⟩, fun x H' y => ?_⟩
    refine step i x H H' _ hlt p1 (w.yields i H x H' hlt (hG H p1) y) fun σ2 H2 e2 ws hin => ?_
    refine ⟨ws, ?_⟩
    show wi1 σ2 H2 _
    refine hin _ fun J1 G1 Y1 H2a e2a w1 hG1 hG2 el => ?_
    refine ⟨fun j k H => k = (ds i).length - j ∧ j ≤ (ds i).length ∧ Same H1 H ∧ ((j = 0 → Same H2a H) ∧ ST K H2a H) ∧ ∃ acc, H D = some (.lst acc) ∧ DaAll K H acc (((List.range i).map ds).flatten ++ (ds i).take j), ⟨(ds i).length, by simp, Nat.zero_le _, (p1.trans e2).trans e2a, ⟨fun _ => Same.refl _, ST.refl _⟩, acc, e2a _ _ (e2 _ _ p2), ?_⟩, ?_⟩
    · rw [List.take_zero, List.append_nil]
      exact Da.sameAll (e2.trans e2a) _ _ p3
    · rintro j k H3 ⟨rfl, hj, q1, qb, acc3, q2, q3⟩
      by_cases hjl : j < (ds i).length
      · refine .inr ⟨w1.goes j H3 hjl (hG2 (by omega) H3 q1), fun H' => Same H1 H' ∧ ST K H2a H' ∧ ∃ acc, H' D = some (.lst acc) ∧ DaAll K H' acc (((List.range i).map ds).flatten ++ (ds i).take (j + 1)), fun H' ⟨r1, rs, r2⟩ => ⟨(ds i).length - (j + 1), by omega, rfl, hjl, r1, ⟨fun z => absurd z (by omega), rs⟩, r2⟩, fun x3 H3' y3 => ?_⟩
        refine el j x3 H3 H3' _ hjl q1 qb.2 (w1.yields j H3 x3 H3' hjl (hG2 (by omega) H3 q1) y3) fun z H4 d e4 hd4 hz => ?_
        have e5 : H4 D = some (.lst acc3) := e4 _ _ q2
        have st : ST K H4 (upd H4 D (.lst (acc3 ++ [z]))) := st_upd e5 True.intro
        refine ⟨acc3, e5, ?_, (q1.trans e4).mut hD, (qb.2.trans e4.st).trans st, _, upd_same, ?_⟩
        · have l3 := q3.length
          rw [List.length_append, List.length_take] at l3
          have hle := fle (n - (i + 1)) (i + 1) (by omega)
          rw [fsnoc i, List.length_append] at hle
          refine Nat.lt_of_lt_of_le ?_ (sz1000' hn)
          have : min j (ds i).length ≤ j := Nat.min_le_left _ _
          omega
        · rw [List.take_add_one, hd4, ← List.append_assoc]
          exact DaAll.snoc (Da.st st _ _ (immAll_at (him i hlt) hd4) hz) (Da.stAll (e4.st.trans st) _ _ (immAll_append (fimm i hi) (immAll_take j (him i hlt))) q3)
      · have ej : j = (ds i).length := by omega
        subst ej
        refine .inl ⟨w1.stops H3 (if h0 : (ds i).length = 0 then hG1 H3 (qb.1 h0) else hG2 (by omega) H3 q1), q1, acc3, q2, ?_⟩
        rw [fsnoc]
        rw [List.take_length] at q3
        exact q3
  · have e : i = n := by omega
    subst e
    exact .inl ⟨w.stops H (hG H p1), hd H acc p1 p2 p3⟩
end
end L2

/-! defs with a star parameter, by name; a module's dict read by a text -/
namespace L2
open PySem PySem.Spec PySem.W PyProof.Rows
/-- the def x keeps sp, called by position -/
def DefR (P : Program) (w : World) (K : PySem.W.Frag) (mg : Str → Option Value) (base : Heap) (x : Str) (k : Nat) (sp : Sp) : Prop := ∃ f, FnR P w K mg base CX0 k f sp ∧ mg x = some (.ref f) ∧ PySem.W.keepIn K (.ref f) = true
def TopS (K : PySem.W.Frag) (mg : Str → Option Value) (x : Str) (st : Stmt) (ps : List Str) (pv : Str) : Prop :=
  ∃ (f : Addr) (fd : FuncData), Fun K x x st f fd ∧ mg x = some (.ref f) ∧ ∀ us rest : List Value, us.length = ps.length → bindArgs fd ⟨us ++ rest, []⟩ = (newTuple rest >>= fun t => pure (ps.zip us ++ [(pv, t)]))
section
variable {P : Program} {w : World} {K : PySem.W.Frag} {mg : Str → Option Value} {base : Heap} {x pv : Str} {st : Stmt} {ps N : List Str} {k : Nat} {sp : Sp}
theorem mk_defS (T : TopS K mg x st ps pv) (S : FnScope N (ps ++ [pv]) (defScope st))
    (hbody : ∀ (f : Addr) (cdv : Value) (A : Around) (outer : List Env) (s : Shared) (H : Hp) (vs : List V) (Q : VK) (E : XK), Room k (A.deeper (envOfC x (defScope st) s.heap.objs.size f cdv)) → sp vs H Q E →
      ∃ t, PSs (cxOf CX0 P w K mg base N x (defScope st) f cdv A outer s H E).nox (defBody st) t ∧ t { nx := fun _ H' => Q .non H', rt := Q } (start N vs) H) :
    DefR P w K mg base x (k + 1) (fun vs H Q E => ∃ ws rest, vs = ws ++ rest ∧ ws.length = ps.length ∧ rest.length ≤ sizeLine ∧ ∀ p, H p = Option.none → sp (ws ++ [V.ref p]) (upd H p (.tup rest)) Q E) := by
  obtain ⟨f, fd, F, g, hb⟩ := T
  obtain ⟨oc, od, kV, doc, pm, an, cdv, ct, osl, rfl, lk, hcd⟩ := F.ex
  refine ⟨f, StX.fn_star lk hcd S StX.cxUp_none hb fun A outer s H vs Q E hr hsp => ?_, g, F.kp⟩
  obtain ⟨t, h, q⟩ := hbody f cdv A outer s H vs Q E hr hsp
  exact ⟨t, h.nox, q⟩
end
section
variable {X : Cx} {x : Str} {k : Nat} {sp : Sp} {p pos : Pos} {e : Expr} {es : List Expr} {t : TA}
theorem pe_defR (D : DefR X.prog X.w X.K X.mg X.base x k sp) (hr : Room k X.A) (hg : Gl X x) (ha : PA X (e :: es) t) (hdb : (x == ("__debug__" : Str)) = false := by decide)
    (he : starEach (e :: es) X.env = (false, eval e X.env) :: starEach es X.env := by rfl) (hpl : (backTo pos (starEach es X.env)).any (·.1) = false := by rfl) :
    PE X (.Call (.Name x p) (e :: es) [] pos) (tCall sp [] E0 t) := by
  obtain ⟨f, F, g, kp⟩ := D
  refine ⟨fun pins s σ H Q I h => ?_⟩
  refine wpAny_Call_Name_kw (ld_glob I hg g ?_ hdb)
  refine PySem.W.callWith_K (h₀ := X.base) I.ok.mod.kin kp (thn (ha.run pos pins s σ H _ I h) fun us s1 ⟨vs, H1, I1, r, q⟩ => ⟨I1.kIn, ?_⟩) he hpl
  have q' : sp (vs ++ []) H1 Q E0 := q
  rw [List.append_nil] at q'
  exact wpAny_call (run_fnR F hr pass0 I1 r q')
end
/-- a def's promise, by its address -/
theorem Def.held {P : Program} {w : World} {K : PySem.W.Frag} {mg : Str → Option Value} {base : Heap} {x : Str} {k : Nat} {ps : List Str} {sp : Sp} (D : Def P w K mg base x k ps sp) : ∃ f, mg x = some (.ref f) ∧ HeldR P w K mg base k f sp := by
  obtain ⟨f, fd, F, g, kp, b, _⟩ := D
  refine ⟨f, g, (F.raw b .nil).imp fun vs H Q E h => ?_, kp⟩
  rw [List.append_nil]
  exact h
end L2

namespace L2
open PySem PySem.Spec PySem.W PyProof.Rows RW9
/-- sorted(l), l a list of rows -/
def rSortRowsL (K : PySem.W.Frag) : List V → Hp → VK → Prop := fun vs H Q => ∃ (a : Addr) (as : List Addr) (ks : List (List Int)), vs = [.ref a] ∧ SqL K H a (as.map V.ref) ∧ Paired (fun (t : Addr) (r : List Int) => H t = some (.tup (r.map V.int))) as ks ∧ (2 ≤ ks.length → [] ∉ ks) ∧
  ∀ (p : Addr) (ts : List Addr) (M : List (List Int)), H p = none → M.Perm ks → M.Pairwise (fun p q => ltR q p = false) → Paired (fun (t : Addr) (r : List Int) => H t = some (.tup (r.map V.int))) ts M → Q (.ref p) (upd H p (.lst (ts.map V.ref)))
theorem vals_refs_eq : ∀ {as : List Addr} {us : List Value}, Vals (as.map V.ref) us → us = as.map Value.ref
  | [], _, h => by cases h; rfl
  | a :: as, _, h => by
    cases h with
    | cons r t =>
      rw [vals_refs_eq t, List.map_cons]
      congr 1
theorem cr_sortedRowsL {X : Cx} (hc : X.calm = true) (hu : X.A.units + 8 < cLine) : CallR X (.builtin "sorted") (rSortRowsL X.K) := by
  intro pins s σ H xs us Q I r h
  obtain ⟨a, as, ks, rfl, ha, hrow, hne, q⟩ := h
  obtain rfl := Vals.ref1 r
  obtain ⟨its, rv, hl, hz⟩ := I.list ha
  have asl : as.length = ks.length := hrow.length
  obtain rfl := vals_refs_eq rv
  obtain ⟨kf, hkf⟩ : ∃ kf : Addr → List Int, as.map kf = ks ∧ ∀ b ∈ as, H b = some (.tup ((kf b).map V.int)) := by
    have : ∀ b : Addr, ∃ r : List Int, ∀ r' : List Int, H b = some (.tup (r'.map V.int)) → r' = r := by
      intro b
      by_cases hb : ∃ r' : List Int, H b = some (.tup (r'.map V.int))
      · obtain ⟨r', h2⟩ := hb
        refine ⟨r', fun r h4 => ?_⟩
        have e : r'.map V.int = r.map V.int := by
          rw [h2] at h4
          injection h4 with h4
          injection h4 with h4
        exact ((List.map_inj_right (f := V.int) (fun x y e => by injection e)).mp e).symm
      · exact ⟨[], fun r' h => absurd ⟨r', h⟩ hb⟩
    obtain ⟨f, hf⟩ := Classical.skolem.mp this
    have z : ∀ {as : List Addr} {ks : List (List Int)}, Paired (fun (t : Addr) (r : List Int) => H t = some (.tup (r.map V.int))) as ks → as.map f = ks ∧ ∀ b ∈ as, H b = some (.tup ((f b).map V.int)) := by
      intro as ks h
      induction h with
      | nil => exact ⟨rfl, fun b hb => nomatch hb⟩
      | cons h t ih =>
        have e := hf _ _ h
        refine ⟨by rw [List.map_cons, ih.1, ← e], fun b hb => ?_⟩
        rcases List.mem_cons.mp hb with rfl | hb
        · rw [← e]
          exact h
        · exact ih.2 b hb
    exact ⟨f, z hrow⟩
  obtain ⟨eL, kIn⟩ := hkf
  let enc : Value → PyData := fun v => match v with
    | .ref b => encR (kf b)
    | _ => encR []
  have lenV : (as.map Value.ref).length ≤ sizeLine := by
    rw [List.length_map]
    rw [List.length_map] at hz
    exact hz
  refine Calls.call_function_entry PyProof.Rows.kind_sorted PyProof.Rows.plain_sorted PyProof.Rows.entry_sorted (PyProof.Rows.args_sorted1 _) ?_
  unfold Builtin.«sorted»
  refine wpAny_bind (m := checkCount "sorted" 1 1 _) (wpAny_pure ?_)
  refine wpAny_bind (PyProof.Rows.collect_list hl.isList ?_ lenV)
  generalize hh' : (s.heap.push (seqObj "list" #[] 0)).update s.heap.objs.size (Obj.mapSeq (· ++ (as.map Value.ref).toArray)) = h'
  have hk : ∀ b o, s.heap.get? b = some o → h'.get? b = some o := fun b o e => by
    have hlt := Heap.lt_size e
    rw [← hh', Heap.get?_update_ne _ _ _ _ (Nat.ne_of_lt hlt)]
    exact Heap.get?_push_of_some _ e
  have I1 : Inv X pins σ H { s with heap := h' } := I.kept (t' := s.toks) hk
  refine wpAny_bind (wpAny_newList ?_ lenV)
  have hob : (h'.push (seqObj "list" (as.map Value.ref).toArray 0)).get? h'.objs.size = some (seqObj "list" (as.map Value.ref).toArray 0) := Heap.get?_push_size _ rfl
  have ka : ∀ b o, h'.get? b = some o → (h'.push (seqObj "list" (as.map Value.ref).toArray 0)).get? b = some o := fun b o e => Heap.get?_push_of_some _ e
  have off : ∀ b o, h'.get? b = some o → b ≠ h'.objs.size := fun b o e => Nat.ne_of_lt (Heap.lt_size e)
  show wpAny _ _ _ _ _ { s with heap := h'.push (seqObj "list" (as.map Value.ref).toArray 0) }
  generalize hh2 : h'.push (seqObj "list" (as.map Value.ref).toArray 0) = h2 at hob ka ⊢
  have er : ∀ h2' : Heap, (∀ b o, b ≠ h'.objs.size → h2.get? b = some o → h2'.get? b = some o) → ∀ v ∈ as.map Value.ref, ∃ ws, Reads h2' v (enc v) ws := by
    intro h2' keep v hv
    obtain ⟨b, hb, rfl⟩ := List.mem_map.mp hv
    obtain ⟨its, hI, ob, hob', hcb, nb, hdb⟩ := row_ints I1 (kIn b hb)
    exact reads_row (h := h2') hI ⟨ob, keep _ _ (off _ _ hob') (ka _ _ hob'), hcb, nb, hdb⟩
  refine wpAny_bind (wpAny_holding (wpAny_call_entry PyProof.Rows.slot_list_sort ⟨_, hob, rfl⟩ PyProof.Rows.entry_list_sort
    (SrtO.list_sort_ord (s := { s with heap := h2 }) (swo_data enc) hob lenV (fun h2l => sortable (s := { s with heap := h2 }) h2l er (fun v hv u hu' => ?_) (fun v hv => ?_) fun v hv => ?_) fun out o1 o2 => ⟨_, rfl, ?_⟩) (PyProof.Rows.args_list_sort _)))
  · obtain ⟨b, hb, rfl⟩ := List.mem_map.mp hv
    obtain ⟨c, hc', rfl⟩ := List.mem_map.mp hu'
    exact encR_alike _ _
  · obtain ⟨b, hb, rfl⟩ := List.mem_map.mp hv
    show ∃ x r, encR (kf b) = .tuple (x :: r)
    have ne : kf b ≠ [] := fun e => hne (by rw [← asl]; rwa [List.length_map] at h2l) (by
      rw [← eL, ← e]
      exact List.mem_map.mpr ⟨b, hb, rfl⟩)
    cases e : kf b with
    | nil => exact absurd e ne
    | cons x r => exact ⟨_, _, rfl⟩
  · obtain ⟨b, hb, rfl⟩ := List.mem_map.mp hv
    show X.A.in1.in1.units + (encR (kf b)).depth < cLine
    have e1 : X.A.in1.in1.units = X.A.units + 2 := rfl
    have e2 : (encR (kf b)).depth ≤ 4 := by
      simp [PyData.depth, depth_ints]
    omega
  · refine wpAny_pure ?_
    have inV : ∀ v ∈ out, ∃ b ∈ as, v = Value.ref b := fun v hv => by
      obtain ⟨b, hb, e⟩ := List.mem_map.mp (o2.perm.mem_iff.mp hv)
      exact ⟨b, hb, e.symm⟩
    obtain ⟨ts, ets⟩ : ∃ ts : List Addr, out = ts.map Value.ref := ⟨out.map adO, ref_map fun v hv => by
      obtain ⟨b, _, e⟩ := inV v hv
      exact ⟨b, e⟩⟩
    subst ets
    have tsIn : ∀ b ∈ ts, b ∈ as := fun b hb => by
      obtain ⟨c, hc', e⟩ := inV (.ref b) (List.mem_map.mpr ⟨b, hb, rfl⟩)
      cases e
      exact hc'
    have tperm : ts.Perm as := by
      have e := o2.perm.map adO
      rwa [ad_map, ad_map] at e
    have M1 : (ts.map kf).Perm ks := by
      rw [← eL]
      exact tperm.map _
    have M2 : (ts.map kf).Pairwise (fun p q => ltR q p = false) := by
      have e : (ts.map Value.ref).Pairwise (fun v u => dataLt (enc u) (enc v) = false) := o1
      rw [List.pairwise_map] at e ⊢
      refine e.imp fun {x y} hxy => ?_
      have e2 : dataLt (encR (kf y)) (encR (kf x)) = false := hxy
      rwa [encR_lt] at e2
    obtain ⟨eF, heF⟩ := PyProof.Rows.sortedHeap_at (vs := as.map Value.ref) (out := (ts.map Value.ref).toArray) hob
    have kF : ∀ b oo, h'.get? b = some oo → (sortedHeap h2 h'.objs.size (as.map Value.ref) (ts.map Value.ref).toArray).get? b = some oo := fun b oo e => (PyProof.Rows.sortedHeap_old (off _ _ e) (Heap.lt_size (ka _ _ e))).trans (ka _ _ e)
    refine ⟨.ref h'.objs.size, rfl, .ref h'.objs.size, upd H h'.objs.size (.lst (ts.map V.ref)), I1.laid (t' := s.toks) kF (Nat.le_refl _) ⟨by rw [List.length_map, tperm.length_eq]; rw [List.length_map] at lenV; omega, ts.map Value.ref, eF, LiI.vals_refs ts, heF⟩, rfl, q _ ts _ (I1.hok.fresh (Nat.le_refl _)) M1 M2 (paired_map fun b hb => kIn b (tsIn b hb))⟩
end L2

/-! data as keys; data sorted; data looked for in tuples -/
namespace NSet
open PySem PySem.Spec PySem.W PyProof.Rows L2 RW9
mutual
def kOf : PyData → NestedKey
  | .none => .none
  | .bool b => .num (if b = true then 1 else 0)
  | .int i => .num i
  | .str x => .text x
  | .tuple ds => .tup (kOfs ds)
  | .list _ => .none
  | .dict _ => .none
def kOfs : List PyData → List NestedKey
  | [] => []
  | d :: ds => kOf d :: kOfs ds
end
mutual
/-- ints, texts, None and tuples of them -/
def keyed : PyData → Bool
  | .none => true
  | .bool _ => false
  | .int _ => true
  | .str _ => true
  | .tuple ds => keyedAll ds
  | .list _ => false
  | .dict _ => false
def keyedAll : List PyData → Bool
  | [] => true
  | d :: ds => keyed d && keyedAll ds
end
mutual
theorem keyed_imm : ∀ d : PyData, keyed d = true → imm d = true
  | .none, _ => rfl
  | .bool _, h => by cases h
  | .int _, _ => rfl
  | .str _, _ => rfl
  | .tuple ds, h => keyed_immAll ds h
  | .list _, h => by cases h
  | .dict _, h => by cases h
theorem keyed_immAll : ∀ ds : List PyData, keyedAll ds = true → immAll ds = true
  | [], _ => rfl
  | d :: ds, h => by
    have h' : (keyed d && keyedAll ds) = true := h
    rw [Bool.and_eq_true] at h'
    show (imm d && immAll ds) = true
    rw [keyed_imm d h'.1, keyed_immAll ds h'.2]
    rfl
end
mutual
theorem kOf_inj : ∀ d e : PyData, keyed d = true → keyed e = true → kOf d = kOf e → d = e
  | .none, e, _, he, h => by
    cases e with
    | none => rfl
    | bool b => cases he
    | int i => simp [kOf] at h
    | str x => simp [kOf] at h
    | tuple ds => simp [kOf] at h
    | list ds => cases he
    | dict ds => cases he
  | .bool _, _, hd, _, _ => by cases hd
  | .int i, e, _, he, h => by
    cases e with
    | none => simp [kOf] at h
    | bool b => cases he
    | int j =>
      simp [kOf] at h
      rw [h]
    | str x => simp [kOf] at h
    | tuple ds => simp [kOf] at h
    | list ds => cases he
    | dict ds => cases he
  | .str x, e, _, he, h => by
    cases e with
    | none => simp [kOf] at h
    | bool b => cases he
    | int j => simp [kOf] at h
    | str y =>
      simp [kOf] at h
      rw [h]
    | tuple ds => simp [kOf] at h
    | list ds => cases he
    | dict ds => cases he
  | .tuple ds, e, hd, he, h => by
    cases e with
    | none => simp [kOf] at h
    | bool b => cases he
    | int j => simp [kOf] at h
    | str x => simp [kOf] at h
    | tuple es =>
      simp [kOf] at h
      rw [kOfs_inj ds es hd he h]
    | list ds => cases he
    | dict ds => cases he
  | .list _, _, hd, _, _ => by cases hd
  | .dict _, _, hd, _, _ => by cases hd
theorem kOfs_inj : ∀ ds es : List PyData, keyedAll ds = true → keyedAll es = true → kOfs ds = kOfs es → ds = es
  | [], [], _, _, _ => rfl
  | [], e :: es, _, _, h => by simp [kOfs] at h
  | d :: ds, [], _, _, h => by simp [kOfs] at h
  | d :: ds, e :: es, hd, he, h => by
    have hd' : (keyed d && keyedAll ds) = true := hd
    have he' : (keyed e && keyedAll es) = true := he
    rw [Bool.and_eq_true] at hd' he'
    simp only [kOfs, List.cons.injEq] at h
    rw [kOf_inj d e hd'.1 he'.1 h.1, kOfs_inj ds es hd'.2 he'.2 h.2]
end
mutual
theorem imm_plain : ∀ d : PyData, imm d = true → d.plain = true
  | .none, _ => rfl
  | .bool _, _ => rfl
  | .int _, _ => rfl
  | .str _, _ => rfl
  | .tuple ds, h => by
    have := imm_plainAll ds h
    simpa [PyData.plain] using this
  | .list _, h => by cases h
  | .dict _, h => by cases h
theorem imm_plainAll : ∀ ds : List PyData, immAll ds = true → PyData.plainAll ds = true
  | [], _ => rfl
  | d :: ds, h => by
    have h' : (imm d && immAll ds) = true := h
    rw [Bool.and_eq_true] at h'
    rw [PyData.plainAll, imm_plain d h'.1, imm_plainAll ds h'.2]
    rfl
end
section
variable {X : Cx}
mutual
theorem nest_of {pins : List (Addr × Obj)} {σ : L2.St} {H : Hp} {s : Shared} (I : Inv X pins σ H s) : ∀ (d : PyData) (v : V) (u : Value), Da X.K H v d → imm d = true → RelV v u → NestedIs s.heap (kOf d) u
  | .none, v, u, h, _, r => by
    cases h
    cases r
    exact .none
  | .bool b, v, u, h, _, r => by
    cases h
    cases r
    exact .bool rfl
  | .int i, v, u, h, _, r => by
    cases h
    obtain ⟨t, rfl⟩ := r
    exact .int _ _
  | .str x, v, u, h, _, r => by
    cases h
    obtain ⟨t, rfl⟩ := r
    exact .text _ _
  | .tuple ds, v, u, h, hi, r => by
    cases h with
    | tup hs ha =>
      cases r
      obtain ⟨its, rv, ⟨o, ho, hc, n, hd⟩, _⟩ := I.tuple (SqT.of hs)
      exact .tup ho hc hd (by simpa using nest_all I ds _ its ha hi rv)
  | .list _, _, _, _, hi, _ => by cases hi
  | .dict _, _, _, _, hi, _ => by cases hi
theorem nest_all {pins : List (Addr × Obj)} {σ : L2.St} {H : Hp} {s : Shared} (I : Inv X pins σ H s) : ∀ (ds : List PyData) (vs : List V) (us : List Value), DaAll X.K H vs ds → immAll ds = true → Vals vs us → NestedAll s.heap (kOfs ds) us
  | [], vs, us, h, _, r => by
    cases h
    cases r
    exact .nil
  | d :: ds, vs, us, h, hi, r => by
    have hi' : (imm d && immAll ds) = true := hi
    rw [Bool.and_eq_true] at hi'
    cases h with
    | cons h1 h2 =>
      cases r with
      | cons r1 r2 => exact .cons (nest_of I d _ _ h1 hi'.1 r1) (nest_all I ds _ _ h2 hi'.2 r2)
end
end
/-! ### tuples: in, index -/
section
variable {X : Cx}
/-- x in t, t a tuple of data -/
def rInTD (K : PySem.W.Frag) : R2 := fun x y H Q => ∃ d ds, Da K H x d ∧ Da K H y (.tuple ds) ∧ imm d = true ∧ immAll ds = true ∧ d.depth ≤ 16 ∧ Q (.bl (ds.any fun z => PyData.eqv z d)) H
theorem op_inTD (hu : X.A.units + 65 < cLine) : OpR X (compareOp .In) (rInTD X.K) := by
  intro pins s σ H x y v u Q I rx ry h
  obtain ⟨d, ds, hd, he, sd, se, dp, q⟩ := h
  obtain ⟨as, r1⟩ := Dp.reads I d x v (Da.dp _ _ hd) rx
  obtain ⟨bs, r2⟩ := Dp.reads I (.tuple ds) y u (Da.dp _ _ he) ry
  exact SeqAt.in_tuple_data r2 r1 (imm_plainAll ds se) (imm_plain d sd) (by have := Nat.min_le_right (PyData.depthAll ds) d.depth; omega) ⟨.bl _, H, I, rfl, q⟩
/-- t.index(x): the first place of an equal one -/
def rIndexTD (K : PySem.W.Frag) : V → List V → Hp → VK → Prop := fun x xs H Q => ∃ (y : V) (d : PyData) (ds : List PyData) (j : Nat) (z : PyData), xs = [y] ∧ Da K H x (.tuple ds) ∧ Da K H y d ∧ immAll ds = true ∧ imm d = true ∧ d.depth ≤ 16 ∧
  ds[j]? = some z ∧ PyData.eqv z d = true ∧ (∀ (m : Nat) (e : PyData), m < j → ds[m]? = some e → PyData.eqv e d = false) ∧ Q (.int (j : Nat)) H
theorem mt_indexTD (hu : X.A.units + 65 < cLine) : MtR X "tuple.index" (rIndexTD X.K) := by
  intro pins s σ H x xs v us Q I rx rxs h
  obtain ⟨y, d, ds, j, z, rfl, hx, hy, il, id', dp, hz, hzj, hno, q⟩ := h
  obtain ⟨uy, rfl, ry⟩ := vals1 rxs
  obtain ⟨bs, r1⟩ := Dp.reads I d y uy (Da.dp _ _ hy) ry
  cases hx with
  | @tup a xs' _ hs ha =>
    cases rx
    obtain ⟨its, rv, ⟨⟨cls, dd, data, sls⟩, ho, hc, n, hdt⟩, hlen⟩ := I.tuple (SqT.of hs)
    simp only at hc hdt
    subst hc hdt
    obtain ⟨as, h4⟩ := Dp.readsAll I ds _ its (Da.dpAll _ _ ha) rv
    have pl := imm_plainAll ds il
    have hmap : its.map (SeqAt.readOf s.heap) = ds := SeqAt.readsAll_map_plain ds its as pl h4
    obtain ⟨hjd, _⟩ := List.getElem?_eq_some_iff.mp hz
    have hn : its.length = ds.length := by rw [← hmap, List.length_map]
    have hj : j < its.toArray.size := by
      rw [List.size_toArray]
      omega
    have at_ : ∀ (m : Nat) (hm : m < its.toArray.size) (z' : PyData), ds[m]? = some z' → SeqAt.readOf s.heap its.toArray[m] = z' := by
      intro m hm z' hz'
      have hml : m < its.length := by simpa using hm
      rw [← hmap, List.getElem?_map, List.getElem?_eq_getElem hml] at hz'
      have e1 : SeqAt.readOf s.heap its[m] = z' := Option.some.inj hz'
      simpa using e1
    refine call_meets PySem.F.slot_tuple_index ⟨_, ho, rfl⟩ PySem.F.entry_tuple_index (PySem.F.args_tuple_index_2 _ _) (TI.tuple_indexAt a its.toArray n dd sls uy (fun u => PyData.eqv (SeqAt.readOf s.heap u) d) j hj ?_ ?_)
      ⟨ho, SeqAt.items_plain (vs := its.toArray) (show ReadsAll s.heap its.toArray.toList ds as from h4) r1 pl (imm_plain d id') (by have := Nat.min_le_right (PyData.depthAll ds) d.depth; omega), ⟨.int (j : Nat), H, I.tok _, ⟨_, rfl⟩, q⟩⟩
    · show PyData.eqv (SeqAt.readOf s.heap its.toArray[j]) d = true
      rw [at_ j hj z hz]
      exact hzj
    · intro m hm hmj
      have hmd : m < ds.length := by rw [List.size_toArray] at hm; omega
      show PyData.eqv (SeqAt.readOf s.heap its.toArray[m]) d = false
      rw [at_ m hm _ (List.getElem?_eq_getElem hmd)]
      exact hno m _ hmj (List.getElem?_eq_getElem hmd)
end
/-! ### sorted -/
theorem perm_lift {α β : Type} (f : α → β) : ∀ {m n : List β}, m.Perm n → ∀ l : List α, n = l.map f → ∃ l' : List α, l'.Perm l ∧ l'.map f = m := by
  intro m n h
  induction h with
  | nil =>
    intro l e
    exact ⟨[], by rw [List.map_eq_nil_iff.mp e.symm], rfl⟩
  | @cons x m n h ih =>
    intro l e
    cases l with
    | nil => cases e
    | cons y l =>
      rw [List.map_cons, List.cons.injEq] at e
      obtain ⟨l', p, q⟩ := ih l e.2
      exact ⟨y :: l', p.cons y, by rw [List.map_cons, q, e.1]⟩
  | swap x y l0 =>
    intro l e
    match l, e with
    | a :: b :: l, e =>
      rw [List.map_cons, List.map_cons, List.cons.injEq, List.cons.injEq] at e
      exact ⟨b :: a :: l, List.Perm.swap _ _ _, by rw [List.map_cons, List.map_cons, e.1, e.2.1, e.2.2]⟩
  | trans _ _ ih1 ih2 =>
    intro l e
    obtain ⟨l2, p2, e2⟩ := ih2 l e
    obtain ⟨l1, p1, e1⟩ := ih1 l2 e2.symm
    exact ⟨l1, p1.trans p2, e1⟩
/-- a value as it stands in both heaps, and what it is -/
def Tri (K : PySem.W.Frag) (H : Hp) (t : V × Value × PyData) : Prop := RelV t.1 t.2.1 ∧ Da K H t.1 t.2.2 ∧ imm t.2.2 = true
theorem tri_of {K : PySem.W.Frag} {H : Hp} : ∀ {ds : List PyData} {xs : List V} {us : List Value}, DaAll K H xs ds → immAll ds = true → Vals xs us → ∃ T : List (V × Value × PyData), T.map (·.1) = xs ∧ T.map (·.2.1) = us ∧ T.map (·.2.2) = ds ∧ ∀ t ∈ T, Tri K H t
  | [], _, _, h, _, r => by
    cases h
    cases r
    exact ⟨[], rfl, rfl, rfl, fun t ht => nomatch ht⟩
  | d :: ds, _, _, h, hi, r => by
    have hi' : (imm d && immAll ds) = true := hi
    rw [Bool.and_eq_true] at hi'
    cases h with
    | @cons v vs _ _ h1 h2 =>
      cases r with
      | @cons _ u _ us r1 r2 =>
        obtain ⟨T, e1, e2, e3, e4⟩ := tri_of h2 hi'.2 r2
        refine ⟨(v, u, d) :: T, by rw [List.map_cons, e1], by rw [List.map_cons, e2], by rw [List.map_cons, e3], fun t ht => ?_⟩
        rcases List.mem_cons.mp ht with rfl | ht
        · exact ⟨r1, h1, hi'.1⟩
        · exact e4 t ht
theorem tri_vals {K : PySem.W.Frag} {H : Hp} : ∀ {T : List (V × Value × PyData)}, (∀ t ∈ T, Tri K H t) → Vals (T.map (·.1)) (T.map (·.2.1))
  | [], _ => .nil
  | t :: T, h => .cons (h t List.mem_cons_self).1 (tri_vals fun u hu => h u (List.mem_cons_of_mem _ hu))
theorem tri_data {K : PySem.W.Frag} {H : Hp} : ∀ {T : List (V × Value × PyData)}, (∀ t ∈ T, Tri K H t) → DaAll K H (T.map (·.1)) (T.map (·.2.2)) ∧ immAll (T.map (·.2.2)) = true
  | [], _ => ⟨.nil, rfl⟩
  | t :: T, h => by
    obtain ⟨a, b⟩ := tri_data fun u hu => h u (List.mem_cons_of_mem _ hu)
    refine ⟨.cons (h t List.mem_cons_self).2.1 a, ?_⟩
    show (imm t.2.2 && immAll (T.map (·.2.2))) = true
    rw [(h t List.mem_cons_self).2.2, b]
    rfl
/-- data that can be sorted -/
def Sorts (ds : List PyData) : Prop := immAll ds = true ∧ (∀ d ∈ ds, ∀ e ∈ ds, alike d e = true) ∧ (2 ≤ ds.length → ∀ d ∈ ds, ∃ r, d = .tuple r) ∧ ∀ d ∈ ds, d.depth ≤ 16
section
variable {X : Cx}
/-- sorted, once the values are gathered -/
theorem sorted_by {pins : List (Addr × Obj)} {σ : L2.St} {H : Hp} {s : Shared} {a : Addr} {Q : VK} (hu : X.A.units + 24 < cLine) (I : Inv X pins σ H s) (T : List (V × Value × PyData)) (hT : ∀ t ∈ T, Tri X.K H t) (hs : Sorts (T.map (·.2.2))) (hz : T.length ≤ sizeLine)
    (gather : ∀ (Qc : List Value → Shared → Prop), (∀ (s1 : Shared) (T1 : List (V × Value × PyData)), Inv X pins σ H s1 → T1.Perm T → Qc (T1.map (·.2.1)) s1) → wpAny (model X.prog X.w) X.A.in1 (collect (.ref a)) Qc X.xe s)
    (q : ∀ (p : Addr) (ys : List V) (M : List PyData), H p = none → M.Perm (T.map (·.2.2)) → M.Pairwise (fun d e => dataLt e d = false) → DaAll X.K (upd H p (.lst ys)) ys M → Q (.ref p) (upd H p (.lst ys))) :
    wpAny (model X.prog X.w) X.A (call (.builtin "sorted") [.ref a]) (EP X pins σ Q) X.xe s := by
  refine Calls.call_function_entry PyProof.Rows.kind_sorted PyProof.Rows.plain_sorted PyProof.Rows.entry_sorted (PyProof.Rows.args_sorted1 _) ?_
  unfold Builtin.«sorted»
  refine wpAny_bind (m := checkCount "sorted" 1 1 _) (wpAny_pure ?_)
  refine wpAny_bind (gather _ fun s1 T1 I1 pT => ?_)
  have hT1 : ∀ t ∈ T1, Tri X.K H t := fun t ht => hT t (pT.mem_iff.mp ht)
  have pD : (T1.map (·.2.2)).Perm (T.map (·.2.2)) := pT.map _
  have len1 : (T1.map (·.2.1)).length ≤ sizeLine := by
    rw [List.length_map, pT.length_eq]
    exact hz
  refine wpAny_bind (wpAny_newList ?_ len1)
  have hob : (s1.heap.push (seqObj "list" (T1.map (·.2.1)).toArray 0)).get? s1.heap.objs.size = some (seqObj "list" (T1.map (·.2.1)).toArray 0) := Heap.get?_push_size _ rfl
  have ka : ∀ b o, s1.heap.get? b = some o → (s1.heap.push (seqObj "list" (T1.map (·.2.1)).toArray 0)).get? b = some o := fun b o e => Heap.get?_push_of_some _ e
  have off : ∀ b o, s1.heap.get? b = some o → b ≠ s1.heap.objs.size := fun b o e => Nat.ne_of_lt (Heap.lt_size e)
  show wpAny _ _ _ _ _ { s1 with heap := s1.heap.push (seqObj "list" (T1.map (·.2.1)).toArray 0) }
  generalize hh2 : s1.heap.push (seqObj "list" (T1.map (·.2.1)).toArray 0) = h2 at hob ka ⊢
  let enc : Value → PyData := SeqAt.readOf s1.heap
  have encT : ∀ t ∈ T1, enc t.2.1 = t.2.2 := fun t ht => by
    obtain ⟨r, d, i⟩ := hT1 t ht
    obtain ⟨as, ra⟩ := Dp.reads I1 _ _ _ (Da.dp _ _ d) r
    exact SeqAt.readOf_plain (imm_plain _ i) ra
  have er : ∀ h3 : Heap, (∀ b o, b ≠ s1.heap.objs.size → h2.get? b = some o → h3.get? b = some o) → ∀ v ∈ T1.map (·.2.1), ∃ as, Reads h3 v (enc v) as := by
    intro h3 keep v hv
    obtain ⟨t, ht, rfl⟩ := List.mem_map.mp hv
    rw [encT t ht]
    obtain ⟨r, d, i⟩ := hT1 t ht
    have I3 : Inv X pins σ H { s1 with heap := h3 } := I1.kept (t' := s1.toks) fun b o e => keep b o (off b o e) (ka b o e)
    exact Dp.reads I3 _ _ _ (Da.dp _ _ d) r
  have inD : ∀ v ∈ T1.map (·.2.1), enc v ∈ T.map (·.2.2) := fun v hv => by
    obtain ⟨t, ht, rfl⟩ := List.mem_map.mp hv
    rw [encT t ht]
    exact List.mem_map.mpr ⟨t, pT.mem_iff.mp ht, rfl⟩
  have swo := swo_data enc
  refine wpAny_bind (wpAny_holding (wpAny_call_entry PyProof.Rows.slot_list_sort ⟨_, hob, rfl⟩ PyProof.Rows.entry_list_sort
    (SrtO.list_sort_ord (s := { s1 with heap := h2 }) swo hob len1 (fun h2l => sortableE (s := { s1 with heap := h2 }) h2l er (fun v hv u hu' => hs.2.1 _ (inD v hv) _ (inD u hu')) (fun v hv => hs.2.2.1 (by
      rw [List.length_map, pT.length_eq] at h2l
      rw [List.length_map]
      exact h2l) _ (inD v hv)) fun v hv => ?_) fun out o1 o2 => ⟨_, rfl, ?_⟩) (PyProof.Rows.args_list_sort _)))
  · have := hs.2.2.2 _ (inD v hv)
    show X.A.in1.in1.units + (enc v).depth < cLine
    have e1 : X.A.in1.in1.units = X.A.units + 2 := rfl
    omega
  · refine wpAny_pure ?_
    obtain ⟨T2, p2, e2⟩ := perm_lift (·.2.1) o2.perm T1 rfl
    subst e2
    have hT2 : ∀ t ∈ T2, Tri X.K H t := fun t ht => hT1 t (p2.mem_iff.mp ht)
    have M2 : (T2.map (·.2.2)).Pairwise (fun d e => dataLt e d = false) := by
      have e : (T2.map (·.2.1)).Pairwise (fun v u => dataLt (enc u) (enc v) = false) := o1
      rw [List.pairwise_map] at e ⊢
      refine List.Pairwise.imp_of_mem (fun {x y} hx hy hxy => ?_) e
      rw [encT x (p2.mem_iff.mp hx), encT y (p2.mem_iff.mp hy)] at hxy
      exact hxy
    obtain ⟨eF, heF⟩ := PyProof.Rows.sortedHeap_at (vs := T1.map (·.2.1)) (out := (T2.map (·.2.1)).toArray) hob
    have kF : ∀ b oo, s1.heap.get? b = some oo → (sortedHeap h2 s1.heap.objs.size (T1.map (·.2.1)) (T2.map (·.2.1)).toArray).get? b = some oo := fun b oo e => (PyProof.Rows.sortedHeap_old (off _ _ e) (Heap.lt_size (ka _ _ e))).trans (ka _ _ e)
    have new : H s1.heap.objs.size = none := I1.hok.fresh (Nat.le_refl _)
    refine ⟨.ref s1.heap.objs.size, rfl, .ref s1.heap.objs.size, upd H s1.heap.objs.size (.lst (T2.map (·.1))), I1.laid (t' := s1.toks) kF (Nat.le_refl _) ⟨?_, T2.map (·.2.1), eF, tri_vals hT2, heF⟩, rfl, q _ _ (T2.map (·.2.2)) new ((p2.map _).trans pD) M2 (Da.sameAll (same_upd new) _ _ (tri_data hT2).1)⟩
    rw [List.length_map, p2.length_eq]
    rw [List.length_map] at len1
    exact len1
/-- sorted(l), l a list of data -/
def rSortD (K : PySem.W.Frag) : List V → Hp → VK → Prop := fun vs H Q => ∃ (a : Addr) (xs : List V) (ds : List PyData), vs = [.ref a] ∧ SqL K H a xs ∧ DaAll K H xs ds ∧ Sorts ds ∧
  ∀ (p : Addr) (ys : List V) (M : List PyData), H p = none → M.Perm ds → M.Pairwise (fun d e => dataLt e d = false) → DaAll K (upd H p (.lst ys)) ys M → Q (.ref p) (upd H p (.lst ys))
theorem cr_sortD (hu : X.A.units + 24 < cLine) : CallR X (.builtin "sorted") (rSortD X.K) := by
  intro pins s σ H vs us Q I r h
  obtain ⟨a, xs, ds, rfl, hl, hd, hs, q⟩ := h
  obtain rfl := Vals.ref1 r
  obtain ⟨its, rv, pl, hz⟩ := I.list hl
  obtain ⟨T, e1, e2, e3, hT⟩ := tri_of hd hs.1 rv
  subst e1 e2 e3
  rw [List.length_map] at hz
  refine sorted_by hu I T hT hs hz (fun Qc hq => ?_) q
  have lenV : (T.map (·.2.1)).length ≤ sizeLine := by
    rw [List.length_map]
    exact hz
  refine PyProof.Rows.collect_list pl.isList ?_ lenV
  refine hq _ T (I.kept (t' := s.toks) fun b o e => ?_) (List.Perm.refl _)
  have hlt := Heap.lt_size e
  rw [Heap.get?_update_ne _ _ _ _ (Nat.ne_of_lt hlt)]
  exact Heap.get?_push_of_some _ e
end
end NSet

/-! sets of data: made by a comprehension, sorted -/
namespace NSet
open PySem PySem.Spec PySem.W PyProof.Rows L2 RW9 PpSet
/-- the set at a, without its members -/
def Set0 (w : World) (h : Heap) (a : Addr) (L : List (Addr × NestedKey)) : Prop :=
  ∃ (es : Array (Int × Value)) (ep : Nat) (t : SetTable), (∃ o, h.get? a = some o ∧ o.ExactSet ∧ o.data = .set es ep t) ∧ es.toList = L.map (ent w) ∧ TabOk t (hsh w L) ∧ (L.map (·.2)).Nodup ∧
    (w.params.followText "set-order" = true ∨ t.led = true) ∧ L.length * 5 < t.mask * 3 ∧ L.length < 77
def SetNO (w : World) (a : Addr) (L : List (Addr × NestedKey)) : HO := .ext fun h => Set0 w h a L
section
variable {P : Program} {w : World} {h : Heap} {a : Addr} {L : List (Addr × NestedKey)} {es : Array (Int × Value)} {ep : Nat} {t : SetTable}
theorem SetN.bare (R : SetN w h a L es ep t) : Set0 w h a L := ⟨es, ep, t, R.obj, R.rows, R.tab, R.nd, R.led, R.room, R.few⟩
theorem Set0.full (R : Set0 w h a L) (hk : ∀ p ∈ L, Nst h p.2 p.1) : ∃ es ep t, SetN w h a L es ep t := by
  obtain ⟨es, ep, t, h1, h2, h3, h4, h5, h6, h7⟩ := R
  exact ⟨es, ep, t, h1, h2, h3, h4, hk, h5, h6, h7⟩
theorem Set0.at_ {h2 : Heap} (R : Set0 w h a L) (k : ∀ o, h.get? a = some o → h2.get? a = some o) : Set0 w h2 a L := by
  obtain ⟨es, ep, t, ⟨o, ho, r⟩, q⟩ := R
  exact ⟨es, ep, t, ⟨o, k o ho, r⟩, q⟩
theorem setNO_new {H : Hp} (R : Set0 w h a L) : ObjOk P w H h a (SetNO w a L) := by
  have ⟨_, _, _, ⟨o, ho, _⟩, _⟩ := R
  exact ⟨R, ⟨o, ho⟩, fun h1 h2 p k => Set0.at_ p k⟩
theorem set0_fresh (w : World) : Set0 w (h.push { cls := .type "set", dict := none, data := .set #[] 0 (.fresh 0 0 (!w.params.followText "set-order")) }) h.objs.size [] := by
  refine ⟨#[], 0, _, ⟨_, Heap.get?_push_size _ rfl, ⟨rfl, rfl, rfl⟩, rfl⟩, rfl, ⟨List.Pairwise.nil, rfl, rfl, .inl rfl, (fun x hx => nomatch hx), (fun i h j hi => by simp at hi)⟩, List.nodup_nil, ?_, (by show 0 * 5 < 7 * 3; decide), (by show 0 < 77; decide)⟩
  show _ ∨ (!w.params.followText "set-order") = true
  cases w.params.followText "set-order"
  · exact .inr rfl
  · exact .inl rfl
end
section
variable {X : Cx}
/-- the members, as the abstract heap has them -/
def Mem (K : PySem.W.Frag) (H : Hp) (L : List (Addr × NestedKey)) : Prop := ∀ p ∈ L, ∃ d, Da K H (.ref p.1) d ∧ imm d = true ∧ p.2 = kOf d ∧ (kOf d).depth ≤ 8
theorem Mem.nst {pins : List (Addr × Obj)} {σ : L2.St} {H : Hp} {s : Shared} (I : Inv X pins σ H s) {L : List (Addr × NestedKey)} (m : Mem X.K H L) : ∀ p ∈ L, Nst s.heap p.2 p.1 := fun p hp => by
  obtain ⟨d, hd, i, e, dp⟩ := m p hp
  rw [e]
  exact ⟨nest_of I d _ _ hd i rfl, dp⟩
theorem addN_ok {pins : List (Addr × Obj)} {σ : L2.St} {H : Hp} {s : Shared} {E : Value → Shared → Prop} {D : Addr} {L : List (Addr × NestedKey)} {y : V} {z : Value} {d : PyData} {Q : Value → Shared → Prop} (hu : X.A.units + 24 < cLine) (I : Inv X pins σ H s) (hD : H D = some (SetNO X.w D L))
    (hy : ∃ b, y = .ref b ∧ Da X.K H (.ref b) d) (rz : RelV y z) (hd : imm d = true) (hdp : (kOf d).depth ≤ 8) (hm : Mem X.K H L) (room : L.length + 1 < 77)
    (h : ∀ s' L', (kOf d ∈ L.map (·.2) → L' = L) → (kOf d ∉ L.map (·.2) → ∃ b, y = .ref b ∧ L'.Perm ((b, kOf d) :: L)) → Inv X pins σ (upd H D (SetNO X.w D L')) s' → Q .none s') : wpAny (model X.prog X.w) X.A (call (.builtin "set.add") [.ref D, z]) Q E s := by
  obtain ⟨b, rfl, hb⟩ := hy
  cases rz
  have hx : Nst s.heap (kOf d) b := ⟨nest_of I d _ _ hb hd rfl, hdp⟩
  have R0 : Set0 X.w s.heap D L := (I.hok D _ hD).1
  obtain ⟨es, ep, t, R⟩ := R0.full (hm.nst I)
  obtain ⟨o, ho, hex, hdt⟩ := R.obj
  refine wpAny_call_entry F.slot_set_add ⟨o, ho, hex.1⟩ F.entry_set_add ?_ (F.args_set_add_2 _ _)
  unfold Builtin.«set.add» Builtin.Frozenset.oneOther
  simp only [List.isEmpty_nil, bind_assoc]
  unfold Builtin.Frozenset.addrOf setAdd
  refine wpAny_bind (wpAny_pure ?_)
  try dsimp only
  refine wpAny_bind (wpAny_pure ?_)
  try dsimp only
  have hu1 : X.A.in1.units + 8 < cLine := by
    have e1 : X.A.in1.units = X.A.units + 1 := rfl
    omega
  refine wpAny_bind (wpAny_holding (wpAny_bind ((nestedKind X.prog X.w).pyHash (k := kOf d) hu1 hx ?_)))
  refine put_key (s := { s with toks := s.toks + (kOf d).draws }) ⟨⟨o, ho, hex, hdt⟩, R.rows, R.tab, R.nd, R.key, R.led, R.room, R.few⟩ hx hu1 room fun bb h2 L2 es2 ep2 t2 sb R2 a1 a2 => ?_
  refine wpAny_pure ⟨_, rfl, ?_⟩
  obtain ⟨o2, ho2, _⟩ := R2.obj
  exact h _ L2 a1 (fun z => ⟨b, rfl, a2 z⟩) (I.write (e := D) (t' := s.toks + (kOf d).draws) (by rw [hD]; trivial) (.inl rfl) (fun c u hc hu => (sb.2 c hc).trans hu) ⟨o2, ho2⟩ (setNO_new R2.bare))
/-- {elt for target in iter if ..}, elt a datum: D the new set -/
def tScN (K : PySem.W.Frag) (w : World) (wi : TI) (g : TG) (tt : TT) (te : TE) (vs : List Nat) : TE := fun σ H Q => wi σ H fun J H1 => ∀ D, H1 D = none → ∃ W : Nat → Nat → Hp → Prop, (∃ m, W 0 m (upd H1 D (SetNO w D []))) ∧ ∀ i m H, W i m H →
  (J.stop i H ∧ Q (.ref D) H) ∨ (J.go i H ∧ ∃ Nx : Hp → Prop, (∀ H', Nx H' → ∃ m', m' < m ∧ W (i + 1) m' H') ∧ ∀ x H', J.yld i H x H' → g x (wipe σ vs) H' fun σ2 H2 => wipe σ2 vs = wipe σ vs ∧ tt σ2 H2 fun b H3 =>
    if b = true then te σ2 H3 fun y H4 => ∃ (d : PyData) (L : List (Addr × NestedKey)), (∃ b, y = .ref b ∧ Da K H4 (.ref b) d) ∧ imm d = true ∧ (kOf d).depth ≤ 8 ∧ H4 D = some (SetNO w D L) ∧ Mem K H4 L ∧ L.length + 1 < 77 ∧
      ∀ L', (kOf d ∈ L.map (·.2) → L' = L) → (kOf d ∉ L.map (·.2) → ∃ b, y = .ref b ∧ L'.Perm ((b, kOf d) :: L)) → Nx (upd H4 D (SetNO w D L')) else Nx H3)
variable {elt tg iter : Expr} {ifs : List Expr} {scope : Scope} {own : List (Str × Nat)} {pos : Pos} {wi : TI} {g : TG} {tt : TT} {te : TE}
theorem pe_scN (hc : X.calm = true) (hu : X.A.units + 24 < cLine) (hN : X.N.Nodup) (hi : PI X tg iter wi) (ok : BlkOk X.N X.env.scope scope own)
    (hg : ∀ (s : Shared) (H : Hp) (C : Addr) (cl : List (Str × Addr)) (fp : List Addr), PG (X.blk s H scope (compEnvC scope cl C X.env) fp) tg g)
    (ht : ∀ (s : Shared) (H : Hp) (C : Addr) (cl : List (Str × Addr)) (fp : List Addr), PTs (X.blk s H scope (compEnvC scope cl C X.env) fp) ifs tt)
    (hv : ∀ (s : Shared) (H : Hp) (C : Addr) (cl : List (Str × Addr)) (fp : List Addr), PE (X.blk s H scope (compEnvC scope cl C X.env) fp) elt te) (hs : ∀ x, foldedSetIterable iter X.env x = pure x := by intro _; rfl) :
    PE X (.SetComp elt [⟨tg, iter, ifs, 0⟩] scope pos) (tScN X.K X.w wi g tt te (own.map (·.2))) := by
  refine ⟨fun pins s σ H Q I h => ?_⟩
  rw [eval_SetComp]
  have cells : ∀ y ∈ scope.names, y.2 = .free → ∃ c, X.env.cells.lookup y.1 = some c := fun y hy e => (ok.free y hy e).elim (fun k => I.ok.has _ (.inl k)) fun k => I.ok.has _ (.inr k)
  refine wpAny_comprehension_free (use := none) rfl hs (closure_ok cells) ok.kind (fun y hy e => by rw [ok.uniq y hy, e]) (thn (hi.run pins s σ H _ I h) fun xv sA hx => thn hx fun itv sB hB => ?_)
  obtain ⟨it, fp, tn, J, H2, e, I2, T, st2, f2, q⟩ := hB
  subst e
  refine newSet_ok (newEnv_comp ?_)
  generalize hD : sB.heap.objs.size = D
  obtain ⟨W, ⟨m0, w0⟩, turn⟩ := q D (I2.hok.fresh (Nat.le_of_eq hD))
  generalize hob : ({ cls := .type "set", dict := none, data := .set #[] 0 (.fresh 0 0 (!X.w.params.followText "set-order")) } : Obj) = ob
  have oldB : ∀ b o, sB.heap.get? b = some o → (sB.heap.push ob).get? b = some o := fun b o e => Heap.get?_push_of_some _ e
  have I3 : Inv X pins σ (upd H2 D (SetNO X.w D [])) { sB with heap := sB.heap.push ob } := by
    refine I2.laid (t' := sB.toks) oldB (Nat.le_of_eq hD) ?_
    rw [← hD, ← hob]
    exact setNO_new (set0_fresh X.w)
  have below : ∀ b ∈ fp, b < sB.heap.objs.size := fun b hb => (T.obj _ _ st2 b hb).elim fun o e => Heap.lt_size e.1
  generalize hs3 : ({ sB with heap := sB.heap.push ob } : Shared) = s3 at I3
  have eh3 : s3.heap = sB.heap.push ob := by rw [← hs3]
  have f3 : ∀ b ∈ fp, FpOk X pins (upd H2 D (SetNO X.w D [])) b ∧ b < s3.heap.objs.size := fun b hb => by
    have l := below b hb
    refine ⟨⟨?_, (f2 b hb).2⟩, by rw [eh3, Heap.size_push]; exact Nat.lt_succ_of_lt l⟩
    rw [upd_ne (fun z => absurd l (by rw [z, ← hD]; exact Nat.lt_irrefl _))]
    exact (f2 b hb).1
  have I4 := block_start I3 ok hN f3
  generalize hH3 : upd H2 D (SetNO X.w D []) = H3 at I3 I4 w0 f3
  generalize hcl : cellsFrom (s3.heap.objs.size + 1) scope.names (cloFrom X.env.cells scope.names []) = cl at I4
  have pg := hg s3 H3 s3.heap.objs.size cl fp
  have pt := ht s3 H3 s3.heap.objs.size cl fp
  have pv := hv s3 H3 s3.heap.objs.size cl fp
  show codeAny _ _ (.compStart (.SetComp elt [⟨tg, iter, ifs, 0⟩] scope pos) 0 (.ref it) (.ref D) (compEnvC scope cl s3.heap.objs.size X.env)) (compPost (model X.prog X.w) X.A X.xe none (EP X pins σ Q) (.ref D) s3.heap.objs.size) { s3 with heap := pushCells (s3.heap.push { cls := .type "dict", data := .dict #[] }) scope.names }
  generalize hce : compEnvC scope cl s3.heap.objs.size X.env = ce at I4 pg pt pv ⊢
  have cL : ce.locals = s3.heap.objs.size := by rw [← hce]; rfl
  generalize hs4 : ({ s3 with heap := pushCells (s3.heap.push { cls := .type "dict", data := .dict #[] }) scope.names } : Shared) = s4 at I4 ⊢
  have st4 : tn 0 s4.heap := T.keep _ _ _ st2 fun b _ o e => by
    rw [← hs4]
    exact pushCells_keeps _ _ _ _ (Heap.get?_push_of_some _ (by rw [eh3]; exact oldB b o e))
  have stat : ∀ {σ' : L2.St} {H' : Hp} {s' : Shared}, Inv (X.blk s3 H3 scope ce fp) [] σ' H' s' → (∀ b ∈ fp, H' b = none) → ∀ b ∈ fp, FpOk (X.blk s3 H3 scope ce fp) [] H' b := fun {σ' H' s'} I' hn b hb =>
    ⟨hn b hb, (I'.ok.exf b hb).1, I'.ok.exfs b hb, .inl hb, fun x c e => (I'.ok.exf b hb).2 x c e, fun p hp => absurd (show p ∈ ([] : List (Addr × Obj)) ++ [] from hp) (by simp)⟩
  refine (fun loop => codeAny_compStart_set loop (T.self X.A 0 _ _ _ st4 loop)) ?_
  refine compLoopS_any (fun n s' => ∃ i H', Inv (X.blk s3 H3 scope ce fp) [] (wipe σ (own.map (·.2))) H' s' ∧ tn i s'.heap ∧ (∀ b ∈ fp, H' b = none) ∧ W i n H') ?_ m0 ⟨0, H3, I4, st4, fun b hb => (f3 b hb).1.1, w0⟩
  rintro n s5 ⟨i, H5, I5, st5, n5, w5⟩
  rcases turn i n H5 w5 with ⟨stop, qq⟩ | ⟨go, Nx, hNx, step⟩
  · refine thnF (T.done (X.blk s3 H3 scope ce fp) rfl rfl rfl hc i [] s5 _ H5 (fun _ _ => False) I5 (stat I5 n5) st5 stop) fun r s6 ⟨hr, I6⟩ => ?_
    subst hr
    have I7 : Inv X pins σ H5 s6 := I3.call' (ch := fp) I6.os I6.base I6.hok I6.bare fun b hb => ⟨(f3 b hb).1.2.2.2.1, (f3 b hb).1.2.1, (f3 b hb).1.2.2.2.2.1, (f3 b hb).1.2.2.2.2.2⟩
    have nC : H5 ce.locals = none := I6.free
    obtain ⟨m, hn, _⟩ := I6.loc
    have hn' : s6.heap.Ns ce.locals m := hn
    rw [cL] at hn' nC
    refine ⟨m, hn', fun h'' sb => ?_⟩
    obtain ⟨c0, c1, c2, c3, c4, c5⟩ := I3.fpOk (Nat.le_refl s3.heap.objs.size) nC
    exact ⟨.ref D, H5, I7.turned (t' := s6.toks) (fun b o hb e => (sb.2 b hb).trans e) c0 c1 c3 c4 c5, rfl, qq⟩
  · refine thnF (T.item (X.blk s3 H3 scope ce fp) rfl rfl rfl hc i [] s5 _ H5 (fun _ _ => False) I5 (stat I5 n5) st5 go) fun r s6 ⟨u, hr, h6⟩ => ?_
    subst hr
    refine thnF h6 fun _ s7 ⟨x, H7, I7, r7, y7, st7, n7⟩ => ?_
    refine thnF (pg.run _ s7 _ H7 x u _ (I7.pinned (stat I7 n7) (T.obj _ _ st7)) r7 (step x H7 y7)) fun _ s8 ⟨σ8, H8, I8, hw8, q8⟩ => ?_
    refine thnF (pt.run _ s8 σ8 H8 _ I8 q8) fun b s9 ⟨H9, I9, q9⟩ => ?_
    have fin : ∀ {s' : Shared} {H' : Hp}, Inv (X.blk s3 H3 scope ce fp) ([] ++ pinsAt fp s7.heap) σ8 H' s' → Nx H' → ∃ m, m < n ∧ ∃ i H', Inv (X.blk s3 H3 scope ce fp) [] (wipe σ (own.map (·.2))) H' s' ∧ tn i s'.heap ∧ (∀ b ∈ fp, H' b = none) ∧ W i m H' := fun {s' H'} I' nx => by
      obtain ⟨m', hm, w'⟩ := hNx H' nx
      have pin : ∀ b ∈ fp, ∀ o, s7.heap.get? b = some o → s'.heap.get? b = some o ∧ H' b = none := fun b hb o e => by
        have z := I'.pin (b, o) (List.mem_append_right _ (List.mem_append_right _ (mem_pinsAt hb e)))
        exact ⟨z.1, z.2.1⟩
      refine ⟨m', hm, i + 1, H', (I'.unpinned (pins := [])).weak (by rw [← hw8, wipe_length]) (fun j v e => ?_), T.keep _ _ _ st7 fun b hb o e => (pin b hb o e).1, fun b hb => ?_, w'⟩
      · rw [← hw8] at e
        exact (wipe_some e).1
      · obtain ⟨o, e, _⟩ := T.obj _ _ st7 b hb
        exact (pin b hb o e).2
    cases b with
    | false =>
      simp only [Bool.false_eq_true, if_false] at q9 ⊢
      exact fin I9 q9
    | true =>
      simp only [if_true] at q9 ⊢
      refine thnF (pv.run _ s9 σ8 H9 _ I9 q9) fun z sV ⟨yv, HV, IV, rV, d, L0, hy, hd, hdp, hDV, hm, room, nx⟩ => ?_
      exact addN_ok (X := X.blk s3 H3 scope ce fp) hu IV hDV hy rV hd hdp hm room fun s12 L1 a1 a2 I12 => fin I12 (nx L1 a1 a2)
/-! ### sorted of a set of data -/
def rSortSN (K : PySem.W.Frag) (w : World) : List V → Hp → VK → Prop := fun vs H Q => ∃ (a : Addr) (L : List (Addr × NestedKey)) (ds : List PyData), vs = [.ref a] ∧ H a = some (SetNO w a L) ∧ DaAll K H (L.map fun p => V.ref p.1) ds ∧ L.map (·.2) = kOfs ds ∧ (∀ d ∈ ds, (kOf d).depth ≤ 8) ∧ Sorts ds ∧
  ∀ (p : Addr) (ys : List V) (M : List PyData), H p = none → M.Perm ds → M.Nodup → M.Pairwise (fun d e => dataLt e d = false) → DaAll K (upd H p (.lst ys)) ys M → Q (.ref p) (upd H p (.lst ys))
theorem vals_refs (L : List (Addr × NestedKey)) : Vals (L.map fun p => V.ref p.1) (L.map fun p => Value.ref p.1) := by
  induction L with
  | nil => exact .nil
  | cons p L ih => exact .cons rfl ih
theorem kOfs_map : ∀ ds : List PyData, kOfs ds = ds.map kOf
  | [] => rfl
  | d :: ds => by rw [kOfs, kOfs_map ds, List.map_cons]
theorem daAll_mem {K : PySem.W.Frag} {H : Hp} : ∀ {L : List (Addr × NestedKey)} {ds : List PyData}, DaAll K H (L.map fun p => V.ref p.1) ds → L.map (·.2) = kOfs ds → ∀ p ∈ L, ∃ d ∈ ds, Da K H (.ref p.1) d ∧ p.2 = kOf d
  | [], _, _, _, p, hp => nomatch hp
  | q :: L, ds, h, e, p, hp => by
    cases h with
    | @cons _ _ d ds h1 h2 =>
      rw [kOfs, List.map_cons, List.cons.injEq] at e
      rcases List.mem_cons.mp hp with rfl | hp
      · exact ⟨d, List.mem_cons_self, h1, e.1⟩
      · obtain ⟨d', h3, r⟩ := daAll_mem h2 e.2 p hp
        exact ⟨d', List.mem_cons_of_mem _ h3, r⟩
theorem immAll_mem : ∀ {ds : List PyData}, immAll ds = true → ∀ d ∈ ds, imm d = true
  | [], _, d, h => nomatch h
  | e :: ds, h, d, hd => by
    have h' : (imm e && immAll ds) = true := h
    rw [Bool.and_eq_true] at h'
    rcases List.mem_cons.mp hd with rfl | hd
    · exact h'.1
    · exact immAll_mem h'.2 d hd
theorem cr_sortSN (hc : X.calm = true) (hu : X.A.units + 24 < cLine) : CallR X (.builtin "sorted") (rSortSN X.K X.w) := by
  intro pins s σ H vs us Q I r h
  obtain ⟨a, L, ds, rfl, ha, hd, hk, hdp, hs, q⟩ := h
  obtain rfl := Vals.ref1 r
  have R0 : Set0 X.w s.heap a L := (I.hok a _ ha).1
  have hm : Mem X.K H L := fun p hp => by
    obtain ⟨d, h1, h2, h3⟩ := daAll_mem hd hk p hp
    exact ⟨d, h2, immAll_mem hs.1 d h1, h3, hdp d h1⟩
  obtain ⟨es, ep, t, R⟩ := R0.full (hm.nst I)
  obtain ⟨o, ho, hex, hdt⟩ := R.obj
  obtain ⟨T, e1, e2, e3, hT⟩ := tri_of hd hs.1 (vals_refs L)
  have few := R.few
  have lenT : T.length = L.length := by
    have := congrArg List.length e1
    rwa [List.length_map, List.length_map] at this
  have ndd : ds.Nodup := by
    have n := R.nd
    rw [hk, kOfs_map] at n
    exact List.Pairwise.of_map kOf (fun _ _ hne e => hne (congrArg kOf e)) n
  refine sorted_by hu I T hT (by rw [e3]; exact hs) (by rw [sizeLine_eq]; omega) (fun Qc hq => ?_) (fun p ys M hp pm pw hM => q p ys M hp (by rw [← e3]; exact pm) (by
    rw [e3] at pm
    exact pm.nodup_iff.mpr ndd) pw hM)
  refine collect_set (A := X.A.in1) (I.ok.hd hc) ⟨o, ho, hex.1, hdt⟩ R.fits (by rw [R.size]; unfold scanBound; omega) R.tab.ris R.led fun s1 vs1 k1 hz g1 o1 pm => ?_
  have ee : es.toList.map (·.2) = T.map (·.2.1) := by
    rw [R.rows, e2, List.map_map]
    rfl
  rw [ee] at pm
  obtain ⟨T1, p1, e4⟩ := perm_lift (·.2.1) pm T rfl
  subst e4
  exact hq s1 T1 (I.call' (ch := []) o1 (Un.kept k1) (I.hok.kept k1) (by rw [g1]; exact I.bare) (fun _ z => nomatch z)) p1
end
end NSet

/-! a set comprehension whose members are told ahead -/
namespace NSet
open PySem PySem.Spec PySem.W PyProof.Rows L2 RW9
/-- the members and what they are -/
def MemD (K : PySem.W.Frag) (H : Hp) (L : List (Addr × NestedKey)) (es : List PyData) : Prop := DaAll K H (L.map fun p => V.ref p.1) es ∧ L.map (·.2) = kOfs es
theorem memD_mem {K : PySem.W.Frag} {H : Hp} {L : List (Addr × NestedKey)} {es : List PyData} (h : MemD K H L es) (hi : ∀ e ∈ es, imm e = true ∧ (kOf e).depth ≤ 8) : Mem K H L := fun p hp => by
  obtain ⟨d, h1, h2, h3⟩ := daAll_mem h.1 h.2 p hp
  exact ⟨d, h2, (hi d h1).1, h3, (hi d h1).2⟩
theorem immAll_all {es : List PyData} (h : ∀ e ∈ es, imm e = true) : immAll es = true := immAll_of h
theorem memD_perm {K : PySem.W.Frag} {H : Hp} {L M : List (Addr × NestedKey)} {es : List PyData} (h : MemD K H L es) (hp : M.Perm L) : ∃ fs : List PyData, fs.Perm es ∧ MemD K H M fs := by
  obtain ⟨h1, h2⟩ := h
  have : ∀ {L : List (Addr × NestedKey)} {es : List PyData}, DaAll K H (L.map fun p => V.ref p.1) es → L.map (·.2) = kOfs es → ∃ T : List ((Addr × NestedKey) × PyData), T.map (·.1) = L ∧ T.map (·.2) = es ∧ ∀ t ∈ T, Da K H (.ref t.1.1) t.2 ∧ t.1.2 = kOf t.2 := by
    intro L
    induction L with
    | nil =>
      intro es h1 h2
      cases h1
      exact ⟨[], rfl, rfl, fun t ht => nomatch ht⟩
    | cons p L ih =>
      intro es h1 h2
      cases h1 with
      | @cons _ _ d ds a b =>
        rw [kOfs, List.map_cons, List.cons.injEq] at h2
        obtain ⟨T, e1, e2, e3⟩ := ih b h2.2
        refine ⟨(p, d) :: T, by rw [List.map_cons, e1], by rw [List.map_cons, e2], fun t ht => ?_⟩
        rcases List.mem_cons.mp ht with rfl | ht
        · exact ⟨a, h2.1⟩
        · exact e3 t ht
  obtain ⟨T, e1, e2, e3⟩ := this h1 h2
  subst e1 e2
  obtain ⟨T2, p2, rfl⟩ := perm_lift (·.1) hp T rfl
  refine ⟨T2.map (·.2), p2.map _, ?_, ?_⟩
  · have : ∀ T2 : List ((Addr × NestedKey) × PyData), (∀ t ∈ T2, Da K H (.ref t.1.1) t.2 ∧ t.1.2 = kOf t.2) → DaAll K H ((T2.map (·.1)).map fun p => V.ref p.1) (T2.map (·.2)) := by
      intro T2
      induction T2 with
      | nil => intro _; exact .nil
      | cons t T2 ih => intro h; exact .cons (h t List.mem_cons_self).1 (ih fun u hu => h u (List.mem_cons_of_mem _ hu))
    exact this T2 fun t ht => e3 t (p2.mem_iff.mp ht)
  · rw [kOfs_map, List.map_map, List.map_map]
    exact List.map_congr_left fun t ht => (e3 t (p2.mem_iff.mp ht)).2
theorem sc_if {K : PySem.W.Frag} {w : World} {J : It} {n : Nat} {G : Hp → Prop} {Y : Nat → Hp → V → Hp → Prop} (wk : Walk J n G Y) {g : TG} {tt : TT} {te : TE} {vs : List Nat} {σ : L2.St} {H1 : Hp} {D : Addr} {Qd : Hp → Prop} (hD : H1 D = none) (hn : n < 77) (hG : ∀ H, Same H1 H → G H) (bs : Nat → Bool) (ds : Nat → PyData)
    (hi : ∀ i, i < n → bs i = true → imm (ds i) = true ∧ (kOf (ds i)).depth ≤ 8)
    (step : ∀ i x H H' (Q : VK) (R : Hp → Prop), i < n → Same H1 H → Y i H x H' → (∀ y H4, bs i = true → Same H H4 → (∃ b, y = .ref b ∧ Da K H4 (.ref b) (ds i)) → Q y H4) → (∀ H3, bs i = false → Same H H3 → R H3) →
      g x (wipe σ vs) H' fun σ2 H2 => wipe σ2 vs = wipe σ vs ∧ tt σ2 H2 fun b H3 => if b = true then te σ2 H3 Q else R H3)
    (hd : ∀ H L es, Same H1 H → H D = some (SetNO w D L) → MemD K H L es → (∀ e ∈ es, ∃ i, i < n ∧ bs i = true ∧ e = ds i) → (∀ i, i < n → bs i = true → kOf (ds i) ∈ L.map (·.2)) → L.length ≤ n → Qd H) :
    ∃ W : Nat → Nat → Hp → Prop, (∃ m, W 0 m (upd H1 D (SetNO w D []))) ∧ ∀ i m H, W i m H →
      (J.stop i H ∧ Qd H) ∨ (J.go i H ∧ ∃ Nx : Hp → Prop, (∀ H', Nx H' → ∃ m', m' < m ∧ W (i + 1) m' H') ∧ ∀ x H', J.yld i H x H' → g x (wipe σ vs) H' fun σ2 H2 => wipe σ2 vs = wipe σ vs ∧ tt σ2 H2 fun b H3 =>
        if b = true then te σ2 H3 fun y H4 => ∃ (d : PyData) (L : List (Addr × NestedKey)), (∃ b, y = .ref b ∧ Da K H4 (.ref b) d) ∧ imm d = true ∧ (kOf d).depth ≤ 8 ∧ H4 D = some (SetNO w D L) ∧ Mem K H4 L ∧ L.length + 1 < 77 ∧
          ∀ L', (kOf d ∈ L.map (·.2) → L' = L) → (kOf d ∉ L.map (·.2) → ∃ b, y = .ref b ∧ L'.Perm ((b, kOf d) :: L)) → Nx (upd H4 D (SetNO w D L')) else Nx H3) := by
  refine ⟨fun i m H => m = n - i ∧ i ≤ n ∧ Same H1 H ∧ ∃ L es, H D = some (SetNO w D L) ∧ MemD K H L es ∧ (∀ e ∈ es, ∃ j, j < i ∧ bs j = true ∧ e = ds j) ∧ (∀ j, j < i → bs j = true → kOf (ds j) ∈ L.map (·.2)) ∧ L.length ≤ i,
    ⟨n, by simp, Nat.zero_le _, same_upd hD, [], [], upd_same, ⟨.nil, rfl⟩, (fun e he => nomatch he), (fun j hj => absurd hj (Nat.not_lt_zero _)), Nat.le_refl _⟩, ?_⟩
  rintro i m H ⟨rfl, hin, p1, L, es, hL, hM, h1, h2, h3⟩
  by_cases hlt : i < n
  · refine .inr ⟨wk.goes i H hlt (hG H p1), fun H' => i + 1 ≤ n ∧ Same H1 H' ∧ ∃ L es, H' D = some (SetNO w D L) ∧ MemD K H' L es ∧ (∀ e ∈ es, ∃ j, j < i + 1 ∧ bs j = true ∧ e = ds j) ∧ (∀ j, j < i + 1 → bs j = true → kOf (ds j) ∈ L.map (·.2)) ∧ L.length ≤ i + 1, fun H' q => ⟨n - (i + 1), by omega, rfl, q⟩, fun x H' y => ?_⟩
    refine step i x H H' _ _ hlt p1 (wk.yields i H x H' hlt (hG H p1) y) (fun yv H4 hb e hy => ?_) (fun H3 hb e => ?_)
    · obtain ⟨i1, i2⟩ := hi i hlt hb
      have h1' : ∀ e ∈ es, imm e = true ∧ (kOf e).depth ≤ 8 := fun e he => by
        obtain ⟨j, hj, hbj, rfl⟩ := h1 e he
        exact hi j (by omega) hbj
      have M4 : MemD K H4 L es := ⟨Da.sameAll e _ _ hM.1, hM.2⟩
      have hL4 := e _ _ hL
      refine ⟨ds i, L, hy, i1, i2, hL4, memD_mem M4 h1', by omega, fun L' a1 a2 => ?_⟩
      have st : ST K H4 (upd H4 D (SetNO w D L')) := st_upd hL4 True.intro
      have same : Same H1 (upd H4 D (SetNO w D L')) := (p1.trans e).mut hD
      by_cases hk : kOf (ds i) ∈ L.map (·.2)
      · have := a1 hk
        subst this
        refine ⟨hlt, same, _, es, upd_same, ⟨Da.stAll st _ _ (immAll_all fun e he => (h1' e he).1) M4.1, M4.2⟩, fun e he => ?_, fun j hj hbj => ?_, by omega⟩
        · obtain ⟨j, hj, r⟩ := h1 e he
          exact ⟨j, by omega, r⟩
        · by_cases ej : j = i
          · rw [ej]
            exact hk
          · exact h2 j (by omega) hbj
      · obtain ⟨b, rfl, pm⟩ := a2 hk
        obtain ⟨b2, hb2, hdb⟩ := hy
        cases hb2
        have MC : MemD K H4 ((b, kOf (ds i)) :: L) (ds i :: es) := ⟨.cons hdb M4.1, by rw [List.map_cons, kOfs, M4.2]⟩
        obtain ⟨fs, pf, hf⟩ := memD_perm MC pm
        have hfi : ∀ e ∈ fs, ∃ j, j < i + 1 ∧ bs j = true ∧ e = ds j := fun e he => by
          rcases List.mem_cons.mp (pf.mem_iff.mp he) with z | z
          · exact ⟨i, by omega, hb, z⟩
          · obtain ⟨j, hj, r⟩ := h1 e z
            exact ⟨j, by omega, r⟩
        refine ⟨hlt, same, _, fs, upd_same, ⟨Da.stAll st _ _ (immAll_all fun e he => by
          obtain ⟨j, hj, hbj, rfl⟩ := hfi e he
          exact (hi j (by omega) hbj).1) hf.1, hf.2⟩, hfi, fun j hj hbj => ?_, by rw [pm.length_eq, List.length_cons]; omega⟩
        rw [(pm.map (·.2)).mem_iff, List.map_cons]
        by_cases ej : j = i
        · rw [ej]
          exact List.mem_cons_self
        · exact List.mem_cons_of_mem _ (h2 j (by omega) hbj)
    · refine ⟨hlt, p1.trans e, L, es, e _ _ hL, ⟨Da.sameAll e _ _ hM.1, hM.2⟩, fun x hx => ?_, fun j hj hbj => ?_, by omega⟩
      · obtain ⟨j, hj, r⟩ := h1 x hx
        exact ⟨j, by omega, r⟩
      · by_cases ej : j = i
        · rw [ej] at hbj
          rw [hb] at hbj
          cases hbj
        · exact h2 j (by omega) hbj
  · have e : i = n := by omega
    subst e
    exact .inl ⟨wk.stops H (hG H p1), hd H L es p1 hL hM h1 h2 h3⟩
end NSet

/-! data in which some tuples are known to have no dict of their own (told as lists): tuples that .index is asked of -/
namespace NT
open PySem PySem.Spec PySem.W PyProof.Rows L2
/-- tuples stay, locked ones too -/
structure SF (K : PySem.W.Frag) (H H' : Hp) : Prop where
  t : ∀ (a : Addr) (xs : List V), H a = some (.tup xs) → H' a = some (.tup xs)
  f : ∀ (a : Addr) (o : Obj) (xs : List V), H a = some (.frz o (.tup xs)) → H' a = some (.frz o (.tup xs))
instance {K : PySem.W.Frag} {H H' : Hp} : CoeFun (SF K H H') (fun _ => ∀ (a : Addr) (xs : List V), H a = some (.tup xs) → H' a = some (.tup xs)) := ⟨SF.t⟩
theorem sf_refl {K : PySem.W.Frag} (H : Hp) : SF K H H := ⟨fun _ _ h => h, fun _ _ _ h => h⟩
theorem SF.trans {K : PySem.W.Frag} {H H1 H2 : Hp} (a : SF K H H1) (b : SF K H1 H2) : SF K H H2 := ⟨fun x o h => b.t x o (a.t x o h), fun x o xs h => b.f x o xs (a.f x o xs h)⟩
theorem same_sf {K : PySem.W.Frag} {H H' : Hp} (e : Same H H') : SF K H H' := ⟨fun _ _ h => e _ _ h, fun _ _ _ h => e _ _ h⟩
def NoT : HO → Prop
  | .tup _ => False
  | .frz _ _ => False
  | _ => True
theorem sameB_sf {K : PySem.W.Frag} {H H' : Hp} {p : Addr} {o : HO} (e : SameB p H H') (h : H p = some o) (n : NoT o) : SF K H H' := by
  refine ⟨fun a u q => e a _ (fun z => ?_) q, fun a u xs q => e a _ (fun z => ?_) q⟩
  · subst z
    rw [h] at q
    cases q
    exact n
  · subst z
    rw [h] at q
    cases q
    exact n
theorem sf_upd {K : PySem.W.Frag} {H : Hp} {p : Addr} {o u : HO} (h : H p = some o) (n : NoT o) : SF K H (upd H p u) := sameB_sf SameB.upd h n
mutual
inductive De (K : PySem.W.Frag) (H : Hp) : V → PyData → Prop
  | non : De K H .non .none
  | int (i : Int) : De K H (.int i) (.int i)
  | str (x : Str) : De K H (.str x) (.str x)
  | tup {a : Addr} {xs : List V} {ds : List PyData} : H a = some (.tup xs) → DeAll K H xs ds → De K H (.ref a) (.tuple ds)
  | exa {a : Addr} {o : Obj} {xs : List V} {ds : List PyData} : H a = some (.frz o (.tup xs)) → o.dict = none → DeAll K H xs ds → De K H (.ref a) (.list ds)
inductive DeAll (K : PySem.W.Frag) (H : Hp) : List V → List PyData → Prop
  | nil : DeAll K H [] []
  | cons {v : V} {vs : List V} {d : PyData} {ds : List PyData} : De K H v d → DeAll K H vs ds → DeAll K H (v :: vs) (d :: ds)
end
mutual
theorem De.sf {K : PySem.W.Frag} {H H' : Hp} (e : SF K H H') : ∀ (d : PyData) (v : V), De K H v d → De K H' v d
  | .none, _, h => by
    cases h
    exact .non
  | .bool b, _, h => by cases h
  | .int i, _, h => by
    cases h
    exact .int i
  | .str x, _, h => by
    cases h
    exact .str x
  | .tuple ds, _, h => by
    cases h with
    | tup hs ha => exact .tup (e _ _ hs) (De.sfAll e ds _ ha)
  | .list ds, _, h => by
    cases h with
    | exa hs ho ha => exact .exa (e.f _ _ _ hs) ho (De.sfAll e ds _ ha)
  | .dict _, _, h => by cases h
theorem De.sfAll {K : PySem.W.Frag} {H H' : Hp} (e : SF K H H') : ∀ (ds : List PyData) (vs : List V), DeAll K H vs ds → DeAll K H' vs ds
  | [], _, h => by
    cases h
    exact .nil
  | d :: ds, _, h => by
    cases h with
    | cons h1 h2 => exact .cons (De.sf e d _ h1) (De.sfAll e ds _ h2)
end
theorem De.st {K : PySem.W.Frag} {H H' : Hp} (e : SF K H H') (d : PyData) (v : V) (_ : Nat) (h : De K H v d) : De K H' v d := De.sf e d v h
theorem De.stAll {K : PySem.W.Frag} {H H' : Hp} (e : SF K H H') (ds : List PyData) (vs : List V) (_ : Nat) (h : DeAll K H vs ds) : DeAll K H' vs ds := De.sfAll e ds vs h
theorem De.same {K : PySem.W.Frag} {H H' : Hp} (e : Same H H') (d : PyData) (v : V) (h : De K H v d) : De K H' v d := De.sf (same_sf e) d v h
theorem De.sameAll {K : PySem.W.Frag} {H H' : Hp} (e : Same H H') (ds : List PyData) (vs : List V) (h : DeAll K H vs ds) : DeAll K H' vs ds := De.sfAll (same_sf e) ds vs h
mutual
/-- plain data: nothing is known of the tuples -/
def noL : PyData → Bool
  | .none => true
  | .bool _ => false
  | .int _ => true
  | .str _ => true
  | .tuple ds => noLAll ds
  | .list _ => false
  | .dict _ => false
def noLAll : List PyData → Bool
  | [] => true
  | d :: ds => noL d && noLAll ds
end
mutual
theorem De.da {K : PySem.W.Frag} {H : Hp} : ∀ (d : PyData) (v : V), noL d = true → De K H v d → Da K H v d
  | .none, _, _, h => by
    cases h
    exact .non
  | .bool b, _, _, h => by cases h
  | .int i, _, _, h => by
    cases h
    exact .int i
  | .str x, _, _, h => by
    cases h
    exact .str x
  | .tuple ds, _, n, h => by
    cases h with
    | tup hs ha => exact .tup hs (De.daAll ds _ n ha)
  | .list ds, _, n, _ => by cases n
  | .dict _, _, _, h => by cases h
theorem De.daAll {K : PySem.W.Frag} {H : Hp} : ∀ (ds : List PyData) (vs : List V), noLAll ds = true → DeAll K H vs ds → DaAll K H vs ds
  | [], _, _, h => by
    cases h
    exact .nil
  | d :: ds, _, n, h => by
    have n' : (noL d && noLAll ds) = true := n
    rw [Bool.and_eq_true] at n'
    cases h with
    | cons h1 h2 => exact .cons (De.da d _ n'.1 h1) (De.daAll ds _ n'.2 h2)
end
mutual
theorem De.of {K : PySem.W.Frag} {H : Hp} : ∀ (d : PyData) (v : V), noL d = true → Da K H v d → De K H v d
  | .none, _, _, h => by
    cases h
    exact .non
  | .bool b, _, n, _ => by cases n
  | .int i, _, _, h => by
    cases h
    exact .int i
  | .str x, _, _, h => by
    cases h
    exact .str x
  | .tuple ds, _, n, h => by
    cases h with
    | tup hs ha => exact .tup hs (De.ofAll ds _ n ha)
  | .list ds, _, n, _ => by cases n
  | .dict _, _, _, h => by cases h
theorem De.ofAll {K : PySem.W.Frag} {H : Hp} : ∀ (ds : List PyData) (vs : List V), noLAll ds = true → DaAll K H vs ds → DeAll K H vs ds
  | [], _, _, h => by
    cases h
    exact .nil
  | d :: ds, _, n, h => by
    have n' : (noL d && noLAll ds) = true := n
    rw [Bool.and_eq_true] at n'
    cases h with
    | cons h1 h2 => exact .cons (De.of d _ n'.1 h1) (De.ofAll ds _ n'.2 h2)
end
theorem De.dp {K : PySem.W.Frag} {H : Hp} (d : PyData) (v : V) (h : De K H v d) (n : noL d = true := by rfl) : Dp K H v d := Da.dp _ _ (De.da d v n h)
theorem DeAll.length {K : PySem.W.Frag} {H : Hp} : ∀ {vs : List V} {ds : List PyData}, DeAll K H vs ds → vs.length = ds.length
  | _, _, .nil => rfl
  | _, _, .cons _ t => congrArg (· + 1) (DeAll.length t)
theorem DeAll.snoc {K : PySem.W.Frag} {H : Hp} {v : V} {d : PyData} (h : De K H v d) : ∀ {vs : List V} {ds : List PyData}, DeAll K H vs ds → DeAll K H (vs ++ [v]) (ds ++ [d])
  | _, _, .nil => .cons h .nil
  | _, _, .cons r t => .cons r (DeAll.snoc h t)
theorem DeAll.append {K : PySem.W.Frag} {H : Hp} {us : List V} {es : List PyData} (h : DeAll K H us es) : ∀ {vs : List V} {ds : List PyData}, DeAll K H vs ds → DeAll K H (vs ++ us) (ds ++ es)
  | _, _, .nil => h
  | _, _, .cons r t => .cons r (DeAll.append h t)
theorem DeAll.get {K : PySem.W.Frag} {H : Hp} : ∀ {vs : List V} {ds : List PyData} {i : Nat} {v : V}, DeAll K H vs ds → vs[i]? = some v → ∃ d, ds[i]? = some d ∧ De K H v d
  | _, _, _, _, .nil, e => by simp at e
  | _, _, 0, _, .cons r _, e => by
    simp at e
    subst e
    exact ⟨_, rfl, r⟩
  | _, _, i + 1, v, .cons _ t, e => by
    obtain ⟨d, h1, h2⟩ := DeAll.get (i := i) (v := v) t (by simpa using e)
    exact ⟨d, by simpa using h1, h2⟩
theorem DeAll.at {K : PySem.W.Frag} {H : Hp} : ∀ {vs : List V} {ds : List PyData} {i : Nat} {d : PyData}, DeAll K H vs ds → ds[i]? = some d → ∃ v, vs[i]? = some v ∧ De K H v d
  | _, _, _, _, .nil, e => by simp at e
  | _, _, 0, _, .cons r _, e => by
    simp at e
    subst e
    exact ⟨_, rfl, r⟩
  | _, _, i + 1, d, .cons _ t, e => by
    obtain ⟨v, h1, h2⟩ := DeAll.at (i := i) (d := d) t (by simpa using e)
    exact ⟨v, by simpa using h1, h2⟩
/-- a tuple that can be read, of either kind -/
theorem sqT {K : PySem.W.Frag} {H : Hp} {a : Addr} {o : Obj} {xs : List V} (h : H a = some (.frz o (.tup xs))) : SqT K H a xs := .inl (.inr ⟨o, h⟩)
/-- all elements are data told ahead -/
theorem lc_de {K : PySem.W.Frag} {J : It} {n : Nat} {G : Hp → Prop} {Y : Nat → Hp → V → Hp → Prop} (w : Walk J n G Y) {g : TG} {te : TE} {vs : List Nat} {σ : L2.St} {H1 : Hp} {D : Addr} {Qd : Hp → Prop} (hD : H1 D = none) (hn : n ≤ 100000) (hG : ∀ H, Same H1 H → G H) (ds : List PyData) (hl : ds.length = n) (_ : Nat)
    (step : ∀ i x H H' (Q : VK), i < n → Same H1 H → Y i H x H' → (∀ y H4 d, Same H H4 → ds[i]? = some d → De K H4 y d → Q y H4) → g x (wipe σ vs) H' fun σ2 H2 => wipe σ2 vs = wipe σ vs ∧ te σ2 H2 Q)
    (hd : ∀ H acc, Same H1 H → H D = some (.lst acc) → DeAll K H acc ds → Qd H) : LcGoal J g tYes te vs σ H1 D Qd := by
  refine lc_it w (fun i H => Same H1 H ∧ ∃ acc, H D = some (.lst acc) ∧ DeAll K H acc (ds.take i)) ⟨same_upd hD, [], upd_same, .nil⟩ (fun i H _ p => hG H p.1) (fun i x H H' hi p y => ?_) (fun H p => ?_)
  · obtain ⟨p1, acc, p2, p3⟩ := p
    refine step i x H H' _ hi p1 y fun v H4 d e he hv => ⟨acc, e _ _ p2, ?_, (p1.trans e).mut hD, _, upd_same, ?_⟩
    · rw [p3.length, List.length_take]
      exact Nat.lt_of_le_of_lt (Nat.min_le_left _ _) (Nat.lt_of_lt_of_le hi (Nat.le_trans hn (by decide)))
    · rw [List.take_add_one, he]
      have e4 : H4 D = some (.lst acc) := e _ _ p2
      have st : SF K H4 (upd H4 D (.lst (acc ++ [v]))) := sf_upd e4 True.intro
      exact DeAll.snoc (De.sf st _ _ hv) (De.sfAll ((same_sf e).trans st) _ _ p3)
  · obtain ⟨p1, acc, p2, p3⟩ := p
    rw [List.take_of_length_le (Nat.le_of_eq hl)] at p3
    exact hd H acc p1 p2 p3
section
variable {X : Cx}
/-- tuple(list): the new tuple has no dict -/
abbrev yTupF (K : PySem.W.Frag) : List V → Hp → VK → Prop := fun xs H Q => ∃ p ys, xs = [.ref p] ∧ SqL K H p ys ∧ ∀ l o, H l = none → o.dict = none → Q (.ref l) (upd H l (.frz o (.tup ys)))
theorem call_tuple_ofF : CallR X (.type "tuple") (yTupF X.K) := by
  intro pins s σ H xs us Q I r h
  obtain ⟨p, ys, rfl, hq, q⟩ := h
  obtain ⟨u, rfl, rx⟩ := vals1 r
  cases rx
  obtain ⟨its, r', pl, hz⟩ := I.list hq
  have hlen := r'.length
  refine call_tuple_list pl.isList (fun h' kp => ?_) (by simp only [List.size_toArray]; omega)
  have I1 : Inv X pins σ H { s with heap := h' } := I.kept (t' := s.toks) kp
  generalize hob : ({ cls := .type "tuple", data := .seq its.toArray } : Obj) = ob
  have hd : ob.dict = none := by rw [← hob]
  have hg : (h'.push ob).get? h'.objs.size = some ob := Heap.get?_push_size _ (by rw [← hob]; rfl)
  have I2 : Inv X pins σ (upd H h'.objs.size (.frz ob (.tup ys))) { s with heap := h'.push ob } :=
    I1.laid (t' := s.toks) (fun b o e => Heap.get?_push_of_some _ e) (Nat.le_refl _) (show ObjOk X.prog X.w _ _ _ (.frz ob (.tup ys)) from ⟨hg, hz, its, r', ⟨ob, hg, by rw [← hob], 0, by rw [← hob]⟩⟩)
  exact ⟨.ref h'.objs.size, _, I2, rfl, q _ ob (I1.hok.fresh (Nat.le_refl _)) hd⟩
/-- t.m(e, ..) of a tuple without a dict -/
def tBMF (r : V → List V → Hp → VK → Prop) (to : TE) (t : TA) : TE := fun σ H Q => to σ H fun x H1 => (∃ a o xs, x = .ref a ∧ H1 a = some (.frz o (.tup xs)) ∧ o.dict = none) ∧ t σ H1 fun xs H2 => r x xs H2 Q
theorem pe_bmF {o e : Expr} {es : List Expr} {to : TE} {t : TA} {name : Str} {apos cpos : Pos} {id : String} {r : V → List V → Hp → VK → Prop} (pa : PlainAttrs "tuple") (slot : Slot "tuple" name id) (hty : typeOf (.builtin id) = pure (.type "method_descriptor")) (hm : MtR X id r) (ho : PE X o to) (ha : PA X (e :: es) t)
    (hbase : attributeBase o name X.env (eval o X.env) = eval o X.env := by rfl)
    (hfew : ((backTo cpos (starEach (e :: es) X.env)).all (fun x => !x.1) && (backToKw cpos (keywordEach [] X.env)).all (fun x => x.1.isSome)
      && decide ((e :: es).length + ([] : List Keyword).length + (if ([] : List Keyword).isEmpty then 0 else 1) < 30)) = true := by rfl)
    (hline : (apos.endLine == cpos.line) = true := by rfl) (hs : starEach (e :: es) X.env = (false, eval e X.env) :: starEach es X.env := by rfl) (hplain : (backTo cpos (starEach es X.env)).any (·.1) = false := by rfl) :
    PE X (.Call (.Attribute o name apos) (e :: es) [] cpos) (tBMF r to t) := by
  refine ⟨fun pins s σ H Q I h => ?_⟩
  refine wpAny_Call_method_late hbase hfew hline rfl (thn (ho.run pins s σ H _ I h) fun v s1 ⟨x, H1, I1, r1, ⟨a, ob, xs, ex, hx, hd⟩, q1⟩ => ?_)
  subst ex
  obtain rfl : v = Value.ref a := r1
  obtain ⟨hg, _, its, _, o2, hg2, hc, _⟩ := I1.hok a _ hx
  obtain rfl : o2 = ob := Option.some.inj (hg2.symm.trans hg)
  refine ⟨"tuple", id, pa, slot, hty, ⟨o2, hg, hc⟩, fun b eb => ?_, ?_⟩
  · cases eb
    exact ⟨o2, hg, hd⟩
  · have hA := ha.run cpos pins s1 σ H1 _ I1 q1
    rw [hs] at hA ⊢
    refine Calls.callWith_builtin (by show (false || (backTo cpos (starEach es X.env)).any (·.1)) = false; rw [hplain]; rfl) (Calls.evalArgs_plain ?_)
    exact thn hA fun us s2 ⟨vs, H2, I2, r2, q2⟩ => hm pins s2 σ H2 (.ref a) vs (.ref a) us Q I2 rfl r2 q2
/-- t.index(x): the first place of an equal one -/
def rIndexX (K : PySem.W.Frag) : V → List V → Hp → VK → Prop := fun x xs H Q => ∃ (a : Addr) (us : List V) (y : V) (d : PyData) (ds : List PyData) (j : Nat) (z : PyData), x = .ref a ∧ xs = [y] ∧ SqT K H a us ∧ DaAll K H us ds ∧ Da K H y d ∧ immAll ds = true ∧ imm d = true ∧ d.depth ≤ 16 ∧
  ds[j]? = some z ∧ PyData.eqv z d = true ∧ (∀ (m : Nat) (e : PyData), m < j → ds[m]? = some e → PyData.eqv e d = false) ∧ Q (.int (j : Nat)) H
theorem mt_indexX (hu : X.A.units + 65 < cLine) : MtR X "tuple.index" (rIndexX X.K) := by
  intro pins s σ H x xs v us Q I rx rxs h
  obtain ⟨a, ws, y, d, ds, j, z, rfl, rfl, hs, ha, hy, il, id', dp, hz, hzj, hno, q⟩ := h
  obtain ⟨uy, rfl, ry⟩ := vals1 rxs
  obtain ⟨bs, r1⟩ := Dp.reads I d y uy (Da.dp _ _ hy) ry
  cases rx
  obtain ⟨its, rv, ⟨⟨cls, dd, data, sls⟩, ho, hc, n, hdt⟩, hlen⟩ := I.tuple hs
  simp only at hc hdt
  subst hc hdt
  obtain ⟨as, h4⟩ := Dp.readsAll I ds _ its (Da.dpAll _ _ ha) rv
  have pl := NSet.imm_plainAll ds il
  have hmap : its.map (SeqAt.readOf s.heap) = ds := SeqAt.readsAll_map_plain ds its as pl h4
  obtain ⟨hjd, _⟩ := List.getElem?_eq_some_iff.mp hz
  have hn : its.length = ds.length := by rw [← hmap, List.length_map]
  have hj : j < its.toArray.size := by
    rw [List.size_toArray]
    omega
  have at_ : ∀ (m : Nat) (hm : m < its.toArray.size) (z' : PyData), ds[m]? = some z' → SeqAt.readOf s.heap its.toArray[m] = z' := by
    intro m hm z' hz'
    have hml : m < its.length := by simpa using hm
    rw [← hmap, List.getElem?_map, List.getElem?_eq_getElem hml] at hz'
    have e1 : SeqAt.readOf s.heap its[m] = z' := Option.some.inj hz'
    simpa using e1
  refine call_meets PySem.F.slot_tuple_index ⟨_, ho, rfl⟩ PySem.F.entry_tuple_index (PySem.F.args_tuple_index_2 _ _) (TI.tuple_indexAt a its.toArray n dd sls uy (fun u => PyData.eqv (SeqAt.readOf s.heap u) d) j hj ?_ ?_)
    ⟨ho, SeqAt.items_plain (vs := its.toArray) (show ReadsAll s.heap its.toArray.toList ds as from h4) r1 pl (NSet.imm_plain d id') (by have := Nat.min_le_right (PyData.depthAll ds) d.depth; omega), ⟨.int (j : Nat), H, I.tok _, ⟨_, rfl⟩, q⟩⟩
  · show PyData.eqv (SeqAt.readOf s.heap its.toArray[j]) d = true
    rw [at_ j hj z hz]
    exact hzj
  · intro m hm hmj
    have hmd : m < ds.length := by rw [List.size_toArray] at hm; omega
    show PyData.eqv (SeqAt.readOf s.heap its.toArray[m]) d = false
    rw [at_ m hm _ (List.getElem?_eq_getElem hmd)]
    exact hno m _ hmj (List.getElem?_eq_getElem hmd)
/-- x in t, t a tuple of data -/
def rInX (K : PySem.W.Frag) : R2 := fun x y H Q => ∃ d a us ds, Da K H x d ∧ y = .ref a ∧ SqT K H a us ∧ DaAll K H us ds ∧ imm d = true ∧ immAll ds = true ∧ d.depth ≤ 16 ∧ Q (.bl (ds.any fun z => PyData.eqv z d)) H
theorem op_inX (hu : X.A.units + 65 < cLine) : OpR X (compareOp .In) (rInX X.K) := by
  intro pins s σ H x y v u Q I rx ry h
  obtain ⟨d, a, us, ds, hd, rfl, hs, ha, sd, se, dp, q⟩ := h
  obtain ⟨as, r1⟩ := Dp.reads I d x v (Da.dp _ _ hd) rx
  obtain ⟨bs, r2⟩ := Dp.reads I (.tuple ds) (.ref a) u (.tup hs (Da.dpAll _ _ ha)) ry
  exact SeqAt.in_tuple_data r2 r1 (NSet.imm_plainAll ds se) (NSet.imm_plain d sd) (by have := Nat.min_le_right (PyData.depthAll ds) d.depth; omega) ⟨.bl _, H, I, rfl, q⟩
end
end NT

/-! dicts with data as keys; the least of a list of data -/
namespace NSet
open PySem PySem.Spec PySem.W PyProof.Rows L2
/-- a row: the key, where it stands, where the value stands -/
abbrev DRow := NestedKey × Addr × Addr
def entD (w : World) (x : DRow) : DictEntry := ⟨x.1.hash w, .ref x.2.1, .ref x.2.2⟩
def rowOf (x : DRow) : NestedKey × Addr × Value := (x.1, x.2.1, .ref x.2.2)
def Dict0 (w : World) (h : Heap) (a : Addr) (L : List DRow) : Prop :=
  ∃ es ep, (∃ o, h.get? a = some o ∧ o.ExactDict ∧ o.data = .dict es ep) ∧ es.toList = L.map (entD w) ∧ (L.map (·.1)).Nodup ∧ L.length ≤ sizeLine ∧ (a == sysModules) = false
def DictNO (w : World) (a : Addr) (L : List DRow) : HO := .ext fun h => Dict0 w h a L
def storedN (L : List DRow) (k : NestedKey) (a v : Addr) : List DRow :=
  if (L.find? fun x => decide (x.1 = k)).isSome = true then L.map (fun x => if x.1 = k then (x.1, x.2.1, v) else x) else L ++ [(k, a, v)]
theorem storedN_rows (L : List DRow) (k : NestedKey) (a v : Addr) : (storedN L k a v).map rowOf = storedH (L.map rowOf) k a (.ref v) := by
  unfold storedN storedH
  have e : (atKey (L.map rowOf) k).isSome = (L.find? fun x => decide (x.1 = k)).isSome := by
    unfold atKey
    rw [List.find?_map, Option.isSome_map, Option.isSome_map]
    rfl
  rw [e]
  by_cases c : (L.find? fun x => decide (x.1 = k)).isSome = true
  · rw [if_pos c, if_pos c, List.map_map, List.map_map]
    refine List.map_congr_left fun x _ => ?_
    show rowOf (if x.1 = k then (x.1, x.2.1, v) else x) = putAt k (.ref v) (rowOf x)
    unfold putAt rowOf
    by_cases z : x.1 = k
    · rw [if_pos z, if_pos z]
    · rw [if_neg z, if_neg z]
  · rw [if_neg c, if_neg c, List.map_append]
    rfl
theorem storedN_len (L : List DRow) (k : NestedKey) (a v : Addr) : (storedN L k a v).length ≤ L.length + 1 := by
  unfold storedN
  split
  · rw [List.length_map]
    exact Nat.le_succ _
  · rw [List.length_append]
    exact Nat.le_refl _
/-- what stands in the dict behind a store -/
theorem storedN_mem {L : List DRow} {k : NestedKey} {a v : Addr} {x : DRow} (h : x ∈ storedN L k a v) : (x ∈ L ∧ x.1 ≠ k) ∨ (x.1 = k ∧ x.2.2 = v ∧ (x.2.1 = a ∨ ∃ y ∈ L, y.1 = k ∧ y.2.1 = x.2.1)) := by
  unfold storedN at h
  split at h
  · obtain ⟨y, hy, rfl⟩ := List.mem_map.mp h
    by_cases z : y.1 = k
    · rw [if_pos z]
      exact .inr ⟨z, rfl, .inr ⟨y, hy, z, rfl⟩⟩
    · rw [if_neg z]
      exact .inl ⟨hy, z⟩
  · rename_i c
    rcases List.mem_append.mp h with h | h
    · refine .inl ⟨h, fun z => c ?_⟩
      rw [List.find?_isSome]
      exact ⟨x, h, by simpa using z⟩
    · rw [List.mem_singleton] at h
      subst h
      exact .inr ⟨rfl, rfl, .inl rfl⟩
theorem storedN_old {L : List DRow} {k : NestedKey} {a v : Addr} {x : DRow} (h : x ∈ L) (n : x.1 ≠ k) : x ∈ storedN L k a v := by
  unfold storedN
  split
  · exact List.mem_map.mpr ⟨x, h, by rw [if_neg n]⟩
  · exact List.mem_append_left _ h
theorem storedN_new (L : List DRow) (k : NestedKey) (a v : Addr) : ∃ x ∈ storedN L k a v, x.1 = k ∧ x.2.2 = v := by
  unfold storedN
  split
  · rename_i c
    rw [List.find?_isSome] at c
    obtain ⟨x, hx, e⟩ := c
    have e' : x.1 = k := by simpa using e
    exact ⟨(x.1, x.2.1, v), List.mem_map.mpr ⟨x, hx, by rw [if_pos e']⟩, e', rfl⟩
  · exact ⟨_, List.mem_append_right _ (List.mem_singleton.mpr rfl), rfl, rfl⟩
section
variable {P : Program} {w : World} {h : Heap} {a : Addr} {L : List DRow}
theorem Dict0.full (R : Dict0 w h a L) (hk : ∀ x ∈ L, Nst h x.1 x.2.1) : h.DictOfH (nestedKind P w) a (L.map rowOf) := by
  obtain ⟨es, ep, ⟨o, ho, hx, hd⟩, he, hn, _⟩ := R
  refine ⟨o, es, ep, ho, hx, hd, ?_, fun x hx => ?_, ?_⟩
  · rw [he, List.map_map]
    rfl
  · obtain ⟨y, hy, rfl⟩ := List.mem_map.mp hx
    exact hk y hy
  · rw [List.map_map]
    exact hn
theorem Dict0.of (hm : h.DictOfH (nestedKind P w) a (L.map rowOf)) (hz : L.length ≤ sizeLine) (hs : (a == sysModules) = false) : Dict0 w h a L := by
  obtain ⟨o, es, ep, ho, hx, hd, he, _, hn⟩ := hm
  rw [List.map_map] at he hn
  exact ⟨es, ep, ⟨o, ho, hx, hd⟩, he, hn, hz, hs⟩
theorem dictNO_new {H : Hp} (R : Dict0 w h a L) : ObjOk P w H h a (DictNO w a L) := by
  have ⟨_, _, ⟨o, ho, _⟩, _⟩ := R
  exact ⟨R, ⟨o, ho⟩, fun h1 h2 ⟨es, ep, ⟨o, ho, r⟩, q⟩ k => ⟨es, ep, ⟨o, k o ho, r⟩, q⟩⟩
end
section
variable {X : Cx} {pos : Pos}
/-- the keys, as the abstract heap has them -/
def MemK (K : PySem.W.Frag) (H : Hp) (L : List DRow) : Prop := ∀ x ∈ L, ∃ d, Da K H (.ref x.2.1) d ∧ imm d = true ∧ x.1 = kOf d ∧ (kOf d).depth ≤ 8
theorem MemK.nst {pins : List (Addr × Obj)} {σ : L2.St} {H : Hp} {s : Shared} (I : Inv X pins σ H s) {L : List DRow} (m : MemK X.K H L) : ∀ x ∈ L, Nst s.heap x.1 x.2.1 := fun x hx => by
  obtain ⟨d, hd, i, e, dp⟩ := m x hx
  rw [e]
  exact ⟨nest_of I d _ _ hd i rfl, dp⟩
theorem MemK.stored {K : PySem.W.Frag} {H : Hp} {L : List DRow} (m : MemK K H L) {b v : Addr} {d : PyData} (hb : Da K H (.ref b) d) (hd : imm d = true) (dp : (kOf d).depth ≤ 8) : MemK K H (storedN L (kOf d) b v) := fun x hx => by
  rcases storedN_mem hx with ⟨h, _⟩ | ⟨e, _, h | ⟨y, hy, ey, e2⟩⟩
  · exact m x h
  · rw [h]
    exact ⟨d, hb, hd, e, dp⟩
  · obtain ⟨d2, a1, a2, a3, a4⟩ := m y hy
    rw [← e2]
    exact ⟨d2, a1, a2, by rw [← a3, e, ey], a4⟩
def tDNewN (w : World) : TE := fun _ H Q => ∀ p, H p = none → Q (.ref p) (upd H p (DictNO w p []))
theorem pe_dnewN : PE X (.Dict [] [] pos) (tDNewN X.w) := ⟨fun pins s σ H Q I h =>
  wpAny_Dict_empty ⟨.ref s.heap.objs.size, _, I.laid (a := s.heap.objs.size) (o := DictNO X.w s.heap.objs.size []) (t' := s.toks) (fun _ _ q => Heap.get?_push_of_some _ q) (Nat.le_refl _)
    (dictNO_new ⟨#[], 0, ⟨_, Heap.get?_push_size _ rfl, ⟨rfl, rfl, rfl⟩, rfl⟩, rfl, List.nodup_nil, Nat.zero_le _, beq_eq_false_iff_ne.mpr (Ne.symm (Nat.ne_of_lt I.big))⟩), rfl, h _ (I.hok.fresh (Nat.le_refl _))⟩⟩
/-- d[y] = v, d a dict with data as keys, y and v tuples or other objects -/
def sDPutN (K : PySem.W.Frag) (w : World) (td ty tv : TE) : TS := fun D σ H => tv σ H fun v H1 => td σ H1 fun x H2 => ty σ H2 fun y H3 => ∃ (a b vb : Addr) (L : List DRow) (d : PyData), x = .ref a ∧ y = .ref b ∧ v = .ref vb ∧ H3 a = some (DictNO w a L) ∧ MemK K H3 L ∧
  Da K H3 (.ref b) d ∧ imm d = true ∧ (kOf d).depth ≤ 8 ∧ L.length < sizeLine ∧ D.nx σ (upd H3 a (DictNO w a (storedN L (kOf d) b vb)))
variable {o i value : Expr} {pos' : Pos} {td ty tv : TE}
theorem ps_dputN (hu : X.A.units + 24 < cLine) (ho : PE X o td) (hi : PE X i ty) (hv : PE X value tv) (hs : swapsWith value (some (.Subscript o i pos')) pos.line X.env = pure false := by rfl) :
    PS X (.Assign [.Subscript o i pos'] value pos) (sDPutN X.K X.w td ty tv) := by
  refine ⟨fun pins s σ H D I h => ?_⟩
  refine wpAny_Assign_Subscript (thn (hv.run pins s σ H _ I h) fun r s1 ⟨v, H1, I1, rv, q1⟩ => thn (ho.run pins s1 σ H1 _ I1 q1) fun u s2 ⟨x, H2, I2, rx, q2⟩ => thn (hi.run pins s2 σ H2 _ I2 q2) fun iv s3 ⟨y, H3, I3, ry, a, b, vb, L, d, ex, ey, ev, ha, hm, hd, himm, dp, hl, q3⟩ => ?_) hs
  subst ex ey ev
  obtain rfl : u = Value.ref a := rx
  obtain rfl : iv = Value.ref b := ry
  obtain rfl : r = Value.ref vb := rv
  have R0 : Dict0 X.w s3.heap a L := (I3.hok a _ ha).1
  obtain ⟨_, _, _, _, _, _, hsys⟩ := id R0
  have hx : Nst s3.heap (kOf d) b := ⟨nest_of I3 d _ _ hd himm rfl, dp⟩
  have hu1 : X.A.in1.units + 8 < cLine := by
    have e1 : X.A.in1.units = X.A.units + 1 := rfl
    omega
  refine wpAny_setItem_heap (knd := nestedKind X.prog X.w) (xs := L.map rowOf) hu1 hx (R0.full (hm.nst I3)) (fun h' hm' sb => ?_) (by rw [List.length_map]; omega)
  rw [← storedN_rows] at hm'
  have R1 : Dict0 X.w h' a (storedN L (kOf d) b vb) := .of hm' (Nat.le_trans (storedN_len _ _ _ _) hl) hsys
  obtain ⟨_, _, ⟨o2, ho2, _⟩, _⟩ := id R1
  exact ⟨σ, _, I3.write (e := a) (by rw [ha]; trivial) (.inl rfl) (fun c u hc hu => (sb.2 c hc).trans hu) ⟨o2, ho2⟩ (dictNO_new R1), q3⟩
/-! ### list(d.values()) -/
def tValuesN (w : World) (td : TE) : TE := fun σ H Q => td σ H fun x H1 => ∃ (a : Addr) (L : List DRow), x = .ref a ∧ H1 a = some (DictNO w a L) ∧ ∀ v, H1 v = none → Q (.ref v) (upd H1 v (viewO "dict_values" v a))
theorem pe_valuesN {apos cpos : Pos} (ho : PE X o td) (hbase : attributeBase o "values" X.env (eval o X.env) = eval o X.env := by rfl) (hline : (apos.endLine == cpos.line) = true := by rfl) : PE X (.Call (.Attribute o "values" apos) [] [] cpos) (tValuesN X.w td) := by
  refine ⟨fun pins s σ H Q I h => ?_⟩
  refine wpAny_Call_method0_late hbase hline (thn (ho.run pins s σ H _ I h) fun v s1 ⟨x, H1, I1, r1, a, L, ex, ha, q⟩ => ?_)
  subst ex
  obtain rfl : v = Value.ref a := r1
  have R0 : Dict0 X.w s1.heap a L := (I1.hok a _ ha).1
  obtain ⟨es, ep, ⟨ob, hob, hex, hdat⟩, _, _, _, hsys⟩ := R0
  refine ⟨"dict", "dict.values", PySem.F.plainAttrs_dict, PySem.F.slot_dict_values, PySem.F.type_dict_values, ⟨ob, hob, hex.1⟩, fun b e => ?_, Calls.callWith_builtin rfl (PySem.evalArgs_none ?_)⟩
  · cases e
    exact ⟨ob, hob, hex.2.1⟩
  refine wpAny_call_entry PySem.F.slot_dict_values ⟨ob, hob, hex.1⟩ PySem.F.entry_dict_values ?_ (PySem.F.args_dict_values_1 _)
  refine wpAny_bind ?_
  unfold Builtin.Dict.noArgs
  refine wpAny_bind (wpAny_notOrdered_dict ⟨ob, hob, hex.1⟩ ?_)
  show wpAny _ _ (pure a) _ _ s1
  refine wpAny_pure ?_
  show wpAny _ _ (Builtin.Dict.showsAll a >>= _) _ _ s1
  unfold Builtin.Dict.showsAll
  rw [if_neg (by rw [hsys]; exact Bool.false_ne_true)]
  refine wpAny_bind (wpAny_pure ?_)
  have hnew := I1.hok.fresh (Nat.le_refl s1.heap.objs.size)
  exact wpAny_bind (wpAny_newObj_type (wpAny_pure ⟨_, rfl, .ref s1.heap.objs.size, _, I1.laid (t' := s1.toks) (fun b u e => Heap.get?_push_of_some _ e) (Nat.le_refl _) (viewO_ok (p := s1.heap.objs.size) (Heap.get?_push_size _ rfl)), rfl, q _ hnew⟩))
theorem values_src {prog : Program} {w : World} {r d : Addr} {ob : Obj} {es : Array DictEntry} {ep : Nat} (hdd : ob.data = .dict es ep) : KdlSrc prog w "dict_values" r d es.size (fun i v => ∃ e, es[i]? = some e ∧ v = e.val) (fun h => h.get? r = some (DSub.viewOb "dict_values" d) ∧ h.get? d = some ob) where
  type := fun _ hm => ⟨_, hm.1, rfl⟩
  there := fun _ hm => ⟨Heap.lt_size hm.1, Heap.lt_size hm.2⟩
  keep := fun _ _ hm hk => ⟨hk r (.inl rfl) _ hm.1, hk d (.inr rfl) _ hm.2⟩
  notList := by decide
  notTuple := by decide
  hint := fun _ _ _ _ hm hq => kdl_hint_values ⟨_, hm.1, rfl⟩ hq
  iter := fun A s hh hm => ⟨DVw.valOb d 0 es.size ep, _, (fun _ _ hq => DSub.iter_vals hm.1 hm.2 hdd hq), DSub.walksVal (P := fun i v => ∃ e, es[i]? = some e ∧ v = e.val) hh (Nat.ne_of_lt (Heap.lt_size hm.2)) hdd (fun i e h => ⟨e, h, rfl⟩), ⟨Heap.get?_push_size _ rfl, Heap.get?_push_of_some _ hm.2⟩⟩
def rListV (w : World) : List V → Hp → VK → Prop := fun xs H Q => ∃ (p a : Addr) (L : List DRow), xs = [.ref p] ∧ H p = some (viewO "dict_values" p a) ∧ H a = some (DictNO w a L) ∧ ∀ q, H q = none → Q (.ref q) (upd H q (.lst (L.map fun x => V.ref x.2.2)))
theorem call_listV (hc : X.calm = true) : CallR X (.type "list") (rListV X.w) := by
  intro pins s σ H xs us Q I r h
  obtain ⟨p, a, L, rfl, hp, ha, q⟩ := h
  obtain ⟨u, rfl, rx⟩ := vals1 r
  obtain rfl : u = Value.ref p := rx
  have hv : s.heap.get? p = some (DSub.viewOb "dict_values" a) := (show ObjOk X.prog X.w H s.heap p (viewO "dict_values" p a) from I.hok p _ hp).1
  have R0 : Dict0 X.w s.heap a L := (I.hok a _ ha).1
  obtain ⟨es, ep, ⟨ob, hob, hex, hdat⟩, he, _, hz, _⟩ := R0
  have sz : es.size = L.length := by rw [← Array.length_toList, he, List.length_map]
  refine kdl_call (values_src hdat) (I.ok.hd hc) ⟨hv, hob⟩ (by rw [sz]; exact hz) fun h' tk acc' c' hkeep hS hacc => ?_
  refine ⟨.ref s.heap.objs.size, upd H s.heap.objs.size (.lst (L.map fun x => V.ref x.2.2)), I.laid hkeep (Nat.le_refl _) (show ObjOk X.prog X.w _ _ _ (.lst (L.map fun x => V.ref x.2.2)) from ⟨?_, acc'.toList, c', ?_, ?_⟩), rfl, q _ (I.hok.fresh (Nat.le_refl _))⟩
  · rw [List.length_map]
    exact hz
  · have el : acc'.toList.length = acc'.size := by simp
    refine vals_of_at (by rw [List.length_map, el, hacc.1, sz]) fun j x w h1 h2 => ?_
    obtain ⟨e, hj, rfl⟩ := hacc.2 j w (by rw [← Array.getElem?_toList]; exact h2)
    rw [← Array.getElem?_toList, he, List.getElem?_map] at hj
    rw [List.getElem?_map] at h1
    cases hL : L[j]? with
    | none =>
      rw [hL] at h1
      cases h1
    | some y =>
      rw [hL] at h1 hj
      cases h1
      cases hj
      rfl
  · rw [Array.toArray_toList]
    exact hS
end
end NSet

/-! the least of a list of data; sorted of a tuple of data -/
namespace NSet
open PySem PySem.Spec PySem.W PyProof.Rows L2 RW9
theorem swoD : SrtO.Swo dataLt := by
  have ir := (listOrd itemOrd).irrefl
  refine ⟨fun x y h => ?_, fun x y z h1 h2 => ?_⟩
  · show (listOrd itemOrd).blt (keyToks y) (keyToks x) = false
    cases e : (listOrd itemOrd).blt (keyToks y) (keyToks x) with
    | false => rfl
    | true => exact absurd ((listOrd itemOrd).trans _ _ _ h e) (by rw [ir]; exact Bool.false_ne_true)
  · show (listOrd itemOrd).blt (keyToks z) (keyToks x) = false
    cases e : (listOrd itemOrd).blt (keyToks z) (keyToks x) with
    | false => rfl
    | true =>
      rcases (listOrd itemOrd).negTrans _ (keyToks y) _ e with q | q
      · exact absurd (q.symm.trans h2) (by decide)
      · exact absurd (q.symm.trans h1) (by decide)
theorem minD_spec : ∀ (xs : List PyData) (x : PyData), minD x xs ∈ x :: xs ∧ ∀ e ∈ x :: xs, dataLt e (minD x xs) = false
  | [], x => ⟨List.mem_singleton.mpr rfl, fun e he => by
    rw [List.mem_singleton.mp he]
    exact swoD.refl x⟩
  | y :: ys, x => by
    obtain ⟨h1, h2⟩ := minD_spec ys (if dataLt y x = true then y else x)
    have e : minD x (y :: ys) = minD (if dataLt y x = true then y else x) ys := rfl
    rw [e]
    generalize minD (if dataLt y x = true then y else x) ys = m at h1 h2 ⊢
    by_cases c : dataLt y x = true
    · rw [if_pos c] at h1 h2
      refine ⟨List.mem_cons_of_mem _ h1, fun u hu => ?_⟩
      rcases List.mem_cons.mp hu with rfl | hu
      · exact swoD.tr m y _ (h2 y List.mem_cons_self) (swoD.asym _ _ c)
      · exact h2 u hu
    · rw [if_neg c] at h1 h2
      refine ⟨?_, fun u hu => ?_⟩
      · rcases List.mem_cons.mp h1 with h | h
        · rw [h]
          exact List.mem_cons_self
        · exact List.mem_cons_of_mem _ (List.mem_cons_of_mem _ h)
      · rcases List.mem_cons.mp hu with rfl | hu
        · exact h2 _ List.mem_cons_self
        · rcases List.mem_cons.mp hu with rfl | hu
          · exact swoD.tr m x _ (h2 x List.mem_cons_self) (by simpa using c)
          · exact h2 u (List.mem_cons_of_mem _ hu)
theorem depthAll_le {n : Nat} : ∀ ds : List PyData, (∀ d ∈ ds, d.depth ≤ n) → PyData.depthAll ds ≤ n
  | [], _ => Nat.zero_le _
  | d :: ds, h => Nat.max_le.mpr ⟨h d List.mem_cons_self, depthAll_le ds fun e he => h e (List.mem_cons_of_mem _ he)⟩
section
variable {X : Cx}
/-- min(l), l a list of data, one at least -/
def rMinD (K : PySem.W.Frag) : List V → Hp → VK → Prop := fun vs H Q => ∃ (a : Addr) (lv : List V) (ds : List PyData), vs = [.ref a] ∧ SqL K H a lv ∧ DaAll K H lv ds ∧ (∀ d ∈ ds, ∀ e ∈ ds, alike d e = true) ∧ (∀ d ∈ ds, d ≠ .none) ∧ (∀ d ∈ ds, d.depth ≤ 16) ∧ ds ≠ [] ∧
  ∀ (v : V) (m : PyData), v ∈ lv → Da K H v m → m ∈ ds → (∀ e ∈ ds, dataLt e m = false) → Q v H
theorem cr_minD (hc : X.calm = true) (hu : X.A.units + 64 < cLine) : CallR X (.builtin "min") (rMinD X.K) := by
  intro pins s σ H vs us Q I r h
  obtain ⟨a, lv, ds, rfl, hs, hd, hal, hnn, hdp, hne, q⟩ := h
  rw [Vals.ref1 r]
  obtain ⟨its, rv, pl, hz⟩ := I.list hs
  obtain ⟨as, hr⟩ := Dp.readsAll I ds lv its (Da.dpAll _ _ hd) rv
  cases ds with
  | nil => exact absurd rfl hne
  | cons x xs =>
    have hd1 := depthAll_le (x :: xs) hdp
    refine PySem.W.min_list_data (vs := its.toArray) (I.ok.hd hc) pl.isList (by simpa using hr) ⟨hal, hnn⟩ (by omega) fun i v h' tk bs hv hrd k => ?_
    have hv' : its[i]? = some v := by simpa using hv
    obtain ⟨bs', r1, hi, _, _⟩ := PySem.W.readsAll_at hr i v hv'
    have r' := PySem.W.reads_keeps k r1
    have eu := (Reads.unique r' _ _ hrd).1
    have lt : i < lv.length := by
      have := hd.length
      omega
    obtain ⟨dd, h1, h2⟩ := hd.get (i := i) (v := lv[i]) (by simp [lt])
    have hdd : (x :: xs).getD i .none = dd := by rw [List.getD_eq_getElem?_getD, h1]; rfl
    rw [hdd] at eu
    rw [eu] at h2
    obtain ⟨u, hu1, hu2⟩ := Vals.get (i := i) (x := lv[i]) rv (by simp [lt])
    have : u = v := Option.some.inj (hu1.symm.trans hv')
    subst this
    obtain ⟨m1, m2⟩ := minD_spec xs x
    exact ⟨lv[i], H, I.kept (t' := tk) k, hu2, q _ _ (List.getElem_mem lt) h2 m1 m2⟩
/-- sorted(t), t a tuple of data -/
def rSortDT (K : PySem.W.Frag) : List V → Hp → VK → Prop := fun vs H Q => ∃ (a : Addr) (xs : List V) (ds : List PyData), vs = [.ref a] ∧ SqT K H a xs ∧ DaAll K H xs ds ∧ Sorts ds ∧
  ∀ (p : Addr) (ys : List V) (M : List PyData), H p = none → M.Perm ds → M.Pairwise (fun d e => dataLt e d = false) → DaAll K (upd H p (.lst ys)) ys M → Q (.ref p) (upd H p (.lst ys))
theorem cr_sortDT (hu : X.A.units + 24 < cLine) : CallR X (.builtin "sorted") (rSortDT X.K) := by
  intro pins s σ H vs us Q I r h
  obtain ⟨a, xs, ds, rfl, hl, hd, hs, q⟩ := h
  obtain rfl := Vals.ref1 r
  obtain ⟨its, rv, pl, hz⟩ := I.tuple hl
  obtain ⟨T, e1, e2, e3, hT⟩ := tri_of hd hs.1 rv
  subst e1 e2 e3
  have hz' : T.length ≤ sizeLine := by rw [List.length_map] at hz; exact hz
  refine sorted_by hu I T hT hs hz' (fun Qc hq => ?_) q
  have lenV : (T.map (·.2.1)).length ≤ sizeLine := by
    rw [List.length_map]
    exact hz'
  obtain ⟨o, ho, hc, n, hdat⟩ := pl
  refine wpAny_collect_seq a (.inr rfl) ho hc hdat (fun h' k => ?_)
  exact hq _ T (I.kept (t' := s.toks) k) (List.Perm.refl _)
end
end NSet

/-! == of ints, texts, None and tuples of them, whatever the texts -/
namespace NSet
open PySem PySem.Spec PySem.W PyProof.Rows L2
mutual
theorem eqv_keyed : ∀ d e : PyData, keyed d = true → keyed e = true → (PyData.eqv d e = true ↔ d = e)
  | .none, e, _, he => by cases e <;> simp [PyData.eqv]
  | .bool _, _, hd, _ => by cases hd
  | .int i, e, _, he => by
    cases e with
    | bool b => cases he
    | _ => simp [PyData.eqv]
  | .str x, e, _, he => by cases e <;> simp [PyData.eqv]
  | .tuple ds, e, hd, he => by
    cases e with
    | tuple es =>
      have := eqvAll_keyed ds es hd he
      simp only [PyData.eqv, PyData.tuple.injEq]
      exact this
    | _ => simp [PyData.eqv]
  | .list _, _, hd, _ => by cases hd
  | .dict _, _, hd, _ => by cases hd
theorem eqvAll_keyed : ∀ ds es : List PyData, keyedAll ds = true → keyedAll es = true → (PyData.eqvAll ds es = true ↔ ds = es)
  | [], [], _, _ => by simp [PyData.eqvAll]
  | [], e :: es, _, _ => by simp [PyData.eqvAll]
  | d :: ds, [], _, _ => by simp [PyData.eqvAll]
  | d :: ds, e :: es, hd, he => by
    have hd' : (keyed d && keyedAll ds) = true := hd
    have he' : (keyed e && keyedAll es) = true := he
    rw [Bool.and_eq_true] at hd' he'
    rw [PyData.eqvAll, Bool.and_eq_true, eqv_keyed d e hd'.1 he'.1, eqvAll_keyed ds es hd'.2 he'.2, List.cons.injEq]
end
theorem keyedAll_of {ds : List PyData} (h : ∀ d ∈ ds, keyed d = true) : keyedAll ds = true := by
  induction ds with
  | nil => rfl
  | cons d ds ih =>
    show (keyed d && keyedAll ds) = true
    rw [h d List.mem_cons_self, ih fun e he => h e (List.mem_cons_of_mem _ he)]
    rfl
section
variable {X : Cx}
def rEqP (K : PySem.W.Frag) : R2 := fun x y H Q => ∃ d e, Da K H x d ∧ Da K H y e ∧ keyed d = true ∧ keyed e = true ∧ d.depth ≤ 16 ∧ ∀ b : Bool, (b = true ↔ d = e) → Q (.bl b) H
theorem op_eqP (hu : X.A.units + 64 < cLine) : OpR X (compareOp .Eq) (rEqP X.K) := by
  intro pins s σ H x y v u Q I rx ry h
  obtain ⟨d, e, hd, he, kd, ke, dp, q⟩ := h
  obtain ⟨as, r1⟩ := Dp.reads I d x v (Da.dp _ _ hd) rx
  obtain ⟨bs, r2⟩ := Dp.reads I e y u (Da.dp _ _ he) ry
  refine SeqAt.eq_plain r1 r2 (imm_plain _ (keyed_imm _ kd)) (imm_plain _ (keyed_imm _ ke)) ?_ ⟨.bl _, H, I, rfl, q _ (eqv_keyed d e kd ke)⟩
  have := Nat.min_le_left d.depth e.depth
  omega
end
end NSet

/-! dicts with data as keys and any values -/
namespace NSet
open PySem PySem.Spec PySem.W PyProof.Rows L2
/-- a row: the key, where it stands, the value -/
abbrev DRowV := NestedKey × Addr × V
def rowV (p : DRowV × Value) : NestedKey × Addr × Value := (p.1.1, p.1.2.1, p.2)
def entV (w : World) (x : NestedKey × Addr × Value) : DictEntry := ⟨x.1.hash w, .ref x.2.1, x.2.2⟩
def Dict0V (w : World) (h : Heap) (a : Addr) (L : List DRowV) : Prop :=
  ∃ (us : List Value) (es : Array DictEntry) (ep : Nat), (∃ o, h.get? a = some o ∧ o.ExactDict ∧ o.data = .dict es ep) ∧ Vals (L.map (·.2.2)) us ∧ es.toList = ((L.zip us).map rowV).map (entV w) ∧ (L.map (·.1)).Nodup ∧ L.length ≤ sizeLine ∧ (a == sysModules) = false
def DictVO (w : World) (a : Addr) (L : List DRowV) : HO := .ext fun h => Dict0V w h a L
def valN (L : List DRowV) (k : NestedKey) : Option V := (L.find? fun x => decide (x.1 = k)).map (·.2.2)
def storedV (L : List DRowV) (k : NestedKey) (a : Addr) (v : V) : List DRowV :=
  if (L.find? fun x => decide (x.1 = k)).isSome = true then L.map (fun x => if x.1 = k then (x.1, x.2.1, v) else x) else L ++ [(k, a, v)]
theorem storedV_len (L : List DRowV) (k : NestedKey) (a : Addr) (v : V) : (storedV L k a v).length ≤ L.length + 1 := by
  unfold storedV
  split
  · rw [List.length_map]
    exact Nat.le_succ _
  · rw [List.length_append]
    exact Nat.le_refl _
/-- the value of a key, in both heaps -/
theorem at_val (k : NestedKey) : ∀ {L : List DRowV} {us : List Value}, Vals (L.map (·.2.2)) us → match valN L k, atKey ((L.zip us).map rowV) k with
    | some v, some p => RelV v p.2
    | none, none => True
    | _, _ => False
  | [], _, r => by
    cases r
    exact True.intro
  | x :: L, _, r => by
    cases r with
    | @cons v u vs us r1 r2 =>
      have ih := at_val k r2
      unfold valN atKey at ih ⊢
      rw [List.zip_cons_cons, List.map_cons, List.find?_cons, List.find?_cons]
      by_cases c : x.1 = k
      · have h1 : decide (x.1 = k) = true := decide_eq_true c
        have h2 : decide ((rowV (x, u)).1 = k) = true := h1
        simp only [h1, h2]
        exact r1
      · have h1 : decide (x.1 = k) = false := decide_eq_false c
        have h2 : decide ((rowV (x, u)).1 = k) = false := h1
        simp only [h1, h2]
        exact ih
theorem found_rows {L : List DRowV} {us : List Value} (k : NestedKey) (r : Vals (L.map (·.2.2)) us) : (atKey ((L.zip us).map rowV) k).isSome = (L.find? fun x => decide (x.1 = k)).isSome := by
  have h := at_val k r
  unfold valN at h
  cases e1 : (L.find? fun x => decide (x.1 = k)) with
  | none =>
    rw [e1] at h
    cases e2 : atKey ((L.zip us).map rowV) k with
    | none => rfl
    | some p =>
      rw [e2] at h
      exact (show False from h).elim
  | some y =>
    rw [e1] at h
    cases e2 : atKey ((L.zip us).map rowV) k with
    | none =>
      rw [e2] at h
      exact (show False from h).elim
    | some p => rfl
/-- a store, in both heaps -/
theorem stored_rows {k : NestedKey} {a : Addr} {v : V} {u : Value} (rv : RelV v u) {L : List DRowV} {us : List Value} (r : Vals (L.map (·.2.2)) us) : ∃ us2, Vals ((storedV L k a v).map (·.2.2)) us2 ∧ ((storedV L k a v).zip us2).map rowV = storedH ((L.zip us).map rowV) k a u := by
  unfold storedV storedH
  rw [found_rows k r]
  by_cases c : (L.find? fun x => decide (x.1 = k)).isSome = true
  · rw [if_pos c, if_pos c]
    clear c
    have go : ∀ {L : List DRowV} {us : List Value}, Vals (L.map (·.2.2)) us → ∃ us2, Vals ((L.map fun x => if x.1 = k then (x.1, x.2.1, v) else x).map (·.2.2)) us2 ∧ ((L.map fun x => if x.1 = k then (x.1, x.2.1, v) else x).zip us2).map rowV = ((L.zip us).map rowV).map (putAt k u) := by
      intro L
      induction L with
      | nil =>
        intro us r
        cases r
        exact ⟨[], .nil, rfl⟩
      | cons x L ih =>
        intro us r
        cases r with
        | @cons y z vs us r1 r2 =>
          obtain ⟨us2, h1, h2⟩ := ih r2
          by_cases c : x.1 = k
          · refine ⟨u :: us2, ?_, ?_⟩
            · rw [List.map_cons, if_pos c, List.map_cons]
              exact .cons rv h1
            · rw [List.map_cons, if_pos c, List.zip_cons_cons, List.map_cons, h2, List.zip_cons_cons, List.map_cons, List.map_cons]
              congr 1
              unfold putAt rowV
              rw [if_pos c]
          · refine ⟨z :: us2, ?_, ?_⟩
            · rw [List.map_cons, if_neg c, List.map_cons]
              exact .cons r1 h1
            · rw [List.map_cons, if_neg c, List.zip_cons_cons, List.map_cons, h2, List.zip_cons_cons, List.map_cons, List.map_cons]
              congr 1
              unfold putAt rowV
              rw [if_neg c]
    exact go r
  · rw [if_neg c, if_neg c]
    refine ⟨us ++ [u], ?_, ?_⟩
    · rw [List.map_append]
      exact r.append (.cons rv .nil)
    · have hl : L.length = us.length := by
        have := r.length
        rwa [List.length_map] at this
      rw [List.zip_append hl, List.map_append]
      rfl
section
variable {P : Program} {w : World} {h : Heap} {a : Addr} {L : List DRowV}
theorem zip_fst {L : List DRowV} {us : List Value} (r : Vals (L.map (·.2.2)) us) : ((L.zip us).map rowV).map (·.1) = L.map (·.1) := by
  have hl : L.length = us.length := by
    have := r.length
    rwa [List.length_map] at this
  rw [List.map_map]
  have : ((fun x : NestedKey × Addr × Value => x.1) ∘ rowV) = (fun x : DRowV => x.1) ∘ Prod.fst := rfl
  rw [this, ← List.map_map, List.map_fst_zip (by omega)]
theorem Dict0V.full (R : Dict0V w h a L) (hk : ∀ x ∈ L, Nst h x.1 x.2.1) : ∃ us, Vals (L.map (·.2.2)) us ∧ h.DictOfH (nestedKind P w) a ((L.zip us).map rowV) := by
  obtain ⟨us, es, ep, ⟨o, ho, hx, hd⟩, rv, he, hn, _⟩ := R
  refine ⟨us, rv, o, es, ep, ho, hx, hd, he, fun x hx => ?_, ?_⟩
  · obtain ⟨y, hy, rfl⟩ := List.mem_map.mp hx
    exact hk y.1 (List.of_mem_zip hy).1
  · rw [zip_fst rv]
    exact hn
theorem Dict0V.of {us : List Value} (rv : Vals (L.map (·.2.2)) us) (hm : h.DictOfH (nestedKind P w) a ((L.zip us).map rowV)) (hz : L.length ≤ sizeLine) (hs : (a == sysModules) = false) : Dict0V w h a L := by
  obtain ⟨o, es, ep, ho, hx, hd, he, _, hn⟩ := hm
  rw [zip_fst rv] at hn
  exact ⟨us, es, ep, ⟨o, ho, hx, hd⟩, rv, he, hn, hz, hs⟩
theorem dictVO_new {H : Hp} (R : Dict0V w h a L) : ObjOk P w H h a (DictVO w a L) := by
  have ⟨_, _, _, ⟨o, ho, _⟩, _⟩ := R
  exact ⟨R, ⟨o, ho⟩, fun h1 h2 ⟨us, es, ep, ⟨o, ho, r⟩, q⟩ k => ⟨us, es, ep, ⟨o, k o ho, r⟩, q⟩⟩
end
/-- the keys, as the abstract heap has them -/
def MemV (K : PySem.W.Frag) (H : Hp) (L : List DRowV) : Prop := ∀ x ∈ L, ∃ d, Da K H (.ref x.2.1) d ∧ imm d = true ∧ x.1 = kOf d ∧ (kOf d).depth ≤ 8
section
variable {X : Cx} {pos : Pos}
theorem MemV.nst {pins : List (Addr × Obj)} {σ : L2.St} {H : Hp} {s : Shared} (I : Inv X pins σ H s) {L : List DRowV} (m : MemV X.K H L) : ∀ x ∈ L, Nst s.heap x.1 x.2.1 := fun x hx => by
  obtain ⟨d, hd, i, e, dp⟩ := m x hx
  rw [e]
  exact ⟨nest_of I d _ _ hd i rfl, dp⟩
def tDNewV (w : World) : TE := fun _ H Q => ∀ p, H p = none → Q (.ref p) (upd H p (DictVO w p []))
theorem pe_dnewV : PE X (.Dict [] [] pos) (tDNewV X.w) := ⟨fun pins s σ H Q I h =>
  wpAny_Dict_empty ⟨.ref s.heap.objs.size, _, I.laid (a := s.heap.objs.size) (o := DictVO X.w s.heap.objs.size []) (t' := s.toks) (fun _ _ q => Heap.get?_push_of_some _ q) (Nat.le_refl _)
    (dictVO_new ⟨[], #[], 0, ⟨_, Heap.get?_push_size _ rfl, ⟨rfl, rfl, rfl⟩, rfl⟩, .nil, rfl, List.nodup_nil, Nat.zero_le _, beq_eq_false_iff_ne.mpr (Ne.symm (Nat.ne_of_lt I.big))⟩), rfl, h _ (I.hok.fresh (Nat.le_refl _))⟩⟩
def sDPutV (K : PySem.W.Frag) (w : World) (td ty tv : TE) : TS := fun D σ H => tv σ H fun v H1 => td σ H1 fun x H2 => ty σ H2 fun y H3 => ∃ (a b : Addr) (L : List DRowV) (d : PyData), x = .ref a ∧ y = .ref b ∧ H3 a = some (DictVO w a L) ∧ MemV K H3 L ∧
  Da K H3 (.ref b) d ∧ imm d = true ∧ (kOf d).depth ≤ 8 ∧ L.length < sizeLine ∧ D.nx σ (upd H3 a (DictVO w a (storedV L (kOf d) b v)))
variable {o i value f : Expr} {pos' apos cpos : Pos} {td ty tv tx : TE}
theorem ps_dputV (hu : X.A.units + 24 < cLine) (ho : PE X o td) (hi : PE X i ty) (hv : PE X value tv) (hs : swapsWith value (some (.Subscript o i pos')) pos.line X.env = pure false := by rfl) :
    PS X (.Assign [.Subscript o i pos'] value pos) (sDPutV X.K X.w td ty tv) := by
  refine ⟨fun pins s σ H D I h => ?_⟩
  refine wpAny_Assign_Subscript (thn (hv.run pins s σ H _ I h) fun r s1 ⟨v, H1, I1, rv, q1⟩ => thn (ho.run pins s1 σ H1 _ I1 q1) fun u s2 ⟨x, H2, I2, rx, q2⟩ => thn (hi.run pins s2 σ H2 _ I2 q2) fun iv s3 ⟨y, H3, I3, ry, a, b, L, d, ex, ey, ha, hm, hd, himm, dp, hl, q3⟩ => ?_) hs
  subst ex ey
  obtain rfl : u = Value.ref a := rx
  obtain rfl : iv = Value.ref b := ry
  have R0 : Dict0V X.w s3.heap a L := (I3.hok a _ ha).1
  obtain ⟨_, _, _, _, _, _, _, _, hsys⟩ := id R0
  obtain ⟨us, rus, dof⟩ := R0.full (P := X.prog) (hm.nst I3)
  have hx : Nst s3.heap (kOf d) b := ⟨nest_of I3 d _ _ hd himm rfl, dp⟩
  have hu1 : X.A.in1.units + 8 < cLine := by
    have e1 : X.A.in1.units = X.A.units + 1 := rfl
    omega
  have zl : ((L.zip us).map rowV).length ≤ sizeLine := by
    rw [List.length_map, List.length_zip]
    exact Nat.le_trans (Nat.min_le_left _ _) (Nat.le_of_lt hl)
  obtain ⟨us2, r2, e2⟩ := stored_rows (k := kOf d) (a := b) rv rus
  refine wpAny_setItem_heap (knd := nestedKind X.prog X.w) (xs := (L.zip us).map rowV) hu1 hx dof (fun h' hm' sb => ?_) zl
  rw [← e2] at hm'
  have R1 : Dict0V X.w h' a (storedV L (kOf d) b v) := .of r2 hm' (Nat.le_trans (storedV_len _ _ _ _) hl) hsys
  obtain ⟨_, _, _, ⟨o2, ho2, _⟩, _⟩ := id R1
  exact ⟨σ, _, I3.write (e := a) (by rw [ha]; trivial) (.inl rfl) (fun c u hc hu => (sb.2 c hc).trans hu) ⟨o2, ho2⟩ (dictVO_new R1), q3⟩
end
end NSet

/-! dicts with data as keys: d[k], in, get -/
namespace NSet
open PySem PySem.Spec PySem.W PyProof.Rows L2
/-- what stands in the dict at a under y -/
def DGetV (K : PySem.W.Frag) (w : World) (H : Hp) (a : Addr) (y : V) (r : Option V) : Prop := ∃ (b : Addr) (L : List DRowV) (d : PyData), y = .ref b ∧ Rd H a (DictVO w a L) ∧ MemV K H L ∧ Da K H (.ref b) d ∧ imm d = true ∧ (kOf d).depth ≤ 8 ∧ r = valN L (kOf d)
section
variable {X : Cx}
theorem dv_rd {pins : List (Addr × Obj)} {σ : L2.St} {H : Hp} {s : Shared} {a : Addr} {L : List DRowV} (I : Inv X pins σ H s) (e : Rd H a (DictVO X.w a L)) : Dict0V X.w s.heap a L := (Rd.ok e I.hok).1
theorem dv_at {pins : List (Addr × Obj)} {σ : L2.St} {H : Hp} {s : Shared} {a : Addr} {L : List DRowV} (I : Inv X pins σ H s) (e : Rd H a (DictVO X.w a L)) : s.TypeIs (.ref a) "dict" ∧ (∀ b, Value.ref a = .ref b → ∃ ob, s.heap.get? b = some ob ∧ ob.dict = none) ∧ (a == sysModules) = false := by
  obtain ⟨_, _, _, ⟨ob, hob, hex, _⟩, _, _, _, _, hsys⟩ := dv_rd I e
  refine ⟨⟨ob, hob, hex.1⟩, fun b q => ?_, hsys⟩
  cases q
  exact ⟨ob, hob, hex.2.1⟩
/-- the value that is found, in both heaps -/
theorem dv_val {k : NestedKey} {L : List DRowV} {us : List Value} (r : Vals (L.map (·.2.2)) us) {z : V} {x : Value} (rz : RelV z x) : RelV ((valN L k).getD z) (((atKey ((L.zip us).map rowV) k).map (·.2)).getD x) := by
  have h := at_val k r
  cases e1 : valN L k with
  | none =>
    cases e2 : atKey ((L.zip us).map rowV) k with
    | none => exact rz
    | some p =>
      rw [e1, e2] at h
      exact (show False from h).elim
  | some v =>
    cases e2 : atKey ((L.zip us).map rowV) k with
    | none =>
      rw [e1, e2] at h
      exact (show False from h).elim
    | some p =>
      rw [e1, e2] at h
      exact h
theorem dv_isSome {k : NestedKey} {L : List DRowV} {us : List Value} (r : Vals (L.map (·.2.2)) us) : (atKey ((L.zip us).map rowV) k).isSome = (valN L k).isSome := by
  rw [found_rows k r]
  unfold valN
  rw [Option.isSome_map]
theorem in1 {A : Around} (hu : A.units + 24 < cLine) : A.in1.units + 8 < cLine := by
  have e1 : A.in1.units = A.units + 1 := rfl
  omega
variable {o i e f : Expr} {pos apos cpos : Pos} {td ty tx : TE}
def tDGetV (K : PySem.W.Frag) (w : World) (td ty : TE) : TE := fun σ H Q => td σ H fun x H1 => ty σ H1 fun y H2 => ∃ a v, x = .ref a ∧ DGetV K w H2 a y (some v) ∧ Q v H2
theorem pe_dgetV (hu : X.A.units + 24 < cLine) (ho : PE X o td) (hi : PE X i ty) (hs : NoSl i) : PE X (.Subscript o i pos) (tDGetV X.K X.w td ty) := by
  refine ⟨fun pins s σ H Q I h => ?_⟩
  refine subD_of PySem.F.slot_dict_getitem.lookup hs (thn (ho.run pins s σ H _ I h) fun u s1 ⟨x, H1, I1, rx, q1⟩ => thn (hi.run pins s1 σ H1 _ I1 q1) fun iv s2 ⟨y, H2, I2, ry, a, v, ex, ⟨b, L, d, ey, ha, hm, hd, himm, dp, ev⟩, q2⟩ => ?_)
  subst ex ey
  obtain rfl : u = Value.ref a := rx
  obtain rfl : iv = Value.ref b := ry
  obtain ⟨us, rus, dof⟩ := (dv_rd I2 ha).full (P := X.prog) (hm.nst I2)
  refine ⟨(dv_at I2 ha).1, ?_⟩
  have h := at_val (kOf d) rus
  rw [← ev] at h
  cases e2 : atKey ((L.zip us).map rowV) (kOf d) with
  | none =>
    rw [e2] at h
    exact (show False from h).elim
  | some p =>
    rw [e2] at h
    exact wpAny_getItem_heap (knd := nestedKind X.prog X.w) (in1 hu) ⟨nest_of I2 d _ _ hd himm rfl, dp⟩ dof e2 ⟨v, H2, I2.tok _, h, q2⟩
def tDInV (K : PySem.W.Frag) (w : World) (ty td : TE) : TE := fun σ H Q => ty σ H fun y H1 => td σ H1 fun x H2 => ∃ a o, x = .ref a ∧ DGetV K w H2 a y o ∧ Q (.bl o.isSome) H2
theorem pc_dinV (hu : X.A.units + 24 < cLine) (hi : PE X i ty) (ho : PE X o td) : PC X .In i o (tDInV X.K X.w ty td) := by
  refine ⟨fun pins s σ H Q I h => ?_⟩
  refine thn (hi.run pins s σ H _ I h) fun iv s1 ⟨y, H1, I1, ry, q1⟩ => thn (ho.run pins s1 σ H1 _ I1 q1) fun u s2 ⟨x, H2, I2, rx, a, ov, ex, ⟨b, L, d, ey, ha, hm, hd, himm, dp, ev⟩, q2⟩ => ?_
  subst ex ey
  obtain rfl : u = Value.ref a := rx
  obtain rfl : iv = Value.ref b := ry
  obtain ⟨us, rus, dof⟩ := (dv_rd I2 ha).full (P := X.prog) (hm.nst I2)
  refine wpAny_in_heap (knd := nestedKind X.prog X.w) (in1 hu) ⟨nest_of I2 d _ _ hd himm rfl, dp⟩ (dv_at I2 ha).2.2 dof ?_
  rw [dv_isSome rus, ← ev]
  exact ⟨.bl ov.isSome, H2, I2.tok _, rfl, q2⟩
def tDNotInV (K : PySem.W.Frag) (w : World) (ty td : TE) : TE := fun σ H Q => ty σ H fun y H1 => td σ H1 fun x H2 => ∃ a o, x = .ref a ∧ DGetV K w H2 a y o ∧ Q (.bl (!o.isSome)) H2
theorem pc_dnotinV (hu : X.A.units + 24 < cLine) (hi : PE X i ty) (ho : PE X o td) : PC X .NotIn i o (tDNotInV X.K X.w ty td) := by
  refine ⟨fun pins s σ H Q I h => ?_⟩
  refine thn (hi.run pins s σ H _ I h) fun iv s1 ⟨y, H1, I1, ry, q1⟩ => thn (ho.run pins s1 σ H1 _ I1 q1) fun u s2 ⟨x, H2, I2, rx, a, ov, ex, ⟨b, L, d, ey, ha, hm, hd, himm, dp, ev⟩, q2⟩ => ?_
  subst ex ey
  obtain rfl : u = Value.ref a := rx
  obtain rfl : iv = Value.ref b := ry
  obtain ⟨us, rus, dof⟩ := (dv_rd I2 ha).full (P := X.prog) (hm.nst I2)
  refine notIn_keyed (knd := nestedKind X.prog X.w) (in1 hu) ⟨nest_of I2 d _ _ hd himm rfl, dp⟩ (dv_at I2 ha).2.2 ⟨_, dof, rfl⟩ ?_
  rw [valueAt_pairsH, Option.isSome_map, dv_isSome rus, ← ev]
  exact ⟨.bl (!ov.isSome), H2, I2.tok _, rfl, q2⟩
def tDGet2V (K : PySem.W.Frag) (w : World) (td ty tx : TE) : TE := fun σ H Q => td σ H fun x H1 => ∃ a, x = .ref a ∧ (∃ L, Rd H1 a (DictVO w a L)) ∧ ty σ H1 fun y H2 => tx σ H2 fun z H3 => ∃ o, DGetV K w H3 a y o ∧ Q (o.getD z) H3
theorem pe_dget2V (hu : X.A.units + 24 < cLine) (ho : PE X o td) (he : PE X e ty) (hf : PE X f tx) (m : M2 X o "get" apos e f cpos) : PE X (.Call (.Attribute o "get" apos) [e, f] [] cpos) (tDGet2V X.K X.w td ty tx) := by
  refine ⟨fun pins s σ H Q I h => ?_⟩
  refine wpAny_Call_method m.base m.few m.line PySem.F.plainAttrs_dict PySem.F.slot_dict_get PySem.F.type_dict_get (thn (ho.run pins s σ H _ I h) fun u s1 ⟨x, H1, I1, rx, a, ex, ⟨L0, hd0⟩, q1⟩ => ?_)
  subst ex
  obtain rfl : u = Value.ref a := rx
  obtain ⟨t1, t2, _⟩ := dv_at I1 hd0
  refine ⟨t1, t2, ?_⟩
  rw [m.trees]
  refine Calls.callWith_builtin rfl (Calls.evalArgs_plain (Calls.spliced_cons (thn (he.run pins s1 σ H1 _ I1 q1) fun iv s2 ⟨y, H2, I2, ry, q2⟩ =>
    Calls.spliced_cons (thn (hf.run pins s2 σ H2 _ I2 q2) fun fv s3 ⟨z, H3, I3, rz, ov, ⟨b, L, d, ey, ha, hm, hd, himm, dp, ev⟩, q3⟩ => Calls.spliced_nil ?_))))
  subst ey
  obtain rfl : iv = Value.ref b := ry
  obtain ⟨us, rus, dof⟩ := (dv_rd I3 ha).full (P := X.prog) (hm.nst I3)
  refine call_meetsIn PySem.F.slot_dict_get dof.typeIs PySem.F.entry_dict_get (PySem.F.args_dict_get_3 _ _ _) (meetsH_dict_get_default (nestedKind X.prog X.w) a b (dv_at I3 ha).2.2 fv) ⟨in1 hu, kOf d, _, ⟨nest_of I3 d _ _ hd himm rfl, dp⟩, dof, ?_⟩
  refine ⟨ov.getD z, H3, I3.tok _, ?_, q3⟩
  rw [ev]
  exact dv_val rus rz
end
end NSet

/-! for k in d, d a dict with data as keys -/
namespace NSet
open PySem PySem.Spec PySem.W PyProof.Rows L2
section
variable {X : Cx} {pins : List (Addr × Obj)} {σ : L2.St} {H : Hp} {s : Shared} {d : Addr} {o : Obj}
theorem Inv.frzV {L : List DRowV} (I : Inv X pins σ H s) (h : H d = some (.frz o (DictVO X.w d L))) :
    (d == sysModules) = false ∧ s.heap.get? d = some o ∧ o.ExactDict ∧ ∃ (es : Array DictEntry) (ep : Nat), o.data = .dict es ep ∧ es.size = L.length ∧
      ∀ (i : Nat) (x : DRowV), L[i]? = some x → ∃ en : DictEntry, es[i]? = some en ∧ en.key = .ref x.2.1 := by
  obtain ⟨hd, R, _⟩ := I.hok d _ h
  obtain ⟨us, es, ep, ⟨o', ho, hx, hdt⟩, rv, he, _, _, hs⟩ := R
  rw [hd] at ho
  cases ho
  have hl : L.length = us.length := by
    have := rv.length
    rwa [List.length_map] at this
  have sz : es.size = L.length := by
    rw [← Array.length_toList, he, List.length_map, List.length_map, List.length_zip, ← hl, Nat.min_self]
  refine ⟨hs, hd, hx, es, ep, hdt, sz, fun i x e => ?_⟩
  have hi := (List.getElem?_eq_some_iff.mp e).1
  have hu : us[i]? = some us[i] := List.getElem?_eq_getElem (by omega)
  refine ⟨entV X.w (rowV (x, us[i])), ?_, rfl⟩
  rw [← Array.getElem?_toList, he, List.getElem?_map, List.getElem?_map, (List.getElem?_zip_eq_some (z := (x, us[i]))).mpr ⟨e, hu⟩]
  rfl
end
/-- the keys of the locked dict at d, in their order: the key's own tuple -/
def Itv (w : World) (d : Addr) (o : Obj) (L : List DRowV) : It :=
  ⟨fun i H => H d = some (.frz o (DictVO w d L)) ∧ i < L.length, fun i H x H' => H' = H ∧ ∃ r : DRowV, L[i]? = some r ∧ x = .ref r.2.1, fun i H => H d = some (.frz o (DictVO w d L)) ∧ L.length ≤ i⟩
theorem walk_keysV {w : World} {d : Addr} {o : Obj} {L : List DRowV} : Walk (Itv w d o L) L.length (fun H => H d = some (.frz o (DictVO w d L))) (fun i H x H' => H' = H ∧ ∃ r : DRowV, L[i]? = some r ∧ x = .ref r.2.1) :=
  ⟨fun _ _ hi q => ⟨q, hi⟩, fun _ q => ⟨q, Nat.le_refl _⟩, fun _ _ _ _ _ _ y => y⟩
section
variable {P : Program} {w : World} {K : PySem.W.Frag} {tg : Expr} {d : Addr} {o : Obj} {es : Array DictEntry} {ep : Nat}
theorem turn_keysV {L : List DRowV} (it : Addr) (hod : o.data = .dict es ep) : Turn P w K tg (Itv w d o L) [it] it (fun i h => h.IsKeyIter it d i L.length ep) where
  mem := by simp
  obj := fun i h st b hb => by
    have e : b = it := by simpa using hb
    subst e
    obtain ⟨oi, e, c, dd⟩ := st
    exact ⟨oi, e, fun v z => by rw [dd] at z; cases z⟩
  keep := fun i h h' st k => st.at fun oi e => k it (by simp) oi e
  item := by
    intro X hP hw hK hc i pins s σ H E I hf st hg
    subst hP hw hK
    obtain ⟨hd, hi⟩ := hg
    obtain ⟨f0, f1, f2, f3, f4, f5⟩ := hf it (by simp)
    obtain ⟨hs, hgd, hx, es', ep', hdt, hsz, ent⟩ := Inv.frzV I hd
    obtain ⟨rfl, rfl⟩ := dict_ep hod hdt
    obtain ⟨r, hr⟩ : ∃ r, L[i]? = some r := ⟨L[i], List.getElem?_eq_getElem hi⟩
    obtain ⟨en, hen, hkey⟩ := ent i r hr
    refine next_key_item st hgd hdt hsz hen fun h' st' sb => ?_
    have I1 : Inv X pins σ H { s with heap := h' } := I.turned (t' := s.toks) (fun b ob hb e => (sb.2 b hb).trans e) f0 f1 f3 f4 f5
    obtain ⟨oi, e, c, dd⟩ := id st'
    exact ⟨en.key, rfl, go_of (s := { s with heap := h' }) e c dd (by decide) ⟨.ref r.2.1, H, I1, hkey, ⟨rfl, r, hr, rfl⟩, st', fun b hb => (hf b hb).1⟩⟩
  done := by
    intro X hP hw hK hc i pins s σ H E I hf st hg
    subst hP hw hK
    obtain ⟨hd, hi⟩ := hg
    obtain ⟨f0, f1, f2, f3, f4, f5⟩ := hf it (by simp)
    obtain ⟨hs, hgd, hx, es', ep', hdt, hsz, ent⟩ := Inv.frzV I hd
    obtain ⟨rfl, rfl⟩ := dict_ep hod hdt
    exact next_key_end (I.ok.hd hc) st hgd hdt hsz hi fun h' eb => ⟨rfl, I.turned (t' := s.toks) (fun b ob hb e => eb b ob hb e) f0 f1 f3 f4 f5⟩
  self := fun A i s Q E st h => by
    refine wpAny_pyIter_slot st.typeIs F.slot_dict_keyiterator_iter (wpAny_call_entry F.slot_dict_keyiterator_iter st.typeIs F.entry_dict_keyiterator_iter ?_ (F.args_dict_keyiterator_iter_1 _))
    show wpAny _ _ (ret (.ref it)) _ _ s
    exact wpAny_pure ⟨_, rfl, "dict_keyiterator", _, st.typeIs, F.slot_dict_keyiterator_next.lookup, h⟩
end
/-- the dict is locked (tLock, or by the caller) -/
def iKeysV (w : World) (td : TE) : TI := fun σ H R => td σ H fun x H1 => ∃ d o L, x = .ref d ∧ H1 d = some (.frz o (DictVO w d L)) ∧ R (Itv w d o L) H1
section
variable {X : Cx} {tg e : Expr} {td : TE}
theorem pi_keysV (he : PE X e td) : PI X tg e (iKeysV X.w td) := by
  refine ⟨fun pins s σ H R I h => ?_⟩
  refine thn (he.run pins s σ H _ I h) fun u s1 ⟨x, H1, I1, rx, d, o, L, ex, hd, q⟩ => ?_
  subst ex
  obtain rfl : u = Value.ref d := rx
  obtain ⟨hs, hgd, hx, es, ep, hdt, hsz, ent⟩ := Inv.frzV I1 hd
  refine iter_keys hs hgd hx hdt (pi_one (tk := s1.toks) I1 _ (turn_keysV _ hdt) ⟨_, Heap.get?_push_size _ rfl, rfl, ?_⟩ q)
  rw [hsz] <;> rfl
end
end NSet

/-! dict comprehensions whose keys are data -/
namespace NSet
open PySem PySem.Spec PySem.W PyProof.Rows L2
/-- the heap behind a[y] = v -/
def DPutV (K : PySem.W.Frag) (w : World) (H : Hp) (a : Addr) (y v : V) (H' : Hp) : Prop := ∃ (b : Addr) (L : List DRowV) (d : PyData), y = .ref b ∧ H a = some (DictVO w a L) ∧ MemV K H L ∧ Da K H (.ref b) d ∧ imm d = true ∧ (kOf d).depth ≤ 8 ∧ L.length < sizeLine ∧ H' = upd H a (DictVO w a (storedV L (kOf d) b v))
theorem put_compV {X : Cx} {pins : List (Addr × Obj)} {σ : L2.St} {H H' : Hp} {s : Shared} {E : Value → Shared → Prop} {D : Addr} {y v : V} {u r : Value} {Q : Unit → Shared → Prop} (hu : X.A.units + 24 < cLine) (I : Inv X pins σ H s) (g : DPutV X.K X.w H D y v H') (ry : RelV y u) (rv : RelV v r) (h : ∀ s', Inv X pins σ H' s' → Q () s') :
    wpAny (model X.prog X.w) X.A (dictSet D u r) Q E s := by
  obtain ⟨b, L, d, rfl, ha, hm, hd, himm, dp, hl, rfl⟩ := g
  obtain rfl : u = Value.ref b := ry
  have R0 : Dict0V X.w s.heap D L := (I.hok D _ ha).1
  obtain ⟨_, _, _, _, _, _, _, _, hsys⟩ := id R0
  obtain ⟨us, rus, dof⟩ := R0.full (P := X.prog) (hm.nst I)
  have zl : ((L.zip us).map rowV).length ≤ sizeLine := by
    rw [List.length_map, List.length_zip]
    exact Nat.le_trans (Nat.min_le_left _ _) (Nat.le_of_lt hl)
  obtain ⟨us2, r2, e2⟩ := stored_rows (k := kOf d) (a := b) rv rus
  refine wpAny_dictSet_heap (hsz := zl) (knd := nestedKind X.prog X.w) (show X.A.units + 8 < cLine by omega) ⟨nest_of I d _ _ hd himm rfl, dp⟩ dof fun h' hm' sb => h _ ?_
  rw [← e2] at hm'
  have R1 : Dict0V X.w h' D (storedV L (kOf d) b v) := .of r2 hm' (Nat.le_trans (storedV_len _ _ _ _) hl) hsys
  obtain ⟨_, _, _, ⟨o2, ho2, _⟩, _⟩ := id R1
  exact I.write (e := D) (by rw [ha]; trivial) (.inl rfl) (fun c u hc hu => (sb.2 c hc).trans hu) ⟨o2, ho2⟩ (dictVO_new R1)
/-- {k: v for target in iter if ..}: D the new dict -/
def tDcV (K : PySem.W.Frag) (w : World) (wi : TI) (g : TG) (tt : TT) (tk tv : TE) (vs : List Nat) : TE := fun σ H Q => wi σ H fun J H1 => ∀ D, H1 D = none → ∃ W : Nat → Nat → Hp → Prop, (∃ m, W 0 m (upd H1 D (DictVO w D []))) ∧ ∀ i m H, W i m H →
  (J.stop i H ∧ Q (.ref D) H) ∨ (J.go i H ∧ ∃ Nx : Hp → Prop, (∀ H', Nx H' → ∃ m', m' < m ∧ W (i + 1) m' H') ∧ ∀ x H', J.yld i H x H' → g x (wipe σ vs) H' fun σ2 H2 => wipe σ2 vs = wipe σ vs ∧ tt σ2 H2 fun b H3 =>
    if b = true then tk σ2 H3 fun y H4 => tv σ2 H4 fun z H5 => ∃ H6, DPutV K w H5 D y z H6 ∧ Nx H6 else Nx H3)
theorem new0 {P : Program} {w : World} {H : Hp} (h : Heap) (hb : sysModules < h.objs.size) : ObjOk P w H (h.push { cls := .type "dict", data := .dict #[] }) h.objs.size (DictVO w h.objs.size []) :=
  dictVO_new ⟨[], #[], 0, ⟨_, Heap.get?_push_size _ rfl, ⟨rfl, rfl, rfl⟩, rfl⟩, .nil, rfl, List.nodup_nil, Nat.zero_le _, beq_eq_false_iff_ne.mpr (Ne.symm (Nat.ne_of_lt hb))⟩
section
variable {X : Cx} {kx vx tg iter : Expr} {ifs : List Expr} {scope : Scope} {own : List (Str × Nat)} {pos : Pos} {wi : TI} {g : TG} {tt : TT} {tk tv : TE}
theorem dcV_core {pins : List (Addr × Obj)} {s : Shared} {σ : L2.St} {H : Hp} {Q : VK} {pos' : Pos} {use : Option (Value → Sem Unit)} {Qf : Value → Shared → Prop} (hu : X.A.units + 24 < cLine) (hc : X.calm = true) (hN : X.N.Nodup) (I : Inv X pins σ H s) (hi : PI X tg iter wi) (ok : BlkOk X.N X.env.scope scope own)
    (hg : ∀ (s : Shared) (H : Hp) (C : Addr) (cl : List (Str × Addr)) (fp : List Addr), PG (X.blk s H scope (compEnvC scope cl C X.env) fp) tg g)
    (ht : ∀ (s : Shared) (H : Hp) (C : Addr) (cl : List (Str × Addr)) (fp : List Addr), PTs (X.blk s H scope (compEnvC scope cl C X.env) fp) ifs tt)
    (hk : ∀ (s : Shared) (H : Hp) (C : Addr) (cl : List (Str × Addr)) (fp : List Addr), PE (X.blk s H scope (compEnvC scope cl C X.env) fp) kx tk)
    (hv : ∀ (s : Shared) (H : Hp) (C : Addr) (cl : List (Str × Addr)) (fp : List Addr), PE (X.blk s H scope (compEnvC scope cl C X.env) fp) vx tv) (hs : ∀ x, foldedSetIterable iter X.env x = pure x)
    (h : tDcV X.K X.w wi g tt tk tv (own.map (·.2)) σ H Q)
    (hRR : ∀ D C s' m H', Inv X pins σ H' s' → Q (.ref D) H' → s'.heap.Ns C m → FpOk X pins H' C → compPost (model X.prog X.w) X.A X.xe use Qf (.ref D) C (.ok .next) s') :
    wpAny (model X.prog X.w) X.A (comprehension (.DictComp kx vx [⟨tg, iter, ifs, 0⟩] scope pos) scope X.env pos' newDict false (eval iter X.env) use) Qf X.xe s := by
  have cells : ∀ y ∈ scope.names, y.2 = .free → ∃ c, X.env.cells.lookup y.1 = some c := fun y hy e => (ok.free y hy e).elim (fun k => I.ok.has _ (.inl k)) fun k => I.ok.has _ (.inr k)
  refine wpAny_comprehension_free (use := use) rfl hs (closure_ok cells) ok.kind (fun y hy e => by rw [ok.uniq y hy, e]) (thn (hi.run pins s σ H _ I h) fun xv sA hx => thn hx fun itv sB hB => ?_)
  obtain ⟨it, fp, tn, J, H2, e, I2, T, st2, f2, q⟩ := hB
  subst e
  refine wpAny_newObj_type (newEnv_comp ?_)
  generalize hD : sB.heap.objs.size = D
  obtain ⟨W, ⟨m0, w0⟩, turn⟩ := q D (I2.hok.fresh (Nat.le_of_eq hD))
  -- the new dict
  have oldB : ∀ b o, sB.heap.get? b = some o → (sB.heap.push { cls := .type "dict", data := .dict #[] }).get? b = some o := fun b o e => Heap.get?_push_of_some _ e
  have I3 : Inv X pins σ (upd H2 D (DictVO X.w D [])) { sB with heap := sB.heap.push { cls := .type "dict", data := .dict #[] } } :=
    I2.laid (t' := sB.toks) oldB (Nat.le_of_eq hD) (by rw [← hD]; exact new0 sB.heap I2.big)
  have below : ∀ b ∈ fp, b < sB.heap.objs.size := fun b hb => (T.obj _ _ st2 b hb).elim fun o e => Heap.lt_size e.1
  generalize hs3 : ({ sB with heap := sB.heap.push { cls := .type "dict", data := .dict #[] } } : Shared) = s3 at I3
  have eh3 : s3.heap = sB.heap.push { cls := .type "dict", data := .dict #[] } := by rw [← hs3]
  have f3 : ∀ b ∈ fp, FpOk X pins (upd H2 D (DictVO X.w D [])) b ∧ b < s3.heap.objs.size := fun b hb => by
    have l := below b hb
    refine ⟨⟨?_, (f2 b hb).2⟩, by rw [eh3, Heap.size_push]; exact Nat.lt_succ_of_lt l⟩
    rw [upd_ne (fun z => absurd l (by rw [z, ← hD]; exact Nat.lt_irrefl _))]
    exact (f2 b hb).1
  have I4 := block_start I3 ok hN f3
  generalize hH3 : upd H2 D (DictVO X.w D []) = H3 at I3 I4 w0 f3
  generalize hcl : cellsFrom (s3.heap.objs.size + 1) scope.names (cloFrom X.env.cells scope.names []) = cl at I4
  have pg := hg s3 H3 s3.heap.objs.size cl fp
  have pt := ht s3 H3 s3.heap.objs.size cl fp
  have pk := hk s3 H3 s3.heap.objs.size cl fp
  have pv := hv s3 H3 s3.heap.objs.size cl fp
  show codeAny _ _ (.compStart (.DictComp kx vx [⟨tg, iter, ifs, 0⟩] scope pos) 0 (.ref it) (.ref D) (compEnvC scope cl s3.heap.objs.size X.env)) (compPost (model X.prog X.w) X.A X.xe use Qf (.ref D) s3.heap.objs.size) { s3 with heap := pushCells (s3.heap.push { cls := .type "dict", data := .dict #[] }) scope.names }
  generalize hce : compEnvC scope cl s3.heap.objs.size X.env = ce at I4 pg pt pk pv ⊢
  have cL : ce.locals = s3.heap.objs.size := by rw [← hce]; rfl
  generalize hs4 : ({ s3 with heap := pushCells (s3.heap.push { cls := .type "dict", data := .dict #[] }) scope.names } : Shared) = s4 at I4 ⊢
  have st4 : tn 0 s4.heap := T.keep _ _ _ st2 fun b _ o e => by
    rw [← hs4]
    exact pushCells_keeps _ _ _ _ (Heap.get?_push_of_some _ (by rw [eh3]; exact oldB b o e))
  have stat : ∀ {σ' : L2.St} {H' : Hp} {s' : Shared}, Inv (X.blk s3 H3 scope ce fp) [] σ' H' s' → (∀ b ∈ fp, H' b = none) → ∀ b ∈ fp, FpOk (X.blk s3 H3 scope ce fp) [] H' b := fun {σ' H' s'} I' hn b hb =>
    ⟨hn b hb, (I'.ok.exf b hb).1, I'.ok.exfs b hb, .inl hb, fun x c e => (I'.ok.exf b hb).2 x c e, fun p hp => absurd (show p ∈ ([] : List (Addr × Obj)) ++ [] from hp) (by simp)⟩
  refine (fun loop => codeAny_compStart_dict loop (T.self X.A 0 _ _ _ st4 loop)) ?_
  refine compLoop_anyD (fun n s' => ∃ i H', Inv (X.blk s3 H3 scope ce fp) [] (wipe σ (own.map (·.2))) H' s' ∧ tn i s'.heap ∧ (∀ b ∈ fp, H' b = none) ∧ W i n H') ?_ m0 ⟨0, H3, I4, st4, fun b hb => (f3 b hb).1.1, w0⟩
  rintro n s5 ⟨i, H5, I5, st5, n5, w5⟩
  rcases turn i n H5 w5 with ⟨stop, qq⟩ | ⟨go, Nx, hNx, step⟩
  · -- the end: back in the def
    refine thnF (T.done (X.blk s3 H3 scope ce fp) rfl rfl rfl hc i [] s5 _ H5 (fun _ _ => False) I5 (stat I5 n5) st5 stop) fun r s6 ⟨hr, I6⟩ => ?_
    subst hr
    have I7 : Inv X pins σ H5 s6 := I3.call' (ch := fp) I6.os I6.base I6.hok I6.bare fun b hb => ⟨(f3 b hb).1.2.2.2.1, (f3 b hb).1.2.1, (f3 b hb).1.2.2.2.2.1, (f3 b hb).1.2.2.2.2.2⟩
    have nC : H5 ce.locals = none := I6.free
    obtain ⟨m, hn, _⟩ := I6.loc
    have hn' : s6.heap.Ns ce.locals m := hn
    rw [cL] at hn' nC
    exact hRR D s3.heap.objs.size s6 m H5 I7 qq hn' (I3.fpOk (Nat.le_refl _) nC)
  · refine thnF (T.item (X.blk s3 H3 scope ce fp) rfl rfl rfl hc i [] s5 _ H5 (fun _ _ => False) I5 (stat I5 n5) st5 go) fun r s6 ⟨u, hr, h6⟩ => ?_
    subst hr
    refine thnF h6 fun _ s7 ⟨x, H7, I7, r7, y7, st7, n7⟩ => ?_
    refine thnF (pg.run _ s7 _ H7 x u _ (I7.pinned (stat I7 n7) (T.obj _ _ st7)) r7 (step x H7 y7)) fun _ s8 ⟨σ8, H8, I8, hw8, q8⟩ => ?_
    refine thnF (pt.run _ s8 σ8 H8 _ I8 q8) fun b s9 ⟨H9, I9, q9⟩ => ?_
    -- a turn's end
    have fin : ∀ {s' : Shared} {H' : Hp}, Inv (X.blk s3 H3 scope ce fp) ([] ++ pinsAt fp s7.heap) σ8 H' s' → Nx H' → ∃ m, m < n ∧ ∃ i H', Inv (X.blk s3 H3 scope ce fp) [] (wipe σ (own.map (·.2))) H' s' ∧ tn i s'.heap ∧ (∀ b ∈ fp, H' b = none) ∧ W i m H' := fun {s' H'} I' nx => by
      obtain ⟨m', hm, w'⟩ := hNx H' nx
      have pin : ∀ b ∈ fp, ∀ o, s7.heap.get? b = some o → s'.heap.get? b = some o ∧ H' b = none := fun b hb o e => by
        have z := I'.pin (b, o) (List.mem_append_right _ (List.mem_append_right _ (mem_pinsAt hb e)))
        exact ⟨z.1, z.2.1⟩
      refine ⟨m', hm, i + 1, H', (I'.unpinned (pins := [])).weak (by rw [← hw8, wipe_length]) (fun j v e => ?_), T.keep _ _ _ st7 fun b hb o e => (pin b hb o e).1, fun b hb => ?_, w'⟩
      · rw [← hw8] at e
        exact (wipe_some e).1
      · obtain ⟨o, e, _⟩ := T.obj _ _ st7 b hb
        exact (pin b hb o e).2
    cases b with
    | false =>
      simp only [Bool.false_eq_true, if_false] at q9 ⊢
      exact fin I9 q9
    | true =>
      simp only [if_true] at q9 ⊢
      refine thnF (pk.run _ s9 σ8 H9 _ I9 q9) fun z sK ⟨yk, HK, IK, rK, qK⟩ => ?_
      refine thnF (pv.run _ sK σ8 HK _ IK qK) fun z2 sV ⟨yv, HV, IV, rV, H6, put, nx⟩ => ?_
      exact put_compV (X := X.blk s3 H3 scope ce fp) hu IV put rK rV fun s12 I12 => fin I12 nx
theorem pe_dcV (hu : X.A.units + 24 < cLine) (hc : X.calm = true) (hN : X.N.Nodup) (hi : PI X tg iter wi) (ok : BlkOk X.N X.env.scope scope own)
    (hg : ∀ (s : Shared) (H : Hp) (C : Addr) (cl : List (Str × Addr)) (fp : List Addr), PG (X.blk s H scope (compEnvC scope cl C X.env) fp) tg g)
    (ht : ∀ (s : Shared) (H : Hp) (C : Addr) (cl : List (Str × Addr)) (fp : List Addr), PTs (X.blk s H scope (compEnvC scope cl C X.env) fp) ifs tt)
    (hk : ∀ (s : Shared) (H : Hp) (C : Addr) (cl : List (Str × Addr)) (fp : List Addr), PE (X.blk s H scope (compEnvC scope cl C X.env) fp) kx tk)
    (hv : ∀ (s : Shared) (H : Hp) (C : Addr) (cl : List (Str × Addr)) (fp : List Addr), PE (X.blk s H scope (compEnvC scope cl C X.env) fp) vx tv) (hs : ∀ x, foldedSetIterable iter X.env x = pure x := by intro _; rfl) :
    PE X (.DictComp kx vx [⟨tg, iter, ifs, 0⟩] scope pos) (tDcV X.K X.w wi g tt tk tv (own.map (·.2))) := by
  refine ⟨fun pins s σ H Q I h => ?_⟩
  rw [arm_eval_DictComp]
  refine dcV_core hu hc hN I hi ok hg ht hk hv hs h fun D C s' m H' I' q hn f => ⟨m, hn, fun h'' sb => ?_⟩
  obtain ⟨f0, f1, f2, f3, f4, f5⟩ := f
  exact ⟨.ref D, H', I'.turned (t' := s'.toks) (fun b o hb e => (sb.2 b hb).trans e) f0 f1 f3 f4 f5, rfl, q⟩
/-- x = {k: v for ..} -/
theorem ps_setDcV {i : Nat} {y : Str} {py spos : Pos} (hu : X.A.units + 24 < cLine) (hc : X.calm = true) (hN : X.N.Nodup) (hy : X.N[i]? = some y) (hyl : X.env.scope.names.lookup y = some .local)
    (hsw : swapsWith (.DictComp kx vx [⟨tg, iter, ifs, 0⟩] scope pos) (some (.Name y py)) spos.line X.env = pure true) (hi : PI X tg iter wi) (ok : BlkOk X.N X.env.scope scope own)
    (hg : ∀ (s : Shared) (H : Hp) (C : Addr) (cl : List (Str × Addr)) (fp : List Addr), PG (X.blk s H scope (compEnvC scope cl C X.env) fp) tg g)
    (ht : ∀ (s : Shared) (H : Hp) (C : Addr) (cl : List (Str × Addr)) (fp : List Addr), PTs (X.blk s H scope (compEnvC scope cl C X.env) fp) ifs tt)
    (hk : ∀ (s : Shared) (H : Hp) (C : Addr) (cl : List (Str × Addr)) (fp : List Addr), PE (X.blk s H scope (compEnvC scope cl C X.env) fp) kx tk)
    (hv : ∀ (s : Shared) (H : Hp) (C : Addr) (cl : List (Str × Addr)) (fp : List Addr), PE (X.blk s H scope (compEnvC scope cl C X.env) fp) vx tv) (hs : ∀ x, foldedSetIterable iter X.env x = pure x := by intro _; rfl) :
    PS X (.Assign [.Name y py] (.DictComp kx vx [⟨tg, iter, ifs, 0⟩] scope pos) spos) (tAsg (tDcV X.K X.w wi g tt tk tv (own.map (·.2))) (gName i)) := by
  refine ⟨fun pins s σ H D I h => ?_⟩
  rw [exec_Assign_Name_used _ _ _ _ hsw]
  refine wpAny_bind (wpAny_standAt (wpAny_bind ?_))
  show wpAny _ X.A (do let _ ← comprehension (.DictComp kx vx [⟨tg, iter, ifs, 0⟩] scope pos) scope X.env (firstIterPos [⟨tg, iter, ifs, 0⟩] pos) newDict false (eval iter X.env) (some (assign (.Name y py) X.env))) _ _ s
  have h : tDcV X.K X.w wi g tt tk tv (own.map (·.2)) σ H (fun x H1 => gName i x σ H1 D.nx) := h
  refine wpAny_bind (thn (dcV_core (Qf := fun _ s' => SP X pins D .next s') hu hc hN I hi ok hg ht hk hv hs h fun L C s' m H' I' q hn f => ?_) fun _ s' hq => wpAny_pure (wpAny_pure hq))
  show wpAny _ _ (assign (.Name y py) X.env (.ref L)) _ _ _
  refine wpAny_assign_Name (store_ok2 (v := V.ref L) I' hN hy (.inl hyl) rfl (fun s2 I2 ⟨a, sb, ha⟩ => ?_) (.inr hyl))
  obtain ⟨f0, f1, f2, f3, f4, f5⟩ := f
  have haC : C ≠ a := by
    rcases ha with z | z
    · rw [z]; exact f1
    · exact fun e => f4 y a z e.symm
  refine ⟨m, hn.sameBut sb haC, fun h3 sb3 => ?_⟩
  exact ⟨_, H', I2.turned (t' := s2.toks) (fun b o hb e => (sb3.2 b hb).trans e) f0 f1 f3 f4 f5, q⟩
end
end NSet

/-! list(d), sorted(d) of a dict with data as keys -/
namespace NSet
open PySem PySem.Spec PySem.W PyProof.Rows L2
def kRef (x : DRowV) : V := .ref x.2.1
/-- the keys, as they are walked -/
theorem keys_vals {w : World} {L : List DRowV} {us : List Value} {es : Array DictEntry} (hl : L.length = us.length) (he : es.toList = ((L.zip us).map rowV).map (entV w)) {acc : Array Value} {n : Nat} (hn : n = L.length) (it : ItemsOf (fun i v => ∃ en : DictEntry, es[i]? = some en ∧ v = en.key) acc n) : Vals (L.map kRef) acc.toList := by
  have el : acc.toList.length = acc.size := by simp
  refine vals_of_at (by rw [List.length_map, el, it.1, hn]) fun j x v h1 h2 => ?_
  obtain ⟨en, hen, rfl⟩ := it.2 j v (by rw [← Array.getElem?_toList]; exact h2)
  rw [List.getElem?_map] at h1
  obtain ⟨r, hr, rfl⟩ := Option.map_eq_some_iff.mp h1
  have hj := (List.getElem?_eq_some_iff.mp hr).1
  have hu : us[j]? = some us[j] := List.getElem?_eq_getElem (by omega)
  rw [← Array.getElem?_toList, he, List.getElem?_map, List.getElem?_map, (List.getElem?_zip_eq_some (z := (r, us[j]))).mpr ⟨hr, hu⟩] at hen
  cases hen
  rfl
section
variable {X : Cx}
def rListDV (w : World) : List V → Hp → VK → Prop := fun xs H Q => ∃ (a : Addr) (L : List DRowV), xs = [.ref a] ∧ Rd H a (DictVO w a L) ∧ ∀ q, H q = none → Q (.ref q) (upd H q (.lst (L.map kRef)))
theorem call_listDV (hc : X.calm = true) : CallR X (.type "list") (rListDV X.w) := by
  intro pins s σ H xs us0 Q I r h
  obtain ⟨a, L, rfl, ha, q⟩ := h
  obtain ⟨u, rfl, rx⟩ := vals1 r
  obtain rfl : u = Value.ref a := rx
  obtain ⟨us, es, ep, ⟨ob, hob, hex, hdat⟩, rv, he, _, hz, hsys⟩ := dv_rd I ha
  have hl : L.length = us.length := by
    have := rv.length
    rwa [List.length_map] at this
  have sz : es.size = L.length := by rw [← Array.length_toList, he, List.length_map, List.length_map, List.length_zip, ← hl, Nat.min_self]
  refine kdl_call (kdl_raw hsys hex hdat) (I.ok.hd hc) hob (by omega) fun h' tk acc' c' hkeep hS hacc => ?_
  refine ⟨.ref s.heap.objs.size, upd H s.heap.objs.size (.lst (L.map kRef)), I.laid hkeep (Nat.le_refl _) (show ObjOk X.prog X.w _ _ _ (.lst (L.map kRef)) from ⟨by rw [List.length_map]; exact hz, acc'.toList, c', keys_vals hl he sz hacc, by rw [Array.toArray_toList]; exact hS⟩), rfl, q _ (I.hok.fresh (Nat.le_refl _))⟩
/-- sorted(d): the keys in order; ds are their data -/
def rSortDV (K : PySem.W.Frag) (w : World) : List V → Hp → VK → Prop := fun vs H Q => ∃ (a : Addr) (L : List DRowV) (ds : List PyData), vs = [.ref a] ∧ Rd H a (DictVO w a L) ∧ DaAll K H (L.map kRef) ds ∧ Sorts ds ∧
  ∀ (p : Addr) (ys : List V) (M : List PyData), H p = none → M.Perm ds → M.Pairwise (fun d e => dataLt e d = false) → DaAll K (upd H p (.lst ys)) ys M → Q (.ref p) (upd H p (.lst ys))
theorem cr_sortDV (hc : X.calm = true) (hu : X.A.units + 24 < cLine) : CallR X (.builtin "sorted") (rSortDV X.K X.w) := by
  intro pins s σ H vs us0 Q I r h
  obtain ⟨a, L, ds, rfl, ha, hd, hs, q⟩ := h
  obtain rfl := Vals.ref1 r
  obtain ⟨us, es, ep, ⟨ob, hob, hex, hdat⟩, rv, he, _, hz, hsys⟩ := dv_rd I ha
  have hl : L.length = us.length := by
    have := rv.length
    rwa [List.length_map] at this
  have sz : es.size = L.length := by rw [← Array.length_toList, he, List.length_map, List.length_map, List.length_zip, ← hl, Nat.min_self]
  -- the keys as values
  have rk : Vals (L.map kRef) (L.map fun x => Value.ref x.2.1) := by
    have := L2.vals_refs (L.map fun x => x.2.1)
    rw [List.map_map, List.map_map] at this
    exact this
  obtain ⟨T, e1, e2, e3, hT⟩ := tri_of hd hs.1 rk
  have tl : T.length = L.length := by
    have := congrArg List.length e1
    rwa [List.length_map, List.length_map] at this
  subst e3
  refine sorted_by hu I T hT hs (by rw [tl]; exact hz) (fun Qc hq => ?_) q
  refine kdu_collect (kdl_raw hsys hex hdat) (I.ok.hd hc) hob (by omega) fun h' tk acc hk hacc => ?_
  have rv2 := keys_vals hl he sz hacc
  have ea : acc.toList = T.map (·.2.1) := by
    rw [e2]
    have one : ∀ {xs : List DRowV} {us : List Value}, Vals (xs.map kRef) us → us = xs.map fun x => Value.ref x.2.1 := by
      intro xs
      induction xs with
      | nil =>
        intro us r
        cases r
        rfl
      | cons x xs ih =>
        intro us r
        cases r with
        | cons r1 r2 =>
          rw [ih r2, List.map_cons]
          congr 1
    exact one rv2
  rw [ea]
  exact hq _ T (I.kept (t' := tk) hk) (List.Perm.refl _)
end
end NSet

/-! == of two dicts with data as keys that hold the same numbers; len -/
namespace NSet
open PySem PySem.Spec PySem.W PyProof.Rows L2 RW9
section
variable {X : Cx}
def rEqV (K : PySem.W.Frag) (w : World) : R2 := fun x y H Q => ∃ (a b : Addr) (L M : List DRowV), x = .ref a ∧ y = .ref b ∧ Rd H a (DictVO w a L) ∧ Rd H b (DictVO w b M) ∧ MemV K H L ∧ MemV K H M ∧ L.length = M.length ∧
  (∀ x ∈ L, ∃ i : Int, x.2.2 = .int i ∧ ∃ y ∈ M, y.1 = x.1 ∧ y.2.2 = .int i) ∧ Q (.bl true) H
theorem zip_get {L : List DRowV} {us : List Value} (hl : L.length = us.length) {j : Nat} {x : DRowV} (h : L[j]? = some x) : ∃ u, us[j]? = some u ∧ ((L.zip us).map rowV)[j]? = some (rowV (x, u)) := by
  have hj := (List.getElem?_eq_some_iff.mp h).1
  have hu : us[j]? = some us[j] := List.getElem?_eq_getElem (by omega)
  refine ⟨us[j], hu, ?_⟩
  rw [List.getElem?_map, (List.getElem?_zip_eq_some (z := (x, us[j]))).mpr ⟨h, hu⟩]
  rfl
theorem op_eqV (hu : X.A.units + 24 < cLine) : OpR X (compareOp .Eq) (rEqV X.K X.w) := by
  intro pins s σ H x y v u Q I rx ry h
  obtain ⟨a, b, L, M, rfl, rfl, ea, eb, mL, mM, hlm, hv, q⟩ := h
  obtain rfl : v = Value.ref a := rx
  obtain rfl : u = Value.ref b := ry
  obtain ⟨us, ru, da⟩ := (dv_rd I ea).full (P := X.prog) (mL.nst I)
  obtain ⟨ws, rw', db⟩ := (dv_rd I eb).full (P := X.prog) (mM.nst I)
  have l1 : L.length = us.length := by
    have := ru.length
    rwa [List.length_map] at this
  have l2 : M.length = ws.length := by
    have := rw'.length
    rwa [List.length_map] at this
  refine eq_heap (knd := nestedKind X.prog X.w) (in1 hu) (by omega) (dv_at I ea).2.2 (dv_at I eb).2.2 da db (by rw [List.length_map, List.length_map, List.length_zip, List.length_zip]; omega) (fun x hx => ?_) ⟨.bl true, H, I, rfl, q⟩
  obtain ⟨j, hj⟩ := List.getElem?_of_mem hx
  have hjl : j < L.length := by
    have := (List.getElem?_eq_some_iff.mp hj).1
    rw [List.length_map, List.length_zip] at this
    omega
  obtain ⟨u, hu1, hu2⟩ := zip_get l1 (List.getElem?_eq_getElem hjl)
  rw [hj] at hu2
  cases hu2
  obtain ⟨i, e1, y, hy, e2, e3⟩ := hv L[j] (List.getElem_mem hjl)
  obtain ⟨m, hm⟩ := List.getElem?_of_mem hy
  obtain ⟨z, hz1, hz2⟩ := zip_get l2 hm
  have r1 := Vals.get (i := j) (x := L[j].2.2) ru (by rw [List.getElem?_map, List.getElem?_eq_getElem hjl]; rfl)
  have r2 := Vals.get (i := m) (x := y.2.2) rw' (by rw [List.getElem?_map, hm]; rfl)
  obtain ⟨u', q1, q2⟩ := r1
  obtain ⟨z', q3, q4⟩ := r2
  rw [hu1] at q1
  cases q1
  rw [hz1] at q3
  cases q3
  rw [e1] at q2
  rw [e3] at q4
  obtain ⟨t, ht⟩ := q2
  obtain ⟨t', ht'⟩ := q4
  refine ⟨m, (rowV (y, z)).2, by rw [hz2]; show some ((rowV (y, z)).1, (rowV (y, z)).2) = _; rw [show (rowV (y, z)).1 = y.1 from rfl, e2]; rfl, ?_⟩
  show SeqAt.EqAt X.A.in1 s u z true
  rw [ht, ht']
  have e := SeqAt.EqAt.int_int (A := X.A.in1) (s := s) i t i t'
  rw [beq_self_eq_true] at e
  exact e
end
end NSet

/-! sorted(d.items()) of a dict with data as keys and ints as values -/
namespace NSet
open PySem PySem.Spec PySem.W PyProof.Rows L2 RW9
def encV (q : PyData × Int) : PyData := .tuple [q.1, .int q.2]
section
variable {X : Cx} {o : Expr} {apos cpos : Pos} {td : TE}
def tItemsV (w : World) (td : TE) : TE := fun σ H Q => td σ H fun x H1 => ∃ (a : Addr) (L : List DRowV), x = .ref a ∧ Rd H1 a (DictVO w a L) ∧ ∀ v, H1 v = none → Q (.ref v) (upd H1 v (DX.itemsO v a))
theorem pe_itemsV (ho : PE X o td) (hbase : attributeBase o "items" X.env (eval o X.env) = eval o X.env := by rfl) (hline : (apos.endLine == cpos.line) = true := by rfl) : PE X (.Call (.Attribute o "items" apos) [] [] cpos) (tItemsV X.w td) := by
  refine ⟨fun pins s σ H Q I h => ?_⟩
  refine wpAny_Call_method0_late hbase hline (thn (ho.run pins s σ H _ I h) fun v s1 ⟨x, H1, I1, r1, a, L, ex, ha, q⟩ => ?_)
  subst ex
  obtain rfl : v = Value.ref a := r1
  obtain ⟨us, es, ep, ⟨ob, hob, hex, hdat⟩, _, _, _, _, hsys⟩ := dv_rd I1 ha
  refine ⟨"dict", "dict.items", PySem.F.plainAttrs_dict, PySem.F.slot_dict_items, PySem.F.type_dict_items, ⟨ob, hob, hex.1⟩, fun b e => ?_, Calls.callWith_builtin rfl (PySem.evalArgs_none ?_)⟩
  · cases e
    exact ⟨ob, hob, hex.2.1⟩
  refine DT.callItems (es := es) (ep := ep) hsys ⟨ob, hob, hex, hdat⟩ ?_
  have hnew := I1.hok.fresh (Nat.le_refl s1.heap.objs.size)
  exact ⟨.ref s1.heap.objs.size, _, I1.laid (t' := s1.toks) (fun b u e => Heap.get?_push_of_some _ e) (Nat.le_refl _) (DX.itemsO_ok (p := s1.heap.objs.size) (d := a) (Heap.get?_push_size _ rfl)), rfl, q _ hnew⟩
end
/-- a pair as sorted gives it -/
def PairAt (K : PySem.W.Frag) (H : Hp) (t : Addr) (q : PyData × Int) : Prop := ∃ kq, H t = some (.tup [.ref kq, .int q.2]) ∧ Da K H (.ref kq) q.1
def rSortItV (K : PySem.W.Frag) (w : World) : List V → Hp → VK → Prop := fun vs H Q => ∃ (p a : Addr) (L : List DRowV) (ds : List (PyData × Int)), vs = [.ref p] ∧ H p = some (DX.itemsO p a) ∧ Rd H a (DictVO w a L) ∧ DaAll K H (L.map kRef) (ds.map (·.1)) ∧ L.map (·.2.2) = ds.map (fun q => V.int q.2) ∧ Sorts (ds.map (·.1)) ∧
  ∀ (H' : Hp) (l : Addr) (ts : List Addr) (M : List (PyData × Int)), Same H H' → H l = none → M.Perm ds → M.Pairwise (fun p q => dataLt (encV q) (encV p) = false) → H' l = some (.lst (ts.map V.ref)) → Paired (PairAt K H') ts M → Q (.ref l) H'
theorem immAll_in : ∀ {ds : List PyData} {d : PyData}, immAll ds = true → d ∈ ds → imm d = true
  | e :: ds, d, h, hd => by
    have h' : (imm e && immAll ds) = true := h
    rw [Bool.and_eq_true] at h'
    rcases List.mem_cons.mp hd with rfl | hd
    · exact h'.1
    · exact immAll_in h'.2 hd
theorem cr_sortedItemsV {X : Cx} (hc : X.calm = true) (hu : X.A.units + 24 < cLine) : CallR X (.builtin "sorted") (rSortItV X.K X.w) := by
  intro pins s σ H xs us0 Q I r h
  obtain ⟨p, a, L, ds, rfl, hp, ha, hda, hvs, hso, q⟩ := h
  obtain rfl := Vals.ref1 r
  have view : s.heap.IsItemsView p a := (show ObjOk X.prog X.w H s.heap p (DX.itemsO p a) from I.hok p _ hp).1
  obtain ⟨us, es, ep, ⟨o, ho, hx, hdat⟩, rv, hes, _, z, hd⟩ := dv_rd I ha
  have lu : L.length = us.length := by
    have := rv.length
    rwa [List.length_map] at this
  have ld : L.length = ds.length := by
    have := congrArg List.length hvs
    rwa [List.length_map, List.length_map] at this
  have l2 : es.size = L.length := by rw [← Array.length_toList, hes, List.length_map, List.length_map, List.length_zip, ← lu, Nat.min_self]
  have hh : X.A.handled = none := I.ok.hd hc
  refine DT.sortedI (es := es) (ep := ep) hh view ⟨o, ho, hx, hdat⟩ (by omega) fun h' tk as hk' hlt hl hG => ?_
  have nd : as.Nodup := List.Pairwise.imp (fun h => Nat.ne_of_lt h) hG.rise
  have asl : as.length = ds.length := by omega
  have made : ∀ (j : Nat) (b : Addr), as[j]? = some b → ∃ (q : PyData × Int) (kq : Addr) (t : Tok), ds[j]? = some q ∧ (Da X.K H (.ref kq) q.1 ∧ imm q.1 = true) ∧ h'.get? b = some { cls := .type "tuple", data := .seq #[Value.ref kq, Value.int q.2 t] } := by
    intro j b hj
    obtain ⟨en, he, hg⟩ := hG.pairs j b hj
    have hjl : j < L.length := by
      have := (List.getElem?_eq_some_iff.mp hj).1
      omega
    obtain ⟨u, hu1, hu2⟩ := zip_get lu (List.getElem?_eq_getElem hjl)
    rw [← Array.getElem?_toList, hes, List.getElem?_map, hu2] at he
    cases he
    have hdj : ds[j]? = some (ds[j]'(by omega)) := List.getElem?_eq_getElem (by omega)
    generalize ds[j]'(by omega) = qq at hdj
    have e1 : (L.map (·.2.2))[j]? = some (V.int qq.2) := by rw [hvs, List.getElem?_map, hdj]; rfl
    have e2 : (L.map kRef)[j]? = some (kRef L[j]) := by rw [List.getElem?_map, List.getElem?_eq_getElem hjl]; rfl
    obtain ⟨u', q1, q2⟩ := Vals.get rv e1
    rw [hu1] at q1
    cases q1
    obtain ⟨t, ht⟩ := q2
    obtain ⟨dd, h1, h2⟩ := hda.get e2
    have e3 : dd = qq.1 := by
      rw [List.getElem?_map, hdj] at h1
      exact (Option.some.inj h1).symm
    subst e3
    refine ⟨qq, L[j].2.1, t, hdj, ⟨h2, ?_⟩, ?_⟩
    · exact immAll_in hso.1 (List.mem_map.mpr ⟨qq, List.mem_of_getElem? hdj, rfl⟩)
    · rw [hg]
      show some ({ cls := .type "tuple", data := .seq #[Value.ref L[j].2.1, u] } : Obj) = _
      rw [ht]
  obtain ⟨kf, hkf⟩ : ∃ kf : Addr → (PyData × Int) × Addr × Tok, ∀ (j : Nat) (b : Addr), as[j]? = some b → ds[j]? = some (kf b).1 ∧ (Da X.K H (.ref (kf b).2.1) (kf b).1.1 ∧ imm (kf b).1.1 = true) ∧ h'.get? b = some { cls := .type "tuple", data := .seq #[Value.ref (kf b).2.1, Value.int (kf b).1.2 (kf b).2.2] } := by
    have : ∀ b : Addr, ∃ k : (PyData × Int) × Addr × Tok, ∀ j : Nat, as[j]? = some b → ds[j]? = some k.1 ∧ (Da X.K H (.ref k.2.1) k.1.1 ∧ imm k.1.1 = true) ∧ h'.get? b = some { cls := .type "tuple", data := .seq #[Value.ref k.2.1, Value.int k.1.2 k.2.2] } := by
      intro b
      by_cases hb : b ∈ as
      · obtain ⟨j, hj⟩ := List.mem_iff_getElem?.mp hb
        obtain ⟨qq, kq, t, h1, h2, h3⟩ := made j b hj
        refine ⟨(qq, kq, t), fun i hi => ?_⟩
        have ji : j = i := (List.getElem?_inj (List.getElem?_eq_some_iff.mp hj).1 nd).mp (hj.trans hi.symm)
        subst ji
        exact ⟨h1, h2, h3⟩
      · exact ⟨((PyData.none, (0 : Int)), (0 : Addr), (0 : Nat)), fun j hj => absurd (List.mem_of_getElem? hj) hb⟩
    obtain ⟨f, hf⟩ := Classical.skolem.mp this
    exact ⟨f, fun j b hj => hf b j hj⟩
  have eL : as.map (fun b => (kf b).1) = ds := by
    refine List.ext_getElem? fun j => ?_
    rw [List.getElem?_map]
    cases hj : as[j]? with
    | none =>
      have : ds.length ≤ j := by
        have := List.getElem?_eq_none_iff.mp hj
        omega
      rw [List.getElem?_eq_none_iff.mpr this]
      rfl
    | some b => exact (hkf j b hj).1.symm
  have kIn : ∀ b ∈ as, (Da X.K H (.ref (kf b).2.1) (kf b).1.1 ∧ imm (kf b).1.1 = true) ∧ h'.get? b = some { cls := .type "tuple", data := .seq #[Value.ref (kf b).2.1, Value.int (kf b).1.2 (kf b).2.2] } := fun b hb => by
    obtain ⟨j, hj⟩ := List.mem_iff_getElem?.mp hb
    exact (hkf j b hj).2
  let enc : Value → PyData := fun v => match v with
    | .ref b => encV (kf b).1
    | _ => encV (.none, 0)
  have hob : (h'.push { cls := .type "list", data := .seq (as.map Value.ref).toArray }).get? h'.objs.size = some (seqObj "list" (as.map Value.ref).toArray 0) := Heap.get?_push_size _ rfl
  have ka : ∀ b o, h'.get? b = some o → (h'.push { cls := .type "list", data := .seq (as.map Value.ref).toArray }).get? b = some o := fun b o e => Heap.get?_push_of_some _ e
  have off : ∀ b o, h'.get? b = some o → b ≠ h'.objs.size := fun b o e => Nat.ne_of_lt (Heap.lt_size e)
  generalize hh2 : h'.push { cls := .type "list", data := .seq (as.map Value.ref).toArray } = h2 at hob ka ⊢
  have lenV : (as.map Value.ref).length ≤ sizeLine := by rw [List.length_map]; omega
  have er : ∀ h2' : Heap, (∀ b o, b ≠ h'.objs.size → h2.get? b = some o → h2'.get? b = some o) → ∀ v ∈ as.map Value.ref, ∃ ws, Reads h2' v (enc v) ws := by
    intro h2' keep v hv
    obtain ⟨b, hb, rfl⟩ := List.mem_map.mp hv
    obtain ⟨e1, e2⟩ := kIn b hb
    have I3 : Inv X pins σ H { s with heap := h2', toks := tk } := I.kept (t' := tk) fun c oc e => keep c oc (off _ _ (hk' _ _ e)) (ka _ _ (hk' _ _ e))
    obtain ⟨ws, hw⟩ := Dp.reads I3 _ _ _ (Da.dp _ _ e1.1) (show RelV (.ref (kf b).2.1) (.ref (kf b).2.1) from rfl)
    exact ⟨_, .tuple (keep _ _ (off _ _ e2) (ka _ _ e2)) rfl rfl (.cons hw (.cons (.int _ _) .nil))⟩
  have din : ∀ b ∈ as, (kf b).1.1 ∈ ds.map (·.1) := fun b hb => by
    obtain ⟨j, hj⟩ := List.mem_iff_getElem?.mp hb
    exact List.mem_map.mpr ⟨_, List.mem_of_getElem? (hkf j b hj).1, rfl⟩
  refine wpAny_call_entry PyProof.Rows.slot_list_sort ⟨_, hob, rfl⟩ PyProof.Rows.entry_list_sort
    (SrtO.list_sort_ord (s := { s with heap := h2, toks := tk }) (swo_data enc) hob lenV (fun h2l => sortable (s := { s with heap := h2, toks := tk }) h2l er (fun v hv u hu' => ?_) (fun v hv => ?_) fun v hv => ?_) fun out o1 o2 => ⟨.none, rfl, ?_⟩) (PyProof.Rows.args_list_sort _)
  · obtain ⟨b, hb, rfl⟩ := List.mem_map.mp hv
    obtain ⟨c, hc', rfl⟩ := List.mem_map.mp hu'
    show alike (encV (kf b).1) (encV (kf c).1) = true
    have := hso.2.1 _ (din b hb) _ (din c hc')
    simp [encV, alike, alikeAll, this]
  · obtain ⟨b, hb, rfl⟩ := List.mem_map.mp hv
    exact ⟨_, _, rfl⟩
  · obtain ⟨b, hb, rfl⟩ := List.mem_map.mp hv
    show X.A.in1.in1.units + (encV (kf b).1).depth < cLine
    have e1 : X.A.in1.in1.units = X.A.units + 2 := rfl
    have e3 := hso.2.2.2 _ (din b hb)
    have e2 : (encV (kf b).1).depth ≤ 17 := by
      simp only [encV, PyData.depth, PyData.depthAll]
      omega
    omega
  · show EP X pins σ Q (.ref h'.objs.size) { s with heap := sortedHeap h2 h'.objs.size (as.map Value.ref) out.toArray, toks := tk }
    have inV : ∀ v ∈ out, ∃ b ∈ as, v = Value.ref b := fun v hv => by
      obtain ⟨b, hb, e⟩ := List.mem_map.mp (o2.perm.mem_iff.mp hv)
      exact ⟨b, hb, e.symm⟩
    obtain ⟨ts, ets⟩ : ∃ ts : List Addr, out = ts.map Value.ref := ⟨out.map adO, ref_map fun v hv => by
      obtain ⟨b, _, e⟩ := inV v hv
      exact ⟨b, e⟩⟩
    subst ets
    have tsIn : ∀ b ∈ ts, b ∈ as := fun b hb => by
      obtain ⟨c, hc', e⟩ := inV (.ref b) (List.mem_map.mpr ⟨b, hb, rfl⟩)
      cases e
      exact hc'
    have tperm : ts.Perm as := by
      have e := o2.perm.map adO
      rwa [ad_map, ad_map] at e
    have M1 : (ts.map fun b => (kf b).1).Perm ds := by
      rw [← eL]
      exact tperm.map _
    have M2 : (ts.map fun b => (kf b).1).Pairwise (fun p q => dataLt (encV q) (encV p) = false) := by
      have e : (ts.map Value.ref).Pairwise (fun v u => dataLt (enc u) (enc v) = false) := o1
      rw [List.pairwise_map] at e ⊢
      exact e
    have kF : ∀ b oo, b ≠ h'.objs.size → h2.get? b = some oo → (sortedHeap h2 h'.objs.size (as.map Value.ref) (ts.map Value.ref).toArray).get? b = some oo := fun b oo hb e => (PyProof.Rows.sortedHeap_old hb (Heap.lt_size e)).trans e
    have kS : ∀ b oo, s.heap.get? b = some oo → (sortedHeap h2 h'.objs.size (as.map Value.ref) (ts.map Value.ref).toArray).get? b = some oo := fun b oo e => kF b oo (off _ _ (hk' b oo e)) (ka b oo (hk' b oo e))
    obtain ⟨eF, heF⟩ := PyProof.Rows.sortedHeap_at (vs := as.map Value.ref) (out := (ts.map Value.ref).toArray) hob
    have I1 : Inv X pins σ H { s with heap := sortedHeap h2 h'.objs.size (as.map Value.ref) (ts.map Value.ref).toArray, toks := tk } := I.kept (t' := tk) kS
    have newL : H h'.objs.size = none := I.hok.fresh (Nat.le_of_lt hlt)
    have I2 : Inv X pins σ (upd H h'.objs.size (.lst (ts.map V.ref))) { s with heap := sortedHeap h2 h'.objs.size (as.map Value.ref) (ts.map Value.ref).toArray, toks := tk } :=
      I1.take (h' := sortedHeap h2 h'.objs.size (as.map Value.ref) (ts.map Value.ref).toArray) (t' := tk) (fun b ob _ e => e) (I.fpOk (Nat.le_of_lt hlt) newL) ⟨by rw [List.length_map, tperm.length_eq]; omega, ts.map Value.ref, eF, LiI.vals_refs ts, heF⟩
    obtain ⟨H2, I3, g, qt⟩ := DX.takeT (P := fun b us => us = [V.ref (kf b).2.1, V.int (kf b).1.2]) I as _ I2 nd fun b hb => by
      have hbl : s.heap.objs.size ≤ b := Nat.le_of_lt (hG.above b hb)
      obtain ⟨e1, e2⟩ := kIn b hb
      refine ⟨hbl, ?_, _, rfl, fun H3 => ⟨by show 2 ≤ sizeLine; decide, [Value.ref (kf b).2.1, Value.int (kf b).1.2 (kf b).2.2], .cons rfl (.cons ⟨_, rfl⟩ .nil), ⟨_, kF _ _ (off _ _ e2) (ka _ _ e2), rfl, 0, rfl⟩⟩⟩
      rw [upd_ne (off _ _ e2)]
      exact I.hok.fresh hbl
    have gr : Same H H2 := fun b oo e => g b oo (by rw [upd_ne (ne_of_none e newL)]; exact e)
    refine ⟨.ref h'.objs.size, H2, I3, rfl, q H2 h'.objs.size ts _ gr newL M1 M2 (g _ _ upd_same) (paired_map fun b hb => ?_)⟩
    obtain ⟨us, eu, hu3⟩ := qt b (tsIn b hb)
    exact ⟨(kf b).2.1, by rw [hu3, eu], Da.same gr _ _ (kIn b (tsIn b hb)).1.1⟩
end NSet

/-! len of a dict with data as keys -/
namespace NSet
open PySem PySem.Spec PySem.W PyProof.Rows L2
section
variable {X : Cx}
def rLenV (K : PySem.W.Frag) (w : World) : List V → Hp → VK → Prop := fun xs H Q => ∃ (a : Addr) (L : List DRowV), xs = [.ref a] ∧ Rd H a (DictVO w a L) ∧ MemV K H L ∧ Q (.int (L.length : Nat)) H
theorem call_lenV : CallR X (.builtin "len") (rLenV X.K X.w) := by
  intro pins s σ H xs us0 Q I r h
  obtain ⟨a, L, rfl, ha, hm, q⟩ := h
  obtain ⟨u, rfl, rx⟩ := vals1 r
  obtain rfl : u = Value.ref a := rx
  obtain ⟨us, ru, dof⟩ := (dv_rd I ha).full (P := X.prog) (hm.nst I)
  have lu : L.length = us.length := by
    have := ru.length
    rwa [List.length_map] at this
  have zl : ((L.zip us).map rowV).length = L.length := by rw [List.length_map, List.length_zip, ← lu, Nat.min_self]
  obtain ⟨_, _, _, _, _, _, _, hz, _⟩ := dv_rd I ha
  refine call_len_dictH (dv_at I ha).2.2 dof (by rw [zl]; rw [sizeLine_eq] at hz; omega) ?_
  rw [zl]
  exact ⟨.int (L.length : Nat), H, I.tok _, ⟨_, rfl⟩, q⟩
end
end NSet

/-! == of two dicts with data as keys, either answer -/
namespace NSet
open PySem PySem.Calls PySem.W PySem.Spec PyProof.Rows
section
variable {prog : Program} {w : World} {K : Type} [DecidableEq K] {knd : HeapKind prog w K} {A : Around} {E : Value → Shared → Prop} {s : Shared}
theorem cmp_heap {nm : String} {a b : Addr} {xa xb : List (K × Addr × Value)} {Q : Bool → Shared → Prop} (hu : knd.room A) (ha : (a == sysModules) = false) (hb : (b == sysModules) = false)
    (da : s.heap.DictOfH knd a xa) (db : s.heap.DictOfH knd b xb) (hl : xa.length = xb.length) (P : K × Addr × Value → Bool)
    (hv : ∀ x ∈ xa, (∀ (j : Nat) (p : Addr × Value), xb[j]? = some (x.1, p) → SeqAt.EqAt A s x.2.2 p.2 (P x)) ∧ ((∀ (j : Nat) (p : Addr × Value), xb[j]? ≠ some (x.1, p)) → P x = false)) (h : Q (xa.all P) s) :
    wpAny (model prog w) A (Builtin.Dict.samePairs nm a b) Q E s := by
  obtain ⟨oa, es, ep, hoa, _, hda, hea, hia, hna⟩ := da
  obtain ⟨ob, es', ep', hob, _, hdb, heb, hib, hnb⟩ := db
  have la : es.size = xa.length := size_of_entries hea
  have lb : es'.size = xb.length := size_of_entries heb
  have hsz : es.size = es'.size := by omega
  have no : ∀ x ∈ xa, P x = false → xa.all P = false := fun x hx e => by
    rw [List.all_eq_false]
    exact ⟨x, hx, by rw [e]; exact Bool.false_ne_true⟩
  unfold Builtin.Dict.samePairs Builtin.Dict.showsAll
  rw [if_neg (show ¬ (a == sysModules) = true by rw [ha]; exact Bool.false_ne_true), if_neg (show ¬ (b == sysModules) = true by rw [hb]; exact Bool.false_ne_true)]
  refine wpAny_bind (wpAny_pure (wpAny_bind (wpAny_pure ?_)))
  refine wpAny_bind (wpAny_dictEntries hoa hda ?_)
  dsimp only
  refine wpAny_bind (wpAny_dictEntries hob hdb ?_)
  rw [if_neg (by rw [hsz]; simp)]
  refine wpAny_bind (wpAny_dictEpoch hoa hda ?_)
  refine wpAny_bind ?_
  rw [Std.Legacy.Range.forIn_eq_forIn_range']
  simp only [Std.Legacy.Range.size, Nat.sub_zero, Nat.add_sub_cancel, Nat.div_one]
  refine wpAny_forIn_list _ (fun rest q s' => s' = s ∧ q = (none, ()) ∧ (∀ i ∈ rest, i < es.size) ∧ ∀ (i : Nat) x, xa[i]? = some x → i ∉ rest → P x = true) _ ?_ ?_ _ _ ⟨rfl, rfl, fun i hi => ?_, fun i x hx hn => ?_⟩
  · rintro i rest q s' ⟨rfl, rfl, hr, hok⟩
    have hlt : i < es.size := hr i List.mem_cons_self
    have hlx : i < xa.length := by omega
    have hin : xa[i] ∈ xa := List.getElem_mem hlx
    have ent : es[i]? = some (entryOfKey knd xa[i]) := by
      rw [entry_at hea i, List.getElem?_eq_getElem hlx]
      rfl
    obtain ⟨h1, h2⟩ := hv _ hin
    refine wpAny_bind (wpAny_dictEntries hoa hda ?_)
    rw [ent]
    show wpAny _ _ (holding [(entryOfKey knd xa[i]).key, (entryOfKey knd xa[i]).val] _ >>= _) _ _ _
    refine wpAny_bind (wpAny_holding (wpAny_bind (wpAny_dictFind_heap hu (hia _ hin) hob hdb heb hib hnb (fun hno => ?_) fun j' p' hj' => ?_)))
    · have hf := no _ hin (h2 hno)
      rw [hf] at h
      first | exact wpAny_pure h | exact wpAny_pure (wpAny_pure h) | (exact wpAny_pure (wpAny_pure (wpAny_pure h)))
    refine wpAny_bind (wpAny_dictEntries hob hdb ?_)
    rw [entry_at heb j', hj']
    show wpAny _ _ (holding _ _) _ _ _
    refine wpAny_holding (h1 j' p' hj' prog w _ _ ?_)
    cases hp : P xa[i] with
    | true =>
      show wpAny _ _ (if (!true) = true then _ else _) _ _ _
      rw [if_neg (by decide)]
      refine wpAny_bind (wpAny_dictEpoch hoa hda ?_)
      rw [if_neg (by simp)]
      refine wpAny_pure ⟨rfl, rfl, fun i hi => hr i (List.mem_cons_of_mem _ hi), fun k x hx hn => ?_⟩
      by_cases z : k = i
      · subst z
        rw [List.getElem?_eq_getElem hlx] at hx
        cases hx
        exact hp
      · exact hok k x hx (fun hm => by
          rcases List.mem_cons.mp hm with e | e
          · exact z e
          · exact hn e)
    | false =>
      have hf := no _ hin hp
      rw [hf] at h
      show wpAny _ _ (if (!false) = true then _ else _) _ _ _
      rw [if_pos (by decide)]
      first | exact wpAny_pure h | exact wpAny_pure (wpAny_pure h) | (exact wpAny_pure (wpAny_pure (wpAny_pure h)))
  · rintro q s' ⟨rfl, rfl, _, hok⟩
    have : xa.all P = true := by
      rw [List.all_eq_true]
      intro x hx
      obtain ⟨i, hi⟩ := List.getElem?_of_mem hx
      exact hok i x hi (List.not_mem_nil)
    rw [this] at h
    exact wpAny_pure h
  · have := (List.mem_range'_1.mp hi).2
    omega
  · exfalso
    refine hn (List.mem_range'_1.mpr ⟨Nat.zero_le _, ?_⟩)
    have := (List.getElem?_eq_some_iff.mp hx).1
    omega
theorem len_heap {nm : String} {a b : Addr} {xa xb : List (K × Addr × Value)} {Q : Bool → Shared → Prop} (ha : (a == sysModules) = false) (hb : (b == sysModules) = false)
    (da : s.heap.DictOfH knd a xa) (db : s.heap.DictOfH knd b xb) (hl : xa.length ≠ xb.length) (h : Q false s) : wpAny (model prog w) A (Builtin.Dict.samePairs nm a b) Q E s := by
  obtain ⟨oa, es, ep, hoa, _, hda, hea, hia, hna⟩ := da
  obtain ⟨ob, es', ep', hob, _, hdb, heb, hib, hnb⟩ := db
  have la : es.size = xa.length := size_of_entries hea
  have lb : es'.size = xb.length := size_of_entries heb
  unfold Builtin.Dict.samePairs Builtin.Dict.showsAll
  rw [if_neg (show ¬ (a == sysModules) = true by rw [ha]; exact Bool.false_ne_true), if_neg (show ¬ (b == sysModules) = true by rw [hb]; exact Bool.false_ne_true)]
  refine wpAny_bind (wpAny_pure (wpAny_bind (wpAny_pure ?_)))
  refine wpAny_bind (wpAny_dictEntries hoa hda ?_)
  dsimp only
  refine wpAny_bind (wpAny_dictEntries hob hdb ?_)
  rw [if_pos (by simp; omega)]
  exact wpAny_bind (wpAny_rule (wpAny_pure h))
theorem eqB_heap {a b : Addr} {xa xb : List (K × Addr × Value)} {Q : Value → Shared → Prop} (hr : knd.room A.in1) (hu : A.units < cLine) (ha : (a == sysModules) = false) (hb : (b == sysModules) = false)
    (da : s.heap.DictOfH knd a xa) (db : s.heap.DictOfH knd b xb) (P : K × Addr × Value → Bool)
    (hv : ∀ x ∈ xa, (∀ (j : Nat) (p : Addr × Value), xb[j]? = some (x.1, p) → SeqAt.EqAt A.in1 s x.2.2 p.2 (P x)) ∧ ((∀ (j : Nat) (p : Addr × Value), xb[j]? ≠ some (x.1, p)) → P x = false)) (h : Q (.bool (decide (xa.length = xb.length) && xa.all P)) s) :
    wpAny (model prog w) A (compareOp .Eq (.ref a) (.ref b)) Q E s := by
  have ta : s.TypeIs (.ref a) "dict" := da.typeIs
  have tb : s.TypeIs (.ref b) "dict" := db.typeIs
  refine wpAny_richCompare_same_room (op := .Eq) ta tb PySem.F.slot_dict_eq (wpAny_call_entry PySem.F.slot_dict_eq ta PySem.F.entry_dict_eq ?_ (PySem.F.args_dict_eq_2 _ _)) hu
  show wpAny _ _ (Builtin.Dict.dictSlotArgs "__eq__" ⟨[.ref a, .ref b], []⟩ >>= _) _ _ s
  refine wpAny_bind ?_
  unfold Builtin.Dict.dictSlotArgs
  refine wpAny_bind (wpAny_notOrdered_dict ta ?_)
  show wpAny _ _ (pure (Value.ref a, Value.ref b)) _ _ s
  refine wpAny_pure ?_
  refine wpAny_bind (wpAny_isInstance (T := "dict") tb PySem.F.sub_dict_dict ?_)
  simp only [Bool.not_true, Bool.false_eq_true, if_false]
  refine wpAny_bind (wpAny_pure (wpAny_bind (wpAny_pure ?_)))
  by_cases hl : xa.length = xb.length
  · rw [decide_eq_true hl, Bool.true_and] at h
    refine wpAny_bind (cmp_heap hr ha hb da db hl P hv ?_)
    exact wpAny_pure ⟨_, rfl, (fun x => nomatch x), by rw [beq_true]; exact h⟩
  · rw [decide_eq_false hl, Bool.false_and] at h
    refine wpAny_bind (len_heap ha hb da db hl ?_)
    exact wpAny_pure ⟨_, rfl, (fun x => nomatch x), h⟩
end
end NSet

/-! dicts by kinds of keys; tallies over them -/
namespace NSet
open PySem PySem.Spec PySem.W PyProof.Rows L2
/-- a kind of keys -/
structure Kin where
  κ : Type
  dec : DecidableEq κ
  enc : κ → PyData
  inj : ∀ x y, enc x = enc y → x = y
  key : ∀ x, keyed (enc x) = true
  dep : ∀ x, (kOf (enc x)).depth ≤ 8
  dp : ∀ x, (enc x).depth ≤ 8
  tup : ∀ x, ∃ ds, enc x = .tuple ds
  nil : ∀ x y, alike (enc x) (enc y) = true
instance (E : Kin) : DecidableEq E.κ := E.dec
/-- a row of the dict is a key and a value -/
def RowIs (E : Kin) (K : PySem.W.Frag) (H : Hp) (r : DRowV) (p : E.κ × V) : Prop := Da K H (.ref r.2.1) (E.enc p.1) ∧ r.1 = kOf (E.enc p.1) ∧ r.2.2 = p.2
abbrev Rows (E : Kin) (K : PySem.W.Frag) (H : Hp) (Lr : List DRowV) (L : List (E.κ × V)) : Prop := Paired (RowIs E K H) Lr L
section
variable {E : Kin} {K : PySem.W.Frag} {w : World} {H H' : Hp} {a : Addr} {Lr : List DRowV} {L : List (E.κ × V)}
theorem Kin.ref {v : V} {k : E.κ} (h : Da K H v (E.enc k)) : ∃ b, v = .ref b := by
  obtain ⟨ds, e⟩ := E.tup k
  rw [e] at h
  cases h
  exact ⟨_, rfl⟩
theorem Kin.imm (E : Kin) (k : E.κ) : imm (E.enc k) = true := keyed_imm _ (E.key k)
theorem RowIs.st {r : DRowV} {p : E.κ × V} (h : RowIs E K H r p) (e : ST K H H') : RowIs E K H' r p := ⟨Da.st e _ _ (E.imm _) h.1, h.2⟩
theorem Rows.st (h : Rows E K H Lr L) (e : ST K H H') : Rows E K H' Lr L := Paired.mapP h fun _ _ r => RowIs.st r e
theorem pmem {α β : Type} {F : α → β → Prop} : ∀ {l : List α} {m : List β}, Paired F l m → ∀ x ∈ l, ∃ y ∈ m, F x y
  | _, _, .nil, x, hx => nomatch hx
  | _, _, .cons h t, x, hx => by
    rcases List.mem_cons.mp hx with rfl | hx
    · exact ⟨_, List.mem_cons_self, h⟩
    · obtain ⟨y, hy, hf⟩ := pmem t x hx
      exact ⟨y, List.mem_cons_of_mem _ hy, hf⟩
theorem pgetL {α β : Type} {F : α → β → Prop} : ∀ {l : List α} {m : List β} {i : Nat} {x : α}, Paired F l m → l[i]? = some x → ∃ y, m[i]? = some y ∧ F x y
  | _, _, _, _, .nil, h => by simp at h
  | _, _, 0, _, .cons h t, e => by
    simp at e
    subst e
    exact ⟨_, rfl, h⟩
  | _, _, i + 1, x, .cons h t, e => by
    obtain ⟨y, h1, h2⟩ := pgetL (i := i) t (by simpa using e)
    exact ⟨y, by simpa using h1, h2⟩
theorem plen {α β : Type} {F : α → β → Prop} : ∀ {l : List α} {m : List β}, Paired F l m → l.length = m.length
  | _, _, .nil => rfl
  | _, _, .cons _ t => congrArg (· + 1) (plen t)
theorem psnoc {α β : Type} {F : α → β → Prop} {x : α} {y : β} (h : F x y) : ∀ {l : List α} {m : List β}, Paired F l m → Paired F (l ++ [x]) (m ++ [y])
  | _, _, .nil => .cons h .nil
  | _, _, .cons r t => .cons r (psnoc h t)
theorem pmap2 {α β α' β' : Type} {F : α → β → Prop} {G : α' → β' → Prop} {f : α → α'} {g : β → β'} (hfg : ∀ x y, F x y → G (f x) (g y)) : ∀ {l : List α} {m : List β}, Paired F l m → Paired G (l.map f) (m.map g)
  | _, _, .nil => .nil
  | _, _, .cons r t => .cons (hfg _ _ r) (pmap2 hfg t)
theorem Rows.mem (h : Rows E K H Lr L) : MemV K H Lr := fun x hx => by
  obtain ⟨p, _, h1, h2, _⟩ := pmem h x hx
  exact ⟨E.enc p.1, h1, E.imm _, h2, E.dep _⟩
/-- the value of a key -/
def valA (L : List (E.κ × V)) (k : E.κ) : Option V := (L.find? fun p => decide (p.1 = k)).map (·.2)
def putA (L : List (E.κ × V)) (k : E.κ) (v : V) : List (E.κ × V) := if (L.any fun p => decide (p.1 = k)) = true then L.map (fun p => if p.1 = k then (p.1, v) else p) else L ++ [(k, v)]
theorem key_eq {x y : E.κ} : kOf (E.enc x) = kOf (E.enc y) ↔ x = y := ⟨fun h => E.inj _ _ (kOf_inj _ _ (E.key x) (E.key y) h), fun h => by rw [h]⟩
theorem valN_rows (k : E.κ) : ∀ {Lr : List DRowV} {L : List (E.κ × V)}, Rows E K H Lr L → valN Lr (kOf (E.enc k)) = valA L k
  | _, _, .nil => rfl
  | r :: Lr, p :: L, .cons h t => by
    have ih := valN_rows k t
    unfold valN valA at ih ⊢
    obtain ⟨h1, h2, h3⟩ := h
    rw [List.find?_cons, List.find?_cons]
    by_cases c : p.1 = k
    · have d1 : decide (r.1 = kOf (E.enc k)) = true := decide_eq_true (by rw [h2, c])
      have d2 : decide (p.1 = k) = true := decide_eq_true c
      simp only [d1, d2, Option.map_some, h3]
    · have d1 : decide (r.1 = kOf (E.enc k)) = false := decide_eq_false (by rw [h2]; exact fun z => c (key_eq.mp z))
      have d2 : decide (p.1 = k) = false := decide_eq_false c
      simp only [d1, d2]
      exact ih
theorem any_rows (k : E.κ) : ∀ {Lr : List DRowV} {L : List (E.κ × V)}, Rows E K H Lr L → (Lr.find? fun x => decide (x.1 = kOf (E.enc k))).isSome = (L.any fun p => decide (p.1 = k))
  | _, _, .nil => rfl
  | r :: Lr, p :: L, .cons h t => by
    have ih := any_rows k t
    obtain ⟨h1, h2, h3⟩ := h
    rw [List.find?_cons, List.any_cons]
    by_cases c : p.1 = k
    · have d1 : decide (r.1 = kOf (E.enc k)) = true := decide_eq_true (by rw [h2, c])
      have d2 : decide (p.1 = k) = true := decide_eq_true c
      simp only [d1, d2, Option.isSome_some, Bool.true_or]
    · have d1 : decide (r.1 = kOf (E.enc k)) = false := decide_eq_false (by rw [h2]; exact fun z => c (key_eq.mp z))
      have d2 : decide (p.1 = k) = false := decide_eq_false c
      simp only [d1, d2, Bool.false_or]
      exact ih
theorem Rows.stored (h : Rows E K H Lr L) {b : Addr} {k : E.κ} (v : V) (hb : Da K H (.ref b) (E.enc k)) : Rows E K H (storedV Lr (kOf (E.enc k)) b v) (putA L k v) := by
  unfold storedV putA
  rw [any_rows k h]
  split
  · refine pmap2 (fun r p hr => ?_) h
    obtain ⟨h1, h2, h3⟩ := hr
    by_cases c : p.1 = k
    · rw [if_pos c, if_pos (by rw [h2, c])]
      exact ⟨h1, h2, rfl⟩
    · rw [if_neg c, if_neg (by rw [h2]; exact fun z => c (key_eq.mp z))]
      exact ⟨h1, h2, h3⟩
  · exact psnoc ⟨hb, rfl, rfl⟩ h
theorem no_ext {g : Heap → Prop} : NoTup (.ext g) := True.intro
theorem dgetA (h : Rd H a (DictVO w a Lr)) (R : Rows E K H Lr L) {y : V} {k : E.κ} (hy : Da K H y (E.enc k)) : DGetV K w H a y (valA L k) := by
  obtain ⟨b, rfl⟩ := Kin.ref hy
  exact ⟨b, Lr, _, rfl, h, R.mem, hy, E.imm k, E.dep k, (valN_rows k R).symm⟩
theorem dputA (h : H a = some (DictVO w a Lr)) (R : Rows E K H Lr L) {y v : V} {k : E.κ} (hy : Da K H y (E.enc k)) (hl : L.length < sizeLine) : ∃ Lr', DPutV K w H a y v (upd H a (DictVO w a Lr')) ∧ Rows E K (upd H a (DictVO w a Lr')) Lr' (putA L k v) := by
  obtain ⟨b, rfl⟩ := Kin.ref hy
  refine ⟨storedV Lr (kOf (E.enc k)) b v, ⟨b, Lr, _, rfl, h, R.mem, hy, E.imm k, E.dep k, ?_, rfl⟩, (R.stored v hy).st (st_upd h no_ext)⟩
  rw [plen R]
  exact hl
/-- a[y] = v as sDPutV asks it -/
theorem sputA {σ : L2.St} {D : L2.Ends} (h : H a = some (DictVO w a Lr)) (R : Rows E K H Lr L) {y v : V} {k : E.κ} (hy : Da K H y (E.enc k)) (hl : L.length < sizeLine)
    (q : ∀ Lr', Rows E K (upd H a (DictVO w a Lr')) Lr' (putA L k v) → D.nx σ (upd H a (DictVO w a Lr'))) :
    ∃ (a' b : Addr) (L' : List DRowV) (d : PyData), V.ref a = .ref a' ∧ y = .ref b ∧ H a' = some (DictVO w a' L') ∧ MemV K H L' ∧ Da K H (.ref b) d ∧ imm d = true ∧ (kOf d).depth ≤ 8 ∧ L'.length < sizeLine ∧ D.nx σ (upd H a' (DictVO w a' (storedV L' (kOf d) b v))) := by
  obtain ⟨b, rfl⟩ := Kin.ref hy
  refine ⟨a, b, Lr, _, rfl, rfl, h, R.mem, hy, E.imm k, E.dep k, by rw [plen R]; exact hl, q _ ((R.stored v hy).st (st_upd h no_ext))⟩
/-- the i-th key of the walk -/
theorem rows_at (R : Rows E K H Lr L) {i : Nat} {r : DRowV} (h : Lr[i]? = some r) : ∃ p, L[i]? = some p ∧ Da K H (.ref r.2.1) (E.enc p.1) ∧ r.2.2 = p.2 := by
  obtain ⟨p, h1, h2, _, h3⟩ := pgetL R h
  exact ⟨p, h1, h2, h3⟩
theorem putA_new {L : List (E.κ × V)} {k : E.κ} {v : V} (h : k ∉ L.map (·.1)) : putA L k v = L ++ [(k, v)] := by
  unfold putA
  rw [if_neg]
  intro z
  obtain ⟨p, hp, e⟩ := List.any_eq_true.mp z
  exact h (List.mem_map.mpr ⟨p, hp, of_decide_eq_true e⟩)
end
/-! ### tallies: the values are ints -/
section
variable {E : Kin} {K : PySem.W.Frag} {w : World} {H H' : Hp} {a : Addr}
def ivs (L : List (E.κ × Int)) : List (E.κ × V) := L.map fun p => (p.1, V.int p.2)
theorem ivs_len (L : List (E.κ × Int)) : (ivs L).length = L.length := List.length_map ..
theorem find_ivs (L : List (E.κ × Int)) (k : E.κ) : valA (ivs L) k = (L.find? fun p => decide (p.1 = k)).map fun p => V.int p.2 := by
  unfold valA ivs
  rw [List.find?_map, Option.map_map]
  rfl
theorem find_cntA {L : List (E.κ × Int)} (hn : (Tl.keys L).Nodup) (k : E.κ) : L.find? (fun p => decide (p.1 = k)) = if k ∈ Tl.keys L then some (k, Tl.cnt L k) else none := by
  cases h : L.find? (fun p => decide (p.1 = k)) with
  | some p =>
    have hp := List.mem_of_find?_eq_some h
    have e : p.1 = k := of_decide_eq_true (List.find?_some (p := fun p : E.κ × Int => decide (p.1 = k)) h)
    rw [if_pos (by rw [← e]; exact List.mem_map.mpr ⟨p, hp, rfl⟩), ← e, Tl.cnt_in hn hp]
  | none =>
    rw [if_neg]
    intro z
    obtain ⟨p, hp, e⟩ := List.mem_map.mp z
    have := List.find?_eq_none.mp h p hp
    simp [e] at this
theorem val_ivs {L : List (E.κ × Int)} (hn : (Tl.keys L).Nodup) (k : E.κ) : (valA (ivs L) k).getD (.int 0) = .int (Tl.cnt L k) := by
  rw [find_ivs, find_cntA hn]
  split
  · rfl
  · next e => rw [Tl.cnt_out e]; rfl
theorem val_ivs_in {L : List (E.κ × Int)} (hn : (Tl.keys L).Nodup) {k : E.κ} (h : k ∈ Tl.keys L) : valA (ivs L) k = some (.int (Tl.cnt L k)) := by
  rw [find_ivs, find_cntA hn, if_pos h]
  rfl
theorem put_ivs (L : List (E.κ × Int)) (k : E.κ) (v : Int) : putA (ivs L) k (.int v) = ivs (Tl.put L k v) := by
  unfold putA Tl.put ivs
  have ha : ((L.map fun p => (p.1, V.int p.2)).any fun p => decide (p.1 = k)) = L.any fun p => decide (p.1 = k) := by
    rw [List.any_map]
    rfl
  rw [ha]
  split
  · rw [List.map_map, List.map_map]
    refine List.map_congr_left fun p _ => ?_
    show (if p.1 = k then (p.1, V.int v) else (p.1, V.int p.2)) = _
    by_cases e : p.1 = k
    · simp [e]
    · simp [e]
  · rw [List.map_append]
    rfl
/-- a tally at a -/
def TalAt (E : Kin) (K : PySem.W.Frag) (w : World) (H : Hp) (a : Addr) (L : List (E.κ × Int)) : Prop := ∃ Lr, H a = some (DictVO w a Lr) ∧ Rows E K H Lr (ivs L) ∧ (Tl.keys L).Nodup ∧ L.length ≤ 5000
theorem TalAt.same {L : List (E.κ × Int)} (t : TalAt E K w H a L) (e : Same H H') : TalAt E K w H' a L := by
  obtain ⟨Lr, h1, h2, h3, h4⟩ := t
  exact ⟨Lr, e _ _ h1, h2.st e.st, h3, h4⟩
theorem ivs_get {L : List (E.κ × Int)} {i : Nat} {p : E.κ × V} (h : (ivs L)[i]? = some p) : ∃ q, L[i]? = some q ∧ p = (q.1, V.int q.2) := by
  unfold ivs at h
  rw [List.getElem?_map] at h
  obtain ⟨q, h1, h2⟩ := Option.map_eq_some_iff.mp h
  exact ⟨q, h1, h2.symm⟩
end
/-! ### a dict comprehension over a dict, the same keys -/
def DcGoalV (K : PySem.W.Frag) (w : World) (J : It) (g : TG) (tt : TT) (tk tv : TE) (vs : List Nat) (σ : L2.St) (H1 : Hp) (D : Addr) (Qd : Hp → Prop) : Prop :=
  ∃ W : Nat → Nat → Hp → Prop, (∃ m, W 0 m (upd H1 D (DictVO w D []))) ∧ ∀ i m H, W i m H →
    (J.stop i H ∧ Qd H) ∨ (J.go i H ∧ ∃ Nx : Hp → Prop, (∀ H', Nx H' → ∃ m', m' < m ∧ W (i + 1) m' H') ∧ ∀ x H', J.yld i H x H' → g x (wipe σ vs) H' fun σ2 H2 => wipe σ2 vs = wipe σ vs ∧ tt σ2 H2 fun b H3 =>
      if b = true then tk σ2 H3 fun y H4 => tv σ2 H4 fun z H5 => ∃ H6, DPutV K w H5 D y z H6 ∧ Nx H6 else Nx H3)
theorem dcV_it {K : PySem.W.Frag} {w' : World} {J : It} {n : Nat} {G : Hp → Prop} {Y : Nat → Hp → V → Hp → Prop} (w : Walk J n G Y) {g : TG} {tt : TT} {tk tv : TE} {vs : List Nat} {σ : L2.St} {H1 : Hp} {D : Addr} {Qd : Hp → Prop} (Pv : Nat → Hp → Prop) (h0 : Pv 0 (upd H1 D (DictVO w' D []))) (hG : ∀ i H, i ≤ n → Pv i H → G H)
    (hs : ∀ i x H H', i < n → Pv i H → Y i H x H' → g x (wipe σ vs) H' fun σ2 H2 => wipe σ2 vs = wipe σ vs ∧ tt σ2 H2 fun b H3 =>
      if b = true then tk σ2 H3 fun y H4 => tv σ2 H4 fun z H5 => ∃ H6, DPutV K w' H5 D y z H6 ∧ Pv (i + 1) H6 else Pv (i + 1) H3)
    (hd : ∀ H, Pv n H → Qd H) : DcGoalV K w' J g tt tk tv vs σ H1 D Qd := by
  refine ⟨fun i m H => m = n - i ∧ i ≤ n ∧ Pv i H, ⟨n, by simp, Nat.zero_le _, h0⟩, ?_⟩
  rintro i m H ⟨rfl, hi, p⟩
  have q := hG i H hi p
  by_cases hlt : i < n
  · exact .inr ⟨w.goes i H hlt q, Pv (i + 1), fun H' p' => ⟨n - (i + 1), by omega, rfl, hlt, p'⟩, fun x H' y => hs i x H H' hlt p (w.yields i H x H' hlt q y)⟩
  · have e : i = n := by omega
    subst e
    exact .inl ⟨w.stops H q, hd H p⟩
section
variable {E : Kin} {K : PySem.W.Frag} {w : World}
theorem dcV_rows {L : List (E.κ × V)} {Lr : List DRowV} {a D : Addr} {od : Obj} {H1 : Hp} (hz : H1 a = some (.frz od (DictVO w a Lr))) (R : Rows E K H1 Lr L) (nd : (L.map (·.1)).Nodup) (hl : L.length ≤ 100000) {g : TG} {tt : TT} {tk tv : TE} {vs : List Nat} {σ : L2.St} {Qd : Hp → Prop} (hD : H1 D = none) (bs : E.κ × V → Bool) (fs : E.κ × V → V)
    (step : ∀ (p : E.κ × V) (q : Addr) (H2 : Hp) (Q2 : V → V → Hp → Prop) (R : Hp → Prop), p ∈ L → Same H1 H2 → Da K H2 (.ref q) (E.enc p.1) → (bs p = true → ∀ H4, Same H2 H4 → Q2 (.ref q) (fs p) H4) → (bs p = false → ∀ H3, Same H2 H3 → R H3) →
      g (.ref q) (wipe σ vs) H2 fun σ2 H2' => wipe σ2 vs = wipe σ vs ∧ tt σ2 H2' fun b H3 => if b = true then tk σ2 H3 fun y H4 => tv σ2 H4 fun z H5 => Q2 y z H5 else R H3)
    (hd : ∀ H' Lr', Same H1 H' → H' D = some (DictVO w D Lr') → Rows E K H' Lr' ((L.filter bs).map fun p => (p.1, fs p)) → Qd H') : DcGoalV K w (Itv w a od Lr) g tt tk tv vs σ H1 D Qd := by
  have en : Lr.length = L.length := plen R
  refine dcV_it (walk_keysV (L := Lr)) (fun i H' => Same H1 H' ∧ ∃ Lr', H' D = some (DictVO w D Lr') ∧ Rows E K H' Lr' (((L.take i).filter bs).map fun p => (p.1, fs p))) ⟨same_upd hD, [], upd_same, .nil⟩ (fun i H' _ p => p.1 _ _ hz) (fun i x H2 H3 hi pv y => ?_) (fun H' pv => ?_)
  · obtain ⟨rfl, r, hk, rfl⟩ := y
    obtain ⟨pv1, Lr', pv2, pv3⟩ := pv
    obtain ⟨p, hp, hr, _⟩ := rows_at (R.st pv1.st) hk
    have ht : L.take (i + 1) = L.take i ++ [p] := by rw [List.take_add_one, hp]; rfl
    have hnew : p.1 ∉ (((L.take i).filter bs).map fun p => (p.1, fs p)).map (·.1) := by
      intro h1
      obtain ⟨p1, hp1, e1⟩ := List.mem_map.mp h1
      obtain ⟨p2, hp2, e2⟩ := List.mem_map.mp hp1
      have hin : p2 ∈ L.take i := (List.mem_filter.mp hp2).1
      have hn2 : ((L.take (i + 1)).map (·.1)).Nodup := nd.sublist ((List.take_sublist _ _).map _)
      rw [ht, List.map_append] at hn2
      refine (List.nodup_append.mp hn2).2.2 p2.1 (List.mem_map.mpr ⟨p2, hin, rfl⟩) p.1 (by simp) ?_
      rw [← e1, ← e2]
    refine step p r.2.1 _ _ _ (List.mem_of_getElem? hp) pv1 hr (fun hb H4 e4 => ?_) (fun hb H3 e3 => ⟨pv1.trans e3, Lr', e3 _ _ pv2, ?_⟩)
    · have hD4 := e4 _ _ pv2
      have lt : (((L.take i).filter bs).map fun p => (p.1, fs p)).length < sizeLine := by
        rw [List.length_map]
        refine Nat.lt_of_le_of_lt (List.length_filter_le _ _) ?_
        refine Nat.lt_of_le_of_lt (List.length_take_le _ _) ?_
        rw [en] at hi
        exact Nat.lt_of_lt_of_le hi (Nat.le_trans hl (by decide))
      obtain ⟨Lr2, put, rows⟩ := dputA (v := fs p) hD4 (pv3.st e4.st) (Da.same e4 _ _ hr) lt
      refine ⟨_, put, (pv1.trans e4).mut hD, Lr2, upd_same, ?_⟩
      rw [putA_new hnew] at rows
      rw [ht, List.filter_append, List.map_append]
      simpa [hb] using rows
    · have := pv3.st (K := K) e3.st
      rw [ht, List.filter_append, List.map_append]
      simpa [hb] using this
  · have e : L.take Lr.length = L := by rw [en, List.take_length]
    rw [e] at pv
    obtain ⟨pv1, Lr', pv2, pv3⟩ := pv
    exact hd H' Lr' pv1 pv2 pv3
end
end NSet

namespace L2
open PySem PySem.Spec PySem.W
/-- a new dict with ints or texts as keys -/
theorem fresh_K : Fresh0 (.dK []) := fun P w H h hb => dk_empty h hb
end L2

namespace L2
open PySem PySem.Spec PyProof.Rows
/-! ### x[k] by the class's own __getitem__ -/
def rIxOwn (C : Addr) (sp : Sp) (E : XK) : R2 := fun x y H Q => ∃ a dx fs, x = .ref a ∧ H a = some (.ins C dx fs) ∧ sp [.ref a, y] H Q E
section
variable {X : Cx} {CX : CXT} {k : Nat} {f C : Addr} {fd : FuncData} {ps : List Str} {sp : Sp} {dvs : List V} {ds : List Value} {E : XK}
theorem run_fn1 {pins : List (Addr × Obj)} {σ : L2.St} {H : Hp} {s : Shared} {Q : VK} {us : List Value} {vs : List V} (F : FnOk X.prog X.w X.K X.mg X.base CX k f fd ps sp) (hr : Room (k + 1) X.A) (hb : Binds X.K fd ps ds) (hd : Vals dvs ds) (hx : Passes CX X E)
    (I : Inv X pins σ H s) (r : Vals vs us) (h : sp (vs ++ dvs) H Q E) : wpAny (model X.prog X.w) X.A.in1 (call (.ref f) us) (EP X pins σ Q) X.xe s := by
  have r2 : Vals (vs ++ dvs) (us ++ ds) := r.append hd
  have hl : (us ++ ds).length = ps.length := by rw [← r2.length]; exact F.len _ _ _ _ h
  refine wpAny_call (codeAny_mono (F.run X.A.in1 X.stack s H ⟨us, []⟩ (us ++ ds) (vs ++ dvs) Q E hr.in1 I.env0.in1 (hb s us I.kIn hl) r2 h) fun r s' hq => ?_)
  cases r with
  | error e => exact hx pins σ H s e s' I hq
  | ok fl =>
    cases fl with
    | ret u => exact I.after hq
    | next => exact False.elim hq
    | brk => exact False.elim hq
    | cont => exact False.elim hq
theorem pe_ixOwn {a b : Expr} {ta tb : TE} {pos : Pos} (D : MethD X.prog X.w X.K X.mg X.base C "__getitem__" k ps sp) (hr : Room (k + 1) X.A) (ha : PE X a ta) (hb : PE X b tb)
    (hsl : ∀ o i, subscripted b true o i = runValue (.builtin "lifetime.subscript" ⟨[o, i], []⟩) := by intro _ _; with_unfolding_all rfl) : PE X (.Subscript a b pos) (tOp (rIxOwn C sp E0) ta tb) := by
  obtain ⟨f, fd, M, F, bi, _, _, _, lk⟩ := D
  refine ⟨fun pins s σ H Q I h => ?_⟩
  refine Subscript_ (binT ha hb I h fun v u s2 x y H2 I2 rx ry q => ?_)
  obtain ⟨a, dx, fs, rfl, ha, q⟩ := q
  cases rx
  obtain ⟨mA, J, _⟩ := ins_get I2.hok ha
  obtain ⟨od, J, _⟩ := J.look
  obtain ⟨m, hF⟩ := I2.fr
  refine PySem.W.sub_K hF I2.ok.mod.kin J M.at_ ?_ M.fn ?_ (hsl _ _)
  · unfold PySem.W.fnIn
    rw [lk]
  exact run_fn1 (us := [.ref a, u]) (vs := [.ref a, y]) (dvs := []) F hr bi .nil pass0 I2 (.cons rfl (.cons ry .nil)) q
end
/-! ### xs[::2] -/
def ev2 {α : Type} : List α → List α
  | [] => []
  | [a] => [a]
  | a :: _ :: l => a :: ev2 l
theorem ev2_sub {α : Type} : ∀ {l : List α} {x : α}, x ∈ ev2 l → x ∈ l
  | [], _, h => h
  | [_], _, h => h
  | a :: b :: l, x, h => by
    rcases List.mem_cons.mp h with rfl | h
    · exact List.mem_cons_self ..
    · exact List.mem_cons_of_mem _ (List.mem_cons_of_mem _ (ev2_sub h))
theorem ev2_ne {α : Type} : ∀ {l : List α}, l ≠ [] → ev2 l ≠ []
  | [_], _ => by simp [ev2]
  | _ :: _ :: _, _ => by simp [ev2]
theorem ev2_len {α : Type} : ∀ l : List α, (ev2 l).length ≤ l.length
  | [] => Nat.le_refl _
  | [_] => Nat.le_refl _
  | _ :: _ :: l => by
    have := ev2_len l
    show (ev2 l).length + 1 ≤ l.length + 1 + 1
    omega
theorem ev2_rel : ∀ {xs : List V} {us : List Value}, Vals xs us → Vals (ev2 xs) (ev2 us)
  | _, _, .nil => .nil
  | _, _, .cons r .nil => .cons r .nil
  | _, _, .cons r (.cons _ t) => .cons r (ev2_rel t)
theorem ev2_pick {α : Type} : ∀ (l : List α) (d : Nat) (xs : List α), xs.drop d = l → ((List.range ((l.length + 1) / 2)).map fun k => d + 2 * k).filterMap (xs[·]?) = ev2 l
  | [], d, xs, _ => by simp [ev2]
  | [a], d, xs, h => by
    have h0 : xs[d]? = some a := by
      have := congrArg (·[0]?) h
      simpa using this
    have e1 : ([a].length + 1) / 2 = 1 := by simp
    rw [e1]
    simp [ev2, h0]
  | a :: b :: l, d, xs, h => by
    have h0 : xs[d]? = some a := by
      have := congrArg (·[0]?) h
      simpa using this
    have h2 : xs.drop (d + 2) = l := by
      have := congrArg (List.drop 2) h
      rw [List.drop_drop] at this
      simpa using this
    have ih := ev2_pick l (d + 2) xs h2
    have e : ((a :: b :: l).length + 1) / 2 = (l.length + 1) / 2 + 1 := by
      simp only [List.length_cons]
      omega
    rw [e, List.range_succ_eq_map, List.map_cons, List.map_map, List.filterMap_cons]
    simp only [Nat.mul_zero, Nat.add_zero, h0]
    show a :: _ = a :: ev2 l
    rw [← ih]
    congr 2
    refine List.map_congr_left fun k _ => ?_
    show d + 2 * (k + 1) = d + 2 + 2 * k
    omega
theorem ev2_slice (items : Array Value) : slicePick items none none (some 2) = (ev2 items.toList).toArray := by
  unfold slicePick
  have hb : sliceBounds none none (some 2) items.size = (0, (items.size : Int), 2) := by
    first
      | rfl
      | simp [sliceBounds]
  rw [hb]
  show ((sliceRange 0 (items.size : Int) 2).filterMap (items[·]?)).toArray = _
  have hr : sliceRange 0 (items.size : Int) 2 = (List.range ((items.toList.length + 1) / 2)).map fun k => 0 + 2 * k := by
    unfold sliceRange
    rw [if_pos (by decide)]
    have e : (if (0 : Int) < (items.size : Int) then ((items.size : Int) - 0 + 2 - 1) / 2 else 0).toNat = (items.toList.length + 1) / 2 := by
      rw [Array.length_toList]
      split <;> omega
    dsimp only
    rw [e]
    refine List.map_congr_left fun k _ => ?_
    show (0 + 2 * (k : Int)).toNat = 0 + 2 * k
    omega
  rw [hr]
  have := ev2_pick items.toList 0 items.toList rfl
  simp only [Array.getElem?_toList] at this
  rw [this]
def tEv2 (K : PySem.W.Frag) (te : TE) : TE := fun σ H Q => te σ H fun x H1 => ∃ a xs, x = .ref a ∧ SqL K H1 a xs ∧ ∀ p, H1 p = none → Q (.ref p) (upd H1 p (.lst (ev2 xs)))
theorem pe_ev2 {X : Cx} {e : Expr} {te : TE} {k : Nat} {p1 p3 pos : Pos} (he : PE X e te) : PE X (.Subscript e (.Slice none none (some (.Constant (.int 2) k p1)) p3) pos) (tEv2 X.K te) := by
  refine ⟨fun pins s σ H Q I h => ?_⟩
  refine Subscript_ (thn (he.run pins s σ H _ I h) fun v s1 ⟨x, H1, I1, r1, q1⟩ => ?_)
  obtain ⟨a, xs, ex, hx, q⟩ := q1
  subst ex
  cases r1
  have hst : PO X (some (.Constant (.int 2) k p1)) (tPart (tC (.int 2))) := po_some pe_int
  refine wpAny_Slice (thn (po_none.run pins s1 σ H1 (fun o H2 => o = none ∧ H2 = H1) I1 ⟨rfl, rfl⟩) fun vl s2 ⟨l, H2, I2, pl, el, e2⟩ => ?_)
  subst el e2
  refine thn (po_none.run pins s2 σ H2 (fun o H3 => o = none ∧ H3 = H2) I2 ⟨rfl, rfl⟩) fun vu s3 ⟨u, H3, I3, pu, eu, e3⟩ => ?_
  subst eu e3
  refine thn (hst.run pins s3 σ H3 (fun o H4 => o = some 2 ∧ H4 = H3) I3 ⟨2, rfl, rfl, rfl⟩) fun vs s4 ⟨o, H4, I4, ps, eo, e4⟩ => ?_
  subst eo e4
  have I5 : Inv X pins σ H4 { s4 with heap := s4.heap.push { cls := .type "slice", data := .fields #[vl, vu, vs] } } := I4.kept (t' := s4.toks) fun b ob q => Heap.get?_push_of_some _ q
  obtain ⟨its, r, ht, hz⟩ := I5.list hx
  have hlen := r.length
  show wpAny (model X.prog X.w) X.A (subscriptTail e (.Slice none none (some (.Constant (.int 2) k p1)) p3) (.ref a) (.ref s4.heap.objs.size)) (EP X pins σ Q) X.xe { s4 with heap := s4.heap.push { cls := .type "slice", data := .fields #[vl, vu, vs] } }
  refine tail_any (ops := [.ref a, .ref s4.heap.objs.size]) ht.isList.typeIs (PySem.slot_list_getitem.lookup) ?_ (by with_unfolding_all rfl)
  refine wpAny_getItem_list_slice ht.isList (Heap.IsSliceOf.new _ vl vu vs) pl pu ps (by decide) ?_ (by rw [List.size_toArray]; omega)
  rw [ev2_slice]
  refine ⟨.ref _, _, I5.laid (t' := s4.toks) (o := .lst (ev2 xs)) (fun b ob q => Heap.get?_push_of_some _ q) (Nat.le_refl _) ?_, rfl, q _ (I5.hok.fresh (Nat.le_refl _))⟩
  exact ⟨Nat.le_trans (ev2_len xs) hz, _, 0, ev2_rel r, Heap.get?_push_size _ rfl⟩
end L2

/-! own == (either answer), len of an own object, C(..) by a local name, {k: v} with data as key -/
namespace NSet
open PySem PySem.Spec PySem.W PyProof.Rows L2
section
variable {X : Cx} {k : Nat} {C : Addr} {ps : List Str} {sp : Sp}
/-- x == y by the class's own method -/
def rEqOwn (C : Addr) (sp : Sp) (E : XK) : R2 := fun x y H Q => ∃ a dx fs b dy gs, x = .ref a ∧ y = .ref b ∧ H a = some (.ins C dx fs) ∧ H b = some (.ins C dy gs) ∧ sp [.ref a, .ref b] H (fun v H' => ∃ c, v = .bl c ∧ Q (.bl c) H') E
theorem op_eqOwn (D : MethD X.prog X.w X.K X.mg X.base C "__eq__" k ps sp) (hr : Room k X.A) : OpR X (compareOp .Eq) (rEqOwn C sp E0) := by
  obtain ⟨f, fd, M, F, bd, _⟩ := D
  intro pins s σ H x y v u Q I rx ry h
  obtain ⟨a, dx, fs, b, dy, gs, rfl, rfl, ha, hb, q⟩ := h
  cases rx
  cases ry
  obtain ⟨mA, J, _⟩ := ins_get I.hok ha
  obtain ⟨mB, J', _⟩ := ins_get I.hok hb
  obtain ⟨od, J, _⟩ := J.look
  obtain ⟨od', J', _⟩ := J'.look
  obtain ⟨mm, hF⟩ := I.fr
  refine wpAny_mono (?_ : wpAny (model X.prog X.w) X.A (richCompare .Eq (.ref a) (.ref b)) (EP X pins σ Q) X.xe s) (fun _ _ z => z) fun _ _ z => z
  refine PySem.W.cmp_K (op := .Eq) (tb := .ref C) hr.units0 hF I.ok.mod.kin J J'.type (by simp [PySem.W.notFirst]) M.at_ M.fn ?_
  have q2 : sp ([V.ref a, V.ref b] ++ []) H (fun v H' => ∃ c, v = V.bl c ∧ Q (.bl c) H') E0 := q
  refine thn (run_fn (us := [.ref a, .ref b]) (vs := [.ref a, .ref b]) (dvs := []) F hr bd .nil pass0 I (.cons rfl (.cons rfl .nil)) q2) fun r s' hz => ?_
  obtain ⟨z, H', I', rz, c, ez, q'⟩ := hz
  subst ez
  cases rz
  exact ⟨V.bl c, H', I', rfl, q'⟩
/-- len(o) by the class's own method -/
def rLenOwn (C : Addr) (sp : Sp) (E : XK) : List V → Hp → VK → Prop := fun xs H Q => ∃ a dx fs, xs = [.ref a] ∧ H a = some (.ins C dx fs) ∧ sp [.ref a] H (fun v H' => ∃ n : Nat, v = .int n ∧ n ≤ 1000000 ∧ Q (.int n) H') E
theorem call_lenOwn (D : MethD X.prog X.w X.K X.mg X.base C "__len__" k ps sp) (hr : Room (k + 1) X.A) : CallR X (.builtin "len") (rLenOwn C sp E0) := by
  obtain ⟨f, fd, M, F, bi, _, _, _, lk⟩ := D
  intro pins s σ H xs us Q I r h
  obtain ⟨a, dx, fs, rfl, ha, q⟩ := h
  obtain rfl := Vals.ref1 r
  obtain ⟨mA, J, _⟩ := ins_get I.hok ha
  obtain ⟨od, J, _⟩ := J.look
  refine Calls.call_function_entry PySem.kind_len PySem.plain_len PySem.entry_len (PySem.args_len1 _) ?_
  unfold Builtin.«len»
  refine wpAny_bind (m := oneArg "len" _) (wpAny_pure ?_)
  refine wpAny_bind (m := callSpecial? (.ref a) (Str.ofString "__len__")) (PySem.W.special_fn I.kIn J M.at_ (beq_iff_eq.mp M.fn) ?_)
  refine thn (run_fn1 (us := [.ref a]) (vs := [.ref a]) (dvs := []) F hr bi .nil pass0 I (.cons rfl .nil) q) fun v s' ⟨z, H', I', rz, n, ez, hn, q'⟩ => ?_
  subst ez
  obtain ⟨t, rfl⟩ := rz
  refine wpAny_bind (wpAny_holding (wpAny_pure ?_))
  refine wpAny_bind (wpAny_letGo ?_)
  show wpAny _ _ (if ((n : Nat) : Int) < 0 then _ else _) _ _ _
  rw [if_neg (by omega)]
  show wpAny _ _ (if ((n : Nat) : Int) ≥ 2 ^ 63 then _ else _) _ _ _
  rw [if_neg (by omega)]
  exact wpAny_bind (wpAny_mkInt (wpAny_pure ⟨_, rfl, .int n, H', I'.tok _, ⟨_, rfl⟩, q'⟩))
variable {i : Nat} {x : Str} {p pos : Pos} {e : Expr} {es : List Expr} {t : TA}
/-- C(e, ..), the class by a local name -/
def tMakeLV (i : Nat) (C : Addr) (sp : Sp) (t : TA) : TE := fun σ H Q => σ[i]? = some (some (.ref C)) ∧ tMake C sp [] E0 t σ H Q
theorem pe_makeLV {x0 : Str} (D : MakeD X.prog X.w X.K X.mg X.base C x0 k ps sp) (hr : Room (k + 1) X.A) (hN : X.N[i]? = some x) (hv : Vis X.env.scope x) (ha : PA X (e :: es) t)
    (hdb : (x == ("__debug__" : Str)) = false := by decide) (hcd : (x == ("__classdict__" : Str)) = false := by decide)
    (he : starEach (e :: es) X.env = (false, eval e X.env) :: starEach es X.env := by rfl) (hpl : (backTo pos (starEach es X.env)).any (·.1) = false := by rfl) :
    PE X (.Call (.Name x p) (e :: es) [] pos) (tMakeLV i C sp t) := by
  obtain ⟨f, fd, M, hm, F, b⟩ := D
  refine ⟨fun pins s σ H Q I h => ?_⟩
  obtain ⟨hs, ht⟩ := h
  refine wpAny_Call_Name_kw (thn ((pe_var (pos := p) hN hv hdb hcd).run pins s σ H (fun v H1 => v = .ref C ∧ H1 = H) I ⟨.ref C, hs, rfl, rfl⟩) fun u s1 ⟨v, H1, I1, r1, q1⟩ => ?_)
  obtain ⟨rfl, rfl⟩ := q1
  cases r1
  refine PySem.W.callWith_K (h₀ := X.base) I1.ok.mod.kin M.kp (thn (ha.run pos pins s1 σ H1 _ I1 ht) fun us s2 ⟨vs, H2, I2, r, q⟩ => ⟨I2.kIn, ?_⟩) he hpl
  exact run_make M F hr b .nil pass0 I2 r q
/-- {k: v} -/
def tDispV1 (K : PySem.W.Frag) (w : World) (tk tv : TE) : TE := fun σ H Q => ∀ p, H p = none → tPairs [(tk, tv)] σ (upd H p (DictVO w p [])) fun ps H2 => ∃ y v H3, ps = [(y, v)] ∧ DPutV K w H2 p y v H3 ∧ Q (.ref p) H3
theorem pe_dispV1 {pos : Pos} {keys : List (Option Expr)} {values : List Expr} {tk tv : TE} (hu : X.A.units + 24 < cLine) (h : PPs X pos keys values [(tk, tv)]) (hall : keys.all (·.isSome) = true) (hl : keys.length = values.length) (h0 : keys ≠ [])
    (h15 : keys.length ≤ 15) : PE X (.Dict keys values pos) (tDispV1 X.K X.w tk tv) := by
  refine ⟨fun pins s σ H Q I q => ?_⟩
  have hn := I.hok.fresh (Nat.le_refl s.heap.objs.size)
  have I1 := I.laid (a := s.heap.objs.size) (o := DictVO X.w s.heap.objs.size []) (h' := s.heap.push { cls := .type "dict", data := .dict #[] }) (t' := s.toks) (fun _ _ q => Heap.get?_push_of_some _ q) (Nat.le_refl _) (new0 s.heap I.big)
  refine wpAny_Dict_any hall hl h0 h15 (thn (h.run pins _ σ _ _ I1 (q _ hn)) fun ws s2 ⟨ps, H2, I2, rel, y, v, H3, ep, hput, q2⟩ => ?_)
  subst ep
  cases rel with
  | @cons _ b _ _ hb ht =>
    cases ht
    obtain ⟨b1, b2⟩ := b
    unfold storeAll
    rw [List.forIn_cons]
    refine wpAny_bind (wpAny_bind (put_compV hu I2 hput hb.1 hb.2 fun s' I' => wpAny_pure ?_))
    show wpAny _ _ (forIn [] PUnit.unit _) _ _ _
    rw [List.forIn_nil]
    exact wpAny_pure ⟨.ref s.heap.objs.size, H3, I', rfl, q2⟩
end
end NSet

/-! tallies told in order; sorted keys; == of two tallies -/
namespace NSet
open PySem PySem.Spec PySem.W PyProof.Rows L2
def ltK (E : Kin) (x y : E.κ) : Bool := dataLt (E.enc x) (E.enc y)
structure OrdK (E : Kin) : Prop where
  tot : ∀ x y, ltK E x y = false → ltK E y x = false → x = y
section
variable {E : Kin}
theorem ltK_irr (x : E.κ) : ltK E x x = false := swoD.refl _
theorem ltK_asym {x y : E.κ} (h : ltK E x y = true) : ltK E y x = false := swoD.asym _ _ h
theorem ltK_trans (O : OrdK E) {x y z : E.κ} (h1 : ltK E x y = true) (h2 : ltK E y z = true) : ltK E x z = true := by
  cases e : ltK E x z with
  | true => rfl
  | false =>
    have a : ltK E y x = false := ltK_asym h1
    have b : ltK E z y = false := ltK_asym h2
    -- not x < z, not z < y: not x < y
    have := swoD.tr _ _ _ b e
    rw [show dataLt (E.enc x) (E.enc y) = ltK E x y from rfl, h1] at this
    cases this
/-- the counts c, told in ascending order -/
structure Told (E : Kin) (c : E.κ → Int) (D : List (E.κ × Int)) : Prop where
  val : ∀ p ∈ D, c p.1 = p.2 ∧ p.2 ≠ 0
  all : ∀ k, c k ≠ 0 → k ∈ Tl.keys D
  asc : D.Pairwise fun p q => ltK E p.1 q.1 = true
variable {c : E.κ → Int} {D D' : List (E.κ × Int)}
theorem Told.nd (T : Told E c D) : (Tl.keys D).Nodup := by
  refine List.pairwise_map.mpr (T.asc.imp fun {p q} h e => ?_)
  rw [e, ltK_irr] at h
  cases h
theorem Told.fin (T : Told E c D) : Tl.Fin D := ⟨T.nd, fun p hp => (T.val p hp).2⟩
theorem Told.cnt (T : Told E c D) (k : E.κ) : Tl.cnt D k = c k := by
  by_cases h : k ∈ Tl.keys D
  · obtain ⟨p, hp, rfl⟩ := List.mem_map.mp h
    rw [Tl.cnt_in T.nd hp, (T.val p hp).1]
  · rw [Tl.cnt_out h]
    refine Classical.byContradiction fun z => h (T.all k fun e => z e.symm)
theorem Told.uniq (O : OrdK E) (T : Told E c D) (T' : Told E c D') : D = D' := by
  have pm : D.Perm D' := T.fin.perm T'.fin fun k => by rw [T.cnt, T'.cnt]
  refine List.Perm.eq_of_pairwise (le := fun p q => ltK E p.1 q.1 = true) (fun a b ha hb h1 h2 => ?_) T.asc T'.asc pm
  rw [ltK_asym h1] at h2
  cases h2
theorem Told.congr {c' : E.κ → Int} (T : Told E c D) (h : ∀ k, c k = c' k) : Told E c' D := ⟨fun p hp => by rw [← h]; exact T.val p hp, fun k hk => T.all k (by rw [h]; exact hk), T.asc⟩
/-- told of a sorted list of keys -/
theorem told_of {L : List E.κ} (h : L.Pairwise fun x y => ltK E x y = true) (c : E.κ → Int) (hc : ∀ k, c k ≠ 0 → k ∈ L) : Told E c ((L.filter fun k => decide (c k ≠ 0)).map fun k => (k, c k)) := by
  refine ⟨fun p hp => ?_, fun k hk => ?_, ?_⟩
  · obtain ⟨k, hk, rfl⟩ := List.mem_map.mp hp
    exact ⟨rfl, of_decide_eq_true (List.mem_filter.mp hk).2⟩
  · exact List.mem_map.mpr ⟨(k, c k), List.mem_map.mpr ⟨k, List.mem_filter.mpr ⟨hc k hk, decide_eq_true hk⟩, rfl⟩, rfl⟩
  · exact List.pairwise_map.mpr (h.filter _)
theorem sorted_keys (O : OrdK E) {ks : List E.κ} {M : List PyData} (nd : ks.Nodup) (hp : M.Perm (ks.map E.enc)) (hw : M.Pairwise fun d e => dataLt e d = false) : ∃ L : List E.κ, M = L.map E.enc ∧ L.Perm ks ∧ L.Pairwise fun x y => ltK E x y = true := by
  obtain ⟨L, h1, h2⟩ := perm_lift E.enc hp ks rfl
  subst h2
  refine ⟨L, rfl, h1, ?_⟩
  have hw' := List.pairwise_map.mp hw
  have nd' : L.Nodup := h1.nodup_iff.mpr nd
  refine (hw'.and nd').imp fun {x y} ⟨a, b⟩ => ?_
  cases e : ltK E x y with
  | true => rfl
  | false => exact absurd (O.tot x y e a) b
theorem sorts_of (ks : List E.κ) : Sorts (ks.map E.enc) := by
  refine ⟨immAll_of fun d hd => ?_, fun d hd e he => ?_, fun _ d hd => ?_, fun d hd => ?_⟩
  · obtain ⟨k, _, rfl⟩ := List.mem_map.mp hd
    exact E.imm k
  · obtain ⟨k, _, rfl⟩ := List.mem_map.mp hd
    obtain ⟨k', _, rfl⟩ := List.mem_map.mp he
    exact E.nil k k'
  · obtain ⟨k, _, rfl⟩ := List.mem_map.mp hd
    exact E.tup k
  · obtain ⟨k, _, rfl⟩ := List.mem_map.mp hd
    exact Nat.le_trans (E.dp k) (by decide)
end
section
variable {E : Kin} {K : PySem.W.Frag} {w : World} {H H' : Hp}
theorem Rows.das : ∀ {Lr : List DRowV} {L : List (E.κ × V)}, Rows E K H Lr L → DaAll K H (Lr.map kRef) (L.map fun p => E.enc p.1)
  | _, _, .nil => .nil
  | _, _, .cons h t => .cons h.1 (Rows.das t)
theorem ivs_keys (L : List (E.κ × Int)) : (ivs L).map (fun p => E.enc p.1) = (Tl.keys L).map E.enc := by
  unfold ivs Tl.keys
  rw [List.map_map, List.map_map]
  rfl
def rEqTal (K : PySem.W.Frag) (w : World) : R2 := fun x y H Q => ∃ (E : Kin) (a b : Addr) (L M : List (E.κ × Int)) (Lr Mr : List DRowV), x = .ref a ∧ y = .ref b ∧ Rd H a (DictVO w a Lr) ∧ Rows E K H Lr (ivs L) ∧ Rd H b (DictVO w b Mr) ∧ Rows E K H Mr (ivs M) ∧ (Tl.keys L).Nodup ∧ (Tl.keys M).Nodup ∧
  ∀ v : Bool, (v = true ↔ L.Perm M) → Q (.bl v) H
theorem perm_of_sub {L M : List (E.κ × Int)} (nL : (Tl.keys L).Nodup) (nM : (Tl.keys M).Nodup) (hl : L.length = M.length) (hs : ∀ p ∈ L, p ∈ M) : L.Perm M := by
  refine (List.perm_ext_iff_of_nodup (Tl.nodup_keys nL) (Tl.nodup_keys nM)).mpr fun p => ⟨hs p, fun hp => ?_⟩
  refine Classical.byContradiction fun z => ?_
  have n2 : (p :: L).Nodup := List.nodup_cons.mpr ⟨z, Tl.nodup_keys nL⟩
  have := List.Nodup.length_le_of_subset n2 (l₂ := M) fun q hq => by
    rcases List.mem_cons.mp hq with rfl | hq
    · exact hp
    · exact hs q hq
  rw [List.length_cons] at this
  omega
theorem val_ivs_none {L : List (E.κ × Int)} {k : E.κ} (h : k ∉ Tl.keys L) : valA (ivs L) k = none := by
  rw [find_ivs, List.find?_eq_none.mpr fun p hp => ?_]
  · rfl
  · simp only [decide_eq_true_eq]
    exact fun e => h (e ▸ List.mem_map.mpr ⟨p, hp, rfl⟩)
theorem val_ivs_iff {L : List (E.κ × Int)} (hn : (Tl.keys L).Nodup) {k : E.κ} {i : Int} : valA (ivs L) k = some (.int i) ↔ (k, i) ∈ L := by
  by_cases h : k ∈ Tl.keys L
  · rw [val_ivs_in hn h]
    obtain ⟨p, hp, rfl⟩ := List.mem_map.mp h
    rw [Tl.cnt_in hn hp]
    constructor
    · intro e
      have : p.2 = i := by
        injection e with e
        injection e
      rw [← this]
      exact hp
    · intro e
      have := Tl.cnt_in hn e
      rw [Tl.cnt_in hn hp] at this
      rw [this]
  · rw [val_ivs_none h]
    exact ⟨fun z => (nomatch z), fun z => absurd (List.mem_map.mpr ⟨_, z, rfl⟩) h⟩
theorem op_eqTal {X : Cx} (hu : X.A.units + 24 < cLine) : OpR X (compareOp .Eq) (rEqTal X.K X.w) := by
  intro pins s σ H x y v u Q I rx ry h
  obtain ⟨E, a, b, L, M, Lr, Mr, rfl, rfl, ea, RL, eb, RM, nL, nM, q⟩ := h
  obtain rfl : v = Value.ref a := rx
  obtain rfl : u = Value.ref b := ry
  obtain ⟨us, ru, da⟩ := (dv_rd I ea).full (P := X.prog) (RL.mem.nst I)
  obtain ⟨ws, rw', db⟩ := (dv_rd I eb).full (P := X.prog) (RM.mem.nst I)
  have l1 : Lr.length = us.length := by
    have := ru.length
    rwa [List.length_map] at this
  have l2 : Mr.length = ws.length := by
    have := rw'.length
    rwa [List.length_map] at this
  have l3 : Lr.length = L.length := by rw [plen RL, ivs_len]
  have l4 : Mr.length = M.length := by rw [plen RM, ivs_len]
  -- a row of either, with its number
  have rowL : ∀ (j : Nat) (z : NestedKey × Addr × Value), ((Lr.zip us).map rowV)[j]? = some z → ∃ (p : E.κ × Int) (t : Tok), L[j]? = some p ∧ z.1 = kOf (E.enc p.1) ∧ z.2.2 = .int p.2 t := by
    intro j z hz
    have hjl : j < Lr.length := by
      have := (List.getElem?_eq_some_iff.mp hz).1
      rw [List.length_map, List.length_zip] at this
      omega
    obtain ⟨u, hu1, hu2⟩ := zip_get l1 (List.getElem?_eq_getElem hjl)
    rw [hz] at hu2
    cases hu2
    obtain ⟨p, hp, _, e1, e2⟩ := pgetL RL (List.getElem?_eq_getElem hjl)
    obtain ⟨q', hq, rfl⟩ := ivs_get hp
    obtain ⟨u', g1, g2⟩ := Vals.get (i := j) (x := Lr[j].2.2) ru (by rw [List.getElem?_map, List.getElem?_eq_getElem hjl]; rfl)
    rw [hu1] at g1
    cases g1
    rw [e2] at g2
    obtain ⟨t, ht⟩ := g2
    exact ⟨q', t, hq, e1, ht⟩
  have rowM : ∀ (j : Nat) (z : NestedKey × Addr × Value), ((Mr.zip ws).map rowV)[j]? = some z → ∃ (p : E.κ × Int) (t : Tok), M[j]? = some p ∧ z.1 = kOf (E.enc p.1) ∧ z.2.2 = .int p.2 t := by
    intro j z hz
    have hjl : j < Mr.length := by
      have := (List.getElem?_eq_some_iff.mp hz).1
      rw [List.length_map, List.length_zip] at this
      omega
    obtain ⟨u, hu1, hu2⟩ := zip_get l2 (List.getElem?_eq_getElem hjl)
    rw [hz] at hu2
    cases hu2
    obtain ⟨p, hp, _, e1, e2⟩ := pgetL RM (List.getElem?_eq_getElem hjl)
    obtain ⟨q', hq, rfl⟩ := ivs_get hp
    obtain ⟨u', g1, g2⟩ := Vals.get (i := j) (x := Mr[j].2.2) rw' (by rw [List.getElem?_map, List.getElem?_eq_getElem hjl]; rfl)
    rw [hu1] at g1
    cases g1
    rw [e2] at g2
    obtain ⟨t, ht⟩ := g2
    exact ⟨q', t, hq, e1, ht⟩
  let P : NestedKey × Addr × Value → Bool := fun x => match x.2.2 with
    | .int i _ => (valN Mr x.1 == some (.int i) : Bool)
    | _ => false
  have Pv : ∀ (j : Nat) (z : NestedKey × Addr × Value) (p : E.κ × Int) (t : Tok), z.1 = kOf (E.enc p.1) → z.2.2 = .int p.2 t → (P z = true ↔ p ∈ M) := by
    intro j z p t e1 e2
    show (match z.2.2 with | .int i _ => (valN Mr z.1 == some (.int i) : Bool) | _ => false) = true ↔ _
    rw [e2, e1, valN_rows p.1 RM]
    show (valA (ivs M) p.1 == some (.int p.2)) = true ↔ _
    rw [beq_iff_eq, val_ivs_iff nM]
  refine eqB_heap (knd := nestedKind X.prog X.w) (in1 hu) (by omega) (dv_at I ea).2.2 (dv_at I eb).2.2 da db P (fun x hx => ?_) ?_
  · obtain ⟨j, hj⟩ := List.getElem?_of_mem hx
    obtain ⟨p, t, hp, e1, e2⟩ := rowL j x hj
    refine ⟨fun j' p' hj' => ?_, fun hno => ?_⟩
    · obtain ⟨q', t', hq, e3, e4⟩ := rowM j' _ hj'
      have ek : q'.1 = p.1 := key_eq.mp (by rw [← e3, ← e1])
      have e4' : p'.2 = .int q'.2 t' := e4
      rw [e2, e4']
      have e := SeqAt.EqAt.int_int (A := X.A.in1) (s := s) p.2 t q'.2 t'
      have hb : P x = (p.2 == q'.2) := by
        rw [Bool.eq_iff_iff, Pv j x p t e1 e2, beq_iff_eq]
        have hqm := List.mem_of_getElem? hq
        constructor
        · intro hm
          have z1 := Tl.cnt_in nM hm
          have z2 := Tl.cnt_in nM hqm
          rw [ek] at z2
          omega
        · intro z
          have : p = q' := Prod.ext ek.symm z
          rw [this]
          exact hqm
      rw [hb]
      exact e
    · cases hb : P x with
      | false => rfl
      | true =>
        have hm := (Pv j x p t e1 e2).mp hb
        obtain ⟨i, hi⟩ := List.getElem?_of_mem hm
        have hil : i < Mr.length := by
          have := (List.getElem?_eq_some_iff.mp hi).1
          omega
        obtain ⟨u, hu1, hu2⟩ := zip_get l2 (List.getElem?_eq_getElem hil)
        obtain ⟨q', t', hq, e3, e4⟩ := rowM i _ hu2
        rw [hi] at hq
        cases hq
        refine absurd (?_ : _ = _) (hno i (rowV (Mr[i], u)).2)
        rw [hu2]
        show some ((rowV (Mr[i], u)).1, (rowV (Mr[i], u)).2) = _
        rw [e3, e1]
  · refine ⟨.bl _, H, I, rfl, q _ ?_⟩
    have la : ((Lr.zip us).map rowV).length = L.length := by rw [List.length_map, List.length_zip]; omega
    have lb : ((Mr.zip ws).map rowV).length = M.length := by rw [List.length_map, List.length_zip]; omega
    rw [la, lb, Bool.and_eq_true, decide_eq_true_eq, List.all_eq_true]
    constructor
    · rintro ⟨hl, hall⟩
      refine perm_of_sub nL nM hl fun p hp => ?_
      obtain ⟨i, hi⟩ := List.getElem?_of_mem hp
      have hil : i < Lr.length := by
        have := (List.getElem?_eq_some_iff.mp hi).1
        omega
      obtain ⟨u, hu1, hu2⟩ := zip_get l1 (List.getElem?_eq_getElem hil)
      obtain ⟨q', t', hq, e3, e4⟩ := rowL i _ hu2
      rw [hi] at hq
      cases hq
      exact (Pv i _ p t' e3 e4).mp (hall _ (List.mem_of_getElem? hu2))
    · intro pm
      refine ⟨pm.length_eq, fun z hz => ?_⟩
      obtain ⟨j, hj⟩ := List.getElem?_of_mem hz
      obtain ⟨p, t, hp, e1, e2⟩ := rowL j z hj
      exact (Pv j z p t e1 e2).mpr (pm.mem_iff.mp (List.mem_of_getElem? hp))
end
/-! ### the kinds that are wanted: rows, and pairs of two rows -/
theorem keyed_mo (m : List Int) : keyed (mo m) = true := keyedAll_of fun d hd => by
  obtain ⟨i, _, rfl⟩ := List.mem_map.mp hd
  rfl
theorem mo_inj {m n : List Int} (h : mo m = mo n) : m = n := (List.map_inj_right (f := PyData.int) (fun x y e => by injection e)).mp (PyData.tuple.inj h)
theorem mo_dp (m : List Int) : (mo m).depth ≤ 2 := by
  have : PyData.depthAll (m.map .int) ≤ 1 := depthAll_le _ fun d hd => by
    obtain ⟨i, _, rfl⟩ := List.mem_map.mp hd
    simp [PyData.depth]
  show PyData.depth (.tuple (m.map .int)) ≤ 2
  simp only [PyData.depth]
  omega
mutual
theorem kOf_depth : ∀ d : PyData, (kOf d).depth ≤ d.depth
  | .none => Nat.zero_le _
  | .bool b => Nat.zero_le _
  | .int _ => Nat.zero_le _
  | .str _ => Nat.zero_le _
  | .tuple ds => by
    have := kOfs_depth ds
    simp only [kOf, NestedKey.depth, PyData.depth]
    omega
  | .list _ => Nat.zero_le _
  | .dict _ => Nat.zero_le _
theorem kOfs_depth : ∀ ds : List PyData, NestedKey.depthAll (kOfs ds) ≤ PyData.depthAll ds
  | [] => Nat.zero_le _
  | d :: ds => by
    have h1 := kOf_depth d
    have h2 := kOfs_depth ds
    simp only [kOfs, NestedKey.depthAll, PyData.depthAll]
    omega
end
abbrev rowK : Kin where
  κ := List Int
  dec := inferInstance
  enc := mo
  inj _ _ h := mo_inj h
  key := keyed_mo
  dep m := Nat.le_trans (kOf_depth _) (Nat.le_trans (mo_dp m) (by decide))
  dp m := Nat.le_trans (mo_dp m) (by decide)
  tup m := ⟨_, rfl⟩
  nil x y := RW9.encR_alike x y
def pairD (p : List Int × List Int) : PyData := .tuple [mo p.1, mo p.2]
theorem pair_dp (p : List Int × List Int) : (pairD p).depth ≤ 3 := by
  have h1 := mo_dp p.1
  have h2 := mo_dp p.2
  simp only [pairD, PyData.depth, PyData.depthAll]
  omega
abbrev pairK : Kin where
  κ := List Int × List Int
  dec := inferInstance
  enc := pairD
  inj x y h := by
    have h' := PyData.tuple.inj h
    rw [List.cons.injEq, List.cons.injEq] at h'
    exact Prod.ext (mo_inj h'.1) (mo_inj h'.2.1)
  key x := by
    show (keyed (mo x.1) && (keyed (mo x.2) && true)) = true
    rw [keyed_mo, keyed_mo]
    rfl
  dep m := Nat.le_trans (kOf_depth _) (Nat.le_trans (pair_dp m) (by decide))
  dp m := Nat.le_trans (pair_dp m) (by decide)
  tup m := ⟨_, rfl⟩
  nil x y := by
    show alike (.tuple _) (.tuple _) = true
    have h1 := RW9.encR_alike x.1 y.1
    have h2 := RW9.encR_alike x.2 y.2
    have h1' : alike (mo x.1) (mo y.1) = true := h1
    have h2' : alike (mo x.2) (mo y.2) = true := h2
    simp [alike, alikeAll, h1', h2']
theorem lt_row (x y : List Int) : ltK rowK x y = decide (x < y) := RW9.encR_lt x y
theorem lt_pair (x y : List Int × List Int) : ltK pairK x y = if x.1 = y.1 then decide (x.2 < y.2) else decide (x.1 < y.1) := by
  show dataLt (.tuple [mo x.1, mo x.2]) (.tuple [mo y.1, mo y.2]) = _
  have e1 : dataLt (mo x.1) (mo y.1) = decide (x.1 < y.1) := RW9.encR_lt x.1 y.1
  have e2 : dataLt (mo x.2) (mo y.2) = decide (x.2 < y.2) := RW9.encR_lt x.2 y.2
  refine (dataLt_pair (RW9.encR_alike x.1 y.1) (RW9.encR_alike x.2 y.2)).trans ?_
  rw [← e1, ← e2]
  show (if PyData.eqv (mo x.1) (mo y.1) = true then _ else _) = _
  by_cases h : x.1 = y.1
  · rw [if_pos h, if_pos (by rw [h]; exact (eqv_keyed _ _ (keyed_mo _) (keyed_mo _)).mpr rfl)]
    by_cases h2 : x.2 = y.2
    · rw [if_pos (show PyData.eqv (RW9.encR x.2) (RW9.encR y.2) = true by rw [h2]; exact (eqv_keyed _ _ (keyed_mo _) (keyed_mo _)).mpr rfl), h2]
      exact (swoD.refl (mo y.2)).symm
    · rw [if_neg (show ¬ PyData.eqv (RW9.encR x.2) (RW9.encR y.2) = true from fun z => h2 (mo_inj ((eqv_keyed _ _ (keyed_mo _) (keyed_mo _)).mp z)))]
      rfl
  · rw [if_neg h, if_neg (fun z => h (mo_inj ((eqv_keyed _ _ (keyed_mo _) (keyed_mo _)).mp z)))]
    rfl
theorem row_tot {x y : List Int} (h1 : ¬ x < y) (h2 : ¬ y < x) : x = y := List.le_antisymm (List.not_lt.mp h2) (List.not_lt.mp h1)
theorem ordRow : OrdK rowK := ⟨fun (x y : List Int) h1 h2 => by
  have h1' := (lt_row x y).symm.trans h1
  have h2' := (lt_row y x).symm.trans h2
  exact row_tot (of_decide_eq_false h1') (of_decide_eq_false h2')⟩
theorem ordPair : OrdK pairK := ⟨fun (x y : List Int × List Int) h1 h2 => by
  replace h1 := (lt_pair x y).symm.trans h1
  replace h2 := (lt_pair y x).symm.trans h2
  by_cases h : x.1 = y.1
  · rw [if_pos h] at h1
    rw [if_pos (Eq.symm h)] at h2
    exact Prod.ext h (row_tot (of_decide_eq_false h1) (of_decide_eq_false h2))
  · rw [if_neg h] at h1
    rw [if_neg fun z => h z.symm] at h2
    exact absurd (row_tot (of_decide_eq_false h1) (of_decide_eq_false h2)) h⟩
end NSet

/-! a dict walked that is locked as the walk begins; C(..) with the last default; class methods by name -/
namespace NSet
open PySem PySem.Spec PySem.W PyProof.Rows L2
def iKeysLV (w : World) (td : TE) : TI := fun σ H R => td σ H fun x H1 => ∃ d L, x = .ref d ∧ ((H1 d = some (DictVO w d L) ∧ ∀ o, R (Itv w d o L) (upd H1 d (.frz o (DictVO w d L)))) ∨ ∃ o, H1 d = some (.frz o (DictVO w d L)) ∧ R (Itv w d o L) H1)
section
variable {X : Cx} {tg e : Expr} {td : TE}
theorem keysV_run {pins : List (Addr × Obj)} {s1 : Shared} {σ : L2.St} {H1 : Hp} {R : It → Hp → Prop} {d : Addr} {o : Obj} {L : List DRowV} (I1 : Inv X pins σ H1 s1) (hd : H1 d = some (.frz o (DictVO X.w d L))) (q : R (Itv X.w d o L) H1) :
    wpAny (model X.prog X.w) X.A (pyIter (.ref d)) (PIE X pins σ tg R) X.xe s1 := by
  obtain ⟨hs, hgd, hx, es, ep, hdt, hsz, ent⟩ := Inv.frzV I1 hd
  refine iter_keys hs hgd hx hdt (pi_one (tk := s1.toks) I1 _ (turn_keysV _ hdt) ⟨_, Heap.get?_push_size _ rfl, rfl, ?_⟩ q)
  rw [hsz] <;> rfl
theorem pi_keysLV (he : PE X e td) : PI X tg e (iKeysLV X.w td) := by
  refine ⟨fun pins s σ H R I h => ?_⟩
  refine thn (he.run pins s σ H _ I h) fun u s1 ⟨x, H1, I1, rx, d, L, ex, q⟩ => ?_
  subst ex
  obtain rfl : u = Value.ref d := rx
  rcases q with ⟨hd, q⟩ | ⟨o, hd, q⟩
  · obtain ⟨od, I2⟩ := I1.lock hd True.intro
    exact keysV_run I2 upd_same (q od)
  · exact keysV_run I1 hd q
end
section
variable {X : Cx} {C : Addr} {x m : Str} {k : Nat} {ps : List Str} {sp : Sp} {p pos apos : Pos} {o e : Expr} {es : List Expr} {t : TA} {ta : TE}
/-- C(e, ..), the last parameter by its default () -/
def tMakeD1 (K : PySem.W.Frag) (C : Addr) (sp : Sp) (t : TA) : TE := fun σ H Q => ∀ d, EmptyT K d → tMake C sp [.ref d] E0 t σ H Q
theorem pe_makeID (D : MakeI X.prog X.w X.K X.mg X.base C x k ps sp) (hr : Room (k + 1) X.A) (hg : Gl X x) (ha : PA X (e :: es) t) (hdb : (x == ("__debug__" : Str)) = false := by decide)
    (he : starEach (e :: es) X.env = (false, eval e X.env) :: starEach es X.env := by rfl) (hpl : (backTo pos (starEach es X.env)).any (·.1) = false := by rfl) : PE X (.Call (.Name x p) (e :: es) [] pos) (tMakeD1 X.K C sp t) := by
  obtain ⟨f, fd, M, g, F, _, d, hd, b⟩ := D
  refine ⟨fun pins s σ H Q I h => ?_⟩
  exact (pe_make M F hr hg g b (.cons (show RelV (.ref d) (.ref d) from rfl) .nil) pass0 ha hdb he hpl).run pins s σ H Q I (h d hd)
end
/-! ### class methods -/
/-- the def of the class method m stands in the class at C -/
def TopC (K : PySem.W.Frag) (C : Addr) (m qual : Str) (st : Stmt) (ps : List Str) : Prop :=
  ∃ (mc : Value) (p f : Addr) (fd : FuncData), ClX.CRead K C mc ∧ ClX.CMet K C mc m p f ∧ Fun K m qual st f fd ∧ Binds K fd ps []
def CMethD (P : Program) (w : World) (K : PySem.W.Frag) (mg : Str → Option Value) (base : Heap) (C : Addr) (m : Str) (k : Nat) (sp : Sp) : Prop :=
  ∃ (mc : Value) (p f : Addr), ClX.CRead K C mc ∧ ClX.CMet K C mc m p f ∧ FnR P w K mg base CX0 k f sp
section
variable {P : Program} {w : World} {K : PySem.W.Frag} {mg : Str → Option Value} {base : Heap} {C : Addr} {m qual : Str} {st : Stmt} {ps N : List Str} {k : Nat} {sp : Sp}
theorem mk_cmeth (T : TopC K C m qual st ps) (S : FnScope N ps (defScope st)) (len : ∀ vs H Q E, sp vs H Q E → vs.length = ps.length)
    (hbody : ∀ (f : Addr) (cdv : Value) (A : Around) (outer : List Env) (s : Shared) (H : Hp) (vs : List V) (Q : VK) (E : XK), Room k (A.deeper (envOfC qual (defScope st) s.heap.objs.size f cdv)) → sp vs H Q E →
      ∃ t, PSs (cxOf CX0 P w K mg base N qual (defScope st) f cdv A outer s H E).nox (defBody st) t ∧ t { nx := fun _ H' => Q .non H', rt := Q } (start N vs) H) :
    CMethD P w K mg base C m (k + 1) sp := by
  obtain ⟨mc, p, f, fd, r, c, F, b⟩ := T
  refine ⟨mc, p, f, r, c, ((F.ok S len (hbody f)).raw b .nil).imp fun vs H Q E h => ?_⟩
  rw [List.append_nil]
  exact h
end
section
variable {X : Cx} {C : Addr} {m : Str} {k : Nat} {sp : Sp} {pos apos : Pos} {o e : Expr} {es : List Expr} {t : TA} {ta : TE} {pl : Sem Bool}
theorem pe_cmethM (he : PE X o ta) (D : CMethD X.prog X.w X.K X.mg X.base C m k sp) (hr : Room k X.A) (ha : PA X (e :: es) t)
    (hst : starEach (e :: es) X.env = (false, eval e X.env) :: starEach es X.env := by rfl) (hpl : (backTo pos (starEach es X.env)).any (·.1) = false := by rfl)
    (ht : eval (.Call (.Attribute o m apos) (e :: es) [] pos) X.env = (do
      let ov ← eval o X.env
      standAt apos.atName
      let (f, first) ← holding [ov] (getMethod ov m pl)
      callWith pos f first (backTo pos (starEach (e :: es) X.env)) (backToKw pos (keywordEach [] X.env))) := by rfl) :
    PE X (.Call (.Attribute o m apos) (e :: es) [] pos) (ClX.tCMeth C sp E0 ta t) := by
  obtain ⟨mc, p, f, r, c, F⟩ := D
  exact ClX.pe_cmeth he r c F hr pass0 ha hst hpl ht
end
end NSet
namespace L2
open PySem PySem.Spec PyProof.Rows
theorem hu24 {A : Around} {k : Nat} (hr : Room k A) : A.units + 24 < cLine := by
  have := hr.un
  omega
end L2

namespace K11
open PySem PySem.Spec PyProof.Rows L2
def topS (i : Nat) : Stmt := PySem.Challenge.pw_deltamill_k11_whole_one_minimal_is_fewes.main.body.getD i (.Pass ⟨0, 0, 0, 0⟩)
abbrev s_wall : Stmt := topS 0
abbrev N_wall : List Str := ["k"]
theorem sc_wall : FnScope N_wall ["k"] (defScope s_wall) := ⟨rfl, rfl, rfl, by decide +kernel, rfl, by decide +kernel, by decide +kernel⟩

abbrev sis_number : Stmt := topS 12
abbrev Nis_number : List Str := ["value"]
theorem scis_number : FnScope Nis_number ["value"] (defScope sis_number) := ⟨rfl, rfl, rfl, by decide +kernel, rfl, by decide +kernel, by decide +kernel⟩

abbrev scheck_axes : Stmt := topS 13
abbrev Ncheck_axes : List Str := ["axes"]
theorem sccheck_axes : FnScope Ncheck_axes ["axes"] (defScope scheck_axes) := ⟨rfl, rfl, rfl, by decide +kernel, rfl, by decide +kernel, by decide +kernel⟩

abbrev scheck_like_axes : Stmt := topS 14
abbrev Ncheck_like_axes : List Str := ["left", "right"]
theorem sccheck_like_axes : FnScope Ncheck_like_axes ["left", "right"] (defScope scheck_like_axes) := ⟨rfl, rfl, rfl, by decide +kernel, rfl, by decide +kernel, by decide +kernel⟩

abbrev swithout_zeros : Stmt := topS 16
abbrev Nwithout_zeros : List Str := ["counts", "key"]
theorem scwithout_zeros : FnScope Nwithout_zeros ["counts"] (defScope swithout_zeros) := ⟨rfl, rfl, rfl, by decide +kernel, rfl, by decide +kernel, by decide +kernel⟩

abbrev stimes : Stmt := topS 17
abbrev Ntimes : List Str := ["counts", "factor", "key"]
theorem sctimes : FnScope Ntimes ["counts", "factor"] (defScope stimes) := ⟨rfl, rfl, rfl, by decide +kernel, rfl, by decide +kernel, by decide +kernel⟩

abbrev splus : Stmt := topS 18
abbrev Nplus : List Str := ["first", "second", "made", "key"]
theorem scplus : FnScope Nplus ["first", "second"] (defScope splus) := ⟨rfl, rfl, rfl, by decide +kernel, rfl, by decide +kernel, by decide +kernel⟩

abbrev slesser : Stmt := topS 19
abbrev Nlesser : List Str := ["first", "second", "keys", "key"]
theorem sclesser : FnScope Nlesser ["first", "second"] (defScope slesser) := ⟨rfl, rfl, rfl, by decide +kernel, rfl, by decide +kernel, by decide +kernel⟩

abbrev sgreater : Stmt := topS 20
abbrev Ngreater : List Str := ["first", "second", "keys", "key"]
theorem scgreater : FnScope Ngreater ["first", "second"] (defScope sgreater) := ⟨rfl, rfl, rfl, by decide +kernel, rfl, by decide +kernel, by decide +kernel⟩

abbrev stally_of : Stmt := topS 21
abbrev Ntally_of : List Str := ["pairs", "made", "key", "count"]
theorem sctally_of : FnScope Ntally_of ["pairs"] (defScope stally_of) := ⟨rfl, rfl, rfl, by decide +kernel, rfl, by decide +kernel, by decide +kernel⟩

abbrev sis_row : Stmt := topS 23
abbrev Nis_row : List Str := ["value", "column"]
theorem scis_row : FnScope Nis_row ["value"] (defScope sis_row) := ⟨rfl, rfl, rfl, by decide +kernel, rfl, by decide +kernel, by decide +kernel⟩

abbrev scheck_counted : Stmt := topS 24
abbrev Ncheck_counted : List Str := ["row", "count"]
theorem sccheck_counted : FnScope Ncheck_counted ["row", "count"] (defScope scheck_counted) := ⟨rfl, rfl, rfl, by decide +kernel, rfl, by decide +kernel, by decide +kernel⟩

abbrev sbag_of_tally : Stmt := topS 25
abbrev Nbag_of_tally : List Str := ["counts", "made"]
theorem scbag_of_tally : FnScope Nbag_of_tally ["counts"] (defScope sbag_of_tally) := ⟨rfl, rfl, rfl, by decide +kernel, rfl, by decide +kernel, by decide +kernel⟩

abbrev sis_moment : Stmt := topS 28
abbrev Nis_moment : List Str := ["value", "axes", "coordinate"]
theorem scis_moment : FnScope Nis_moment ["value", "axes"] (defScope sis_moment) := ⟨rfl, rfl, rfl, by decide +kernel, rfl, by decide +kernel, by decide +kernel⟩

abbrev sbefore : Stmt := topS 29
abbrev Nbefore : List Str := ["first", "second", "low", "high"]
theorem scbefore : FnScope Nbefore ["first", "second"] (defScope sbefore) := ⟨rfl, rfl, rfl, by decide +kernel, rfl, by decide +kernel, by decide +kernel⟩

abbrev sjoin_of : Stmt := topS 30
abbrev Njoin_of : List Str := ["first", "second", "left", "right"]
theorem scjoin_of : FnScope Njoin_of ["first", "second"] (defScope sjoin_of) := ⟨rfl, rfl, rfl, by decide +kernel, rfl, by decide +kernel, by decide +kernel⟩

abbrev smeet_of : Stmt := topS 31
abbrev Nmeet_of : List Str := ["first", "second", "left", "right"]
theorem scmeet_of : FnScope Nmeet_of ["first", "second"] (defScope smeet_of) := ⟨rfl, rfl, rfl, by decide +kernel, rfl, by decide +kernel, by decide +kernel⟩

abbrev scheck_moment : Stmt := topS 33
abbrev Ncheck_moment : List Str := ["moment", "axes"]
theorem sccheck_moment : FnScope Ncheck_moment ["moment", "axes"] (defScope scheck_moment) := ⟨rfl, rfl, rfl, by decide +kernel, rfl, by decide +kernel, by decide +kernel⟩

abbrev shistory_of_tally : Stmt := topS 34
abbrev Nhistory_of_tally : List Str := ["axes", "counts", "made"]
theorem schistory_of_tally : FnScope Nhistory_of_tally ["axes", "counts"] (defScope shistory_of_tally) := ⟨rfl, rfl, rfl, by decide +kernel, rfl, by decide +kernel, by decide +kernel⟩

abbrev supward : Stmt := topS 35
abbrev Nupward : List Str := ["moments", "steps", "moment", "twice", "earlier"]
theorem scupward : FnScope Nupward ["moments"] (defScope supward) := ⟨rfl, rfl, rfl, by decide +kernel, rfl, by decide +kernel, by decide +kernel⟩

abbrev sfirst_difference : Stmt := topS 37
abbrev Nfirst_difference : List Str := ["first", "second", "front", "felt", "moment", "row", "_"]
theorem scfirst_difference : FnScope Nfirst_difference ["first", "second", "front"] (defScope sfirst_difference) := ⟨rfl, rfl, rfl, by decide +kernel, rfl, by decide +kernel, by decide +kernel⟩

abbrev sminimal : Stmt := topS 39
abbrev Nminimal : List Str := ["moments", "found", "moment", "low"]
theorem scminimal : FnScope Nminimal ["moments"] (defScope sminimal) := ⟨rfl, rfl, rfl, by decide +kernel, rfl, by decide +kernel, by decide +kernel⟩

abbrev s_law_cell : Stmt := topS 42
abbrev N_law_cell : List Str := ["script", "k"]
theorem sc_law_cell : FnScope N_law_cell ["script", "k"] (defScope s_law_cell) := ⟨rfl, rfl, rfl, by decide +kernel, rfl, by decide +kernel, by decide +kernel⟩

abbrev s_law_box : Stmt := topS 43
abbrev N_law_box : List Str := ["cell"]
theorem sc_law_box : FnScope N_law_box ["cell"] (defScope s_law_box) := ⟨rfl, rfl, rfl, by decide +kernel, rfl, by decide +kernel, by decide +kernel⟩

abbrev s_law_draw : Stmt := topS 44
abbrev N_law_draw : List Str := ["box", "many", "digit", "low", "high"]
theorem sc_law_draw : FnScope N_law_draw ["box", "many"] (defScope s_law_draw) := ⟨rfl, rfl, rfl, by decide +kernel, rfl, by decide +kernel, by decide +kernel⟩

abbrev s_law_number : Stmt := topS 45
abbrev N_law_number : List Str := ["box", "way"]
theorem sc_law_number : FnScope N_law_number ["box"] (defScope s_law_number) := ⟨rfl, rfl, rfl, by decide +kernel, rfl, by decide +kernel, by decide +kernel⟩

abbrev s_law_count : Stmt := topS 46
abbrev N_law_count : List Str := ["box", "way"]
theorem sc_law_count : FnScope N_law_count ["box"] (defScope s_law_count) := ⟨rfl, rfl, rfl, by decide +kernel, rfl, by decide +kernel, by decide +kernel⟩

abbrev s_law_row : Stmt := topS 47
abbrev N_law_row : List Str := ["box", "wide", "k"]
theorem sc_law_row : FnScope N_law_row ["box"] (defScope s_law_row) := ⟨rfl, rfl, rfl, by decide +kernel, rfl, by decide +kernel, by decide +kernel⟩

abbrev s_law_pool : Stmt := topS 48
abbrev N_law_pool : List Str := ["box", "k"]
theorem sc_law_pool : FnScope N_law_pool ["box"] (defScope s_law_pool) := ⟨rfl, rfl, rfl, by decide +kernel, rfl, by decide +kernel, by decide +kernel⟩

abbrev s_law_row_of : Stmt := topS 49
abbrev N_law_row_of : List Str := ["box", "pool", "odds"]
theorem sc_law_row_of : FnScope N_law_row_of ["box", "pool", "odds"] (defScope s_law_row_of) := ⟨rfl, rfl, rfl, by decide +kernel, rfl, by decide +kernel, by decide +kernel⟩

abbrev s_law_scale : Stmt := topS 50
abbrev N_law_scale : List Str := ["box", "axes", "many", "way", "scale", "k"]
theorem sc_law_scale : FnScope N_law_scale ["box", "axes"] (defScope s_law_scale) := ⟨rfl, rfl, rfl, by decide +kernel, rfl, by decide +kernel, by decide +kernel⟩

abbrev s_law_spot : Stmt := topS 51
abbrev N_law_spot : List Str := ["box", "scale", "axes", "k"]
theorem sc_law_spot : FnScope N_law_spot ["box", "scale", "axes"] (defScope s_law_spot) := ⟨rfl, rfl, rfl, by decide +kernel, rfl, by decide +kernel, by decide +kernel⟩

abbrev s_law_before : Stmt := topS 52
abbrev N_law_before : List Str := ["one", "two", "k"]
theorem sc_law_before : FnScope N_law_before ["one", "two"] (defScope s_law_before) := ⟨rfl, rfl, rfl, by decide +kernel, rfl, by decide +kernel, by decide +kernel⟩

abbrev s_law_join : Stmt := topS 53
abbrev N_law_join : List Str := ["one", "two", "k"]
theorem sc_law_join : FnScope N_law_join ["one", "two"] (defScope s_law_join) := ⟨rfl, rfl, rfl, by decide +kernel, rfl, by decide +kernel, by decide +kernel⟩

abbrev s_law_grid : Stmt := topS 54
abbrev N_law_grid : List Str := ["scale", "axes", "grid", "k", "wider", "spot", "value"]
theorem sc_law_grid : FnScope N_law_grid ["scale", "axes"] (defScope s_law_grid) := ⟨rfl, rfl, rfl, by decide +kernel, rfl, by decide +kernel, by decide +kernel⟩

abbrev s_law_change : Stmt := topS 55
abbrev N_law_change : List Str := ["box", "pool", "scale", "axes", "spot", "row"]
theorem sc_law_change : FnScope N_law_change ["box", "pool", "scale", "axes"] (defScope s_law_change) := ⟨rfl, rfl, rfl, by decide +kernel, rfl, by decide +kernel, by decide +kernel⟩

abbrev s_law_changes : Stmt := topS 56
abbrev N_law_changes : List Str := ["box", "pool", "scale", "axes", "most", "many", "listed", "k", "one", "old"]
theorem sc_law_changes : FnScope N_law_changes ["box", "pool", "scale", "axes", "most"] (defScope s_law_changes) := ⟨rfl, rfl, rfl, by decide +kernel, rfl, by decide +kernel, by decide +kernel⟩

abbrev s_law_net : Stmt := topS 57
abbrev N_law_net : List Str := ["change_list", "net", "spot", "row", "count"]
theorem sc_law_net : FnScope N_law_net ["change_list"] (defScope s_law_net) := ⟨rfl, rfl, rfl, by decide +kernel, rfl, by decide +kernel, by decide +kernel⟩

abbrev s_law_told : Stmt := topS 58
abbrev N_law_told : List Str := ["net", "key"]
theorem sc_law_told : FnScope N_law_told ["net"] (defScope s_law_told) := ⟨rfl, rfl, rfl, by decide +kernel, rfl, by decide +kernel, by decide +kernel⟩

abbrev s_law_is_integer : Stmt := topS 59
abbrev N_law_is_integer : List Str := ["value"]
theorem sc_law_is_integer : FnScope N_law_is_integer ["value"] (defScope s_law_is_integer) := ⟨rfl, rfl, rfl, by decide +kernel, rfl, by decide +kernel, by decide +kernel⟩

abbrev s_law_is_numbers : Stmt := topS 60
abbrev N_law_is_numbers : List Str := ["value", "one"]
theorem sc_law_is_numbers : FnScope N_law_is_numbers ["value"] (defScope s_law_is_numbers) := ⟨rfl, rfl, rfl, by decide +kernel, rfl, by decide +kernel, by decide +kernel⟩

abbrev s_law_sums : Stmt := topS 61
abbrev N_law_sums : List Str := ["listed", "sums", "row", "count"]
theorem sc_law_sums : FnScope N_law_sums ["listed"] (defScope s_law_sums) := ⟨rfl, rfl, rfl, by decide +kernel, rfl, by decide +kernel, by decide +kernel⟩

abbrev s_law_due : Stmt := topS 62
abbrev N_law_due : List Str := ["sums", "row"]
theorem sc_law_due : FnScope N_law_due ["sums"] (defScope s_law_due) := ⟨rfl, rfl, rfl, by decide +kernel, rfl, by decide +kernel, by decide +kernel⟩

abbrev s_law_answer : Stmt := topS 63
abbrev N_law_answer : List Str := ["told", "spot", "one"]
theorem sc_law_answer : FnScope N_law_answer ["told", "spot"] (defScope s_law_answer) := ⟨rfl, rfl, rfl, by decide +kernel, rfl, by decide +kernel, by decide +kernel⟩

abbrev s_law_is_changes : Stmt := topS 64
abbrev N_law_is_changes : List Str := ["told", "one"]
theorem sc_law_is_changes : FnScope N_law_is_changes ["told"] (defScope s_law_is_changes) := ⟨rfl, rfl, rfl, by decide +kernel, rfl, by decide +kernel, by decide +kernel⟩

abbrev s_law_spots : Stmt := topS 65
abbrev N_law_spots : List Str := ["told", "found", "one"]
theorem sc_law_spots : FnScope N_law_spots ["told"] (defScope s_law_spots) := ⟨rfl, rfl, rfl, by decide +kernel, rfl, by decide +kernel, by decide +kernel⟩

abbrev s_law_shows : Stmt := topS 66
abbrev N_law_shows : List Str := ["history", "axes", "net", "due", "told"]
theorem sc_law_shows : FnScope N_law_shows ["history", "axes", "net"] (defScope s_law_shows) := ⟨rfl, rfl, rfl, by decide +kernel, rfl, by decide +kernel, by decide +kernel⟩

abbrev s_law_joined : Stmt := topS 67
abbrev N_law_joined : List Str := ["start", "net", "found", "spot", "row", "key"]
theorem sc_law_joined : FnScope N_law_joined ["start", "net"] (defScope s_law_joined) := ⟨rfl, rfl, rfl, by decide +kernel, rfl, by decide +kernel, by decide +kernel⟩

abbrev s_law_lowered : Stmt := topS 68
abbrev N_law_lowered : List Str := ["box", "spot", "start", "scale", "found", "k", "below", "value"]
theorem sc_law_lowered : FnScope N_law_lowered ["box", "spot", "start", "scale"] (defScope s_law_lowered) := ⟨rfl, rfl, rfl, by decide +kernel, rfl, by decide +kernel, by decide +kernel⟩

abbrev s_law_hidden : Stmt := topS 69
abbrev N_law_hidden : List Str := ["box", "change_list", "start", "scale", "axes", "found", "spot", "row", "count", "way", "low", "other"]
theorem sc_law_hidden : FnScope N_law_hidden ["box", "change_list", "start", "scale", "axes"] (defScope s_law_hidden) := ⟨rfl, rfl, rfl, by decide +kernel, rfl, by decide +kernel, by decide +kernel⟩

abbrev s_law_difference : Stmt := topS 70
abbrev N_law_difference : List Str := ["one", "two", "start", "grid", "spot", "less", "row", "count", "apart"]
theorem sc_law_difference : FnScope N_law_difference ["one", "two", "start", "grid"] (defScope s_law_difference) := ⟨rfl, rfl, rfl, by decide +kernel, rfl, by decide +kernel, by decide +kernel⟩

abbrev s_law_tells : Stmt := topS 71
abbrev N_law_tells : List Str := ["left", "right", "front", "due", "told"]
theorem sc_law_tells : FnScope N_law_tells ["left", "right", "front", "due"] (defScope s_law_tells) := ⟨rfl, rfl, rfl, by decide +kernel, rfl, by decide +kernel, by decide +kernel⟩

abbrev s_law_fewest : Stmt := topS 72
abbrev N_law_fewest : List Str := ["left", "axes", "one", "two", "start", "front", "grid", "right", "due", "short", "same", "view"]
theorem sc_law_fewest : FnScope N_law_fewest ["left", "axes", "one", "two", "start", "front", "grid"] (defScope s_law_fewest) := ⟨rfl, rfl, rfl, by decide +kernel, rfl, by decide +kernel, by decide +kernel⟩

abbrev s_law_needed : Stmt := topS 73
abbrev N_law_needed : List Str := ["short", "axes", "front", "place", "by", "change_list", "spot", "row", "count", "rest", "other"]
theorem sc_law_needed : FnScope N_law_needed ["short", "axes", "front", "place", "by"] (defScope s_law_needed) := ⟨rfl, rfl, rfl, by decide +kernel, rfl, by decide +kernel, by decide +kernel⟩

abbrev s_law_steps : Stmt := topS 74
abbrev N_law_steps : List Str := ["left", "axes", "net", "starts", "short", "view", "many", "start", "front", "due"]
theorem sc_law_steps : FnScope N_law_steps ["left", "axes", "net", "starts"] (defScope s_law_steps) := ⟨rfl, rfl, rfl, by decide +kernel, rfl, by decide +kernel, by decide +kernel⟩

abbrev slaw : Stmt := topS 75
abbrev Nlaw : List Str := ["script", "box", "axes", "scale", "pool", "one", "more", "k", "change", "start", "besides", "near", "far", "front", "grid", "left", "short", "two"]
theorem sclaw : FnScope Nlaw ["script"] (defScope slaw) := ⟨rfl, rfl, rfl, by decide +kernel, rfl, by decide +kernel, by decide +kernel⟩

abbrev sHistory___init__ : Stmt := inClass (topS 36) 0
abbrev NHistory___init__ : List Str := ["self", "axes", "changes", "counted", "moment", "row", "count"]
theorem scHistory___init__ : FnScope NHistory___init__ ["self", "axes", "changes"] (defScope sHistory___init__) := ⟨rfl, rfl, rfl, by decide +kernel, rfl, by decide +kernel, by decide +kernel⟩

abbrev sHistory_changes : Stmt := inClass (topS 36) 2
abbrev NHistory_changes : List Str := ["self", "moment", "row"]
theorem scHistory_changes : FnScope NHistory_changes ["self"] (defScope sHistory_changes) := ⟨rfl, rfl, rfl, by decide +kernel, rfl, by decide +kernel, by decide +kernel⟩

abbrev sHistory_moments : Stmt := inClass (topS 36) 3
abbrev NHistory_moments : List Str := ["self", "moment", "_"]
theorem scHistory_moments : FnScope NHistory_moments ["self"] (defScope sHistory_moments) := ⟨rfl, rfl, rfl, by decide +kernel, rfl, by decide +kernel, by decide +kernel⟩

abbrev sHistory_folded : Stmt := inClass (topS 36) 7
abbrev NHistory_folded : List Str := ["self", "front", "folds", "moment", "told", "at", "row"]
theorem scHistory_folded : FnScope NHistory_folded ["self", "front"] (defScope sHistory_folded) := ⟨rfl, rfl, rfl, by decide +kernel, rfl, by decide +kernel, by decide +kernel⟩

abbrev sHistory_seen : Stmt := inClass (topS 36) 8
abbrev NHistory_seen : List Str := ["self", "front", "lows", "felt", "low", "moment", "told", "row", "at"]
theorem scHistory_seen : FnScope NHistory_seen ["self", "front"] (defScope sHistory_seen) := ⟨rfl, rfl, rfl, by decide +kernel, rfl, by decide +kernel, by decide +kernel⟩

abbrev sHistory___len__ : Stmt := inClass (topS 36) 9
abbrev NHistory___len__ : List Str := ["self"]
theorem scHistory___len__ : FnScope NHistory___len__ ["self"] (defScope sHistory___len__) := ⟨rfl, rfl, rfl, by decide +kernel, rfl, by decide +kernel, by decide +kernel⟩

abbrev sHistory___eq__ : Stmt := inClass (topS 36) 10
abbrev NHistory___eq__ : List Str := ["self", "other"]
theorem scHistory___eq__ : FnScope NHistory___eq__ ["self", "other"] (defScope sHistory___eq__) := ⟨rfl, rfl, rfl, by decide +kernel, rfl, by decide +kernel, by decide +kernel⟩

abbrev sHistory___sub__ : Stmt := inClass (topS 36) 12
abbrev NHistory___sub__ : List Str := ["self", "other"]
theorem scHistory___sub__ : FnScope NHistory___sub__ ["self", "other"] (defScope sHistory___sub__) := ⟨rfl, rfl, rfl, by decide +kernel, rfl, by decide +kernel, by decide +kernel⟩

abbrev sFront___init__ : Stmt := inClass (topS 40) 0
abbrev NFront___init__ : List Str := ["self", "axes", "moments", "given", "moment"]
theorem scFront___init__ : FnScope NFront___init__ ["self", "axes", "moments"] (defScope sFront___init__) := ⟨rfl, rfl, rfl, by decide +kernel, rfl, by decide +kernel, by decide +kernel⟩

abbrev sFront_everything : Stmt := inClass (topS 40) 1
abbrev NFront_everything : List Str := ["cls", "axes"]
theorem scFront_everything : FnScope NFront_everything ["cls", "axes"] (defScope sFront_everything) := ⟨rfl, rfl, rfl, by decide +kernel, rfl, by decide +kernel, by decide +kernel⟩

abbrev sFront_moments : Stmt := inClass (topS 40) 3
abbrev NFront_moments : List Str := ["self"]
theorem scFront_moments : FnScope NFront_moments ["self"] (defScope sFront_moments) := ⟨rfl, rfl, rfl, by decide +kernel, rfl, by decide +kernel, by decide +kernel⟩

abbrev sFront_fold : Stmt := inClass (topS 40) 5
abbrev NFront_fold : List Str := ["self", "moment", "folded", "low"]
theorem scFront_fold : FnScope NFront_fold ["self", "moment"] (defScope sFront_fold) := ⟨rfl, rfl, rfl, by decide +kernel, rfl, by decide +kernel, by decide +kernel⟩

/-- the built-in names that the text uses are the built-in ones -/
structure Bt (mg : Str → Option Value) : Prop where
  m_all : mg "all" = none
  m_zip : mg "zip" = none
  m_tuple : mg "tuple" = none
  m_max : mg "max" = none
  m_min : mg "min" = none
  m_int : mg "int" = none
  m_bool : mg "bool" = none
  m_len : mg "len" = none
  m_range : mg "range" = none
  m_isinstance : mg "isinstance" = none
  m_list : mg "list" = none
  m_any : mg "any" = none
  m_set : mg "set" = none
  m_sorted : mg "sorted" = none
  m_sum : mg "sum" = none
end K11

namespace K11
open PySem PySem.Spec PyProof.Rows L2 NSet
/-! ### the head: facts by names, one run -/
def dd0 : He5.DefA := ⟨fun K => (He.ga K "is_number"), "is_number", "is_number", defArgs sis_number, defBody sis_number, defScope sis_number, [], []⟩
def dd1 : He5.DefA := ⟨fun K => (He.ga K "check_axes"), "check_axes", "check_axes", defArgs scheck_axes, defBody scheck_axes, defScope scheck_axes, [], []⟩
def dd2 : He5.DefA := ⟨fun K => (He.ga K "check_like_axes"), "check_like_axes", "check_like_axes", defArgs scheck_like_axes, defBody scheck_like_axes, defScope scheck_like_axes, [], []⟩
def dd3 : He5.DefA := ⟨fun K => (He.ga K "without_zeros"), "without_zeros", "without_zeros", defArgs swithout_zeros, defBody swithout_zeros, defScope swithout_zeros, [], []⟩
def dd4 : He5.DefA := ⟨fun K => (He.ga K "times"), "times", "times", defArgs stimes, defBody stimes, defScope stimes, [], []⟩
def dd5 : He5.DefA := ⟨fun K => (He.ga K "plus"), "plus", "plus", defArgs splus, defBody splus, defScope splus, [], []⟩
def dd6 : He5.DefA := ⟨fun K => (He.ga K "tally_of"), "tally_of", "tally_of", defArgs stally_of, defBody stally_of, defScope stally_of, [], []⟩
def dd7 : He5.DefA := ⟨fun K => (He.ga K "is_row"), "is_row", "is_row", defArgs sis_row, defBody sis_row, defScope sis_row, [], []⟩
def dd8 : He5.DefA := ⟨fun K => (He.ga K "check_counted"), "check_counted", "check_counted", defArgs scheck_counted, defBody scheck_counted, defScope scheck_counted, [], []⟩
def dd9 : He5.DefA := ⟨fun K => (He.ga K "is_moment"), "is_moment", "is_moment", defArgs sis_moment, defBody sis_moment, defScope sis_moment, [], []⟩
def dd10 : He5.DefA := ⟨fun K => (He.ga K "before"), "before", "before", defArgs sbefore, defBody sbefore, defScope sbefore, [], []⟩
def dd11 : He5.DefA := ⟨fun K => (He.ga K "join_of"), "join_of", "join_of", defArgs sjoin_of, defBody sjoin_of, defScope sjoin_of, [], []⟩
def dd12 : He5.DefA := ⟨fun K => (He.ga K "meet_of"), "meet_of", "meet_of", defArgs smeet_of, defBody smeet_of, defScope smeet_of, [], []⟩
def dd13 : He5.DefA := ⟨fun K => (He.ga K "check_moment"), "check_moment", "check_moment", defArgs scheck_moment, defBody scheck_moment, defScope scheck_moment, [], []⟩
def dd14 : He5.DefA := ⟨fun K => (He.ga K "history_of_tally"), "history_of_tally", "history_of_tally", defArgs shistory_of_tally, defBody shistory_of_tally, defScope shistory_of_tally, [], []⟩
def dd15 : He5.DefA := ⟨fun K => (He.ga K "upward"), "upward", "upward", defArgs supward, defBody supward, defScope supward, [], []⟩
def dd16 : He5.DefA := ⟨fun K => (He.ga K "first_difference"), "first_difference", "first_difference", defArgs sfirst_difference, defBody sfirst_difference, defScope sfirst_difference, [], []⟩
def dd17 : He5.DefA := ⟨fun K => (He.ga K "minimal"), "minimal", "minimal", defArgs sminimal, defBody sminimal, defScope sminimal, [], []⟩
def dd18 : He5.DefA := ⟨fun K => (He.ga K "_law_cell"), "_law_cell", "_law_cell", defArgs s_law_cell, defBody s_law_cell, defScope s_law_cell, [], []⟩
def dd19 : He5.DefA := ⟨fun K => (He.ga K "_law_box"), "_law_box", "_law_box", defArgs s_law_box, defBody s_law_box, defScope s_law_box, [], []⟩
def dd20 : He5.DefA := ⟨fun K => (He.ga K "_law_draw"), "_law_draw", "_law_draw", defArgs s_law_draw, defBody s_law_draw, defScope s_law_draw, [], []⟩
def dd21 : He5.DefA := ⟨fun K => (He.ga K "_law_number"), "_law_number", "_law_number", defArgs s_law_number, defBody s_law_number, defScope s_law_number, [], []⟩
def dd22 : He5.DefA := ⟨fun K => (He.ga K "_law_count"), "_law_count", "_law_count", defArgs s_law_count, defBody s_law_count, defScope s_law_count, [], []⟩
def dd23 : He5.DefA := ⟨fun K => (He.ga K "_law_row"), "_law_row", "_law_row", defArgs s_law_row, defBody s_law_row, defScope s_law_row, [], []⟩
def dd24 : He5.DefA := ⟨fun K => (He.ga K "_law_pool"), "_law_pool", "_law_pool", defArgs s_law_pool, defBody s_law_pool, defScope s_law_pool, [], []⟩
def dd25 : He5.DefA := ⟨fun K => (He.ga K "_law_row_of"), "_law_row_of", "_law_row_of", defArgs s_law_row_of, defBody s_law_row_of, defScope s_law_row_of, [], []⟩
def dd26 : He5.DefA := ⟨fun K => (He.ga K "_law_scale"), "_law_scale", "_law_scale", defArgs s_law_scale, defBody s_law_scale, defScope s_law_scale, [], []⟩
def dd27 : He5.DefA := ⟨fun K => (He.ga K "_law_spot"), "_law_spot", "_law_spot", defArgs s_law_spot, defBody s_law_spot, defScope s_law_spot, [], []⟩
def dd28 : He5.DefA := ⟨fun K => (He.ga K "_law_before"), "_law_before", "_law_before", defArgs s_law_before, defBody s_law_before, defScope s_law_before, [], []⟩
def dd29 : He5.DefA := ⟨fun K => (He.ga K "_law_join"), "_law_join", "_law_join", defArgs s_law_join, defBody s_law_join, defScope s_law_join, [], []⟩
def dd30 : He5.DefA := ⟨fun K => (He.ga K "_law_grid"), "_law_grid", "_law_grid", defArgs s_law_grid, defBody s_law_grid, defScope s_law_grid, [], []⟩
def dd31 : He5.DefA := ⟨fun K => (He.ga K "_law_change"), "_law_change", "_law_change", defArgs s_law_change, defBody s_law_change, defScope s_law_change, [], []⟩
def dd32 : He5.DefA := ⟨fun K => (He.ga K "_law_changes"), "_law_changes", "_law_changes", defArgs s_law_changes, defBody s_law_changes, defScope s_law_changes, [], []⟩
def dd33 : He5.DefA := ⟨fun K => (He.ga K "_law_net"), "_law_net", "_law_net", defArgs s_law_net, defBody s_law_net, defScope s_law_net, [], []⟩
def dd34 : He5.DefA := ⟨fun K => (He.ga K "_law_told"), "_law_told", "_law_told", defArgs s_law_told, defBody s_law_told, defScope s_law_told, [], []⟩
def dd35 : He5.DefA := ⟨fun K => (He.ga K "_law_is_integer"), "_law_is_integer", "_law_is_integer", defArgs s_law_is_integer, defBody s_law_is_integer, defScope s_law_is_integer, [], []⟩
def dd36 : He5.DefA := ⟨fun K => (He.ga K "_law_is_numbers"), "_law_is_numbers", "_law_is_numbers", defArgs s_law_is_numbers, defBody s_law_is_numbers, defScope s_law_is_numbers, [], []⟩
def dd37 : He5.DefA := ⟨fun K => (He.ga K "_law_sums"), "_law_sums", "_law_sums", defArgs s_law_sums, defBody s_law_sums, defScope s_law_sums, [], []⟩
def dd38 : He5.DefA := ⟨fun K => (He.ga K "_law_due"), "_law_due", "_law_due", defArgs s_law_due, defBody s_law_due, defScope s_law_due, [], []⟩
def dd39 : He5.DefA := ⟨fun K => (He.ga K "_law_answer"), "_law_answer", "_law_answer", defArgs s_law_answer, defBody s_law_answer, defScope s_law_answer, [], []⟩
def dd40 : He5.DefA := ⟨fun K => (He.ga K "_law_is_changes"), "_law_is_changes", "_law_is_changes", defArgs s_law_is_changes, defBody s_law_is_changes, defScope s_law_is_changes, [], []⟩
def dd41 : He5.DefA := ⟨fun K => (He.ga K "_law_spots"), "_law_spots", "_law_spots", defArgs s_law_spots, defBody s_law_spots, defScope s_law_spots, [], []⟩
def dd42 : He5.DefA := ⟨fun K => (He.ga K "_law_shows"), "_law_shows", "_law_shows", defArgs s_law_shows, defBody s_law_shows, defScope s_law_shows, [], []⟩
def dd43 : He5.DefA := ⟨fun K => (He.ga K "_law_joined"), "_law_joined", "_law_joined", defArgs s_law_joined, defBody s_law_joined, defScope s_law_joined, [], []⟩
def dd44 : He5.DefA := ⟨fun K => (He.ga K "_law_lowered"), "_law_lowered", "_law_lowered", defArgs s_law_lowered, defBody s_law_lowered, defScope s_law_lowered, [], []⟩
def dd45 : He5.DefA := ⟨fun K => (He.ga K "_law_hidden"), "_law_hidden", "_law_hidden", defArgs s_law_hidden, defBody s_law_hidden, defScope s_law_hidden, [], []⟩
def dd46 : He5.DefA := ⟨fun K => (He.ga K "_law_difference"), "_law_difference", "_law_difference", defArgs s_law_difference, defBody s_law_difference, defScope s_law_difference, [], []⟩
def dd47 : He5.DefA := ⟨fun K => (He.ga K "_law_tells"), "_law_tells", "_law_tells", defArgs s_law_tells, defBody s_law_tells, defScope s_law_tells, [], []⟩
def dd48 : He5.DefA := ⟨fun K => (He.ga K "_law_fewest"), "_law_fewest", "_law_fewest", defArgs s_law_fewest, defBody s_law_fewest, defScope s_law_fewest, [], []⟩
def dd49 : He5.DefA := ⟨fun K => (He.ga K "_law_needed"), "_law_needed", "_law_needed", defArgs s_law_needed, defBody s_law_needed, defScope s_law_needed, [], []⟩
def dd50 : He5.DefA := ⟨fun K => (He.ga K "_law_steps"), "_law_steps", "_law_steps", defArgs s_law_steps, defBody s_law_steps, defScope s_law_steps, [], []⟩
def dd51 : He5.DefA := ⟨fun K => (He.ga K "law"), "law", "law", defArgs slaw, defBody slaw, defScope slaw, [], []⟩
def dd52 : He5.DefA := ⟨fun K => (He.ma K (He.ga K "History") "__init__"), "__init__", "History.__init__", defArgs sHistory___init__, defBody sHistory___init__, defScope sHistory___init__, [.adr fun K => He.dflAt ("History", some "__init__") 0 K], []⟩
def dd53 : He5.DefA := ⟨fun K => (He.ma K (He.ga K "History") "changes"), "changes", "History.changes", defArgs sHistory_changes, defBody sHistory_changes, defScope sHistory_changes, [], []⟩
def dd54 : He5.DefA := ⟨fun K => (He.ma K (He.ga K "History") "moments"), "moments", "History.moments", defArgs sHistory_moments, defBody sHistory_moments, defScope sHistory_moments, [], []⟩
def dd55 : He5.DefA := ⟨fun K => (He.ma K (He.ga K "History") "folded"), "folded", "History.folded", defArgs sHistory_folded, defBody sHistory_folded, defScope sHistory_folded, [], []⟩
def dd56 : He5.DefA := ⟨fun K => (He.ma K (He.ga K "History") "seen"), "seen", "History.seen", defArgs sHistory_seen, defBody sHistory_seen, defScope sHistory_seen, [], []⟩
def dd57 : He5.DefA := ⟨fun K => (He.ma K (He.ga K "History") "__len__"), "__len__", "History.__len__", defArgs sHistory___len__, defBody sHistory___len__, defScope sHistory___len__, [], []⟩
def dd58 : He5.DefA := ⟨fun K => (He.ma K (He.ga K "History") "__eq__"), "__eq__", "History.__eq__", defArgs sHistory___eq__, defBody sHistory___eq__, defScope sHistory___eq__, [], []⟩
def dd59 : He5.DefA := ⟨fun K => (He.ma K (He.ga K "History") "__sub__"), "__sub__", "History.__sub__", defArgs sHistory___sub__, defBody sHistory___sub__, defScope sHistory___sub__, [], []⟩
def dd60 : He5.DefA := ⟨fun K => (He.ma K (He.ga K "Front") "__init__"), "__init__", "Front.__init__", defArgs sFront___init__, defBody sFront___init__, defScope sFront___init__, [], []⟩
def dd61 : He5.DefA := ⟨fun K => (He5.wf K (He.ga K "Front") "classmethod" "everything"), "everything", "Front.everything", defArgs sFront_everything, defBody sFront_everything, defScope sFront_everything, [], []⟩
def dd62 : He5.DefA := ⟨fun K => (He.ma K (He.ga K "Front") "moments"), "moments", "Front.moments", defArgs sFront_moments, defBody sFront_moments, defScope sFront_moments, [], []⟩
def dd63 : He5.DefA := ⟨fun K => (He.ma K (He.ga K "Front") "fold"), "fold", "Front.fold", defArgs sFront_fold, defBody sFront_fold, defScope sFront_fold, [], []⟩
def fn0 : List He5.DefA := [dd0, dd1, dd2, dd3, dd4, dd5, dd6, dd7, dd8, dd9, dd10, dd11, dd12, dd13, dd14, dd15, dd16, dd17, dd18, dd19, dd20, dd21, dd22, dd23, dd24, dd25, dd26, dd27, dd28, dd29]
def fn1 : List He5.DefA := [dd30, dd31, dd32, dd33, dd34, dd35, dd36, dd37, dd38, dd39, dd40, dd41, dd42, dd43, dd44, dd45, dd46, dd47, dd48, dd49, dd50, dd51, dd52, dd53, dd54, dd55, dd56, dd57, dd58, dd59]
def fn2 : List He5.DefA := [dd60, dd61, dd62, dd63]
def fnL : List He5.DefA := fn0 ++ fn1 ++ fn2
def fa0 : List He.Fa := [.glo "Front", .cls "Front", .mkr "Front", .noat "Front" "axes", .noat "Front" "_lows", .glo "History", .cls "History", .mkr "History", .noat "History" "axes", .noat "History" "_counts", .glo "is_number", .glo "check_axes", .glo "check_like_axes", .glo "without_zeros", .glo "times", .glo "plus", .glo "tally_of", .glo "is_row", .glo "check_counted", .glo "is_moment", .glo "before", .glo "join_of", .glo "meet_of", .glo "check_moment", .glo "history_of_tally", .glo "upward", .glo "first_difference", .glo "minimal", .glo "_law_cell", .glo "_law_box"]
def fa1 : List He.Fa := [.glo "_law_draw", .glo "_law_number", .glo "_law_count", .glo "_law_row", .glo "_law_pool", .glo "_law_row_of", .glo "_law_scale", .glo "_law_spot", .glo "_law_before", .glo "_law_join", .glo "_law_grid", .glo "_law_change", .glo "_law_changes", .glo "_law_net", .glo "_law_told", .glo "_law_is_integer", .glo "_law_is_numbers", .glo "_law_sums", .glo "_law_due", .glo "_law_answer", .glo "_law_is_changes", .glo "_law_spots", .glo "_law_shows", .glo "_law_joined", .glo "_law_lowered", .glo "_law_hidden", .glo "_law_difference", .glo "_law_tells", .glo "_law_fewest", .glo "_law_needed"]
def fa2 : List He.Fa := [.glo "_law_steps", .glo "law", .meth "History" "__init__", .meth "History" "changes", .meth "History" "moments", .meth "History" "folded", .meth "History" "seen", .meth "History" "__len__", .meth "History" "__eq__", .meth "History" "__sub__", .meth "Front" "__init__", .meth "Front" "moments", .meth "Front" "fold", .int "MOST_AXES" 4, .free "all", .free "zip", .free "tuple", .free "max", .free "min", .free "int", .free "bool", .free "len", .free "range", .free "isinstance", .free "list", .free "any", .free "set", .free "sorted", .free "sum"]
def faL : List He.Fa := fa0 ++ fa1 ++ fa2
def lo0 : List PySem.Str := ["_wall", "MillError", "MomentError", "BadMoment", "ValueRefused", "BadAxes", "BadRow", "BadCount", "UnlikeAxes", "MOST_AXES", "is_number", "check_axes", "check_like_axes", "without_zeros", "times", "plus", "lesser", "greater", "tally_of", "is_row", "check_counted", "bag_of_tally", "Bag", "is_moment", "before", "join_of", "meet_of", "check_moment", "history_of_tally", "upward"]
def lo1 : List PySem.Str := ["History", "first_difference", "minimal", "Front", "_law_cell", "_law_box", "_law_draw", "_law_number", "_law_count", "_law_row", "_law_pool", "_law_row_of", "_law_scale", "_law_spot", "_law_before", "_law_join", "_law_grid", "_law_change", "_law_changes", "_law_net", "_law_told", "_law_is_integer", "_law_is_numbers", "_law_sums", "_law_due", "_law_answer", "_law_is_changes", "_law_spots", "_law_shows", "_law_joined"]
def lo2 : List PySem.Str := ["_law_lowered", "_law_hidden", "_law_difference", "_law_tells", "_law_fewest", "_law_needed", "_law_steps"]
def loL : List PySem.Str := lo0 ++ lo1 ++ lo2
def emptyB (K : PySem.W.Frag) (a : Addr) : Bool := match K.lookup a with
  | some ⟨.type n, _, .seq its _, _⟩ => decide (n = "tuple") && decide (its.size = 0)
  | _ => false
theorem emptyB_ok {K : PySem.W.Frag} {a : Addr} (h : emptyB K a = true) : EmptyT K a := by
  unfold emptyB at h
  cases q : K.lookup a with
  | none => rw [q] at h; cases h
  | some o =>
    obtain ⟨oc, od, dt, sl⟩ := o
    rw [q] at h
    cases oc with
    | type n =>
      cases dt with
      | seq its m =>
        obtain ⟨h1, h2⟩ := He.ba (show (decide (n = "tuple") && decide (its.size = 0)) = true from h)
        have e1 := of_decide_eq_true h1
        have e2 := of_decide_eq_true h2
        subst e1
        refine ⟨_, m, q, rfl, ?_⟩
        rw [Array.eq_empty_of_size_eq_zero e2]
      | _ => cases h
    | _ => cases h
def exL (K : PySem.W.Frag) : List Bool := [He.eqO (PySem.W.findIn K (.ref (He.ga K "History")) "__class__") (some (some (.builtin "object.__class__"))), He.eqO (PySem.W.specialIn K (.builtin "object.__class__") "__get__") (some (some (.builtin "getset_descriptor.__get__"))), decide (PySem.W.takesIn K (.builtin "object.__class__") = some true), decide (PySem.W.mroIn K (He.ga K "History") (.type "object") = some true), PySem.W.selfFirst K (He.ga K "History"), PySem.W.readsIn K (He.ga K "Front") (.type "type"), He.eqO (PySem.W.specialIn K (.ref (He.ga K "Front")) "__getattribute__") (some (some (.builtin "type.__getattribute__"))), He5.wrapB K (He.ga K "Front") "classmethod" "classmethod.__get__" "everything", PySem.W.fnIn K (He5.wf K (He.ga K "Front") "classmethod" "everything"), emptyB K (He.dflAt ("History", some "__init__") 0 K)]
def exB (K : PySem.W.Frag) : Bool := (exL K).all id
theorem exB_at {K : PySem.W.Frag} (h : exB K = true) (i : Nat) {b : Bool} (e : (exL K)[i]? = some b) : b = true := List.all_eq_true.mp h b (List.mem_of_getElem? e)
def as0 : List Addr := [2, 3, 15, 17, 18, 20, 21, 22, 29, 31, 32, 34, 35, 36, 37, 38, 39, 42, 49, 51, 52, 54, 55, 56, 57, 58, 61, 68, 69, 70]
def as1 : List Addr := [73, 80, 82, 83, 85, 86, 87, 88, 89, 92, 99, 100, 101, 104, 111, 112, 113, 116, 123, 124, 125, 128, 135, 137, 138, 140, 141, 142, 143, 144]
def as2 : List Addr := [147, 149, 150, 152, 153, 154, 156, 157, 159, 160, 161, 163, 164, 166, 167, 168, 171, 172, 173, 176, 177, 178, 181, 182, 183, 186, 187, 188, 191, 192]
def as3 : List Addr := [193, 195, 196, 198, 199, 200, 203, 204, 205, 207, 208, 210, 211, 212, 214, 215, 217, 218, 226, 227, 228, 230, 231, 233, 234, 235, 238, 239, 240, 241]
def as4 : List Addr := [242, 243, 245, 246, 248, 249, 250, 252, 253, 255, 256, 257, 259, 260, 262, 263, 264, 265, 267, 268, 270, 271, 272, 273, 275, 276, 278, 279, 280, 282]
def as5 : List Addr := [283, 285, 286, 287, 289, 290, 292, 293, 294, 296, 297, 299, 300, 301, 303, 304, 306, 307, 308, 310, 311, 313, 314, 315, 317, 318, 320, 321, 322, 324]
def as6 : List Addr := [325, 327, 328, 329, 331, 332, 334, 335, 336, 338, 339, 341, 342, 343, 345, 346, 348, 349, 350, 352, 353, 355, 356, 357, 360, 361, 362, 363, 364, 365]
def as7 : List Addr := [366, 369, 372, 373, 374, 377, 378, 379, 382, 383, 384, 387, 388, 389, 391, 392, 394, 395, 396, 398, 399, 401, 402, 403, 406, 407, 415, 416, 417, 419]
def as8 : List Addr := [420, 422, 423, 424, 426, 427, 429, 430, 431, 432, 433, 434, 437, 438, 439, 442, 443, 444, 447, 448, 449, 451, 452, 454, 455, 456, 459, 460, 461, 464]
def as9 : List Addr := [465, 466, 469, 470, 471, 473, 474, 476, 477, 478, 480, 481, 483, 484, 485, 487, 488, 490, 491, 492, 494, 495, 497, 498, 499, 501, 502, 504, 505, 506]
def as10 : List Addr := [508, 509, 511, 512, 513, 515, 516, 518, 519, 520, 521, 522, 523, 524, 527, 529, 530, 532, 533, 534, 537, 538, 546, 548, 549, 551, 552, 553, 555, 556]
def as11 : List Addr := [558, 559, 560, 561, 562, 563, 565, 566, 568, 569, 570, 571, 572, 573, 575, 576, 578, 579, 580, 582, 583, 585, 586, 587, 589, 590, 592, 593, 594, 596]
def as12 : List Addr := [597, 599, 600, 601, 604, 605, 606, 608, 609, 611, 612, 613, 615, 616, 618, 619, 620, 623, 624, 625, 627, 628, 630, 631, 632, 633, 634, 635, 636, 639]
def as13 : List Addr := [641, 642, 644, 645, 646, 648, 649, 651, 652, 653, 655, 656, 658, 659, 660, 662, 663, 665, 666, 667, 669, 670, 672, 673, 674, 677, 678, 679, 682, 683]
def as14 : List Addr := [684, 686, 687, 689, 690, 691, 693, 694, 696, 697, 698, 701, 702, 703, 706, 707, 708, 711, 712, 713, 715, 716, 718, 719, 720, 722, 723, 725, 726, 727]
def as15 : List Addr := [729, 730, 732, 733, 734, 736, 737, 739, 740, 741, 744, 745, 746, 748, 749, 751, 752, 753, 756, 757, 758, 760, 761, 763, 764, 765, 768, 769, 770, 773]
def as16 : List Addr := [774, 775, 777, 778, 780, 781, 782, 784, 785, 787, 788, 789, 791, 792, 794, 795, 796, 798, 799, 801, 802, 803, 806, 807, 808, 810, 811, 813, 814, 815]
def as17 : List Addr := [818, 819, 820, 822, 823, 825, 826, 827, 829, 830, 832, 833, 834, 836, 837, 839, 840, 841, 843, 844, 846, 847, 848, 851, 852]
/-- where the facts' objects stand -/
def asL : List Addr := as0 ++ as1 ++ as2 ++ as3 ++ as4 ++ as5 ++ as6 ++ as7 ++ as8 ++ as9 ++ as10 ++ as11 ++ as12 ++ as13 ++ as14 ++ as15 ++ as16 ++ as17
abbrev AlZ : Type := He.AlD × Bool
def obsZ (g : Addr → Option Obj) : AlZ := (He5.obsA faL fnL (He.frG g asL), exB (He.frG g asL))
def hk : PySem.W.Hook where
  α := AlZ
  obs := fun s => obsZ s.heap.get?
  val := fun _ => (He5.valA fnL, true)
  says := fun _ h => ∃ K : PySem.W.Frag, K.In h ∧ He5.SaysA faL fnL K ∧ exB K = true
  of := fun _ _ e => ⟨_, He.frG_in, congrArg (fun z : AlZ => z.1) e, congrArg (fun z : AlZ => z.2) e⟩
  keeps := fun _ _ _ ⟨K, hK, c⟩ k => ⟨K, PySem.W.Frag.In.keeps hK k, c⟩
theorem obsZ_eq {g : Addr → Option Obj} {s : Shared} (h : ∀ a, g a = s.heap.get? a) : obsZ g = hk.obs s := by
  have e : g = s.heap.get? := funext h
  rw [e] <;> rfl
abbrev RR : PySem.W.OpenRow := PySem.W.OpenLaw.row PySem.Challenge.rw_deltamill_k11_whole_one_minimal_is_fewes
def obZ (s : PySem.W.SharedT) : AlZ := obsZ (HandSHeadRun.getT s)
theorem obZ_eq (s : PySem.W.SharedT) : obZ s = hk.obs s.abs := obsZ_eq (HandSHeadRun.getT_eq s)
/-- what the facts speak of, off the tree -/
def KT (s : PySem.W.SharedT) : PySem.W.Frag := He.frG (HandSHeadRun.getT s) asL
theorem run1 (w : World) (os : PySem.OsState) : (HandSHeadRun.endF (HandSHeadRun.stepQ (HandSHeadRun.denQ HandSHeadRun.tabQ) RR.prog w) 9000 RR.prog w os).map (fun s => (HandSHeadRun.looksF RR.prog (PySem.W.boot_heap w.params) s.abs, HandSHeadRun.seenQ (PySem.W.view RR.prog [75]) loL (PySem.importedModules RR.prog.main.body) (fun s => PySem.W.xlAt (PySem.W.view RR.prog [75]) [] s && PySem.W.recOk RR.toRowW.records s) s.abs)) = some (true, PySem.W.openGood (PySem.W.view RR.prog [75]) loL) := by
  kernel_rfl
theorem run2 (w : World) (os : PySem.OsState) : (HandSHeadRun.endF (HandSHeadRun.stepQ (HandSHeadRun.denQ HandSHeadRun.tabQ) RR.prog w) 9000 RR.prog w os).map (fun s => (faL.all fun f => f.ok (KT s), exB (KT s))) = some (true, true) := by
  kernel_rfl
theorem run3 (w : World) (os : PySem.OsState) : (HandSHeadRun.endF (HandSHeadRun.stepQ (HandSHeadRun.denQ HandSHeadRun.tabQ) RR.prog w) 9000 RR.prog w os).map (fun s => (fnL.all fun d => d.ok (KT s), fnL.map fun d => He5.fnA (KT s) (d.at_ (KT s)))) = some (true, fnL.map He5.DefA.val) := by
  kernel_rfl
theorem runZ (w : World) : HandSHeadRun.RunEq RR (PySem.W.view RR.prog [75]) hk obZ 9000 loL w := by
  intro os
  obtain ⟨s, hs, h1⟩ := Option.map_eq_some_iff.mp (run1 w os)
  have h2 := run2 w os
  have h3 := run3 w os
  rw [hs] at h2 h3
  rw [hs]
  have g2 := Option.some.inj h2
  have g3 := Option.some.inj h3
  refine congrArg some (Prod.ext (congrArg (fun z => z.1) h1) (Prod.ext (congrArg (fun z => z.2) h1) (Prod.ext (Prod.ext ?_ (congrArg (fun z => z.2) g3)) (congrArg (fun z => z.2) g2))))
  show ((faL.all fun f => f.ok (KT s)) && fnL.all fun d => d.ok (KT s)) = true
  exact Bool.and_eq_true_iff.mpr ⟨congrArg (fun z => z.1) g2, congrArg (fun z => z.1) g3⟩
end K11

namespace K11
open PySem PySem.Spec PyProof.Rows L2 NSet
section
variable {P : Program} {w : World} {K : PySem.W.Frag} {mg : Str → Option Value} {base : Heap}
def spWz (K : PySem.W.Frag) (w : World) : Sp := fun vs H Q _ => ∃ (E : Kin) (a : Addr) (L : List (E.κ × Int)), vs = [.ref a] ∧ TalAt E K w H a L ∧ ∀ H' b, Same H H' → H b = none → TalAt E K w H' b (Tl.nzL L) → Q (.ref b) H'
theorem ivs_nd {E : Kin} {L : List (E.κ × Int)} (h : (Tl.keys L).Nodup) : ((ivs L).map (·.1)).Nodup := by
  unfold ivs
  rw [List.map_map]
  exact h
theorem ivs_mem {E : Kin} {L : List (E.κ × Int)} {p : E.κ × V} (h : p ∈ ivs L) : ∃ i, (p.1, i) ∈ L ∧ p.2 = .int i := by
  obtain ⟨q, hq, rfl⟩ := List.mem_map.mp h
  exact ⟨q.2, hq, rfl⟩
/-- the value of a key that is walked, through the lock -/
theorem get_walk {E : Kin} {H : Hp} {a : Addr} {od : Obj} {Lr : List DRowV} {L : List (E.κ × Int)} {y : V} {k : E.κ} {i : Int} (h : Rd H a (DictVO w a Lr)) (R : Rows E K H Lr (ivs L)) (nd : (Tl.keys L).Nodup) (hy : Da K H y (E.enc k)) (hi : (k, i) ∈ L) : DGetV K w H a y (some (.int i)) := by
  have := dgetA h R hy
  rw [(val_ivs_iff nd).mpr hi] at this
  exact this
theorem filt_ivs {E : Kin} (L : List (E.κ × Int)) (b : E.κ × V → Bool) (f : E.κ × V → V) (c : E.κ × Int → Bool) (g : E.κ × Int → Int) (hb : ∀ k i, b (k, .int i) = c (k, i)) (hf : ∀ k i, f (k, .int i) = .int (g (k, i))) :
    ((ivs L).filter b).map (fun p => (p.1, f p)) = ivs ((L.filter c).map fun p => (p.1, g p)) := by
  unfold ivs
  rw [List.filter_map, List.map_map, List.map_map]
  have : (b ∘ fun p : E.κ × Int => (p.1, V.int p.2)) = c := funext fun p => hb p.1 p.2
  rw [this]
  refine List.map_congr_left fun p _ => ?_
  show (p.1, f (p.1, .int p.2)) = (p.1, V.int (g p))
  rw [hf]
theorem ftrue {α : Type} (l : List α) : l.filter (fun _ => true) = l := List.filter_eq_self.mpr fun _ _ => rfl
theorem d_without_zeros (B : Bt mg) (T : Top K mg "without_zeros" swithout_zeros ["counts"]) : Def P w K mg base "without_zeros" 1 ["counts"] (spWz K w) := by
  refine mk_def T scwithout_zeros (by rintro _ _ _ _ ⟨_, _, _, rfl, _⟩; rfl) fun f cdv A outer s H vs Q E0 hr h => ?_
  obtain ⟨E, a, L, rfl, ⟨Lr, e, R, nd, hl⟩, q⟩ := h
  refine ⟨_, (pss_one (ps_ret (pe_lock (NSet.pe_dcV (hu24 hr) (own := [("key", 1)]) (g := (gName 1)) (tt := (tTest (tOp rNe (NSet.tDGetV K w (tVar 0) (tVar 1)) (tC (.int 0))))) (tk := (tVar 1)) (tv := (NSet.tDGetV K w (tVar 0) (tVar 1))) rfl scwithout_zeros.nd (NSet.pi_keysV (pv 0)) (blkOk_by (own := [("key", 1)]) (N := Nwithout_zeros) (sc := defScope swithout_zeros) (by decide +kernel)) (fun _ _ _ _ _ => (pg_name (i := 1) scwithout_zeros.nd rfl (Or.inl rfl))) (fun _ _ _ _ _ => (pts_one (pt_cmpR op_ne (NSet.pe_dgetV (hu24 hr) (pv 0) (pv 1) (fun _ _ => rfl)) pe_int (nomark _)))) (fun _ _ _ _ _ => (pv 1)) (fun _ _ _ _ _ => (NSet.pe_dgetV (hu24 hr) (pv 0) (pv 1) (fun _ _ => rfl))))))), ?_⟩
  refine ⟨a, _, e, True.intro, fun od => ?_⟩
  have hz : L2.upd H a (.frz od (DictVO w a Lr)) a = some (.frz od (DictVO w a Lr)) := upd_same
  have R1 : Rows E K (L2.upd H a (.frz od (DictVO w a Lr))) Lr (ivs L) := R.st (st_upd e no_ext)
  refine ⟨.ref a, rfl, a, od, Lr, rfl, hz, fun D hD => ?_⟩
  have nDa : D ≠ a := (ne_of_none hz hD).symm
  refine dcV_rows hz R1 (ivs_nd nd) (by rw [ivs_len]; omega) hD (fun p => decide (p.2 ≠ V.int 0)) (fun p => p.2) (fun p r H2 Q2 Rr hp e2 hr' k1 k2 => ?_) (fun H' Lr' e2 eD RD => ?_)
  · obtain ⟨i, hi, ei⟩ := ivs_mem hp
    have hg : ∀ H4 : Hp, Same H2 H4 → DGetV K w H4 a (.ref r) (some (.int i)) := fun H4 e4 => get_walk (od := od) (.inr ⟨od, e4 _ _ (e2 _ _ hz)⟩) (R1.st (e2.trans e4).st) nd (Da.same e4 _ _ hr') hi
    refine ⟨rfl, .ref a, rfl, .ref r, rfl, a, _, rfl, hg _ (Same.refl _), rfl, _, rfl, ?_⟩
    by_cases e0 : i = 0
    · rw [decide_eq_true (show V.int i = V.int 0 by rw [e0])]
      exact iteF (k2 (by simp [ei, e0]) _ (Same.refl _))
    · rw [decide_eq_false (show ¬ V.int i = V.int 0 from fun z => e0 (V.int.inj z))]
      refine iteT ⟨.ref r, rfl, .ref a, rfl, .ref r, rfl, a, _, rfl, hg _ (Same.refl _), ?_⟩
      rw [← ei]
      exact k1 (by simp [ei]; exact e0) _ (Same.refl _)
  · have hDn : H D = none := (show L2.upd H a _ D = none from hD) ▸ (upd_ne nDa).symm
    have eq : ((ivs L).filter fun p => decide (p.2 ≠ V.int 0)).map (fun p => (p.1, p.2)) = ivs (Tl.nzL L) := by
      rw [filt_ivs L (fun p => decide (p.2 ≠ V.int 0)) (fun p => p.2) (fun p => decide (p.2 ≠ 0)) (fun p => p.2) (fun k i => by simp) (fun k i => rfl), List.map_id']
      rfl
    rw [eq] at RD
    have lf : (Tl.nzL L).length ≤ L.length := List.length_filter_le _ _
    refine ⟨e2 _ _ hz, q _ D (same_unlock e e2) hDn ⟨Lr', ?_, RD.st (st_upd (e2 _ _ hz) True.intro), (Tl.fin_nz nd).nd, by omega⟩⟩
    rw [upd_ne nDa]
    exact eD
def spTimes (K : PySem.W.Frag) (w : World) : Sp := fun vs H Q _ => ∃ (E : Kin) (a : Addr) (L : List (E.κ × Int)), vs = [.ref a, .int (-1)] ∧ TalAt E K w H a L ∧ ∀ H' b, Same H H' → H b = none → TalAt E K w H' b (Tl.nzL (L.map fun p => (p.1, -p.2))) → Q (.ref b) H'
theorem keys_map {E : Kin} (L : List (E.κ × Int)) (f : E.κ × Int → Int) : Tl.keys (L.map fun p => (p.1, f p)) = Tl.keys L := by
  unfold Tl.keys
  rw [List.map_map]
  rfl
theorem d_times (B : Bt mg) (T : Top K mg "times" stimes ["counts", "factor"]) (Dwithout_zeros : Def P w K mg base "without_zeros" 1 ["counts"] (spWz K w)) : Def P w K mg base "times" 2 ["counts", "factor"] (spTimes K w) := by
  refine mk_def T sctimes (by rintro _ _ _ _ ⟨_, _, _, rfl, _⟩; rfl) fun f cdv A outer s H vs Q E0 hr h => ?_
  obtain ⟨E, a, L, rfl, ⟨Lr, e, R, nd, hl⟩, q⟩ := h
  refine ⟨_, (pss_one (ps_ret (pe_def Dwithout_zeros (hr.mono (by first | decide | omega)) (by rfl) (pa_cons (pe_lock (NSet.pe_dcV (hu24 hr) (own := [("key", 2)]) (g := (gName 2)) (tt := tYes) (tk := (tVar 2)) (tv := (tOp yMul (NSet.tDGetV K w (tVar 0) (tVar 2)) (tVar 1))) rfl sctimes.nd (NSet.pi_keysV (pv 0)) (blkOk_by (own := [("key", 2)]) (N := Ntimes) (sc := defScope stimes) (by decide +kernel)) (fun _ _ _ _ _ => (pg_name (i := 2) sctimes.nd rfl (Or.inl rfl))) (fun _ _ _ _ _ => pts_nil) (fun _ _ _ _ _ => (pv 2)) (fun _ _ _ _ _ => (pe_op op_mul (NSet.pe_dgetV (hu24 hr) (pv 0) (pv 2) (fun _ _ => rfl)) (pv 1))))) pa_nil)))), ?_⟩
  refine ⟨a, _, e, True.intro, fun od => ?_⟩
  have hz : L2.upd H a (.frz od (DictVO w a Lr)) a = some (.frz od (DictVO w a Lr)) := upd_same
  have R1 : Rows E K (L2.upd H a (.frz od (DictVO w a Lr))) Lr (ivs L) := R.st (st_upd e no_ext)
  refine ⟨.ref a, rfl, a, od, Lr, rfl, hz, fun D hD => ?_⟩
  have nDa : D ≠ a := (ne_of_none hz hD).symm
  refine dcV_rows hz R1 (ivs_nd nd) (by rw [ivs_len]; omega) hD (fun _ => true) (fun p => match p.2 with | .int i => .int (-i) | v => v) (fun p r H2 Q2 Rr hp e2 hr' k1 k2 => ?_) (fun H' Lr' e2 eD RD => ?_)
  · obtain ⟨i, hi, ei⟩ := ivs_mem hp
    have hg : DGetV K w H2 a (.ref r) (some (.int i)) := get_walk (od := od) (.inr ⟨od, e2 _ _ hz⟩) (R1.st e2.st) nd hr' hi
    refine ⟨rfl, ?_⟩
    show if true = true then _ else Rr H2
    refine iteT ⟨.ref r, rfl, .ref a, rfl, .ref r, rfl, a, _, rfl, hg, .int (-1), rfl, _, _, rfl, rfl, .inr ⟨by decide, by decide⟩, ?_⟩
    show Q2 _ (.int (i * (-1))) H2
    have := k1 rfl _ (Same.refl _)
    rw [ei] at this
    rw [show i * (-1) = -i by omega]
    exact this
  · have hDn : H D = none := (show L2.upd H a _ D = none from hD) ▸ (upd_ne nDa).symm
    have eq := filt_ivs L (fun _ => true) (fun p => match p.2 with | .int i => .int (-i) | v => v) (fun _ => true) (fun p => -p.2) (fun k i => rfl) (fun k i => rfl)
    rw [ftrue] at eq
    rw [ftrue] at RD
    rw [ftrue] at eq
    rw [eq] at RD
    have e3 := same_unlock e e2
    have eD2 : L2.upd H' a (DictVO w a Lr) D = some (DictVO w D Lr') := by
      rw [upd_ne nDa]
      exact eD
    refine ⟨e2 _ _ hz, E, D, _, rfl, ⟨Lr', eD2, RD.st (st_upd (e2 _ _ hz) True.intro), by rw [keys_map]; exact nd, by rw [List.length_map]; exact hl⟩, fun H3 b e4 hb tb => q H3 b (e3.trans e4) (e3.new hb) tb⟩
/-- a pair: a key and a count -/
def PairA (E : Kin) (K : PySem.W.Frag) (H : Hp) (v : V) (p : E.κ × Int) : Prop := ∃ t y, v = .ref t ∧ H t = some (.tup [y, .int p.2]) ∧ Da K H y (E.enc p.1)
theorem PairA.st {E : Kin} {H H' : Hp} {v : V} {p : E.κ × Int} (h : PairA E K H v p) (e : ST K H H') : PairA E K H' v p := by
  obtain ⟨t, y, rfl, h1, h2⟩ := h
  exact ⟨t, y, rfl, e _ _ h1, Da.st e _ _ (E.imm _) h2⟩
/-- a tally that is summed up -/
structure SumV (E : Kin) (K : PySem.W.Frag) (w : World) (H : Hp) (a : Addr) (T ps : List (E.κ × Int)) : Prop where
  at' : ∃ Lr, H a = some (DictVO w a Lr) ∧ Rows E K H Lr (ivs T)
  nd : (Tl.keys T).Nodup
  len : T.length ≤ ps.length
  sum : ∀ k, Tl.cnt T k = Tl.cnt ps k
  inn : ∀ p ∈ T, p.1 ∈ Tl.keys ps
theorem SumV.put {E : Kin} {H H' : Hp} {a : Addr} {T ps : List (E.κ × Int)} (S : SumV E K w H a T ps) (p : E.κ × Int) (h : ∃ Lr, H' a = some (DictVO w a Lr) ∧ Rows E K H' Lr (ivs (Tl.put T p.1 (Tl.cnt T p.1 + p.2)))) : SumV E K w H' a (Tl.put T p.1 (Tl.cnt T p.1 + p.2)) (ps ++ [p]) where
  at' := h
  nd := Tl.put_nodup S.nd
  len := by
    have := Tl.put_len (L := T) (k := p.1) (v := Tl.cnt T p.1 + p.2)
    have := S.len
    rw [List.length_append, List.length_singleton]
    omega
  sum k := by
    rw [Tl.put_cnt S.nd, Tl.cnt_append, S.sum]
    simp only [Tl.cnt]
    by_cases e : k = p.1
    · rw [if_pos e, if_pos e.symm, e]
      omega
    · rw [if_neg e, if_neg (fun z => e z.symm), S.sum]
      omega
  inn r hr := by
    unfold Tl.keys
    rw [List.map_append]
    rcases Tl.put_mem hr with e | e
    · exact List.mem_append_right _ (by rw [e]; simp)
    · obtain ⟨z, hz, ez⟩ := List.mem_map.mp e
      exact List.mem_append_left _ (by rw [← ez]; exact S.inn z hz)
theorem SumV.self {E : Kin} {H : Hp} {a : Addr} {L : List (E.κ × Int)} (h : ∃ Lr, H a = some (DictVO w a Lr) ∧ Rows E K H Lr (ivs L)) (nd : (Tl.keys L).Nodup) : SumV E K w H a L L := ⟨h, nd, Nat.le_refl _, fun _ => rfl, fun p hp => List.mem_map.mpr ⟨p, hp, rfl⟩⟩
theorem nz_in {E : Kin} {T ps : List (E.κ × Int)} (h : ∀ p ∈ T, p.1 ∈ Tl.keys ps) : ∀ p ∈ Tl.nzL T, p.1 ∈ Tl.keys ps := fun p hp => h p (List.mem_filter.mp hp).1
def spTally (K : PySem.W.Frag) (w : World) : Sp := fun vs H Q _ => ∃ (E : Kin) (a : Addr) (acc : List V) (ps : List (E.κ × Int)), vs = [.ref a] ∧ H a = some (.lst acc) ∧ Paired (PairA E K H) acc ps ∧ ps.length ≤ 5000 ∧
  ∀ H' b T, Same H H' → H b = none → TalAt E K w H' b T → Tl.Fin T → (∀ k, Tl.cnt T k = Tl.cnt ps k) → (∀ p ∈ T, p.1 ∈ Tl.keys ps) → Q (.ref b) H'
theorem pget' {α β : Type} {F : α → β → Prop} {l : List α} {m : List β} {i : Nat} {x : α} (h : Paired F l m) (e : l[i]? = some x) : ∃ y, m[i]? = some y ∧ F x y := pgetL h e
/-- made[key] = made.get(key, 0) + count, behind the reading of get -/
theorem put_sum {E : Kin} {H : Hp} {M : Addr} {T ps : List (E.κ × Int)} {y : V} {p : E.κ × Int} {σ : L2.St} {D : L2.Ends} (S : SumV E K w H M T ps) (hy : Da K H y (E.enc p.1)) (hn : ps.length ≤ 5000)
    (q : ∀ H', SameB M H H' → SumV E K w H' M (Tl.put T p.1 (Tl.cnt T p.1 + p.2)) (ps ++ [p]) → D.nx σ H') :
    ∃ (a' b : Addr) (L' : List DRowV) (d : PyData), V.ref M = .ref a' ∧ y = .ref b ∧ H a' = some (DictVO w a' L') ∧ MemV K H L' ∧ Da K H (.ref b) d ∧ imm d = true ∧ (kOf d).depth ≤ 8 ∧ L'.length < sizeLine ∧ D.nx σ (L2.upd H a' (DictVO w a' (storedV L' (kOf d) b (.int (Tl.cnt T p.1 + p.2))))) := by
  obtain ⟨Lr, e, R⟩ := S.at'
  refine sputA e R hy ?_ fun Lr' R' => q _ SameB.upd (S.put p ⟨Lr', upd_same, by rw [← put_ivs]; exact R'⟩)
  rw [ivs_len]
  have := S.len
  exact Nat.lt_of_le_of_lt (Nat.le_trans this hn) (by decide)
theorem get_sum {E : Kin} {H : Hp} {M : Addr} {T ps : List (E.κ × Int)} {y : V} {k : E.κ} (S : SumV E K w H M T ps) (hy : Da K H y (E.enc k)) : ∃ o, DGetV K w H M y o ∧ o.getD (.int 0) = .int (Tl.cnt T k) := by
  obtain ⟨Lr, e, R⟩ := S.at'
  exact ⟨_, dgetA (.inl e) R hy, val_ivs S.nd k⟩
theorem d_tally_of (B : Bt mg) (T : Top K mg "tally_of" stally_of ["pairs"]) (Dwithout_zeros : Def P w K mg base "without_zeros" 1 ["counts"] (spWz K w)) : Def P w K mg base "tally_of" 2 ["pairs"] (spTally K w) := by
  refine mk_def T sctally_of (by rintro _ _ _ _ ⟨_, _, _, _, rfl, _⟩; rfl) fun f cdv A outer s H vs Q E0 hr h => ?_
  obtain ⟨E, a, acc, ps, rfl, ha, hx, hn, q⟩ := h
  refine ⟨_, (pss_cons (ps_set (i := 1) sctally_of.nd rfl (Or.inl rfl) (NSet.pe_dnewV))
      (pss_cons (ps_for PassesOwn.never rfl (pi_list (pv 0)) (pg_tup rfl (pgs_cons (pg_name (i := 2) sctally_of.nd rfl (Or.inl rfl)) (pgs_cons (pg_name (i := 3) sctally_of.nd rfl (Or.inl rfl)) pgs_nil))) (pss_one (NSet.ps_dputV (hu24 hr) (pv 1) (pv 2) (pe_op op_add (NSet.pe_dget2V (hu24 hr) (pv 1) (pv 2) pe_int ⟨by rfl, by rfl, by rfl, by rfl⟩) (pv 3)))))
      (pss_one (ps_ret (pe_def Dwithout_zeros (hr.mono (by first | decide | omega)) (by rfl) (pa_cons (pv 1) pa_nil)))))), ?_⟩
  intro M hM
  have naM : a ≠ M := ne_of_none ha hM
  have ha1 : L2.upd H M (DictVO w M []) a = some (.lst acc) := by rw [upd_ne naM]; exact ha
  refine ⟨.ref a, rfl, a, rfl, ⟨_, SqL.of ha1⟩, ?_⟩
  have hl : acc.length = ps.length := plen hx
  refine for_list (xs := acc) (fun i σ H' => ∃ y2 y3 T, σ = [some (.ref a), some (.ref M), y2, y3] ∧ SameB M H H' ∧ SumV E K w H' M T (ps.take i)) ⟨none, none, [], rfl, Same.b (same_upd hM), ⟨⟨[], upd_same, .nil⟩, List.Pairwise.nil, Nat.le_refl _, fun k => rfl, fun p hp => nomatch hp⟩⟩ (fun i σ H' _ pv' => ?_) (fun i x σ H' hxi pv' => ?_) (fun σ H' pv' => ?_)
  · obtain ⟨_, _, _, _, e, _⟩ := pv'
    exact SqL.of (e _ _ naM ha)
  · obtain ⟨y2, y3, T, rfl, e, S⟩ := pv'
    obtain ⟨p, hp, hpx⟩ := pget' hx hxi
    have st : ST K H H' := fun t us ht => e _ _ (ne_of_none ht hM) ht
    obtain ⟨t, y, rfl, ht, hb⟩ := hpx.st st
    have lt : (ps.take i).length ≤ 5000 := Nat.le_trans (List.length_take_le' _ _) hn
    obtain ⟨Lr0, eL0, _⟩ := S.at'
    obtain ⟨o, ho, eo⟩ := get_sum S hb
    refine ⟨t, _, rfl, SqT.of ht, rfl, _, _, rfl, _, _, rfl, rfl, ?_⟩
    refine ⟨.ref M, rfl, M, rfl, ⟨_, .inl eL0⟩, y, rfl, o, ho, .int p.2, rfl, _, _, eo, rfl, .ref M, rfl, y, rfl, put_sum (p := p) S hb lt fun H2 e2 S2 => ⟨_, _, Tl.put T p.1 (Tl.cnt T p.1 + p.2), rfl, e.trans e2, ?_⟩⟩
    rw [List.take_add_one, hp, Option.toList_some]
    exact S2
  · obtain ⟨y2, y3, T, rfl, e, S⟩ := pv'
    rw [hl, List.take_length] at S
    obtain ⟨Lr, eL, RL⟩ := S.at'
    refine ⟨.ref M, rfl, E, M, _, rfl, ⟨Lr, eL, RL, S.nd, Nat.le_trans S.len hn⟩, fun H3 b s3 hb tb => ?_⟩
    have sm : Same H H3 := fun t u ht => s3 _ _ (e _ _ (ne_of_none ht hM) ht)
    refine q H3 b _ sm ?_ tb (Tl.fin_nz S.nd) (fun k => by rw [Tl.cnt_nz, S.sum]) (nz_in S.inn)
    cases z : H b with
    | none => rfl
    | some u =>
      have h' : H' b = some u := e _ _ (ne_of_none z hM) z
      rw [hb] at h'
      cases h'
def spPlus (K : PySem.W.Frag) (w : World) : Sp := fun vs H Q _ => ∃ (E : Kin) (a b : Addr) (L M : List (E.κ × Int)), vs = [.ref a, .ref b] ∧ TalAt E K w H a L ∧ TalAt E K w H b M ∧ L.length + M.length ≤ 5000 ∧
  ∀ H' c T, Same H H' → H c = none → TalAt E K w H' c T → Tl.Fin T → (∀ k, Tl.cnt T k = Tl.cnt L k + Tl.cnt M k) → (∀ p ∈ T, p.1 ∈ Tl.keys L ∨ p.1 ∈ Tl.keys M) → Q (.ref c) H'
theorem d_plus (B : Bt mg) (T : Top K mg "plus" splus ["first", "second"]) (Dwithout_zeros : Def P w K mg base "without_zeros" 1 ["counts"] (spWz K w)) : Def P w K mg base "plus" 2 ["first", "second"] (spPlus K w) := by
  refine mk_def T scplus (by rintro _ _ _ _ ⟨_, _, _, _, _, rfl, _⟩; rfl) fun f cdv A outer s H vs Q E0 hr h => ?_
  obtain ⟨E, a, b, L, M, rfl, ⟨Lr, ea, Ra, nda, hla⟩, ⟨Mr, eb, Rb, ndb, hlb⟩, hn, q⟩ := h
  refine ⟨_, (pss_cons (ps_lock (NSet.ps_setDcV (i := 2) (hu24 hr) (own := [("key", 3)]) (g := (gName 3)) (tt := tYes) (tk := (tVar 3)) (tv := (NSet.tDGetV K w (tVar 0) (tVar 3))) rfl scplus.nd rfl rfl (swD_true rfl rfl rfl (by decide +kernel)) (NSet.pi_keysV (pv 0)) (blkOk_by (own := [("key", 3)]) (N := Nplus) (sc := defScope splus) (by decide +kernel)) (fun _ _ _ _ _ => (pg_name (i := 3) scplus.nd rfl (Or.inl rfl))) (fun _ _ _ _ _ => pts_nil) (fun _ _ _ _ _ => (pv 3)) (fun _ _ _ _ _ => (NSet.pe_dgetV (hu24 hr) (pv 0) (pv 3) (fun _ _ => rfl)))))
      (pss_cons (ps_lock (ps_for PassesOwn.never rfl (NSet.pi_keysV (pv 1)) (pg_name (i := 3) scplus.nd rfl (Or.inl rfl)) (pss_one (NSet.ps_dputV (hu24 hr) (pv 2) (pv 3) (pe_op op_add (NSet.pe_dget2V (hu24 hr) (pv 2) (pv 3) pe_int ⟨by rfl, by rfl, by rfl, by rfl⟩) (NSet.pe_dgetV (hu24 hr) (pv 1) (pv 3) (fun _ _ => rfl)))))))
      (pss_one (ps_ret (pe_def Dwithout_zeros (hr.mono (by first | decide | omega)) (by rfl) (pa_cons (pv 2) pa_nil)))))), ?_⟩
  refine ⟨a, _, ea, True.intro, fun od => ?_⟩
  have hz : L2.upd H a (.frz od (DictVO w a Lr)) a = some (.frz od (DictVO w a Lr)) := upd_same
  have R1 : Rows E K (L2.upd H a (.frz od (DictVO w a Lr))) Lr (ivs L) := Ra.st (st_upd ea no_ext)
  refine ⟨.ref a, rfl, a, od, Lr, rfl, hz, fun D hD => ?_⟩
  have nDa : D ≠ a := (ne_of_none hz hD).symm
  refine dcV_rows hz R1 (ivs_nd nda) (by rw [ivs_len]; omega) hD (fun _ => true) (fun p => p.2) (fun p r H2 Q2 Rr hp e2 hr' k1 k2 => ?_) (fun H' Lr' e2 eD RD => ?_)
  · obtain ⟨i, hi, ei⟩ := ivs_mem hp
    have hg : DGetV K w H2 a (.ref r) (some (.int i)) := get_walk (od := od) (.inr ⟨od, e2 _ _ hz⟩) (R1.st e2.st) nda hr' hi
    refine ⟨rfl, ?_⟩
    show if true = true then _ else Rr H2
    refine iteT ⟨.ref r, rfl, .ref a, rfl, .ref r, rfl, a, _, rfl, hg, ?_⟩
    rw [← ei]
    exact k1 rfl _ (Same.refl _)
  · rw [ftrue, List.map_id'] at RD
    have hDn : H D = none := (show L2.upd H a _ D = none from hD) ▸ (upd_ne nDa).symm
    have e3 := same_unlock ea e2
    have eD2 : L2.upd H' a (DictVO w a Lr) D = some (DictVO w D Lr') := by
      rw [upd_ne nDa]
      exact eD
    have RD2 : Rows E K (L2.upd H' a (DictVO w a Lr)) Lr' (ivs L) := RD.st (st_upd (e2 _ _ hz) True.intro)
    refine ⟨e2 _ _ hz, ?_⟩
    generalize L2.upd H' a (DictVO w a Lr) = H3 at e3 eD2 RD2 ⊢
    have nbD : b ≠ D := ne_of_none eb hDn
    have hb3 : H3 b = some (DictVO w b Mr) := e3 _ _ eb
    have Rb3 : Rows E K H3 Mr (ivs M) := Rb.st e3.st
    refine ⟨b, _, hb3, True.intro, fun od2 => ?_⟩
    have hz2 : L2.upd H3 b (.frz od2 (DictVO w b Mr)) b = some (.frz od2 (DictVO w b Mr)) := upd_same
    have st2 : ST K H3 (L2.upd H3 b (.frz od2 (DictVO w b Mr))) := st_upd hb3 no_ext
    have hD3 : L2.upd H3 b (.frz od2 (DictVO w b Mr)) D = some (DictVO w D Lr') := by
      rw [upd_ne nbD.symm]
      exact eD2
    have Rb4 : Rows E K (L2.upd H3 b (.frz od2 (DictVO w b Mr))) Mr (ivs M) := Rb3.st st2
    refine ⟨.ref b, rfl, b, od2, Mr, rfl, hz2, ?_⟩
    refine for_it (walk_keysV (L := Mr)) (fun i σ H' => ∃ y3 T, σ = [some (.ref a), some (.ref b), some (.ref D), y3] ∧ SameB D (L2.upd H3 b (.frz od2 (DictVO w b Mr))) H' ∧ SumV E K w H' D T (L ++ M.take i)) ⟨none, L, rfl, SameB.refl _ _, by rw [List.take_zero, List.append_nil]; exact .self ⟨Lr', hD3, RD2.st st2⟩ nda⟩ (fun i σ H' _ pv' => ?_) (fun i x σ H' H'' hi pv' y => ?_) (fun σ H' pv' => ?_)
    · obtain ⟨_, _, _, e, _⟩ := pv'
      exact e _ _ nbD hz2
    · obtain ⟨y3, T, rfl, e, S⟩ := pv'
      obtain ⟨rfl, r, hk, rfl⟩ := y
      have stS : ST K (L2.upd H3 b (.frz od2 (DictVO w b Mr))) H'' := SameB.st e hD3 no_ext
      obtain ⟨p0, hp0, hr', _⟩ := rows_at (Rb4.st stS) hk
      obtain ⟨p, hp, rfl⟩ := ivs_get hp0
      have hg : DGetV K w H'' b (.ref r.2.1) (some (.int p.2)) := get_walk (od := od2) (.inr ⟨od2, e _ _ nbD hz2⟩) (Rb4.st stS) ndb hr' (List.mem_of_getElem? hp)
      obtain ⟨Lr0, eL0, _⟩ := S.at'
      obtain ⟨o, ho, eo⟩ := get_sum S hr'
      have lt : (L ++ M.take i).length ≤ 5000 := by
        rw [List.length_append]
        have := List.length_take_le' i M
        omega
      refine ⟨.ref D, rfl, D, rfl, ⟨_, .inl eL0⟩, .ref r.2.1, rfl, o, ho, .ref b, rfl, .ref r.2.1, rfl, b, _, rfl, hg, _, _, eo, rfl, .ref D, rfl, .ref r.2.1, rfl, put_sum (p := p) S hr' lt fun H2 e2 S2 => ⟨some (.ref r.2.1), Tl.put T p.1 (Tl.cnt T p.1 + p.2), rfl, e.trans e2, ?_⟩⟩
      rw [List.take_add_one, hp, Option.toList_some, ← List.append_assoc]
      exact S2
    · obtain ⟨y3, T, rfl, e, S⟩ := pv'
      have lM : Mr.length = M.length := by rw [plen Rb, ivs_len]
      rw [lM, List.take_length] at S
      have lT : T.length ≤ 5000 := Nat.le_trans S.len (by rw [List.length_append]; exact hn)
      obtain ⟨Lr0, eL0, RL0⟩ := S.at'
      refine ⟨e _ _ nbD hz2, .ref D, rfl, E, D, T, rfl, ⟨Lr0, ?_, RL0.st (st_upd (e _ _ nbD hz2) True.intro), S.nd, lT⟩, fun H5 c s5 hc tc => ?_⟩
      · rw [upd_ne nbD.symm]
        exact eL0
      have sm : Same H H5 := fun t u ht => by
        refine s5 _ _ ?_
        have h3 := e3 _ _ ht
        by_cases z : t = b
        · rw [z, upd_same, ← hb3, ← z, h3]
        · rw [upd_ne z]
          exact e _ _ (ne_of_none ht hDn) (by rw [upd_ne z]; exact h3)
      refine q H5 c _ sm ?_ tc (Tl.fin_nz S.nd) (fun k => by rw [Tl.cnt_nz, S.sum, Tl.cnt_append]) fun p hp => ?_
      · cases z : H c with
        | none => rfl
        | some u =>
          have h' : L2.upd H' b (DictVO w b Mr) c ≠ none := by
            by_cases zc : c = b
            · rw [zc, upd_same]
              exact fun z => nomatch z
            · rw [upd_ne zc, e _ _ (ne_of_none z hDn) (by rw [upd_ne zc]; exact e3 _ _ z)]
              exact fun z => nomatch z
          exact absurd hc h'
      · have := nz_in S.inn p hp
        unfold Tl.keys at this
        rw [List.map_append] at this
        exact List.mem_append.mp this
end
end K11

namespace K11
open PySem PySem.Spec PyProof.Rows L2
section
variable {P : Program} {w : World} {K : PySem.W.Frag} {mg : Str → Option Value} {base : Heap}
/-! ### before, join_of, meet_of -/
def leL (ns ms : List Int) : List Bool := List.zipWith (fun x y => decide (x ≤ y)) ns ms
def leB (ns ms : List Int) : Bool := (leL ns ms).all id
def joinL (ns ms : List Int) : List Int := List.zipWith (fun x y => if y > x then y else x) ns ms
def meetL (ns ms : List Int) : List Int := List.zipWith (fun x y => if y < x then y else x) ns ms
/-- two moments of one length in, a bool out -/
def spB (K : PySem.W.Frag) (g : List Int → List Int → Bool) : Sp := fun vs H Q _ => ∃ (a b : Addr) (ns ms : List Int), vs = [.ref a, .ref b] ∧ SqT K H a (ns.map V.int) ∧ SqT K H b (ms.map V.int) ∧ ns.length = ms.length ∧ ns.length ≤ 1000 ∧
  ∀ H', Same H H' → Q (.bl (g ns ms)) H'
/-- two moments of one length in, a new moment out -/
def spM (K : PySem.W.Frag) (g : List Int → List Int → List Int) : Sp := fun vs H Q _ => ∃ (a b : Addr) (ns ms : List Int), vs = [.ref a, .ref b] ∧ SqT K H a (ns.map V.int) ∧ SqT K H b (ms.map V.int) ∧ ns.length = ms.length ∧ ns.length ≤ 1000 ∧
  ∀ H' p, Same H H' → H p = none → H' p = some (.tup ((g ns ms).map V.int)) → Q (.ref p) H'
theorem len2 {g : List Int → List Int → Bool} : ∀ vs H Q E, spB K g vs H Q E → vs.length = 2 := by
  rintro _ _ _ _ ⟨a, b, ns, ms, rfl, _⟩
  rfl
theorem len2m {g : List Int → List Int → List Int} : ∀ vs H Q E, spM K g vs H Q E → vs.length = 2 := by
  rintro _ _ _ _ ⟨a, b, ns, ms, rfl, _⟩
  rfl
theorem int_at {ns : List Int} {i : Nat} {x : V} (h : (ns.map V.int)[i]? = some x) : ∃ n, ns[i]? = some n ∧ x = .int n := by
  rw [List.getElem?_map] at h
  cases e : ns[i]? with
  | none => rw [e] at h; cases h
  | some n => rw [e] at h; exact ⟨n, rfl, (Option.some.inj h).symm⟩
theorem d_before (B : Bt mg) (T : Top K mg "before" sbefore ["first", "second"]) : Def P w K mg base "before" 1 ["first", "second"] (spB K leB) := by
  refine mk_def T scbefore len2 fun f cdv A outer s H vs Q E hr h => ?_
  obtain ⟨a, b, ns, ms, rfl, ha, hb, hl, hn, q⟩ := h
  refine ⟨_, (pss_one (ps_ret (pe_callB (cr_all rfl) (by rfl) B.m_all (by decide +kernel) (pa_cons (pe_lc (own := [("low", 2), ("high", 3)]) (g := (gTup K 2 (gCons (gName 2) (gCons (gName 3) gNil)))) (tt := tYes) (te := (tOp yLe (tVar 2) (tVar 3))) rfl scbefore.nd (RZ.pi_zipA (by rfl) B.m_zip (pa_cons (pv 0) (pa_cons (pv 1) pa_nil))) (blkOk_by (own := [("low", 2), ("high", 3)]) (N := Nbefore) (sc := defScope sbefore) (by decide +kernel)) (fun _ _ _ _ _ => (pg_tup rfl (pgs_cons (pg_name (i := 2) scbefore.nd rfl (Or.inl rfl)) (pgs_cons (pg_name (i := 3) scbefore.nd rfl (Or.inl rfl)) pgs_nil)))) (fun _ _ _ _ _ => pts_nil) (fun _ _ _ _ _ => (pe_cmpR op_le (pv 2) (pv 3) (nomark _)))) pa_nil)))), ?_⟩
  refine ⟨.ref a, rfl, .ref b, rfl, a, b, _, _, rfl, .inr ⟨ha, hb, fun L hL => ?_⟩⟩
  refine lc_val (walk_zipT (by simpa using hl)) hL (by simp; omega) (fun H1 e => ⟨e.seqT ha, e.seqT hb⟩) ((leL ns ms).map V.bl) (by simp [leL]; omega) (fun i x H1 H2 Q' hi e y k => ?_) (fun H1 e eL => ?_)
  · obtain ⟨T', x', z', rfl, nT, rfl, hx, hz⟩ := y
    obtain ⟨x1, hx1, rfl⟩ := int_at hx
    obtain ⟨z1, hz1, rfl⟩ := int_at hz
    refine ⟨T', [.int x1, .int z1], rfl, .inl (.inl upd_same), rfl, _, _, rfl, _, _, rfl, rfl, rfl, _, rfl, _, rfl, _, _, rfl, rfl, ?_⟩
    exact k _ _ (same_upd nT) (by simp [leL, List.getElem?_zipWith, hx1, hz1])
  · exact ⟨L, leL ns ms, rfl, SqL.of eL, q H1 e⟩
end
end K11

namespace K11
open PySem PySem.Spec PyProof.Rows L2
/-! ### the grid -/
def gridStep (g : List (List Int)) (r : List Int) : List (List Int) := g.flatMap fun h => r.map fun l => h ++ [l]
def gridL (rows : List (List Int)) : List (List Int) := rows.foldl gridStep [[]]
theorem gridL_snoc (rows : List (List Int)) (r : List Int) : gridL (rows ++ [r]) = gridStep (gridL rows) r := by simp [gridL]
theorem gridL_take {rows : List (List Int)} {i : Nat} {r : List Int} (h : rows[i]? = some r) : gridL (rows.take (i + 1)) = gridStep (gridL (rows.take i)) r := by
  rw [List.take_add_one, h]
  exact gridL_snoc _ _
theorem gridStep_len {g : List (List Int)} {r : List Int} {n : Nat} (h : ∀ x ∈ g, x.length = n) : ∀ x ∈ gridStep g r, x.length = n + 1 := by
  intro x hx
  obtain ⟨y, hy, hz⟩ := List.mem_flatMap.mp hx
  obtain ⟨l, _, rfl⟩ := List.mem_map.mp hz
  simp [h y hy]
theorem gridL_len : ∀ (n : Nat) (rows : List (List Int)), rows.length = n → ∀ x ∈ gridL rows, x.length = n := by
  intro n
  induction n with
  | zero =>
    intro rows h x hx
    have : rows = [] := List.length_eq_zero_iff.mp h
    subst this
    simp [gridL] at hx
    simp [hx]
  | succ n ih =>
    intro rows h x hx
    have hne : rows ≠ [] := by
      intro e
      subst e
      simp at h
    rw [← List.dropLast_concat_getLast hne, gridL_snoc] at hx
    exact gridStep_len (ih _ (by simp [h])) x hx
/-- a list of ints, as data -/
def li (r : List Int) : PyData := .list (r.map .int)
theorem li_inv {K : PySem.W.Frag} {H : Hp} {v : V} {r : List Int} (h : Da K H v (li r)) : ∃ a, v = .ref a ∧ SqL K H a (r.map V.int) := by
  cases h with
  | lst hs ha =>
    rw [DaAll.ints ha] at hs
    exact ⟨_, rfl, hs⟩
theorem imm_mos (ms : List (List Int)) : immAll (ms.map mo) = true := by
  induction ms with
  | nil => rfl
  | cons m ms ih =>
    show (imm (mo m) && immAll (ms.map mo)) = true
    rw [imm_mo, ih]
    rfl
theorem mo_at {ms : List (List Int)} {i : Nat} {d : PyData} (h : (ms.map mo)[i]? = some d) : ∃ m, ms[i]? = some m ∧ d = mo m := by
  rw [List.getElem?_map] at h
  cases e : ms[i]? with
  | none => rw [e] at h; cases h
  | some n => rw [e] at h; exact ⟨n, rfl, (Option.some.inj h).symm⟩
theorem sz1000 {n : Nat} (h : n ≤ 100000) : n ≤ sizeLine := Nat.le_trans h (by decide)
section
variable {P : Program} {w : World} {K : PySem.W.Frag} {mg : Str → Option Value} {base : Heap}
/-- head + (level,) -/
theorem cat1 {H1 : Hp} {hv : V} {h : List Int} {l : Int} {Q : VK} (hh : Mo K H1 hv h) (hl : h.length ≤ 1000) (k : ∀ y H4, Same H1 H4 → Mo K H4 y (h ++ [l]) → Q y H4) (t : Addr) (ht : H1 t = none) :
    rCatA K hv (.ref t) (upd H1 t (.tup [.int l])) Q := by
  obtain ⟨a, rfl, ha⟩ := hh.inv
  have e1 : Same H1 (upd H1 t (.tup [.int l])) := same_upd ht
  refine ⟨a, t, _, _, rfl, rfl, e1.seqT ha, SqT.of upd_same, sz1000 (by simp; omega), fun z => ?_, fun _ (z : [V.int l] = []) => (nomatch z), fun _ _ p hp => ?_⟩
  · have : h = [] := by simpa using z
    subst this
    exact k _ _ e1 (Mo.of (m := [l]) (upd_same))
  · refine k _ _ (e1.trans (same_upd hp)) (Mo.of (?_))
    rw [upd_same, List.map_append]
    rfl
end
end K11

namespace K11
open PySem PySem.Spec PyProof.Rows L2
/-! ### the order of moments -/
def Le : List Int → List Int → Prop
  | [], [] => True
  | x :: xs, y :: ys => x ≤ y ∧ Le xs ys
  | _, _ => False
theorem Le.len : ∀ {a b : List Int}, Le a b → a.length = b.length
  | [], [], _ => rfl
  | x :: xs, y :: ys, h => congrArg (· + 1) (Le.len h.2)
  | [], _ :: _, h => h.elim
  | _ :: _, [], h => h.elim
theorem leB_cons (x y : Int) (xs ys : List Int) : leB (x :: xs) (y :: ys) = (decide (x ≤ y) && leB xs ys) := rfl
theorem leB_iff : ∀ {a b : List Int}, a.length = b.length → (leB a b = true ↔ Le a b)
  | [], [], _ => ⟨fun _ => True.intro, fun _ => rfl⟩
  | x :: xs, y :: ys, h => by
    rw [leB_cons, Bool.and_eq_true, decide_eq_true_iff, leB_iff (a := xs) (b := ys) (by simpa using h)]
    exact Iff.rfl
  | [], _ :: _, h => nomatch h
  | _ :: _, [], h => nomatch h
theorem Le.refl : ∀ a : List Int, Le a a
  | [] => True.intro
  | x :: xs => ⟨Int.le_refl x, Le.refl xs⟩
theorem Le.trans : ∀ {a b c : List Int}, Le a b → Le b c → Le a c
  | [], [], [], _, _ => True.intro
  | x :: xs, y :: ys, z :: zs, h, k => ⟨Int.le_trans h.1 k.1, Le.trans h.2 k.2⟩
  | [], _ :: _, _, h, _ => h.elim
  | _ :: _, [], _, h, _ => h.elim
  | [], [], _ :: _, _, k => k.elim
  | _ :: _, _ :: _, [], _, k => k.elim
theorem Le.anti : ∀ {a b : List Int}, Le a b → Le b a → a = b
  | [], [], _, _ => rfl
  | x :: xs, y :: ys, h, k => by rw [Int.le_antisymm h.1 k.1, Le.anti h.2 k.2]
  | [], _ :: _, h, _ => h.elim
  | _ :: _, [], h, _ => h.elim
theorem joinL_len {a b : List Int} (h : a.length = b.length) : (joinL a b).length = a.length := by simp [joinL]; omega
theorem meetL_len {a b : List Int} (h : a.length = b.length) : (meetL a b).length = a.length := by simp [meetL]; omega
theorem join_le : ∀ {a b x : List Int}, a.length = b.length → (Le (joinL a b) x ↔ Le a x ∧ Le b x)
  | [], [], [], _ => ⟨fun _ => ⟨True.intro, True.intro⟩, fun _ => True.intro⟩
  | [], [], _ :: _, _ => ⟨fun h => h.elim, fun h => h.1.elim⟩
  | p :: ps, q :: qs, [], _ => ⟨fun h => h.elim, fun h => h.1.elim⟩
  | p :: ps, q :: qs, z :: zs, h => by
    have ih := join_le (a := ps) (b := qs) (x := zs) (by simpa using h)
    show ((if q > p then q else p) ≤ z ∧ Le (joinL ps qs) zs) ↔ (p ≤ z ∧ Le ps zs) ∧ (q ≤ z ∧ Le qs zs)
    rw [ih]
    constructor
    · rintro ⟨h1, h2, h3⟩
      split at h1 <;> exact ⟨⟨by omega, h2⟩, by omega, h3⟩
    · rintro ⟨⟨h1, h2⟩, h3, h4⟩
      exact ⟨by split <;> omega, h2, h4⟩
  | [], _ :: _, _, h => nomatch h
  | _ :: _, [], _, h => nomatch h
theorem le_meet : ∀ {a b x : List Int}, a.length = b.length → (Le x (meetL a b) ↔ Le x a ∧ Le x b)
  | [], [], [], _ => ⟨fun _ => ⟨True.intro, True.intro⟩, fun _ => True.intro⟩
  | [], [], _ :: _, _ => ⟨fun h => h.elim, fun h => h.1.elim⟩
  | p :: ps, q :: qs, [], _ => ⟨fun h => h.elim, fun h => h.1.elim⟩
  | p :: ps, q :: qs, z :: zs, h => by
    have ih := le_meet (a := ps) (b := qs) (x := zs) (by simpa using h)
    show (z ≤ (if q < p then q else p) ∧ Le zs (meetL ps qs)) ↔ (z ≤ p ∧ Le zs ps) ∧ (z ≤ q ∧ Le zs qs)
    rw [ih]
    constructor
    · rintro ⟨h1, h2, h3⟩
      split at h1 <;> exact ⟨⟨by omega, h2⟩, by omega, h3⟩
    · rintro ⟨⟨h1, h2⟩, h3, h4⟩
      exact ⟨by split <;> omega, h2, h4⟩
  | [], _ :: _, _, h => nomatch h
  | _ :: _, [], _, h => nomatch h
theorem le_joinL {a b : List Int} (h : a.length = b.length) : Le a (joinL a b) := ((join_le h).mp (Le.refl _)).1
theorem le_joinR {a b : List Int} (h : a.length = b.length) : Le b (joinL a b) := ((join_le h).mp (Le.refl _)).2
/-! ### moments of the law: n coordinates in [0, BB) -/
def BB : Int := 10000000000000000000000000000000000000000
def Ok (n : Nat) (m : List Int) : Prop := m.length = n ∧ TS.Bd BB m
theorem bd_zip {g : Int → Int → Int} (hg : ∀ x y, g x y = x ∨ g x y = y) : ∀ {a b : List Int}, TS.Bd BB a → TS.Bd BB b → TS.Bd BB (List.zipWith g a b)
  | [], _, _, _ => fun c hc => by simp at hc
  | _ :: _, [], _, _ => fun c hc => by simp at hc
  | x :: xs, y :: ys, ha, hb => fun c hc => by
    rw [List.zipWith_cons_cons] at hc
    rcases List.mem_cons.mp hc with rfl | hc
    · rcases hg x y with e | e
      · rw [e]; exact ha.head
      · rw [e]; exact hb.head
    · exact bd_zip hg ha.tail hb.tail c hc
theorem Ok.join {n : Nat} {a b : List Int} (ha : Ok n a) (hb : Ok n b) : Ok n (joinL a b) := ⟨by rw [joinL_len (by rw [ha.1, hb.1]), ha.1], bd_zip (fun x y => by split <;> simp) ha.2 hb.2⟩
theorem Ok.meet {n : Nat} {a b : List Int} (ha : Ok n a) (hb : Ok n b) : Ok n (meetL a b) := ⟨by rw [meetL_len (by rw [ha.1, hb.1]), ha.1], bd_zip (fun x y => by split <;> simp) ha.2 hb.2⟩
theorem code_le : ∀ {a b : List Int}, Le a b → TS.Bd BB a → TS.Bd BB b → TS.code BB a ≤ TS.code BB b
  | [], [], _, _, _ => Int.le_refl _
  | x :: xs, y :: ys, h, ha, hb => by
    rcases Int.lt_or_eq_of_le h.1 with e | e
    · exact Int.le_of_lt (TS.code_lt h.2.len ha.tail hb.tail e)
    · subst e
      have ih := code_le h.2 ha.tail hb.tail
      have := not_congr (TS.code_same (B := BB) (d := x) h.2.len.symm) |>.mpr (by omega)
      omega
  | [], _ :: _, h, _, _ => h.elim
  | _ :: _, [], h, _, _ => h.elim
theorem code_inj : ∀ {a b : List Int}, a.length = b.length → TS.Bd BB a → TS.Bd BB b → TS.code BB a = TS.code BB b → a = b
  | [], [], _, _, _, _ => rfl
  | x :: xs, y :: ys, h, ha, hb, e => by
    have hl : xs.length = ys.length := by simpa using h
    rcases Int.lt_trichotomy x y with l | l | l
    · have := TS.code_lt hl ha.tail hb.tail l
      omega
    · subst l
      have h1 := (not_congr (TS.code_same (B := BB) (d := x) hl)).mp (by omega)
      have h2 := (not_congr (TS.code_same (B := BB) (d := x) hl.symm)).mp (by omega)
      rw [code_inj hl ha.tail hb.tail (by omega)]
    · have := TS.code_lt hl.symm hb.tail ha.tail l
      omega
  | [], _ :: _, h, _, _, _ => nomatch h
  | _ :: _, [], h, _, _, _ => nomatch h
/-! ### folds -/
def stepL (m : List Int) (d l : List Int) : List Int := meetL d (joinL m l)
def foldL : List (List Int) → List Int → List Int
  | [], m => List.replicate m.length 0
  | l :: ls, m => ls.foldl (stepL m) (joinL m l)
theorem foldl_ok {n : Nat} {m : List Int} (hm : Ok n m) : ∀ {ls : List (List Int)} {d : List Int}, (∀ l ∈ ls, Ok n l) → Ok n d → Ok n (ls.foldl (stepL m) d)
  | [], _, _, hd => hd
  | l :: ls, d, h, hd => foldl_ok (ls := ls) (d := stepL m d l) hm (fun x hx => h x (List.mem_cons_of_mem _ hx)) (hd.meet (hm.join (h l List.mem_cons_self)))
theorem foldL_ok {n : Nat} {m : List Int} {L : List (List Int)} (hm : Ok n m) (h : ∀ l ∈ L, Ok n l) : Ok n (foldL L m) := by
  cases L with
  | nil =>
    refine ⟨by simp [foldL, hm.1], fun c hc => ?_⟩
    rw [(List.mem_replicate.mp hc).2]
    exact ⟨Int.le_refl _, by decide⟩
  | cons l ls => exact foldl_ok (ls := ls) hm (fun x hx => h x (List.mem_cons_of_mem _ hx)) (hm.join (h l List.mem_cons_self))
theorem le_foldl {n : Nat} {m x : List Int} (hm : m.length = n) : ∀ {ls : List (List Int)} {d : List Int}, (∀ l ∈ ls, l.length = n) → d.length = n → (Le x (ls.foldl (stepL m) d) ↔ Le x d ∧ ∀ l ∈ ls, Le x (joinL m l))
  | [], _, _, _ => by simp
  | l :: ls, d, h, hd => by
    have hl := h l List.mem_cons_self
    have hj : (joinL m l).length = n := by rw [joinL_len (by omega)]; exact hm
    have h2 : (stepL m d l).length = n := by unfold stepL; rw [meetL_len (by omega)]; exact hd
    rw [List.foldl_cons, le_foldl hm (fun x hx => h x (List.mem_cons_of_mem _ hx)) h2]
    unfold stepL
    rw [le_meet (by omega)]
    simp only [List.mem_cons, forall_eq_or_imp, and_assoc]
theorem le_fold {n : Nat} {m x : List Int} {L : List (List Int)} (hm : m.length = n) (h : ∀ l ∈ L, l.length = n) (hL : L ≠ []) : Le x (foldL L m) ↔ ∀ l ∈ L, Le x (joinL m l) := by
  cases L with
  | nil => exact absurd rfl hL
  | cons l ls =>
    have hl := h l List.mem_cons_self
    show Le x (ls.foldl (stepL m) (joinL m l)) ↔ _
    rw [le_foldl hm (fun x hx => h x (List.mem_cons_of_mem _ hx)) (by rw [joinL_len (by omega)]; exact hm)]
    simp only [List.mem_cons, forall_eq_or_imp]
theorem fold_ge {n : Nat} {m : List Int} {L : List (List Int)} (hm : m.length = n) (h : ∀ l ∈ L, l.length = n) (hL : L ≠ []) : Le m (foldL L m) :=
  (le_fold hm h hL).mpr fun l hl => le_joinL (by rw [hm, h l hl])
theorem fold_le_join {n : Nat} {m l : List Int} {L : List (List Int)} (hm : m.length = n) (h : ∀ l ∈ L, l.length = n) (hl : l ∈ L) : Le (foldL L m) (joinL m l) :=
  (le_fold hm h (List.ne_nil_of_mem hl)).mp (Le.refl _) l hl
theorem fold_open {n : Nat} {m l : List Int} {L : List (List Int)} (hm : m.length = n) (h : ∀ l ∈ L, l.length = n) (hl : l ∈ L) (hle : Le l m) : foldL L m = m :=
  Le.anti ((fold_le_join hm h hl).trans ((join_le (by rw [hm, h l hl])).mpr ⟨Le.refl _, hle⟩)) (fold_ge hm h (List.ne_nil_of_mem hl))
theorem fold_sees {n : Nat} {m l x : List Int} {L : List (List Int)} (hm : m.length = n) (h : ∀ l ∈ L, l.length = n) (hl : l ∈ L) (hle : Le l x) : Le m x ↔ Le (foldL L m) x :=
  ⟨fun k => (fold_le_join hm h hl).trans ((join_le (by rw [hm, h l hl])).mpr ⟨k, hle⟩), fun k => (fold_ge hm h (List.ne_nil_of_mem hl)).trans k⟩
theorem foldL_len {n : Nat} {m : List Int} {L : List (List Int)} (hm : m.length = n) (h : ∀ l ∈ L, l.length = n) : (foldL L m).length = n := by
  by_cases e : L = []
  · subst e
    simp [foldL, hm]
  · exact ((fold_ge hm h e).len.symm.trans hm)
theorem fold_later {n : Nat} {m : List Int} {A L : List (List Int)} (hm : m.length = n) (hA : ∀ l ∈ A, l.length = n) (h : ∀ l ∈ L, l.length = n) (adv : ∀ l ∈ L, ∃ e ∈ A, Le e l) : foldL L (foldL A m) = foldL L m := by
  have hf : (foldL A m).length = n := foldL_len hm hA
  by_cases e : L = []
  · subst e
    show List.replicate (foldL A m).length (0 : Int) = List.replicate m.length 0
    rw [hf, hm]
  · have hA0 : A ≠ [] := by
      obtain ⟨l, hl⟩ := List.exists_mem_of_ne_nil _ e
      obtain ⟨a, ha, _⟩ := adv l hl
      exact List.ne_nil_of_mem ha
    refine Le.anti ((le_fold hm h e).mpr fun l hl => (fold_le_join hf h hl).trans ?_) ((le_fold hf h e).mpr fun l hl => (fold_le_join hm h hl).trans ?_)
    · obtain ⟨a, ha, hal⟩ := adv l hl
      have hml : m.length = l.length := by rw [hm, h l hl]
      refine (join_le (by rw [hf, h l hl])).mpr ⟨(fold_le_join hm hA ha).trans ((join_le (by rw [hm, hA a ha])).mpr ⟨le_joinL hml, hal.trans (le_joinR hml)⟩), le_joinR hml⟩
    · have hfl : (foldL A m).length = l.length := by rw [hf, h l hl]
      exact (join_le (by rw [hm, h l hl])).mpr ⟨(fold_ge hm hA hA0).trans (le_joinL hfl), le_joinR hfl⟩
theorem meetL_self : ∀ a : List Int, meetL a a = a
  | [] => rfl
  | x :: xs => by
    show (if x < x then x else x) :: meetL xs xs = x :: xs
    rw [meetL_self xs, if_neg (by omega)]
theorem foldLaw {m l : List Int} {ls : List (List Int)} : (l :: ls).foldl (stepL m) (joinL m l) = foldL (l :: ls) m := by
  show ls.foldl (stepL m) (stepL m (joinL m l) l) = ls.foldl (stepL m) (joinL m l)
  unfold stepL
  rw [meetL_self]
/-! ### the minimal ones, ascending -/
def Asc (L : List (List Int)) : Prop := L.Pairwise fun x y => TS.code BB x < TS.code BB y
structure IsL (ms L : List (List Int)) : Prop where
  asc : Asc L
  mem : ∀ x, x ∈ L ↔ x ∈ ms ∧ ∀ y ∈ ms, leB y x = true → y = x
theorem asc_uniq : ∀ {L L' : List (List Int)}, Asc L → Asc L' → (∀ x, x ∈ L ↔ x ∈ L') → L = L'
  | [], [], _, _, _ => rfl
  | [], y :: ys, _, _, h => by
    have := (h y).mpr List.mem_cons_self
    simp at this
  | x :: xs, [], _, _, h => by
    have := (h x).mp List.mem_cons_self
    simp at this
  | x :: xs, y :: ys, a, b, h => by
    have a' := List.pairwise_cons.mp a
    have b' := List.pairwise_cons.mp b
    have e : x = y := by
      rcases List.mem_cons.mp ((h x).mp List.mem_cons_self) with e | e
      · exact e
      · rcases List.mem_cons.mp ((h y).mpr List.mem_cons_self) with e' | e'
        · exact e'.symm
        · have := a'.1 y e'
          have := b'.1 x e
          omega
    subst e
    rw [asc_uniq a'.2 b'.2 fun z => ?_]
    have hz := h z
    rw [List.mem_cons, List.mem_cons] at hz
    constructor
    · intro k
      rcases hz.mp (.inr k) with e | e
      · subst e
        have := a'.1 z k
        omega
      · exact e
    · intro k
      rcases hz.mpr (.inr k) with e | e
      · subst e
        have := b'.1 z k
        omega
      · exact e
theorem IsL.uniq {ms L L' : List (List Int)} (h : IsL ms L) (k : IsL ms L') : L = L' := asc_uniq h.asc k.asc fun x => (h.mem x).trans (k.mem x).symm
theorem IsL.self {ms L : List (List Int)} (h : IsL ms L) : IsL L L := ⟨h.asc, fun x => ⟨fun k => ⟨k, fun y hy e => ((h.mem x).mp k).2 y ((h.mem y).mp hy).1 e⟩, fun k => k.1⟩⟩
/-- the program's way: the ascending ones, each kept if none that is kept is before it -/
structure PF (T F : List (List Int)) : Prop where
  asc : Asc F
  sub : ∀ f ∈ F, f ∈ T
  cov : ∀ x ∈ T, ∃ f ∈ F, leB f x = true
  min : ∀ f ∈ F, ∀ y ∈ T, leB y f = true → y = f
theorem PF.nil : PF [] [] := ⟨.nil, fun _ h => h, fun _ h => by simp at h, fun _ h => by simp at h⟩
theorem leB_refl (x : List Int) : leB x x = true := (leB_iff rfl).mpr (Le.refl x)
section
variable {n : Nat} {T F : List (List Int)} {x : List Int}
theorem PF.later (h : PF T F) (hT : ∀ y ∈ T, Ok n y ∧ TS.code BB y < TS.code BB x) (hx : Ok n x) {f : List Int} (hf : f ∈ F) (e : leB x f = true) : False := by
  obtain ⟨ho, hc⟩ := hT f (h.sub f hf)
  have := code_le ((leB_iff (by rw [hx.1, ho.1])).mp e) hx.2 ho.2
  omega
theorem PF.skip (h : PF T F) (hT : ∀ y ∈ T, Ok n y ∧ TS.code BB y < TS.code BB x) (hx : Ok n x) (k : ∃ f ∈ F, leB f x = true) : PF (T ++ [x]) F := by
  refine ⟨h.asc, fun f hf => List.mem_append_left _ (h.sub f hf), fun y hy => ?_, fun f hf y hy e => ?_⟩
  · rcases List.mem_append.mp hy with hy | hy
    · exact h.cov y hy
    · rw [List.mem_singleton.mp hy]
      exact k
  · rcases List.mem_append.mp hy with hy | hy
    · exact h.min f hf y hy e
    · rw [List.mem_singleton.mp hy] at e
      exact (h.later hT hx hf e).elim
theorem PF.add (h : PF T F) (hT : ∀ y ∈ T, Ok n y ∧ TS.code BB y < TS.code BB x) (hx : Ok n x) (k : ∀ f ∈ F, leB f x = false) : PF (T ++ [x]) (F ++ [x]) := by
  refine ⟨?_, fun f hf => ?_, fun y hy => ?_, fun f hf y hy e => ?_⟩
  · refine List.pairwise_append.mpr ⟨h.asc, by simp, fun a ha b hb => ?_⟩
    rw [List.mem_singleton.mp hb]
    exact (hT a (h.sub a ha)).2
  · rcases List.mem_append.mp hf with hf | hf
    · exact List.mem_append_left _ (h.sub f hf)
    · exact List.mem_append_right _ hf
  · rcases List.mem_append.mp hy with hy | hy
    · obtain ⟨f, hf, e⟩ := h.cov y hy
      exact ⟨f, List.mem_append_left _ hf, e⟩
    · exact ⟨y, List.mem_append_right _ hy, leB_refl y⟩
  · rcases List.mem_append.mp hf with hf | hf
    · rcases List.mem_append.mp hy with hy | hy
      · exact h.min f hf y hy e
      · rw [List.mem_singleton.mp hy] at e
        exact (h.later hT hx hf e).elim
    · have ef := List.mem_singleton.mp hf
      subst ef
      rcases List.mem_append.mp hy with hy | hy
      · obtain ⟨g, hg, e2⟩ := h.cov y hy
        have l1 := (hT g (h.sub g hg)).1.1
        have l2 := (hT y hy).1.1
        have : leB g f = true := (leB_iff (by rw [l1, hx.1])).mpr (((leB_iff (by rw [l1, l2])).mp e2).trans ((leB_iff (by rw [l2, hx.1])).mp e))
        rw [k g hg] at this
        cases this
      · exact List.mem_singleton.mp hy
theorem PF.done {ms : List (List Int)} (h : PF T F) (e : ∀ y, y ∈ T ↔ y ∈ ms) : IsL ms F := by
  refine ⟨h.asc, fun y => ⟨fun hy => ⟨(e y).mp (h.sub y hy), fun z hz k => h.min y hy z ((e z).mpr hz) k⟩, fun ⟨h1, h2⟩ => ?_⟩⟩
  obtain ⟨f, hf, k⟩ := h.cov y ((e y).mpr h1)
  rw [← h2 f ((e f).mp (h.sub f hf)) k]
  exact hf
/-- the law's way -/
structure LF (ms T F : List (List Int)) : Prop where
  asc : Asc F
  mem : ∀ x, x ∈ F ↔ x ∈ T ∧ ∀ y ∈ ms, leB y x = true → y = x
theorem LF.nil {ms : List (List Int)} : LF ms [] [] := ⟨.nil, fun x => by simp⟩
def under (ms : List (List Int)) (x : List Int) : Bool := ms.any fun y => decide (y ≠ x) && leB y x
theorem under_no {ms : List (List Int)} : under ms x = false ↔ ∀ y ∈ ms, leB y x = true → y = x := by
  unfold under
  rw [List.any_eq_false]
  constructor
  · intro h y hy e
    have := h y hy
    rw [e] at this
    simpa using this
  · intro h y hy
    cases e : leB y x with
    | false => simp
    | true => simp [h y hy e]
theorem LF.skip {ms : List (List Int)} (h : LF ms T F) (k : x ∈ F ∨ under ms x = true) : LF ms (T ++ [x]) F := by
  refine ⟨h.asc, fun y => ?_⟩
  rw [h.mem y, List.mem_append, List.mem_singleton]
  constructor
  · rintro ⟨h1, h2⟩
    exact ⟨.inl h1, h2⟩
  · rintro ⟨h1 | h1, h2⟩
    · exact ⟨h1, h2⟩
    · subst h1
      rcases k with k | k
      · exact (h.mem y).mp k
      · rw [under_no.mpr h2] at k
        cases k
theorem LF.add {ms : List (List Int)} (h : LF ms T F) (hT : ∀ y ∈ T, Ok n y ∧ TS.code BB y ≤ TS.code BB x) (hx : Ok n x) (k1 : x ∉ F) (k2 : under ms x = false) : LF ms (T ++ [x]) (F ++ [x]) := by
  refine ⟨List.pairwise_append.mpr ⟨h.asc, by simp, fun a ha b hb => ?_⟩, fun y => ?_⟩
  · rw [List.mem_singleton.mp hb]
    obtain ⟨h1, h2⟩ := hT a ((h.mem a).mp ha).1
    rcases Int.lt_or_eq_of_le h2 with l | l
    · exact l
    · have := code_inj (by rw [h1.1, hx.1]) h1.2 hx.2 l
      subst this
      exact absurd ha k1
  · rw [List.mem_append, List.mem_append, List.mem_singleton, h.mem y]
    constructor
    · rintro (⟨h1, h2⟩ | rfl)
      · exact ⟨.inl h1, h2⟩
      · exact ⟨.inr rfl, under_no.mp k2⟩
    · rintro ⟨h1 | h1, h2⟩
      · exact .inl ⟨h1, h2⟩
      · exact .inr h1
theorem LF.done {ms : List (List Int)} (h : LF ms T F) (e : ∀ y, y ∈ T ↔ y ∈ ms) : IsL ms F := ⟨h.asc, fun y => by rw [h.mem y, e y]⟩
end
/-- each of the later ones stands behind one of the earlier ones -/
def Adv (A L : List (List Int)) : Prop := ∀ l ∈ L, ∃ e ∈ A, Le e l
theorem Adv.refl (A : List (List Int)) : Adv A A := fun l hl => ⟨l, hl, Le.refl l⟩
theorem Adv.trans {A L M : List (List Int)} (h : Adv A L) (k : Adv L M) : Adv A M := fun m hm => by
  obtain ⟨l, hl, e⟩ := k m hm
  obtain ⟨a, ha, e'⟩ := h l hl
  exact ⟨a, ha, e'.trans e⟩
end K11

namespace K11
open PySem PySem.Spec PyProof.Rows L2
section
variable {P : Program} {w : World} {K : PySem.W.Frag} {mg : Str → Option Value} {base : Heap}
theorem d_join_of (B : Bt mg) (T : Top K mg "join_of" sjoin_of ["first", "second"]) : Def P w K mg base "join_of" 1 ["first", "second"] (spM K joinL) := by
  refine mk_def T scjoin_of len2m fun f cdv A outer s H vs Q E hr h => ?_
  obtain ⟨a, b, ns, ms, rfl, ha, hb, hl, hn, q⟩ := h
  refine ⟨_, (pss_one (ps_ret (pe_callTy call_tuple_of (by rfl) B.m_tuple (by decide +kernel) (pa_cons (pe_lc (own := [("left", 2), ("right", 3)]) (g := (gTup K 2 (gCons (gName 2) (gCons (gName 3) gNil)))) (tt := tYes) (te := (tCB yMax (tCons (tVar 2) (tCons (tVar 3) tNil)))) rfl scjoin_of.nd (RZ.pi_zipA (by rfl) B.m_zip (pa_cons (pv 0) (pa_cons (pv 1) pa_nil))) (blkOk_by (own := [("left", 2), ("right", 3)]) (N := Njoin_of) (sc := defScope sjoin_of) (by decide +kernel)) (fun _ _ _ _ _ => (pg_tup rfl (pgs_cons (pg_name (i := 2) scjoin_of.nd rfl (Or.inl rfl)) (pgs_cons (pg_name (i := 3) scjoin_of.nd rfl (Or.inl rfl)) pgs_nil)))) (fun _ _ _ _ _ => pts_nil) (fun _ _ _ _ _ => (pe_callB (call_max2 rfl) (by rfl) B.m_max (by decide +kernel) (pa_cons (pv 2) (pa_cons (pv 3) pa_nil))))) pa_nil)))), ?_⟩
  refine ⟨.ref a, rfl, .ref b, rfl, a, b, _, _, rfl, .inr ⟨ha, hb, fun L hL => ?_⟩⟩
  refine lc_val (walk_zipT (by simpa using hl)) hL (by simp; omega) (fun H1 e => ⟨e.seqT ha, e.seqT hb⟩) ((joinL ns ms).map V.int) (by simp [joinL]; omega) (fun i x H1 H2 Q' hi e y k => ?_) (fun H1 e eL => ?_)
  · obtain ⟨T', x', z', rfl, nT, rfl, hx, hz⟩ := y
    obtain ⟨x1, hx1, rfl⟩ := int_at hx
    obtain ⟨z1, hz1, rfl⟩ := int_at hz
    refine ⟨T', [.int x1, .int z1], rfl, .inl (.inl upd_same), rfl, _, _, rfl, _, _, rfl, rfl, rfl, _, rfl, _, rfl, _, _, rfl, ?_⟩
    exact k _ _ (same_upd nT) (by simp [joinL, List.getElem?_zipWith, hx1, hz1])
  · exact ⟨L, _, rfl, .inl ⟨SqL.of eL, fun p hp => q _ p (e.trans (same_upd hp)) (e.new hp) upd_same⟩⟩
theorem d_meet_of (B : Bt mg) (T : Top K mg "meet_of" smeet_of ["first", "second"]) : Def P w K mg base "meet_of" 1 ["first", "second"] (spM K meetL) := by
  refine mk_def T scmeet_of len2m fun f cdv A outer s H vs Q E hr h => ?_
  obtain ⟨a, b, ns, ms, rfl, ha, hb, hl, hn, q⟩ := h
  refine ⟨_, (pss_one (ps_ret (pe_callTy call_tuple_of (by rfl) B.m_tuple (by decide +kernel) (pa_cons (pe_lc (own := [("left", 2), ("right", 3)]) (g := (gTup K 2 (gCons (gName 2) (gCons (gName 3) gNil)))) (tt := tYes) (te := (tCB yMin (tCons (tVar 2) (tCons (tVar 3) tNil)))) rfl scmeet_of.nd (RZ.pi_zipA (by rfl) B.m_zip (pa_cons (pv 0) (pa_cons (pv 1) pa_nil))) (blkOk_by (own := [("left", 2), ("right", 3)]) (N := Nmeet_of) (sc := defScope smeet_of) (by decide +kernel)) (fun _ _ _ _ _ => (pg_tup rfl (pgs_cons (pg_name (i := 2) scmeet_of.nd rfl (Or.inl rfl)) (pgs_cons (pg_name (i := 3) scmeet_of.nd rfl (Or.inl rfl)) pgs_nil)))) (fun _ _ _ _ _ => pts_nil) (fun _ _ _ _ _ => (pe_callB (call_min2 rfl) (by rfl) B.m_min (by decide +kernel) (pa_cons (pv 2) (pa_cons (pv 3) pa_nil))))) pa_nil)))), ?_⟩
  refine ⟨.ref a, rfl, .ref b, rfl, a, b, _, _, rfl, .inr ⟨ha, hb, fun L hL => ?_⟩⟩
  refine lc_val (walk_zipT (by simpa using hl)) hL (by simp; omega) (fun H1 e => ⟨e.seqT ha, e.seqT hb⟩) ((meetL ns ms).map V.int) (by simp [meetL]; omega) (fun i x H1 H2 Q' hi e y k => ?_) (fun H1 e eL => ?_)
  · obtain ⟨T', x', z', rfl, nT, rfl, hx, hz⟩ := y
    obtain ⟨x1, hx1, rfl⟩ := int_at hx
    obtain ⟨z1, hz1, rfl⟩ := int_at hz
    refine ⟨T', [.int x1, .int z1], rfl, .inl (.inl upd_same), rfl, _, _, rfl, _, _, rfl, rfl, rfl, _, rfl, _, rfl, _, _, rfl, ?_⟩
    exact k _ _ (same_upd nT) (by simp [meetL, List.getElem?_zipWith, hx1, hz1])
  · exact ⟨L, _, rfl, .inl ⟨SqL.of eL, fun p hp => q _ p (e.trans (same_upd hp)) (e.new hp) upd_same⟩⟩
/-! ### the law's own -/
theorem d_law_before (B : Bt mg) (T : Top K mg "_law_before" s_law_before ["one", "two"]) : Def P w K mg base "_law_before" 1 ["one", "two"] (spB K leB) := by
  refine mk_def T sc_law_before len2 fun f cdv A outer s H vs Q E hr h => ?_
  obtain ⟨a, b, ns, ms, rfl, ha, hb, hl, hn, q⟩ := h
  refine ⟨_, (pss_one (ps_ret (pe_callB (cr_all rfl) (by rfl) B.m_all (by decide +kernel) (pa_cons (pe_lc (own := [("k", 2)]) (g := (gName 2)) (tt := tYes) (te := (tOp yLe (tOp (rIxT K) (tVar 0) (tVar 2)) (tOp (rIxT K) (tVar 1) (tVar 2)))) rfl sc_law_before.nd (pi_range1 (by rfl) B.m_range (pa_cons (pe_callB call_len_seq (by rfl) B.m_len PySem.boot_len (pa_cons (pv 0) pa_nil)) pa_nil)) (blkOk_by (own := [("k", 2)]) (N := N_law_before) (sc := defScope s_law_before) (by decide +kernel)) (fun _ _ _ _ _ => (pg_name (i := 2) sc_law_before.nd rfl (Or.inl rfl))) (fun _ _ _ _ _ => pts_nil) (fun _ _ _ _ _ => (pe_cmpR op_le (pe_ix ix_tup (pv 0) (pv 2) (fun _ _ => rfl)) (pe_ix ix_tup (pv 1) (pv 2) (fun _ _ => rfl)) (nomark _)))) pa_nil)))), ?_⟩
  refine ⟨.ref a, rfl, a, _, rfl, .inr ha, _, rfl, by omega, by simp; omega, fun L hL => ?_⟩
  refine lc_val walk_range hL (by simp; omega) (fun H1 e => True.intro) ((leL ns ms).map V.bl) (by simp [leL]; omega) (fun i x H1 H2 Q' hi e y k => ?_) (fun H1 e eL => ?_)
  · obtain ⟨rfl, rfl⟩ := y
    have hi1 : i < ns.length := by simpa using hi
    have hi2 : i < ms.length := by omega
    refine ⟨rfl, .ref a, rfl, _, rfl, a, _, _, .int ns[i], rfl, rfl, e.seqT ha, at_of (j := i) (by omega) (by simp [hi1]), .ref b, rfl, _, rfl, b, _, _, .int ms[i], rfl, rfl, e.seqT hb, at_of (j := i) (by omega) (by simp [hi2]), _, _, rfl, rfl, ?_⟩
    exact k _ _ (Same.refl _) (by simp [leL, List.getElem?_zipWith, hi1, hi2])
  · exact ⟨L, leL ns ms, rfl, SqL.of eL, q H1 e⟩
theorem d_law_join (B : Bt mg) (T : Top K mg "_law_join" s_law_join ["one", "two"]) : Def P w K mg base "_law_join" 1 ["one", "two"] (spM K joinL) := by
  refine mk_def T sc_law_join len2m fun f cdv A outer s H vs Q E hr h => ?_
  obtain ⟨a, b, ns, ms, rfl, ha, hb, hl, hn, q⟩ := h
  refine ⟨_, (pss_one (ps_ret (pe_callTy call_tuple_of (by rfl) B.m_tuple (by decide +kernel) (pa_cons (pe_lc (own := [("k", 2)]) (g := (gName 2)) (tt := tYes) (te := (tCB yMax (tCons (tOp (rIxT K) (tVar 0) (tVar 2)) (tCons (tOp (rIxT K) (tVar 1) (tVar 2)) tNil)))) rfl sc_law_join.nd (pi_range1 (by rfl) B.m_range (pa_cons (pe_callB call_len_seq (by rfl) B.m_len PySem.boot_len (pa_cons (pv 0) pa_nil)) pa_nil)) (blkOk_by (own := [("k", 2)]) (N := N_law_join) (sc := defScope s_law_join) (by decide +kernel)) (fun _ _ _ _ _ => (pg_name (i := 2) sc_law_join.nd rfl (Or.inl rfl))) (fun _ _ _ _ _ => pts_nil) (fun _ _ _ _ _ => (pe_callB (call_max2 rfl) (by rfl) B.m_max (by decide +kernel) (pa_cons (pe_ix ix_tup (pv 0) (pv 2) (fun _ _ => rfl)) (pa_cons (pe_ix ix_tup (pv 1) (pv 2) (fun _ _ => rfl)) pa_nil))))) pa_nil)))), ?_⟩
  refine ⟨.ref a, rfl, a, _, rfl, .inr ha, _, rfl, by omega, by simp; omega, fun L hL => ?_⟩
  refine lc_val walk_range hL (by simp; omega) (fun H1 e => True.intro) ((joinL ns ms).map V.int) (by simp [joinL]; omega) (fun i x H1 H2 Q' hi e y k => ?_) (fun H1 e eL => ?_)
  · obtain ⟨rfl, rfl⟩ := y
    have hi1 : i < ns.length := by simpa using hi
    have hi2 : i < ms.length := by omega
    refine ⟨rfl, .ref a, rfl, _, rfl, a, _, _, .int ns[i], rfl, rfl, e.seqT ha, at_of (j := i) (by omega) (by simp [hi1]), .ref b, rfl, _, rfl, b, _, _, .int ms[i], rfl, rfl, e.seqT hb, at_of (j := i) (by omega) (by simp [hi2]), _, _, rfl, ?_⟩
    exact k _ _ (Same.refl _) (by simp [joinL, List.getElem?_zipWith, hi1, hi2])
  · exact ⟨L, _, rfl, .inl ⟨SqL.of eL, fun p hp => q _ p (e.trans (same_upd hp)) (e.new hp) upd_same⟩⟩
def spIsInt : Sp := fun vs H Q _ => ∃ i : Int, vs = [.int i] ∧ ∀ H', Same H H' → Q (.bl true) H'
theorem d_law_is_integer (B : Bt mg) (T : Top K mg "_law_is_integer" s_law_is_integer ["value"]) : Def P w K mg base "_law_is_integer" 1 ["value"] spIsInt := by
  refine mk_def T sc_law_is_integer (by rintro _ _ _ _ ⟨i, rfl, _⟩; rfl) fun f cdv A outer s H vs Q E hr h => ?_
  obtain ⟨i, rfl, q⟩ := h
  refine ⟨_, (pss_one (ps_ret (pe_and (pe_callB call_isi (by rfl) B.m_isinstance (by decide +kernel) (pa_cons (pv 0) (pa_cons (pe_bltn (v := .ty "int") (by rfl) B.m_int (by decide +kernel) rfl) pa_nil))) (pe_one (pe_not (pe_callB call_isi (by rfl) B.m_isinstance (by decide +kernel) (pa_cons (pv 0) (pa_cons (pe_bltn (v := .ty "bool") (by rfl) B.m_bool (by decide +kernel) rfl) pa_nil)))))))), ?_⟩
  refine ⟨.int i, rfl, _, _, .type "int", .type "int", true, rfl, .ty _, .base (.int i), kit_ty (by decide +kernel), _, rfl, ?_⟩
  refine ⟨.int i, rfl, _, _, .type "int", .type "bool", false, rfl, .ty _, .base (.int i), kit_ty (by decide +kernel), _, rfl, ?_⟩
  exact q H (Same.refl _)
end
end K11

namespace K11
open PySem PySem.Spec PyProof.Rows L2
section
variable {P : Program} {w : World} {K : PySem.W.Frag} {mg : Str → Option Value} {base : Heap}
theorem d_is_number (B : Bt mg) (T : Top K mg "is_number" sis_number ["value"]) : Def P w K mg base "is_number" 1 ["value"] spIsInt := by
  refine mk_def T scis_number (by rintro _ _ _ _ ⟨i, rfl, _⟩; rfl) fun f cdv A outer s H vs Q E hr h => ?_
  obtain ⟨i, rfl, q⟩ := h
  refine ⟨_, (pss_one (ps_ret (pe_and (pe_callB call_isi (by rfl) B.m_isinstance (by decide +kernel) (pa_cons (pv 0) (pa_cons (pe_bltn (v := .ty "int") (by rfl) B.m_int (by decide +kernel) rfl) pa_nil))) (pe_one (pe_not (pe_callB call_isi (by rfl) B.m_isinstance (by decide +kernel) (pa_cons (pv 0) (pa_cons (pe_bltn (v := .ty "bool") (by rfl) B.m_bool (by decide +kernel) rfl) pa_nil)))))))), ?_⟩
  refine ⟨.int i, rfl, _, _, .type "int", .type "int", true, rfl, .ty _, .base (.int i), kit_ty (by decide +kernel), _, rfl, ?_⟩
  refine ⟨.int i, rfl, _, _, .type "int", .type "bool", false, rfl, .ty _, .base (.int i), kit_ty (by decide +kernel), _, rfl, ?_⟩
  exact q H (Same.refl _)
def spCheckAxes : Sp := fun vs H Q _ => ∃ i : Int, vs = [.int i] ∧ 1 ≤ i ∧ i ≤ 4 ∧ ∀ H', Same H H' → Q .non H'
theorem d_check_axes (B : Bt mg) (G_MOST_AXES : ∃ t, mg "MOST_AXES" = some (.int 4 t)) (T : Top K mg "check_axes" scheck_axes ["axes"]) (Dis_number : Def P w K mg base "is_number" 1 ["value"] spIsInt) : Def P w K mg base "check_axes" 2 ["axes"] spCheckAxes := by
  refine mk_def T sccheck_axes (by rintro _ _ _ _ ⟨i, rfl, _⟩; rfl) fun f cdv A outer s H vs Q E hr h => ?_
  obtain ⟨i, rfl, h1, h4, q⟩ := h
  refine ⟨_, (pss_one (ps_if (pw_or (pt_not (pt_val (pe_def Dis_number (hr.mono (by first | decide | omega)) (by rfl) (pa_cons (pv 0) pa_nil)))) (pw_or1 (pt_not (pt_chain op_le op_le pe_int (pv 0) (pe_globI G_MOST_AXES (by rfl)))))).pt (pss_one ps_never) pss_nil)), ?_⟩
  refine ⟨.int i, rfl, i, rfl, fun H1 s1 => ⟨_, rfl, iteF ⟨.int i, rfl, _, _, rfl, rfl, _, rfl, ite2 (fun _ => ⟨_, _, rfl, rfl, _, rfl, ?_⟩) (fun z => absurd (decide_eq_true h1) z)⟩⟩⟩
  rw [decide_eq_true h4]
  exact iteF (q H1 s1)
def spLike : Sp := fun vs H Q _ => ∃ i : Int, vs = [.int i, .int i] ∧ ∀ H', Same H H' → Q .non H'
theorem d_check_like_axes (B : Bt mg) (T : Top K mg "check_like_axes" scheck_like_axes ["left", "right"]) : Def P w K mg base "check_like_axes" 1 ["left", "right"] spLike := by
  refine mk_def T sccheck_like_axes (by rintro _ _ _ _ ⟨i, rfl, _⟩; rfl) fun f cdv A outer s H vs Q E hr h => ?_
  obtain ⟨i, rfl, q⟩ := h
  refine ⟨_, (pss_one (ps_if (pt_cmpR op_ne (pv 0) (pv 1) (nomark _)) (pss_one ps_never) pss_nil)), ?_⟩
  refine ⟨.int i, rfl, .int i, rfl, rfl, _, rfl, ?_⟩
  exact iteNS rfl (q H (Same.refl _))
def spIsMoment (K : PySem.W.Frag) : Sp := fun vs H Q _ => ∃ (v : V) (m : List Int), vs = [v, .int (m.length : Nat)] ∧ Mo K H v m ∧ (∀ c ∈ m, 0 ≤ c) ∧ m.length ≤ 1000 ∧ ∀ H', Same H H' → Q (.bl true) H'
theorem d_is_moment (B : Bt mg) (T : Top K mg "is_moment" sis_moment ["value", "axes"]) (Dis_number : Def P w K mg base "is_number" 1 ["value"] spIsInt) : Def P w K mg base "is_moment" 2 ["value", "axes"] (spIsMoment K) := by
  refine mk_def T scis_moment (by rintro _ _ _ _ ⟨_, _, rfl, _⟩; rfl) fun f cdv A outer s H vs Q E hr h => ?_
  obtain ⟨v, m, rfl, hm, h0, h1, q⟩ := h
  refine ⟨_, (pss_cons (ps_if (pw_or (pt_not (pt_val (pe_callB call_isi (by rfl) B.m_isinstance (by decide +kernel) (pa_cons (pv 0) (pa_cons (pe_bltn (v := .ty "tuple") (by rfl) B.m_tuple (by decide +kernel) rfl) pa_nil))))) (pw_or1 (pt_cmpR op_ne (pe_callB call_len_seq (by rfl) B.m_len PySem.boot_len (pa_cons (pv 0) pa_nil)) (pv 1) (nomark _)))).pt (pss_one (ps_ret pe_bl)) pss_nil)
      (pss_one (ps_ret (pe_callB (cr_all rfl) (by rfl) B.m_all (by decide +kernel) (pa_cons (pe_lc (own := [("coordinate", 2)]) (g := (gName 2)) (tt := tYes) (te := (tAndV (tCall spIsInt [] E0 (tCons (tVar 2) tNil)) (tOp yGe (tVar 2) (tC (.int 0))))) rfl scis_moment.nd (pi_tup (pv 0)) (blkOk_by (own := [("coordinate", 2)]) (N := Nis_moment) (sc := defScope sis_moment) (by decide +kernel)) (fun _ _ _ _ _ => (pg_name (i := 2) scis_moment.nd rfl (Or.inl rfl))) (fun _ _ _ _ _ => pts_nil) (fun _ _ _ _ _ => (pe_and (pe_def Dis_number (hr.mono (by first | decide | omega)) (by rfl) (pa_cons (pv 2) pa_nil)) (pe_one (pe_cmpR op_ge (pv 2) pe_int (nomark _)))))) pa_nil))))), ?_⟩
  obtain ⟨a, rfl, ha⟩ := hm.trk
  refine ⟨.ref a, rfl, _, _, .type "tuple", .type "tuple", true, rfl, .ty _, .base (.tup ha), kit_ty (by decide +kernel), _, rfl, iteF ⟨.ref a, rfl, a, _, rfl, .inr (SqT.of ha), .int (m.length : Nat), rfl, rfl, _, rfl, ?_⟩⟩
  refine iteNS (by simp) ?_
  refine ⟨.ref a, rfl, a, rfl, ⟨_, SqT.of ha⟩, fun D hD => ?_⟩
  refine lc_val (walk_tup (K := K)) hD (by simp; omega) (fun H1 e => e.seqT (SqT.of ha)) (List.replicate m.length (V.bl true)) (by simp) (fun i x H1 H2 Q' hi e y k => ?_) (fun H1 e eD => ?_)
  · obtain ⟨rfl, hx⟩ := y
    obtain ⟨c, hc, rfl⟩ := int_at hx
    refine ⟨rfl, .int c, rfl, c, rfl, fun H3 s3 => ?_⟩
    have hi' : i < m.length := by simpa using hi
    refine ⟨true, rfl, iteT ⟨.int c, rfl, _, _, rfl, rfl, ?_⟩⟩
    refine k _ _ s3 ?_
    have h0c := h0 c (List.mem_of_getElem? hc)
    simp [hi', h0c]
  · refine ⟨D, List.replicate m.length true, rfl, SqL.of (by rw [eD, List.map_replicate]), ?_⟩
    rw [show (List.replicate m.length true).all id = true by simp]
    exact q H1 e
end
end K11

namespace K11
open PySem PySem.Spec PyProof.Rows L2
theorem map_at {α β : Type} {f : α → β} {l : List α} {i : Nat} {y : β} (h : (l.map f)[i]? = some y) : ∃ x, l[i]? = some x ∧ y = f x := by
  rw [List.getElem?_map] at h
  cases e : l[i]? with
  | none => rw [e] at h; cases h
  | some n => rw [e] at h; exact ⟨n, rfl, (Option.some.inj h).symm⟩
/-- a list of moments -/
def MoL (K : PySem.W.Frag) (H : Hp) (v : V) (ms : List (List Int)) : Prop := ∃ a lv, v = .ref a ∧ H a = some (.lst lv) ∧ DaAll K H lv (ms.map mo)
theorem MoL.same {K : PySem.W.Frag} {H H' : Hp} {v : V} {ms : List (List Int)} (h : MoL K H v ms) (e : Same H H') : MoL K H' v ms := by
  obtain ⟨a, lv, rfl, h1, h2⟩ := h
  exact ⟨a, lv, rfl, e _ _ h1, Da.sameAll e _ _ h2⟩
theorem mos_ks {K : PySem.W.Frag} {H : Hp} : ∀ {gv : List V} {ms : List (List Int)}, DaAll K H gv (ms.map mo) → ∃ ks : List (Addr × List Int), gv = ks.map (fun p => V.ref p.1) ∧ ks.map (·.2) = ms ∧ ∀ p ∈ ks, H p.1 = some (.tup (p.2.map V.int))
  | _, [], .nil => ⟨[], rfl, rfl, fun p hp => by simp at hp⟩
  | _, m :: ms, .cons r t => by
    obtain ⟨a, rfl, ha⟩ := Mo.trk r
    obtain ⟨ks, h1, h2, h3⟩ := mos_ks (ms := ms) t
    refine ⟨(a, m) :: ks, by rw [h1]; rfl, by rw [← h2]; rfl, fun p hp => ?_⟩
    rcases List.mem_cons.mp hp with rfl | hp
    · exact ha
    · exact h3 p hp
theorem ks_mos {K : PySem.W.Frag} {H : Hp} : ∀ {ks : List (Addr × List Int)}, (∀ p ∈ ks, H p.1 = some (.tup (p.2.map V.int))) → DaAll K H (ks.map fun p => V.ref p.1) ((ks.map (·.2)).map mo)
  | [], _ => .nil
  | p :: ks, h => .cons (Mo.of (h p List.mem_cons_self)) (ks_mos fun q hq => h q (List.mem_cons_of_mem _ hq))
theorem pf_at {S : List (List Int)} {n : Nat} (h : S.Pairwise fun x y => TS.code BB x ≤ TS.code BB y) (nd : S.Nodup) (ho : ∀ x ∈ S, Ok n x) {i : Nat} {x : List Int} (hx : S[i]? = some x) : ∀ y ∈ S.take i, Ok n y ∧ TS.code BB y < TS.code BB x := by
  intro y hy
  obtain ⟨j, hj⟩ := List.mem_iff_getElem?.mp hy
  rw [List.getElem?_take] at hj
  split at hj
  · rename_i hji
    have hy' : y ∈ S := List.mem_of_getElem? hj
    have hx' : x ∈ S := List.mem_of_getElem? hx
    refine ⟨ho y hy', ?_⟩
    obtain ⟨l1, e1⟩ := List.getElem?_eq_some_iff.mp hj
    obtain ⟨l2, e2⟩ := List.getElem?_eq_some_iff.mp hx
    have hc := List.pairwise_iff_getElem.mp h j i l1 l2 hji
    rw [e1, e2] at hc
    rcases Int.lt_or_eq_of_le hc with l | l
    · exact l
    · have := code_inj (by rw [(ho y hy').1, (ho x hx').1]) (ho y hy').2 (ho x hx').2 l
      subst this
      have := (List.getElem_inj nd).mp (e1.trans e2.symm)
      omega
  · cases hj
theorem TS_len {l D : List (List Int)} (nd : l.Nodup) (h : ∀ x ∈ l, x ∈ D) : l.length ≤ D.length := by
  have := List.Nodup.length_le_of_subset nd h
  exact this
def spMinimal (K : PySem.W.Frag) : Sp := fun vs H Q _ => ∃ (v : V) (n : Nat) (ms : List (List Int)), vs = [v] ∧ MoL K H v ms ∧ (∀ m ∈ ms, Ok n m) ∧ 1 ≤ n ∧ n ≤ 1000 ∧ ms.length ≤ 60 ∧
  ∀ H' d lv L, Same H H' → H d = none → H' d = some (.lst lv) → DaAll K H' lv (L.map mo) → IsL ms L → Q (.ref d) H'
section
variable {P : Program} {w : World} {K : PySem.W.Frag} {mg : Str → Option Value} {base : Heap}
theorem d_minimal (B : Bt mg) (T : Top K mg "minimal" sminimal ["moments"]) (Dbefore : Def P w K mg base "before" 1 ["first", "second"] (spB K leB)) : Def P w K mg base "minimal" 2 ["moments"] (spMinimal K) := by
  refine mk_def T scminimal (by rintro _ _ _ _ ⟨_, _, _, rfl, _⟩; rfl) fun f cdv A outer s H vs Q E hr h => ?_
  obtain ⟨v, n, ms, rfl, ⟨a, lv, rfl, ha, hd⟩, hok, hn1, hn, hms, q⟩ := h
  obtain ⟨ks, rfl, rfl, hk⟩ := mos_ks hd
  refine ⟨_, (pss_cons (ps_set (i := 1) scminimal.nd rfl (Or.inl rfl) (pe_lst pa_nil))
      (pss_cons (ps_for PassesOwn.never rfl (pi_list (pe_callB (cr_sortedT rfl) (by rfl) B.m_sorted (by decide +kernel) (pa_cons (pe_callTy (cr_setOfT rfl (hu64 hr)) (by rfl) B.m_set (by decide +kernel) (pa_cons (pv 0) pa_nil)) pa_nil))) (pg_name (i := 2) scminimal.nd rfl (Or.inr rfl)) (pss_one (ps_if (pt_not (pt_val (pe_callB (cr_any rfl) (by rfl) B.m_any (by decide +kernel) (pa_cons (pe_lc (own := [("low", 3)]) (g := (gName 3)) (tt := tYes) (te := (tCall (spB K leB) [] E0 (tCons (tVar 3) (tCons (tVar 2) tNil)))) rfl scminimal.nd (pi_list (pv 1)) (blkOk_by (own := [("low", 3)]) (N := Nminimal) (sc := defScope sminimal) (by decide +kernel)) (fun _ _ _ _ _ => (pg_name (i := 3) scminimal.nd rfl (Or.inl rfl))) (fun _ _ _ _ _ => pts_nil) (fun _ _ _ _ _ => (pe_def Dbefore (hr.mono (by first | decide | omega)) (by rfl) (pa_cons (pv 3) (pa_cons (pv 2) pa_nil))))) pa_nil)))) (pss_one (ps_expr (pe_bm PySem.F.plainAttrs_list PySem.F.slot_list_append PySem.F.type_list_append mt_append (pv 1) (pa_cons (pv 2) pa_nil)))) pss_nil)))
      (pss_one (ps_ret (pv 1))))), ?_⟩
  refine ⟨Nat.zero_le _, fun Fd hFd => ?_⟩
  have s0 : Same H (upd H Fd (.lst [])) := same_upd hFd
  refine ⟨.ref a, rfl, a, ks, rfl, SqL.of (s0 _ _ ha), fun p hp => SqT.of (s0 _ _ (hk p hp)), by simp at hms; omega, fun a1 L ha1 hsub hcov => ?_⟩
  have s1 : Same H (upd (upd H Fd (.lst [])) a1 (SetTO P w a1 L)) := s0.trans (same_upd ha1)
  refine ⟨a1, L, n, BB, rfl, upd_same, fun p hp => SqT.of (s1 _ _ (hk p (hsub p hp))), hn1, fun p hp => hok _ (List.mem_map.mpr ⟨p, hsub p hp, rfl⟩), fun L' p hperm hnd h64 hpw hp => ?_⟩
  have s2 : Same H (upd (upd (upd H Fd (.lst [])) a1 (SetTO P w a1 L)) p (.lst (L'.map fun q => V.ref q.1))) := s1.trans (same_upd hp)
  have nFa : Fd ≠ a1 := ne_of_none (o := .lst []) upd_same ha1
  have eF1 : upd (upd H Fd (.lst [])) a1 (SetTO P w a1 L) Fd = some (.lst []) := by rw [upd_ne nFa, upd_same]
  have nFp : Fd ≠ p := ne_of_none eF1 hp
  have hS : ∀ x, x ∈ L'.map (·.2) ↔ x ∈ ks.map (·.2) := by
    intro x
    rw [(hperm.map (·.2)).mem_iff]
    constructor
    · intro h
      obtain ⟨p, hp, rfl⟩ := List.mem_map.mp h
      exact List.mem_map.mpr ⟨p, hsub p hp, rfl⟩
    · intro h
      obtain ⟨p, hp, rfl⟩ := List.mem_map.mp h
      exact hcov p hp
  have hokS : ∀ x ∈ L'.map (·.2), Ok n x := fun x hx => hok x ((hS x).mp hx)
  have hpwS : (L'.map (·.2)).Pairwise fun x y => TS.code BB x ≤ TS.code BB y := List.pairwise_map.mpr hpw
  refine ⟨p, rfl, ⟨_, SqL.of upd_same⟩, ?_⟩
  refine for_list (xs := L'.map fun q => V.ref q.1) (fun i σ H' => ∃ y2 y3 fv F, σ = [some (.ref a), some (.ref Fd), y2, y3] ∧ Same H H' ∧ H' p = some (.lst (L'.map fun q => V.ref q.1)) ∧ H' Fd = some (.lst fv) ∧ DaAll K H' fv (F.map mo) ∧ PF ((L'.map (·.2)).take i) F)
    ⟨none, none, [], [], rfl, s2, upd_same, by rw [upd_ne nFp]; exact eF1, .nil, PF.nil⟩ (fun i σ H' _ pv' => ?_) (fun i x σ H' hx pv' => ?_) (fun σ H' pv' => ?_)
  · obtain ⟨_, _, _, _, rfl, _, ep, _⟩ := pv'
    exact SqL.of ep
  · obtain ⟨y2, y3, fv, F, rfl, e, ep, eF, dF, pf⟩ := pv'
    obtain ⟨z, hz, rfl⟩ := map_at hx
    have hzL : z ∈ L := hperm.mem_iff.mp (List.mem_of_getElem? hz)
    have hz2 : (L'.map (·.2))[i]? = some z.2 := by rw [List.getElem?_map, hz]; rfl
    have hoz : Ok n z.2 := hokS _ (List.mem_of_getElem? hz2)
    have hmz : H' z.1 = some (.tup (z.2.map V.int)) := e _ _ (hk z (hsub z hzL))
    have hT := pf_at hpwS hnd hokS hz2
    have htk : (L'.map (·.2)).take (i + 1) = (L'.map (·.2)).take i ++ [z.2] := by rw [List.take_add_one, hz2]; rfl
    have hoF : ∀ f ∈ F, Ok n f := fun f hf => (hT f (pf.sub f hf)).1
    have lF : fv.length = F.length := by simpa using dF.length
    refine ⟨.ref Fd, rfl, Fd, rfl, ⟨_, SqL.of eF⟩, fun D hD => ?_⟩
    have hF60 : F.length ≤ 64 := by
      have h1 : F.Nodup := pf.asc.imp fun h e => by subst e; omega
      have h2 := TS_len h1 (fun f hf => List.mem_of_mem_take (pf.sub f hf))
      simp at h2
      omega
    refine lc_val (walk_list (K := K)) hD (by omega) (fun H1 e => SqL.of (e _ _ eF)) ((F.map fun l => leB l z.2).map V.bl) (by simp [lF]) (fun j y H1 H2 Q' hj e1 y1 k => ?_) (fun H1 e1 eD => ?_)
    · obtain ⟨rfl, hy⟩ := y1
      obtain ⟨d, hd1, hd2⟩ := dF.get hy
      obtain ⟨l, hl, rfl⟩ := mo_at hd1
      obtain ⟨b, rfl, hb⟩ := (Mo.same hd2 e1).inv
      have hol := hoF l (List.mem_of_getElem? hl)
      refine ⟨rfl, .ref b, rfl, .ref z.1, rfl, b, z.1, l, z.2, rfl, hb, SqT.of (e1 _ _ hmz), by rw [hol.1, hoz.1], by rw [hol.1]; exact hn, fun H3 e3 => k _ _ e3 ?_⟩
      simp [hl]
    · refine ⟨D, F.map fun l => leB l z.2, rfl, SqL.of eD, _, rfl, ?_⟩
      refine ite2 (fun zz => ?_) (fun zz => ?_)
      · have hall : ∀ f ∈ F, leB f z.2 = false := by
          intro f hf
          cases e : leB f z.2 with
          | false => rfl
          | true =>
            have : (F.map fun l => leB l z.2).any id = true := List.any_eq_true.mpr ⟨true, List.mem_map.mpr ⟨f, hf, e⟩, rfl⟩
            rw [this] at zz
            cases zz
        have eF1 := e1 _ _ eF
        have st : ST K H1 (upd H1 Fd (.lst (fv ++ [.ref z.1]))) := st_upd eF1 True.intro
        refine ⟨.ref Fd, rfl, .inl ⟨rfl, _, SqL.of eF1⟩, .ref z.1, rfl, Fd, _, _, rfl, rfl, eF1, by rw [lF]; exact Nat.lt_of_le_of_lt hF60 (by decide), ?_⟩
        refine ⟨_, _, fv ++ [.ref z.1], F ++ [z.2], rfl, (e.trans e1).mut hFd, ?_, upd_same, ?_, ?_⟩
        · rw [upd_ne nFp.symm]
          exact e1 _ _ ep
        · rw [List.map_append]
          exact DaAll.snoc (Da.st st _ _ (imm_mo _) (Mo.of (e1 _ _ hmz))) (Da.stAll (e1.st.trans st) _ _ (imm_mos _) dF)
        · rw [htk]
          exact pf.add hT hoz hall
      · have hex : ∃ f ∈ F, leB f z.2 = true := by
          cases e : (F.map fun l => leB l z.2).any id with
          | false => rw [e] at zz; exact absurd rfl zz
          | true =>
            obtain ⟨b, hb, hb2⟩ := List.any_eq_true.mp e
            obtain ⟨f, hf, rfl⟩ := List.mem_map.mp hb
            exact ⟨f, hf, hb2⟩
        refine ⟨_, _, fv, F, rfl, e.trans e1, e1 _ _ ep, e1 _ _ eF, Da.sameAll e1 _ _ dF, ?_⟩
        rw [htk]
        exact pf.skip hT hoz hex
  · obtain ⟨y2, y3, fv, F, rfl, e, ep, eF, dF, pf⟩ := pv'
    rw [List.length_map] at pf
    rw [List.take_of_length_le (by simp)] at pf
    exact ⟨.ref Fd, rfl, q H' Fd fv F e hFd eF dF (pf.done hS)⟩
end
end K11

namespace K11
open PySem PySem.Spec PyProof.Rows L2
/-! ### fronts -/
theorem kal : ¬ (("axes" : Str) = "_lows") := by decide +kernel
def frF (n : Nat) (d : Addr) : List (Str × V) := putF "_lows" (.ref d) (putF "axes" (.int (n : Nat)) [])
theorem frF_axes (n : Nat) (d : Addr) : (frF n d).lookup ("axes" : Str) = some (.int (n : Nat)) := by
  unfold frF
  rw [lookup_putF, if_neg kal, lookup_putF, if_pos rfl]
theorem frF_lows (n : Nat) (d : Addr) : (frF n d).lookup ("_lows" : Str) = some (.ref d) := by
  unfold frF
  rw [lookup_putF, if_pos rfl]
theorem frF_no (n : Nat) (d : Addr) {m : Str} (h1 : ¬ m = "_lows") (h2 : ¬ m = "axes") : (frF n d).lookup m = none := by
  unfold frF
  rw [lookup_putF, if_neg h1, lookup_putF, if_neg h2]
  rfl
/-- the class as the top has made it -/
structure TxF (K : PySem.W.Frag) (C : Addr) : Prop where
  cl : Cls K C
  nA : NoAttr K C "axes"
  nL : NoAttr K C "_lows"
/-- a front stands at v -/
def FrontAt (K : PySem.W.Frag) (C : Addr) (H : Hp) (v : V) (n : Nat) (L : List (List Int)) : Prop :=
  ∃ p dx d lv, v = .ref p ∧ H p = some (.ins C dx (frF n d)) ∧ H d = some (.lst lv) ∧ DaAll K H lv (L.map mo) ∧ (∀ l ∈ L, Ok n l) ∧ L.length ≤ 100
theorem FrontAt.same {K : PySem.W.Frag} {C : Addr} {H H' : Hp} {v : V} {n : Nat} {L : List (List Int)} (h : FrontAt K C H v n L) (e : Same H H') : FrontAt K C H' v n L := by
  obtain ⟨p, dx, d, lv, rfl, h1, h2, h3, r⟩ := h
  exact ⟨p, dx, d, lv, rfl, e _ _ h1, e _ _ h2, Da.sameAll e _ _ h3, r⟩
theorem Ok.pos {n : Nat} {m : List Int} (h : Ok n m) : ∀ c ∈ m, 0 ≤ c := fun c hc => (h.2 c hc).1
def spInit (K : PySem.W.Frag) (C : Addr) : Sp := fun vs H Q _ => ∃ (p dx : Addr) (n : Nat) (v : V) (ms : List (List Int)), vs = [.ref p, .int (n : Nat), v] ∧ H p = some (.ins C dx []) ∧ 1 ≤ n ∧ n ≤ 4 ∧ MoL K H v ms ∧ (∀ m ∈ ms, Ok n m) ∧ ms.length ≤ 60 ∧
  ∀ H' L, SameB p H H' → FrontAt K C H' (.ref p) n L → (∀ q l l', H q = some (.lst l) → FrontAt K C (upd H' q (.lst l')) (.ref p) n L) → IsL ms L → Q .non H'
def spMoments (K : PySem.W.Frag) (C : Addr) : Sp := fun vs H Q _ => ∃ (v : V) (n : Nat) (L : List (List Int)), vs = [v] ∧ FrontAt K C H v n L ∧ ∀ H' d lv, Same H H' → H d = none → H' d = some (.lst lv) → DaAll K H' lv (L.map mo) → Q (.ref d) H'
def spFold (K : PySem.W.Frag) (C : Addr) : Sp := fun vs H Q _ => ∃ (v u : V) (n : Nat) (L : List (List Int)) (m : List Int), vs = [v, u] ∧ FrontAt K C H v n L ∧ Mo K H u m ∧ Ok n m ∧ 1 ≤ n ∧ n ≤ 4 ∧ ∀ H' y, Same H H' → Mo K H' y (foldL L m) → Q y H'
section
variable {P : Program} {w : World} {K : PySem.W.Frag} {mg : Str → Option Value} {base : Heap} {C : Addr}
theorem d_Front_moments (B : Bt mg) (X : TxF K C) (T : TopM K C "moments" "Front.moments" sFront_moments ["self"]) : MethD P w K mg base C "moments" 1 ["self"] (spMoments K C) := by
  refine mk_meth T scFront_moments (by rintro _ _ _ _ ⟨_, _, _, rfl, _⟩; rfl) fun f cdv A outer s H vs Q E hr h => ?_
  obtain ⟨v, n, L, rfl, ⟨p, dx, d, lv, rfl, h1, h2, h3, hL, _⟩, q⟩ := h
  refine ⟨_, (pss_one (ps_ret (pe_callTy call_list_of (by rfl) B.m_list (by decide +kernel) (pa_cons (pe_fld (pv 0) rfl) pa_nil)))), ?_⟩
  refine ⟨.ref p, rfl, p, C, dx, _, _, rfl, h1, X.cl, X.nL, frF_lows n d, d, lv, rfl, .inl (SqL.of h2), fun a ha => ?_⟩
  have e := same_upd (o := .lst lv) ha
  exact q _ a lv e ha upd_same (Da.sameAll e _ _ h3)
end
end K11

namespace K11
open PySem PySem.Spec PyProof.Rows L2
section
variable {P : Program} {w : World} {K : PySem.W.Frag} {mg : Str → Option Value} {base : Heap} {C : Addr}
theorem d_Front_fold (B : Bt mg) (X : TxF K C) (T : TopM K C "fold" "Front.fold" sFront_fold ["self", "moment"]) (Djoin_of : Def P w K mg base "join_of" 1 ["first", "second"] (spM K joinL)) (Dmeet_of : Def P w K mg base "meet_of" 1 ["first", "second"] (spM K meetL)) : MethD P w K mg base C "fold" 2 ["self", "moment"] (spFold K C) := by
  refine mk_meth T scFront_fold (by rintro _ _ _ _ ⟨_, _, _, _, _, rfl, _⟩; rfl) fun f cdv A outer s H vs Q E hr h => ?_
  obtain ⟨v, u, n, L, m, rfl, ⟨p, dx, d, lv, rfl, h1, h2, h3, hL, hL2⟩, hm, hom, hn1, hn, q⟩ := h
  refine ⟨_, (pss_cons (ps_if (pt_not (pt_truth (pe_fld (pv 0) rfl) (fun _ => rfl))) (pss_one (ps_ret (pe_op op_repA (pe_tup (pa_cons pe_int pa_nil)) (pe_fld (pv 0) rfl)))) pss_nil)
      (pss_cons (ps_set (i := 2) scFront_fold.nd rfl (Or.inl rfl) (pe_def Djoin_of (hr.mono (by first | decide | omega)) (by rfl) (pa_cons (pv 1) (pa_cons (pe_ix ix_list (pe_fld (pv 0) rfl) pe_int (fun _ _ => rfl)) pa_nil))))
      (pss_cons (ps_for PassesOwn.never rfl (pi_list (pe_slice sl_list (pe_fld (pv 0) rfl) (po_some pe_int) po_none)) (pg_name (i := 3) scFront_fold.nd rfl (Or.inl rfl)) (pss_one (ps_set (i := 2) scFront_fold.nd rfl (Or.inl rfl) (pe_def Dmeet_of (hr.mono (by first | decide | omega)) (by rfl) (pa_cons (pv 2) (pa_cons (pe_def Djoin_of (hr.mono (by first | decide | omega)) (by rfl) (pa_cons (pv 1) (pa_cons (pv 3) pa_nil))) pa_nil))))))
      (pss_one (ps_ret (pv 2)))))), ?_⟩
  refine ⟨.ref p, rfl, p, C, dx, _, _, rfl, h1, X.cl, X.nL, frF_lows n d, ?_⟩
  cases L with
  | nil =>
    cases h3 with
    | nil =>
      refine ⟨false, .inl ⟨[], SqL.of h2, rfl⟩, iteT ?_⟩
      refine ⟨by show 1 ≤ sizeLine; decide, fun t ht => ⟨.ref p, rfl, p, C, dx, _, _, rfl, same_upd ht _ _ h1, X.cl, X.nA, frF_axes n d, ?_⟩⟩
      have e1 : Same H (upd H t (.tup [.int 0])) := same_upd ht
      have fz : foldL [] m = List.replicate n 0 := by
        show List.replicate m.length (0 : Int) = _
        rw [hom.1]
      by_cases h : n = 1
      · subst h
        refine .inl ⟨t, [.int 0], rfl, rfl, SqT.of upd_same, q _ _ e1 ?_⟩
        rw [fz]
        exact Mo.of (m := [0]) upd_same
      · refine .inr ⟨t, (n : Nat), [.int 0], rfl, rfl, SqT.of upd_same, by simp, by omega, by omega, by simp, fun a ha => q _ _ (e1.trans (same_upd ha)) ?_⟩
        rw [fz]
        refine Mo.of ?_
        rw [upd_same, Int.toNat_natCast, List.map_replicate]
        congr 2
        have : ∀ k : Nat, (List.replicate k [V.int 0]).flatten = List.replicate k (V.int 0) := by
          intro k
          induction k with
          | zero => rfl
          | succ k ih => rw [List.replicate_succ, List.flatten_cons, ih]; rfl
        exact this n
  | cons l ls =>
    cases h3 with
    | cons r0 rt =>
      rename_i v0 vs
      have hol := hL l List.mem_cons_self
      obtain ⟨b, rfl, hb⟩ := hm.inv
      obtain ⟨c, rfl, hc⟩ := Mo.inv r0
      refine ⟨true, .inl ⟨_, SqL.of h2, rfl⟩, iteF ?_⟩
      refine ⟨.ref b, rfl, .ref p, rfl, p, C, dx, _, _, rfl, h1, X.cl, X.nL, frF_lows n d, d, _, 0, .ref c, rfl, rfl, SqL.of h2, atI_nat (j := 0) rfl, b, c, m, l, rfl, hb, hc, by rw [hom.1, hol.1], by rw [hom.1]; omega, fun H1 y s1 ny ey => ?_⟩
      have hy : Mo K H1 (.ref y) (joinL m l) := Mo.of ey
      refine ⟨.ref p, rfl, p, C, dx, _, _, rfl, s1 _ _ h1, X.cl, X.nL, frF_lows n d, 1, rfl, d, _, rfl, SqL.of (s1 _ _ h2), fun z hz => ⟨z, rfl, ⟨_, SqL.of upd_same⟩, ?_⟩⟩
      have s2 : Same H (upd H1 z (.lst (cutV (V.ref c :: vs) (some 1) none))) := s1.trans (same_upd hz)
      have hcut : cutV (V.ref c :: vs) (some 1) none = vs := by
        unfold cutV
        simp [HT.sIx]
      rw [hcut] at s2 ⊢
      refine for_list (xs := vs) (fun i σ H' => ∃ y y3, σ = [some (.ref p), some (.ref b), some y, y3] ∧ Same H H' ∧ H' z = some (.lst vs) ∧ Mo K H' y ((ls.take i).foldl (stepL m) (joinL m l))) ⟨.ref y, none, rfl, s2, upd_same, hy.same (same_upd hz)⟩ (fun i σ H' _ pv' => ?_) (fun i x σ H' hx pv' => ?_) (fun σ H' pv' => ?_)
      · obtain ⟨_, _, rfl, _, ez, _⟩ := pv'
        exact SqL.of ez
      · obtain ⟨y, y3, rfl, e, ez, hy⟩ := pv'
        obtain ⟨dd, hd1, hd2⟩ := DaAll.get rt hx
        obtain ⟨l', hl', rfl⟩ := mo_at hd1
        have hol' := hL l' (List.mem_cons_of_mem _ (List.mem_of_getElem? hl'))
        have hok : Ok n ((ls.take i).foldl (stepL m) (joinL m l)) := foldl_ok hom (fun w hw => hL w (List.mem_cons_of_mem _ (List.mem_of_mem_take hw))) (hom.join hol)
        obtain ⟨g, rfl, hg⟩ := hy.inv
        obtain ⟨k, rfl, hk⟩ := (Mo.same hd2 e).inv
        refine ⟨.ref g, rfl, .ref b, rfl, .ref k, rfl, b, k, m, l', rfl, e.seqT hb, hk, by rw [hom.1, hol'.1], by rw [hom.1]; omega, fun H3 j s3 nj ej => ?_⟩
        refine ⟨g, j, _, _, rfl, s3.seqT hg, SqT.of ej, by rw [hok.1, (hom.join hol').1], by rw [hok.1]; omega, fun H5 j5 s5 nj5 ej5 => ?_⟩
        refine ⟨.ref j5, _, rfl, (e.trans s3).trans s5, s5 _ _ (s3 _ _ ez), Mo.of ?_⟩
        rw [ej5, List.take_add_one, hl']
        simp [stepL]
      · obtain ⟨y, y3, rfl, e, ez, hy⟩ := pv'
        have lv : vs.length = ls.length := by simpa using DaAll.length rt
        rw [lv, List.take_of_length_le (Nat.le_refl _)] at hy
        exact ⟨y, rfl, q H' y e hy⟩
theorem d_Front___init__ (B : Bt mg) (X : TxF K C) (T : TopM K C "__init__" "Front.__init__" sFront___init__ ["self", "axes", "moments"]) (Dcheck_axes : Def P w K mg base "check_axes" 2 ["axes"] spCheckAxes) (Dis_moment : Def P w K mg base "is_moment" 2 ["value", "axes"] (spIsMoment K)) (Dminimal : Def P w K mg base "minimal" 2 ["moments"] (spMinimal K)) : MethD P w K mg base C "__init__" 3 ["self", "axes", "moments"] (spInit K C) := by
  refine mk_meth T scFront___init__ (by rintro _ _ _ _ ⟨_, _, _, _, _, rfl, _⟩; rfl) fun f cdv A outer s H vs Q E hr h => ?_
  obtain ⟨p, dx, n, v, ms, rfl, h1, hn1, hn4, ⟨a, lv, rfl, ha, hd⟩, hok, hms, q⟩ := h
  refine ⟨_, (pss_cons (ps_expr (pe_def Dcheck_axes (hr.mono (by first | decide | omega)) (by rfl) (pa_cons (pv 1) pa_nil)))
      (pss_cons (ps_set (i := 3) scFront___init__.nd rfl (Or.inl rfl) (pe_callTy call_list_of (by rfl) B.m_list (by decide +kernel) (pa_cons (pv 2) pa_nil)))
      (pss_cons (ps_for PassesOwn.never rfl (pi_list (pv 3)) (pg_name (i := 4) scFront___init__.nd rfl (Or.inl rfl)) (pss_one (ps_if (pt_not (pt_val (pe_def Dis_moment (hr.mono (by first | decide | omega)) (by rfl) (pa_cons (pv 4) (pa_cons (pv 1) pa_nil))))) (pss_one ps_never) pss_nil)))
      (pss_cons (ps_fld (pv 0) (pv 1) rfl)
      (pss_one (ps_fld (pv 0) (pe_def Dminimal (hr.mono (by first | decide | omega)) (by rfl) (pa_cons (pv 3) pa_nil)) rfl)))))), ?_⟩
  refine ⟨.int (n : Nat), rfl, (n : Nat), rfl, by omega, by omega, fun H1 s1 => ?_⟩
  refine ⟨.ref a, rfl, a, lv, rfl, .inl (SqL.of (s1 _ _ ha)), fun g hg => ?_⟩
  have s2 : Same H (upd H1 g (.lst lv)) := s1.trans (same_upd hg)
  have dg : DaAll K (upd H1 g (.lst lv)) lv (ms.map mo) := Da.sameAll s2 _ _ hd
  refine ⟨.ref g, rfl, g, rfl, ⟨_, SqL.of upd_same⟩, ?_⟩
  refine for_list (xs := lv) (fun i σ H' => ∃ y4, σ = [some (.ref p), some (.int (n : Nat)), some (.ref a), some (.ref g), y4] ∧ Same (upd H1 g (.lst lv)) H') ⟨none, rfl, Same.refl _⟩ (fun i σ H' _ pv' => ?_) (fun i x σ H' hx pv' => ?_) (fun σ H' pv' => ?_)
  · obtain ⟨_, rfl, e⟩ := pv'
    exact SqL.of (e _ _ upd_same)
  · obtain ⟨y4, rfl, e⟩ := pv'
    obtain ⟨dd, hd1, hd2⟩ := dg.get hx
    obtain ⟨m, hm, rfl⟩ := mo_at hd1
    have hom := hok m (List.mem_of_getElem? hm)
    refine ⟨x, rfl, .int (n : Nat), rfl, x, m, (by rw [hom.1]; rfl), Mo.same hd2 e, hom.pos, by rw [hom.1]; omega, fun H2 s2 => ⟨true, rfl, iteF ⟨_, rfl, e.trans s2⟩⟩⟩
  · obtain ⟨y4, rfl, e⟩ := pv'
    have s3 := s2.trans e
    refine ⟨.int (n : Nat), rfl, .ref p, rfl, p, C, dx, [], rfl, s3 _ _ h1, X.cl, X.nA, (by decide), ?_⟩
    have eg : H' g = some (.lst lv) := e _ _ upd_same
    have ngp : g ≠ p := fun z => by
      subst z
      rw [s3 _ _ h1] at eg
      cases eg
    have st : ST K H' (upd H' p (.ins C dx (putF "axes" (.int (n : Nat)) []))) := st_upd (s3 _ _ h1) True.intro
    refine ⟨.ref g, rfl, .ref g, n, ms, rfl, ⟨g, lv, rfl, (by rw [upd_ne ngp]; exact eg), Da.stAll (e.st.trans st) _ _ (imm_mos _) dg⟩, hok, hn1, by omega, hms, fun H4 d4 lv4 L s4 n4 e4 dd4 il => ?_⟩
    have ep : H4 p = some (.ins C dx (putF "axes" (.int (n : Nat)) [])) := s4 _ _ upd_same
    refine ⟨.ref p, rfl, p, C, dx, _, rfl, ep, X.cl, X.nL, (by show 1 < 1000; decide), ?_⟩
    have nd4 : d4 ≠ p := fun z => by
      subst z
      rw [upd_same] at n4
      cases n4
    have st4 : ST K H4 (upd H4 p (.ins C dx (frF n d4))) := st_upd ep True.intro
    have hlen : L.length ≤ 100 := by
      have h1 : L.Nodup := il.asc.imp fun h e => by subst e; omega
      have h2 := TS_len h1 (fun f hf => ((il.mem f).mp hf).1)
      omega
    have hkeep : ∀ b o, b ≠ p → H b = some o → upd H4 p (.ins C dx (frF n d4)) b = some o := fun b o hb ho => by
      rw [upd_ne hb]
      exact s4 _ _ (by rw [upd_ne hb]; exact s3 _ _ ho)
    have hdd := Da.stAll st4 _ _ (imm_mos _) dd4
    refine q _ L hkeep ⟨p, dx, d4, lv4, rfl, upd_same, (by rw [upd_ne nd4]; exact e4), hdd, fun l hl => hok l ((il.mem l).mp hl).1, hlen⟩ (fun q0 l l' hq => ?_) il
    have nqp : q0 ≠ p := fun z => by
      subst z
      rw [h1] at hq
      cases hq
    have nqd : d4 ≠ q0 := fun z => by
      subst z
      rw [upd_ne nqp, s3 _ _ hq] at n4
      cases n4
    have hq4 := hkeep _ _ nqp hq
    refine ⟨p, dx, d4, lv4, rfl, (by rw [upd_ne nqp.symm, upd_same]; rfl), by rw [upd_ne nqd, upd_ne nd4]; exact e4, Da.stAll (st_upd hq4 True.intro) _ _ (imm_mos _) hdd, fun l hl => hok l ((il.mem l).mp hl).1, hlen⟩
end
end K11

namespace K11
open PySem PySem.Spec PyProof.Rows L2 NSet
/-- a moment and a row -/
abbrev PK := List Int × List Int
/-- changes as data -/
def chD (c : PK × Int) : PyData := .tuple [mo c.1.1, mo c.1.2, .int c.2]
theorem chD_inv {K : PySem.W.Frag} {H : Hp} {v : V} {c : PK × Int} (h : Da K H v (chD c)) : ∃ t y z, v = .ref t ∧ H t = some (.tup [y, z, .int c.2]) ∧ Mo K H y c.1.1 ∧ Mo K H z c.1.2 := by
  cases h with
  | tup hs ha =>
    cases ha with
    | cons h1 t =>
      cases t with
      | cons h2 t =>
        cases t with
        | cons h3 t =>
          cases t
          cases h3
          exact ⟨_, _, _, rfl, hs, h1, h2⟩
theorem chD_of {K : PySem.W.Frag} {H : Hp} {t : Addr} {y z : V} {c : PK × Int} (h : H t = some (.tup [y, z, .int c.2])) (h1 : Mo K H y c.1.1) (h2 : Mo K H z c.1.2) : Da K H (.ref t) (chD c) := .tup h (.cons h1 (.cons h2 (.cons (.int _) .nil)))
theorem imm_chD (c : PK × Int) : imm (chD c) = true := by
  show (imm (mo c.1.1) && (imm (mo c.1.2) && (imm (.int c.2) && true))) = true
  rw [imm_mo, imm_mo]
  rfl
theorem imm_chs (cs : List (PK × Int)) : immAll (cs.map chD) = true := immAll_of fun d hd => by
  obtain ⟨c, _, rfl⟩ := List.mem_map.mp hd
  exact imm_chD c
theorem ch_at {cs : List (PK × Int)} {i : Nat} {d : PyData} (h : (cs.map chD)[i]? = some d) : ∃ c, cs[i]? = some c ∧ d = chD c := by
  rw [List.getElem?_map] at h
  obtain ⟨c, h1, h2⟩ := Option.map_eq_some_iff.mp h
  exact ⟨c, h1, h2.symm⟩
/-- a list of changes -/
def ChL (K : PySem.W.Frag) (H : Hp) (v : V) (cs : List (PK × Int)) : Prop := ∃ a lv, v = .ref a ∧ H a = some (.lst lv) ∧ DaAll K H lv (cs.map chD)
theorem ChL.same {K : PySem.W.Frag} {H H' : Hp} {v : V} {cs : List (PK × Int)} (h : ChL K H v cs) (e : Same H H') : ChL K H' v cs := by
  obtain ⟨a, lv, rfl, h1, h2⟩ := h
  exact ⟨a, lv, rfl, e _ _ h1, Da.sameAll e _ _ h2⟩
/-- what a history may hold -/
def HK (n : Nat) (k : PK) : Prop := Ok n k.1 ∧ k.2.length ≤ 100
/-! ### histories -/
theorem kac : ¬ (("axes" : Str) = "_counts") := by decide +kernel
def hiF (n : Nat) (c : Addr) : List (Str × V) := putF "_counts" (.ref c) (putF "axes" (.int (n : Nat)) [])
theorem hiF_axes (n : Nat) (c : Addr) : (hiF n c).lookup ("axes" : Str) = some (.int (n : Nat)) := by
  unfold hiF
  rw [lookup_putF, if_neg kac, lookup_putF, if_pos rfl]
theorem hiF_c (n : Nat) (c : Addr) : (hiF n c).lookup ("_counts" : Str) = some (.ref c) := by
  unfold hiF
  rw [lookup_putF, if_pos rfl]
theorem hiF_over (n : Nat) (c d : Addr) : putF "_counts" (.ref d) (hiF n c) = hiF n d := by rfl
theorem hiF_no (n : Nat) (c : Addr) {m : Str} (h1 : ¬ m = "_counts") (h2 : ¬ m = "axes") : (hiF n c).lookup m = none := by
  unfold hiF
  rw [lookup_putF, if_neg h1, lookup_putF, if_neg h2]
  rfl
/-- the class as the top has made it -/
structure TxH (K : PySem.W.Frag) (C : Addr) : Prop where
  cl : Cls K C
  nA : NoAttr K C "axes"
  nC : NoAttr K C "_counts"
structure HistR (K : PySem.W.Frag) (w : World) (C : Addr) (H : Hp) (p dx c : Addr) (n : Nat) (T : List (PK × Int)) : Prop where
  ins : H p = some (.ins C dx (hiF n c))
  tal : TalAt pairK K w H c T
  fin : Tl.Fin T
  ok : ∀ q ∈ T, HK n q.1
/-- a history of the tally T stands at v -/
def HistAt (K : PySem.W.Frag) (w : World) (C : Addr) (H : Hp) (v : V) (n : Nat) (T : List (PK × Int)) : Prop := ∃ p dx c, v = .ref p ∧ HistR K w C H p dx c n T
theorem HistAt.same {K : PySem.W.Frag} {w : World} {C : Addr} {H H' : Hp} {v : V} {n : Nat} {T : List (PK × Int)} (h : HistAt K w C H v n T) (e : Same H H') : HistAt K w C H' v n T := by
  obtain ⟨p, dx, c, rfl, r⟩ := h
  exact ⟨p, dx, c, rfl, e _ _ r.ins, r.tal.same e, r.fin, r.ok⟩
theorem tal_upd {E : Kin} {K : PySem.W.Frag} {w : World} {H : Hp} {a p : Addr} {L : List (E.κ × Int)} {o u : HO} (t : TalAt E K w H a L) (n : a ≠ p) (h : H p = some o) (nt : NoTup o) : TalAt E K w (L2.upd H p u) a L := by
  obtain ⟨Lr, h1, h2, h3, h4⟩ := t
  exact ⟨Lr, by rw [upd_ne n]; exact h1, h2.st (st_upd h nt), h3, h4⟩
theorem fin_len {κ : Type} [DecidableEq κ] {T ps : List (κ × Int)} (f : Tl.Fin T) (h : ∀ p ∈ T, p.1 ∈ Tl.keys ps) : T.length ≤ ps.length := by
  have := List.Nodup.length_le_of_subset f.nd (l₂ := Tl.keys ps) fun k hk => by
    obtain ⟨p, hp, rfl⟩ := List.mem_map.mp hk
    exact h p hp
  unfold Tl.keys at this
  rwa [List.length_map, List.length_map] at this
section
variable {P : Program} {w : World} {K : PySem.W.Frag} {mg : Str → Option Value} {base : Heap} {C : Addr}
def spIsRow (K : PySem.W.Frag) : Sp := fun vs H Q _ => ∃ (v : V) (r : List Int), vs = [v] ∧ Mo K H v r ∧ r.length ≤ 1000 ∧ ∀ H', Same H H' → Q (.bl true) H'
theorem d_is_row (B : Bt mg) (T : Top K mg "is_row" sis_row ["value"]) (Dis_number : Def P w K mg base "is_number" 1 ["value"] spIsInt) : Def P w K mg base "is_row" 2 ["value"] (spIsRow K) := by
  refine mk_def T scis_row (by rintro _ _ _ _ ⟨_, _, rfl, _⟩; rfl) fun f cdv A outer s H vs Q E hr h => ?_
  obtain ⟨v, r, rfl, hm, hl, q⟩ := h
  refine ⟨_, (pss_one (ps_ret (pe_and (pe_callB call_isi (by rfl) B.m_isinstance (by decide +kernel) (pa_cons (pv 0) (pa_cons (pe_bltn (v := .ty "tuple") (by rfl) B.m_tuple (by decide +kernel) rfl) pa_nil))) (pe_one (pe_callB (cr_all rfl) (by rfl) B.m_all (by decide +kernel) (pa_cons (pe_lc (own := [("column", 1)]) (g := (gName 1)) (tt := tYes) (te := (tCall spIsInt [] E0 (tCons (tVar 1) tNil))) rfl scis_row.nd (pi_tup (pv 0)) (blkOk_by (own := [("column", 1)]) (N := Nis_row) (sc := defScope sis_row) (by decide +kernel)) (fun _ _ _ _ _ => (pg_name (i := 1) scis_row.nd rfl (Or.inl rfl))) (fun _ _ _ _ _ => pts_nil) (fun _ _ _ _ _ => (pe_def Dis_number (hr.mono (by first | decide | omega)) (by rfl) (pa_cons (pv 1) pa_nil)))) pa_nil)))))), ?_⟩
  obtain ⟨a, rfl, ha⟩ := hm.trk
  refine ⟨.ref a, rfl, _, _, .type "tuple", .type "tuple", true, rfl, .ty _, .base (.tup ha), kit_ty (by decide +kernel), _, rfl, ?_⟩
  refine ⟨.ref a, rfl, a, rfl, ⟨_, SqT.of ha⟩, fun D hD => ?_⟩
  have n0 : (r.map V.int).length = r.length := by simp
  refine lc_val (walk_tup (K := K)) hD (by omega) (fun H2 e => e.seqT (SqT.of ha)) (List.replicate r.length (V.bl true)) (by simp) (fun j y H2 H3 Q' hj e1 y1 k => ?_) (fun H2 e1 eD => ?_)
  · obtain ⟨rfl, hy⟩ := y1
    obtain ⟨c, hc, rfl⟩ := int_at hy
    refine ⟨rfl, .int c, rfl, c, rfl, fun H4 e4 => k _ _ e4 ?_⟩
    rw [n0] at hj
    simp [hj]
  · refine ⟨D, List.replicate r.length true, rfl, SqL.of (by rw [eD, List.map_replicate]), ?_⟩
    rw [show (List.replicate r.length true).all id = true by simp]
    exact q H2 e1
def spCheck (K : PySem.W.Frag) : Sp := fun vs H Q _ => ∃ (v : V) (r : List Int) (i : Int), vs = [v, .int i] ∧ Mo K H v r ∧ r.length ≤ 1000 ∧ ∀ H', Same H H' → Q .non H'
theorem d_check_counted (B : Bt mg) (T : Top K mg "check_counted" scheck_counted ["row", "count"]) (Dis_number : Def P w K mg base "is_number" 1 ["value"] spIsInt) (Dis_row : Def P w K mg base "is_row" 2 ["value"] (spIsRow K)) : Def P w K mg base "check_counted" 3 ["row", "count"] (spCheck K) := by
  refine mk_def T sccheck_counted (by rintro _ _ _ _ ⟨_, _, _, rfl, _⟩; rfl) fun f cdv A outer s H vs Q E hr h => ?_
  obtain ⟨v, r, i, rfl, ha, hl, q⟩ := h
  refine ⟨_, (pss_cons (ps_if (pt_not (pt_val (pe_def Dis_row (hr.mono (by first | decide | omega)) (by rfl) (pa_cons (pv 0) pa_nil)))) (pss_one ps_never) pss_nil)
      (pss_one (ps_if (pt_not (pt_val (pe_def Dis_number (hr.mono (by first | decide | omega)) (by rfl) (pa_cons (pv 1) pa_nil)))) (pss_one ps_never) pss_nil))), ?_⟩
  exact ⟨v, rfl, v, r, rfl, ha, hl, fun H1 s1 => ⟨true, rfl, iteF ⟨.int i, rfl, i, rfl, fun H2 s2 => ⟨true, rfl, iteF (q H2 (s1.trans s2))⟩⟩⟩⟩
def spCheckMoment (K : PySem.W.Frag) : Sp := fun vs H Q _ => ∃ (v : V) (n : Nat) (m : List Int), vs = [v, .int (n : Nat)] ∧ Mo K H v m ∧ Ok n m ∧ n ≤ 1000 ∧ ∀ H', Same H H' → Q .non H'
theorem d_check_moment (B : Bt mg) (T : Top K mg "check_moment" scheck_moment ["moment", "axes"]) (Dis_moment : Def P w K mg base "is_moment" 2 ["value", "axes"] (spIsMoment K)) : Def P w K mg base "check_moment" 3 ["moment", "axes"] (spCheckMoment K) := by
  refine mk_def T sccheck_moment (by rintro _ _ _ _ ⟨_, _, _, rfl, _⟩; rfl) fun f cdv A outer s H vs Q E hr h => ?_
  obtain ⟨v, n, m, rfl, hm, ho, hn, q⟩ := h
  refine ⟨_, (pss_one (ps_if (pt_not (pt_val (pe_def Dis_moment (hr.mono (by first | decide | omega)) (by rfl) (pa_cons (pv 0) (pa_cons (pv 1) pa_nil))))) (pss_one ps_never) pss_nil)), ?_⟩
  exact ⟨v, rfl, .int (n : Nat), rfl, v, m, (by rw [ho.1]; rfl), hm, ho.pos, (by rw [ho.1]; exact hn), fun H1 s1 => ⟨true, rfl, iteF (q H1 s1)⟩⟩
def spHInit (K : PySem.W.Frag) (w : World) (C : Addr) : Sp := fun vs H Q _ => ∃ (p dx : Addr) (n : Nat) (a : Addr) (cs : List (PK × Int)), vs = [.ref p, .int (n : Nat), .ref a] ∧ H p = some (.ins C dx []) ∧ 1 ≤ n ∧ n ≤ 4 ∧ (ChL K H (.ref a) cs ∨ (EmptyT K a ∧ cs = [])) ∧ cs.length ≤ 5000 ∧ (∀ q ∈ cs, HK n q.1) ∧
  ∀ H' c T, SameB p H H' → HistR K w C H' p dx c n T → (∀ k, Tl.cnt T k = Tl.cnt cs k) → (∀ q ∈ T, q.1 ∈ Tl.keys cs) → T.length ≤ cs.length → Q .non H'
theorem d_History_init (B : Bt mg) (X : TxH K C) (T : TopI K C "History.__init__" sHistory___init__ ["self", "axes", "changes"]) (hm : PySem.W.makesIn K C = true) (hk : PySem.W.keepIn K (.ref C) = true) (hg : mg "History" = some (.ref C))
    (Dcheck_axes : Def P w K mg base "check_axes" 2 ["axes"] spCheckAxes) (Dcheck_moment : Def P w K mg base "check_moment" 3 ["moment", "axes"] (spCheckMoment K)) (Dcheck_counted : Def P w K mg base "check_counted" 3 ["row", "count"] (spCheck K)) (Dtally_of : Def P w K mg base "tally_of" 2 ["pairs"] (spTally K w)) : MakeI P w K mg base C "History" 4 ["self", "axes", "changes"] (spHInit K w C) := by
  refine mk_init T scHistory___init__ (by rintro _ _ _ _ ⟨_, _, _, _, _, rfl, _⟩; rfl) hm hk hg fun f cdv A outer s H vs Q E hr h => ?_
  obtain ⟨p, dx, n, a, cs, rfl, h1, hn1, hn4, hps, hn, hw, q⟩ := h
  -- the end, either way
  have fin : ∀ (M : Addr) (H' : Hp) (acc : List V) (y4 y5 y6 : Option V), H M = none → SameB M H H' → H' M = some (.lst acc) → Paired (PairA pairK K H') acc cs →
      (tSeq (sFld K (tVar 0) (tVar 1) "axes") (sFld K (tVar 0) (tCall (spTally K w) [] E0 (tCons (tVar 3) tNil)) "_counts")) { nx := fun _ H' => Q .non H', rt := Q } [some (.ref p), some (.int (n : Nat)), some (.ref a), some (.ref M), y4, y5, y6] H' := by
    intro M H' acc y4 y5 y6 hM e eM hx
    have npM : p ≠ M := ne_of_none h1 hM
    have ep : H' p = some (.ins C dx []) := e _ _ npM h1
    refine ⟨.int (n : Nat), rfl, .ref p, rfl, p, C, dx, [], rfl, ep, X.cl, X.nA, (by decide), ?_⟩
    have st : ST K H' (L2.upd H' p (.ins C dx (putF "axes" (.int (n : Nat)) []))) := st_upd ep True.intro
    refine ⟨.ref M, rfl, pairK, M, acc, cs, rfl, (by rw [upd_ne npM.symm]; exact eM), Paired.mapP hx fun _ _ r => r.st st, hn, fun H3 b T s3 nb tb fb cb kb => ?_⟩
    have ep3 : H3 p = some (.ins C dx (putF "axes" (.int (n : Nat)) [])) := s3 _ _ upd_same
    refine ⟨.ref p, rfl, p, C, dx, _, rfl, ep3, X.cl, X.nC, (by show 1 < 1000; decide), ?_⟩
    have nbp : b ≠ p := fun z => by
      rw [z, upd_same] at nb
      cases nb
    refine q _ b T (fun t u ne ht => ?_) ⟨upd_same, tal_upd tb nbp ep3 True.intro, fb, fun q hq => ?_⟩ cb kb (fin_len fb kb)
    · rw [upd_ne ne]
      exact s3 _ _ (by rw [upd_ne ne]; exact e _ _ (ne_of_none ht hM) ht)
    · obtain ⟨c, hc, ec⟩ := List.mem_map.mp (kb q hq)
      rw [← ec]
      exact hw c hc
  rcases hps with ⟨a', lv, ea, ha, hx⟩ | ⟨ht, rfl⟩
  · cases ea
    refine ⟨_, (pss_cons (ps_expr (pe_def Dcheck_axes (hr.mono (by first | decide | omega)) (by rfl) (pa_cons (pv 1) pa_nil)))
      (pss_cons (ps_set (i := 3) scHistory___init__.nd rfl (Or.inl rfl) (pe_lst pa_nil))
      (pss_cons (ps_for PassesOwn.never rfl (pi_list (pv 2)) (pg_tup rfl (pgs_cons (pg_name (i := 4) scHistory___init__.nd rfl (Or.inl rfl)) (pgs_cons (pg_name (i := 5) scHistory___init__.nd rfl (Or.inl rfl)) (pgs_cons (pg_name (i := 6) scHistory___init__.nd rfl (Or.inl rfl)) pgs_nil)))) (pss_cons (ps_expr (pe_def Dcheck_moment (hr.mono (by first | decide | omega)) (by rfl) (pa_cons (pv 4) (pa_cons (pv 1) pa_nil))))
      (pss_cons (ps_expr (pe_def Dcheck_counted (hr.mono (by first | decide | omega)) (by rfl) (pa_cons (pv 5) (pa_cons (pv 6) pa_nil))))
      (pss_one (ps_expr (pe_bm PySem.F.plainAttrs_list PySem.F.slot_list_append PySem.F.type_list_append mt_append (pv 3) (pa_cons (pe_tup (pa_cons (pe_tup (pa_cons (pv 4) (pa_cons (pv 5) pa_nil))) (pa_cons (pv 6) pa_nil))) pa_nil)))))))
      (pss_cons (ps_fld (pv 0) (pv 1) rfl)
      (pss_one (ps_fld (pv 0) (pe_def Dtally_of (hr.mono (by first | decide | omega)) (by rfl) (pa_cons (pv 3) pa_nil)) rfl)))))), ?_⟩
    refine ⟨.int (n : Nat), rfl, (n : Nat), rfl, by omega, by omega, fun H0 s0 => ?_⟩
    refine ⟨by show 0 ≤ sizeLine; decide, fun M hM => ?_⟩
    have ha0 := s0 _ _ ha
    have naM : a ≠ M := ne_of_none ha0 hM
    have hMH : H M = none := s0.new hM
    have sM : Same H (L2.upd H0 M (.lst [])) := s0.trans (same_upd hM)
    refine ⟨.ref a, rfl, a, rfl, ⟨_, SqL.of (sM _ _ ha)⟩, ?_⟩
    have hl : lv.length = cs.length := by simpa using hx.length
    refine for_list (xs := lv) (fun i σ H' => ∃ y4 y5 y6 acc, σ = [some (.ref p), some (.int (n : Nat)), some (.ref a), some (.ref M), y4, y5, y6] ∧ SameB M H H' ∧ H' M = some (.lst acc) ∧ Paired (PairA pairK K H') acc (cs.take i)) ⟨none, none, none, [], rfl, sM.b, upd_same, .nil⟩ (fun i σ H' _ pv' => ?_) (fun i x σ H' hxi pv' => ?_) (fun σ H' pv' => ?_)
    · obtain ⟨_, _, _, _, rfl, e, _⟩ := pv'
      exact SqL.of (e _ _ naM ha)
    · obtain ⟨y4, y5, y6, acc, rfl, e, eM, hx2⟩ := pv'
      have stH : ST K H H' := fun t us ht => e _ _ (ne_of_none ht hMH) ht
      obtain ⟨d, hd1, hd2⟩ := hx.get hxi
      obtain ⟨c, hc, rfl⟩ := ch_at hd1
      have hcm := List.mem_of_getElem? hc
      obtain ⟨t, y, z, rfl, ht, hy, hz⟩ := chD_inv (Da.st stH _ _ (imm_chD c) hd2)
      obtain ⟨ho, hw2⟩ := hw c hcm
      refine ⟨t, _, rfl, SqT.of ht, rfl, _, _, rfl, _, _, rfl, _, _, rfl, rfl, ?_⟩
      refine ⟨y, rfl, .int (n : Nat), rfl, y, n, c.1.1, rfl, hy, ho, by omega, fun H1 s1 => ?_⟩
      refine ⟨z, rfl, .int c.2, rfl, z, c.1.2, c.2, rfl, Mo.same hz s1, by omega, fun H2 s2 => ?_⟩
      have s12 := s1.trans s2
      have eM2 := s12 _ _ eM
      refine ⟨.ref M, rfl, .inl ⟨rfl, _, SqL.of eM2⟩, y, rfl, z, rfl, by show 2 ≤ sizeLine; decide, fun g hg => ⟨.int c.2, rfl, by show 2 ≤ sizeLine; decide, fun g2 hg2 => ?_⟩⟩
      have e1 : Same H' (L2.upd (L2.upd H2 g (.tup [y, z])) g2 (.tup [.ref g, .int c.2])) := (s12.trans (same_upd hg)).trans (same_upd hg2)
      have eg2 : L2.upd (L2.upd H2 g (.tup [y, z])) g2 (.tup [.ref g, .int c.2]) g2 = some (.tup [.ref g, .int c.2]) := upd_same
      have eg : L2.upd (L2.upd H2 g (.tup [y, z])) g2 (.tup [.ref g, .int c.2]) g = some (.tup [y, z]) := same_upd hg2 _ _ upd_same
      generalize L2.upd (L2.upd H2 g (.tup [y, z])) g2 (.tup [.ref g, .int c.2]) = H3 at e1 eg eg2 ⊢
      have eM3 := e1 _ _ eM
      have l2 : acc.length < sizeLine := by
        rw [plen hx2]
        exact Nat.lt_of_le_of_lt (Nat.le_trans (List.length_take_le' _ _) hn) (by decide)
      have st3 : ST K H3 (L2.upd H3 M (.lst (acc ++ [.ref g2]))) := st_upd eM3 True.intro
      refine ⟨M, _, _, rfl, rfl, eM3, l2, _, _, _, acc ++ [.ref g2], rfl, (e.trans e1.b).trans SameB.upd, upd_same, ?_⟩
      rw [List.take_add_one, hc, Option.toList_some]
      exact psnoc ⟨g2, .ref g, rfl, st3 _ _ eg2, .tup (st3 _ _ eg) (.cons (Mo.st (Mo.same hy e1) st3) (.cons (Mo.st (Mo.same hz e1) st3) .nil))⟩ (Paired.mapP hx2 fun _ _ r => r.st (e1.st.trans st3))
    · obtain ⟨y4, y5, y6, acc, rfl, e, eM, hx2⟩ := pv'
      rw [hl, List.take_length] at hx2
      exact fin M H' acc y4 y5 y6 hMH e eM hx2
  · refine ⟨_, (pss_cons (ps_expr (pe_def Dcheck_axes (hr.mono (by first | decide | omega)) (by rfl) (pa_cons (pv 1) pa_nil)))
      (pss_cons (ps_set (i := 3) scHistory___init__.nd rfl (Or.inl rfl) (pe_lst pa_nil))
      (pss_cons (ps_for PassesOwn.never rfl (pi_tup (pv 2)) (pg_tup rfl (pgs_cons (pg_name (i := 4) scHistory___init__.nd rfl (Or.inl rfl)) (pgs_cons (pg_name (i := 5) scHistory___init__.nd rfl (Or.inl rfl)) (pgs_cons (pg_name (i := 6) scHistory___init__.nd rfl (Or.inl rfl)) pgs_nil)))) (pss_cons (ps_expr (pe_def Dcheck_moment (hr.mono (by first | decide | omega)) (by rfl) (pa_cons (pv 4) (pa_cons (pv 1) pa_nil))))
      (pss_cons (ps_expr (pe_def Dcheck_counted (hr.mono (by first | decide | omega)) (by rfl) (pa_cons (pv 5) (pa_cons (pv 6) pa_nil))))
      (pss_one (ps_expr (pe_bm PySem.F.plainAttrs_list PySem.F.slot_list_append PySem.F.type_list_append mt_append (pv 3) (pa_cons (pe_tup (pa_cons (pe_tup (pa_cons (pv 4) (pa_cons (pv 5) pa_nil))) (pa_cons (pv 6) pa_nil))) pa_nil)))))))
      (pss_cons (ps_fld (pv 0) (pv 1) rfl)
      (pss_one (ps_fld (pv 0) (pe_def Dtally_of (hr.mono (by first | decide | omega)) (by rfl) (pa_cons (pv 3) pa_nil)) rfl)))))), ?_⟩
    refine ⟨.int (n : Nat), rfl, (n : Nat), rfl, by omega, by omega, fun H0 s0 => ?_⟩
    refine ⟨by show 0 ≤ sizeLine; decide, fun M hM => ?_⟩
    refine ⟨.ref a, rfl, a, rfl, ⟨_, ht.seq _⟩, ?_⟩
    refine for_tup (xs := []) (fun i σ H' => σ = [some (.ref p), some (.int (n : Nat)), some (.ref a), some (.ref M), none, none, none] ∧ H' = L2.upd H0 M (.lst [])) ⟨rfl, rfl⟩ (fun i σ H' _ pv' => ht.seq _) (fun i x σ H' hxi pv' => nomatch hxi) (fun σ H' pv' => ?_)
    obtain ⟨rfl, rfl⟩ := pv'
    exact fin M _ [] none none none (s0.new hM) (s0.trans (same_upd hM)).b upd_same .nil
end
end K11

namespace K11
open PySem PySem.Spec PyProof.Rows L2 NSet
/-- the keys of a tally without zeros, told in order -/
theorem told_keys {T : List (PK × Int)} (f : Tl.Fin T) {S : List PK} (hp : S.Perm (Tl.keys T)) (ha : S.Pairwise fun x y => ltK pairK x y = true) : Told pairK (Tl.cnt T) (S.map fun k => (k, Tl.cnt T k)) := by
  refine ⟨fun p hp' => ?_, fun k hk => ?_, List.pairwise_map.mpr ha⟩
  · obtain ⟨k, hk, rfl⟩ := List.mem_map.mp hp'
    obtain ⟨q, hq, rfl⟩ := List.mem_map.mp (hp.mem_iff.mp hk)
    refine ⟨rfl, ?_⟩
    show Tl.cnt T q.1 ≠ 0
    rw [Tl.cnt_in f.nd hq]
    exact f.nz q hq
  · exact List.mem_map.mpr ⟨(k, Tl.cnt T k), List.mem_map.mpr ⟨k, hp.mem_iff.mpr (Tl.cnt_mem hk), rfl⟩, rfl⟩
theorem told_perm {T D : List (PK × Int)} (f : Tl.Fin T) (t : Told pairK (Tl.cnt T) D) : D.Perm T := t.fin.perm f fun k => t.cnt k
theorem pair_inv {K : PySem.W.Frag} {H : Hp} {v : V} {k : PK} (h : Da K H v (pairD k)) : ∃ t y z, v = .ref t ∧ H t = some (.tup [y, z]) ∧ Mo K H y k.1 ∧ Mo K H z k.2 := by
  cases h with
  | tup hs ha =>
    cases ha with
    | cons h1 t =>
      cases t with
      | cons h2 t =>
        cases t
        exact ⟨_, _, _, rfl, hs, h1, h2⟩
theorem pair_of {K : PySem.W.Frag} {H : Hp} {t : Addr} {y z : V} {k : PK} (h : H t = some (.tup [y, z])) (h1 : Mo K H y k.1) (h2 : Mo K H z k.2) : Da K H (.ref t) (pairD k) := .tup h (.cons h1 (.cons h2 .nil))
section
variable {P : Program} {w : World} {K : PySem.W.Frag} {mg : Str → Option Value} {base : Heap} {C : Addr}
def spHot (K : PySem.W.Frag) (w : World) (C : Addr) : Sp := fun vs H Q _ => ∃ (n : Nat) (c : Addr) (T : List (PK × Int)), vs = [.int (n : Nat), .ref c] ∧ 1 ≤ n ∧ n ≤ 4 ∧ TalAt pairK K w H c T ∧ Tl.Fin T ∧ (∀ q ∈ T, HK n q.1) ∧ ∀ H' v, Same H H' → HistAt K w C H' v n T → Q v H'
theorem d_history_of_tally (B : Bt mg) (X : TxH K C) (T : Top K mg "history_of_tally" shistory_of_tally ["axes", "counts"]) (MkHistory : MakeI P w K mg base C "History" 4 ["self", "axes", "changes"] (spHInit K w C)) : Def P w K mg base "history_of_tally" 6 ["axes", "counts"] (spHot K w C) := by
  refine mk_def T schistory_of_tally (by rintro _ _ _ _ ⟨_, _, _, rfl, _⟩; rfl) fun f cdv A outer s H vs Q E hr h => ?_
  obtain ⟨n, c, T, rfl, hn1, hn4, t, fl, hok, q⟩ := h
  refine ⟨_, (pss_cons (ps_set (i := 2) schistory_of_tally.nd rfl (Or.inl rfl) (NSet.pe_makeID MkHistory (hr.mono (by first | decide | omega)) (by rfl) (pa_cons (pv 0) pa_nil)))
      (pss_cons (ps_fld (pv 2) (pv 1) rfl)
      (pss_one (ps_ret (pv 2))))), ?_⟩
  refine fun e0 he => ⟨.int (n : Nat), rfl, fun x dx hx hdx hne => ?_⟩
  obtain ⟨Lr, ec, _⟩ := id t
  have ncx : c ≠ x := ne_of_none ec hx
  refine ⟨x, dx, n, e0, [], rfl, upd_same, hn1, hn4, .inr ⟨he, rfl⟩, Nat.zero_le _, (fun q hq => absurd hq (by simp)), fun H1 c1 T1 e1 r1 _ _ _ => ⟨rfl, ?_⟩⟩
  have s1 : Same H H1 := fun b o ho => by
    refine e1 _ _ (ne_of_none ho hx) ?_
    rw [upd_ne (ne_of_none ho hx), upd_ne (ne_of_none ho hdx)]
    exact ho
  refine ⟨.ref c, rfl, .ref x, rfl, x, C, dx, _, rfl, r1.ins, X.cl, X.nC, by show 2 < 1000; decide, ?_⟩
  refine ⟨.ref x, rfl, q _ _ (s1.mut hx) ⟨x, dx, c, rfl, ?_, tal_upd (t.same s1) ncx r1.ins True.intro, fl, hok⟩⟩
  rw [hiF_over]
  exact upd_same
def spHLen (K : PySem.W.Frag) (w : World) (C : Addr) : Sp := fun vs H Q _ => ∃ (v : V) (n : Nat) (T : List (PK × Int)), vs = [v] ∧ HistAt K w C H v n T ∧ ∀ H', Same H H' → Q (.int (T.length : Nat)) H'
theorem d_History_len (B : Bt mg) (X : TxH K C) (T : TopM K C "__len__" "History.__len__" sHistory___len__ ["self"]) : MethD P w K mg base C "__len__" 1 ["self"] (spHLen K w C) := by
  refine mk_meth T scHistory___len__ (by rintro _ _ _ _ ⟨_, _, _, rfl, _⟩; rfl) fun f cdv A outer s H vs Q E hr h => ?_
  obtain ⟨v, n, T, rfl, ⟨p, dx, c, rfl, r⟩, q⟩ := h
  obtain ⟨Lr, e, R, nd, hl⟩ := r.tal
  refine ⟨_, (pss_one (ps_ret (pe_callB NSet.call_lenV (by rfl) B.m_len PySem.boot_len (pa_cons (pe_fld (pv 0) rfl) pa_nil)))), ?_⟩
  refine ⟨.ref p, rfl, p, C, dx, _, _, rfl, r.ins, X.cl, X.nC, hiF_c n c, c, Lr, rfl, .inl e, R.mem, ?_⟩
  have : Lr.length = T.length := by rw [plen R, ivs_len]
  rw [this]
  exact q H (Same.refl _)
def spHEq (K : PySem.W.Frag) (w : World) (C : Addr) : Sp := fun vs H Q _ => ∃ (v u : V) (n : Nat) (T U : List (PK × Int)), vs = [v, u] ∧ HistAt K w C H v n T ∧ HistAt K w C H u n U ∧ ∀ H' b, Same H H' → (b = true ↔ T.Perm U) → Q (.bl b) H'
theorem d_History_eq {CH : Addr} (B : Bt mg) (X : TxH K CH) (TI : TxI K CH) (mCH : mg "History" = some (.ref CH)) (T : TopM K CH "__eq__" "History.__eq__" sHistory___eq__ ["self", "other"]) : MethD P w K mg base CH "__eq__" 1 ["self", "other"] (spHEq K w CH) := by
  refine mk_meth T scHistory___eq__ (by rintro _ _ _ _ ⟨_, _, _, _, _, rfl, _⟩; rfl) fun f cdv A outer s H vs Q E hr h => ?_
  obtain ⟨v, u, n, T, U, rfl, ⟨p, dx, c, rfl, r⟩, ⟨p', dx', c', rfl, r'⟩, q⟩ := h
  obtain ⟨Lr, e, R, nd, hl⟩ := r.tal
  obtain ⟨Mr, e', R', nd', hl'⟩ := r'.tal
  refine ⟨_, (pss_one (ps_ret (pe_and (pe_callB call_isi (by rfl) B.m_isinstance (by decide +kernel) (pa_cons (pv 1) (pa_cons (pe_glob (v := .ref CH) (by rfl) mCH rfl) pa_nil))) (pe_and (pe_cmpR op_eq (pe_fld (pv 0) rfl) (pe_fld (pv 1) rfl) (nomark _)) (pe_one (pe_cmpR (NSet.op_eqTal (hu24 hr)) (pe_fld (pv 0) rfl) (pe_fld (pv 1) rfl) (nomark _))))))), ?_⟩
  refine ⟨.ref p', rfl, _, _, .ref CH, .ref CH, true, rfl, .own _, .base (.ins r'.ins X.cl TI.ha TI.hn TI.htk TI.hm), kit_self, _, rfl, ?_⟩
  refine ⟨.ref p, rfl, p, CH, dx, _, _, rfl, r.ins, X.cl, X.nA, hiF_axes n c, .ref p', rfl, p', CH, dx', _, _, rfl, r'.ins, X.cl, X.nA, hiF_axes n c', rfl, _, rfl, ?_⟩
  rw [decide_eq_true (rfl : V.int (n : Nat) = V.int (n : Nat))]
  refine ⟨.ref p, rfl, p, CH, dx, _, _, rfl, r.ins, X.cl, X.nC, hiF_c n c, .ref p', rfl, p', CH, dx', _, _, rfl, r'.ins, X.cl, X.nC, hiF_c n c', ?_⟩
  exact ⟨pairK, c, c', T, U, Lr, Mr, rfl, rfl, .inl e, R, .inl e', R', nd, nd', fun b hb => q H b (Same.refl _) hb⟩
def spHSub (K : PySem.W.Frag) (w : World) (C : Addr) : Sp := fun vs H Q _ => ∃ (v u : V) (n : Nat) (T U : List (PK × Int)), vs = [v, u] ∧ HistAt K w C H v n T ∧ HistAt K w C H u n U ∧ 1 ≤ n ∧ n ≤ 4 ∧ T.length + U.length ≤ 2000 ∧
  ∀ H' y R, Same H H' → HistAt K w C H' y n R → (∀ k, Tl.cnt R k = Tl.cnt T k - Tl.cnt U k) → R.length ≤ T.length + U.length → (∀ q ∈ R, q.1 ∈ Tl.keys T ∨ q.1 ∈ Tl.keys U) → Q y H'
theorem cnt_neg {κ : Type} [DecidableEq κ] (L : List (κ × Int)) (k : κ) : Tl.cnt (L.map fun p => (p.1, -p.2)) k = - Tl.cnt L k := by
  induction L with
  | nil => rfl
  | cons p L ih =>
    rw [List.map_cons]
    simp only [Tl.cnt, ih]
    split <;> omega
theorem d_History_sub {CH : Addr} (B : Bt mg) (X : TxH K CH) (TI : TxI K CH) (mCH : mg "History" = some (.ref CH)) (T : TopM K CH "__sub__" "History.__sub__" sHistory___sub__ ["self", "other"])
    (Dcheck_like_axes : Def P w K mg base "check_like_axes" 1 ["left", "right"] spLike) (Dtimes : Def P w K mg base "times" 2 ["counts", "factor"] (spTimes K w)) (Dplus : Def P w K mg base "plus" 2 ["first", "second"] (spPlus K w)) (Dhistory_of_tally : Def P w K mg base "history_of_tally" 6 ["axes", "counts"] (spHot K w CH)) : MethD P w K mg base CH "__sub__" 7 ["self", "other"] (spHSub K w CH) := by
  refine mk_meth T scHistory___sub__ (by rintro _ _ _ _ ⟨_, _, _, _, _, rfl, _⟩; rfl) fun f cdv A outer s H vs Q E hr h => ?_
  obtain ⟨v, u, n, T, U, rfl, ⟨p, dx, c, rfl, r⟩, ⟨p', dx', c', rfl, r'⟩, hn1, hn4, hlen, q⟩ := h
  refine ⟨_, (pss_cons (ps_if (pt_not (pt_val (pe_callB call_isi (by rfl) B.m_isinstance (by decide +kernel) (pa_cons (pv 1) (pa_cons (pe_glob (v := .ref CH) (by rfl) mCH rfl) pa_nil))))) (pss_one ps_never) pss_nil)
      (pss_cons (ps_expr (pe_def Dcheck_like_axes (hr.mono (by first | decide | omega)) (by rfl) (pa_cons (pe_fld (pv 0) rfl) (pa_cons (pe_fld (pv 1) rfl) pa_nil))))
      (pss_one (ps_ret (pe_def Dhistory_of_tally (hr.mono (by first | decide | omega)) (by rfl) (pa_cons (pe_fld (pv 0) rfl) (pa_cons (pe_def Dplus (hr.mono (by first | decide | omega)) (by rfl) (pa_cons (pe_fld (pv 0) rfl) (pa_cons (pe_def Dtimes (hr.mono (by first | decide | omega)) (by rfl) (pa_cons (pe_fld (pv 1) rfl) (pa_cons (pe_un un_neg pe_int) pa_nil))) pa_nil))) pa_nil))))))), ?_⟩
  refine ⟨.ref p', rfl, _, _, .ref CH, .ref CH, true, rfl, .own _, .base (.ins r'.ins X.cl TI.ha TI.hn TI.htk TI.hm), kit_self, _, rfl, ?_⟩
  refine iteF ?_
  refine ⟨.ref p, rfl, p, CH, dx, _, _, rfl, r.ins, X.cl, X.nA, hiF_axes n c, .ref p', rfl, p', CH, dx', _, _, rfl, r'.ins, X.cl, X.nA, hiF_axes n c', (n : Nat), rfl, fun H1 s1 => ?_⟩
  refine ⟨.ref p, rfl, p, CH, dx, _, _, rfl, s1 _ _ r.ins, X.cl, X.nA, hiF_axes n c, ?_⟩
  refine ⟨.ref p, rfl, p, CH, dx, _, _, rfl, s1 _ _ r.ins, X.cl, X.nC, hiF_c n c, ?_⟩
  refine ⟨.ref p', rfl, p', CH, dx', _, _, rfl, s1 _ _ r'.ins, X.cl, X.nC, hiF_c n c', ?_⟩
  refine ⟨1, rfl, pairK, c', U, rfl, r'.tal.same s1, fun H2 b s2 nb tb => ?_⟩
  have ndn : (Tl.keys (U.map fun p => (p.1, -p.2))).Nodup := by
    have e : Tl.keys (U.map fun p => (p.1, -p.2)) = Tl.keys U := by
      unfold Tl.keys
      rw [List.map_map]
      rfl
    rw [e]
    exact r'.fin.nd
  have lnz : (Tl.nzL (U.map fun p => (p.1, -p.2))).length ≤ U.length := by
    refine Nat.le_trans (List.length_filter_le _ _) ?_
    rw [List.length_map]
    exact Nat.le_refl _
  refine ⟨pairK, c, b, T, _, rfl, r.tal.same (s1.trans s2), tb, (by show T.length + (Tl.nzL (U.map fun p => (p.1, -p.2))).length ≤ 5000; omega), fun H3 d R s3 nd' td fd cd kd => ?_⟩
  have kU : ∀ q ∈ R, q.1 ∈ Tl.keys T ∨ q.1 ∈ Tl.keys U := fun q hq => by
    rcases kd q hq with h | h
    · exact .inl h
    · obtain ⟨z, hz, ez⟩ := List.mem_map.mp h
      obtain ⟨y, hy, ey⟩ := List.mem_map.mp (List.mem_filter.mp hz).1
      refine .inr (List.mem_map.mpr ⟨y, hy, ?_⟩)
      rw [← ez, ← ey]
  refine ⟨n, d, R, rfl, hn1, hn4, td, fd, fun q hq => ?_, fun H4 y s4 hy => q H4 y R (((s1.trans s2).trans s3).trans s4) hy (fun k => ?_) ?_ kU⟩
  · rcases kU q hq with h | h
    · obtain ⟨z, hz, ez⟩ := List.mem_map.mp h
      rw [← ez]
      exact r.ok z hz
    · obtain ⟨z, hz, ez⟩ := List.mem_map.mp h
      rw [← ez]
      exact r'.ok z hz
  · rw [cd k, Tl.cnt_nz, cnt_neg]
    omega
  · have := fin_len (ps := T ++ U) fd fun q hq => by
      unfold Tl.keys
      rw [List.map_append]
      exact List.mem_append.mpr (kU q hq)
    rwa [List.length_append] at this
def spChanges (K : PySem.W.Frag) (w : World) (C : Addr) : Sp := fun vs H Q _ => ∃ (v : V) (n : Nat) (T : List (PK × Int)), vs = [v] ∧ HistAt K w C H v n T ∧ ∀ H' a D, Same H H' → H a = none → ChL K H' (.ref a) D → Told pairK (Tl.cnt T) D → Q (.ref a) H'
theorem d_History_changes (B : Bt mg) (X : TxH K C) (T : TopM K C "changes" "History.changes" sHistory_changes ["self"]) : MethD P w K mg base C "changes" 1 ["self"] (spChanges K w C) := by
  refine mk_meth T scHistory_changes (by rintro _ _ _ _ ⟨_, _, _, rfl, _⟩; rfl) fun f cdv A outer s H vs Q E hr h => ?_
  obtain ⟨v, n, T, rfl, ⟨p, dx, c, rfl, r⟩, q⟩ := h
  obtain ⟨Lr, e, R, nd, hl⟩ := r.tal
  refine ⟨_, (pss_one (ps_ret (pe_lc (own := [("moment", 1), ("row", 2)]) (g := (gTup K 2 (gCons (gName 1) (gCons (gName 2) gNil)))) (tt := tYes) (te := (tTup (tCons (tVar 1) (tCons (tVar 2) (tCons (NSet.tDGetV K w (tFld K (tVar 0) "_counts") (tTup (tCons (tVar 1) (tCons (tVar 2) tNil)))) tNil))))) rfl scHistory_changes.nd (pi_list (pe_callB (NSet.cr_sortDV rfl (hu24 hr)) (by rfl) B.m_sorted (by decide +kernel) (pa_cons (pe_fld (pv 0) rfl) pa_nil))) (blkOk_by (own := [("moment", 1), ("row", 2)]) (N := NHistory_changes) (sc := defScope sHistory_changes) (by decide +kernel)) (fun _ _ _ _ _ => (pg_tup rfl (pgs_cons (pg_name (i := 1) scHistory_changes.nd rfl (Or.inl rfl)) (pgs_cons (pg_name (i := 2) scHistory_changes.nd rfl (Or.inl rfl)) pgs_nil)))) (fun _ _ _ _ _ => pts_nil) (fun _ _ _ _ _ => (pe_tup (pa_cons (pv 1) (pa_cons (pv 2) (pa_cons (NSet.pe_dgetV (hu24 hr) (pe_fld (pv 0) rfl) (pe_tup (pa_cons (pv 1) (pa_cons (pv 2) pa_nil))) (fun _ _ => rfl)) pa_nil)))))))), ?_⟩
  refine ⟨.ref p, rfl, p, C, dx, _, _, rfl, r.ins, X.cl, X.nC, hiF_c n c, ?_⟩
  have ds := Rows.das R
  rw [ivs_keys] at ds
  refine ⟨c, Lr, (Tl.keys T).map pairK.enc, rfl, .inl e, ds, sorts_of _, fun l ys M nl pm so dM => ?_⟩
  obtain ⟨S, rfl, pS, aS⟩ := sorted_keys ordPair nd pm so
  have s1 : Same H (L2.upd H l (.lst ys)) := same_upd nl
  have el : L2.upd H l (.lst ys) l = some (.lst ys) := upd_same
  generalize L2.upd H l (.lst ys) = H1 at s1 el dM ⊢
  refine ⟨l, rfl, ⟨_, SqL.of el⟩, fun D hD => ?_⟩
  have lS : S.length ≤ 5000 := by
    rw [pS.length_eq]
    unfold Tl.keys
    rw [List.length_map]
    exact hl
  have ly : ys.length = S.length := by simpa using dM.length
  refine lc_dat (K := K) walk_list hD (by omega) (fun H2 e2 => SqL.of (e2 _ _ el)) ((S.map fun k => (k, Tl.cnt T k)).map chD) (by simp [ly]) (imm_chs _) (fun i x H3 H2 Q' hi e2 y k => ?_) (fun H2 acc e2 eD dD => ?_)
  · obtain ⟨rfl, hy⟩ := y
    obtain ⟨d, hd1, hd2⟩ := dM.get hy
    obtain ⟨k0, hk0, rfl⟩ : ∃ k0, S[i]? = some k0 ∧ d = pairD k0 := by
      rw [List.getElem?_map] at hd1
      obtain ⟨a, b, c⟩ := Option.map_eq_some_iff.mp hd1
      exact ⟨a, b, c.symm⟩
    obtain ⟨t, y, z, rfl, ht, hy', hz⟩ := pair_inv (Da.same e2 _ _ hd2)
    have e02 := s1.trans e2
    have kin : k0 ∈ Tl.keys T := pS.mem_iff.mp (List.mem_of_getElem? hk0)
    refine ⟨t, _, rfl, SqT.of ht, rfl, _, _, rfl, _, _, rfl, rfl, ?_⟩
    refine ⟨rfl, y, rfl, z, rfl, .ref p, rfl, p, C, dx, _, _, rfl, e02 _ _ r.ins, X.cl, X.nC, hiF_c n c, y, rfl, z, rfl, by show 2 ≤ sizeLine; decide, fun g hg => ?_⟩
    have s3 := same_upd (o := .tup [y, z]) hg
    have hk : Da K (L2.upd H2 g (.tup [y, z])) (.ref g) (pairD k0) := pair_of upd_same (Mo.same hy' s3) (Mo.same hz s3)
    have eg := e02.trans s3
    refine ⟨c, .int (Tl.cnt T k0), rfl, ?_, ?_⟩
    · have := dgetA (E := pairK) (.inl (eg _ _ e)) (R.st eg.st) hk
      rw [val_ivs_in nd kin] at this
      exact this
    refine ⟨by show 3 ≤ sizeLine; decide, fun g2 hg2 => ?_⟩
    have s4 := s3.trans (same_upd (o := .tup [y, z, .int (Tl.cnt T k0)]) hg2)
    refine k _ _ (chD (k0, Tl.cnt T k0)) s4 ?_ (chD_of upd_same (Mo.same hy' s4) (Mo.same hz s4))
    simp [hk0]
  · exact q H2 D _ (s1.trans e2) (s1.new hD) ⟨D, acc, rfl, eD, dD⟩ (told_keys r.fin pS aS)
end
end K11

namespace K11
open PySem PySem.Spec PyProof.Rows L2
/-- the box that numbers are drawn from -/
def PotAt (H : Hp) (p : Addr) : Prop := ∃ a b c : Int, H p = some (.lst [.int a, .int b, .int c]) ∧ 0 ≤ a ∧ 0 ≤ b ∧ 0 ≤ c
theorem PotAt.there {H : Hp} {p : Addr} (h : PotAt H p) : ∃ o, H p = some o := let ⟨_, _, _, e, _⟩ := h; ⟨_, e⟩
theorem PotAt.same {H H' : Hp} {p : Addr} (h : PotAt H p) (e : Same H H') : PotAt H' p := let ⟨a, b, c, e1, r⟩ := h; ⟨a, b, c, e _ _ e1, r⟩
theorem PotAt.ne {H : Hp} {p q : Addr} (h : PotAt H p) (n : H q = none) : p ≠ q := let ⟨_, _, _, e, _⟩ := h; ne_of_none e n
theorem PotAt.upd {H : Hp} {p q : Addr} {o : HO} (h : PotAt H p) (n : p ≠ q) : PotAt (L2.upd H q o) p := let ⟨a, b, c, e1, r⟩ := h; ⟨a, b, c, by rw [upd_ne n]; exact e1, r⟩
theorem SameB.potst {K : PySem.W.Frag} {H H' : Hp} {p : Addr} (e : SameB p H H') (pt : PotAt H p) : ST K H H' := by
  obtain ⟨_, _, _, ep, _⟩ := pt
  exact SameB.st e ep True.intro
theorem Mo.sameB {K : PySem.W.Frag} {H H' : Hp} {v : V} {m : List Int} {p : Addr} (h : Mo K H v m) (e : SameB p H H') (pt : PotAt H p) : Mo K H' v m := Mo.st h (SameB.potst e pt)
def GH : Int := 10000000000000000000000000000000
section
variable {P : Program} {w : World} {K : PySem.W.Frag} {mg : Str → Option Value} {base : Heap}
def spCell (K : PySem.W.Frag) : Sp := fun vs H Q _ => ∃ (a : Addr) (ns : List Int) (k : Nat), vs = [.ref a, .int (k : Nat)] ∧ SqL K H a (ns.map V.int) ∧ k < 1000 ∧ ∀ H' r, Same H H' → Q (.int r) H'
theorem d_law_cell (B : Bt mg) (T : Top K mg "_law_cell" s_law_cell ["script", "k"]) : Def P w K mg base "_law_cell" 1 ["script", "k"] (spCell K) := by
  refine mk_def T sc_law_cell (by rintro _ _ _ _ ⟨_, _, _, rfl, _⟩; rfl) fun f cdv A outer s H vs Q E hr h => ?_
  obtain ⟨a, ns, k, rfl, ha, hk, q⟩ := h
  refine ⟨_, (pss_cons (ps_if (pt_cmpR op_lt (pv 1) (pe_callB call_len_seq (by rfl) B.m_len PySem.boot_len (pa_cons (pv 0) pa_nil)) (nomark _)) (pss_one (ps_ret (pe_ix ix_list (pv 0) (pv 1) (fun _ _ => rfl)))) pss_nil)
      (pss_one (ps_ret (pe_op op_add (pe_op op_mod (pe_callTy call_int1 (by rfl) B.m_int (by decide +kernel) (pa_cons (pe_callB (cr_sum rfl) (by rfl) B.m_sum (by decide +kernel) (pa_cons (pe_slice sl_list (pv 0) po_none (po_some pe_int)) pa_nil)) pa_nil)) pe_int) (pe_op op_mul pe_int (pe_op op_add (pv 1) pe_int)))))), ?_⟩
  refine ⟨.int (k : Nat), rfl, .ref a, rfl, a, _, rfl, .inl ha, _, _, rfl, rfl, _, rfl, ite2 (fun z => ?_) (fun z => ?_)⟩
  · have hlt : k < ns.length := by
      have := of_decide_eq_true z
      rw [List.length_map] at this
      omega
    exact ⟨.ref a, rfl, .int (k : Nat), rfl, a, _, (k : Nat), .int ns[k], rfl, rfl, ha, atI_nat (j := k) (by simp [hlt]), q H _ (Same.refl _)⟩
  · refine ⟨.ref a, rfl, 1, rfl, a, _, rfl, ha, fun z hz => ?_⟩
    have hc : cutV (ns.map V.int) none (some 1) = (ns.take 1).map V.int := by
      unfold cutV
      cases ns <;> simp [HT.sIx]
    refine ⟨z, ns.take 1, rfl, by rw [hc]; exact SqL.of upd_same, ?_⟩
    refine .inl ⟨_, rfl, _, _, rfl, rfl, (by show (0:Int) < _; decide), .int (k : Nat), rfl, _, _, rfl, rfl, _, _, rfl, rfl, .inl ⟨by decide, by decide⟩, _, _, rfl, rfl, ?_⟩
    exact q _ _ (same_upd hz)
def spBox : Sp := fun vs H Q _ => ∃ i : Int, vs = [.int i] ∧ ∀ H' p, Same H H' → H p = none → PotAt H' p → Q (.ref p) H'
theorem d_law_box (B : Bt mg) (T : Top K mg "_law_box" s_law_box ["cell"]) : Def P w K mg base "_law_box" 1 ["cell"] spBox := by
  refine mk_def T sc_law_box (by rintro _ _ _ _ ⟨_, rfl, _⟩; rfl) fun f cdv A outer s H vs Q E hr h => ?_
  obtain ⟨i, rfl, q⟩ := h
  refine ⟨_, (pss_cons (ps_if (pt_cmpR op_ge (pv 0) (pe_op op_pow pe_int pe_int) (nomark _)) (pss_one (ps_ret (pe_lst (pa_cons (pv 0) (pa_cons (pe_op op_mod (pe_callTy call_int1 (by rfl) B.m_int (by decide +kernel) (pa_cons (pv 0) pa_nil)) pe_int) (pa_cons pe_int pa_nil)))))) pss_nil)
      (pss_one (ps_ret (pe_lst (pa_cons pe_int (pa_cons (pe_op op_mod (pe_callTy call_int1 (by rfl) B.m_int (by decide +kernel) (pa_cons (pv 0) pa_nil)) pe_int) (pa_cons pe_int pa_nil))))))), ?_⟩
  refine ⟨.int i, rfl, _, _, rfl, rfl, ⟨by decide, by decide, by decide⟩, _, _, rfl, rfl, _, rfl, ite2 (fun z => ?_) (fun z => ?_)⟩
  · have hc2 : (10 : Int) ^ (18 : Int).toNat ≤ i := of_decide_eq_true z
    have h18 : (0 : Int) ≤ (10 : Int) ^ (18 : Int).toNat := by decide
    refine ⟨.int i, rfl, .int i, rfl, .inl ⟨_, rfl, _, _, rfl, rfl, (by show (0:Int) < _; decide), by show 3 ≤ sizeLine; decide, fun p hp => ?_⟩⟩
    exact q _ p (same_upd hp) hp ⟨_, _, _, upd_same, by omega, Int.emod_nonneg _ (by decide), by decide⟩
  · refine ⟨.int i, rfl, .inl ⟨_, rfl, _, _, rfl, rfl, (by show (0:Int) < _; decide), by show 3 ≤ sizeLine; decide, fun p hp => ?_⟩⟩
    exact q _ p (same_upd hp) hp ⟨_, _, _, upd_same, by decide, Int.emod_nonneg _ (by decide), by decide⟩
def spDraw (K : PySem.W.Frag) : Sp := fun vs H Q _ => ∃ (p : Addr) (n : Int), vs = [.ref p, .int n] ∧ PotAt H p ∧ 0 < n ∧ n ≤ 1000000000000000000000000000000 ∧ ∀ H' r, SameB p H H' → PotAt H' p → 0 ≤ r → r < n → Q (.int r) H'
theorem d_law_draw (B : Bt mg) (T : Top K mg "_law_draw" s_law_draw ["box", "many"]) : Def P w K mg base "_law_draw" 1 ["box", "many"] (spDraw K) := by
  refine mk_def T sc_law_draw (by rintro _ _ _ _ ⟨p, n, rfl, _⟩; rfl) fun f cdv A outer s H vs Q E hr h => ?_
  obtain ⟨p, n, rfl, ⟨pa, pb, pc, ep, h1, h2, h3⟩, hn, hn2, q⟩ := h
  have hdiv : ∀ x : Int, CDivW x n := fun x => wide_div (b := 110) hn (by omega) (by decide) (by decide)
  refine ⟨_, (pss_cons (ps_asg (pe_op op_add (pe_ix ix_list (pv 0) pe_int (fun _ _ => rfl)) pe_int) (pg_sub (pv 0) pe_int set_list))
      (pss_cons (ps_if (pt_cmpR op_gt (pe_ix ix_list (pv 0) pe_int (fun _ _ => rfl)) pe_int (nomark _)) (pss_cons (ps_set (i := 2) sc_law_draw.nd rfl (Or.inl rfl) (pe_op op_mod (pe_callTy call_int1 (by rfl) B.m_int (by decide +kernel) (pa_cons (pe_ix ix_list (pv 0) pe_int (fun _ _ => rfl)) pa_nil)) (pv 1)))
      (pss_cons (ps_asg (pe_op op_fdivW (pe_ix ix_list (pv 0) pe_int (fun _ _ => rfl)) (pv 1)) (pg_sub (pv 0) pe_int set_list))
      (pss_one (ps_ret (pv 2))))) pss_nil)
      (pss_cons (ps_set (i := 3) sc_law_draw.nd rfl (Or.inl rfl) (pe_op op_mod (pe_callTy call_int1 (by rfl) B.m_int (by decide +kernel) (pa_cons (pe_op op_add (pe_op op_mul (pe_ix ix_list (pv 0) pe_int (fun _ _ => rfl)) pe_int) (pe_op op_mul (pe_ix ix_list (pv 0) pe_int (fun _ _ => rfl)) pe_int)) pa_nil)) pe_int))
      (pss_cons (ps_set (i := 4) sc_law_draw.nd rfl (Or.inl rfl) (pe_op op_mod (pe_callTy call_int1 (by rfl) B.m_int (by decide +kernel) (pa_cons (pe_op op_add (pe_op op_mul (pe_op op_add (pe_op op_fdivW (pv 3) pe_int) pe_int) (pe_op op_add (pe_op op_mod (pe_callTy call_int1 (by rfl) B.m_int (by decide +kernel) (pa_cons (pv 3) pa_nil)) pe_int) pe_int)) (pe_op op_mul (pe_ix ix_list (pv 0) pe_int (fun _ _ => rfl)) pe_int)) pa_nil)) pe_int))
      (pss_one (ps_ret (pe_op op_mod (pe_callTy call_int1 (by rfl) B.m_int (by decide +kernel) (pa_cons (pe_op op_fdivW (pv 4) pe_int) pa_nil)) (pv 1)))))))), ?_⟩
  refine ⟨.ref p, rfl, p, _, 2, .int pc, rfl, rfl, SqL.of ep, atI_nat (j := 2) rfl, _, _, rfl, rfl, .ref p, rfl, p, _, 2, 2, rfl, rfl, ep, rfl, ?_⟩
  have e1 : upd H p (.lst ([V.int pa, .int pb, .int pc].set 2 (.int (pc + 1)))) p = some (.lst [.int pa, .int pb, .int (pc + 1)]) := upd_same
  have s1 : SameB p H (upd H p (.lst ([V.int pa, .int pb, .int pc].set 2 (.int (pc + 1))))) := SameB.upd
  generalize upd H p (.lst ([V.int pa, .int pb, .int pc].set 2 (.int (pc + 1)))) = H1 at e1 s1 ⊢
  refine ⟨.ref p, rfl, p, _, 0, .int pa, rfl, rfl, SqL.of e1, atI_nat (j := 0) rfl, _, _, rfl, rfl, _, rfl, ite2 (fun z => ?_) (fun z => ?_)⟩
  · refine ⟨.ref p, rfl, p, _, 0, .int pa, rfl, rfl, SqL.of e1, atI_nat (j := 0) rfl, .inl ⟨_, rfl, .int n, rfl, _, _, rfl, rfl, hn, ?_⟩⟩
    refine ⟨.ref p, rfl, p, _, 0, .int pa, rfl, rfl, SqL.of e1, atI_nat (j := 0) rfl, .int n, rfl, _, _, rfl, rfl, hdiv _, .ref p, rfl, p, _, 0, 0, rfl, rfl, e1, rfl, ?_⟩
    refine ⟨_, rfl, q _ _ (s1.trans SameB.upd) ⟨_, pb, pc + 1, upd_same, Int.ediv_nonneg h1 (Int.le_of_lt hn), h2, by omega⟩ (Int.emod_nonneg _ (by omega)) (Int.emod_lt_of_pos _ hn)⟩
  · refine ⟨.ref p, rfl, p, _, 1, .int pb, rfl, rfl, SqL.of e1, atI_nat (j := 1) rfl, _, _, rfl, rfl, .inr ⟨by decide, by decide⟩, .ref p, rfl, p, _, 2, .int (pc + 1), rfl, rfl, SqL.of e1, atI_nat (j := 2) rfl, _, _, rfl, rfl, .inr ⟨by decide, by decide⟩, _, _, rfl, rfl,
      .inl ⟨_, rfl, _, _, rfl, rfl, (by show (0:Int) < _; decide), ?_⟩⟩
    have key : ∀ low : Int, -(2 ^ 64) < low % 65521 + 30269 ∧ low % 65521 + 30269 < 2 ^ 64 := fun low => by
      have a1 := Int.emod_nonneg low (show (65521 : Int) ≠ 0 by decide)
      have a2 := Int.emod_lt_of_pos low (show (0 : Int) < 65521 by decide)
      constructor <;> omega
    refine ⟨_, rfl, _, _, rfl, rfl, ⟨by decide, by decide⟩, _, _, rfl, rfl, _, rfl, .inl ⟨_, rfl, _, _, rfl, rfl, (by show (0:Int) < _; decide), _, _, rfl, rfl, _, _, rfl, rfl, .inr (key _), ?_⟩⟩
    refine ⟨.ref p, rfl, p, _, 2, .int (pc + 1), rfl, rfl, SqL.of e1, atI_nat (j := 2) rfl, _, _, rfl, rfl, .inr ⟨by decide, by decide⟩, _, _, rfl, rfl, .inl ⟨_, rfl, _, _, rfl, rfl, (by show (0:Int) < _; decide), ?_⟩⟩
    refine ⟨_, rfl, _, _, rfl, rfl, ⟨by decide, by decide⟩, .inl ⟨_, rfl, .int n, rfl, _, _, rfl, rfl, hn, ?_⟩⟩
    exact q _ _ s1 ⟨pa, pb, pc + 1, e1, h1, h2, by omega⟩ (Int.emod_nonneg _ (by omega)) (Int.emod_lt_of_pos _ hn)
def spNumber (K : PySem.W.Frag) : Sp := fun vs H Q _ => ∃ p : Addr, vs = [.ref p] ∧ PotAt H p ∧ ∀ H' i, SameB p H H' → PotAt H' p → Q (.int i) H'
theorem d_law_number (B : Bt mg) (T : Top K mg "_law_number" s_law_number ["box"]) (D_law_draw : Def P w K mg base "_law_draw" 1 ["box", "many"] (spDraw K)) : Def P w K mg base "_law_number" 2 ["box"] (spNumber K) := by
  refine mk_def T sc_law_number (by rintro _ _ _ _ ⟨p, rfl, _⟩; rfl) fun f cdv A outer s H vs Q E hr h => ?_
  obtain ⟨p, rfl, pt, q⟩ := h
  refine ⟨_, (pss_cons (ps_set (i := 1) sc_law_number.nd rfl (Or.inl rfl) (pe_def D_law_draw (hr.mono (by first | decide | omega)) (by rfl) (pa_cons (pv 0) (pa_cons pe_int pa_nil))))
      (pss_cons (ps_if (pt_cmpR op_eq (pv 1) pe_int (nomark _)) (pss_one (ps_ret (pe_def D_law_draw (hr.mono (by first | decide | omega)) (by rfl) (pa_cons (pv 0) (pa_cons (pe_op op_pow pe_int pe_int) pa_nil))))) pss_nil)
      (pss_cons (ps_if (pt_cmpR op_eq (pv 1) pe_int (nomark _)) (pss_one (ps_ret (pe_op op_sub (pe_def D_law_draw (hr.mono (by first | decide | omega)) (by rfl) (pa_cons (pv 0) (pa_cons (pe_op op_pow pe_int pe_int) pa_nil))) (pe_op op_pow pe_int pe_int)))) pss_nil)
      (pss_one (ps_ret (pe_op op_sub (pe_def D_law_draw (hr.mono (by first | decide | omega)) (by rfl) (pa_cons (pv 0) (pa_cons pe_int pa_nil))) pe_int)))))), ?_⟩
  refine ⟨.ref p, rfl, p, 24, rfl, pt, by decide, by decide, fun H1 r s1 p1 _ _ => ?_⟩
  refine ⟨.int r, rfl, rfl, _, rfl, ite2 (fun z => ?_) (fun z => ?_)⟩
  · exact ⟨.ref p, rfl, _, _, rfl, rfl, ⟨by decide, by decide, by decide⟩, p, _, rfl, p1, by decide, by decide, fun H2 r2 s2 p2 _ _ => q H2 _ (s1.trans s2) p2⟩
  · refine ⟨.int r, rfl, rfl, _, rfl, ite2 (fun z => ?_) (fun z => ?_)⟩
    · exact ⟨.ref p, rfl, _, _, rfl, rfl, ⟨by decide, by decide, by decide⟩, p, _, rfl, p1, by decide, by decide, fun H2 r2 s2 p2 _ _ => ⟨_, _, rfl, rfl, ⟨by decide, by decide, by decide⟩, _, _, rfl, rfl, q H2 _ (s1.trans s2) p2⟩⟩
    · exact ⟨.ref p, rfl, p, 6, rfl, p1, by decide, by decide, fun H2 r2 s2 p2 _ _ => ⟨_, _, rfl, rfl, q H2 _ (s1.trans s2) p2⟩⟩
theorem d_law_count (B : Bt mg) (T : Top K mg "_law_count" s_law_count ["box"]) (D_law_draw : Def P w K mg base "_law_draw" 1 ["box", "many"] (spDraw K)) : Def P w K mg base "_law_count" 2 ["box"] (spNumber K) := by
  refine mk_def T sc_law_count (by rintro _ _ _ _ ⟨p, rfl, _⟩; rfl) fun f cdv A outer s H vs Q E hr h => ?_
  obtain ⟨p, rfl, pt, q⟩ := h
  refine ⟨_, (pss_cons (ps_set (i := 1) sc_law_count.nd rfl (Or.inl rfl) (pe_def D_law_draw (hr.mono (by first | decide | omega)) (by rfl) (pa_cons (pv 0) (pa_cons pe_int pa_nil))))
      (pss_cons (ps_if (pt_cmpR op_eq (pv 1) pe_int (nomark _)) (pss_one (ps_ret (pe_def D_law_draw (hr.mono (by first | decide | omega)) (by rfl) (pa_cons (pv 0) (pa_cons (pe_op op_pow pe_int pe_int) pa_nil))))) pss_nil)
      (pss_cons (ps_if (pt_cmpR op_eq (pv 1) pe_int (nomark _)) (pss_one (ps_ret (pe_op op_sub (pe_def D_law_draw (hr.mono (by first | decide | omega)) (by rfl) (pa_cons (pv 0) (pa_cons (pe_op op_pow pe_int pe_int) pa_nil))) (pe_op op_pow pe_int pe_int)))) pss_nil)
      (pss_one (ps_ret (pe_op op_sub (pe_def D_law_draw (hr.mono (by first | decide | omega)) (by rfl) (pa_cons (pv 0) (pa_cons pe_int pa_nil))) pe_int)))))), ?_⟩
  refine ⟨.ref p, rfl, p, 24, rfl, pt, by decide, by decide, fun H1 r s1 p1 _ _ => ?_⟩
  refine ⟨.int r, rfl, rfl, _, rfl, ite2 (fun z => ?_) (fun z => ?_)⟩
  · exact ⟨.ref p, rfl, _, _, rfl, rfl, ⟨by decide, by decide, by decide⟩, p, _, rfl, p1, by decide, by decide, fun H2 r2 s2 p2 _ _ => q H2 _ (s1.trans s2) p2⟩
  · refine ⟨.int r, rfl, rfl, _, rfl, ite2 (fun z => ?_) (fun z => ?_)⟩
    · exact ⟨.ref p, rfl, _, _, rfl, rfl, ⟨by decide, by decide, by decide⟩, p, _, rfl, p1, by decide, by decide, fun H2 r2 s2 p2 _ _ => ⟨_, _, rfl, rfl, ⟨by decide, by decide, by decide⟩, _, _, rfl, rfl, q H2 _ (s1.trans s2) p2⟩⟩
    · exact ⟨.ref p, rfl, p, 6, rfl, p1, by decide, by decide, fun H2 r2 s2 p2 _ _ => ⟨_, _, rfl, rfl, q H2 _ (s1.trans s2) p2⟩⟩
def spRow (K : PySem.W.Frag) : Sp := fun vs H Q _ => ∃ p : Addr, vs = [.ref p] ∧ PotAt H p ∧ ∀ H' v r, SameB p H H' → PotAt H' p → Mo K H' v r → r.length ≤ 11 → Q v H'
theorem d_law_row (B : Bt mg) (T : Top K mg "_law_row" s_law_row ["box"]) (D_law_draw : Def P w K mg base "_law_draw" 1 ["box", "many"] (spDraw K)) (D_law_number : Def P w K mg base "_law_number" 2 ["box"] (spNumber K)) : Def P w K mg base "_law_row" 3 ["box"] (spRow K) := by
  refine mk_def T sc_law_row (by rintro _ _ _ _ ⟨p, rfl, _⟩; rfl) fun f cdv A outer s H vs Q E hr h => ?_
  obtain ⟨p, rfl, pt, q⟩ := h
  refine ⟨_, (pss_cons (ps_set (i := 1) sc_law_row.nd rfl (Or.inl rfl) (pe_def D_law_draw (hr.mono (by first | decide | omega)) (by rfl) (pa_cons (pv 0) (pa_cons pe_int pa_nil))))
      (Evl.pss_cut (ps_if (pt_cmpR op_eq (pe_def D_law_draw (hr.mono (by first | decide | omega)) (by rfl) (pa_cons (pv 0) (pa_cons pe_int pa_nil))) pe_int (nomark _)) (pss_one (ps_set (i := 1) sc_law_row.nd rfl (Or.inl rfl) (pe_op op_add pe_int (pe_def D_law_draw (hr.mono (by first | decide | omega)) (by rfl) (pa_cons (pv 0) (pa_cons pe_int pa_nil)))))) pss_nil)
      (pss_one (ps_ret (pe_callTy call_tuple_of (by rfl) B.m_tuple (by decide +kernel) (pa_cons (pe_lc (own := [("k", 2)]) (g := (gName 2)) (tt := tYes) (te := (tCall (spNumber K) [] E0 (tCons (tVar 0) tNil))) rfl sc_law_row.nd (pi_range1 (by rfl) B.m_range (pa_cons (pv 1) pa_nil)) (blkOk_by (own := [("k", 2)]) (N := N_law_row) (sc := defScope s_law_row) (by decide +kernel)) (fun _ _ _ _ _ => (pg_name (i := 2) sc_law_row.nd rfl (Or.inl rfl))) (fun _ _ _ _ _ => pts_nil) (fun _ _ _ _ _ => (pe_def D_law_number (hr.mono (by first | decide | omega)) (by rfl) (pa_cons (pv 0) pa_nil)))) pa_nil)))))), ?_⟩
  refine ⟨.ref p, rfl, p, 4, rfl, pt, by decide, by decide, fun H1 r s1 p1 r0 r1 => ?_⟩
  refine ⟨fun σ' H2 => ∃ wd : Int, σ' = [some (.ref p), some (.int wd), none] ∧ SameB p H H2 ∧ PotAt H2 p ∧ 0 ≤ wd ∧ wd ≤ 11, ?_, ?_⟩
  · refine ⟨.ref p, rfl, p, 16, rfl, p1, by decide, by decide, fun H2 r2 s2 p2 _ _ => ⟨rfl, _, rfl, ite2 (fun z => ?_) (fun z => ⟨r, rfl, s1.trans s2, p2, by omega, by omega⟩)⟩⟩
    exact ⟨.ref p, rfl, p, 8, rfl, p2, by decide, by decide, fun H3 r3 s3 p3 a0 a1 => ⟨_, _, rfl, rfl, _, rfl, (s1.trans s2).trans s3, p3, by omega, by omega⟩⟩
  · rintro σ' H2 ⟨wd, rfl, s2, p2, w0, w1⟩
    refine ⟨.int wd, rfl, _, rfl, by omega, by omega, fun D hD => ?_⟩
    have npD := p2.ne hD
    refine lc_it walk_range (fun i H' => SameB p H H' ∧ PotAt H' p ∧ ∃ ns : List Int, H' D = some (.lst (ns.map V.int)) ∧ ns.length = i) ⟨s2.trans (Same.b (same_upd hD)), p2.upd npD, [], upd_same, rfl⟩ (fun i H' _ pv' => True.intro) (fun i x H' H'' hi pv' y => ?_) (fun H3 pv' => ?_)
    · obtain ⟨rfl, rfl⟩ := y
      obtain ⟨e1, pt3, ns, eb, hl⟩ := pv'
      refine ⟨rfl, ?_⟩
      refine ⟨.ref p, rfl, p, rfl, pt3, fun H5 c s5 pt5 => ?_⟩
      have eb5 := s5 _ _ npD.symm eb
      have hD0 : H D = none := s2.fresh pt.there hD p2.there
      refine ⟨_, eb5, ?_, (e1.trans s5).mut hD0, pt5.upd npD, ns ++ [c], ?_, by simp [hl]⟩
      · rw [List.length_map, hl]
        have : i < 100 := by omega
        exact Nat.lt_of_lt_of_le this (by decide)
      · rw [upd_same, List.map_append]
        rfl
    · obtain ⟨e3, pt3, ns, eb, hl⟩ := pv'
      refine ⟨D, _, rfl, .inl ⟨SqL.of eb, fun t ht => ?_⟩⟩
      exact q _ _ ns (e3.trans (Same.b (same_upd ht))) (pt3.upd (pt3.ne ht)) (Mo.of upd_same) (by omega)
end
end K11

namespace K11
open PySem PySem.Spec PyProof.Rows L2 NSet
/-- a list of ints at a -/
def InL (H : Hp) (a : Addr) (sc : List Int) : Prop := H a = some (.lst (sc.map V.int))
/-- coordinates of a scale -/
def In (sc : List Int) (n : Nat) (m : List Int) : Prop := m.length = n ∧ ∀ c ∈ m, c ∈ sc
/-- a scale that moments are made of -/
structure Scale (n : Nat) (sc : List Int) : Prop where
  bd : ∀ c ∈ sc, 0 ≤ c ∧ c < BB
  asc : sc.Pairwise (· < ·)
  ne : sc ≠ []
  len : sc.length = 4 - n / 4
theorem Scale.ok {n : Nat} {sc m : List Int} (S : Scale n sc) (h : In sc n m) : Ok n m := ⟨h.1, fun c hc => S.bd c (h.2 c hc)⟩
theorem MoL.sameB {K : PySem.W.Frag} {H H' : Hp} {a p : Addr} {ms : List (List Int)} (h : MoL K H (.ref a) ms) (n : a ≠ p) (e : SameB p H H') (pt : PotAt H p) : MoL K H' (.ref a) ms := by
  obtain ⟨a', lv, ea, h1, h2⟩ := h
  cases ea
  exact ⟨a, lv, rfl, e _ _ n h1, Da.stAll (SameB.potst e pt) _ _ (imm_mos ms) h2⟩
section
variable {P : Program} {w : World} {K : PySem.W.Frag} {mg : Str → Option Value} {base : Heap}
def spPool (K : PySem.W.Frag) : Sp := fun vs H Q _ => ∃ p : Addr, vs = [.ref p] ∧ PotAt H p ∧ ∀ H' a rs, SameB p H H' → PotAt H' p → H a = none → MoL K H' (.ref a) rs → 1 ≤ rs.length → rs.length ≤ 5 → (∀ r ∈ rs, r.length ≤ 11) → Q (.ref a) H'
theorem d_law_pool (B : Bt mg) (T : Top K mg "_law_pool" s_law_pool ["box"]) (D_law_draw : Def P w K mg base "_law_draw" 1 ["box", "many"] (spDraw K)) (D_law_row : Def P w K mg base "_law_row" 3 ["box"] (spRow K)) : Def P w K mg base "_law_pool" 4 ["box"] (spPool K) := by
  refine mk_def T sc_law_pool (by rintro _ _ _ _ ⟨p, rfl, _⟩; rfl) fun f cdv A outer s H vs Q E hr h => ?_
  obtain ⟨p, rfl, pt, q⟩ := h
  refine ⟨_, (pss_one (ps_ret (pe_lc (own := [("k", 1)]) (g := (gName 1)) (tt := tYes) (te := (tCall (spRow K) [] E0 (tCons (tVar 0) tNil))) rfl sc_law_pool.nd (pi_range1 (by rfl) B.m_range (pa_cons (pe_op op_add pe_int (pe_def D_law_draw (hr.mono (by first | decide | omega)) (by rfl) (pa_cons (pv 0) (pa_cons pe_int pa_nil)))) pa_nil)) (blkOk_by (own := [("k", 1)]) (N := N_law_pool) (sc := defScope s_law_pool) (by decide +kernel)) (fun _ _ _ _ _ => (pg_name (i := 1) sc_law_pool.nd rfl (Or.inl rfl))) (fun _ _ _ _ _ => pts_nil) (fun _ _ _ _ _ => (pe_def D_law_row (hr.mono (by first | decide | omega)) (by rfl) (pa_cons (pv 0) pa_nil)))))), ?_⟩
  refine ⟨.ref p, rfl, p, 5, rfl, pt, by decide, by decide, fun H1 r s1 p1 r0 r1 => ⟨_, _, rfl, rfl, _, rfl, by omega, by omega, fun D hD => ?_⟩⟩
  have npD := p1.ne hD
  have hD0 : H D = none := s1.fresh pt.there hD p1.there
  refine lc_it walk_range (fun i H' => SameB p H H' ∧ PotAt H' p ∧ ∃ acc rs, H' D = some (.lst acc) ∧ DaAll K H' acc (rs.map mo) ∧ rs.length = i ∧ ∀ r ∈ rs, r.length ≤ 11) ⟨s1.trans (Same.b (same_upd hD)), p1.upd npD, [], [], upd_same, .nil, rfl, fun r hr => nomatch hr⟩ (fun i H' _ pv' => True.intro) (fun i x H' H'' hi pv' y => ?_) (fun H3 pv' => ?_)
  · obtain ⟨rfl, rfl⟩ := y
    obtain ⟨e1, pt3, acc, rs, eb, dd, hl, hw⟩ := pv'
    refine ⟨rfl, .ref p, rfl, p, rfl, pt3, fun H5 v r5 s5 pt5 m5 l5 => ?_⟩
    have eb5 := s5 _ _ npD.symm eb
    have st5 := SameB.potst (K := K) s5 pt3
    have st6 : ST K H5 (L2.upd H5 D (.lst (acc ++ [v]))) := st_upd eb5 True.intro
    refine ⟨_, eb5, ?_, (e1.trans s5).mut hD0, pt5.upd npD, _, rs ++ [r5], upd_same, ?_, by simp [hl], fun r hr => ?_⟩
    · rw [dd.length, List.length_map, hl]
      have : i < 100 := by omega
      exact Nat.lt_of_lt_of_le this (by decide)
    · rw [List.map_append]
      exact DaAll.snoc (Mo.st m5 st6) (Da.stAll (st5.trans st6) _ _ (imm_mos _) dd)
    · rcases List.mem_append.mp hr with h | h
      · exact hw r h
      · rw [List.mem_singleton.mp h]
        exact l5
  · obtain ⟨e3, pt3, acc, rs, eb, dd, hl, hw⟩ := pv'
    exact q H3 D rs e3 pt3 hD0 ⟨D, acc, rfl, eb, dd⟩ (by omega) (by omega) hw
def spRowOf (K : PySem.W.Frag) : Sp := fun vs H Q _ => ∃ (p a : Addr) (n : Int) (rs : List (List Int)), vs = [.ref p, .ref a, .int n] ∧ PotAt H p ∧ a ≠ p ∧ 0 < n ∧ n ≤ 1000 ∧ MoL K H (.ref a) rs ∧ 1 ≤ rs.length ∧ rs.length ≤ 5 ∧ (∀ r ∈ rs, r.length ≤ 11) ∧ ∀ H' v r, SameB p H H' → PotAt H' p → Mo K H' v r → r.length ≤ 11 → Q v H'
theorem d_law_row_of (B : Bt mg) (T : Top K mg "_law_row_of" s_law_row_of ["box", "pool", "odds"]) (D_law_draw : Def P w K mg base "_law_draw" 1 ["box", "many"] (spDraw K)) (D_law_row : Def P w K mg base "_law_row" 3 ["box"] (spRow K)) : Def P w K mg base "_law_row_of" 4 ["box", "pool", "odds"] (spRowOf K) := by
  refine mk_def T sc_law_row_of (by rintro _ _ _ _ ⟨_, _, _, _, rfl, _⟩; rfl) fun f cdv A outer s H vs Q E hr h => ?_
  obtain ⟨p, a, n, rs, rfl, pt, nap, hn, hn2, hm, h1, h5, hw, q⟩ := h
  refine ⟨_, (pss_cons (ps_if (pt_cmpR op_eq (pe_def D_law_draw (hr.mono (by first | decide | omega)) (by rfl) (pa_cons (pv 0) (pa_cons (pv 2) pa_nil))) (pe_op op_sub (pv 2) pe_int) (nomark _)) (pss_one (ps_ret (pe_def D_law_row (hr.mono (by first | decide | omega)) (by rfl) (pa_cons (pv 0) pa_nil)))) pss_nil)
      (pss_one (ps_ret (pe_ix ix_list (pv 1) (pe_def D_law_draw (hr.mono (by first | decide | omega)) (by rfl) (pa_cons (pv 0) (pa_cons (pe_callB call_len_seq (by rfl) B.m_len PySem.boot_len (pa_cons (pv 1) pa_nil)) pa_nil))) (fun _ _ => rfl))))), ?_⟩
  refine ⟨.ref p, rfl, .int n, rfl, p, n, rfl, pt, hn, by omega, fun H1 r s1 p1 r0 r1 => ⟨.int n, rfl, _, _, rfl, rfl, rfl, _, rfl, ite2 (fun z => ?_) (fun z => ?_)⟩⟩
  · exact ⟨.ref p, rfl, p, rfl, p1, fun H2 v r2 s2 p2 m2 l2 => q H2 v r2 (s1.trans s2) p2 m2 l2⟩
  · have hm1 := hm.sameB nap s1 pt
    obtain ⟨_, lv, ea, el, dl⟩ := id hm1
    cases ea
    have ll : lv.length = rs.length := by simpa using dl.length
    refine ⟨.ref a, rfl, .ref p, rfl, .ref a, rfl, a, lv, rfl, .inl (SqL.of el), p, _, rfl, p1, by omega, by omega, fun H2 r2 s2 p2 a0 a1 => ?_⟩
    have el2 := s2 _ _ nap el
    have dl2 := Da.stAll (SameB.potst (K := K) s2 p1) _ _ (imm_mos _) dl
    have hlt : r2.toNat < lv.length := by omega
    obtain ⟨dd, g1, g2⟩ := dl2.get (i := r2.toNat) (v := lv[r2.toNat]) (by simp [hlt])
    obtain ⟨m, hm', rfl⟩ := mo_at g1
    refine ⟨a, lv, r2, lv[r2.toNat], rfl, rfl, SqL.of el2, at_of (j := r2.toNat) (by omega) (by simp [hlt]), ?_⟩
    exact q H2 _ m (s1.trans s2) p2 g2 (hw m (List.mem_of_getElem? hm'))
def spScale (K : PySem.W.Frag) : Sp := fun vs H Q _ => ∃ (p : Addr) (n : Nat), vs = [.ref p, .int (n : Nat)] ∧ PotAt H p ∧ 1 ≤ n ∧ n ≤ 4 ∧ ∀ H' a sc, SameB p H H' → PotAt H' p → H a = none → InL H' a sc → Scale n sc → Q (.ref a) H'
theorem d_law_scale (B : Bt mg) (T : Top K mg "_law_scale" s_law_scale ["box", "axes"]) (D_law_draw : Def P w K mg base "_law_draw" 1 ["box", "many"] (spDraw K)) : Def P w K mg base "_law_scale" 2 ["box", "axes"] (spScale K) := by
  refine mk_def T sc_law_scale (by rintro _ _ _ _ ⟨_, _, rfl, _⟩; rfl) fun f cdv A outer s H vs Q E hr h => ?_
  obtain ⟨p, n, rfl, pt, hn1, hn4, q⟩ := h
  refine ⟨_, (pss_cons (ps_set (i := 2) sc_law_scale.nd rfl (Or.inl rfl) (pe_op op_sub pe_int (pe_op op_fdivW (pv 1) pe_int)))
      (pss_cons (ps_set (i := 3) sc_law_scale.nd rfl (Or.inl rfl) (pe_def D_law_draw (hr.mono (by first | decide | omega)) (by rfl) (pa_cons (pv 0) (pa_cons pe_int pa_nil))))
      (pss_cons (ps_if (pt_cmpR op_lt (pv 3) pe_int (nomark _)) (pss_one (ps_ret (pe_listRg rfl (by rfl) B.m_list (prg_1 (by rfl) B.m_range (pv 2))))) pss_nil)
      (pss_cons (ps_set (i := 4) sc_law_scale.nd rfl (Or.inl rfl) (pe_lst (pa_cons (pe_def D_law_draw (hr.mono (by first | decide | omega)) (by rfl) (pa_cons (pv 0) (pa_cons pe_int pa_nil))) pa_nil)))
      (pss_cons (ps_for PassesOwn.never rfl (pi_range1 (by rfl) B.m_range (pa_cons (pe_op op_sub (pv 2) pe_int) pa_nil)) (pg_name (i := 5) sc_law_scale.nd rfl (Or.inl rfl)) (pss_one (ps_if (pt_cmpR op_eq (pv 3) pe_int (nomark _)) (pss_one (ps_expr (pe_bm PySem.F.plainAttrs_list PySem.F.slot_list_append PySem.F.type_list_append mt_append (pv 4) (pa_cons (pe_op op_add (pe_op op_add (pe_ix ix_list (pv 4) (pv 5) (fun _ _ => rfl)) pe_int) (pe_def D_law_draw (hr.mono (by first | decide | omega)) (by rfl) (pa_cons (pv 0) (pa_cons pe_int pa_nil)))) pa_nil)))) (pss_one (ps_expr (pe_bm PySem.F.plainAttrs_list PySem.F.slot_list_append PySem.F.type_list_append mt_append (pv 4) (pa_cons (pe_op op_add (pe_op op_add (pe_ix ix_list (pv 4) (pv 5) (fun _ _ => rfl)) pe_int) (pe_def D_law_draw (hr.mono (by first | decide | omega)) (by rfl) (pa_cons (pv 0) (pa_cons (pe_op op_pow pe_int pe_int) pa_nil)))) pa_nil)))))))
      (pss_one (ps_ret (pv 4)))))))), ?_⟩
  refine ⟨.int (n : Nat), rfl, _, _, rfl, rfl, ⟨by decide, by decide⟩, _, _, rfl, rfl, .ref p, rfl, p, 4, rfl, pt, by decide, by decide, fun H1 way s1 p1 _ _ => ?_⟩
  have hmany : (4 : Int) - (n : Int) / 4 = ((4 - n / 4 : Nat) : Int) := by omega
  have bm : 3 ≤ 4 - n / 4 ∧ 4 - n / 4 ≤ 4 := by omega
  generalize hM : 4 - n / 4 = M at hmany bm
  refine ⟨.int way, rfl, _, _, rfl, rfl, _, rfl, ite2 (fun z => ?_) (fun z => ?_)⟩
  · refine ⟨_, rfl, _, rfl, ?_, fun l hl => ?_⟩
    · show RgOk 0 (4 - (n : Int) / 4)
      rw [hmany]
      unfold RgOk
      omega
    · have e : rgV 0 (4 - (n : Int) / 4) = ((List.range M).map fun i => ((i : Nat) : Int)).map V.int := by
        rw [hmany]
        unfold rgV
        rw [List.map_map]
        have : ((M : Nat) : Int) - 0 = (M : Nat) := by omega
        simp
      refine q _ l ((List.range M).map fun i => ((i : Nat) : Int)) (s1.trans (Same.b (same_upd hl))) (p1.upd (p1.ne hl)) (s1.fresh pt.there hl p1.there) ?_ ⟨fun c hc => ?_, ?_, ?_, ?_⟩
      · show L2.upd _ l (.lst (rgV 0 (4 - (n : Int) / 4))) l = _
        rw [upd_same, e]
      · obtain ⟨i, hi, rfl⟩ := List.mem_map.mp hc
        have := List.mem_range.mp hi
        refine ⟨by omega, Int.lt_of_lt_of_le (show (i : Int) < 4 by omega) (by decide)⟩
      · exact List.pairwise_map.mpr (List.pairwise_lt_range.imp fun h => by omega)
      · intro z
        have := congrArg List.length z
        simp at this
        omega
      · simp [hM]
  · refine ⟨.ref p, rfl, p, 3, rfl, p1, by decide, by decide, fun H2 r s2 p2 r0 r1 => ⟨by show 1 ≤ sizeLine; decide, fun L hL => ?_⟩⟩
    have s12 := s1.trans s2
    have nL : H L = none := s12.fresh pt.there hL p2.there
    have npL : p ≠ L := p2.ne hL
    refine ⟨_, rfl, _, _, rfl, rfl, ((M - 1 : Nat) : Int), ?_, by omega, by omega, ?_⟩
    · show [V.int (4 - (n : Int) / 4 - 1)] = _
      rw [hmany]
      congr 2
      omega
    have hn : (((M - 1 : Nat) : Int)).toNat = M - 1 := by omega
    have g1 : (1 : Int) + 1000000000000000000000000000000 ≤ GH := by decide
    refine for_range (lo := 0) (n := (((M - 1 : Nat) : Int)).toNat) (fun i σ H' => ∃ (y5 : Option V) (ms : List Int) (last : Int), σ = [some (.ref p), some (.int (n : Nat)), some (.int (4 - (n : Int) / 4)), some (.int way), some (.ref L), y5] ∧ SameB p H H' ∧ PotAt H' p ∧ H' L = some (.lst ((ms ++ [last]).map V.int)) ∧ ms.length = i ∧ (ms ++ [last]).Pairwise (· < ·) ∧ ∀ x ∈ ms ++ [last], 0 ≤ x ∧ x ≤ ((i : Int) + 1) * GH)
      ⟨none, [], r, rfl, s12.trans (Same.b (same_upd hL)), p2.upd npL, upd_same, rfl, List.pairwise_singleton _ _, fun x hx => ?_⟩ (fun i σ H' hi pv' => ?_) (fun σ H' pv' => ?_)
    · have := List.mem_singleton.mp hx
      subst this
      have e : ((0 : Nat) : Int) = 0 := rfl
      rw [e]
      omega
    · obtain ⟨y5, ms, last, rfl, e, pt1, eL, hl, hp, hms⟩ := pv'
      have hlast := hms last (by simp)
      have hst : (((i + 1 : Nat) : Int) + 1) * GH = ((i : Int) + 1) * GH + GH := by
        rw [show (((i + 1 : Nat) : Int) + 1) = ((i : Int) + 1) + 1 by omega, Int.add_mul ((i : Int) + 1) 1 GH, Int.one_mul]
      have at1 : ((ms ++ [last]).map V.int)[i]? = some (V.int last) := by simp [← hl]
      have nxt : ∀ (H3 : Hp) (g : Int), SameB p H' H3 → PotAt H3 p → 0 ≤ g → g < 1000000000000000000000000000000 → ∃ (a' : Addr) (xs : List V) (v : V), V.ref L = .ref a' ∧ [V.int (last + 1 + g)] = [v] ∧ H3 a' = some (.lst xs) ∧ xs.length < sizeLine ∧ (∃ (y5 : Option V) (ms2 : List Int) (last2 : Int), [some (.ref p), some (.int (n : Nat)), some (.int (4 - (n : Int) / 4)), some (.int way), some (.ref L), some (.int (0 + (i : Nat)))] = [some (.ref p), some (.int (n : Nat)), some (.int (4 - (n : Int) / 4)), some (.int way), some (.ref L), y5] ∧ SameB p H (L2.upd H3 a' (.lst (xs ++ [v]))) ∧ PotAt (L2.upd H3 a' (.lst (xs ++ [v]))) p ∧ L2.upd H3 a' (.lst (xs ++ [v])) L = some (.lst ((ms2 ++ [last2]).map V.int)) ∧ ms2.length = i + 1 ∧ (ms2 ++ [last2]).Pairwise (· < ·) ∧ ∀ x ∈ ms2 ++ [last2], 0 ≤ x ∧ x ≤ (((i + 1 : Nat) : Int) + 1) * GH) := by
        intro H3 g s3 p3 g0 g9
        have eL3 := s3 _ _ npL.symm eL
        refine ⟨L, _, _, rfl, rfl, eL3, ?_, _, ms ++ [last], last + 1 + g, rfl, (e.trans s3).mut nL, p3.upd npL, ?_, by simp [hl], ?_, fun x hx => ?_⟩
        · exact Nat.lt_of_le_of_lt (show ((ms ++ [last]).map V.int).length ≤ 11 by simp; omega) (by decide)
        · rw [upd_same, List.map_append (l₁ := ms ++ [last])]
          rfl
        · refine List.pairwise_append.mpr ⟨hp, List.pairwise_singleton _ _, fun x hx y hy => ?_⟩
          rw [List.mem_singleton.mp hy]
          rcases List.mem_append.mp hx with hx | hx
          · have := (List.pairwise_append.mp hp).2.2 x hx last (by simp)
            omega
          · rw [List.mem_singleton.mp hx]
            omega
        · rw [hst]
          rcases List.mem_append.mp hx with hx | hx
          · have := hms x hx
            omega
          · rw [List.mem_singleton.mp hx]
            omega
      refine ⟨.int way, rfl, rfl, _, rfl, ite2 (fun z2 => ?_) (fun z2 => ?_)⟩
      · refine ⟨.ref L, rfl, .inl ⟨rfl, _, SqL.of eL⟩, .ref L, rfl, _, rfl, L, _, _, .int last, rfl, rfl, SqL.of eL, at_of (j := i) (by omega) at1, _, _, rfl, rfl, .ref p, rfl, p, 9, rfl, pt1, by decide, by decide, fun H3 g s3 p3 a0 a1 => ⟨_, _, rfl, rfl, ?_⟩⟩
        exact nxt H3 g s3 p3 a0 (by omega)
      · refine ⟨.ref L, rfl, .inl ⟨rfl, _, SqL.of eL⟩, .ref L, rfl, _, rfl, L, _, _, .int last, rfl, rfl, SqL.of eL, at_of (j := i) (by omega) at1, _, _, rfl, rfl, .ref p, rfl, _, _, rfl, rfl, ⟨by decide, by decide, by decide⟩, p, _, rfl, pt1, by decide, by decide, fun H3 g s3 p3 a0 a1 => ⟨_, _, rfl, rfl, ?_⟩⟩
        exact nxt H3 g s3 p3 a0 (Int.lt_of_lt_of_le a1 (by decide))
    · obtain ⟨y5, ms, last, rfl, e, pt1, eL, hl, hp, hms⟩ := pv'
      refine ⟨.ref L, rfl, q H' L (ms ++ [last]) e pt1 nL eL ⟨fun x hx => ?_, hp, by simp, by simp; omega⟩⟩
      have h := hms x hx
      refine ⟨h.1, ?_⟩
      have h2 : (((((M - 1 : Nat) : Int)).toNat : Int) + 1) * GH ≤ 10 * GH := Int.mul_le_mul_of_nonneg_right (by omega) (by decide)
      have h3 : 10 * GH < BB := by decide
      omega
def spSpot (K : PySem.W.Frag) : Sp := fun vs H Q _ => ∃ (p a : Addr) (n : Nat) (sc : List Int), vs = [.ref p, .ref a, .int (n : Nat)] ∧ PotAt H p ∧ a ≠ p ∧ InL H a sc ∧ Scale n sc ∧ n ≤ 4 ∧ ∀ H' v m, SameB p H H' → PotAt H' p → Mo K H' v m → In sc n m → Q v H'
theorem d_law_spot (B : Bt mg) (T : Top K mg "_law_spot" s_law_spot ["box", "scale", "axes"]) (D_law_draw : Def P w K mg base "_law_draw" 1 ["box", "many"] (spDraw K)) : Def P w K mg base "_law_spot" 2 ["box", "scale", "axes"] (spSpot K) := by
  refine mk_def T sc_law_spot (by rintro _ _ _ _ ⟨_, _, _, _, rfl, _⟩; rfl) fun f cdv A outer s H vs Q E hr h => ?_
  obtain ⟨p, a, n, sc, rfl, pt, nap, ha, S, hn4, q⟩ := h
  refine ⟨_, (pss_one (ps_ret (pe_callTy call_tuple_of (by rfl) B.m_tuple (by decide +kernel) (pa_cons (pe_lc (own := [("k", 3)]) (g := (gName 3)) (tt := tYes) (te := (tOp (rIxL K) (tVar 1) (tCall (spDraw K) [] E0 (tCons (tVar 0) (tCons (tCB (yLen K) (tCons (tVar 1) tNil)) tNil))))) rfl sc_law_spot.nd (pi_range1 (by rfl) B.m_range (pa_cons (pv 2) pa_nil)) (blkOk_by (own := [("k", 3)]) (N := N_law_spot) (sc := defScope s_law_spot) (by decide +kernel)) (fun _ _ _ _ _ => (pg_name (i := 3) sc_law_spot.nd rfl (Or.inl rfl))) (fun _ _ _ _ _ => pts_nil) (fun _ _ _ _ _ => (pe_ix ix_list (pv 1) (pe_def D_law_draw (hr.mono (by first | decide | omega)) (by rfl) (pa_cons (pv 0) (pa_cons (pe_callB call_len_seq (by rfl) B.m_len PySem.boot_len (pa_cons (pv 1) pa_nil)) pa_nil))) (fun _ _ => rfl)))) pa_nil)))), ?_⟩
  refine ⟨.int (n : Nat), rfl, _, rfl, by omega, by omega, fun D hD => ?_⟩
  have npD := pt.ne hD
  have slen : 0 < sc.length := List.length_pos_iff.mpr S.ne
  have sle : sc.length ≤ 4 := by
    have := S.len
    omega
  refine lc_it walk_range (fun i H' => SameB p H H' ∧ PotAt H' p ∧ ∃ ns : List Int, H' D = some (.lst (ns.map V.int)) ∧ ns.length = i ∧ ∀ c ∈ ns, c ∈ sc) ⟨Same.b (same_upd hD), pt.upd npD, [], upd_same, rfl, fun c hc => nomatch hc⟩ (fun i H' _ pv' => True.intro) (fun i x H' H'' hi pv' y => ?_) (fun H3 pv' => ?_)
  · obtain ⟨rfl, rfl⟩ := y
    obtain ⟨e1, pt3, ns, eb, hl, hc⟩ := pv'
    have ha3 := e1 _ _ nap ha
    refine ⟨rfl, .ref a, rfl, .ref p, rfl, .ref a, rfl, a, _, rfl, .inl (SqL.of ha3), p, _, rfl, pt3, by simp; omega, by simp; omega, fun H5 c s5 pt5 c0 c1 => ?_⟩
    have eb5 := s5 _ _ npD.symm eb
    have ha5 := s5 _ _ nap ha3
    rw [List.length_map] at c1
    have hlt : c.toNat < sc.length := by omega
    refine ⟨a, _, c, .int sc[c.toNat], rfl, rfl, SqL.of ha5, at_of (j := c.toNat) (by omega) (by simp [hlt]), ?_⟩
    refine ⟨_, eb5, ?_, (e1.trans s5).mut hD, pt5.upd npD, ns ++ [sc[c.toNat]], ?_, by simp [hl], fun c' hc' => ?_⟩
    · rw [List.length_map, hl]
      have : i < 100 := by omega
      exact Nat.lt_of_lt_of_le this (by decide)
    · rw [upd_same, List.map_append]
      rfl
    · rcases List.mem_append.mp hc' with h' | h'
      · exact hc c' h'
      · rw [List.mem_singleton.mp h']
        exact List.getElem_mem hlt
  · obtain ⟨e3, pt3, ns, eb, hl, hc⟩ := pv'
    refine ⟨D, _, rfl, .inl ⟨SqL.of eb, fun t ht => ?_⟩⟩
    exact q _ _ ns (e3.trans (Same.b (same_upd ht))) (pt3.upd (pt3.ne ht)) (Mo.of upd_same) ⟨by omega, hc⟩
end
end K11

namespace K11
open PySem PySem.Spec PyProof.Rows L2 NSet
/-- all moments with coordinates of the scale -/
def grd (n : Nat) (sc : List Int) : List (List Int) := gridL (List.replicate n sc)
theorem grd_succ (n : Nat) (sc : List Int) : grd (n + 1) sc = gridStep (grd n sc) sc := by
  unfold grd
  rw [List.replicate_succ', gridL_snoc]
theorem gridStep_length (g : List (List Int)) (r : List Int) : (gridStep g r).length = g.length * r.length := by
  unfold gridStep
  induction g with
  | nil => simp
  | cons h g ih => rw [List.flatMap_cons, List.length_append, ih, List.length_map, List.length_cons, Nat.succ_mul, Nat.add_comm]
theorem grd_length (sc : List Int) : ∀ n, (grd n sc).length = sc.length ^ n
  | 0 => rfl
  | n + 1 => by rw [grd_succ, gridStep_length, grd_length sc n, Nat.pow_succ]
theorem grd_len4 {sc : List Int} (h : sc.length ≤ 4) {n : Nat} (hn : n ≤ 4) : (grd n sc).length ≤ 256 := by
  rw [grd_length]
  have h1 : sc.length ^ n ≤ 4 ^ n := Nat.pow_le_pow_left h n
  have h2 : 4 ^ n ≤ 4 ^ 4 := Nat.pow_le_pow_right (by decide) hn
  omega
theorem grd_mem {sc : List Int} : ∀ {n : Nat} {m : List Int}, m ∈ grd n sc ↔ In sc n m
  | 0, m => by
    show m ∈ [[]] ↔ _
    rw [List.mem_singleton]
    constructor
    · rintro rfl
      exact ⟨rfl, fun c hc => nomatch hc⟩
    · rintro ⟨h, _⟩
      exact List.length_eq_zero_iff.mp h
  | n + 1, m => by
    rw [grd_succ]
    unfold gridStep
    rw [List.mem_flatMap]
    constructor
    · rintro ⟨h, hh, hm⟩
      obtain ⟨l, hl, rfl⟩ := List.mem_map.mp hm
      have := grd_mem.mp hh
      refine ⟨by rw [List.length_append, this.1]; rfl, fun c hc => ?_⟩
      rcases List.mem_append.mp hc with hc | hc
      · exact this.2 c hc
      · rw [List.mem_singleton.mp hc]
        exact hl
    · rintro ⟨h1, h2⟩
      have hne : m ≠ [] := by
        rintro rfl
        cases h1
      refine ⟨m.dropLast, grd_mem.mpr ⟨by rw [List.length_dropLast, h1]; rfl, fun c hc => h2 c ((List.dropLast_sublist m).subset hc)⟩, List.mem_map.mpr ⟨m.getLast hne, h2 _ (List.getLast_mem hne), List.dropLast_concat_getLast hne⟩⟩
theorem lt_snoc_l {h : List Int} {x y : Int} (hxy : x < y) : h ++ [x] < h ++ [y] := by
  induction h with
  | nil => exact List.cons_lt_cons_iff.mpr (.inl hxy)
  | cons c h ih => exact List.cons_lt_cons_iff.mpr (.inr ⟨rfl, ih⟩)
theorem lt_snoc_r : ∀ {h k : List Int} {x y : Int}, h.length = k.length → h < k → h ++ [x] < k ++ [y]
  | [], [], _, _, _, hlt => absurd hlt (List.lt_irrefl _)
  | [], _ :: _, _, _, hl, _ => nomatch hl
  | _ :: _, [], _, _, hl, _ => nomatch hl
  | a :: h, b :: k, x, y, hl, hlt => by
    rcases List.cons_lt_cons_iff.mp hlt with h1 | ⟨h1, h2⟩
    · exact List.cons_lt_cons_iff.mpr (.inl h1)
    · exact List.cons_lt_cons_iff.mpr (.inr ⟨h1, lt_snoc_r (by simpa using hl) h2⟩)
theorem grd_asc {sc : List Int} (hs : sc.Pairwise (· < ·)) : ∀ n, (grd n sc).Pairwise (· < ·)
  | 0 => List.pairwise_singleton _ _
  | n + 1 => by
    rw [grd_succ]
    unfold gridStep
    refine List.pairwise_flatMap.mpr ⟨fun h _ => List.pairwise_map.mpr (hs.imp fun hxy => lt_snoc_l hxy), (List.Pairwise.and_mem.mp (grd_asc hs n)).imp fun {h k} ⟨hh, hk, hlt⟩ x hx y hy => ?_⟩
    obtain ⟨a, _, rfl⟩ := List.mem_map.mp hx
    obtain ⟨b, _, rfl⟩ := List.mem_map.mp hy
    exact lt_snoc_r (by rw [(grd_mem.mp hh).1, (grd_mem.mp hk).1]) hlt
section
variable {P : Program} {w : World} {K : PySem.W.Frag} {mg : Str → Option Value} {base : Heap}
def spGrid (K : PySem.W.Frag) : Sp := fun vs H Q _ => ∃ (a : Addr) (n : Nat) (sc : List Int), vs = [.ref a, .int (n : Nat)] ∧ InL H a sc ∧ sc.length ≤ 4 ∧ n ≤ 4 ∧ ∀ H' b, Same H H' → H b = none → MoL K H' (.ref b) (grd n sc) → Q (.ref b) H'
theorem d_law_grid (B : Bt mg) (T : Top K mg "_law_grid" s_law_grid ["scale", "axes"]) : Def P w K mg base "_law_grid" 1 ["scale", "axes"] (spGrid K) := by
  refine mk_def T sc_law_grid (by rintro _ _ _ _ ⟨_, _, _, rfl, _⟩; rfl) fun f cdv A outer s H vs Q E hr h => ?_
  obtain ⟨a, n, sc, rfl, ha, hs4, hn4, q⟩ := h
  refine ⟨_, (pss_cons (ps_set (i := 2) sc_law_grid.nd rfl (Or.inl rfl) (pe_lst (pa_cons (pe_tup pa_nil) pa_nil)))
      (pss_cons (ps_for PassesOwn.never rfl (pi_range1 (by rfl) B.m_range (pa_cons (pv 1) pa_nil)) (pg_name (i := 3) sc_law_grid.nd rfl (Or.inl rfl)) (pss_cons (ps_set (i := 4) sc_law_grid.nd rfl (Or.inl rfl) (pe_lst pa_nil))
      (pss_cons (ps_for PassesOwn.never rfl (pi_list (pv 2)) (pg_name (i := 5) sc_law_grid.nd rfl (Or.inl rfl)) (pss_one (ps_for PassesOwn.never rfl (pi_list (pv 0)) (pg_name (i := 6) sc_law_grid.nd rfl (Or.inl rfl)) (pss_one (ps_expr (pe_bm PySem.F.plainAttrs_list PySem.F.slot_list_append PySem.F.type_list_append mt_append (pv 4) (pa_cons (pe_op op_catA (pv 5) (pe_tup (pa_cons (pv 6) pa_nil))) pa_nil)))))))
      (pss_one (ps_set (i := 2) sc_law_grid.nd rfl (Or.inl rfl) (pv 4))))))
      (pss_one (ps_ret (pv 2))))), ?_⟩
  refine ⟨Nat.zero_le _, fun t0 ht0 => ⟨by show 1 ≤ sizeLine; decide, fun g0 hg0 => ?_⟩⟩
  have s0 : Same H (upd (upd H t0 (.tup [])) g0 (.lst [.ref t0])) := (same_upd ht0).trans (same_upd hg0)
  have ng0 : H g0 = none := (same_upd ht0).new hg0
  have e0 : Mo K (upd (upd H t0 (.tup [])) g0 (.lst [.ref t0])) (.ref t0) [] := Mo.of ((same_upd hg0 _ _ upd_same))
  refine ⟨.int (n : Nat), rfl, (n : Nat), rfl, by omega, by omega, ?_⟩
  refine for_range (lo := 0) (n := (n : Int).toNat) (fun i σ H' => ∃ (G : Addr) (gv : List V) (y3 y4 y5 y6 : Option V), σ = [some (.ref a), some (.int (n : Nat)), some (.ref G), y3, y4, y5, y6] ∧ Same H H' ∧ H G = none ∧ H' G = some (.lst gv) ∧ DaAll K H' gv ((grd i sc).map mo))
    ⟨g0, [.ref t0], none, none, none, none, rfl, s0, ng0, upd_same, .cons e0 .nil⟩ (fun i σ H' hi pv' => ?_) (fun σ H' pv' => ?_)
  · obtain ⟨G, gv, y3, y4, y5, y6, rfl, e, nG, eG, dG⟩ := pv'
    have hi4 : i < 4 := by omega
    have lG := grd_len4 hs4 (n := i) (by omega)
    have lgl : gv.length = (grd i sc).length := by simpa using dG.length
    refine ⟨Nat.zero_le _, fun Lg hLg => ?_⟩
    have nLg : H Lg = none := e.new hLg
    have neG : G ≠ Lg := ne_of_none eG hLg
    have naL : a ≠ Lg := ne_of_none (e _ _ ha) hLg
    have e1 : Same H' (upd H' Lg (.lst [])) := same_upd hLg
    refine ⟨.ref G, rfl, G, rfl, ⟨_, SqL.of (e1 _ _ eG)⟩, ?_⟩
    refine for_list (xs := gv) (fun j σ H2 => ∃ (lgv : List V) (y5 y6 : Option V), σ = [some (.ref a), some (.int (n : Nat)), some (.ref G), some (.int (0 + (i : Nat))), some (.ref Lg), y5, y6] ∧ SameB Lg H' H2 ∧ Same H H2 ∧ H2 Lg = some (.lst lgv) ∧ DaAll K H2 lgv ((gridStep ((grd i sc).take j) sc).map mo))
      ⟨[], y5, y6, rfl, e1.b, e.trans e1, upd_same, .nil⟩ (fun j σ H2 _ pw => ?_) (fun j x σ H2 hx2 pw => ?_) (fun σ H2 pw => ?_)
    · obtain ⟨_, _, _, rfl, e2, _⟩ := pw
      exact SqL.of (e2 _ _ neG eG)
    · obtain ⟨lgv, z5, z6, rfl, e2, e2', eL2, dL2⟩ := pw
      have st2 : ST K H' H2 := fun t us ht => e2 _ _ (fun z => by rw [z, hLg] at ht; cases ht) ht
      obtain ⟨dm, hdm, hdm2⟩ := dG.get hx2
      obtain ⟨h, hh, rfl⟩ := mo_at hdm
      have hin := grd_mem.mp (List.mem_of_getElem? hh)
      have lj : j < (grd i sc).length := (List.getElem?_eq_some_iff.mp hh).1
      have ha2 := e2' _ _ ha
      refine ⟨.ref a, rfl, a, rfl, ⟨_, SqL.of ha2⟩, ?_⟩
      refine for_list (xs := sc.map V.int) (fun k σ H3 => ∃ (lgv3 : List V) (y6 : Option V), σ = [some (.ref a), some (.int (n : Nat)), some (.ref G), some (.int (0 + (i : Nat))), some (.ref Lg), some x, y6] ∧ SameB Lg H2 H3 ∧ Same H H3 ∧ H3 Lg = some (.lst lgv3) ∧ DaAll K H3 lgv3 ((gridStep ((grd i sc).take j) sc ++ (sc.take k).map fun l => h ++ [l]).map mo))
        ⟨lgv, z6, rfl, SameB.refl _ _, e2', eL2, by rw [List.take_zero, List.map_nil, List.append_nil]; exact dL2⟩ (fun k σ H3 _ pu => ?_) (fun k x3 σ H3 hx3 pu => ?_) (fun σ H3 pu => ?_)
      · obtain ⟨_, _, rfl, e3, _⟩ := pu
        exact SqL.of (e3 _ _ naL ha2)
      · obtain ⟨lgv3, w6, rfl, e3, e3', eL3, dL3⟩ := pu
        obtain ⟨l, hl, rfl⟩ := int_at hx3
        have lk : k < sc.length := (List.getElem?_eq_some_iff.mp hl).1
        have st3 : ST K H2 H3 := SameB.st e3 eL2 True.intro
        refine ⟨.ref Lg, rfl, .inl ⟨rfl, _, SqL.of eL3⟩, x, rfl, .int l, rfl, by show 1 ≤ sizeLine; decide, fun t ht => ?_⟩
        refine cat1 (Mo.st hdm2 (st2.trans st3)) (by rw [hin.1]; omega) (fun y H4 e4 d4 => ?_) t ht
        have eL4 := e4 _ _ eL3
        have st5 : ST K H4 (upd H4 Lg (.lst (lgv3 ++ [y]))) := st_upd eL4 True.intro
        refine ⟨Lg, _, _, rfl, rfl, eL4, ?_, lgv3 ++ [y], some (.int l), rfl, (e3.trans e4.b).trans SameB.upd, (e3'.trans e4).mut nLg, upd_same, ?_⟩
        · have l3 := dL3.length
          have m1 : ((grd i sc).take j).length ≤ 256 := Nat.le_trans (List.length_take_le' _ _) lG
          have m2 : ((grd i sc).take j).length * sc.length ≤ 256 * 4 := Nat.mul_le_mul m1 hs4
          have m3 := List.length_take_le' k sc
          rw [l3, List.length_map, List.length_append, gridStep_length, List.length_map]
          exact Nat.lt_of_le_of_lt (show _ ≤ 2000 by omega) (by decide)
        · rw [List.take_add_one, hl, Option.toList_some, List.map_append (l₁ := sc.take k), ← List.append_assoc, List.map_append (l₂ := [l].map _)]
          exact DaAll.snoc (Mo.st d4 st5) (Da.stAll (e4.st.trans st5) _ _ (imm_mos _) dL3)
      · obtain ⟨lgv3, w6, rfl, e3, e3', eL3, dL3⟩ := pu
        rw [List.length_map, List.take_length] at dL3
        refine ⟨lgv3, some x, w6, rfl, e2.trans e3, e3', eL3, ?_⟩
        have hnew : gridStep ((grd i sc).take (j + 1)) sc = gridStep ((grd i sc).take j) sc ++ sc.map fun l => h ++ [l] := by
          unfold gridStep
          rw [List.take_add_one, hh, List.flatMap_append]
          simp
        rw [hnew]
        exact dL3
    · obtain ⟨lgv, z5, z6, rfl, e2, e2', eL2, dL2⟩ := pw
      rw [lgl, List.take_length, ← grd_succ] at dL2
      exact ⟨.ref Lg, rfl, Lg, _, _, _, _, _, rfl, e2', nLg, eL2, dL2⟩
  · obtain ⟨G, gv, y3, y4, y5, y6, rfl, e, nG, eG, dG⟩ := pv'
    rw [Int.toNat_natCast] at dG
    exact ⟨.ref G, rfl, q H' G e nG ⟨G, gv, rfl, eG, dG⟩⟩
end
end K11

namespace K11
open PySem PySem.Spec PyProof.Rows L2 NSet
/-- what changes are drawn from -/
structure Src (K : PySem.W.Frag) (H : Hp) (p a b : Addr) (n : Nat) (sc : List Int) (rs : List (List Int)) : Prop where
  pot : PotAt H p
  nap : a ≠ p
  nbp : b ≠ p
  pool : MoL K H (.ref a) rs
  l1 : 1 ≤ rs.length
  l5 : rs.length ≤ 5
  wd : ∀ r ∈ rs, r.length ≤ 11
  hsc : InL H b sc
  ok : Scale n sc
  n4 : n ≤ 4
theorem Src.sameB {K : PySem.W.Frag} {H H' : Hp} {p a b : Addr} {n : Nat} {sc : List Int} {rs : List (List Int)} (S : Src K H p a b n sc rs) (e : SameB p H H') (pt : PotAt H' p) : Src K H' p a b n sc rs :=
  ⟨pt, S.nap, S.nbp, S.pool.sameB S.nap e S.pot, S.l1, S.l5, S.wd, e _ _ S.nbp S.hsc, S.ok, S.n4⟩
theorem Src.same {K : PySem.W.Frag} {H H' : Hp} {p a b : Addr} {n : Nat} {sc : List Int} {rs : List (List Int)} (S : Src K H p a b n sc rs) (e : Same H H') : Src K H' p a b n sc rs :=
  ⟨S.pot.same e, S.nap, S.nbp, S.pool.same e, S.l1, S.l5, S.wd, e _ _ S.hsc, S.ok, S.n4⟩
/-- a key that is drawn -/
def KIn (n : Nat) (sc : List Int) (k : PK) : Prop := In sc n k.1 ∧ k.2.length ≤ 11
theorem KIn.hk {n : Nat} {sc : List Int} {k : PK} (S : Scale n sc) (h : KIn n sc k) : HK n k := ⟨S.ok h.1, by have := h.2; omega⟩
section
variable {P : Program} {w : World} {K : PySem.W.Frag} {mg : Str → Option Value} {base : Heap}
def spChange (K : PySem.W.Frag) : Sp := fun vs H Q _ => ∃ (p a b : Addr) (n : Nat) (sc : List Int) (rs : List (List Int)), vs = [.ref p, .ref a, .ref b, .int (n : Nat)] ∧ Src K H p a b n sc rs ∧ ∀ H' v c, SameB p H H' → PotAt H' p → Da K H' v (chD c) → KIn n sc c.1 → Q v H'
theorem d_law_change (B : Bt mg) (T : Top K mg "_law_change" s_law_change ["box", "pool", "scale", "axes"]) (D_law_spot : Def P w K mg base "_law_spot" 2 ["box", "scale", "axes"] (spSpot K)) (D_law_row_of : Def P w K mg base "_law_row_of" 4 ["box", "pool", "odds"] (spRowOf K)) (D_law_count : Def P w K mg base "_law_count" 2 ["box"] (spNumber K)) : Def P w K mg base "_law_change" 5 ["box", "pool", "scale", "axes"] (spChange K) := by
  refine mk_def T sc_law_change (by rintro _ _ _ _ ⟨_, _, _, _, _, _, rfl, _⟩; rfl) fun f cdv A outer s H vs Q E hr h => ?_
  obtain ⟨p, a, b, n, sc, rs, rfl, S, q⟩ := h
  refine ⟨_, (pss_cons (ps_set (i := 4) sc_law_change.nd rfl (Or.inl rfl) (pe_def D_law_spot (hr.mono (by first | decide | omega)) (by rfl) (pa_cons (pv 0) (pa_cons (pv 2) (pa_cons (pv 3) pa_nil)))))
      (pss_cons (ps_set (i := 5) sc_law_change.nd rfl (Or.inl rfl) (pe_def D_law_row_of (hr.mono (by first | decide | omega)) (by rfl) (pa_cons (pv 0) (pa_cons (pv 1) (pa_cons pe_int pa_nil)))))
      (pss_one (ps_ret (pe_tup (pa_cons (pv 4) (pa_cons (pv 5) (pa_cons (pe_def D_law_count (hr.mono (by first | decide | omega)) (by rfl) (pa_cons (pv 0) pa_nil)) pa_nil)))))))), ?_⟩
  refine ⟨.ref p, rfl, .ref b, rfl, .int (n : Nat), rfl, p, b, n, sc, rfl, S.pot, S.nbp, S.hsc, S.ok, S.n4, fun H1 v m s1 p1 hm im => ?_⟩
  have S1 := S.sameB s1 p1
  refine ⟨.ref p, rfl, .ref a, rfl, p, a, 12, rs, rfl, p1, S.nap, by decide, by decide, S1.pool, S.l1, S.l5, S.wd, fun H2 u r s2 p2 hr' lr => ?_⟩
  refine ⟨v, rfl, u, rfl, .ref p, rfl, p, rfl, p2, fun H3 i s3 p3 => ⟨by show 3 ≤ sizeLine; decide, fun t ht => ?_⟩⟩
  have st2 := SameB.potst (K := K) s2 p1
  have st3 := SameB.potst (K := K) s3 p2
  have e4 := same_upd (o := .tup [v, u, .int i]) ht
  refine q _ _ ((m, r), i) (((s1.trans s2).trans s3).trans e4.b) (p3.same e4) (chD_of upd_same (Mo.same (Mo.st hm (st2.trans st3)) e4) (Mo.same (Mo.st hr' st3) e4)) ⟨im, lr⟩
def spLChanges (K : PySem.W.Frag) : Sp := fun vs H Q _ => ∃ (p a b : Addr) (n M : Nat) (sc : List Int) (rs : List (List Int)), vs = [.ref p, .ref a, .ref b, .int (n : Nat), .int (M : Nat)] ∧ Src K H p a b n sc rs ∧ M ≤ 100 ∧ ∀ H' l cs, SameB p H H' → PotAt H' p → H l = none → ChL K H' (.ref l) cs → cs.length ≤ M → (∀ c ∈ cs, KIn n sc c.1) → Q (.ref l) H'
theorem d_law_changes (B : Bt mg) (T : Top K mg "_law_changes" s_law_changes ["box", "pool", "scale", "axes", "most"]) (D_law_draw : Def P w K mg base "_law_draw" 1 ["box", "many"] (spDraw K)) (D_law_change : Def P w K mg base "_law_change" 5 ["box", "pool", "scale", "axes"] (spChange K)) : Def P w K mg base "_law_changes" 6 ["box", "pool", "scale", "axes", "most"] (spLChanges K) := by
  refine mk_def T sc_law_changes (by rintro _ _ _ _ ⟨_, _, _, _, _, _, _, rfl, _⟩; rfl) fun f cdv A outer s H vs Q E hr h => ?_
  obtain ⟨p, a, b, n, M, sc, rs, rfl, S, hM, q⟩ := h
  refine ⟨_, (pss_cons (ps_set (i := 5) sc_law_changes.nd rfl (Or.inl rfl) (pe_def D_law_draw (hr.mono (by first | decide | omega)) (by rfl) (pa_cons (pv 0) (pa_cons pe_int pa_nil))))
      (Evl.pss_cut (ps_if (pw_and (pt_cmpR op_lt (pv 3) pe_int (nomark _)) (pw_and1 (pt_cmpR op_eq (pe_def D_law_draw (hr.mono (by first | decide | omega)) (by rfl) (pa_cons (pv 0) (pa_cons pe_int pa_nil))) pe_int (nomark _)))).pt (pss_one (ps_set (i := 5) sc_law_changes.nd rfl (Or.inl rfl) (pe_op op_add pe_int (pe_def D_law_draw (hr.mono (by first | decide | omega)) (by rfl) (pa_cons (pv 0) (pa_cons pe_int pa_nil)))))) pss_nil)
      (pss_cons (ps_set (i := 6) sc_law_changes.nd rfl (Or.inl rfl) (pe_lst pa_nil))
      (pss_cons (ps_for PassesOwn.never rfl (pi_range1 (by rfl) B.m_range (pa_cons (pe_callB (call_min2 rfl) (by rfl) B.m_min (by decide +kernel) (pa_cons (pv 5) (pa_cons (pv 4) pa_nil))) pa_nil)) (pg_name (i := 7) sc_law_changes.nd rfl (Or.inl rfl)) (pss_cons (ps_set (i := 8) sc_law_changes.nd rfl (Or.inl rfl) (pe_def D_law_change (hr.mono (by first | decide | omega)) (by rfl) (pa_cons (pv 0) (pa_cons (pv 1) (pa_cons (pv 2) (pa_cons (pv 3) pa_nil))))))
      (Evl.pss_cut (ps_if (pw_and (pt_truth (pv 6) (fun _ => rfl)) (pw_and1 (pt_cmpR op_eq (pe_def D_law_draw (hr.mono (by first | decide | omega)) (by rfl) (pa_cons (pv 0) (pa_cons pe_int pa_nil))) pe_int (nomark _)))).pt (pss_cons (ps_set (i := 9) sc_law_changes.nd rfl (Or.inl rfl) (pe_ix ix_list (pv 6) (pe_def D_law_draw (hr.mono (by first | decide | omega)) (by rfl) (pa_cons (pv 0) (pa_cons (pe_callB call_len_seq (by rfl) B.m_len PySem.boot_len (pa_cons (pv 6) pa_nil)) pa_nil))) (fun _ _ => rfl)))
      (pss_one (ps_set (i := 8) sc_law_changes.nd rfl (Or.inl rfl) (pe_tup (pa_cons (pe_ix ix_tup (pv 9) pe_int (fun _ _ => rfl)) (pa_cons (pe_ix ix_tup (pv 9) pe_int (fun _ _ => rfl)) (pa_cons (pe_op op_sub pe_int (pe_ix ix_tup (pv 9) pe_int (fun _ _ => rfl))) pa_nil))))))) pss_nil)
      (pss_one (ps_expr (pe_bm PySem.F.plainAttrs_list PySem.F.slot_list_append PySem.F.type_list_append mt_append (pv 6) (pa_cons (pv 8) pa_nil)))))))
      (pss_one (ps_ret (pv 6))))))), ?_⟩
  refine ⟨.ref p, rfl, p, 8, rfl, S.pot, by decide, by decide, fun H1 many s1 p1 m0 m1 => ?_⟩
  refine ⟨fun σ' H2 => ∃ mn : Int, σ' = [some (.ref p), some (.ref a), some (.ref b), some (.int (n : Nat)), some (.int (M : Nat)), some (.int mn), none, none, none, none] ∧ SameB p H H2 ∧ PotAt H2 p ∧ 0 ≤ mn ∧ mn ≤ 100, ?_, ?_⟩
  · refine ⟨.int (n : Nat), rfl, _, _, rfl, rfl, _, rfl, ?_⟩
    refine ite2 (fun z => ?_) (fun z => ?_)
    · exact ⟨.ref p, rfl, p, 16, rfl, p1, by decide, by decide, fun H2 r2 s2 p2 _ _ => ⟨rfl, _, rfl, ite2 (fun z2 => ⟨.ref p, rfl, p, 30, rfl, p2, by decide, by decide, fun H3 r3 s3 p3 a0 a1 => ⟨_, _, rfl, rfl, _, rfl, (s1.trans s2).trans s3, p3, by omega, by omega⟩⟩) (fun z2 => ⟨many, rfl, s1.trans s2, p2, by omega, by omega⟩)⟩⟩
    · exact iteF ⟨many, rfl, s1, p1, by omega, by omega⟩
  · rintro σ' H2 ⟨mn, rfl, s2, p2, w0, w1⟩
    refine ⟨Nat.zero_le _, fun L hL => ?_⟩
    have npL := p2.ne hL
    have nL : H L = none := s2.fresh S.pot.there hL p2.there
    refine ⟨.int mn, rfl, .int (M : Nat), rfl, _, _, rfl, _, rfl, ?_, ?_, ?_⟩
    · split <;> omega
    · split <;> omega
    generalize hk : (if (M : Int) < mn then (M : Int) else mn) = kk
    have hkk : kk ≤ M ∧ 0 ≤ kk := by
      rw [← hk]
      split <;> omega
    refine for_range (lo := 0) (n := kk.toNat) (fun i σ H' => ∃ (y7 y8 y9 : Option V) (acc : List V) (cs : List (PK × Int)), σ = [some (.ref p), some (.ref a), some (.ref b), some (.int (n : Nat)), some (.int (M : Nat)), some (.int mn), some (.ref L), y7, y8, y9] ∧ SameB p H H' ∧ PotAt H' p ∧ H' L = some (.lst acc) ∧ DaAll K H' acc (cs.map chD) ∧ cs.length = i ∧ ∀ c ∈ cs, KIn n sc c.1)
      ⟨none, none, none, [], [], rfl, s2.trans (Same.b (same_upd hL)), p2.upd npL, upd_same, .nil, rfl, fun c hc => nomatch hc⟩ (fun i σ H' hi pv' => ?_) (fun σ H' pv' => ?_)
    · obtain ⟨y7, y8, y9, acc, cs, rfl, e, pt1, eL, dL, hl, hc⟩ := pv'
      have S1 := S.sameB e pt1
      have hi100 : i < 100 := by omega
      refine ⟨.ref p, rfl, .ref a, rfl, .ref b, rfl, .int (n : Nat), rfl, p, a, b, n, sc, rs, rfl, S1, fun H3 v c s3 p3 dv kc => ?_⟩
      have eL3 := s3 _ _ npL.symm eL
      have st3 := SameB.potst (K := K) s3 pt1
      have dL3 := Da.stAll st3 _ _ (imm_chs cs) dL
      refine ⟨fun σ' H4 => ∃ (v' : V) (c' : PK × Int) (y9 : Option V), σ' = [some (.ref p), some (.ref a), some (.ref b), some (.int (n : Nat)), some (.int (M : Nat)), some (.int mn), some (.ref L), some (.int (0 + (i : Nat))), some v', y9] ∧ SameB p H3 H4 ∧ PotAt H4 p ∧ H4 L = some (.lst acc) ∧ Da K H4 v' (chD c') ∧ KIn n sc c'.1, ?_, ?_⟩
      · refine ⟨.ref L, rfl, !acc.isEmpty, .inl ⟨_, SqL.of eL3, rfl⟩, ?_⟩
        refine ite2 (fun z => ?_) (fun z => ?_)
        · have hne : acc ≠ [] := by
            rintro rfl
            cases z
          have lacc : acc.length = cs.length := by simpa using dL.length
          refine ⟨.ref p, rfl, p, 8, rfl, p3, by decide, by decide, fun H4 r4 s4 p4 _ _ => ⟨rfl, _, rfl, ite2 (fun z2 => ?_) (fun z2 => ⟨v, c, y9, rfl, s4, p4, s4 _ _ npL.symm eL3, Da.st (SameB.potst s4 p3) _ _ (imm_chD c) dv, kc⟩)⟩⟩
          have eL4 := s4 _ _ npL.symm eL3
          have pos : 0 < acc.length := List.length_pos_iff.mpr hne
          refine ⟨.ref L, rfl, .ref p, rfl, .ref L, rfl, L, acc, rfl, .inl (SqL.of eL4), p, _, rfl, p4, by omega, by omega, fun H5 r5 s5 p5 a0 a1 => ?_⟩
          have eL5 := s5 _ _ npL.symm eL4
          have st35 : ST K H3 H5 := (SameB.potst s4 p3).trans (SameB.potst s5 p4)
          have hlt : r5.toNat < acc.length := by omega
          obtain ⟨dd, g1, g2⟩ := dL3.get (i := r5.toNat) (v := acc[r5.toNat]) (by simp [hlt])
          obtain ⟨c0, hc0, rfl⟩ := ch_at g1
          obtain ⟨t, y, z', et, ht, hy, hz⟩ := chD_inv (Da.st st35 _ _ (imm_chD c0) g2)
          refine ⟨L, acc, r5, acc[r5.toNat], rfl, rfl, SqL.of eL5, at_of (j := r5.toNat) (by omega) (by simp [hlt]), ?_⟩
          rw [et]
          refine ⟨.ref t, rfl, t, _, 0, y, rfl, rfl, SqT.of ht, atI_nat (j := 0) rfl, .ref t, rfl, t, _, 1, z', rfl, rfl, SqT.of ht, atI_nat (j := 1) rfl, .ref t, rfl, t, _, 2, .int c0.2, rfl, rfl, SqT.of ht, atI_nat (j := 2) rfl, _, _, rfl, rfl, by show 3 ≤ sizeLine; decide, fun g hg => ?_⟩
          have e6 := same_upd (o := .tup [y, z', .int (0 - c0.2)]) hg
          exact ⟨.ref g, (c0.1, 0 - c0.2), some (.ref t), rfl, (s4.trans s5).trans e6.b, p5.same e6, e6 _ _ eL5, chD_of (c := (c0.1, 0 - c0.2)) upd_same (Mo.same hy e6) (Mo.same hz e6), hc c0 (List.mem_of_getElem? hc0)⟩
        · exact iteF ⟨v, c, y9, rfl, SameB.refl _ _, p3, eL3, dv, kc⟩
      · rintro σ' H4 ⟨v', c', z9, rfl, s4, p4, eL4, dv', kc'⟩
        refine ⟨.ref L, rfl, .inl ⟨rfl, _, SqL.of eL4⟩, v', rfl, L, _, _, rfl, rfl, eL4, ?_, _, _, _, acc ++ [v'], cs ++ [c'], rfl, ((e.trans s3).trans s4).mut nL, p4.upd npL, upd_same, ?_, by simp [hl], fun c hc' => ?_⟩
        · rw [dL.length, List.length_map, hl]
          exact Nat.lt_of_lt_of_le hi100 (by decide)
        · have st5 : ST K H4 (L2.upd H4 L (.lst (acc ++ [v']))) := st_upd eL4 True.intro
          rw [List.map_append]
          exact DaAll.snoc (Da.st st5 _ _ (imm_chD c') dv') (Da.stAll ((SameB.potst s4 p3).trans st5) _ _ (imm_chs cs) dL3)
        · rcases List.mem_append.mp hc' with h | h
          · exact hc c h
          · rw [List.mem_singleton.mp h]
            exact kc'
    · obtain ⟨y7, y8, y9, acc, cs, rfl, e, pt1, eL, dL, hl, hc⟩ := pv'
      exact ⟨.ref L, rfl, q H' L cs e pt1 nL ⟨L, acc, rfl, eL, dL⟩ (by omega) hc⟩
end
end K11

namespace K11
open PySem PySem.Spec PyProof.Rows L2 NSet
theorem mos_of : ∀ {es : List PyData}, (∀ e ∈ es, ∃ m : List Int, e = mo m) → ∃ ms : List (List Int), es = ms.map mo
  | [], _ => ⟨[], rfl⟩
  | e :: es, h => by
    obtain ⟨m, rfl⟩ := h e List.mem_cons_self
    obtain ⟨ms, rfl⟩ := mos_of fun d hd => h d (List.mem_cons_of_mem _ hd)
    exact ⟨m :: ms, rfl⟩
/-- a pair of a key and a count as data -/
def pcD (q : PK × Int) : PyData := .tuple [pairD q.1, .int q.2]
theorem imm_pcD (q : PK × Int) : imm (pcD q) = true := by
  show (imm (pairD q.1) && (imm (.int q.2) && true)) = true
  rw [show imm (pairD q.1) = true from pairK.imm q.1]
  rfl
theorem imm_pcs (qs : List (PK × Int)) : immAll (qs.map pcD) = true := immAll_of fun d hd => by
  obtain ⟨c, _, rfl⟩ := List.mem_map.mp hd
  exact imm_pcD c
theorem pcs_pairs {K : PySem.W.Frag} {H : Hp} : ∀ {qs : List (PK × Int)} {acc : List V}, DaAll K H acc (qs.map pcD) → Paired (PairA pairK K H) acc qs
  | [], _, h => by
    cases h
    exact .nil
  | q :: qs, _, h => by
    cases h with
    | cons h1 h2 =>
      refine .cons ?_ (pcs_pairs h2)
      cases h1 with
      | tup hs ha =>
        cases ha with
        | cons a1 t =>
          cases t with
          | cons a2 t =>
            cases t
            cases a2
            exact ⟨_, _, rfl, hs, a1⟩
theorem pcD_of {K : PySem.W.Frag} {H : Hp} {t : Addr} {y : V} {q : PK × Int} (h : H t = some (.tup [y, .int q.2])) (h1 : Da K H y (pairD q.1)) : Da K H (.ref t) (pcD q) := .tup h (.cons h1 (.cons (.int _) .nil))
section
variable {P : Program} {w : World} {K : PySem.W.Frag} {mg : Str → Option Value} {base : Heap} {C CH : Addr}
def spHMoments (K : PySem.W.Frag) (w : World) (C : Addr) : Sp := fun vs H Q _ => ∃ (v : V) (n : Nat) (T : List (PK × Int)), vs = [v] ∧ HistAt K w C H v n T ∧ T.length < 77 ∧
  ∀ H' a S, Same H H' → H a = none → MoL K H' (.ref a) S → S.Pairwise (fun x y => ltK rowK x y = true) → (∀ m, m ∈ S ↔ ∃ q ∈ T, q.1.1 = m) → Q (.ref a) H'
theorem d_History_moments (B : Bt mg) (X : TxH K C) (T : TopM K C "moments" "History.moments" sHistory_moments ["self"]) : MethD P w K mg base C "moments" 1 ["self"] (spHMoments K w C) := by
  refine mk_meth T scHistory_moments (by rintro _ _ _ _ ⟨_, _, _, rfl, _⟩; rfl) fun f cdv A outer s H vs Q E hr h => ?_
  obtain ⟨v, n, T, rfl, ⟨p, dx, c, rfl, r⟩, hT, q⟩ := h
  obtain ⟨Lr, e, R, nd, hl⟩ := r.tal
  refine ⟨_, (pss_one (ps_ret (pe_callB (NSet.cr_sortSN rfl (hu24 hr)) (by rfl) B.m_sorted (by decide +kernel) (pa_cons (pe_lock (NSet.pe_scN (own := [("moment", 1), ("_", 2)]) (g := (gTup K 2 (gCons (gName 1) (gCons (gName 2) gNil)))) (tt := tYes) (te := (tVar 1)) rfl (hu24 hr) scHistory_moments.nd (NSet.pi_keysV (pe_fld (pv 0) rfl)) (blkOk_by (own := [("moment", 1), ("_", 2)]) (N := NHistory_moments) (sc := defScope sHistory_moments) (by decide +kernel)) (fun _ _ _ _ _ => (pg_tup rfl (pgs_cons (pg_name (i := 1) scHistory_moments.nd rfl (Or.inl rfl)) (pgs_cons (pg_name (i := 2) scHistory_moments.nd rfl (Or.inl rfl)) pgs_nil)))) (fun _ _ _ _ _ => pts_nil) (fun _ _ _ _ _ => (pv 1)))) pa_nil)))), ?_⟩
  refine ⟨c, _, e, True.intro, fun od => ?_⟩
  have npc : p ≠ c := ne_of r.ins e (fun z => nomatch z)
  have hz : L2.upd H c (.frz od (DictVO w c Lr)) c = some (.frz od (DictVO w c Lr)) := upd_same
  have hp : L2.upd H c (.frz od (DictVO w c Lr)) p = some (.ins C dx (hiF n c)) := by rw [upd_ne npc]; exact r.ins
  have R1 : Rows pairK K (L2.upd H c (.frz od (DictVO w c Lr))) Lr (ivs T) := R.st (st_upd e no_ext)
  have lR : Lr.length = T.length := by rw [plen R, ivs_len]
  refine ⟨.ref p, rfl, p, C, dx, _, _, rfl, hp, X.cl, X.nC, hiF_c n c, c, od, Lr, rfl, hz, fun D hD => ?_⟩
  have nDc : D ≠ c := (ne_of_none hz hD).symm
  refine sc_if (K := K) (walk_keysV (L := Lr)) hD (by omega) (fun H2 e2 => e2 _ _ hz) (fun _ => true) (fun i => mo ((T[i]?.map (·.1.1)).getD [])) (fun i _ _ => ⟨imm_mo _, Nat.le_trans (kOf_depth _) (Nat.le_trans (mo_dp _) (by decide))⟩) (fun i x H2' H2 Q2 Rr hi e2 y k1 k2 => ?_) (fun H2 L es e2 eD mD h1 h2 h3 => ?_)
  · obtain ⟨rfl, r', hk, rfl⟩ := y
    obtain ⟨p0, hp0, hr', _⟩ := rows_at (R1.st e2.st) hk
    obtain ⟨q', hq', rfl⟩ := ivs_get hp0
    obtain ⟨t, y, z, et, ht, hy, hz'⟩ := pair_inv hr'
    refine ⟨t, _, et, SqT.of ht, rfl, _, _, rfl, _, _, rfl, rfl, ?_⟩
    refine ⟨rfl, ?_⟩
    show if true = true then _ else Rr H2
    refine iteT ⟨y, rfl, k1 y H2 rfl (Same.refl _) ?_⟩
    obtain ⟨b, rfl, _⟩ := hy.trk
    refine ⟨b, rfl, ?_⟩
    rw [hq']
    exact hy
  · obtain ⟨ms, rfl⟩ := mos_of fun e he => by
      obtain ⟨i, _, _, rfl⟩ := h1 e he
      exact ⟨_, rfl⟩
    refine ⟨e2 _ _ hz, ?_⟩
    have st3 : ST K H2 (L2.upd H2 c (DictVO w c Lr)) := st_upd (e2 _ _ hz) True.intro
    have s3 := same_unlock e e2
    refine ⟨D, L, ms.map rowK.enc, rfl, by rw [upd_ne nDc]; exact eD, Da.stAll st3 _ _ (imm_mos _) mD.1, mD.2, fun d hd => ?_, sorts_of _, fun l ys M nl pm nM so dM => ?_⟩
    · obtain ⟨m, _, rfl⟩ := List.mem_map.mp hd
      exact rowK.dep m
    · obtain ⟨S, hS1, hS2⟩ := NSet.perm_lift mo pm ms rfl
      subst hS2
      have nS : S.Nodup := List.Pairwise.of_map mo (fun _ _ ne e => ne (congrArg _ e)) nM
      have so' := List.pairwise_map.mp so
      have aS : S.Pairwise fun x y => ltK rowK x y = true := (so'.and nS).imp fun {x y} ⟨a, b⟩ => by
        cases e : ltK rowK x y with
        | true => rfl
        | false => exact absurd (ordRow.tot x y e a) b
      refine q _ l S (s3.trans (same_upd nl)) (s3.new nl) ⟨l, ys, rfl, upd_same, dM⟩ aS fun m => ⟨fun hm => ?_, fun hm => ?_⟩
      · have hm2 : mo m ∈ ms.map mo := List.mem_map.mpr ⟨m, hS1.mem_iff.mp hm, rfl⟩
        obtain ⟨i, hi, _, ei⟩ := h1 _ hm2
        have hi2 : i < T.length := by omega
        rw [List.getElem?_eq_getElem hi2] at ei
        exact ⟨T[i], List.getElem_mem hi2, (mo_inj ei).symm⟩
      · obtain ⟨q', hq', rfl⟩ := hm
        obtain ⟨i, hi⟩ := List.getElem?_of_mem hq'
        have hi2 := (List.getElem?_eq_some_iff.mp hi).1
        have := h2 i (by omega) rfl
        rw [mD.2, kOfs_map] at this
        obtain ⟨e', he', ee⟩ := List.mem_map.mp this
        rw [hi] at ee
        obtain ⟨m', hm', rfl⟩ := List.mem_map.mp he'
        have := kOf_inj _ _ (keyed_mo _) (keyed_mo _) ee
        have : m' = q'.1.1 := mo_inj this
        rw [← this]
        exact hS1.mem_iff.mpr hm'
/-- the moments sent on by f -/
def mapT (f : List Int → List Int) (T : List (PK × Int)) : List (PK × Int) := T.map fun p => ((f p.1.1, p.1.2), p.2)
theorem mapT_len (f : List Int → List Int) (T : List (PK × Int)) : (mapT f T).length = T.length := List.length_map ..
/-- the folds of the first moments -/
structure FoldsAt (K : PySem.W.Frag) (w : World) (H : Hp) (D : Addr) (g : List Int → List Int) (S : List (List Int)) : Prop where
  at' : ∃ Lr L, H D = some (DictVO w D Lr) ∧ Rows rowK K H Lr L ∧ L.map (·.1) = S ∧ ∀ p ∈ L, Mo K H p.2 (g p.1)
theorem FoldsAt.same {H H' : Hp} {D : Addr} {g : List Int → List Int} {S : List (List Int)} (h : FoldsAt K w H D g S) (e : Same H H') : FoldsAt K w H' D g S := by
  obtain ⟨Lr, L, h1, h2, h3, h4⟩ := h
  exact ⟨Lr, L, e _ _ h1, h2.st e.st, h3, fun p hp => Mo.same (h4 p hp) e⟩
theorem FoldsAt.get {H : Hp} {D : Addr} {g : List Int → List Int} {S : List (List Int)} {y : V} {m : List Int} (h : FoldsAt K w H D g S) (hy : Mo K H y m) (hm : m ∈ S) : ∃ v, DGetV K w H D y (some v) ∧ Mo K H v (g m) := by
  obtain ⟨Lr, L, h1, h2, h3, h4⟩ := h
  have hg := dgetA (E := rowK) (.inl h1) h2 hy
  cases hf : L.find? (fun p => decide (p.1 = m)) with
  | none =>
    rw [← h3] at hm
    obtain ⟨p, hp, e⟩ := List.mem_map.mp hm
    have := List.find?_eq_none.mp hf p hp
    simp [e] at this
  | some p =>
    have hp := List.mem_of_find?_eq_some hf
    have e : p.1 = m := of_decide_eq_true (List.find?_some (p := fun p : List Int × V => decide (p.1 = m)) hf)
    have hv : valA (E := rowK) L m = some p.2 := by
      unfold valA
      rw [hf]
      rfl
    rw [hv] at hg
    refine ⟨p.2, hg, ?_⟩
    rw [← e]
    exact h4 p hp
def spFolded (K : PySem.W.Frag) (w : World) (C CH : Addr) : Sp := fun vs H Q _ => ∃ (v u : V) (n : Nat) (L : List (List Int)) (T : List (PK × Int)), vs = [v, u] ∧ HistAt K w CH H v n T ∧ FrontAt K C H u n L ∧ 1 ≤ n ∧ n ≤ 4 ∧ T.length < 77 ∧
  ∀ H' y R, Same H H' → HistAt K w CH H' y n R → (∀ k, Tl.cnt R k = Tl.cnt (mapT (foldL L) T) k) → R.length ≤ T.length → Q y H'
theorem d_History_folded (B : Bt mg) (X : TxH K CH) (XF : TxF K C) (ClH : Cls K CH) (Cl : Cls K C) (T : TopM K CH "folded" "History.folded" sHistory_folded ["self", "front"])
    (Dcheck_like_axes : Def P w K mg base "check_like_axes" 1 ["left", "right"] spLike) (MHmoments : MethD P w K mg base CH "moments" 1 ["self"] (spHMoments K w CH)) (Mfold : MethD P w K mg base C "fold" 2 ["self", "moment"] (spFold K C)) (Dtally_of : Def P w K mg base "tally_of" 2 ["pairs"] (spTally K w)) (Dhistory_of_tally : Def P w K mg base "history_of_tally" 6 ["axes", "counts"] (spHot K w CH)) : MethD P w K mg base CH "folded" 7 ["self", "front"] (spFolded K w C CH) := by
  refine mk_meth T scHistory_folded (by rintro _ _ _ _ ⟨_, _, _, _, _, rfl, _⟩; rfl) fun f cdv A outer s H vs Q E hr h => ?_
  obtain ⟨v, u, n, L, T, rfl, ⟨p, dx, c, rfl, r⟩, hF, hn1, hn4, hT, q⟩ := h
  obtain ⟨pf, dxf, df, lf, rfl, f1, f2, f3, f4, f5⟩ := id hF
  refine ⟨_, (pss_cons (ps_expr (pe_def Dcheck_like_axes (hr.mono (by first | decide | omega)) (by rfl) (pa_cons (pe_fld (pv 0) rfl) (pa_cons (pe_fld (pv 1) rfl) pa_nil))))
      (pss_cons (ps_set (i := 2) scHistory_folded.nd rfl (Or.inr rfl) (NSet.pe_dcV (hu24 hr) (own := [("moment", 3)]) (g := (gName 3)) (tt := tYes) (tk := (tVar 3)) (tv := (tMeth C "fold" (spFold K C) [] E0 (tVar 1) (tCons (tVar 3) tNil))) rfl scHistory_folded.nd (pi_list (pe_methM0 (pv 0) ClH MHmoments (hr.mono (by first | decide | omega)))) (blkOk_by (own := [("moment", 3)]) (N := NHistory_folded) (sc := defScope sHistory_folded) (by decide +kernel)) (fun _ _ _ _ _ => (pg_name (i := 3) scHistory_folded.nd rfl (Or.inl rfl))) (fun _ _ _ _ _ => pts_nil) (fun _ _ _ _ _ => (pv 3)) (fun _ _ _ _ _ => (pe_methM (pv 1) Cl Mfold (hr.mono (by first | decide | omega)) (pa_cons (pv 3) pa_nil)))))
      (pss_cons (ps_lock (ps_setLc (i := 4) (own := [("at", 5), ("row", 6)]) (g := (gTup K 2 (gCons (gName 5) (gCons (gName 6) gNil)))) (tt := tYes) (te := (tTup (tCons (tTup (tCons (NSet.tDGetV K w (tVar 2) (tVar 5)) (tCons (tVar 6) tNil))) (tCons (NSet.tDGetV K w (tFld K (tVar 0) "_counts") (tTup (tCons (tVar 5) (tCons (tVar 6) tNil)))) tNil)))) rfl scHistory_folded.nd rfl rfl (sw_true rfl rfl rfl (by decide +kernel)) (NSet.pi_keysV (pe_fld (pv 0) rfl)) (blkOk_by (own := [("at", 5), ("row", 6)]) (N := NHistory_folded) (sc := defScope sHistory_folded) (by decide +kernel)) (fun _ _ _ _ _ => (pg_tup rfl (pgs_cons (pg_name (i := 5) scHistory_folded.nd rfl (Or.inl rfl)) (pgs_cons (pg_name (i := 6) scHistory_folded.nd rfl (Or.inl rfl)) pgs_nil)))) (fun _ _ _ _ _ => pts_nil) (fun _ _ _ _ _ => (pe_tup (pa_cons (pe_tup (pa_cons (NSet.pe_dgetV (hu24 hr) (pv 2) (pv 5) (fun _ _ => rfl)) (pa_cons (pv 6) pa_nil))) (pa_cons (NSet.pe_dgetV (hu24 hr) (pe_fld (pv 0) rfl) (pe_tup (pa_cons (pv 5) (pa_cons (pv 6) pa_nil))) (fun _ _ => rfl)) pa_nil))))))
      (pss_one (ps_ret (pe_def Dhistory_of_tally (hr.mono (by first | decide | omega)) (by rfl) (pa_cons (pe_fld (pv 0) rfl) (pa_cons (pe_def Dtally_of (hr.mono (by first | decide | omega)) (by rfl) (pa_cons (pv 4) pa_nil)) pa_nil)))))))), ?_⟩
  refine ⟨.ref p, rfl, p, CH, dx, _, _, rfl, r.ins, X.cl, X.nA, hiF_axes n c, .ref pf, rfl, pf, C, dxf, _, _, rfl, f1, XF.cl, XF.nA, frF_axes n df, (n : Nat), rfl, fun H1 s1 => ?_⟩
  refine ⟨.ref p, rfl, p, dx, _, rfl, s1 _ _ r.ins, hiF_no n c (by decide +kernel) (by decide +kernel), .ref p, n, T, rfl, ⟨p, dx, c, rfl, s1 _ _ r.ins, r.tal.same s1, r.fin, r.ok⟩, hT, fun H2 a S s2 na hS aS mS => ?_⟩
  obtain ⟨_, lv, ea, el, dl⟩ := hS
  cases ea
  have s12 := s1.trans s2
  refine ⟨a, rfl, ⟨_, SqL.of el⟩, fun D hD => ?_⟩
  have ll : lv.length = S.length := by simpa using dl.length
  have okS : ∀ m ∈ S, Ok n m := fun m hm => by
    obtain ⟨q', hq', rfl⟩ := (mS m).mp hm
    exact (r.ok q' hq').1
  have nS : S.Nodup := aS.imp fun {x y} h e => by
    rw [e, ltK_irr] at h
    cases h
  have lenS : S.length ≤ 5000 := by
    have := List.Nodup.length_le_of_subset nS (l₂ := T.map fun q => q.1.1) fun m hm => by
      obtain ⟨q', hq', e⟩ := (mS m).mp hm
      exact List.mem_map.mpr ⟨q', hq', e⟩
    rw [List.length_map] at this
    omega
  refine dcV_it (K := K) (walk_list (K := K) (a := a) (xs := lv)) (fun i H' => Same H2 H' ∧ FoldsAt K w H' D (foldL L) (S.take i)) ⟨same_upd hD, [], [], upd_same, .nil, rfl, fun p hp => nomatch hp⟩ (fun i H' _ pv => SqL.of (pv.1 _ _ el)) (fun i x H3' H3 hi pv y => ?_) (fun H3 pv => ?_)
  · obtain ⟨rfl, hx⟩ := y
    obtain ⟨e3, Lr, Lv, g1, g2, g3, g4⟩ := pv
    obtain ⟨d, hd1, hd2⟩ := dl.get hx
    obtain ⟨m, hm, rfl⟩ := mo_at hd1
    have hmx := Mo.same hd2 e3
    have s123 := s12.trans e3
    refine ⟨rfl, ?_⟩
    show if true = true then _ else (Same H2 H3 ∧ FoldsAt K w H3 D (foldL L) (S.take (i + 1)))
    refine iteT ⟨x, rfl, .ref pf, rfl, pf, dxf, _, rfl, s123 _ _ f1, frF_no n df (by decide +kernel) (by decide +kernel), x, rfl, .ref pf, x, n, L, m, rfl, hF.same s123, hmx, okS m (List.mem_of_getElem? hm), hn1, hn4, fun H4 y s4 hy => ?_⟩
    have lt : Lv.length < sizeLine := by
      have : Lv.length = (S.take i).length := by rw [← g3, List.length_map]
      rw [this]
      exact Nat.lt_of_le_of_lt (Nat.le_trans (List.length_take_le' _ _) lenS) (by decide)
    have hD4 := s4 _ _ g1
    obtain ⟨Lr2, put, rows⟩ := dputA (E := rowK) (v := y) hD4 (g2.st s4.st) (Mo.same hmx s4) lt
    have st5 : ST K H4 (L2.upd H4 D (DictVO w D Lr2)) := st_upd hD4 True.intro
    have hnew : m ∉ Lv.map (·.1) := by
      rw [g3]
      intro hin
      have n2 : (S.take (i + 1)).Nodup := nS.sublist (List.take_sublist _ _)
      rw [List.take_add_one, hm, Option.toList_some] at n2
      exact (List.nodup_append.mp n2).2.2 m hin m (List.mem_singleton.mpr rfl) rfl
    rw [putA_new hnew] at rows
    refine ⟨_, put, (e3.trans s4).mut hD, Lr2, _, upd_same, rows, ?_, fun p hp => ?_⟩
    · rw [List.map_append, g3, List.take_add_one, hm]
      rfl
    · rcases List.mem_append.mp hp with hp | hp
      · exact Mo.st (Mo.same (g4 p hp) s4) st5
      · rw [List.mem_singleton.mp hp]
        exact Mo.st hy st5
  · obtain ⟨e3, pv⟩ := pv
    rw [ll, List.take_length] at pv
    have s123 := s12.trans e3
    have ep3 := s123 _ _ r.ins
    obtain ⟨Lr, e, R, nd, hl⟩ := r.tal.same s123
    refine ⟨c, _, e, True.intro, fun od => ?_⟩
    have npc : p ≠ c := ne_of ep3 e (fun z => nomatch z)
    have hz : L2.upd H3 c (.frz od (DictVO w c Lr)) c = some (.frz od (DictVO w c Lr)) := upd_same
    have hp : L2.upd H3 c (.frz od (DictVO w c Lr)) p = some (.ins CH dx (hiF n c)) := by rw [upd_ne npc]; exact ep3
    have st4 : ST K H3 (L2.upd H3 c (.frz od (DictVO w c Lr))) := st_upd e no_ext
    have R1 : Rows pairK K (L2.upd H3 c (.frz od (DictVO w c Lr))) Lr (ivs T) := R.st st4
    have lR : Lr.length = T.length := by rw [plen R, ivs_len]
    have ncD : D ≠ c := by
      obtain ⟨Lr', Lv', g1, _⟩ := id pv
      rintro rfl
      have := s12 _ _ (show H D = some _ from (r.tal.choose_spec).1)
      rw [hD] at this
      cases this
    have pv4 : FoldsAt K w (L2.upd H3 c (.frz od (DictVO w c Lr))) D (foldL L) S := by
      obtain ⟨Lr', Lv', g1, g2, g3, g4⟩ := pv
      exact ⟨Lr', Lv', by rw [upd_ne ncD]; exact g1, g2.st st4, g3, fun p hp => Mo.st (g4 p hp) st4⟩
    refine ⟨.ref p, rfl, p, CH, dx, _, _, rfl, hp, X.cl, X.nC, hiF_c n c, c, od, Lr, rfl, hz, fun D2 hD2 => ?_⟩
    have nD2c : D2 ≠ c := (ne_of_none hz hD2).symm
    have eHc : H3 c = some (DictVO w c Lr) := e
    have hun : ∀ H', Same (L2.upd H3 c (.frz od (DictVO w c Lr))) H' → Same H3 (L2.upd H' c (DictVO w c Lr)) := fun H' e2 => same_unlock eHc e2
    generalize L2.upd H3 c (.frz od (DictVO w c Lr)) = H4 at hz hp R1 pv4 hD2 hun ⊢
    refine lc_dat (K := K) (walk_keysV (L := Lr)) hD2 (by omega) (fun H5 e5 => e5 _ _ hz) ((mapT (foldL L) T).map pcD) (by rw [List.length_map, mapT_len, lR]) (imm_pcs _) (fun i x H5' H5 Q' hi e5 y k => ?_) (fun H5 acc e5 eD2 dD => ?_)
    · obtain ⟨rfl, r', hk, rfl⟩ := y
      obtain ⟨p0, hp0, hr', _⟩ := rows_at (R1.st e5.st) hk
      obtain ⟨q', hq', rfl⟩ := ivs_get hp0
      have qin : q' ∈ T := List.mem_of_getElem? hq'
      obtain ⟨t, y, z, et, ht, hy, hz'⟩ := pair_inv hr'
      obtain ⟨fv, hfv, mfv⟩ := (pv4.same e5).get hy ((mS _).mpr ⟨q', qin, rfl⟩)
      refine ⟨t, _, et, SqT.of ht, rfl, _, _, rfl, _, _, rfl, rfl, ?_⟩
      refine ⟨rfl, .ref D, rfl, y, rfl, D, fv, rfl, hfv, z, rfl, by show 2 ≤ sizeLine; decide, fun g hg => ?_⟩
      have s6 := same_upd (o := .tup [fv, z]) hg
      refine ⟨.ref p, rfl, p, CH, dx, _, _, rfl, s6 _ _ (e5 _ _ hp), X.cl, X.nC, hiF_c n c, y, rfl, z, rfl, by show 2 ≤ sizeLine; decide, fun g2 hg2 => ?_⟩
      have s7 := s6.trans (same_upd (o := .tup [y, z]) hg2)
      have s57 := e5.trans s7
      have hk7 : Da K (L2.upd (L2.upd H5 g (.tup [fv, z])) g2 (.tup [y, z])) (.ref g2) (pairD q'.1) := pair_of upd_same (Mo.same hy s7) (Mo.same hz' s7)
      refine ⟨c, .int q'.2, rfl, get_walk (E := pairK) (od := od) (.inr ⟨od, s57 _ _ hz⟩) (R1.st s57.st) nd hk7 qin, by show 2 ≤ sizeLine; decide, fun g3 hg3 => ?_⟩
      have s8 := s7.trans (same_upd (o := .tup [.ref g, .int q'.2]) hg3)
      have eg : L2.upd (L2.upd (L2.upd H5 g (.tup [fv, z])) g2 (.tup [y, z])) g3 (.tup [.ref g, .int q'.2]) g = some (.tup [fv, z]) := (same_upd hg3) _ _ ((same_upd hg2) _ _ upd_same)
      refine k _ _ (pcD ((foldL L q'.1.1, q'.1.2), q'.2)) s8 ?_ (pcD_of upd_same (pair_of eg (Mo.same mfv s8) (Mo.same hz' s8)))
      unfold mapT
      rw [List.map_map, List.getElem?_map, hq']
      rfl
    · have n3D2 : H4 D2 = none := hD2
      refine ⟨e5 _ _ hz, ?_⟩
      have s6 := hun H5 e5
      have st6 : ST K H5 (L2.upd H5 c (DictVO w c Lr)) := st_upd (e5 _ _ hz) True.intro
      have eD6 : L2.upd H5 c (DictVO w c Lr) D2 = some (.lst acc) := by rw [upd_ne nD2c]; exact eD2
      have dD6 := Da.stAll st6 _ _ (imm_pcs _) dD
      generalize L2.upd H5 c (DictVO w c Lr) = H6 at s6 eD6 dD6 ⊢
      refine ⟨.ref p, rfl, p, CH, dx, _, _, rfl, s6 _ _ ep3, X.cl, X.nA, hiF_axes n c, ?_⟩
      refine ⟨.ref D2, rfl, pairK, D2, acc, mapT (foldL L) T, rfl, eD6, pcs_pairs dD6, by rw [mapT_len]; omega, fun H7 b U s7 nb tU fU cU kU => ?_⟩
      have kL : U.length ≤ T.length := by
        have := fin_len (ps := mapT (foldL L) T) fU kU
        rwa [mapT_len] at this
      refine ⟨n, b, U, rfl, hn1, hn4, tU, fU, fun q' hq' => ?_, fun H8 y s8 hy => q H8 y U (((s123.trans s6).trans s7).trans s8) hy cU kL⟩
      obtain ⟨z, hz', ez⟩ := List.mem_map.mp (kU q' hq')
      obtain ⟨z0, hz0, rfl⟩ := List.mem_map.mp hz'
      rw [← ez]
      exact ⟨foldL_ok (r.ok z0 hz0).1 f4, (r.ok z0 hz0).2⟩
end
end K11

namespace K11
open PySem PySem.Spec PyProof.Rows L2 NSet
theorem tal_one {m : List Int} {T : List (List Int × Int)} (f : Tl.Fin T) (h : ∀ k, Tl.cnt T k = Tl.cnt [(m, (1 : Int))] k) : T = [(m, 1)] := by
  have g : Tl.Fin [(m, (1 : Int))] := ⟨by simp [Tl.keys], fun p hp => by
    rw [List.mem_singleton.mp hp]
    show (1 : Int) ≠ 0
    decide⟩
  exact List.perm_singleton.mp (f.perm g h)
theorem tal_none {κ : Type} [DecidableEq κ] {T : List (κ × Int)} (f : Tl.Fin T) (h : ∀ k, Tl.cnt T k = 0) : T = [] := by
  cases T with
  | nil => rfl
  | cons p T =>
    have h1 := Tl.cnt_in f.nd (List.mem_cons_self (a := p) (l := T))
    rw [h] at h1
    exact absurd h1.symm (f.nz p List.mem_cons_self)
section
variable {P : Program} {w : World} {K : PySem.W.Frag} {mg : Str → Option Value} {base : Heap} {C CH : Addr}
def spUpward (K : PySem.W.Frag) (w : World) : Sp := fun vs H Q _ => ∃ (a : Addr) (v : V) (m : List Int), vs = [.ref a] ∧ H a = some (.lst [v]) ∧ Mo K H v m ∧ ∀ H' b, Same H H' → H b = none → TalAt rowK K w H' b [(m, 1)] → Q (.ref b) H'
theorem d_upward (B : Bt mg) (T : Top K mg "upward" supward ["moments"]) (Djoin_of : Def P w K mg base "join_of" 1 ["first", "second"] (spM K joinL)) (Dtally_of : Def P w K mg base "tally_of" 2 ["pairs"] (spTally K w)) (Dplus : Def P w K mg base "plus" 2 ["first", "second"] (spPlus K w)) : Def P w K mg base "upward" 3 ["moments"] (spUpward K w) := by
  refine mk_def T scupward (by rintro _ _ _ _ ⟨_, _, _, rfl, _⟩; rfl) fun f cdv A outer s H vs Q E hr h => ?_
  obtain ⟨a, v, m, rfl, ha, hm, q⟩ := h
  refine ⟨_, (pss_cons (ps_set (i := 1) scupward.nd rfl (Or.inr rfl) (NSet.pe_dnewV))
      (pss_cons (ps_for PassesOwn.never rfl (pi_list (pv 0)) (pg_name (i := 2) scupward.nd rfl (Or.inr rfl)) (pss_cons (ps_set (i := 3) scupward.nd rfl (Or.inl rfl) (pe_def Dtally_of (hr.mono (by first | decide | omega)) (by rfl) (pa_cons (pe_lock (pe_lc (own := [("earlier", 4)]) (g := (gName 4)) (tt := tYes) (te := (tTup (tCons (tCall (spM K joinL) [] E0 (tCons (tVar 4) (tCons (tVar 2) tNil))) (tCons (tUn yNeg (NSet.tDGetV K w (tVar 1) (tVar 4))) tNil)))) rfl scupward.nd (NSet.pi_keysV (pv 1)) (blkOk_by (own := [("earlier", 4)]) (N := Nupward) (sc := defScope supward) (by decide +kernel)) (fun _ _ _ _ _ => (pg_name (i := 4) scupward.nd rfl (Or.inl rfl))) (fun _ _ _ _ _ => pts_nil) (fun _ _ _ _ _ => (pe_tup (pa_cons (pe_def Djoin_of (hr.mono (by first | decide | omega)) (by rfl) (pa_cons (pv 4) (pa_cons (pv 2) pa_nil))) (pa_cons (pe_un un_neg (NSet.pe_dgetV (hu24 hr) (pv 1) (pv 4) (fun _ _ => rfl))) pa_nil)))))) pa_nil)))
      (pss_one (ps_set (i := 1) scupward.nd rfl (Or.inr rfl) (pe_def Dplus (hr.mono (by first | decide | omega)) (by rfl) (pa_cons (pe_def Dplus (hr.mono (by first | decide | omega)) (by rfl) (pa_cons (pv 1) (pa_cons (NSet.pe_dispV1 (hu24 hr) (pps_cons (pv 2) pe_int pps_nil) (by rfl) (by rfl) (fun z => by cases z) (by decide)) pa_nil))) (pa_cons (pv 3) pa_nil)))))))
      (pss_one (ps_ret (pv 1))))), ?_⟩
  intro s0 hs0
  have e0 : Same H (L2.upd H s0 (DictVO w s0 [])) := same_upd hs0
  refine ⟨.ref a, rfl, a, rfl, ⟨_, SqL.of (e0 _ _ ha)⟩, ?_⟩
  refine for_list (xs := [v]) (fun i σ H' => ∃ sa y2 y3 y4, σ = [some (.ref a), some (.ref sa), y2, y3, y4] ∧ Same H H' ∧ H sa = none ∧ TalAt rowK K w H' sa (if i = 0 then [] else [(m, 1)])) ⟨s0, none, none, none, rfl, e0, hs0, ⟨[], upd_same, .nil, List.Pairwise.nil, Nat.zero_le _⟩⟩ (fun i σ H' _ pv' => ?_) (fun i x σ H' hxi pv' => ?_) (fun σ H' pv' => ?_)
  · obtain ⟨_, _, _, _, rfl, e, _⟩ := pv'
    exact SqL.of (e _ _ ha)
  · obtain ⟨sa, y2, y3, y4, rfl, e, nsa, t⟩ := pv'
    cases i with
    | succ i => simp at hxi
    | zero =>
      obtain rfl : v = x := by simpa using hxi
      have t0 : TalAt rowK K w H' sa [] := t
      obtain ⟨Lr, es, Rs, _, _⟩ := id t0
      cases Rs
      refine ⟨sa, _, es, True.intro, fun od => ⟨.ref sa, rfl, sa, od, [], rfl, upd_same, fun D hD => ?_⟩⟩
      refine lc_dat (K := K) (walk_keysV (L := [])) hD (Nat.zero_le _) (fun H5 e5 => e5 _ _ upd_same) [] rfl rfl (fun i x H5' H5 Q' hi e5 y k => absurd hi (Nat.not_lt_zero _)) (fun H5 acc e5 eD dD => ?_)
      have hz5 : H5 sa = some (.frz od (DictVO w sa [])) := e5 _ _ upd_same
      refine ⟨hz5, ?_⟩
      have s5 := same_unlock es e5
      have nDs : D ≠ sa := (ne_of_none upd_same hD).symm
      have eD6 : L2.upd H5 sa (DictVO w sa []) D = some (.lst acc) := by rw [upd_ne nDs]; exact eD
      cases dD
      generalize L2.upd H5 sa (DictVO w sa []) = H6 at s5 eD6 ⊢
      refine ⟨rowK, D, [], [], rfl, eD6, .nil, Nat.zero_le _, fun H7 b U s7 nb tU fU cU _ => ?_⟩
      have eU : U = [] := tal_none fU fun k => cU k
      subst eU
      have s07 := (e.trans s5).trans s7
      have t7 := t0.same (s5.trans s7)
      refine ⟨.ref sa, rfl, fun d hd => ⟨v, rfl, ?_⟩⟩
      have s8 := same_upd (o := DictVO w d []) hd
      obtain ⟨Ld, put, rows⟩ := dputA (E := rowK) (K := K) (w := w) (H := L2.upd H7 d (DictVO w d [])) (a := d) (Lr := []) (L := []) (y := v) (v := .int 1) (k := m) upd_same .nil (Mo.same hm (s07.trans s8)) (by show 0 < sizeLine; decide)
      refine ⟨v, .int 1, _, rfl, put, ?_⟩
      rw [upd_upd] at rows ⊢
      have s9 := same_upd (o := DictVO w d Ld) hd
      have td : TalAt rowK K w (L2.upd H7 d (DictVO w d Ld)) d [(m, 1)] := ⟨Ld, upd_same, rows, by simp [Tl.keys], by show 1 ≤ 5000; decide⟩
      refine ⟨rowK, sa, d, [], [(m, 1)], rfl, t7.same s9, td, by show 0 + 1 ≤ 5000; decide, fun H10 c T1 s10 nc tc fc cc _ => ?_⟩
      have eT1 : T1 = [(m, 1)] := tal_one fc fun k => by
        rw [cc k]
        show (0 : Int) + _ = _
        omega
      subst eT1
      refine ⟨.ref b, rfl, rowK, c, b, [(m, 1)], [], rfl, tc, tU.same (s9.trans s10), by show 1 + 0 ≤ 5000; decide, fun H11 c2 T2 s11 nc2 tc2 fc2 cc2 _ => ?_⟩
      have eT2 : T2 = [(m, 1)] := tal_one fc2 fun k => by
        rw [cc2 k]
        show _ + (0 : Int) = _
        omega
      subst eT2
      have sAll := ((s07.trans s9).trans s10).trans s11
      exact ⟨c2, _, _, _, rfl, sAll, ((s07.trans s9).trans s10).new nc2, tc2⟩
  · obtain ⟨sa, y2, y3, y4, rfl, e, nsa, t⟩ := pv'
    exact ⟨.ref sa, rfl, q H' sa e nsa t⟩
end
end K11

namespace K11
open PySem PySem.Spec PyProof.Rows L2 NSet
abbrev SC_History_seen : Scope := { kind := .function, names := [(".0", .local), ("moment", .cell), ("upward", .globalImplicit), ("lows", .cell)], isGenerator := false, isCoroutine := false }
/-- a felt dict: one moment that counts once -/
def OneAt (K : PySem.W.Frag) (w : World) (H : Hp) (d : Addr) (Ld : List DRowV) (m : List Int) : Prop := H d = some (DictVO w d Ld) ∧ Rows rowK K H Ld (ivs [(m, 1)])
/-- all stays but that what X tells may be locked -/
def KeepX (X : Addr → Prop) (H H' : Hp) : Prop := ∀ a o, H a = some o → H' a = some o ∨ (X a ∧ ∃ od, H' a = some (.frz od o))
theorem KeepX.refl (X : Addr → Prop) (H : Hp) : KeepX X H H := fun _ _ h => .inl h
theorem KeepX.same {X : Addr → Prop} {H H1 H2 : Hp} (k : KeepX X H H1) (e : Same H1 H2) : KeepX X H H2 := fun a o h => by
  rcases k a o h with h | ⟨x, od, h⟩
  · exact .inl (e _ _ h)
  · exact .inr ⟨x, od, e _ _ h⟩
theorem KeepX.at {X : Addr → Prop} {H H' : Hp} {a : Addr} {o : HO} (k : KeepX X H H') (n : ¬ X a) (h : H a = some o) : H' a = some o := by
  rcases k a o h with h | ⟨x, _⟩
  · exact h
  · exact absurd x n
theorem KeepX.mut {X : Addr → Prop} {H H' : Hp} {a : Addr} {o : HO} (k : KeepX X H H') (n : H a = none) : KeepX X H (L2.upd H' a o) := fun b u h => by
  rw [upd_ne (ne_of_none h n)]
  exact k b u h
theorem KeepX.lock {X : Addr → Prop} {H H' : Hp} {a : Addr} {o : HO} {od : Obj} (k : KeepX X H H') (x : X a) (h : H a = some o) (h' : H' a = some o) : KeepX X H (L2.upd H' a (.frz od o)) := fun b u hb => by
  by_cases z : b = a
  · subst z
    rw [h] at hb
    cases hb
    exact .inr ⟨x, od, upd_same⟩
  · rw [upd_ne z]
    exact k b u hb
theorem KeepX.st {K : PySem.W.Frag} {X : Addr → Prop} {H H' : Hp} (k : KeepX X H H') (hx : ∀ a, X a → ∃ g, H a = some (.ext g)) : ST K H H' := fun a xs h => by
  rcases k a _ h with h' | ⟨x, _⟩
  · exact h'
  · obtain ⟨g, e⟩ := hx a x
    rw [h] at e
    cases e
section
variable {P : Program} {w : World} {K : PySem.W.Frag} {mg : Str → Option Value} {base : Heap} {C CH : Addr}
def spSeen (K : PySem.W.Frag) (w : World) (C CH : Addr) : Sp := fun vs H Q _ => ∃ (v u : V) (n : Nat) (s : List Int) (T : List (PK × Int)), vs = [v, u] ∧ HistAt K w CH H v n T ∧ FrontAt K C H u n [s] ∧ 1 ≤ n ∧ n ≤ 4 ∧ T.length < 77 ∧
  ∀ H' y R, Same H H' → HistAt K w CH H' y n R → (∀ k, Tl.cnt R k = Tl.cnt (mapT (fun m => joinL m s) T) k) → R.length ≤ T.length → Q y H'
theorem d_History_seen (B : Bt mg) (X : TxH K CH) (XF : TxF K C) (ClH : Cls K CH) (Cl : Cls K C) (T : TopM K CH "seen" "History.seen" sHistory_seen ["self", "front"])
    (Dcheck_like_axes : Def P w K mg base "check_like_axes" 1 ["left", "right"] spLike) (Mmoments : MethD P w K mg base C "moments" 1 ["self"] (spMoments K C)) (MHmoments : MethD P w K mg base CH "moments" 1 ["self"] (spHMoments K w CH)) (Djoin_of : Def P w K mg base "join_of" 1 ["first", "second"] (spM K joinL)) (Dupward : Def P w K mg base "upward" 3 ["moments"] (spUpward K w))
    (Dtally_of : Def P w K mg base "tally_of" 2 ["pairs"] (spTally K w)) (Dhistory_of_tally : Def P w K mg base "history_of_tally" 6 ["axes", "counts"] (spHot K w CH)) : MethD P w K mg base CH "seen" 7 ["self", "front"] (spSeen K w C CH) := by
  refine mk_meth T scHistory_seen (by rintro _ _ _ _ ⟨_, _, _, _, _, rfl, _⟩; rfl) fun f cdv A outer s H vs Q E hr h => ?_
  obtain ⟨v, u, n, sm, T, rfl, ⟨p, dx, c, rfl, r⟩, hF, hn1, hn4, hT, q⟩ := h
  obtain ⟨pf, dxf, df, lf, rfl, f1, f2, f3, f4, f5⟩ := id hF
  have oks : Ok n sm := f4 sm (List.mem_singleton.mpr rfl)
  refine ⟨_, (pss_cons (ps_expr (pe_def Dcheck_like_axes (hr.mono (by first | decide | omega)) (by rfl) (pa_cons (pe_fld (pv 0) rfl) (pa_cons (pe_fld (pv 1) rfl) pa_nil))))
      (pss_cons (ps_set (i := 2) scHistory_seen.nd rfl (Or.inr rfl) (pe_methM0 (pv 1) Cl Mmoments (hr.mono (by first | decide | omega))))
      (pss_cons (ps_set (i := 3) scHistory_seen.nd rfl (Or.inr rfl) (NSet.pe_dcV (hu24 hr) (own := [("moment", 5)]) (g := (gName 5)) (tt := tYes) (tk := (tVar 5)) (tv := (tCall (spUpward K w) [] E0 (tCons (tLc (iList K (tVar 2)) (gName 4) tYes (tCall (spM K joinL) [] E0 (tCons (tVar 5) (tCons (tVar 4) tNil))) [4]) tNil))) rfl scHistory_seen.nd (pi_list (pe_methM0 (pv 0) ClH MHmoments (hr.mono (by first | decide | omega)))) (blkOk_by (own := [("moment", 5)]) (N := NHistory_seen) (sc := defScope sHistory_seen) (by decide +kernel)) (fun _ _ _ _ _ => (pg_name (i := 5) scHistory_seen.nd rfl (Or.inr rfl))) (fun _ _ _ _ _ => pts_nil) (fun _ _ _ _ _ => (pv 5)) (fun _ _ _ _ _ => (pe_def Dupward (hr.mono (by first | decide | omega)) (by rfl) (pa_cons (pe_lc (own := [("low", 4)]) (g := (gName 4)) (tt := tYes) (te := (tCall (spM K joinL) [] E0 (tCons (tVar 5) (tCons (tVar 4) tNil)))) rfl scHistory_seen.nd (pi_list (pv 2)) (blkOk_by (own := [("low", 4)]) (N := NHistory_seen) (sc := SC_History_seen) (by decide +kernel)) (fun _ _ _ _ _ => (pg_name (i := 4) scHistory_seen.nd rfl (Or.inl rfl))) (fun _ _ _ _ _ => pts_nil) (fun _ _ _ _ _ => (pe_def Djoin_of (hr.mono (by first | decide | omega)) (by rfl) (pa_cons (pv 5) (pa_cons (pv 4) pa_nil))))) pa_nil)))))
      (pss_cons (ps_lock (ps_setLc2 (i := 6) (own := [("moment", 5), ("row", 7), ("at", 8)]) (g := (gTup K 2 (gCons (gName 5) (gCons (gName 7) gNil)))) (tt := tYes) (wi1 := (NSet.iKeysLV w (NSet.tDGetV K w (tVar 3) (tVar 5)))) (g1 := (gName 8)) (tt1 := tYes) (te := (tTup (tCons (tTup (tCons (tVar 8) (tCons (tVar 7) tNil))) (tCons (tOp yMul (NSet.tDGetV K w (NSet.tDGetV K w (tVar 3) (tVar 5)) (tVar 8)) (NSet.tDGetV K w (tFld K (tVar 0) "_counts") (tTup (tCons (tVar 5) (tCons (tVar 7) tNil))))) tNil)))) rfl scHistory_seen.nd rfl rfl (sw_true rfl rfl rfl (by decide +kernel)) (NSet.pi_keysV (pe_fld (pv 0) rfl)) (blkOk_by (own := [("moment", 5), ("row", 7), ("at", 8)]) (N := NHistory_seen) (sc := defScope sHistory_seen) (by decide +kernel)) (vs1 := [8]) (by decide) (fun _ _ _ _ _ => (pg_tup rfl (pgs_cons (pg_name (i := 5) scHistory_seen.nd rfl (Or.inl rfl)) (pgs_cons (pg_name (i := 7) scHistory_seen.nd rfl (Or.inl rfl)) pgs_nil)))) (fun _ _ _ _ _ => pts_nil) (fun _ _ _ _ _ => (NSet.pi_keysLV (NSet.pe_dgetV (hu24 hr) (pv 3) (pv 5) (fun _ _ => rfl)))) (fun _ _ _ _ _ => (pg_name (i := 8) scHistory_seen.nd rfl (Or.inl rfl))) (fun _ _ _ _ _ => pts_nil) (fun _ _ _ _ _ => (pe_tup (pa_cons (pe_tup (pa_cons (pv 8) (pa_cons (pv 7) pa_nil))) (pa_cons (pe_op op_mul (NSet.pe_dgetV (hu24 hr) (NSet.pe_dgetV (hu24 hr) (pv 3) (pv 5) (fun _ _ => rfl)) (pv 8) (fun _ _ => rfl)) (NSet.pe_dgetV (hu24 hr) (pe_fld (pv 0) rfl) (pe_tup (pa_cons (pv 5) (pa_cons (pv 7) pa_nil))) (fun _ _ => rfl))) pa_nil))))))
      (pss_one (ps_ret (pe_def Dhistory_of_tally (hr.mono (by first | decide | omega)) (by rfl) (pa_cons (pe_fld (pv 0) rfl) (pa_cons (pe_def Dtally_of (hr.mono (by first | decide | omega)) (by rfl) (pa_cons (pv 6) pa_nil)) pa_nil))))))))), ?_⟩
  refine ⟨.ref p, rfl, p, CH, dx, _, _, rfl, r.ins, X.cl, X.nA, hiF_axes n c, .ref pf, rfl, pf, C, dxf, _, _, rfl, f1, XF.cl, XF.nA, frF_axes n df, (n : Nat), rfl, fun H1 s1 => ?_⟩
  refine ⟨.ref pf, rfl, pf, dxf, _, rfl, s1 _ _ f1, frF_no n df (by decide +kernel) (by decide +kernel), .ref pf, n, [sm], rfl, hF.same s1, fun H2 lo lows s2 nlo elo dlo => ?_⟩
  have s12 := s1.trans s2
  obtain ⟨lowv, rfl, mlow⟩ : ∃ lowv, lows = [lowv] ∧ Mo K H2 lowv sm := by
    cases dlo with
    | cons h1 h2 =>
      cases h2
      exact ⟨_, rfl, h1⟩
  refine ⟨.ref p, rfl, p, dx, _, rfl, s12 _ _ r.ins, hiF_no n c (by decide +kernel) (by decide +kernel), .ref p, n, T, rfl, ⟨p, dx, c, rfl, s12 _ _ r.ins, r.tal.same s12, r.fin, r.ok⟩, hT, fun H3 a S s3 na hS aS mS => ?_⟩
  obtain ⟨_, lv, ea, el, dl⟩ := hS
  cases ea
  have s13 := s12.trans s3
  refine ⟨a, rfl, ⟨_, SqL.of el⟩, fun D hD => ?_⟩
  have ll : lv.length = S.length := by simpa using dl.length
  have okS : ∀ m ∈ S, Ok n m := fun m hm => by
    obtain ⟨q', hq', rfl⟩ := (mS m).mp hm
    exact (r.ok q' hq').1
  have nS : S.Nodup := aS.imp fun {x y} h e => by
    rw [e, ltK_irr] at h
    cases h
  have lenS : S.length ≤ 5000 := by
    have := List.Nodup.length_le_of_subset nS (l₂ := T.map fun q => q.1.1) fun m hm => by
      obtain ⟨q', hq', e⟩ := (mS m).mp hm
      exact List.mem_map.mpr ⟨q', hq', e⟩
    rw [List.length_map] at this
    omega
  refine dcV_it (K := K) (walk_list (K := K) (a := a) (xs := lv)) (fun i H' => Same H3 H' ∧ ∃ Lr L, H' D = some (DictVO w D Lr) ∧ Rows rowK K H' Lr L ∧ L.map (·.1) = S.take i ∧ ∀ p ∈ L, ∃ d Ld, p.2 = .ref d ∧ H3 d = none ∧ d ≠ D ∧ OneAt K w H' d Ld (joinL p.1 sm)) ⟨same_upd hD, [], [], upd_same, .nil, rfl, fun p hp => nomatch hp⟩ (fun i H' _ pv => SqL.of (pv.1 _ _ el)) (fun i x H4' H4 hi pv y => ?_) (fun H4 pv => ?_)
  · obtain ⟨rfl, hx⟩ := y
    obtain ⟨e3, Lr, Lv, g1, g2, g3, g4⟩ := pv
    obtain ⟨d, hd1, hd2⟩ := dl.get hx
    obtain ⟨m, hm, rfl⟩ := mo_at hd1
    have hmx := Mo.same hd2 e3
    have om := okS m (List.mem_of_getElem? hm)
    have s34 := s3.trans e3
    refine ⟨rfl, ?_⟩
    show if true = true then _ else (Same H3 H4 ∧ ∃ Lr L, H4 D = some (DictVO w D Lr) ∧ Rows rowK K H4 Lr L ∧ L.map (·.1) = S.take (i + 1) ∧ ∀ p ∈ L, ∃ d Ld, p.2 = .ref d ∧ H3 d = none ∧ d ≠ D ∧ OneAt K w H4 d Ld (joinL p.1 sm))
    refine iteT ⟨x, rfl, .ref lo, rfl, lo, rfl, ⟨_, SqL.of (s34 _ _ elo)⟩, fun D1 hD1 => ?_⟩
    refine lc_dat (K := K) (walk_list (K := K) (a := lo) (xs := [lowv])) hD1 (by show 1 ≤ 100000; decide) (fun H5 e5 => SqL.of (e5 _ _ (s34 _ _ elo))) [mo (joinL m sm)] rfl (imm_mos [joinL m sm]) (fun j z H5' H5 Q' hj e5 y k => ?_) (fun H5 acc e5 eD1 dD1 => ?_)
    · obtain ⟨rfl, hz⟩ := y
      have hj0 : j = 0 := by simpa using hj
      subst hj0
      obtain rfl : lowv = z := by simpa using hz
      obtain ⟨b1, rfl, hb1⟩ := (Mo.same hmx e5).inv
      obtain ⟨b2, rfl, hb2⟩ := (Mo.same mlow (s34.trans e5)).inv
      refine ⟨rfl, .ref b1, rfl, .ref b2, rfl, b1, b2, m, sm, rfl, hb1, hb2, by rw [om.1, oks.1], by rw [om.1]; omega, fun H6 y6 s6 ny6 ey6 => ?_⟩
      exact k _ _ (mo (joinL m sm)) s6 rfl (Mo.of ey6)
    · obtain ⟨jv, rfl, hjv⟩ : ∃ jv, acc = [jv] ∧ Mo K H5 jv (joinL m sm) := by
        cases dD1 with
        | cons h1 h2 =>
          cases h2
          exact ⟨_, rfl, h1⟩
      refine ⟨D1, jv, joinL m sm, rfl, eD1, hjv, fun H6 b s6 nb tb => ?_⟩
      obtain ⟨Ld, eb, Rb, _, _⟩ := tb
      have s46 := e5.trans s6
      have lt : Lv.length < sizeLine := by
        have : Lv.length = (S.take i).length := by rw [← g3, List.length_map]
        rw [this]
        exact Nat.lt_of_le_of_lt (Nat.le_trans (List.length_take_le' _ _) lenS) (by decide)
      have hD6 := s46 _ _ g1
      obtain ⟨Lr2, put, rows⟩ := dputA (E := rowK) (v := .ref b) hD6 (g2.st s46.st) (Mo.same hmx s46) lt
      have st7 : ST K H6 (L2.upd H6 D (DictVO w D Lr2)) := st_upd hD6 True.intro
      have nbD : b ≠ D := fun z => by
        rw [z, e5 _ _ g1] at nb
        cases nb
      have hnew : m ∉ Lv.map (·.1) := by
        rw [g3]
        intro hin
        have n2 : (S.take (i + 1)).Nodup := nS.sublist (List.take_sublist _ _)
        rw [List.take_add_one, hm, Option.toList_some] at n2
        exact (List.nodup_append.mp n2).2.2 m hin m (List.mem_singleton.mpr rfl) rfl
      rw [putA_new hnew] at rows
      refine ⟨_, put, (e3.trans s46).mut hD, Lr2, _, upd_same, rows, ?_, fun p hp => ?_⟩
      · rw [List.map_append, g3, List.take_add_one, hm]
        rfl
      · rcases List.mem_append.mp hp with hp | hp
        · obtain ⟨d, Ld', h1, h2, h3, h4, h5⟩ := g4 p hp
          exact ⟨d, Ld', h1, h2, h3, by rw [upd_ne h3]; exact s46 _ _ h4, (h5.st s46.st).st st7⟩
        · rw [List.mem_singleton.mp hp]
          exact ⟨b, Ld, rfl, (e3.trans e5).new nb, nbD, by rw [upd_ne nbD]; exact eb, Rb.st st7⟩
  · obtain ⟨e3, LrD, Lv, g1, g2, g3, g4⟩ := pv
    rw [ll, List.take_length] at g3
    have s14 := s13.trans e3
    have ep4 := s14 _ _ r.ins
    obtain ⟨Lr, e, R, nd, hl⟩ := r.tal.same s14
    obtain ⟨Lr', ec0, _⟩ := r.tal
    have lR : Lr.length = T.length := by rw [plen R, ivs_len]
    have npc : p ≠ c := ne_of ep4 e (fun z => nomatch z)
    have ncD : D ≠ c := fun z => by
      have := s13 _ _ ec0
      rw [← z, hD] at this
      cases this
    refine ⟨c, _, e, True.intro, fun od => ?_⟩
    have hz : L2.upd H4 c (.frz od (DictVO w c Lr)) c = some (.frz od (DictVO w c Lr)) := upd_same
    have hp : L2.upd H4 c (.frz od (DictVO w c Lr)) p = some (.ins CH dx (hiF n c)) := by rw [upd_ne npc]; exact ep4
    have st4 : ST K H4 (L2.upd H4 c (.frz od (DictVO w c Lr))) := st_upd e no_ext
    have R1 := R.st st4
    have hDz : L2.upd H4 c (.frz od (DictVO w c Lr)) D = some (DictVO w D LrD) := by rw [upd_ne ncD]; exact g1
    have g2' := g2.st st4
    have g4' : ∀ p ∈ Lv, ∃ d Ld, p.2 = .ref d ∧ H3 d = none ∧ d ≠ D ∧ d ≠ c ∧ OneAt K w (L2.upd H4 c (.frz od (DictVO w c Lr))) d Ld (joinL p.1 sm) := fun p hp => by
      obtain ⟨d, Ld, h1, h2, h3, h4, h5⟩ := g4 p hp
      have ndc : d ≠ c := fun z => by
        have := s13 _ _ ec0
        rw [← z, h2] at this
        cases this
      exact ⟨d, Ld, h1, h2, h3, ndc, by rw [upd_ne ndc]; exact h4, h5.st st4⟩
    refine ⟨.ref p, rfl, p, CH, dx, _, _, rfl, hp, X.cl, X.nC, hiF_c n c, c, od, Lr, rfl, hz, fun D2 hD2 => ?_⟩
    have hun : ∀ b o, b ≠ c → H4 b = some o → L2.upd H4 c (.frz od (DictVO w c Lr)) b = some o := fun b o nb hb => by rw [upd_ne nb]; exact hb
    generalize L2.upd H4 c (.frz od (DictVO w c Lr)) = H5 at hz hp R1 hDz g2' g4' hD2 hun ⊢
    generalize hXX : (fun a : Addr => ∃ p ∈ Lv, p.2 = V.ref a) = XX
    have xOf : ∀ a, XX a ↔ ∃ p ∈ Lv, p.2 = V.ref a := fun a => by rw [← hXX]
    have xFact : ∀ a, XX a → H3 a = none ∧ a ≠ D ∧ a ≠ c ∧ ∃ g, H5 a = some (.ext g) := fun a ha => by
      obtain ⟨p1, hp1, e1⟩ := (xOf a).mp ha
      obtain ⟨d, Ld, h1, h2, h3, h4, h5, _⟩ := g4' p1 hp1
      rw [h1] at e1
      cases e1
      exact ⟨h2, h3, h4, _, h5⟩
    have xExt : ∀ a, XX a → ∃ g, H5 a = some (.ext g) := fun a ha => (xFact a ha).2.2.2
    have xc : ¬ XX c := fun h => (xFact c h).2.2.1 rfl
    have xD : ¬ XX D := fun h => (xFact D h).2.1 rfl
    have xp : ¬ XX p := fun h => by
      obtain ⟨g, e⟩ := xExt p h
      rw [hp] at e
      cases e
    have feltGet : ∀ m ∈ S, ∃ d Ld, XX d ∧ OneAt K w H5 d Ld (joinL m sm) ∧ ∀ H' y, KeepX XX H5 H' → Mo K H' y m → DGetV K w H' D y (some (.ref d)) := by
      intro m hm
      cases hf : Lv.find? (fun p => decide (p.1 = m)) with
      | none =>
        rw [← g3] at hm
        obtain ⟨p1, hp1, e⟩ := List.mem_map.mp hm
        have := List.find?_eq_none.mp hf p1 hp1
        simp [e] at this
      | some p1 =>
        have hp1 := List.mem_of_find?_eq_some hf
        have e1 : p1.1 = m := of_decide_eq_true (List.find?_some (p := fun p : List Int × V => decide (p.1 = m)) hf)
        obtain ⟨d, Ld, h1, h2, h3, h4, h5⟩ := g4' p1 hp1
        refine ⟨d, Ld, (xOf d).mpr ⟨p1, hp1, h1⟩, by rw [← e1]; exact h5, fun H' y keep hy => ?_⟩
        have hv : valA (E := rowK) Lv m = some (.ref d) := by
          unfold valA
          rw [hf, ← h1]
          rfl
        have hg := dgetA (E := rowK) (.inl (keep.at xD hDz)) (g2'.st (keep.st xExt)) hy
        rw [hv] at hg
        exact hg
    generalize hJ : (fun m => joinL m sm) = J
    have Jat : ∀ m, J m = joinL m sm := fun m => by rw [← hJ]
    refine ⟨fun i m H' => m = T.length - i ∧ i ≤ T.length ∧ KeepX XX H5 H' ∧ ∃ acc, H' D2 = some (.lst acc) ∧ DaAll K H' acc (((mapT J T).take i).map pcD), ⟨T.length, rfl, Nat.zero_le _, (KeepX.refl _ _).mut hD2, [], upd_same, .nil⟩, ?_⟩
    rintro i m H6 ⟨rfl, hi, keep, acc, eD2, dD⟩
    have hcH := keep.at xc hz
    by_cases hlt : i < T.length
    · refine .inr ⟨⟨hcH, by omega⟩, fun H' => i + 1 ≤ T.length ∧ KeepX XX H5 H' ∧ ∃ acc, H' D2 = some (.lst acc) ∧ DaAll K H' acc (((mapT J T).take (i + 1)).map pcD), fun H' q => ⟨T.length - (i + 1), by omega, rfl, q⟩, fun x H6' y => ?_⟩
      obtain ⟨rfl, r', hk, rfl⟩ := y
      obtain ⟨p0, hp0, hr', _⟩ := rows_at R1 hk
      obtain ⟨q', hq', rfl⟩ := ivs_get hp0
      have qin : q' ∈ T := List.mem_of_getElem? hq'
      obtain ⟨t, y, z, et, ht5, hy5, hz5⟩ := pair_inv hr'
      have ht := (keep.st (K := K) xExt) _ _ ht5
      obtain ⟨d, Ld, xd, o1, hget⟩ := feltGet q'.1.1 ((mS _).mpr ⟨q', qin, rfl⟩)
      have lLd : Ld.length = 1 := plen o1.2
      refine ⟨t, _, et, SqT.of ht, rfl, _, _, rfl, _, _, rfl, rfl, rfl, ?_⟩
      show if true = true then _ else (i + 1 ≤ T.length ∧ KeepX XX H5 H6' ∧ ∃ acc, H6' D2 = some (.lst acc) ∧ DaAll K H6' acc (((mapT J T).take (i + 1)).map pcD))
      have hd6 : H6' d = some (DictVO w d Ld) ∨ ∃ od, H6' d = some (.frz od (DictVO w d Ld)) := by
        rcases keep d _ o1.1 with h | ⟨_, h⟩
        · exact .inl h
        · exact .inr h
      have nD2d : D2 ≠ d := fun z => by
        rw [z, o1.1] at hD2
        cases hD2
      refine iteT ⟨.ref D, rfl, y, rfl, D, .ref d, rfl, hget _ _ keep (Mo.st hy5 (keep.st xExt)), d, Ld, rfl, ?_⟩
      refine Or.elim hd6 (fun h => .inl ⟨h, fun o => ?_⟩) (fun ⟨o, h⟩ => .inr ⟨o, h, ?_⟩)
      · have hq : L2.upd H6' d (.frz o (DictVO w d Ld)) d = some (.frz o (DictVO w d Ld)) := upd_same
        have keepq := keep.lock (od := o) xd o1.1 h
        have eDq : L2.upd H6' d (.frz o (DictVO w d Ld)) D2 = some (.lst acc) := by rw [upd_ne nD2d]; exact eD2
        have dDq := Da.stAll (st_upd (u := .frz o (DictVO w d Ld)) h no_ext) _ _ (imm_pcs _) dD
        generalize L2.upd H6' d (.frz o (DictVO w d Ld)) = Hq at hq keepq eDq dDq ⊢
        refine ⟨fun j k H' => k = 1 - j ∧ j ≤ 1 ∧ H' d = some (.frz o (DictVO w d Ld)) ∧ KeepX XX H5 H' ∧ ∃ acc, H' D2 = some (.lst acc) ∧ DaAll K H' acc (((mapT J T).take (i + j)).map pcD), ⟨1, rfl, Nat.zero_le _, hq, keepq, acc, eDq, dDq⟩, ?_⟩
        rintro j k H7 ⟨rfl, hj, hd7, keep7, acc7, eD7, dD7⟩
        by_cases hj0 : j = 0
        · subst hj0
          refine .inr ⟨⟨hd7, by omega⟩, fun H' => H' d = some (.frz o (DictVO w d Ld)) ∧ KeepX XX H5 H' ∧ ∃ acc, H' D2 = some (.lst acc) ∧ DaAll K H' acc (((mapT J T).take (i + 1)).map pcD), fun H' q => ⟨0, by decide, rfl, Nat.le_refl _, q⟩, fun x H7' y1 => ?_⟩
          obtain ⟨rfl, r1, hk1, rfl⟩ := y1
          obtain ⟨p1, hp1, hr1, _⟩ := rows_at o1.2 hk1
          obtain ⟨q1, hq1, rfl⟩ := ivs_get hp1
          obtain rfl : (joinL q'.1.1 sm, (1 : Int)) = q1 := by simpa using hq1
          have st7 : ST K H5 H7' := keep7.st xExt
          refine ⟨rfl, ?_⟩
          show if true = true then _ else (H7' d = some (.frz o (DictVO w d Ld)) ∧ KeepX XX H5 H7' ∧ ∃ acc, H7' D2 = some (.lst acc) ∧ DaAll K H7' acc (((mapT J T).take (i + 1)).map pcD))
          refine iteT ⟨.ref r1.2.1, rfl, z, rfl, by show 2 ≤ sizeLine; decide, fun g hg => ?_⟩
          have s8 := same_upd (o := .tup [.ref r1.2.1, z]) hg
          have keep8 := keep7.same s8
          have st8 : ST K H5 _ := keep8.st (K := K) xExt
          refine ⟨.ref D, rfl, y, rfl, D, .ref d, rfl, hget _ _ keep8 (Mo.st hy5 st8), .ref r1.2.1, rfl, d, .int 1, rfl, ?_, ?_⟩
          · exact get_walk (E := rowK) (od := o) (L := [(joinL q'.1.1 sm, 1)]) (.inr ⟨o, s8 _ _ hd7⟩) (o1.2.st st8) (by simp [Tl.keys]) (Da.st st8 _ _ (imm_mo _) hr1) (List.mem_singleton.mpr rfl)
          refine ⟨.ref p, rfl, p, CH, dx, _, _, rfl, keep8.at xp hp, X.cl, X.nC, hiF_c n c, y, rfl, z, rfl, by show 2 ≤ sizeLine; decide, fun g2 hg2 => ?_⟩
          have s9 := s8.trans (same_upd (o := .tup [y, z]) hg2)
          have keep9 := keep7.same s9
          have st9 : ST K H5 _ := keep9.st (K := K) xExt
          refine ⟨c, .int q'.2, rfl, get_walk (E := pairK) (od := od) (.inr ⟨od, keep9.at xc hz⟩) (R1.st st9) nd (pair_of upd_same (Mo.st hy5 st9) (Mo.st hz5 st9)) qin, _, _, rfl, rfl, .inl ⟨by decide, by decide⟩, by show 2 ≤ sizeLine; decide, fun g3 hg3 => ?_⟩
          rw [show (fun i j : Int => V.int (i * j)) 1 q'.2 = V.int q'.2 from congrArg V.int (Int.one_mul _)]
          have s10 := s9.trans (same_upd (o := .tup [.ref g, .int q'.2]) hg3)
          have eg : L2.upd (L2.upd (L2.upd H7' g (.tup [.ref r1.2.1, z])) g2 (.tup [y, z])) g3 (.tup [.ref g, .int q'.2]) g = some (.tup [.ref r1.2.1, z]) := (same_upd hg3) _ _ ((same_upd hg2) _ _ upd_same)
          have eg3 : L2.upd (L2.upd (L2.upd H7' g (.tup [.ref r1.2.1, z])) g2 (.tup [y, z])) g3 (.tup [.ref g, .int q'.2]) g3 = some (.tup [.ref g, .int q'.2]) := upd_same
          generalize L2.upd (L2.upd (L2.upd H7' g (.tup [.ref r1.2.1, z])) g2 (.tup [y, z])) g3 (.tup [.ref g, .int q'.2]) = H10 at s10 eg eg3 ⊢
          have keep10 := keep7.same s10
          have st10 : ST K H5 H10 := keep10.st xExt
          have eD10 := s10 _ _ eD7
          have st11 : ST K H10 (L2.upd H10 D2 (.lst (acc7 ++ [.ref g3]))) := st_upd eD10 True.intro
          have stA := st10.trans st11
          refine ⟨acc7, eD10, ?_, ?_, keep10.mut hD2, _, upd_same, ?_⟩
          · rw [dD7.length, List.length_map]
            refine Nat.lt_of_le_of_lt (List.length_take_le' _ _) ?_
            rw [mapT_len]
            exact Nat.lt_of_le_of_lt hl (by decide)
          · rw [upd_ne nD2d.symm]
            exact s10 _ _ hd7
          · have e2 : (mapT J T).take (i + 1) = (mapT J T).take i ++ [((joinL q'.1.1 sm, q'.1.2), q'.2)] := by
              rw [List.take_add_one]
              unfold mapT
              rw [List.getElem?_map, hq', ← Jat]
              rfl
            rw [e2, List.map_append]
            exact DaAll.snoc (pcD_of (q := ((joinL q'.1.1 sm, q'.1.2), q'.2)) (st11 _ _ eg3) (pair_of (st11 _ _ eg) (Da.st stA _ _ (imm_mo _) hr1) (Mo.st hz5 stA))) (Da.stAll (s10.st.trans st11) _ _ (imm_pcs _) dD7)
        · have ej : j = 1 := by omega
          subst ej
          exact .inl ⟨⟨hd7, by omega⟩, by omega, keep7, acc7, eD7, dD7⟩
      · have hq := h
        have keepq := keep
        have eDq := eD2
        have dDq := dD
        clear hd6 h keep eD2 dD ht hcH
        generalize H6' = Hq at hq keepq eDq dDq ⊢
        refine ⟨fun j k H' => k = 1 - j ∧ j ≤ 1 ∧ H' d = some (.frz o (DictVO w d Ld)) ∧ KeepX XX H5 H' ∧ ∃ acc, H' D2 = some (.lst acc) ∧ DaAll K H' acc (((mapT J T).take (i + j)).map pcD), ⟨1, rfl, Nat.zero_le _, hq, keepq, acc, eDq, dDq⟩, ?_⟩
        rintro j k H7 ⟨rfl, hj, hd7, keep7, acc7, eD7, dD7⟩
        by_cases hj0 : j = 0
        · subst hj0
          refine .inr ⟨⟨hd7, by omega⟩, fun H' => H' d = some (.frz o (DictVO w d Ld)) ∧ KeepX XX H5 H' ∧ ∃ acc, H' D2 = some (.lst acc) ∧ DaAll K H' acc (((mapT J T).take (i + 1)).map pcD), fun H' q => ⟨0, by decide, rfl, Nat.le_refl _, q⟩, fun x H7' y1 => ?_⟩
          obtain ⟨rfl, r1, hk1, rfl⟩ := y1
          obtain ⟨p1, hp1, hr1, _⟩ := rows_at o1.2 hk1
          obtain ⟨q1, hq1, rfl⟩ := ivs_get hp1
          obtain rfl : (joinL q'.1.1 sm, (1 : Int)) = q1 := by simpa using hq1
          have st7 : ST K H5 H7' := keep7.st xExt
          refine ⟨rfl, ?_⟩
          show if true = true then _ else (H7' d = some (.frz o (DictVO w d Ld)) ∧ KeepX XX H5 H7' ∧ ∃ acc, H7' D2 = some (.lst acc) ∧ DaAll K H7' acc (((mapT J T).take (i + 1)).map pcD))
          refine iteT ⟨.ref r1.2.1, rfl, z, rfl, by show 2 ≤ sizeLine; decide, fun g hg => ?_⟩
          have s8 := same_upd (o := .tup [.ref r1.2.1, z]) hg
          have keep8 := keep7.same s8
          have st8 : ST K H5 _ := keep8.st (K := K) xExt
          refine ⟨.ref D, rfl, y, rfl, D, .ref d, rfl, hget _ _ keep8 (Mo.st hy5 st8), .ref r1.2.1, rfl, d, .int 1, rfl, ?_, ?_⟩
          · exact get_walk (E := rowK) (od := o) (L := [(joinL q'.1.1 sm, 1)]) (.inr ⟨o, s8 _ _ hd7⟩) (o1.2.st st8) (by simp [Tl.keys]) (Da.st st8 _ _ (imm_mo _) hr1) (List.mem_singleton.mpr rfl)
          refine ⟨.ref p, rfl, p, CH, dx, _, _, rfl, keep8.at xp hp, X.cl, X.nC, hiF_c n c, y, rfl, z, rfl, by show 2 ≤ sizeLine; decide, fun g2 hg2 => ?_⟩
          have s9 := s8.trans (same_upd (o := .tup [y, z]) hg2)
          have keep9 := keep7.same s9
          have st9 : ST K H5 _ := keep9.st (K := K) xExt
          refine ⟨c, .int q'.2, rfl, get_walk (E := pairK) (od := od) (.inr ⟨od, keep9.at xc hz⟩) (R1.st st9) nd (pair_of upd_same (Mo.st hy5 st9) (Mo.st hz5 st9)) qin, _, _, rfl, rfl, .inl ⟨by decide, by decide⟩, by show 2 ≤ sizeLine; decide, fun g3 hg3 => ?_⟩
          rw [show (fun i j : Int => V.int (i * j)) 1 q'.2 = V.int q'.2 from congrArg V.int (Int.one_mul _)]
          have s10 := s9.trans (same_upd (o := .tup [.ref g, .int q'.2]) hg3)
          have eg : L2.upd (L2.upd (L2.upd H7' g (.tup [.ref r1.2.1, z])) g2 (.tup [y, z])) g3 (.tup [.ref g, .int q'.2]) g = some (.tup [.ref r1.2.1, z]) := (same_upd hg3) _ _ ((same_upd hg2) _ _ upd_same)
          have eg3 : L2.upd (L2.upd (L2.upd H7' g (.tup [.ref r1.2.1, z])) g2 (.tup [y, z])) g3 (.tup [.ref g, .int q'.2]) g3 = some (.tup [.ref g, .int q'.2]) := upd_same
          generalize L2.upd (L2.upd (L2.upd H7' g (.tup [.ref r1.2.1, z])) g2 (.tup [y, z])) g3 (.tup [.ref g, .int q'.2]) = H10 at s10 eg eg3 ⊢
          have keep10 := keep7.same s10
          have st10 : ST K H5 H10 := keep10.st xExt
          have eD10 := s10 _ _ eD7
          have st11 : ST K H10 (L2.upd H10 D2 (.lst (acc7 ++ [.ref g3]))) := st_upd eD10 True.intro
          have stA := st10.trans st11
          refine ⟨acc7, eD10, ?_, ?_, keep10.mut hD2, _, upd_same, ?_⟩
          · rw [dD7.length, List.length_map]
            refine Nat.lt_of_le_of_lt (List.length_take_le' _ _) ?_
            rw [mapT_len]
            exact Nat.lt_of_le_of_lt hl (by decide)
          · rw [upd_ne nD2d.symm]
            exact s10 _ _ hd7
          · have e2 : (mapT J T).take (i + 1) = (mapT J T).take i ++ [((joinL q'.1.1 sm, q'.1.2), q'.2)] := by
              rw [List.take_add_one]
              unfold mapT
              rw [List.getElem?_map, hq', ← Jat]
              rfl
            rw [e2, List.map_append]
            exact DaAll.snoc (pcD_of (q := ((joinL q'.1.1 sm, q'.1.2), q'.2)) (st11 _ _ eg3) (pair_of (st11 _ _ eg) (Da.st stA _ _ (imm_mo _) hr1) (Mo.st hz5 stA))) (Da.stAll (s10.st.trans st11) _ _ (imm_pcs _) dD7)
        · have ej : j = 1 := by omega
          subst ej
          exact .inl ⟨⟨hd7, by omega⟩, by omega, keep7, acc7, eD7, dD7⟩
    · have ei : i = T.length := by omega
      subst ei
      refine .inl ⟨⟨hcH, by omega⟩, hcH, ?_⟩
      have e2 : (mapT J T).take T.length = mapT J T := by rw [List.take_of_length_le]; rw [mapT_len]; exact Nat.le_refl _
      rw [e2] at dD
      have nD2c : D2 ≠ c := (ne_of_none hz hD2).symm
      have st6 : ST K H6 (L2.upd H6 c (DictVO w c Lr)) := st_upd hcH True.intro
      have eD6 : L2.upd H6 c (DictVO w c Lr) D2 = some (.lst acc) := by rw [upd_ne nD2c]; exact eD2
      have dD6 := Da.stAll st6 _ _ (imm_pcs _) dD
      have sF : Same H (L2.upd H6 c (DictVO w c Lr)) := fun b o hb => by
        have h3 := s13 _ _ hb
        have h4 := e3 _ _ h3
        by_cases z : b = c
        · rw [z, upd_same]
          rw [z, e] at h4
          exact h4
        · rw [upd_ne z]
          refine keep.at (fun hx => ?_) (hun b o z h4)
          rw [(xFact b hx).1] at h3
          cases h3
      generalize L2.upd H6 c (DictVO w c Lr) = H8 at sF eD6 dD6 ⊢
      refine ⟨.ref p, rfl, p, CH, dx, _, _, rfl, sF _ _ r.ins, X.cl, X.nA, hiF_axes n c, ?_⟩
      refine ⟨.ref D2, rfl, pairK, D2, acc, mapT J T, rfl, eD6, pcs_pairs dD6, by rw [mapT_len]; omega, fun H9 b U s9 nb tU fU cU kU => ?_⟩
      have kL : U.length ≤ T.length := by
        have := fin_len (ps := mapT J T) fU kU
        rwa [mapT_len] at this
      refine ⟨n, b, U, rfl, hn1, hn4, tU, fU, fun q' hq' => ?_, fun H10 y s10 hy => q H10 y U ((sF.trans s9).trans s10) hy (by rw [hJ]; exact cU) kL⟩
      obtain ⟨z, hz', ez⟩ := List.mem_map.mp (kU q' hq')
      obtain ⟨z0, hz0, rfl⟩ := List.mem_map.mp hz'
      rw [← ez]
      refine ⟨?_, (r.ok z0 hz0).2⟩
      show Ok n (J z0.1.1)
      rw [Jat]
      exact (r.ok z0 hz0).1.join oks
end
end K11

namespace K11
open PySem PySem.Spec PyProof.Rows L2 NSet
/-! ### counts sent on by a map of keys -/
section
variable {κ μ : Type} [DecidableEq κ] [DecidableEq μ]
theorem cnt_split (L : List (κ × Int)) (a k : κ) : Tl.cnt (L.filter fun p => decide (p.1 = a)) k + Tl.cnt (L.filter fun p => decide (p.1 ≠ a)) k = Tl.cnt L k := by
  induction L with
  | nil => rfl
  | cons p L ih =>
    by_cases e : p.1 = a
    · rw [List.filter_cons_of_pos (by simp [e]), List.filter_cons_of_neg (by simp [e])]
      simp only [Tl.cnt]
      omega
    · rw [List.filter_cons_of_neg (by simp [e]), List.filter_cons_of_pos (by simp [e])]
      simp only [Tl.cnt]
      omega
theorem cnt_one {L : List (κ × Int)} {a : κ} (h : ∀ p ∈ L, p.1 = a) (f : κ → μ) (k : μ) : Tl.cnt (L.map fun p => (f p.1, p.2)) k = if f a = k then Tl.cnt L a else 0 := by
  induction L with
  | nil => simp [Tl.cnt]
  | cons p L ih =>
    rw [List.map_cons]
    simp only [Tl.cnt]
    rw [ih fun q hq => h q (List.mem_cons_of_mem _ hq), h p List.mem_cons_self, if_pos rfl]
    split <;> omega
theorem cnt_not {L : List (κ × Int)} {a : κ} (h : ∀ p ∈ L, p.1 ≠ a) : Tl.cnt L a = 0 := Tl.cnt_out fun z => by
  obtain ⟨p, hp, e⟩ := List.mem_map.mp z
  exact h p hp e
theorem cnt_map0 (f : κ → μ) : ∀ (n : Nat) (L : List (κ × Int)), L.length ≤ n → (∀ k, Tl.cnt L k = 0) → ∀ k, Tl.cnt (L.map fun p => (f p.1, p.2)) k = 0
  | _, [], _, _, k => rfl
  | 0, p :: L, h, _, _ => absurd h (by simp)
  | n + 1, p :: L, h, h0, k => by
    have hA : ∀ q ∈ (p :: L).filter (fun q => decide (q.1 = p.1)), q.1 = p.1 := fun q hq => of_decide_eq_true (List.mem_filter.mp hq).2
    have hB : ∀ q ∈ (p :: L).filter (fun q => decide (q.1 ≠ p.1)), q.1 ≠ p.1 := fun q hq => of_decide_eq_true (List.mem_filter.mp hq).2
    have lB : ((p :: L).filter fun q => decide (q.1 ≠ p.1)).length ≤ n := by
      rw [List.filter_cons_of_neg (by simp)]
      have := List.length_filter_le (fun q : κ × Int => decide (q.1 ≠ p.1)) L
      simp only [List.length_cons] at h
      omega
    have zB : ∀ j, Tl.cnt ((p :: L).filter fun q => decide (q.1 ≠ p.1)) j = 0 := fun j => by
      by_cases e : j = p.1
      · rw [e]
        exact cnt_not hB
      · have h1 := cnt_split (p :: L) p.1 j
        rw [h0 j, cnt_not (a := j) fun q hq => fun z => e (z.symm.trans (hA q hq))] at h1
        omega
    have zA : Tl.cnt ((p :: L).filter fun q => decide (q.1 = p.1)) p.1 = 0 := by
      have h1 := cnt_split (p :: L) p.1 p.1
      rw [h0, zB] at h1
      omega
    have ihB := cnt_map0 f n _ lB zB k
    have eA := cnt_one hA f k
    rw [zA] at eA
    have sp : Tl.cnt (((p :: L).filter fun q => decide (q.1 = p.1)).map fun q => (f q.1, q.2)) k + Tl.cnt (((p :: L).filter fun q => decide (q.1 ≠ p.1)).map fun q => (f q.1, q.2)) k = Tl.cnt ((p :: L).map fun q => (f q.1, q.2)) k := by
      clear ihB eA zA zB lB hA hB h0 h
      generalize p.1 = a
      generalize (p :: L) = M
      induction M with
      | nil => rfl
      | cons q M ih =>
        by_cases e : q.1 = a
        · rw [List.filter_cons_of_pos (by simp [e]), List.filter_cons_of_neg (by simp [e])]
          simp only [List.map_cons, Tl.cnt]
          omega
        · rw [List.filter_cons_of_neg (by simp [e]), List.filter_cons_of_pos (by simp [e])]
          simp only [List.map_cons, Tl.cnt]
          omega
    rw [← sp, ihB, eA]
    simp
theorem cnt_map_sub (f : κ → μ) {R T U : List (κ × Int)} (h : ∀ k, Tl.cnt R k = Tl.cnt T k - Tl.cnt U k) (k : μ) : Tl.cnt (R.map fun p => (f p.1, p.2)) k = Tl.cnt (T.map fun p => (f p.1, p.2)) k - Tl.cnt (U.map fun p => (f p.1, p.2)) k := by
  have neg : ∀ (L : List (κ × Int)) (k : κ), Tl.cnt (L.map fun p => (p.1, -p.2)) k = - Tl.cnt L k := cnt_neg
  have z := cnt_map0 f _ (R ++ (T.map (fun p => (p.1, -p.2)) ++ U)) (Nat.le_refl _) (fun k => by rw [Tl.cnt_append, Tl.cnt_append, neg, h]; omega) k
  rw [List.map_append, List.map_append, Tl.cnt_append, Tl.cnt_append, List.map_map] at z
  have e : T.map ((fun p : κ × Int => (f p.1, p.2)) ∘ fun p => (p.1, -p.2)) = (T.map fun p => (f p.1, p.2)).map fun p => (p.1, -p.2) := by
    rw [List.map_map]
    rfl
  rw [e, cnt_neg] at z
  omega
theorem cnt_map_eq (f : κ → μ) {L M : List (κ × Int)} (h : ∀ k, Tl.cnt L k = Tl.cnt M k) (k : μ) : Tl.cnt (L.map fun p => (f p.1, p.2)) k = Tl.cnt (M.map fun p => (f p.1, p.2)) k := by
  have := cnt_map_sub f (R := L) (T := M) (U := []) (fun k => by rw [h]; simp [Tl.cnt]) k
  rw [this]
  simp [Tl.cnt]
end
def mapK (f : List Int → List Int) (k : PK) : PK := (f k.1, k.2)
theorem mapT_eq (f : List Int → List Int) (T : List (PK × Int)) : mapT f T = T.map fun p => (mapK f p.1, p.2) := rfl
/-- what is felt of changes behind the moment s -/
def feltC (s : List Int) (T : List (PK × Int)) (k : PK) : Int := Tl.cnt (mapT (fun m => joinL m s) T) k
theorem felt_eq {s : List Int} {L M : List (PK × Int)} (h : ∀ k, Tl.cnt L k = Tl.cnt M k) (k : PK) : feltC s L k = feltC s M k := cnt_map_eq (mapK fun m => joinL m s) h k
theorem felt_sub {s : List Int} {R T U : List (PK × Int)} (h : ∀ k, Tl.cnt R k = Tl.cnt T k - Tl.cnt U k) (k : PK) : feltC s R k = feltC s T k - feltC s U k := cnt_map_sub (mapK fun m => joinL m s) h k
theorem felt_append (s : List Int) (L M : List (PK × Int)) (k : PK) : feltC s (L ++ M) k = feltC s L k + feltC s M k := by
  unfold feltC mapT
  rw [List.map_append, Tl.cnt_append]
section
variable {P : Program} {w : World} {K : PySem.W.Frag} {mg : Str → Option Value} {base : Heap} {C CH : Addr}
def spFd (K : PySem.W.Frag) (w : World) (C CH : Addr) : Sp := fun vs H Q _ => ∃ (v u x : V) (n : Nat) (s : List Int) (T U : List (PK × Int)), vs = [v, u, x] ∧ HistAt K w CH H v n T ∧ HistAt K w CH H u n U ∧ FrontAt K C H x n [s] ∧ 1 ≤ n ∧ n ≤ 4 ∧ T.length + U.length < 77 ∧
  ∀ H' y D, Same H H' → Told pairK (fun k => feltC s T k - feltC s U k) D → (match D with | [] => y = V.non | q :: _ => Da K H' y (pairD q.1)) → Q y H'
theorem d_first_difference (B : Bt mg) (ClH : Cls K CH) (SFH : PySem.W.selfFirst K CH = true) (T : Top K mg "first_difference" sfirst_difference ["first", "second", "front"])
    (MH__sub__ : MethD P w K mg base CH "__sub__" 7 ["self", "other"] (spHSub K w CH)) (MHseen : MethD P w K mg base CH "seen" 7 ["self", "front"] (spSeen K w C CH)) (MHchanges : MethD P w K mg base CH "changes" 1 ["self"] (spChanges K w CH)) : Def P w K mg base "first_difference" 8 ["first", "second", "front"] (spFd K w C CH) := by
  refine mk_def T scfirst_difference (by rintro _ _ _ _ ⟨_, _, _, _, _, _, _, rfl, _⟩; rfl) fun f cdv A outer s H vs Q E hr h => ?_
  obtain ⟨v, u, x, n, sm, T, U, rfl, hT, hU, hF, hn1, hn4, hlen, q⟩ := h
  refine ⟨_, (pss_cons (ps_set (i := 3) scfirst_difference.nd rfl (Or.inl rfl) (pe_methM0 (pe_methM (pe_op (op_binM (op := .Sub) (by decide +kernel) MH__sub__ SFH (hr.mono (by first | decide | omega))) (pv 0) (pv 1)) ClH MHseen (hr.mono (by first | decide | omega)) (pa_cons (pv 2) pa_nil)) ClH MHchanges (hr.mono (by first | decide | omega))))
      (pss_cons (ps_if (pt_not (pt_truth (pv 3) (fun _ => rfl))) (pss_one (ps_ret pe_non)) pss_nil)
      (pss_cons (ps_asg (pe_ix ix_list (pv 3) pe_int (fun _ _ => rfl)) (pg_tup rfl (pgs_cons (pg_name (i := 4) scfirst_difference.nd rfl (Or.inl rfl)) (pgs_cons (pg_name (i := 5) scfirst_difference.nd rfl (Or.inl rfl)) (pgs_cons (pg_name (i := 6) scfirst_difference.nd rfl (Or.inl rfl)) pgs_nil)))))
      (pss_one (ps_ret (pe_tup (pa_cons (pv 4) (pa_cons (pv 5) pa_nil)))))))), ?_⟩
  obtain ⟨p, dx, c, rfl, r⟩ := id hT
  obtain ⟨p2, dx2, c2, rfl, r2⟩ := id hU
  refine ⟨.ref p, rfl, .ref p2, rfl, p, dx, _, p2, dx2, _, rfl, rfl, r.ins, r2.ins, .ref p, .ref p2, n, T, U, rfl, hT, hU, hn1, hn4, by omega, fun H1 y1 R s1 hR cR lR _ => ?_⟩
  obtain ⟨p3, dx3, c3, rfl, r3⟩ := id hR
  refine ⟨p3, rfl, p3, dx3, _, rfl, r3.ins, hiF_no n c3 (by decide +kernel) (by decide +kernel), x, rfl, .ref p3, x, n, sm, R, rfl, hR, hF.same s1, hn1, hn4, by omega, fun H2 y2 R2 s2 hR2 cR2 lR2 => ?_⟩
  obtain ⟨p4, dx4, c4, rfl, r4⟩ := id hR2
  refine ⟨p4, dx4, _, rfl, r4.ins, hiF_no n c4 (by decide +kernel) (by decide +kernel), .ref p4, n, R2, rfl, hR2, fun H3 a D s3 na hD tD => ?_⟩
  have tD2 : Told pairK (fun k => feltC sm T k - feltC sm U k) D := tD.congr fun k => by
    rw [cR2 k]
    exact felt_sub cR k
  obtain ⟨_, lv, ea, el, dl⟩ := hD
  cases ea
  have sA := (s1.trans s2).trans s3
  cases D with
  | nil =>
    cases dl
    refine ⟨.ref a, rfl, false, .inl ⟨[], SqL.of el, rfl⟩, iteT (q H3 _ [] sA tD2 rfl)⟩
  | cons d D =>
    cases dl with
    | @cons v0 lv0 _ _ h1 h2 =>
      refine ⟨.ref a, rfl, true, .inl ⟨_, SqL.of el, rfl⟩, iteF ?_⟩
      obtain ⟨t, y, z, rfl, ht, hy, hz⟩ := chD_inv h1
      refine ⟨.ref a, rfl, a, _, 0, .ref t, rfl, rfl, SqL.of el, atI_nat (j := 0) rfl, t, _, rfl, SqT.of ht, rfl, _, _, rfl, _, _, rfl, _, _, rfl, rfl, ?_⟩
      refine ⟨y, rfl, z, rfl, by show 2 ≤ sizeLine; decide, fun g hg => ?_⟩
      have sg := same_upd (o := .tup [y, z]) hg
      exact q _ _ (d :: D) (sA.trans sg) tD2 (pair_of upd_same (Mo.same hy sg) (Mo.same hz sg))
def spEverything (K : PySem.W.Frag) (C : Addr) : Sp := fun vs H Q _ => ∃ n : Nat, vs = [.ref C, .int (n : Nat)] ∧ 1 ≤ n ∧ n ≤ 4 ∧ ∀ H' y, Same H H' → FrontAt K C H' y n [List.replicate n 0] → Q y H'
theorem flat_zero (k : Nat) : (List.replicate k [V.int 0]).flatten = List.replicate k (V.int 0) := by
  induction k with
  | zero => rfl
  | succ k ih => rw [List.replicate_succ, List.flatten_cons, ih]; rfl
theorem ok_zero (n : Nat) : Ok n (List.replicate n 0) := ⟨List.length_replicate, fun c hc => by
  rw [List.eq_of_mem_replicate hc]
  exact ⟨Int.le_refl _, by decide⟩⟩
theorem isL_one {m : List Int} {L : List (List Int)} (h : IsL [m] L) : L = [m] := by
  refine h.uniq ⟨List.pairwise_singleton _ _, fun x => ?_⟩
  rw [List.mem_singleton]
  constructor
  · rintro rfl
    exact ⟨rfl, fun y hy _ => by simpa using hy⟩
  · exact fun k => k.1
theorem d_everything (B : Bt mg) (T : TopC K C "everything" "Front.everything" sFront_everything ["cls", "axes"]) (Dcheck_axes : Def P w K mg base "check_axes" 2 ["axes"] spCheckAxes) (MkFront : MakeD P w K mg base C "Front" 3 ["self", "axes", "moments"] (spInit K C)) : CMethD P w K mg base C "everything" 5 (spEverything K C) := by
  refine mk_cmeth T scFront_everything (by rintro _ _ _ _ ⟨_, rfl, _⟩; rfl) fun f cdv A outer s H vs Q E hr h => ?_
  obtain ⟨n, rfl, hn1, hn4, q⟩ := h
  refine ⟨_, (pss_cons (ps_expr (pe_def Dcheck_axes (hr.mono (by first | decide | omega)) (by rfl) (pa_cons (pv 1) pa_nil)))
      (pss_one (ps_ret (NSet.pe_makeLV MkFront (hr.mono (by first | decide | omega)) (i := 0) rfl (Or.inl rfl) (pa_cons (pv 1) (pa_cons (pe_lst (pa_cons (pe_op op_repA (pe_tup (pa_cons pe_int pa_nil)) (pv 1)) pa_nil)) pa_nil)))))), ?_⟩
  refine ⟨.int (n : Nat), rfl, (n : Nat), rfl, by omega, by omega, fun H1 s1 => ?_⟩
  refine ⟨rfl, .int (n : Nat), rfl, ?_⟩
  refine ⟨by show 1 ≤ sizeLine; decide, fun t ht => ⟨.int (n : Nat), rfl, ?_⟩⟩
  have e1 : Same H1 (L2.upd H1 t (.tup [.int 0])) := same_upd ht
  by_cases h : n = 1
  · subst h
    refine .inl ⟨t, [.int 0], rfl, rfl, SqT.of upd_same, ?_⟩
    have sq := s1.trans e1
    have mz : Mo K (L2.upd H1 t (.tup [.int 0])) (.ref t) (List.replicate 1 0) := Mo.of (m := [0]) upd_same
    refine ⟨by show 1 ≤ sizeLine; decide, fun l hl => fun x dx hx hdx hne => ?_⟩
    have el : L2.upd H1 t (.tup [.int 0]) l = none := hl
    generalize L2.upd H1 t (.tup [.int 0]) = Hq at sq mz hl hx hdx el ⊢
    have s2 := sq.trans (same_upd (o := .lst [V.ref t]) el)
    have nlx : l ≠ x := ne_of_none (o := .lst [V.ref t]) upd_same hx
    have nld : l ≠ dx := ne_of_none (o := .lst [V.ref t]) upd_same hdx
    have s3 := (s2.trans (same_upd (o := .own x) hdx)).trans (same_upd (o := .ins C dx []) (by rw [upd_ne hne.symm]; exact hx))
    have mz3 : Mo K _ (.ref t) (List.replicate 1 0) := Mo.same mz (((same_upd (o := .lst [V.ref t]) el).trans (same_upd (o := .own x) hdx)).trans (same_upd (o := .ins C dx []) (by rw [upd_ne hne.symm]; exact hx)))
    refine ⟨x, dx, 1, .ref l, [List.replicate 1 0], rfl, upd_same, hn1, hn4, ⟨l, [V.ref t], rfl, by rw [upd_ne nlx, upd_ne nld, upd_same], .cons mz3 .nil⟩, fun m hm => by rw [List.mem_singleton.mp hm]; exact ok_zero 1, by show 1 ≤ 60; decide, fun H9 L kp fa _ il => ⟨rfl, q H9 _ (fun b o hb => kp _ _ (ne_of_none (s2 _ _ hb) hx) (s3 _ _ hb)) ?_⟩⟩
    rw [isL_one il] at fa
    exact fa
  · refine .inr ⟨t, (n : Nat), [.int 0], rfl, rfl, SqT.of upd_same, by simp, by omega, by omega, by simp, fun a ha => ?_⟩
    have sq := (s1.trans e1).trans (same_upd (o := .tup (List.replicate (n : Int).toNat [V.int 0]).flatten) ha)
    have mz : Mo K (L2.upd (L2.upd H1 t (.tup [.int 0])) a (.tup (List.replicate (n : Int).toNat [V.int 0]).flatten)) (.ref a) (List.replicate n 0) := Mo.of (by
      rw [upd_same, Int.toNat_natCast, flat_zero, List.map_replicate])
    refine ⟨by show 1 ≤ sizeLine; decide, fun l hl => fun x dx hx hdx hne => ?_⟩
    have el : L2.upd (L2.upd H1 t (.tup [.int 0])) a (.tup (List.replicate (n : Int).toNat [V.int 0]).flatten) l = none := hl
    generalize L2.upd (L2.upd H1 t (.tup [.int 0])) a (.tup (List.replicate (n : Int).toNat [V.int 0]).flatten) = Hq at sq mz hl hx hdx el ⊢
    have s2 := sq.trans (same_upd (o := .lst [V.ref a]) el)
    have nlx : l ≠ x := ne_of_none (o := .lst [V.ref a]) upd_same hx
    have nld : l ≠ dx := ne_of_none (o := .lst [V.ref a]) upd_same hdx
    have s3 := (s2.trans (same_upd (o := .own x) hdx)).trans (same_upd (o := .ins C dx []) (by rw [upd_ne hne.symm]; exact hx))
    have mz3 : Mo K _ (.ref a) (List.replicate n 0) := Mo.same mz (((same_upd (o := .lst [V.ref a]) el).trans (same_upd (o := .own x) hdx)).trans (same_upd (o := .ins C dx []) (by rw [upd_ne hne.symm]; exact hx)))
    refine ⟨x, dx, n, .ref l, [List.replicate n 0], rfl, upd_same, hn1, hn4, ⟨l, [V.ref a], rfl, by rw [upd_ne nlx, upd_ne nld, upd_same], .cons mz3 .nil⟩, fun m hm => by rw [List.mem_singleton.mp hm]; exact ok_zero n, by show 1 ≤ 60; decide, fun H9 L kp fa _ il => ⟨rfl, q H9 _ (fun b o hb => kp _ _ (ne_of_none (s2 _ _ hb) hx) (s3 _ _ hb)) ?_⟩⟩
    rw [isL_one il] at fa
    exact fa
end
end K11

/-! a comprehension with a test: immutable data told ahead, by a list -/
namespace NSet
open PySem PySem.Spec PySem.W PyProof.Rows L2
section
variable {J : It} {n : Nat} {G : Hp → Prop} {Y : Nat → Hp → V → Hp → Prop} {K : PySem.W.Frag} {α : Type}
theorem lc_dat_if (w : Walk J n G Y) {g : TG} {tt : TT} {te : TE} {vs : List Nat} {σ : L2.St} {H1 : Hp} {D : Addr} {Qd : Hp → Prop} (hD : H1 D = none) (hn : n ≤ 100000) (hG : ∀ H, Same H1 H → G H) (S : List α) (hS : S.length = n) (b : α → Bool) (d : α → PyData) (him : ∀ a ∈ S, imm (d a) = true)
    (step : ∀ i x H H' a (Q : VK) (R : Hp → Prop), S[i]? = some a → Same H1 H → Y i H x H' → (b a = true → ∀ y H4, Same H H4 → Da K H4 y (d a) → Q y H4) → (b a = false → ∀ H3, Same H H3 → R H3) →
      g x (wipe σ vs) H' fun σ2 H2 => wipe σ2 vs = wipe σ vs ∧ tt σ2 H2 fun bb H3 => if bb = true then te σ2 H3 Q else R H3)
    (hd : ∀ H acc, Same H1 H → H D = some (.lst acc) → DaAll K H acc ((S.filter b).map d) → Qd H) : LcGoal J g tt te vs σ H1 D Qd := by
  have himt : ∀ i, immAll (((S.take i).filter b).map d) = true := fun i => immAll_of fun x hx => by
    obtain ⟨a, ha, rfl⟩ := List.mem_map.mp hx
    exact him a (List.mem_of_mem_take (List.mem_filter.mp ha).1)
  refine lc_it w (fun i H => Same H1 H ∧ ∃ acc, H D = some (.lst acc) ∧ DaAll K H acc (((S.take i).filter b).map d)) ⟨same_upd hD, [], upd_same, .nil⟩ (fun i H _ p => hG H p.1) (fun i x H H' hi p y => ?_) (fun H p => ?_)
  · obtain ⟨p1, acc, p2, p3⟩ := p
    have ha : S[i]? = some S[i] := List.getElem?_eq_getElem (by omega)
    generalize S[i] = a at ha
    have ht : S.take (i + 1) = S.take i ++ [a] := by rw [List.take_add_one, ha]; rfl
    refine step i x H H' a _ _ ha p1 y (fun hb v H4 e hv => ⟨acc, e _ _ p2, ?_, (p1.trans e).mut hD, _, upd_same, ?_⟩) fun hb H3 e => ⟨p1.trans e, acc, e _ _ p2, ?_⟩
    · rw [p3.length, List.length_map]
      refine Nat.lt_of_le_of_lt (List.length_filter_le _ _) (Nat.lt_of_le_of_lt (List.length_take_le _ _) ?_)
      exact Nat.lt_of_lt_of_le hi (Nat.le_trans hn (by decide))
    · have e4 : H4 D = some (.lst acc) := e _ _ p2
      have st : ST K H4 (upd H4 D (.lst (acc ++ [v]))) := st_upd e4 True.intro
      rw [ht, List.filter_append, List.map_append]
      have : [a].filter b = [a] := by simp [hb]
      rw [this]
      exact DaAll.snoc (Da.st st _ _ (him a (List.mem_of_getElem? ha)) hv) (Da.stAll (e.st.trans st) _ _ (himt i) p3)
    · rw [ht, List.filter_append, List.map_append]
      have : [a].filter b = [] := by simp [hb]
      rw [this]
      simpa using Da.sameAll e _ _ p3
  · obtain ⟨p1, acc, p2, p3⟩ := p
    rw [List.take_of_length_le (Nat.le_of_eq hS)] at p3
    exact hd H acc p1 p2 p3
end
end NSet

namespace K11
open PySem PySem.Spec PyProof.Rows L2 NSet
/-- a row and a count as data -/
def rcD (q : List Int × Int) : PyData := .tuple [mo q.1, .int q.2]
theorem rcD_inv {K : PySem.W.Frag} {H : Hp} {v : V} {q : List Int × Int} (h : Da K H v (rcD q)) : ∃ t y, v = .ref t ∧ H t = some (.tup [y, .int q.2]) ∧ Mo K H y q.1 := by
  cases h with
  | tup hs ha =>
    cases ha with
    | cons h1 t =>
      cases t with
      | cons h3 t =>
        cases t
        cases h3
        exact ⟨_, _, rfl, hs, h1⟩
theorem rcD_of {K : PySem.W.Frag} {H : Hp} {t : Addr} {y : V} {q : List Int × Int} (h : H t = some (.tup [y, .int q.2])) (h1 : Mo K H y q.1) : Da K H (.ref t) (rcD q) := .tup h (.cons h1 (.cons (.int _) .nil))
theorem imm_rcD (q : List Int × Int) : imm (rcD q) = true := by
  show (imm (mo q.1) && (imm (.int q.2) && true)) = true
  rw [imm_mo]
  rfl
theorem imm_rcs (cs : List (List Int × Int)) : immAll (cs.map rcD) = true := immAll_of fun d hd => by
  obtain ⟨c, _, rfl⟩ := List.mem_map.mp hd
  exact imm_rcD c
theorem rc_at {cs : List (List Int × Int)} {i : Nat} {d : PyData} (h : (cs.map rcD)[i]? = some d) : ∃ c, cs[i]? = some c ∧ d = rcD c := by
  rw [List.getElem?_map] at h
  obtain ⟨c, h1, h2⟩ := Option.map_eq_some_iff.mp h
  exact ⟨c, h1, h2.symm⟩
def RcL (K : PySem.W.Frag) (H : Hp) (v : V) (ps : List (List Int × Int)) : Prop := ∃ a lv, v = .ref a ∧ H a = some (.lst lv) ∧ DaAll K H lv (ps.map rcD)
theorem RcL.same {K : PySem.W.Frag} {H H' : Hp} {v : V} {ps : List (List Int × Int)} (h : RcL K H v ps) (e : Same H H') : RcL K H' v ps := by
  obtain ⟨a, lv, rfl, h1, h2⟩ := h
  exact ⟨a, lv, rfl, e _ _ h1, Da.sameAll e _ _ h2⟩
theorem SumV.same {E : Kin} {K : PySem.W.Frag} {w : World} {H H' : Hp} {a : Addr} {T ps : List (E.κ × Int)} (S : SumV E K w H a T ps) (e : Same H H') : SumV E K w H' a T ps := by
  obtain ⟨⟨Lr, h1, h2⟩, r1, r2, r3, r4⟩ := S
  exact ⟨⟨Lr, e _ _ h1, h2.st e.st⟩, r1, r2, r3, r4⟩
theorem SumV.tal {E : Kin} {K : PySem.W.Frag} {w : World} {H : Hp} {a : Addr} {T ps : List (E.κ × Int)} (S : SumV E K w H a T ps) (h : ps.length ≤ 5000) : TalAt E K w H a T := by
  obtain ⟨⟨Lr, h1, h2⟩, r1, r2, r3, r4⟩ := S
  exact ⟨Lr, h1, h2, r1, Nat.le_trans r2 h⟩
section
variable {P : Program} {w : World} {K : PySem.W.Frag} {mg : Str → Option Value} {base : Heap}
def spNet (K : PySem.W.Frag) (w : World) : Sp := fun vs H Q _ => ∃ (v : V) (cs : List (PK × Int)), vs = [v] ∧ ChL K H v cs ∧ cs.length ≤ 5000 ∧ ∀ H' b N, Same H H' → H b = none → TalAt pairK K w H' b N → (∀ k, Tl.cnt N k = Tl.cnt cs k) → (∀ p ∈ N, p.1 ∈ Tl.keys cs) → N.length ≤ cs.length → Q (.ref b) H'
theorem d_law_net (B : Bt mg) (T : Top K mg "_law_net" s_law_net ["change_list"]) : Def P w K mg base "_law_net" 1 ["change_list"] (spNet K w) := by
  refine mk_def T sc_law_net (by rintro _ _ _ _ ⟨_, _, rfl, _⟩; rfl) fun f cdv A outer s H vs Q E hr h => ?_
  obtain ⟨v, cs, rfl, ⟨a, lv, rfl, ha, hx⟩, hn, q⟩ := h
  refine ⟨_, (pss_cons (ps_set (i := 1) sc_law_net.nd rfl (Or.inl rfl) (NSet.pe_dnewV))
      (pss_cons (ps_for PassesOwn.never rfl (pi_list (pv 0)) (pg_tup rfl (pgs_cons (pg_name (i := 2) sc_law_net.nd rfl (Or.inl rfl)) (pgs_cons (pg_name (i := 3) sc_law_net.nd rfl (Or.inl rfl)) (pgs_cons (pg_name (i := 4) sc_law_net.nd rfl (Or.inl rfl)) pgs_nil)))) (pss_one (NSet.ps_dputV (hu24 hr) (pv 1) (pe_tup (pa_cons (pv 2) (pa_cons (pv 3) pa_nil))) (pe_op op_add (NSet.pe_dget2V (hu24 hr) (pv 1) (pe_tup (pa_cons (pv 2) (pa_cons (pv 3) pa_nil))) pe_int ⟨by rfl, by rfl, by rfl, by rfl⟩) (pv 4)))))
      (pss_one (ps_ret (pv 1))))), ?_⟩
  intro M hM
  have naM : a ≠ M := ne_of_none ha hM
  refine ⟨.ref a, rfl, a, rfl, ⟨_, SqL.of (same_upd hM _ _ ha)⟩, ?_⟩
  have hl : lv.length = cs.length := by simpa using hx.length
  refine for_list (xs := lv) (fun i σ H' => ∃ y2 y3 y4 T, σ = [some (.ref a), some (.ref M), y2, y3, y4] ∧ SameB M H H' ∧ SumV pairK K w H' M T (cs.take i)) ⟨none, none, none, [], rfl, Same.b (same_upd hM), ⟨⟨[], upd_same, .nil⟩, List.Pairwise.nil, Nat.le_refl _, fun k => rfl, fun p hp => nomatch hp⟩⟩ (fun i σ H' _ pv' => ?_) (fun i x σ H' hxi pv' => ?_) (fun σ H' pv' => ?_)
  · obtain ⟨_, _, _, _, rfl, e, _⟩ := pv'
    exact SqL.of (e _ _ naM ha)
  · obtain ⟨y2, y3, y4, T, rfl, e, S⟩ := pv'
    have stH : ST K H H' := fun t us ht => e _ _ (ne_of_none ht hM) ht
    obtain ⟨d, hd1, hd2⟩ := hx.get hxi
    obtain ⟨c, hc, rfl⟩ := ch_at hd1
    obtain ⟨t, y, z, rfl, ht, hy, hz⟩ := chD_inv (Da.st stH _ _ (imm_chD c) hd2)
    have lt : (cs.take i).length ≤ 5000 := Nat.le_trans (List.length_take_le' _ _) hn
    obtain ⟨Lr0, eL0, _⟩ := S.at'
    refine ⟨t, _, rfl, SqT.of ht, rfl, _, _, rfl, _, _, rfl, _, _, rfl, rfl, ?_⟩
    refine ⟨.ref M, rfl, M, rfl, ⟨_, .inl eL0⟩, y, rfl, z, rfl, by show 2 ≤ sizeLine; decide, fun g hg => ?_⟩
    have e1 := same_upd (o := .tup [y, z]) hg
    have S1 := S.same e1
    obtain ⟨o, ho, eo⟩ := get_sum S1 (pair_of (k := c.1) upd_same (Mo.same hy e1) (Mo.same hz e1))
    refine ⟨o, ho, .int c.2, rfl, _, _, eo, rfl, .ref M, rfl, y, rfl, z, rfl, by show 2 ≤ sizeLine; decide, fun g2 hg2 => ?_⟩
    have e2 := e1.trans (same_upd (o := .tup [y, z]) hg2)
    have S2 := S.same e2
    refine put_sum (p := c) S2 (pair_of (k := c.1) upd_same (Mo.same hy e2) (Mo.same hz e2)) lt fun H3 e3 S3 => ?_
    refine ⟨_, _, _, Tl.put T c.1 (Tl.cnt T c.1 + c.2), rfl, (e.trans e2.b).trans e3, ?_⟩
    rw [List.take_add_one, hc, Option.toList_some]
    exact S3
  · obtain ⟨y2, y3, y4, T, rfl, e, S⟩ := pv'
    rw [hl, List.take_length] at S
    refine ⟨.ref M, rfl, q H' M T (fun t u ht => e _ _ (ne_of_none ht hM) ht) hM (S.tal hn) S.sum S.inn S.len⟩
def spTold (K : PySem.W.Frag) (w : World) : Sp := fun vs H Q _ => ∃ (a : Addr) (N : List (PK × Int)), vs = [.ref a] ∧ TalAt pairK K w H a N ∧ ∀ H' b D, Same H H' → H b = none → ChL K H' (.ref b) D → Told pairK (Tl.cnt N) D → D.length ≤ N.length → (∀ q ∈ D, q.1 ∈ Tl.keys N) → Q (.ref b) H'
theorem d_law_told (B : Bt mg) (T : Top K mg "_law_told" s_law_told ["net"]) : Def P w K mg base "_law_told" 1 ["net"] (spTold K w) := by
  refine mk_def T sc_law_told (by rintro _ _ _ _ ⟨_, _, rfl, _⟩; rfl) fun f cdv A outer s H vs Q E hr h => ?_
  obtain ⟨c, N, rfl, ⟨Lr, e, R, nd, hl⟩, q⟩ := h
  refine ⟨_, (pss_one (ps_ret (pe_lc (own := [("key", 1)]) (g := (gName 1)) (tt := (tTest (tOp rNe (NSet.tDGetV K w (tVar 0) (tVar 1)) (tC (.int 0))))) (te := (tTup (tCons (tOp (rIxT K) (tVar 1) (tC (.int 0))) (tCons (tOp (rIxT K) (tVar 1) (tC (.int 1))) (tCons (NSet.tDGetV K w (tVar 0) (tVar 1)) tNil))))) rfl sc_law_told.nd (pi_list (pe_callB (NSet.cr_sortD (hu24 hr)) (by rfl) B.m_sorted (by decide +kernel) (pa_cons (pe_callTy (NSet.call_listDV rfl) (by rfl) B.m_list (by decide +kernel) (pa_cons (pv 0) pa_nil)) pa_nil))) (blkOk_by (own := [("key", 1)]) (N := N_law_told) (sc := defScope s_law_told) (by decide +kernel)) (fun _ _ _ _ _ => (pg_name (i := 1) sc_law_told.nd rfl (Or.inl rfl))) (fun _ _ _ _ _ => (pts_one (pt_cmpR op_ne (NSet.pe_dgetV (hu24 hr) (pv 0) (pv 1) (fun _ _ => rfl)) pe_int (nomark _)))) (fun _ _ _ _ _ => (pe_tup (pa_cons (pe_ix ix_tup (pv 1) pe_int (fun _ _ => rfl)) (pa_cons (pe_ix ix_tup (pv 1) pe_int (fun _ _ => rfl)) (pa_cons (NSet.pe_dgetV (hu24 hr) (pv 0) (pv 1) (fun _ _ => rfl)) pa_nil)))))))), ?_⟩
  refine ⟨.ref c, rfl, c, Lr, rfl, .inl e, fun l0 hl0 => ?_⟩
  have s0 := same_upd (o := .lst (Lr.map kRef)) hl0
  have ds := Rows.das (R.st s0.st)
  rw [ivs_keys] at ds
  refine ⟨l0, _, (Tl.keys N).map pairK.enc, rfl, SqL.of upd_same, ds, sorts_of _, fun l ys M nl pm so dM => ?_⟩
  obtain ⟨S, rfl, pS, aS⟩ := sorted_keys ordPair nd pm so
  have s1 := s0.trans (same_upd (o := .lst ys) nl)
  have el : L2.upd (L2.upd H l0 (.lst (Lr.map kRef))) l (.lst ys) l = some (.lst ys) := upd_same
  generalize L2.upd (L2.upd H l0 (.lst (Lr.map kRef))) l (.lst ys) = H1 at s1 el dM ⊢
  refine ⟨l, rfl, ⟨_, SqL.of el⟩, fun D hD => ?_⟩
  have lS : S.length = N.length := by
    rw [pS.length_eq]
    unfold Tl.keys
    rw [List.length_map]
  have ly : ys.length = S.length := by simpa using dM.length
  refine lc_dat_if (K := K) walk_list hD (by omega) (fun H2 e2 => SqL.of (e2 _ _ el)) S ly.symm (fun k => decide (Tl.cnt N k ≠ 0)) (fun k => chD (k, Tl.cnt N k)) (fun k _ => imm_chD _) (fun i x H3 H2 k0 Q' Rr hk0 e2 y k1 k2 => ?_) (fun H2 acc e2 eD dD => ?_)
  · obtain ⟨rfl, hy⟩ := y
    obtain ⟨d, hd1, hd2⟩ := dM.get hy
    obtain rfl : pairK.enc k0 = d := by
      rw [List.getElem?_map, hk0] at hd1
      exact Option.some.inj hd1
    have hx2 := Da.same e2 _ _ hd2
    obtain ⟨t, y, z, rfl, ht, hy', hz⟩ := pair_inv hx2
    have e02 := s1.trans e2
    have kin : k0 ∈ Tl.keys N := pS.mem_iff.mp (List.mem_of_getElem? hk0)
    obtain ⟨q0, hq0, rfl⟩ := List.mem_map.mp kin
    have hg := get_walk (E := pairK) (od := default) (.inl (e02 _ _ e)) (R.st e02.st) nd hx2 hq0
    have ec : Tl.cnt N q0.1 = q0.2 := Tl.cnt_in nd hq0
    refine ⟨rfl, .ref c, rfl, .ref t, rfl, c, _, rfl, hg, rfl, _, rfl, ?_⟩
    by_cases e0 : q0.2 = 0
    · rw [decide_eq_true (show V.int q0.2 = V.int 0 by rw [e0])]
      exact iteF (k2 (decide_eq_false (by rw [ec, e0]; exact fun z => z rfl)) _ (Same.refl _))
    · rw [decide_eq_false (show ¬ V.int q0.2 = V.int 0 from fun z => e0 (V.int.inj z))]
      refine iteT ⟨.ref t, rfl, t, _, 0, y, rfl, rfl, SqT.of ht, atI_nat (j := 0) rfl, .ref t, rfl, t, _, 1, z, rfl, rfl, SqT.of ht, atI_nat (j := 1) rfl, .ref c, rfl, .ref t, rfl, c, _, rfl, hg, by show 3 ≤ sizeLine; decide, fun g hg' => ?_⟩
      have e6 := same_upd (o := .tup [y, z, .int q0.2]) hg'
      refine k1 (decide_eq_true (by rw [ec]; exact e0)) _ _ e6 ?_
      rw [ec]
      exact chD_of (c := (q0.1, q0.2)) upd_same (Mo.same hy' e6) (Mo.same hz e6)
  · have tD := told_of aS (Tl.cnt N) fun k hk => pS.mem_iff.mpr (Tl.cnt_mem hk)
    refine q H2 D _ (s1.trans e2) (s1.new hD) ⟨D, acc, rfl, eD, ?_⟩ tD ?_ fun q' hq' => ?_
    · rw [List.map_map]
      exact dD
    · rw [List.length_map, ← lS]
      exact List.length_filter_le _ _
    · obtain ⟨k, hk, rfl⟩ := List.mem_map.mp hq'
      exact pS.mem_iff.mp (List.mem_filter.mp hk).1
def spJoined (K : PySem.W.Frag) (w : World) : Sp := fun vs H Q _ => ∃ (v : V) (a : Addr) (n : Nat) (sm : List Int) (N : List (PK × Int)), vs = [v, .ref a] ∧ Mo K H v sm ∧ Ok n sm ∧ n ≤ 1000 ∧ TalAt pairK K w H a N ∧ (∀ p ∈ N, HK n p.1) ∧ ∀ H' b M, Same H H' → H b = none → TalAt pairK K w H' b M → (∀ k, Tl.cnt M k = feltC sm N k) → M.length ≤ N.length → (∀ p ∈ M, HK n p.1) → Q (.ref b) H'
theorem d_law_joined (B : Bt mg) (T : Top K mg "_law_joined" s_law_joined ["start", "net"]) (D_law_join : Def P w K mg base "_law_join" 1 ["one", "two"] (spM K joinL)) : Def P w K mg base "_law_joined" 2 ["start", "net"] (spJoined K w) := by
  refine mk_def T sc_law_joined (by rintro _ _ _ _ ⟨_, _, _, _, _, rfl, _⟩; rfl) fun f cdv A outer s H vs Q E hr h => ?_
  obtain ⟨v, c, n, sm, N, rfl, hsm, oks, hn, ⟨Lr, e, R, nd, hl⟩, hok, q⟩ := h
  refine ⟨_, (pss_cons (ps_set (i := 2) sc_law_joined.nd rfl (Or.inl rfl) (NSet.pe_dnewV))
      (pss_cons (ps_for PassesOwn.never rfl (pi_list (pe_callTy (NSet.call_listDV rfl) (by rfl) B.m_list (by decide +kernel) (pa_cons (pv 1) pa_nil))) (pg_tup rfl (pgs_cons (pg_name (i := 3) sc_law_joined.nd rfl (Or.inl rfl)) (pgs_cons (pg_name (i := 4) sc_law_joined.nd rfl (Or.inl rfl)) pgs_nil))) (pss_cons (ps_set (i := 5) sc_law_joined.nd rfl (Or.inl rfl) (pe_tup (pa_cons (pe_def D_law_join (hr.mono (by first | decide | omega)) (by rfl) (pa_cons (pv 3) (pa_cons (pv 0) pa_nil))) (pa_cons (pv 4) pa_nil))))
      (pss_one (NSet.ps_dputV (hu24 hr) (pv 2) (pv 5) (pe_op op_add (NSet.pe_dget2V (hu24 hr) (pv 2) (pv 5) pe_int ⟨by rfl, by rfl, by rfl, by rfl⟩) (NSet.pe_dgetV (hu24 hr) (pv 1) (pe_tup (pa_cons (pv 3) (pa_cons (pv 4) pa_nil))) (fun _ _ => rfl)))))))
      (pss_one (ps_ret (pv 2))))), ?_⟩
  intro M hM
  have ncM : c ≠ M := ne_of_none e hM
  have s0 := same_upd (o := DictVO w M []) hM
  have ec0 := s0 _ _ e
  refine ⟨.ref c, rfl, c, Lr, rfl, .inl ec0, fun l hl' => ?_⟩
  have nl : H l = none := s0.new hl'
  have nlM : l ≠ M := (ne_of_none (o := DictVO w M []) upd_same hl').symm
  have s1 := s0.trans (same_upd (o := .lst (Lr.map kRef)) hl')
  have el : L2.upd (L2.upd H M (DictVO w M [])) l (.lst (Lr.map kRef)) l = some (.lst (Lr.map kRef)) := upd_same
  have eM : L2.upd (L2.upd H M (DictVO w M [])) l (.lst (Lr.map kRef)) M = some (DictVO w M []) := by rw [upd_ne nlM.symm, upd_same]
  have lN : Lr.length = N.length := by rw [plen R, ivs_len]
  refine ⟨l, rfl, ⟨_, SqL.of el⟩, ?_⟩
  refine for_list (xs := Lr.map kRef) (fun i σ H' => ∃ y3 y4 y5 T, σ = [some v, some (.ref c), some (.ref M), y3, y4, y5] ∧ SameB M (L2.upd (L2.upd H M (DictVO w M [])) l (.lst (Lr.map kRef))) H' ∧ SumV pairK K w H' M T ((mapT (fun m => joinL m sm) N).take i)) ⟨none, none, none, [], rfl, SameB.refl _ _, ⟨⟨[], eM, .nil⟩, List.Pairwise.nil, Nat.le_refl _, fun k => rfl, fun p hp => nomatch hp⟩⟩ (fun i σ H' _ pv' => ?_) (fun i x σ H' hxi pv' => ?_) (fun σ H' pv' => ?_)
  · obtain ⟨_, _, _, _, rfl, e2, _⟩ := pv'
    exact SqL.of (e2 _ _ nlM el)
  · obtain ⟨y3, y4, y5, T, rfl, e2, S⟩ := pv'
    have stH : ST K H H' := fun t us ht => e2 _ _ (ne_of_none ht hM) (s1 _ _ ht)
    rw [List.getElem?_map] at hxi
    obtain ⟨r, hr', rfl⟩ := Option.map_eq_some_iff.mp hxi
    obtain ⟨p0, hp0, hd, _⟩ := rows_at (R.st stH) hr'
    obtain ⟨q', hq', rfl⟩ := ivs_get hp0
    have qin : q' ∈ N := List.mem_of_getElem? hq'
    obtain ⟨t, y, z, et, ht, hy, hz⟩ := pair_inv hd
    have ec' := e2 _ _ ncM (s1 _ _ e)
    refine ⟨t, _, et, SqT.of ht, rfl, _, _, rfl, _, _, rfl, rfl, ?_⟩
    obtain ⟨b1, rfl, hb1⟩ := hy.inv
    obtain ⟨b2, rfl, hb2⟩ := (Mo.st hsm stH).inv
    have ok1 := (hok q' qin).1
    refine ⟨.ref b1, rfl, .ref b2, rfl, b1, b2, q'.1.1, sm, rfl, hb1, hb2, by rw [ok1.1, oks.1], by rw [ok1.1]; exact hn, fun H3 j s3 nj ej => ⟨z, rfl, by show 2 ≤ sizeLine; decide, fun g hg => ?_⟩⟩
    have s4 := s3.trans (same_upd (o := .tup [.ref j, z]) hg)
    have hk4 : Da K (L2.upd H3 g (.tup [.ref j, z])) (.ref g) (pairD (joinL q'.1.1 sm, q'.1.2)) := pair_of upd_same (Mo.same (Mo.of ej) (same_upd hg)) (Mo.same hz s4)
    have S4 := S.same s4
    obtain ⟨Lr0, eL0, _⟩ := S4.at'
    obtain ⟨o, ho, eo⟩ := get_sum (k := (joinL q'.1.1 sm, q'.1.2)) S4 hk4
    refine ⟨.ref M, rfl, M, rfl, ⟨_, .inl eL0⟩, .ref g, rfl, o, ho, .ref c, rfl, .ref b1, rfl, z, rfl, by show 2 ≤ sizeLine; decide, fun g2 hg2 => ?_⟩
    have s5 := s4.trans (same_upd (o := .tup [.ref b1, z]) hg2)
    have hk5 := pair_of (K := K) (H := L2.upd (L2.upd H3 g (.tup [.ref j, z])) g2 (.tup [.ref b1, z])) (t := g2) (k := q'.1) upd_same (Mo.same hy s5) (Mo.same hz s5)
    refine ⟨c, _, rfl, get_walk (E := pairK) (od := default) (.inl (s5 _ _ ec')) (R.st (stH.trans s5.st)) nd hk5 qin, _, _, eo, rfl, .ref M, rfl, .ref g, rfl, ?_⟩
    have S5 := S4.same (same_upd (o := .tup [.ref b1, z]) hg2)
    have lt : ((mapT (fun m => joinL m sm) N).take i).length ≤ 5000 := Nat.le_trans (List.length_take_le' _ _) (by rw [mapT_len]; exact hl)
    refine put_sum (p := ((joinL q'.1.1 sm, q'.1.2), q'.2)) S5 (Da.same (same_upd hg2) _ _ hk4) lt fun H6 e6 S6 => ?_
    refine ⟨_, _, _, Tl.put T (joinL q'.1.1 sm, q'.1.2) (Tl.cnt T (joinL q'.1.1 sm, q'.1.2) + q'.2), rfl, (e2.trans s5.b).trans e6, ?_⟩
    have e7 : (mapT (fun m => joinL m sm) N).take (i + 1) = (mapT (fun m => joinL m sm) N).take i ++ [((joinL q'.1.1 sm, q'.1.2), q'.2)] := by
      rw [List.take_add_one]
      unfold mapT
      rw [List.getElem?_map, hq']
      rfl
    rw [e7]
    exact S6
  · obtain ⟨y3, y4, y5, T, rfl, e2, S⟩ := pv'
    have eT : (mapT (fun m => joinL m sm) N).take (Lr.map kRef).length = mapT (fun m => joinL m sm) N := by
      rw [List.take_of_length_le]
      rw [mapT_len, List.length_map, lN]
      exact Nat.le_refl _
    rw [eT] at S
    have lS := S.len
    rw [mapT_len] at lS
    refine ⟨.ref M, rfl, q H' M T (fun t u ht => e2 _ _ (ne_of_none ht hM) (s1 _ _ ht)) hM (S.tal (by rw [mapT_len]; exact hl)) S.sum lS fun p hp => ?_⟩
    obtain ⟨z, hz, ez⟩ := List.mem_map.mp (S.inn p hp)
    obtain ⟨z0, hz0, rfl⟩ := List.mem_map.mp hz
    rw [← ez]
    exact ⟨(hok z0 hz0).1.join oks, (hok z0 hz0).2⟩
end
end K11

namespace K11
open PySem PySem.Spec PyProof.Rows L2 NSet
/-! ### shaped data -/
theorem can_ints : ∀ ns : List Int, PyData.canLayAll0 (ns.map PyData.int) = true
  | [] => rfl
  | n :: ns => can_ints ns
theorem depth_ints : ∀ ns : List Int, PyData.depthAll (ns.map PyData.int) = 0
  | [] => rfl
  | n :: ns => by
    show max 0 (PyData.depthAll (ns.map PyData.int)) = 0
    rw [depth_ints ns]
    rfl
theorem shaped_mo (m : List Int) : SeqAt.shaped (mo m) = true := by
  unfold SeqAt.shaped
  rw [show PyData.canLay0 (mo m) = true from can_ints m, Bool.true_and]
  refine decide_eq_true ?_
  show PyData.depthAll (m.map PyData.int) + 1 ≤ 64
  rw [depth_ints]
  decide
theorem can_all {α : Type} (f : α → PyData) (h : ∀ a, PyData.canLay0 (f a) = true) : ∀ l : List α, PyData.canLayAll0 (l.map f) = true
  | [] => rfl
  | a :: l => by
    show (PyData.canLay0 (f a) && PyData.canLayAll0 (l.map f)) = true
    rw [h a, can_all f h l]
    rfl
theorem depth_all {α : Type} (f : α → PyData) (k : Nat) (h : ∀ a, (f a).depth ≤ k) : ∀ l : List α, PyData.depthAll (l.map f) ≤ k
  | [] => Nat.zero_le _
  | a :: l => Nat.max_le.mpr ⟨h a, depth_all f k h l⟩
theorem shaped_list {α : Type} (f : α → PyData) (k : Nat) (hk : k ≤ 60) (h1 : ∀ a, PyData.canLay0 (f a) = true) (h2 : ∀ a, (f a).depth ≤ k) (l : List α) : SeqAt.shaped (.list (l.map f)) = true := by
  unfold SeqAt.shaped
  rw [show PyData.canLay0 (.list (l.map f)) = true from can_all f h1 l, Bool.true_and]
  refine decide_eq_true ?_
  show PyData.depthAll (l.map f) + 1 ≤ 64
  have := depth_all f k h2 l
  omega
theorem can_mo (m : List Int) : PyData.canLay0 (mo m) = true := can_ints m
theorem dp_mo (m : List Int) : (mo m).depth ≤ 2 := mo_dp m
theorem can_chD (c : PK × Int) : PyData.canLay0 (chD c) = true := by
  show (PyData.canLay0 (mo c.1.1) && (PyData.canLay0 (mo c.1.2) && (true && true))) = true
  rw [can_mo, can_mo]
  rfl
theorem dp_chD (c : PK × Int) : (chD c).depth ≤ 4 := by
  have h1 := mo_dp c.1.1
  have h2 := mo_dp c.1.2
  simp only [chD, PyData.depth, PyData.depthAll]
  omega
theorem shaped_chs (cs : List (PK × Int)) : SeqAt.shaped (.list (cs.map chD)) = true := shaped_list chD 4 (by decide) can_chD dp_chD cs
theorem shaped_mos (ms : List (List Int)) : SeqAt.shaped (.list (ms.map mo)) = true := shaped_list mo 2 (by decide) can_mo dp_mo ms
theorem eqv_self {d : PyData} (h : SeqAt.shaped d = true) : PyData.eqv d d = true := by
  unfold SeqAt.shaped at h
  rw [Bool.and_eq_true] at h
  exact SeqAt.eqv_refl d h.1
theorem eqvAll_ints : ∀ ns ms : List Int, PyData.eqvAll (ns.map PyData.int) (ms.map PyData.int) = decide (ns = ms)
  | [], [] => rfl
  | [], _ :: _ => rfl
  | _ :: _, [] => rfl
  | n :: ns, m :: ms => by
    show ((n == m) && PyData.eqvAll (ns.map PyData.int) (ms.map PyData.int)) = _
    rw [eqvAll_ints ns ms, Bool.eq_iff_iff]
    simp
theorem eqv_mo (a b : List Int) : PyData.eqv (mo a) (mo b) = decide (a = b) := eqvAll_ints a b
theorem any_mo (ms : List (List Int)) (m : List Int) : ((ms.map mo).any fun z => PyData.eqv z (mo m)) = decide (m ∈ ms) := by
  rw [List.any_map, Bool.eq_iff_iff, List.any_eq_true, decide_eq_true_eq]
  constructor
  · rintro ⟨x, hx, e⟩
    have e' : PyData.eqv (mo x) (mo m) = true := e
    rw [eqv_mo] at e'
    rw [← of_decide_eq_true e']
    exact hx
  · intro h
    exact ⟨m, h, by show PyData.eqv (mo m) (mo m) = true; rw [eqv_mo]; simp⟩
theorem ChL.da {K : PySem.W.Frag} {H : Hp} {v : V} {cs : List (PK × Int)} (h : ChL K H v cs) : Da K H v (.list (cs.map chD)) := by
  obtain ⟨a, lv, rfl, h1, h2⟩ := h
  exact .lst (SqL.of h1) h2
theorem MoL.da {K : PySem.W.Frag} {H : Hp} {v : V} {ms : List (List Int)} (h : MoL K H v ms) : Da K H v (.list (ms.map mo)) := by
  obtain ⟨a, lv, rfl, h1, h2⟩ := h
  exact .lst (SqL.of h1) h2
/-! ### the distinct moments, in their order -/
def spotsL : List (PK × Int) → List (List Int) → List (List Int)
  | [], F => F
  | c :: cs, F => spotsL cs (if c.1.1 ∈ F then F else F ++ [c.1.1])
theorem spotsL_mem : ∀ (cs : List (PK × Int)) (F : List (List Int)) (m : List Int), m ∈ spotsL cs F ↔ m ∈ F ∨ ∃ q ∈ cs, q.1.1 = m
  | [], F, m => by simp [spotsL]
  | c :: cs, F, m => by
    show m ∈ spotsL cs (if c.1.1 ∈ F then F else F ++ [c.1.1]) ↔ _
    rw [spotsL_mem cs]
    constructor
    · rintro (h | ⟨q, hq, e⟩)
      · split at h
        · exact .inl h
        · rcases List.mem_append.mp h with h | h
          · exact .inl h
          · exact .inr ⟨c, List.mem_cons_self, (List.mem_singleton.mp h).symm⟩
      · exact .inr ⟨q, List.mem_cons_of_mem _ hq, e⟩
    · rintro (h | ⟨q, hq, e⟩)
      · left
        split
        · exact h
        · exact List.mem_append_left _ h
      · rcases List.mem_cons.mp hq with rfl | hq
        · left
          rw [← e]
          split
          · next h => exact h
          · exact List.mem_append_right _ (List.mem_singleton.mpr rfl)
        · exact .inr ⟨q, hq, e⟩
theorem spotsL_asc : ∀ (cs : List (PK × Int)) (F : List (List Int)), cs.Pairwise (fun p q => ltK pairK p.1 q.1 = true) → F.Pairwise (· < ·) → (∀ f ∈ F, ∀ c ∈ cs, f = c.1.1 ∨ f < c.1.1) → (spotsL cs F).Pairwise (· < ·)
  | [], F, _, h, _ => h
  | c :: cs, F, ha, hF, hc => by
    obtain ⟨h1, h2⟩ := List.pairwise_cons.mp ha
    have step : ∀ d ∈ cs, c.1.1 = d.1.1 ∨ c.1.1 < d.1.1 := fun d hd => by
      have := (lt_pair c.1 d.1).symm.trans (h1 d hd)
      by_cases e : c.1.1 = d.1.1
      · exact .inl e
      · rw [if_neg e] at this
        exact .inr (of_decide_eq_true this)
    show (spotsL cs (if c.1.1 ∈ F then F else F ++ [c.1.1])).Pairwise (· < ·)
    refine spotsL_asc cs _ h2 ?_ ?_
    · split
      · exact hF
      · next hn =>
        refine List.pairwise_append.mpr ⟨hF, List.pairwise_singleton _ _, fun f hf y hy => ?_⟩
        rw [List.mem_singleton.mp hy]
        rcases hc f hf c List.mem_cons_self with e | e
        · exact absurd (e ▸ hf) hn
        · exact e
    · intro f hf d hd
      split at hf
      · exact hc f hf d (List.mem_cons_of_mem _ hd)
      · rcases List.mem_append.mp hf with hf | hf
        · exact hc f hf d (List.mem_cons_of_mem _ hd)
        · rw [List.mem_singleton.mp hf]
          exact step d hd
theorem lex_uniq {S S' : List (List Int)} (h : S.Pairwise (· < ·)) (h' : S'.Pairwise (· < ·)) (hm : ∀ m, m ∈ S ↔ m ∈ S') : S = S' := by
  have nd : ∀ {S : List (List Int)}, S.Pairwise (· < ·) → S.Nodup := fun h => h.imp fun {a b} hab e => by
    rw [e] at hab
    exact List.lt_irrefl _ hab
  have pm : S.Perm S' := (List.perm_ext_iff_of_nodup (nd h) (nd h')).mpr hm
  exact List.Perm.eq_of_pairwise (le := (· < ·)) (fun a b _ _ h1 h2 => absurd h2 (List.lt_asymm h1)) h h' pm
section
variable {P : Program} {w : World} {K : PySem.W.Frag} {mg : Str → Option Value} {base : Heap} {C CH : Addr}
theorem d_law_is_numbers (B : Bt mg) (T : Top K mg "_law_is_numbers" s_law_is_numbers ["value"]) (D_law_is_integer : Def P w K mg base "_law_is_integer" 1 ["value"] spIsInt) : Def P w K mg base "_law_is_numbers" 2 ["value"] (spIsRow K) := by
  refine mk_def T sc_law_is_numbers (by rintro _ _ _ _ ⟨_, _, rfl, _⟩; rfl) fun f cdv A outer s H vs Q E hr h => ?_
  obtain ⟨v, r, rfl, hm, hl, q⟩ := h
  refine ⟨_, (pss_one (ps_ret (pe_and (pe_callB call_isi (by rfl) B.m_isinstance (by decide +kernel) (pa_cons (pv 0) (pa_cons (pe_bltn (v := .ty "tuple") (by rfl) B.m_tuple (by decide +kernel) rfl) pa_nil))) (pe_one (pe_callB (cr_all rfl) (by rfl) B.m_all (by decide +kernel) (pa_cons (pe_lc (own := [("one", 1)]) (g := (gName 1)) (tt := tYes) (te := (tCall spIsInt [] E0 (tCons (tVar 1) tNil))) rfl sc_law_is_numbers.nd (pi_tup (pv 0)) (blkOk_by (own := [("one", 1)]) (N := N_law_is_numbers) (sc := defScope s_law_is_numbers) (by decide +kernel)) (fun _ _ _ _ _ => (pg_name (i := 1) sc_law_is_numbers.nd rfl (Or.inl rfl))) (fun _ _ _ _ _ => pts_nil) (fun _ _ _ _ _ => (pe_def D_law_is_integer (hr.mono (by first | decide | omega)) (by rfl) (pa_cons (pv 1) pa_nil)))) pa_nil)))))), ?_⟩
  obtain ⟨a, rfl, ha⟩ := hm.trk
  refine ⟨.ref a, rfl, _, _, .type "tuple", .type "tuple", true, rfl, .ty _, .base (.tup ha), kit_ty (by decide +kernel), _, rfl, ?_⟩
  refine ⟨.ref a, rfl, a, rfl, ⟨_, SqT.of ha⟩, fun D hD => ?_⟩
  have n0 : (r.map V.int).length = r.length := by simp
  refine lc_val (walk_tup (K := K)) hD (by omega) (fun H2 e => e.seqT (SqT.of ha)) (List.replicate r.length (V.bl true)) (by simp) (fun j y H2 H3 Q' hj e1 y1 k => ?_) (fun H2 e1 eD => ?_)
  · obtain ⟨rfl, hy⟩ := y1
    obtain ⟨c, hc, rfl⟩ := int_at hy
    refine ⟨rfl, .int c, rfl, c, rfl, fun H4 e4 => k _ _ e4 ?_⟩
    rw [n0] at hj
    simp [hj]
  · refine ⟨D, List.replicate r.length true, rfl, SqL.of (by rw [eD, List.map_replicate]), ?_⟩
    rw [show (List.replicate r.length true).all id = true by simp]
    exact q H2 e1
def spSums (K : PySem.W.Frag) (w : World) : Sp := fun vs H Q _ => ∃ (v : V) (ps : List (List Int × Int)), vs = [v] ∧ RcL K H v ps ∧ ps.length ≤ 5000 ∧ ∀ H' b N, Same H H' → H b = none → TalAt rowK K w H' b N → (∀ k, Tl.cnt N k = Tl.cnt ps k) → Q (.ref b) H'
theorem d_law_sums (B : Bt mg) (T : Top K mg "_law_sums" s_law_sums ["listed"]) : Def P w K mg base "_law_sums" 1 ["listed"] (spSums K w) := by
  refine mk_def T sc_law_sums (by rintro _ _ _ _ ⟨_, _, rfl, _⟩; rfl) fun f cdv A outer s H vs Q E hr h => ?_
  obtain ⟨v, ps, rfl, ⟨a, lv, rfl, ha, hx⟩, hn, q⟩ := h
  refine ⟨_, (pss_cons (ps_set (i := 1) sc_law_sums.nd rfl (Or.inl rfl) (NSet.pe_dnewV))
      (pss_cons (ps_for PassesOwn.never rfl (pi_list (pv 0)) (pg_tup rfl (pgs_cons (pg_name (i := 2) sc_law_sums.nd rfl (Or.inl rfl)) (pgs_cons (pg_name (i := 3) sc_law_sums.nd rfl (Or.inl rfl)) pgs_nil))) (pss_one (NSet.ps_dputV (hu24 hr) (pv 1) (pv 2) (pe_op op_add (NSet.pe_dget2V (hu24 hr) (pv 1) (pv 2) pe_int ⟨by rfl, by rfl, by rfl, by rfl⟩) (pv 3)))))
      (pss_one (ps_ret (pv 1))))), ?_⟩
  intro M hM
  have naM : a ≠ M := ne_of_none ha hM
  refine ⟨.ref a, rfl, a, rfl, ⟨_, SqL.of (same_upd hM _ _ ha)⟩, ?_⟩
  have hl : lv.length = ps.length := by simpa using hx.length
  refine for_list (xs := lv) (fun i σ H' => ∃ y2 y3 T, σ = [some (.ref a), some (.ref M), y2, y3] ∧ SameB M H H' ∧ SumV rowK K w H' M T (ps.take i)) ⟨none, none, [], rfl, Same.b (same_upd hM), ⟨⟨[], upd_same, .nil⟩, List.Pairwise.nil, Nat.le_refl _, fun k => rfl, fun p hp => nomatch hp⟩⟩ (fun i σ H' _ pv' => ?_) (fun i x σ H' hxi pv' => ?_) (fun σ H' pv' => ?_)
  · obtain ⟨_, _, _, rfl, e, _⟩ := pv'
    exact SqL.of (e _ _ naM ha)
  · obtain ⟨y2, y3, T, rfl, e, S⟩ := pv'
    have stH : ST K H H' := fun t us ht => e _ _ (ne_of_none ht hM) ht
    obtain ⟨d, hd1, hd2⟩ := hx.get hxi
    obtain ⟨c, hc, rfl⟩ := rc_at hd1
    obtain ⟨t, y, rfl, ht, hy⟩ := rcD_inv (Da.st stH _ _ (imm_rcD c) hd2)
    have lt : (ps.take i).length ≤ 5000 := Nat.le_trans (List.length_take_le' _ _) hn
    obtain ⟨Lr0, eL0, _⟩ := S.at'
    obtain ⟨o, ho, eo⟩ := get_sum (k := c.1) S hy
    refine ⟨t, _, rfl, SqT.of ht, rfl, _, _, rfl, _, _, rfl, rfl, ?_⟩
    refine ⟨.ref M, rfl, M, rfl, ⟨_, .inl eL0⟩, y, rfl, o, ho, .int c.2, rfl, _, _, eo, rfl, .ref M, rfl, y, rfl, ?_⟩
    refine put_sum (p := c) S hy lt fun H3 e3 S3 => ?_
    refine ⟨_, _, Tl.put T c.1 (Tl.cnt T c.1 + c.2), rfl, e.trans e3, ?_⟩
    rw [List.take_add_one, hc, Option.toList_some]
    exact S3
  · obtain ⟨y2, y3, T, rfl, e, S⟩ := pv'
    rw [hl, List.take_length] at S
    exact ⟨.ref M, rfl, q H' M T (fun t u ht => e _ _ (ne_of_none ht hM) ht) hM (S.tal hn) S.sum⟩
def spDue (K : PySem.W.Frag) (w : World) : Sp := fun vs H Q _ => ∃ (a : Addr) (N : List (List Int × Int)), vs = [.ref a] ∧ TalAt rowK K w H a N ∧ ∀ H' b D, Same H H' → H b = none → RcL K H' (.ref b) D → Told rowK (Tl.cnt N) D → D.length ≤ N.length → Q (.ref b) H'
theorem d_law_due (B : Bt mg) (T : Top K mg "_law_due" s_law_due ["sums"]) : Def P w K mg base "_law_due" 1 ["sums"] (spDue K w) := by
  refine mk_def T sc_law_due (by rintro _ _ _ _ ⟨_, _, rfl, _⟩; rfl) fun f cdv A outer s H vs Q E hr h => ?_
  obtain ⟨c, N, rfl, ⟨Lr, e, R, nd, hl⟩, q⟩ := h
  refine ⟨_, (pss_one (ps_ret (pe_lc (own := [("row", 1)]) (g := (gName 1)) (tt := (tTest (tOp rNe (NSet.tDGetV K w (tVar 0) (tVar 1)) (tC (.int 0))))) (te := (tTup (tCons (tVar 1) (tCons (NSet.tDGetV K w (tVar 0) (tVar 1)) tNil)))) rfl sc_law_due.nd (pi_list (pe_callB (NSet.cr_sortD (hu24 hr)) (by rfl) B.m_sorted (by decide +kernel) (pa_cons (pe_callTy (NSet.call_listDV rfl) (by rfl) B.m_list (by decide +kernel) (pa_cons (pv 0) pa_nil)) pa_nil))) (blkOk_by (own := [("row", 1)]) (N := N_law_due) (sc := defScope s_law_due) (by decide +kernel)) (fun _ _ _ _ _ => (pg_name (i := 1) sc_law_due.nd rfl (Or.inl rfl))) (fun _ _ _ _ _ => (pts_one (pt_cmpR op_ne (NSet.pe_dgetV (hu24 hr) (pv 0) (pv 1) (fun _ _ => rfl)) pe_int (nomark _)))) (fun _ _ _ _ _ => (pe_tup (pa_cons (pv 1) (pa_cons (NSet.pe_dgetV (hu24 hr) (pv 0) (pv 1) (fun _ _ => rfl)) pa_nil))))))), ?_⟩
  refine ⟨.ref c, rfl, c, Lr, rfl, .inl e, fun l0 hl0 => ?_⟩
  have s0 := same_upd (o := .lst (Lr.map kRef)) hl0
  have ds := Rows.das (R.st s0.st)
  rw [ivs_keys] at ds
  refine ⟨l0, _, (Tl.keys N).map rowK.enc, rfl, SqL.of upd_same, ds, sorts_of _, fun l ys M nl pm so dM => ?_⟩
  obtain ⟨S, rfl, pS, aS⟩ := sorted_keys ordRow nd pm so
  have s1 := s0.trans (same_upd (o := .lst ys) nl)
  have el : L2.upd (L2.upd H l0 (.lst (Lr.map kRef))) l (.lst ys) l = some (.lst ys) := upd_same
  generalize L2.upd (L2.upd H l0 (.lst (Lr.map kRef))) l (.lst ys) = H1 at s1 el dM ⊢
  refine ⟨l, rfl, ⟨_, SqL.of el⟩, fun D hD => ?_⟩
  have lS : S.length = N.length := by
    rw [pS.length_eq]
    unfold Tl.keys
    rw [List.length_map]
  have ly : ys.length = S.length := by simpa using dM.length
  refine lc_dat_if (K := K) walk_list hD (by omega) (fun H2 e2 => SqL.of (e2 _ _ el)) S ly.symm (fun k => decide (Tl.cnt N k ≠ 0)) (fun k => rcD (k, Tl.cnt N k)) (fun k _ => imm_rcD _) (fun i x H3 H2 k0 Q' Rr hk0 e2 y k1 k2 => ?_) (fun H2 acc e2 eD dD => ?_)
  · obtain ⟨rfl, hy⟩ := y
    obtain ⟨d, hd1, hd2⟩ := dM.get hy
    obtain rfl : rowK.enc k0 = d := by
      rw [List.getElem?_map, hk0] at hd1
      exact Option.some.inj hd1
    have hx2 := Da.same e2 _ _ hd2
    have e02 := s1.trans e2
    have kin : k0 ∈ Tl.keys N := pS.mem_iff.mp (List.mem_of_getElem? hk0)
    obtain ⟨q0, hq0, rfl⟩ := List.mem_map.mp kin
    have hg := get_walk (E := rowK) (od := default) (.inl (e02 _ _ e)) (R.st e02.st) nd hx2 hq0
    have ec : Tl.cnt N q0.1 = q0.2 := Tl.cnt_in nd hq0
    refine ⟨rfl, .ref c, rfl, x, rfl, c, _, rfl, hg, rfl, _, rfl, ?_⟩
    by_cases e0 : q0.2 = 0
    · rw [decide_eq_true (show V.int q0.2 = V.int 0 by rw [e0])]
      exact iteF (k2 (decide_eq_false (by rw [ec, e0]; exact fun z => z rfl)) _ (Same.refl _))
    · rw [decide_eq_false (show ¬ V.int q0.2 = V.int 0 from fun z => e0 (V.int.inj z))]
      refine iteT ⟨x, rfl, .ref c, rfl, x, rfl, c, _, rfl, hg, by show 2 ≤ sizeLine; decide, fun g hg' => ?_⟩
      have e6 := same_upd (o := .tup [x, .int q0.2]) hg'
      refine k1 (decide_eq_true (by rw [ec]; exact e0)) _ _ e6 ?_
      rw [ec]
      exact rcD_of (q := (q0.1, q0.2)) upd_same (Mo.same hx2 e6)
  · have tD := told_of aS (Tl.cnt N) fun k hk => pS.mem_iff.mpr (Tl.cnt_mem hk)
    refine q H2 D _ (s1.trans e2) (s1.new hD) ⟨D, acc, rfl, eD, ?_⟩ tD ?_
    · rw [List.map_map]
      exact dD
    · rw [List.length_map, ← lS]
      exact List.length_filter_le _ _
/-- the answer at a moment: the counts of each row -/
def ansL (cs : List (PK × Int)) (s : List Int) : List (List Int × Int) := (cs.filter fun c => leB c.1.1 s).map fun c => (c.1.2, c.2)
def spAnswer (K : PySem.W.Frag) (w : World) : Sp := fun vs H Q _ => ∃ (v u : V) (n : Nat) (cs : List (PK × Int)) (sp : List Int), vs = [v, u] ∧ ChL K H v cs ∧ cs.length ≤ 5000 ∧ Mo K H u sp ∧ sp.length = n ∧ n ≤ 1000 ∧ (∀ c ∈ cs, c.1.1.length = n) ∧ ∀ H' b D, Same H H' → H b = none → RcL K H' (.ref b) D → Told rowK (Tl.cnt (ansL cs sp)) D → Q (.ref b) H'
theorem d_law_answer (B : Bt mg) (T : Top K mg "_law_answer" s_law_answer ["told", "spot"]) (D_law_before : Def P w K mg base "_law_before" 1 ["one", "two"] (spB K leB)) (D_law_sums : Def P w K mg base "_law_sums" 1 ["listed"] (spSums K w)) (D_law_due : Def P w K mg base "_law_due" 1 ["sums"] (spDue K w)) : Def P w K mg base "_law_answer" 2 ["told", "spot"] (spAnswer K w) := by
  refine mk_def T sc_law_answer (by rintro _ _ _ _ ⟨_, _, _, _, _, rfl, _⟩; rfl) fun f cdv A outer s H vs Q E hr h => ?_
  obtain ⟨v, u, n, cs, sp, rfl, ⟨a, lv, rfl, ha, hx⟩, hlen, hu, hsp, hn, hcs, q⟩ := h
  refine ⟨_, (pss_one (ps_ret (pe_def D_law_due (hr.mono (by first | decide | omega)) (by rfl) (pa_cons (pe_def D_law_sums (hr.mono (by first | decide | omega)) (by rfl) (pa_cons (pe_lc (own := [("one", 2)]) (g := (gName 2)) (tt := (tB (tCall (spB K leB) [] E0 (tCons (tOp (rIxT K) (tVar 2) (tC (.int 0))) (tCons (tVar 1) tNil))))) (te := (tTup (tCons (tOp (rIxT K) (tVar 2) (tC (.int 1))) (tCons (tOp (rIxT K) (tVar 2) (tC (.int 2))) tNil)))) rfl sc_law_answer.nd (pi_list (pv 0)) (blkOk_by (own := [("one", 2)]) (N := N_law_answer) (sc := defScope s_law_answer) (by decide +kernel)) (fun _ _ _ _ _ => (pg_name (i := 2) sc_law_answer.nd rfl (Or.inl rfl))) (fun _ _ _ _ _ => (pts_one (pt_val (pe_def D_law_before (hr.mono (by first | decide | omega)) (by rfl) (pa_cons (pe_ix ix_tup (pv 2) pe_int (fun _ _ => rfl)) (pa_cons (pv 1) pa_nil)))))) (fun _ _ _ _ _ => (pe_tup (pa_cons (pe_ix ix_tup (pv 2) pe_int (fun _ _ => rfl)) (pa_cons (pe_ix ix_tup (pv 2) pe_int (fun _ _ => rfl)) pa_nil))))) pa_nil)) pa_nil)))), ?_⟩
  have hl : lv.length = cs.length := by simpa using hx.length
  refine ⟨.ref a, rfl, a, rfl, ⟨_, SqL.of ha⟩, fun D hD => ?_⟩
  refine lc_dat_if (K := K) walk_list hD (by omega) (fun H2 e2 => SqL.of (e2 _ _ ha)) cs hl.symm (fun c => leB c.1.1 sp) (fun c => rcD (c.1.2, c.2)) (fun k _ => imm_rcD _) (fun i x H3 H2 c Q' Rr hc e2 y k1 k2 => ?_) (fun H2 acc e2 eD dD => ?_)
  · obtain ⟨rfl, hy⟩ := y
    obtain ⟨d, hd1, hd2⟩ := hx.get hy
    obtain rfl : chD c = d := by
      rw [List.getElem?_map, hc] at hd1
      exact Option.some.inj hd1
    obtain ⟨t, y, z, rfl, ht, hy', hz⟩ := chD_inv (Da.same e2 _ _ hd2)
    obtain ⟨b1, rfl, hb1⟩ := hy'.inv
    obtain ⟨b2, rfl, hb2⟩ := (Mo.same hu e2).inv
    refine ⟨rfl, .ref t, rfl, t, _, 0, .ref b1, rfl, rfl, SqT.of ht, atI_nat (j := 0) rfl, .ref b2, rfl, b1, b2, c.1.1, sp, rfl, hb1, hb2, by rw [hcs c (List.mem_of_getElem? hc), hsp], by rw [hcs c (List.mem_of_getElem? hc)]; exact hn, fun H4 s4 => ⟨leB c.1.1 sp, rfl, ite2 (fun zt => ?_) (fun zf => ?_)⟩⟩
    · have ht4 := s4 _ _ ht
      refine ⟨.ref t, rfl, t, _, 1, z, rfl, rfl, SqT.of ht4, atI_nat (j := 1) rfl, .ref t, rfl, t, _, 2, .int c.2, rfl, rfl, SqT.of ht4, atI_nat (j := 2) rfl, by show 2 ≤ sizeLine; decide, fun g hg => ?_⟩
      have e6 := s4.trans (same_upd (o := .tup [z, .int c.2]) hg)
      exact k1 zt _ _ e6 (rcD_of (q := (c.1.2, c.2)) upd_same (Mo.same hz e6))
    · exact k2 (by simpa using zf) _ s4
  · have hr2 : RcL K H2 (.ref D) (ansL cs sp) := ⟨D, acc, rfl, eD, by unfold ansL; rw [List.map_map]; exact dD⟩
    have la : (ansL cs sp).length ≤ 5000 := by
      unfold ansL
      rw [List.length_map]
      exact Nat.le_trans (List.length_filter_le _ _) hlen
    refine ⟨.ref D, ansL cs sp, rfl, hr2, la, fun H3 b N s3 nb tb cb => ⟨b, N, rfl, tb, fun H4 b4 D4 s4 nb4 rb4 tD _ => ?_⟩⟩
    exact q H4 b4 D4 ((e2.trans s3).trans s4) ((e2.trans s3).new nb4) rb4 (tD.congr cb)
def spIsChanges (K : PySem.W.Frag) : Sp := fun vs H Q _ => ∃ (v : V) (D : List (PK × Int)) (c : PK → Int), vs = [v] ∧ ChL K H v D ∧ D.length ≤ 5000 ∧ Told pairK c D ∧ (∀ q ∈ D, q.1.1.length ≤ 1000 ∧ q.1.2.length ≤ 1000) ∧ ∀ H', Same H H' → Q (.bl true) H'
theorem d_law_is_changes (B : Bt mg) (T : Top K mg "_law_is_changes" s_law_is_changes ["told"]) (D_law_is_numbers : Def P w K mg base "_law_is_numbers" 2 ["value"] (spIsRow K)) (D_law_is_integer : Def P w K mg base "_law_is_integer" 1 ["value"] spIsInt) (D_law_net : Def P w K mg base "_law_net" 1 ["change_list"] (spNet K w)) (D_law_told : Def P w K mg base "_law_told" 1 ["net"] (spTold K w)) : Def P w K mg base "_law_is_changes" 3 ["told"] (spIsChanges K) := by
  refine mk_def T sc_law_is_changes (by rintro _ _ _ _ ⟨_, _, _, rfl, _⟩; rfl) fun f cdv A outer s H vs Q E hr h => ?_
  obtain ⟨v, D, c, rfl, hD, hlen, tD, hw, q⟩ := h
  refine ⟨_, (pss_cons (ps_if (pt_not (pt_val (pe_callB call_isi (by rfl) B.m_isinstance (by decide +kernel) (pa_cons (pv 0) (pa_cons (pe_bltn (v := .ty "list") (by rfl) B.m_list (by decide +kernel) rfl) pa_nil))))) (pss_one (ps_ret pe_bl)) pss_nil)
      (pss_cons (ps_for PassesOwn.never rfl (pi_list (pv 0)) (pg_name (i := 1) sc_law_is_changes.nd rfl (Or.inl rfl)) (pss_cons (ps_if (pw_or (pt_not (pt_val (pe_callB call_isi (by rfl) B.m_isinstance (by decide +kernel) (pa_cons (pv 1) (pa_cons (pe_bltn (v := .ty "tuple") (by rfl) B.m_tuple (by decide +kernel) rfl) pa_nil))))) (pw_or1 (pt_cmpR op_ne (pe_callB call_len_seq (by rfl) B.m_len PySem.boot_len (pa_cons (pv 1) pa_nil)) pe_int (nomark _)))).pt (pss_one (ps_ret pe_bl)) pss_nil)
      (pss_one (ps_if (pw_or (pt_not (pt_val (pe_def D_law_is_numbers (hr.mono (by first | decide | omega)) (by rfl) (pa_cons (pe_ix ix_tup (pv 1) pe_int (fun _ _ => rfl)) pa_nil)))) (pw_or (pt_not (pt_val (pe_def D_law_is_numbers (hr.mono (by first | decide | omega)) (by rfl) (pa_cons (pe_ix ix_tup (pv 1) pe_int (fun _ _ => rfl)) pa_nil)))) (pw_or1 (pt_not (pt_val (pe_def D_law_is_integer (hr.mono (by first | decide | omega)) (by rfl) (pa_cons (pe_ix ix_tup (pv 1) pe_int (fun _ _ => rfl)) pa_nil))))))).pt (pss_one (ps_ret pe_bl)) pss_nil))))
      (pss_one (ps_ret (pe_cmpR (op_eqD (hu64 hr)) (pv 0) (pe_def D_law_told (hr.mono (by first | decide | omega)) (by rfl) (pa_cons (pe_def D_law_net (hr.mono (by first | decide | omega)) (by rfl) (pa_cons (pv 0) pa_nil)) pa_nil)) (nomark _)))))), ?_⟩
  obtain ⟨a, lv, rfl, ha, hx⟩ := id hD
  refine ⟨.ref a, rfl, _, _, .type "list", .type "list", true, rfl, .ty _, .base (.lst ha), kit_ty (by decide +kernel), _, rfl, iteF ?_⟩
  refine ⟨.ref a, rfl, a, rfl, ⟨_, SqL.of ha⟩, ?_⟩
  refine for_list (xs := lv) (fun i σ H' => ∃ y1, σ = [some (.ref a), y1] ∧ Same H H') ⟨none, rfl, Same.refl _⟩ (fun i σ H' _ pv' => ?_) (fun i x σ H' hxi pv' => ?_) (fun σ H' pv' => ?_)
  · obtain ⟨_, rfl, e⟩ := pv'
    exact SqL.of (e _ _ ha)
  · obtain ⟨y1, rfl, e⟩ := pv'
    obtain ⟨d, hd1, hd2⟩ := hx.get hxi
    obtain ⟨k, hk, rfl⟩ := ch_at hd1
    obtain ⟨t, y, z, rfl, ht, hy, hz⟩ := chD_inv (Da.same e _ _ hd2)
    obtain ⟨w1, w2⟩ := hw k (List.mem_of_getElem? hk)
    refine ⟨.ref t, rfl, _, _, .type "tuple", .type "tuple", true, rfl, .ty _, .base (.tup ht), kit_ty (by decide +kernel), _, rfl, iteF ⟨.ref t, rfl, t, _, rfl, .inr (SqT.of ht), rfl, _, rfl, iteNS rfl ?_⟩⟩
    refine ⟨.ref t, rfl, t, _, 0, y, rfl, rfl, SqT.of ht, atI_nat (j := 0) rfl, y, k.1.1, rfl, hy, w1, fun H1 s1 => ⟨true, rfl, iteF ?_⟩⟩
    refine ⟨.ref t, rfl, t, _, 1, z, rfl, rfl, SqT.of (s1 _ _ ht), atI_nat (j := 1) rfl, z, k.1.2, rfl, Mo.same hz s1, w2, fun H2 s2 => ⟨true, rfl, iteF ?_⟩⟩
    refine ⟨.ref t, rfl, t, _, 2, .int k.2, rfl, rfl, SqT.of (s2 _ _ (s1 _ _ ht)), atI_nat (j := 2) rfl, k.2, rfl, fun H3 s3 => ⟨true, rfl, iteF ?_⟩⟩
    exact ⟨_, rfl, ((e.trans s1).trans s2).trans s3⟩
  · obtain ⟨y1, rfl, e⟩ := pv'
    refine ⟨.ref a, rfl, .ref a, rfl, .ref a, D, rfl, hD.same e, hlen, fun H1 b N s1 nb tb cN kN lN => ⟨b, N, rfl, tb, fun H2 b2 D2 s2 nb2 hD2 tD2 l2 k2 => ?_⟩⟩
    have eD : D2 = D := (tD2.congr fun k => by rw [cN, tD.cnt]).uniq ordPair tD
    subst eD
    have sA := (e.trans s1).trans s2
    refine ⟨_, _, Da.dp _ _ (hD.same sA).da, Da.dp _ _ hD2.da, shaped_chs _, shaped_chs _, ?_⟩
    rw [eqv_self (shaped_chs _)]
    exact q H2 sA
def spSpots (K : PySem.W.Frag) : Sp := fun vs H Q _ => ∃ (v : V) (D : List (PK × Int)), vs = [v] ∧ ChL K H v D ∧ D.length ≤ 5000 ∧ ∀ H' b, Same H H' → H b = none → MoL K H' (.ref b) (spotsL D []) → Q (.ref b) H'
theorem spotsL_snoc : ∀ (cs : List (PK × Int)) (F : List (List Int)) (c : PK × Int), spotsL (cs ++ [c]) F = if c.1.1 ∈ spotsL cs F then spotsL cs F else spotsL cs F ++ [c.1.1]
  | [], F, c => rfl
  | d :: cs, F, c => spotsL_snoc cs _ c
theorem spotsL_len (cs : List (PK × Int)) : ∀ F : List (List Int), (spotsL cs F).length ≤ F.length + cs.length := by
  induction cs with
  | nil => exact fun F => Nat.le_refl _
  | cons c cs ih =>
    intro F
    refine Nat.le_trans (ih _) ?_
    split
    · simp
    · rw [List.length_append, List.length_cons]
      simp
      omega
theorem d_law_spots (B : Bt mg) (T : Top K mg "_law_spots" s_law_spots ["told"]) : Def P w K mg base "_law_spots" 1 ["told"] (spSpots K) := by
  refine mk_def T sc_law_spots (by rintro _ _ _ _ ⟨_, _, rfl, _⟩; rfl) fun f cdv A outer s H vs Q E hr h => ?_
  obtain ⟨v, D, rfl, ⟨a, lv, rfl, ha, hx⟩, hlen, q⟩ := h
  refine ⟨_, (pss_cons (ps_set (i := 1) sc_law_spots.nd rfl (Or.inl rfl) (pe_lst pa_nil))
      (pss_cons (ps_for PassesOwn.never rfl (pi_list (pv 0)) (pg_name (i := 2) sc_law_spots.nd rfl (Or.inl rfl)) (pss_one (ps_if (pt_cmpR (op_notInD (hu65 hr)) (pe_ix ix_tup (pv 2) pe_int (fun _ _ => rfl)) (pv 1) rfl) (pss_one (ps_expr (pe_bm PySem.F.plainAttrs_list PySem.F.slot_list_append PySem.F.type_list_append mt_append (pv 1) (pa_cons (pe_ix ix_tup (pv 2) pe_int (fun _ _ => rfl)) pa_nil)))) pss_nil)))
      (pss_one (ps_ret (pv 1))))), ?_⟩
  refine ⟨Nat.zero_le _, fun M hM => ?_⟩
  have naM : a ≠ M := ne_of_none ha hM
  have s0 := same_upd (o := .lst []) hM
  refine ⟨.ref a, rfl, a, rfl, ⟨_, SqL.of (s0 _ _ ha)⟩, ?_⟩
  have hl : lv.length = D.length := by simpa using hx.length
  refine for_list (xs := lv) (fun i σ H' => ∃ y2 acc, σ = [some (.ref a), some (.ref M), y2] ∧ SameB M H H' ∧ H' M = some (.lst acc) ∧ DaAll K H' acc ((spotsL (D.take i) []).map mo)) ⟨none, [], rfl, s0.b, upd_same, .nil⟩ (fun i σ H' _ pv' => ?_) (fun i x σ H' hxi pv' => ?_) (fun σ H' pv' => ?_)
  · obtain ⟨_, _, rfl, e, _⟩ := pv'
    exact SqL.of (e _ _ naM ha)
  · obtain ⟨y2, acc, rfl, e, eM, dM⟩ := pv'
    have stH : ST K H H' := fun t us ht => e _ _ (ne_of_none ht hM) ht
    obtain ⟨d, hd1, hd2⟩ := hx.get hxi
    obtain ⟨k, hk, rfl⟩ := ch_at hd1
    obtain ⟨t, y, z, rfl, ht, hy, hz⟩ := chD_inv (Da.st stH _ _ (imm_chD k) hd2)
    have e2 : spotsL (D.take (i + 1)) [] = if k.1.1 ∈ spotsL (D.take i) [] then spotsL (D.take i) [] else spotsL (D.take i) [] ++ [k.1.1] := by
      rw [List.take_add_one, hk, Option.toList_some, spotsL_snoc]
    refine ⟨.ref t, rfl, t, _, 0, y, rfl, rfl, SqT.of ht, atI_nat (j := 0) rfl, .ref M, rfl, mo k.1.1, (spotsL (D.take i) []).map mo, Da.dp _ _ hy, .lst (SqL.of eM) (Da.dpAll _ _ dM), shaped_mo _, shaped_mos _, _, rfl, ?_⟩
    rw [any_mo]
    refine ite2 (fun zz => ?_) (fun zz => ?_)
    · have hnin : k.1.1 ∉ spotsL (D.take i) [] := by simpa using zz
      refine ⟨.ref M, rfl, .inl ⟨rfl, _, SqL.of eM⟩, .ref t, rfl, t, _, 0, y, rfl, rfl, SqT.of ht, atI_nat (j := 0) rfl, M, _, _, rfl, rfl, eM, ?_, _, acc ++ [y], rfl, e.trans SameB.upd, upd_same, ?_⟩
      · rw [dM.length, List.length_map]
        have := spotsL_len (D.take i) []
        have := List.length_take_le' i D
        refine Nat.lt_of_le_of_lt (show _ ≤ 5000 by simp only [List.length_nil] at *; omega) (by decide)
      · rw [e2, if_neg hnin, List.map_append]
        have st5 : ST K H' (L2.upd H' M (.lst (acc ++ [y]))) := st_upd eM True.intro
        exact DaAll.snoc (Mo.st hy st5) (Da.stAll st5 _ _ (imm_mos _) dM)
    · have hin : k.1.1 ∈ spotsL (D.take i) [] := by simpa using zz
      refine ⟨_, acc, rfl, e, eM, ?_⟩
      rw [e2, if_pos hin]
      exact dM
  · obtain ⟨y2, acc, rfl, e, eM, dM⟩ := pv'
    rw [hl, List.take_length] at dM
    exact ⟨.ref M, rfl, q H' M (fun t u ht => e _ _ (ne_of_none ht hM) ht) hM ⟨M, acc, rfl, eM, dM⟩⟩
end
end K11

namespace K11
open PySem PySem.Spec PyProof.Rows L2 NSet
section
variable {P : Program} {w : World} {K : PySem.W.Frag} {mg : Str → Option Value} {base : Heap} {C CH : Addr}
def spShows (K : PySem.W.Frag) (w : World) (CH : Addr) : Sp := fun vs H Q _ => ∃ (v : V) (n : Nat) (a : Addr) (T N : List (PK × Int)), vs = [v, .int (n : Nat), .ref a] ∧ HistAt K w CH H v n T ∧ TalAt pairK K w H a N ∧ (∀ k, Tl.cnt T k = Tl.cnt N k) ∧ n ≤ 4 ∧ T.length < 77 ∧ ∀ H', Same H H' → Q (.bl true) H'
theorem d_law_shows (B : Bt mg) (X : TxH K CH) (ClH : Cls K CH) (T : Top K mg "_law_shows" s_law_shows ["history", "axes", "net"]) (D_law_told : Def P w K mg base "_law_told" 1 ["net"] (spTold K w)) (MHchanges : MethD P w K mg base CH "changes" 1 ["self"] (spChanges K w CH)) (D_law_is_changes : Def P w K mg base "_law_is_changes" 3 ["told"] (spIsChanges K)) (MH__len__ : MethD P w K mg base CH "__len__" 1 ["self"] (spHLen K w CH))
    (D_law_is_integer : Def P w K mg base "_law_is_integer" 1 ["value"] spIsInt) (MHmoments : MethD P w K mg base CH "moments" 1 ["self"] (spHMoments K w CH)) (D_law_spots : Def P w K mg base "_law_spots" 1 ["told"] (spSpots K)) : Def P w K mg base "_law_shows" 4 ["history", "axes", "net"] (spShows K w CH) := by
  refine mk_def T sc_law_shows (by rintro _ _ _ _ ⟨_, _, _, _, _, rfl, _⟩; rfl) fun f cdv A outer s H vs Q E hr h => ?_
  obtain ⟨v, n, a, T, N, rfl, hT, tN, hc, hn4, hlen, q⟩ := h
  refine ⟨_, (pss_cons (ps_set (i := 3) sc_law_shows.nd rfl (Or.inl rfl) (pe_def D_law_told (hr.mono (by first | decide | omega)) (by rfl) (pa_cons (pv 2) pa_nil)))
      (pss_cons (ps_set (i := 4) sc_law_shows.nd rfl (Or.inl rfl) (pe_methM0 (pv 0) ClH MHchanges (hr.mono (by first | decide | omega))))
      (pss_cons (ps_if (pw_or (pt_not (pt_val (pe_def D_law_is_changes (hr.mono (by first | decide | omega)) (by rfl) (pa_cons (pv 4) pa_nil)))) (pw_or (pt_cmpR (op_neD (hu64 hr)) (pv 4) (pv 3) (nomark _)) (pw_or1 (pt_cmpR op_ne (pe_callB (NSet.call_lenOwn MH__len__ (hr.mono (by first | decide | omega))) (by rfl) B.m_len PySem.boot_len (pa_cons (pv 0) pa_nil)) (pe_callB call_len_seq (by rfl) B.m_len PySem.boot_len (pa_cons (pv 3) pa_nil)) (nomark _))))).pt (pss_one (ps_ret pe_bl)) pss_nil)
      (pss_cons (ps_if (pw_or (pt_not (pt_val (pe_def D_law_is_integer (hr.mono (by first | decide | omega)) (by rfl) (pa_cons (pe_fld (pv 0) rfl) pa_nil)))) (pw_or (pt_cmpR op_ne (pe_fld (pv 0) rfl) (pv 1) (nomark _)) (pw_or1 (pt_cmpR (op_neD (hu64 hr)) (pe_methM0 (pv 0) ClH MHmoments (hr.mono (by first | decide | omega))) (pe_def D_law_spots (hr.mono (by first | decide | omega)) (by rfl) (pa_cons (pv 3) pa_nil)) (nomark _))))).pt (pss_one (ps_ret pe_bl)) pss_nil)
      (pss_cons (ps_expr (pe_bm PySem.F.plainAttrs_list PySem.F.slot_list_append PySem.F.type_list_append mt_append (pv 4) (pa_cons (pe_tup (pa_cons (pe_tup (pa_cons pe_int pa_nil)) (pa_cons (pe_tup pa_nil) (pa_cons pe_int pa_nil)))) pa_nil)))
      (pss_cons (ps_expr (pe_bm0 PySem.F.plainAttrs_list PySem.F.slot_list_reverse PySem.F.type_list_reverse mt_reverse (pv 4)))
      (pss_one (ps_ret (pe_and (pe_cmpR (op_eqD (hu64 hr)) (pe_methM0 (pv 0) ClH MHchanges (hr.mono (by first | decide | omega))) (pv 3) (nomark _)) (pe_one (pe_cmpR op_eq (pe_callB (NSet.call_lenOwn MH__len__ (hr.mono (by first | decide | omega))) (by rfl) B.m_len PySem.boot_len (pa_cons (pv 0) pa_nil)) (pe_callB call_len_seq (by rfl) B.m_len PySem.boot_len (pa_cons (pv 3) pa_nil)) (nomark _)))))))))))), ?_⟩
  obtain ⟨p, dx, c, rfl, r⟩ := id hT
  refine ⟨.ref a, rfl, a, N, rfl, tN, fun H1 b D s1 nb hD tD lD kD => ?_⟩
  have tDT : Told pairK (Tl.cnt T) D := tD.congr fun k => (hc k).symm
  have lenD : D.length = T.length := (told_perm r.fin tDT).length_eq
  have hT1 := hT.same s1
  obtain ⟨_, dx1, c1, e1', r1⟩ := id hT1
  cases e1'
  refine ⟨.ref p, rfl, p, dx1, _, rfl, r1.ins, hiF_no n c1 (by decide +kernel) (by decide +kernel), .ref p, n, T, rfl, hT1, fun H2 b2 D2 s2 nb2 hD2 tD2 => ?_⟩
  obtain rfl := tD2.uniq ordPair tDT
  have hT2 := hT1.same s2
  have okD : ∀ q ∈ D2, q.1.1.length ≤ 1000 ∧ q.1.2.length ≤ 1000 := fun q' hq' => by
    have hm : q' ∈ T := (told_perm r.fin tDT).mem_iff.mp hq'
    have := r.ok q' hm
    have l1 := this.1.1
    have l2 := this.2
    omega
  refine ⟨.ref b2, rfl, .ref b2, D2, _, rfl, hD2, by omega, tDT, okD, fun H3 s3 => ⟨true, rfl, iteF ?_⟩⟩
  have hD3 := hD2.same s3
  have hDb3 := (hD.same s2).same s3
  refine ⟨.ref b2, rfl, .ref b, rfl, _, _, Da.dp _ _ hD3.da, Da.dp _ _ hDb3.da, shaped_chs _, shaped_chs _, ?_⟩
  rw [eqv_self (shaped_chs _)]
  refine ⟨_, rfl, iteF ?_⟩
  have hT3 := hT2.same s3
  obtain ⟨_, dx3, c3, e3', r3⟩ := id hT3
  cases e3'
  obtain ⟨_, lvb, eb', elb, dlb⟩ := id hDb3
  cases eb'
  have llb : lvb.length = T.length := by
    rw [← lenD]
    simpa using dlb.length
  refine ⟨.ref p, rfl, p, dx3, _, rfl, r3.ins, .ref p, n, T, rfl, hT3, fun H4 s4 => ⟨T.length, rfl, by omega, .ref b, rfl, b, lvb, rfl, .inl (SqL.of (s4 _ _ elb)), rfl, _, rfl, ?_⟩⟩
  rw [decide_eq_true (show V.int (T.length : Nat) = V.int (lvb.length : Nat) by rw [llb])]
  refine iteF ?_
  have hT4 := hT3.same s4
  obtain ⟨_, dx4, c4, e4', r4⟩ := id hT4
  cases e4'
  refine ⟨.ref p, rfl, p, CH, dx4, _, _, rfl, r4.ins, X.cl, X.nA, hiF_axes n c4, (n : Nat), rfl, fun H5 s5 => ⟨true, rfl, iteF ?_⟩⟩
  have hT5 := hT4.same s5
  refine ⟨.ref p, rfl, p, CH, dx4, _, _, rfl, s5 _ _ r4.ins, X.cl, X.nA, hiF_axes n c4, .int (n : Nat), rfl, rfl, _, rfl, ?_⟩
  rw [decide_eq_true (rfl : V.int (n : Nat) = V.int (n : Nat))]
  refine iteF ?_
  refine ⟨.ref p, rfl, p, dx4, _, rfl, s5 _ _ r4.ins, hiF_no n c4 (by decide +kernel) (by decide +kernel), .ref p, n, T, rfl, hT5, hlen, fun H6 l6 S6 s6 nl6 hS6 aS6 mS6 => ?_⟩
  have hDb6 := ((hDb3.same s4).same s5).same s6
  refine ⟨.ref b, rfl, .ref b, D2, rfl, hDb6, by omega, fun H7 l7 s7 nl7 hS7 => ?_⟩
  have aS : S6.Pairwise (· < ·) := aS6.imp fun {x y} h => of_decide_eq_true ((lt_row x y).symm.trans h)
  have eS : S6 = spotsL D2 [] := lex_uniq aS (spotsL_asc D2 [] tDT.asc .nil (fun f hf => nomatch hf)) fun m => by
    rw [mS6, spotsL_mem]
    constructor
    · rintro ⟨q', hq', e⟩
      exact .inr ⟨q', (told_perm r.fin tDT).mem_iff.mpr hq', e⟩
    · rintro (h | ⟨q', hq', e⟩)
      · exact nomatch h
      · exact ⟨q', (told_perm r.fin tDT).mem_iff.mp hq', e⟩
  subst eS
  refine ⟨_, _, Da.dp _ _ (hS6.same s7).da, Da.dp _ _ hS7.da, shaped_mos _, shaped_mos _, ?_⟩
  rw [eqv_self (shaped_mos _)]
  refine ⟨_, rfl, iteF ?_⟩
  -- the told list is changed
  have s27 := (((s3.trans s4).trans s5).trans s6).trans s7
  have hD7 := hD2.same s27
  obtain ⟨_, lv2, e2', el2, dl2⟩ := id hD7
  cases e2'
  have ll2 : lv2.length = T.length := by
    rw [← lenD]
    simpa using dl2.length
  refine ⟨.ref b2, rfl, .inl ⟨rfl, _, SqL.of el2⟩, by show 1 ≤ sizeLine; decide, fun g1 hg1 => ⟨by show 0 ≤ sizeLine; decide, fun g2 hg2 => ⟨by show 3 ≤ sizeLine; decide, fun g3 hg3 => ?_⟩⟩⟩
  have s8 : Same H7 (L2.upd (L2.upd (L2.upd H7 g1 (.tup [.int 0])) g2 (.tup [])) g3 (.tup [.ref g1, .ref g2, .int 1])) := (same_upd hg1).trans ((same_upd hg2).trans (same_upd hg3))
  have el8 := s8 _ _ el2
  refine ⟨b2, lv2, .ref g3, rfl, rfl, el8, by rw [ll2]; have : (1000 : Nat) ≤ sizeLine := by decide +kernel
                                              omega, ?_⟩
  refine ⟨.ref b2, rfl, .inl ⟨rfl, _, SqL.of upd_same⟩, b2, _, rfl, rfl, upd_same, ?_⟩
  have s9 := Same.mut (o := HO.lst (lv2 ++ [V.ref g3]).reverse) (Same.mut (o := HO.lst (lv2 ++ [V.ref g3])) ((s2.trans s27).trans s8) nb2) nb2
  have hT9 := hT1.same s9
  have hD9 := hD.same s9
  obtain ⟨_, dx9, c9, e9', r9⟩ := id hT9
  cases e9'
  refine ⟨.ref p, rfl, p, dx9, _, rfl, r9.ins, hiF_no n c9 (by decide +kernel) (by decide +kernel), .ref p, n, T, rfl, hT9, fun H10 b3 D3 s10 nb3 hD3' tD3 => ?_⟩
  obtain rfl := tD3.uniq ordPair tDT
  have hD10 := hD9.same s10
  refine ⟨.ref b, rfl, _, _, Da.dp _ _ hD3'.da, Da.dp _ _ hD10.da, shaped_chs _, shaped_chs _, ?_⟩
  rw [eqv_self (shaped_chs _)]
  refine ⟨true, rfl, ?_⟩
  rw [if_pos rfl]
  have hT10 := hT9.same s10
  obtain ⟨_, dx10, c10, e10', r10⟩ := id hT10
  cases e10'
  obtain ⟨_, lvc, ec', elc, dlc⟩ := id hD10
  cases ec'
  have llc : lvc.length = T.length := by
    rw [← lenD]
    simpa using dlc.length
  refine ⟨.ref p, rfl, p, dx10, _, rfl, r10.ins, .ref p, n, T, rfl, hT10, fun H11 s11 => ⟨T.length, rfl, by omega, .ref b, rfl, b, lvc, rfl, .inl (SqL.of (s11 _ _ elc)), rfl, ?_⟩⟩
  show Q (V.bl (decide (V.int (T.length : Nat) = V.int (lvc.length : Nat)))) H11
  rw [decide_eq_true (show V.int (T.length : Nat) = V.int (lvc.length : Nat) by rw [llc])]
  exact q _ (((s1.trans s9).trans s10).trans s11)
end
end K11

namespace K11
open PySem PySem.Spec PyProof.Rows L2 NSet
/-- a moment that joins the start as another does -/
def LowOf (s : List Int) (m l : List Int) : Prop := joinL l s = joinL m s
theorem join_ext {s m l : List Int} (hm : m.length = s.length) (hl : l.length = s.length) (h : ∀ k (h1 : k < l.length) (h2 : k < m.length) (h3 : k < s.length), l[k] = m[k] ∨ (l[k] ≤ s[k] ∧ m[k] ≤ s[k])) : joinL l s = joinL m s := by
  unfold joinL
  apply List.ext_getElem
  · simp [hm, hl]
  · intro k h1 h2
    simp only [List.length_zipWith] at h1 h2
    rw [List.getElem_zipWith, List.getElem_zipWith]
    rcases h k (by omega) (by omega) (by omega) with e | ⟨e1, e2⟩
    · rw [e]
    · generalize l[k] = x at *
      generalize m[k] = y at *
      generalize s[k] = z at *
      split <;> split <;> omega
theorem mo_sqt {K : PySem.W.Frag} {H : Hp} {a : Addr} {m : List Int} (h : Mo K H (.ref a) m) : SqT K H a (m.map V.int) := by
  obtain ⟨_, e, h⟩ := h.inv
  cases e
  exact h
section
variable {P : Program} {w : World} {K : PySem.W.Frag} {mg : Str → Option Value} {base : Heap}
def spLow (K : PySem.W.Frag) : Sp := fun vs H Q _ => ∃ (p b : Addr) (v u : V) (n : Nat) (sc m s : List Int), vs = [.ref p, v, u, .ref b] ∧ PotAt H p ∧ b ≠ p ∧ InL H b sc ∧ Scale n sc ∧ n ≤ 4 ∧ Mo K H v m ∧ Mo K H u s ∧ In sc n m ∧ In sc n s ∧ ∀ H' y l, SameB p H H' → PotAt H' p → Mo K H' y l → In sc n l → joinL l s = joinL m s → Q y H'
theorem d_law_lowered (B : Bt mg) (T : Top K mg "_law_lowered" s_law_lowered ["box", "spot", "start", "scale"]) (D_law_draw : Def P w K mg base "_law_draw" 1 ["box", "many"] (spDraw K)) : Def P w K mg base "_law_lowered" 3 ["box", "spot", "start", "scale"] (spLow K) := by
  refine mk_def T sc_law_lowered (by rintro _ _ _ _ ⟨_, _, _, _, _, _, _, _, rfl, _⟩; rfl) fun f cdv A outer s H vs Q E hr h => ?_
  obtain ⟨p, b, v, u, n, sc, m, st, rfl, pt, nbp, hb, S, hn4, hm, hs, im, is, q⟩ := h
  refine ⟨_, (pss_cons (ps_set (i := 4) sc_law_lowered.nd rfl (Or.inl rfl) (pe_lst pa_nil))
      (pss_cons (ps_for PassesOwn.never rfl (pi_range1 (by rfl) B.m_range (pa_cons (pe_callB call_len_seq (by rfl) B.m_len PySem.boot_len (pa_cons (pv 1) pa_nil)) pa_nil)) (pg_name (i := 5) sc_law_lowered.nd rfl (Or.inr rfl)) (pss_cons (ps_setLc (i := 6) (own := [("value", 7)]) (g := (gName 7)) (tt := (tTest (tOp yLe (tVar 7) (tOp (rIxT K) (tVar 2) (tVar 5))))) (te := (tVar 7)) rfl sc_law_lowered.nd rfl rfl (sw_true rfl rfl rfl (by decide +kernel)) (pi_list (pv 3)) (blkOk_by (own := [("value", 7)]) (N := N_law_lowered) (sc := defScope s_law_lowered) (by decide +kernel)) (fun _ _ _ _ _ => (pg_name (i := 7) sc_law_lowered.nd rfl (Or.inl rfl))) (fun _ _ _ _ _ => (pts_one (pt_cmpR op_le (pv 7) (pe_ix ix_tup (pv 2) (pv 5) (fun _ _ => rfl)) (nomark _)))) (fun _ _ _ _ _ => (pv 7)))
      (pss_cons (ps_set (i := 7) sc_law_lowered.nd rfl (Or.inl rfl) (pe_ix ix_list (pv 6) (pe_def D_law_draw (hr.mono (by first | decide | omega)) (by rfl) (pa_cons (pv 0) (pa_cons (pe_callB call_len_seq (by rfl) B.m_len PySem.boot_len (pa_cons (pv 6) pa_nil)) pa_nil))) (fun _ _ => rfl)))
      (Evl.pss_cut (ps_if (pt_cmpR op_gt (pe_ix ix_tup (pv 1) (pv 5) (fun _ _ => rfl)) (pe_ix ix_tup (pv 2) (pv 5) (fun _ _ => rfl)) (nomark _)) (pss_one (ps_set (i := 7) sc_law_lowered.nd rfl (Or.inl rfl) (pe_ix ix_tup (pv 1) (pv 5) (fun _ _ => rfl)))) pss_nil)
      (pss_one (ps_expr (pe_bm PySem.F.plainAttrs_list PySem.F.slot_list_append PySem.F.type_list_append mt_append (pv 4) (pa_cons (pv 7) pa_nil))))))))
      (pss_one (ps_ret (pe_callTy call_tuple_of (by rfl) B.m_tuple (by decide +kernel) (pa_cons (pv 4) pa_nil)))))), ?_⟩
  obtain ⟨c, rfl, hc⟩ := hm.inv
  obtain ⟨d, rfl, hd⟩ := hs.inv
  refine ⟨Nat.zero_le _, fun F hF => ?_⟩
  have npF := pt.ne hF
  have nbF : b ≠ F := ne_of_none hb hF
  have e0 := same_upd (o := .lst []) hF
  refine ⟨.ref c, rfl, c, _, rfl, .inr (e0.seqT hc), (m.length : Nat), by simp, by have := im.1; omega, by have := im.1; omega, ?_⟩
  refine for_range (lo := 0) (n := ((m.length : Nat) : Int).toNat) (fun i σ H' => ∃ (y5 y6 y7 : Option V) (ns : List Int), σ = [some (.ref p), some (.ref c), some (.ref d), some (.ref b), some (.ref F), y5, y6, y7] ∧ SameB p H H' ∧ PotAt H' p ∧ H' F = some (.lst (ns.map V.int)) ∧ ns.length = i ∧ (∀ x ∈ ns, x ∈ sc) ∧ ∀ (k : Nat) (h1 : k < ns.length) (h2 : k < m.length) (h3 : k < st.length), ns[k] = m[k] ∨ (ns[k] ≤ st[k] ∧ m[k] ≤ st[k]))
    ⟨none, none, none, [], rfl, e0.b, pt.upd npF, upd_same, rfl, (fun x hx => nomatch hx), fun k h1 => absurd h1 (Nat.not_lt_zero _)⟩ (fun i σ H' hi pv' => ?_) (fun σ H' pv' => ?_)
  · obtain ⟨y5, y6, y7, ns, rfl, e, pt1, eF, hl, hc', hk⟩ := pv'
    have him : i < m.length := by omega
    have his : i < st.length := by rw [is.1, ← im.1]; exact him
    have hb1 := e _ _ nbp hb
    have hm1 := Mo.sameB hm e pt
    have hs1 := Mo.sameB hs e pt
    refine ⟨.ref b, rfl, b, rfl, ⟨_, SqL.of hb1⟩, fun D hD => ?_⟩
    have npD := pt1.ne hD
    refine lc_dat_if (K := K) walk_list hD (by have := S.len; simp; omega) (fun H2 e2 => SqL.of (e2 _ _ hb1)) sc (by simp) (fun c => decide (c ≤ st[i])) (fun c => .int c) (fun k _ => rfl) (fun j x H3 H2 a Q' Rr ha e2 y k1 k2 => ?_) (fun H2 acc e2 eD dD => ?_)
    · obtain ⟨rfl, hy⟩ := y
      obtain rfl : x = .int a := by
        rw [List.getElem?_map, ha] at hy
        exact (Option.some.inj hy).symm
      refine ⟨rfl, .int a, rfl, .ref d, rfl, _, rfl, d, _, _, .int st[i], rfl, rfl, mo_sqt (Mo.same hs1 e2), at_of (j := i) (by omega) (by rw [List.getElem?_map, List.getElem?_eq_getElem his]; rfl), _, _, rfl, rfl, _, rfl, ite2 (fun zt => ?_) (fun zf => ?_)⟩
      · exact ⟨_, rfl, k1 zt _ _ (Same.refl _) (.int a)⟩
      · exact k2 (by simpa using zf) _ (Same.refl _)
    · have ex := dD.ints
      subst ex
      generalize hbl : sc.filter (fun c => decide (c ≤ st[i])) = bl at eD
      have bin : ∀ x ∈ bl, x ∈ sc ∧ x ≤ st[i] := fun x hx => by
        rw [← hbl] at hx
        have := List.mem_filter.mp hx
        exact ⟨this.1, of_decide_eq_true this.2⟩
      have bpos : 0 < bl.length := by
        refine List.length_pos_of_mem (a := st[i]) ?_
        rw [← hbl]
        exact List.mem_filter.mpr ⟨is.2 _ (List.getElem_mem his), by simp⟩
      have ble : bl.length ≤ sc.length := by
        rw [← hbl]
        exact List.length_filter_le _ _
      have sle := S.len
      have pt2 := pt1.same e2
      have npD2 := npD
      have eF2 := e2 _ _ eF
      refine ⟨.ref D, rfl, .ref p, rfl, .ref D, rfl, D, _, rfl, .inl (SqL.of eD), p, _, rfl, pt2, by simp; omega, by simp; omega, fun H5 r s5 pt5 r0 r1 => ?_⟩
      rw [List.length_map] at r1
      have hlt : r.toNat < bl.length := by omega
      have eD5 := s5 _ _ npD.symm eD
      have eF5 := s5 _ _ npF.symm eF2
      have e5 := (e.trans e2.b).trans s5
      have hm5 := mo_sqt (Mo.sameB hm e5 pt)
      have hs5 := mo_sqt (Mo.sameB hs e5 pt)
      refine ⟨D, _, r, .int bl[r.toNat], rfl, rfl, SqL.of eD5, at_of (j := r.toNat) (by omega) (by simp [hlt]), ?_⟩
      have xb := bin _ (List.getElem_mem hlt)
      refine ⟨fun σ' H6 => ∃ z : Int, σ' = [some (.ref p), some (.ref c), some (.ref d), some (.ref b), some (.ref F), some (.int (0 + (i : Nat))), some (.ref D), some (.int z)] ∧ H6 = H5 ∧ z ∈ sc ∧ (z = m[i] ∨ (z ≤ st[i] ∧ m[i] ≤ st[i])), ?_, ?_⟩
      · refine ⟨.ref c, rfl, _, rfl, c, _, _, .int m[i], rfl, rfl, hm5, at_of (j := i) (by omega) (by rw [List.getElem?_map, List.getElem?_eq_getElem him]; rfl), .ref d, rfl, _, rfl, d, _, _, .int st[i], rfl, rfl, hs5, at_of (j := i) (by omega) (by rw [List.getElem?_map, List.getElem?_eq_getElem his]; rfl), _, _, rfl, rfl, _, rfl, ite2 (fun zt => ?_) (fun zf => ?_)⟩
        · refine ⟨.ref c, rfl, _, rfl, c, _, _, .int m[i], rfl, rfl, hm5, at_of (j := i) (by omega) (by rw [List.getElem?_map, List.getElem?_eq_getElem him]; rfl), m[i], rfl, rfl, im.2 _ (List.getElem_mem him), .inl rfl⟩
        · refine ⟨_, rfl, rfl, xb.1, .inr ⟨xb.2, ?_⟩⟩
          have : ¬ (st[i] < m[i]) := fun h => zf (decide_eq_true h)
          omega
      · rintro σ' H6 ⟨z, rfl, rfl, z1, z2⟩
        refine ⟨.ref F, rfl, .inl ⟨rfl, _, SqL.of eF5⟩, .int z, rfl, F, _, _, rfl, rfl, eF5, by rw [List.length_map, hl]; have := im.1; exact Nat.lt_of_lt_of_le (show i < 100 by omega) (by decide), _, _, _, ns ++ [z], rfl, e5.mut hF, pt5.upd npF, by rw [upd_same, List.map_append]; rfl, by simp [hl], fun x hx => ?_, fun k h1 h2 h3 => ?_⟩
        · rcases List.mem_append.mp hx with h | h
          · exact hc' x h
          · rw [List.mem_singleton.mp h]
            exact z1
        · by_cases hkl : k < ns.length
          · rw [List.getElem_append_left hkl]
            exact hk k hkl h2 h3
          · have : k = i := by simp at h1; omega
            subst this
            rw [List.getElem_append_right (by omega)]
            simpa [hl] using z2
  · obtain ⟨y5, y6, y7, ns, rfl, e, pt1, eF, hl, hc', hk⟩ := pv'
    refine ⟨.ref F, rfl, F, _, rfl, .inl ⟨SqL.of eF, fun t ht => ?_⟩⟩
    refine q _ _ ns (e.trans (Same.b (same_upd ht))) (pt1.upd (pt1.ne ht)) (Mo.of upd_same) ⟨by rw [hl, ← im.1]; simp, hc'⟩ (join_ext (by rw [im.1, is.1]) (by rw [hl, is.1, ← im.1]; simp) hk)
end
end K11

namespace K11
open PySem PySem.Spec PyProof.Rows L2 NSet
theorem da_reverse {K : PySem.W.Frag} {H : Hp} : ∀ {vs : List V} {ds : List PyData}, DaAll K H vs ds → DaAll K H vs.reverse ds.reverse
  | [], [], _ => .nil
  | v :: vs, d :: ds, .cons h t => by
    rw [List.reverse_cons, List.reverse_cons]
    exact DaAll.snoc h (da_reverse t)
theorem felt_one (s m r : List Int) (c : Int) (k : PK) : feltC s [((m, r), c)] k = if (joinL m s, r) = k then c else 0 := by
  unfold feltC mapT
  simp [Tl.cnt]
theorem felt_rev (s : List Int) (L : List (PK × Int)) (k : PK) : feltC s L.reverse k = feltC s L k := felt_eq (fun k => Tl.cnt_perm (List.reverse_perm L) k) k
/-- changes gathered at F, beside the box p -/
structure Hd (K : PySem.W.Frag) (H0 H : Hp) (p F : Addr) (acc : List V) (ds : List (PK × Int)) : Prop where
  e : SameB p H0 H
  pt : PotAt H p
  eF : H F = some (.lst acc)
  dF : DaAll K H acc (ds.map chD)
theorem Hd.step {K : PySem.W.Frag} {H0 H H' : Hp} {p F : Addr} {acc : List V} {ds : List (PK × Int)} (h : Hd K H0 H p F acc ds) (npF : p ≠ F) (e : SameB p H H') (pt' : PotAt H' p) : Hd K H0 H' p F acc ds :=
  ⟨h.e.trans e, pt', e _ _ npF.symm h.eF, Da.stAll (SameB.potst e h.pt) _ _ (imm_chs ds) h.dF⟩
theorem Hd.new {K : PySem.W.Frag} {H0 H : Hp} {p F g : Addr} {acc : List V} {ds : List (PK × Int)} {o : HO} (h : Hd K H0 H p F acc ds) (npF : p ≠ F) (hg : H g = none) : Hd K H0 (L2.upd H g o) p F acc ds := h.step npF (same_upd hg).b (h.pt.same (same_upd hg))
theorem Hd.app {K : PySem.W.Frag} {H0 H : Hp} {p F : Addr} {v : V} {c : PK × Int} {acc : List V} {ds : List (PK × Int)} (h : Hd K H0 H p F acc ds) (npF : p ≠ F) (nF : H0 F = none) (hv : Da K H v (chD c)) : Hd K H0 (L2.upd H F (.lst (acc ++ [v]))) p F (acc ++ [v]) (ds ++ [c]) := by
  have st : ST K H (L2.upd H F (.lst (acc ++ [v]))) := st_upd h.eF True.intro
  refine ⟨h.e.mut nF, h.pt.upd npF, upd_same, ?_⟩
  rw [List.map_append]
  exact DaAll.snoc (Da.st st _ _ (imm_chD c) hv) (Da.stAll st _ _ (imm_chs ds) h.dF)
theorem Hd.len {K : PySem.W.Frag} {H0 H : Hp} {p F : Addr} {acc : List V} {ds : List (PK × Int)} (h : Hd K H0 H p F acc ds) : acc.length = ds.length := by simpa using h.dF.length
theorem Hd.st {K : PySem.W.Frag} {H0 H : Hp} {p F : Addr} {acc : List V} {ds : List (PK × Int)} {o : HO} (h : Hd K H0 H p F acc ds) (n : NoTup o) {u : HO} : ST K H (L2.upd H F u) := st_upd h.eF True.intro
section
variable {P : Program} {w : World} {K : PySem.W.Frag} {mg : Str → Option Value} {base : Heap}
def spHid (K : PySem.W.Frag) : Sp := fun vs H Q _ => ∃ (p a b : Addr) (u : V) (n : Nat) (sc s : List Int) (cs : List (PK × Int)), vs = [.ref p, .ref a, u, .ref b, .int (n : Nat)] ∧ PotAt H p ∧ a ≠ p ∧ b ≠ p ∧ InL H b sc ∧ Scale n sc ∧ n ≤ 4 ∧ ChL K H (.ref a) cs ∧ cs.length ≤ 1000 ∧ (∀ c ∈ cs, KIn n sc c.1) ∧ Mo K H u s ∧ In sc n s ∧
  ∀ H' l ds, SameB p H H' → PotAt H' p → H l = none → ChL K H' (.ref l) ds → ds.length ≤ 3 * cs.length → (∀ c ∈ ds, KIn n sc c.1) → (∀ k, feltC s ds k = feltC s cs k) → Q (.ref l) H'
theorem d_law_hidden (B : Bt mg) (T : Top K mg "_law_hidden" s_law_hidden ["box", "change_list", "start", "scale", "axes"]) (D_law_draw : Def P w K mg base "_law_draw" 1 ["box", "many"] (spDraw K)) (D_law_lowered : Def P w K mg base "_law_lowered" 3 ["box", "spot", "start", "scale"] (spLow K)) (D_law_spot : Def P w K mg base "_law_spot" 2 ["box", "scale", "axes"] (spSpot K)) : Def P w K mg base "_law_hidden" 4 ["box", "change_list", "start", "scale", "axes"] (spHid K) := by
  refine mk_def T sc_law_hidden (by rintro _ _ _ _ ⟨_, _, _, _, _, _, _, _, rfl, _⟩; rfl) fun f cdv A outer s H vs Q E hr h => ?_
  obtain ⟨p, a, b, u, n, sc, sm, cs, rfl, pt, nap, nbp, hb, S, hn4, ⟨_, lv, ea, ha, hx⟩, hcl, hcs, hs, is, q⟩ := h
  cases ea
  refine ⟨_, (pss_cons (ps_set (i := 5) sc_law_hidden.nd rfl (Or.inl rfl) (pe_lst pa_nil))
      (pss_cons (ps_for PassesOwn.never rfl (pi_list (pv 1)) (pg_tup rfl (pgs_cons (pg_name (i := 6) sc_law_hidden.nd rfl (Or.inl rfl)) (pgs_cons (pg_name (i := 7) sc_law_hidden.nd rfl (Or.inl rfl)) (pgs_cons (pg_name (i := 8) sc_law_hidden.nd rfl (Or.inl rfl)) pgs_nil)))) (pss_cons (ps_set (i := 9) sc_law_hidden.nd rfl (Or.inl rfl) (pe_def D_law_draw (hr.mono (by first | decide | omega)) (by rfl) (pa_cons (pv 0) (pa_cons pe_int pa_nil))))
      (pss_cons (ps_set (i := 10) sc_law_hidden.nd rfl (Or.inl rfl) (pe_def D_law_lowered (hr.mono (by first | decide | omega)) (by rfl) (pa_cons (pv 0) (pa_cons (pv 6) (pa_cons (pv 2) (pa_cons (pv 3) pa_nil))))))
      (pss_one (ps_if (pt_cmpR op_eq (pv 9) pe_int (nomark _)) (pss_cons (ps_expr (pe_bm PySem.F.plainAttrs_list PySem.F.slot_list_append PySem.F.type_list_append mt_append (pv 5) (pa_cons (pe_tup (pa_cons (pv 10) (pa_cons (pv 7) (pa_cons (pe_op op_sub (pv 8) pe_int) pa_nil)))) pa_nil)))
      (pss_one (ps_expr (pe_bm PySem.F.plainAttrs_list PySem.F.slot_list_append PySem.F.type_list_append mt_append (pv 5) (pa_cons (pe_tup (pa_cons (pv 6) (pa_cons (pv 7) (pa_cons pe_int pa_nil)))) pa_nil))))) (pss_one (ps_if (pt_cmpR op_eq (pv 9) pe_int (nomark _)) (pss_cons (ps_set (i := 11) sc_law_hidden.nd rfl (Or.inl rfl) (pe_def D_law_spot (hr.mono (by first | decide | omega)) (by rfl) (pa_cons (pv 0) (pa_cons (pv 3) (pa_cons (pv 4) pa_nil)))))
      (pss_cons (ps_expr (pe_bm PySem.F.plainAttrs_list PySem.F.slot_list_append PySem.F.type_list_append mt_append (pv 5) (pa_cons (pe_tup (pa_cons (pv 11) (pa_cons (pv 7) (pa_cons pe_int pa_nil)))) pa_nil)))
      (pss_cons (ps_expr (pe_bm PySem.F.plainAttrs_list PySem.F.slot_list_append PySem.F.type_list_append mt_append (pv 5) (pa_cons (pe_tup (pa_cons (pv 10) (pa_cons (pv 7) (pa_cons (pv 8) pa_nil)))) pa_nil)))
      (pss_one (ps_expr (pe_bm PySem.F.plainAttrs_list PySem.F.slot_list_append PySem.F.type_list_append mt_append (pv 5) (pa_cons (pe_tup (pa_cons (pe_def D_law_lowered (hr.mono (by first | decide | omega)) (by rfl) (pa_cons (pv 0) (pa_cons (pv 11) (pa_cons (pv 2) (pa_cons (pv 3) pa_nil))))) (pa_cons (pv 7) (pa_cons (pe_op op_sub pe_int pe_int) pa_nil)))) pa_nil))))))) (pss_one (ps_expr (pe_bm PySem.F.plainAttrs_list PySem.F.slot_list_append PySem.F.type_list_append mt_append (pv 5) (pa_cons (pe_tup (pa_cons (pv 10) (pa_cons (pv 7) (pa_cons (pv 8) pa_nil)))) pa_nil)))))))))))
      (pss_cons (ps_expr (pe_bm0 PySem.F.plainAttrs_list PySem.F.slot_list_reverse PySem.F.type_list_reverse mt_reverse (pv 5)))
      (pss_one (ps_ret (pv 5)))))), ?_⟩
  refine ⟨Nat.zero_le _, fun F hF => ?_⟩
  have npF := pt.ne hF
  have nbF : b ≠ F := ne_of_none hb hF
  have naF : a ≠ F := ne_of_none ha hF
  have e0 := same_upd (o := .lst []) hF
  have hl : lv.length = cs.length := by simpa using hx.length
  refine ⟨.ref a, rfl, a, rfl, ⟨_, SqL.of (e0 _ _ ha)⟩, ?_⟩
  refine for_list (xs := lv) (fun i σ H' => ∃ (y6 y7 y8 y9 y10 y11 : Option V) (acc : List V) (ds : List (PK × Int)), σ = [some (.ref p), some (.ref a), some u, some (.ref b), some (.int (n : Nat)), some (.ref F), y6, y7, y8, y9, y10, y11] ∧ Hd K H H' p F acc ds ∧ ds.length ≤ 3 * i ∧ (∀ c ∈ ds, KIn n sc c.1) ∧ ∀ k, feltC sm ds k = feltC sm (cs.take i) k)
    ⟨none, none, none, none, none, none, [], [], rfl, ⟨e0.b, pt.upd npF, upd_same, .nil⟩, Nat.le_refl _, (fun x hx => nomatch hx), fun k => rfl⟩ (fun i σ H' _ pv' => ?_) (fun i x σ H' hxi pv' => ?_) (fun σ H' pv' => ?_)
  · obtain ⟨_, _, _, _, _, _, acc, ds, rfl, hd, _⟩ := pv'
    exact SqL.of (hd.e _ _ nap ha)
  · obtain ⟨y6, y7, y8, y9, y10, y11, acc, ds, rfl, hd, dlen, dk, dc⟩ := pv'
    obtain ⟨d, hd1, hd2⟩ := hx.get hxi
    obtain ⟨c, hc, rfl⟩ := ch_at hd1
    have ilt : i < cs.length := (List.getElem?_eq_some_iff.mp hc).1
    have kc := hcs c (List.mem_of_getElem? hc)
    obtain ⟨t, y, z, rfl, ht, hy, hz⟩ := chD_inv (Da.st (SameB.potst hd.e pt) _ _ (imm_chD c) hd2)
    refine ⟨t, _, rfl, SqT.of ht, rfl, _, _, rfl, _, _, rfl, _, _, rfl, rfl, ?_⟩
    refine ⟨.ref p, rfl, p, 4, rfl, hd.pt, by decide, by decide, fun H1 way s1 p1 _ _ => ?_⟩
    have hd1 := hd.step npF s1 p1
    refine ⟨.ref p, rfl, y, rfl, u, rfl, .ref b, rfl, p, b, y, u, n, sc, c.1.1, sm, rfl, p1, nbp, hd1.e _ _ nbp hb, S, hn4, Mo.sameB hy s1 hd.pt, Mo.sameB hs hd1.e pt, kc.1, is, fun H2 lw l s2 p2 hlw il jl => ?_⟩
    have hd2' := hd1.step npF s2 p2
    have st2 := (SameB.potst (K := K) s1 hd.pt).trans (SameB.potst (K := K) s2 p1)
    have hy2 := Mo.st hy st2
    have hz2 := Mo.st hz st2
    have lacc := hd.len
    have big : (4000 : Nat) ≤ sizeLine := by decide +kernel
    have fin : ∀ (H9 : Hp) (y11' : Option V) (acc' : List V) (es : List (PK × Int)), Hd K H H9 p F acc' (ds ++ es) → es.length ≤ 3 → (∀ e ∈ es, KIn n sc e.1) → (∀ k, feltC sm es k = feltC sm [c] k) → ∃ (y6 y7 y8 y9 y10 y11 : Option V) (acc : List V) (ds : List (PK × Int)), [some (.ref p), some (.ref a), some u, some (.ref b), some (.int (n : Nat)), some (.ref F), some y, some z, some (.int c.2), some (.int way), some lw, y11'] = [some (.ref p), some (.ref a), some u, some (.ref b), some (.int (n : Nat)), some (.ref F), y6, y7, y8, y9, y10, y11] ∧ Hd K H H9 p F acc ds ∧ ds.length ≤ 3 * (i + 1) ∧ (∀ c ∈ ds, KIn n sc c.1) ∧ ∀ k, feltC sm ds k = feltC sm (cs.take (i + 1)) k := fun H9 y11' acc' es h9 el ek ec => by
      refine ⟨_, _, _, _, _, _, acc', ds ++ es, rfl, h9, by rw [List.length_append]; omega, fun x hx => ?_, fun k => ?_⟩
      · rcases List.mem_append.mp hx with h | h
        · exact dk x h
        · exact ek x h
      · rw [List.take_add_one, hc, Option.toList_some, felt_append, felt_append, dc, ec]
    refine ⟨.int way, rfl, rfl, _, rfl, ite2 (fun zt => ?_) (fun zf => ?_)⟩
    · refine ⟨.ref F, rfl, .inl ⟨rfl, _, SqL.of hd2'.eF⟩, lw, rfl, z, rfl, _, rfl, _, _, rfl, rfl, by show 3 ≤ sizeLine; decide, fun g hg => ?_⟩
      have hN := hd2'.new (o := .tup [lw, z, .int (c.2 - 1)]) npF hg
      have hA := hN.app npF hF (v := .ref g) (c := ((l, c.1.2), c.2 - 1)) (chD_of (c := ((l, c.1.2), c.2 - 1)) upd_same (Mo.same hlw (same_upd hg)) (Mo.same hz2 (same_upd hg)))
      have stA := (same_upd (o := .tup [lw, z, .int (c.2 - 1)]) hg).st.trans (st_upd (K := K) (u := .lst (acc ++ [.ref g])) hN.eF True.intro)
      refine ⟨F, acc, .ref g, rfl, rfl, hN.eF, by omega, ?_⟩
      refine ⟨.ref F, rfl, .inl ⟨rfl, _, SqL.of hA.eF⟩, y, rfl, z, rfl, by show 3 ≤ sizeLine; decide, fun g2 hg2 => ?_⟩
      have hN2 := hA.new (o := .tup [y, z, .int 1]) npF hg2
      have hB := hN2.app npF hF (v := .ref g2) (c := (c.1, 1)) (chD_of (c := (c.1, 1)) upd_same (Mo.same (Mo.st hy2 stA) (same_upd hg2)) (Mo.same (Mo.st hz2 stA) (same_upd hg2)))
      refine ⟨F, _, .ref g2, rfl, rfl, hN2.eF, by rw [List.length_append]; simp only [List.length_cons, List.length_nil]; omega, ?_⟩
      rw [List.append_assoc ds] at hB
      refine fin _ _ _ _ hB (by show (2 : Nat) ≤ 3; decide) (fun e he => ?_) fun k => ?_
      · rcases List.mem_cons.mp he with rfl | he
        · exact ⟨il, kc.2⟩
        · rw [List.mem_singleton.mp he]
          exact kc
      · show feltC sm ([((l, c.1.2), c.2 - 1)] ++ [((c.1.1, c.1.2), 1)]) k = feltC sm [((c.1.1, c.1.2), c.2)] k
        rw [felt_append, felt_one, felt_one, felt_one, jl]
        split <;> omega
    · refine ⟨.int way, rfl, rfl, _, rfl, ite2 (fun zt2 => ?_) (fun zf2 => ?_)⟩
      · refine ⟨.ref p, rfl, .ref b, rfl, .int (n : Nat), rfl, p, b, n, sc, rfl, hd2'.pt, nbp, hd2'.e _ _ nbp hb, S, hn4, fun H3 v3 m3 s3 p3 hm3 i3 => ?_⟩
        have hd3 := hd2'.step npF s3 p3
        have st3 := SameB.potst (K := K) s3 p2
        have hz3 := Mo.st hz2 st3
        refine ⟨.ref F, rfl, .inl ⟨rfl, _, SqL.of hd3.eF⟩, v3, rfl, z, rfl, by show 3 ≤ sizeLine; decide, fun g hg => ?_⟩
        have hN := hd3.new (o := .tup [v3, z, .int 2]) npF hg
        have hA := hN.app npF hF (v := .ref g) (c := ((m3, c.1.2), 2)) (chD_of (c := ((m3, c.1.2), 2)) upd_same (Mo.same hm3 (same_upd hg)) (Mo.same hz3 (same_upd hg)))
        have stA := (same_upd (o := .tup [v3, z, .int 2]) hg).st.trans (st_upd (K := K) (u := .lst (acc ++ [.ref g])) hN.eF True.intro)
        refine ⟨F, acc, .ref g, rfl, rfl, hN.eF, by omega, ?_⟩
        refine ⟨.ref F, rfl, .inl ⟨rfl, _, SqL.of hA.eF⟩, lw, rfl, z, rfl, .int c.2, rfl, by show 3 ≤ sizeLine; decide, fun g2 hg2 => ?_⟩
        have hN2 := hA.new (o := .tup [lw, z, .int c.2]) npF hg2
        have hz4 := Mo.same (Mo.st hz3 stA) (same_upd (o := .tup [lw, z, .int c.2]) hg2)
        have hB := hN2.app npF hF (v := .ref g2) (c := ((l, c.1.2), c.2)) (chD_of (c := ((l, c.1.2), c.2)) upd_same (Mo.same (Mo.st hlw (st3.trans stA)) (same_upd hg2)) hz4)
        have stB := (stA.trans (same_upd (o := .tup [lw, z, .int c.2]) hg2).st).trans (st_upd (K := K) (u := .lst ((acc ++ [.ref g]) ++ [.ref g2])) hN2.eF True.intro)
        refine ⟨F, _, .ref g2, rfl, rfl, hN2.eF, by rw [List.length_append]; simp only [List.length_cons, List.length_nil]; omega, ?_⟩
        refine ⟨.ref F, rfl, .inl ⟨rfl, _, SqL.of hB.eF⟩, .ref p, rfl, v3, rfl, u, rfl, .ref b, rfl, p, b, v3, u, n, sc, m3, sm, rfl, hB.pt, nbp, hB.e _ _ nbp hb, S, hn4, Mo.st hm3 stB, Mo.sameB hs hB.e pt, i3, is, fun H5 w5 l5 s5 p5 hw5 i5 j5 => ?_⟩
        have hd5 := hB.step npF s5 p5
        have stC := stB.trans (SameB.potst (K := K) s5 hB.pt)
        refine ⟨z, rfl, _, _, rfl, rfl, by show 3 ≤ sizeLine; decide, fun g3 hg3 => ?_⟩
        have hN3 := hd5.new (o := .tup [w5, z, .int (0 - 2)]) npF hg3
        have hC := hN3.app npF hF (v := .ref g3) (c := ((l5, c.1.2), -2)) (chD_of (c := ((l5, c.1.2), -2)) upd_same (Mo.same hw5 (same_upd hg3)) (Mo.same (Mo.st hz3 stC) (same_upd hg3)))
        refine ⟨F, _, .ref g3, rfl, rfl, hN3.eF, by rw [List.length_append, List.length_append]; simp only [List.length_cons, List.length_nil]; omega, ?_⟩
        rw [List.append_assoc (ds ++ _), List.append_assoc ds] at hC
        refine fin _ _ _ _ hC (by show (3 : Nat) ≤ 3; decide) (fun e he => ?_) fun k => ?_
        · rcases List.mem_cons.mp he with rfl | he
          · exact ⟨i3, kc.2⟩
          rcases List.mem_cons.mp he with rfl | he
          · exact ⟨il, kc.2⟩
          · rw [List.mem_singleton.mp he]
            exact ⟨i5, kc.2⟩
        · show feltC sm ([((m3, c.1.2), 2)] ++ ([((l, c.1.2), c.2)] ++ [((l5, c.1.2), -2)])) k = feltC sm [((c.1.1, c.1.2), c.2)] k
          rw [felt_append, felt_append, felt_one, felt_one, felt_one, felt_one, jl, j5]
          split <;> split <;> omega
      · refine ⟨.ref F, rfl, .inl ⟨rfl, _, SqL.of hd2'.eF⟩, lw, rfl, z, rfl, .int c.2, rfl, by show 3 ≤ sizeLine; decide, fun g hg => ?_⟩
        have hN := hd2'.new (o := .tup [lw, z, .int c.2]) npF hg
        have hA := hN.app npF hF (v := .ref g) (c := ((l, c.1.2), c.2)) (chD_of (c := ((l, c.1.2), c.2)) upd_same (Mo.same hlw (same_upd hg)) (Mo.same hz2 (same_upd hg)))
        refine ⟨F, acc, .ref g, rfl, rfl, hN.eF, by omega, ?_⟩
        refine fin _ _ _ _ hA (by show (1 : Nat) ≤ 3; decide) (fun e he => ?_) fun k => ?_
        · rw [List.mem_singleton.mp he]
          exact ⟨il, kc.2⟩
        · show feltC sm [((l, c.1.2), c.2)] k = feltC sm [((c.1.1, c.1.2), c.2)] k
          rw [felt_one, felt_one, jl]
  · obtain ⟨y6, y7, y8, y9, y10, y11, acc, ds, rfl, hd, dlen, dk, dc⟩ := pv'
    refine ⟨.ref F, rfl, .inl ⟨rfl, _, SqL.of hd.eF⟩, F, _, rfl, rfl, hd.eF, ?_⟩
    have st : ST K H' (L2.upd H' F (.lst acc.reverse)) := st_upd hd.eF True.intro
    refine ⟨.ref F, rfl, q _ F ds.reverse (hd.e.mut hF) (hd.pt.upd npF) hF ⟨F, _, rfl, upd_same, ?_⟩ (by rw [List.length_reverse]; omega) (fun c hc => dk c (List.mem_reverse.mp hc)) fun k => ?_⟩
    · rw [List.map_reverse]
      exact da_reverse (Da.stAll st _ _ (imm_chs ds) hd.dF)
    · rw [felt_rev, dc, hl, List.take_length]
end
end K11

namespace K11
open PySem PySem.Spec PyProof.Rows L2 NSet
/-! ### moments below others -/
theorem leB_cs (a b : Int) (x y : List Int) : leB (a :: x) (b :: y) = (decide (a ≤ b) && leB x y) := rfl
theorem leB_lex : ∀ {m x : List Int}, m.length = x.length → leB m x = true → ¬ x < m
  | [], [], _, _ => List.lt_irrefl _
  | [], _ :: _, h, _ => nomatch h
  | _ :: _, [], h, _ => nomatch h
  | a :: m, b :: x, hl, h => fun hlt => by
    rw [leB_cs, Bool.and_eq_true, decide_eq_true_eq] at h
    rcases List.cons_lt_cons_iff.mp hlt with h1 | ⟨h1, h2⟩
    · omega
    · exact leB_lex (by simpa using hl) h.2 h2
theorem leB_rf : ∀ m : List Int, leB m m = true
  | [] => rfl
  | a :: m => by rw [leB_cs, leB_rf m]; simp
theorem leB_join : ∀ {m s x : List Int}, m.length = s.length → s.length = x.length → leB s x = true → leB (joinL m s) x = leB m x
  | [], [], [], _, _, _ => rfl
  | [], _ :: _, _, h, _, _ => nomatch h
  | _ :: _, [], _, h, _, _ => nomatch h
  | [], [], _ :: _, _, h, _ => nomatch h
  | _ :: _, _ :: _, [], _, h, _ => nomatch h
  | a :: m, b :: s, c :: x, h1, h2, h => by
    rw [leB_cs, Bool.and_eq_true, decide_eq_true_eq] at h
    show leB ((if b > a then b else a) :: joinL m s) (c :: x) = _
    rw [leB_cs, leB_cs, leB_join (by simpa using h1) (by simpa using h2) h.2]
    congr 1
    split
    · rw [decide_eq_true h.1, decide_eq_true (by omega)]
    · rfl
theorem leB_right : ∀ {m s : List Int}, m.length = s.length → leB s (joinL m s) = true
  | [], [], _ => rfl
  | [], _ :: _, h => nomatch h
  | _ :: _, [], h => nomatch h
  | a :: m, b :: s, h => by
    show leB (b :: s) ((if b > a then b else a) :: joinL m s) = true
    rw [leB_cs, leB_right (by simpa using h), Bool.and_true, decide_eq_true_eq]
    split <;> omega
theorem joinL_ln {m s : List Int} (h : m.length = s.length) : (joinL m s).length = s.length := by
  unfold joinL
  rw [List.length_zipWith, h, Nat.min_self]
theorem In.join {sc m s : List Int} {n : Nat} (h : In sc n m) (g : In sc n s) : In sc n (joinL m s) := by
  refine ⟨(joinL_ln (h.1.trans g.1.symm)).trans g.1, fun c hc => ?_⟩
  obtain ⟨k, hk, rfl⟩ := List.mem_iff_getElem.mp hc
  unfold joinL at hk ⊢
  rw [List.length_zipWith] at hk
  rw [List.getElem_zipWith]
  split
  · exact g.2 _ (List.getElem_mem _)
  · exact h.2 _ (List.getElem_mem _)
/-! ### answers -/
section
variable {κ : Type} [DecidableEq κ]
theorem cnt_filterK (g : κ → Bool) (L : List (κ × Int)) (k : κ) : Tl.cnt (L.filter fun p => g p.1) k = if g k = true then Tl.cnt L k else 0 := by
  induction L with
  | nil => simp [Tl.cnt]
  | cons p L ih =>
    by_cases hp : g p.1 = true
    · rw [List.filter_cons_of_pos (by simpa using hp)]
      simp only [Tl.cnt]
      rw [ih]
      by_cases e : p.1 = k
      · rw [← e, if_pos hp, if_pos hp]
      · simp [e]
    · rw [List.filter_cons_of_neg (by simpa using hp)]
      simp only [Tl.cnt]
      rw [ih]
      by_cases e : p.1 = k
      · rw [← e, if_neg hp, if_neg hp]
      · simp [e]
end
theorem ans_eq {L M : List (PK × Int)} (h : ∀ k, Tl.cnt L k = Tl.cnt M k) (x r : List Int) : Tl.cnt (ansL L x) r = Tl.cnt (ansL M x) r := by
  unfold ansL
  exact cnt_map_eq (fun k : PK => k.2) (fun k => by rw [cnt_filterK (fun k : PK => leB k.1 x), cnt_filterK (fun k : PK => leB k.1 x), h]) r
theorem ans_append (L M : List (PK × Int)) (x r : List Int) : Tl.cnt (ansL (L ++ M) x) r = Tl.cnt (ansL L x) r + Tl.cnt (ansL M x) r := by
  unfold ansL
  rw [List.filter_append, List.map_append, Tl.cnt_append]
theorem ans_join {s x : List Int} : ∀ {L : List (PK × Int)}, (∀ c ∈ L, c.1.1.length = s.length) → s.length = x.length → leB s x = true → ansL (mapT (fun m => joinL m s) L) x = ansL L x
  | [], _, _, _ => rfl
  | c :: L, h, h2, h3 => by
    have ih := ans_join (L := L) (fun c hc => h c (List.mem_cons_of_mem _ hc)) h2 h3
    have e := leB_join (h c List.mem_cons_self) h2 h3
    unfold ansL mapT at ih ⊢
    rw [List.map_cons]
    by_cases hb : leB c.1.1 x = true
    · rw [List.filter_cons_of_pos (by simpa [e] using hb), List.filter_cons_of_pos (by simpa using hb), List.map_cons, List.map_cons, ih]
    · rw [List.filter_cons_of_neg (by simpa [e] using hb), List.filter_cons_of_neg (by simpa using hb), ih]
theorem ans_at {x : List Int} (r : List Int) : ∀ {L : List (PK × Int)}, (∀ p ∈ L, leB p.1.1 x = decide (p.1.1 = x)) → Tl.cnt (ansL L x) r = Tl.cnt L (x, r)
  | [], _ => rfl
  | p :: L, h => by
    have ih := ans_at r (L := L) fun c hc => h c (List.mem_cons_of_mem _ hc)
    have e := h p List.mem_cons_self
    unfold ansL at ih ⊢
    obtain ⟨⟨m, t⟩, c⟩ := p
    by_cases hb : m = x
    · subst hb
      rw [List.filter_cons_of_pos (by simpa using e), List.map_cons]
      simp only [Tl.cnt, Prod.mk.injEq, true_and]
      rw [ih]
    · rw [List.filter_cons_of_neg (by simp [e, hb])]
      simp only [Tl.cnt, Prod.mk.injEq, hb, false_and, if_false]
      rw [ih]
      simp
section
variable {n : Nat} {sc s x : List Int} {cs ds D D' : List (PK × Int)} {q : PK × Int}
/-- the answers of both lists at x apart -/
def difC (cs ds : List (PK × Int)) (x r : List Int) : Int := Tl.cnt (ansL cs x) r - Tl.cnt (ansL ds x) r
/-- the counts felt behind s apart -/
def dltC (s : List Int) (cs ds : List (PK × Int)) (k : PK) : Int := feltC s cs k - feltC s ds k
theorem dif_at (hc : ∀ c ∈ cs, c.1.1.length = n) (hd : ∀ c ∈ ds, c.1.1.length = n) (hs : s.length = n) (hx : x.length = n) (hb : leB s x = true) (t : Told pairK (dltC s cs ds) D) (r : List Int) : difC cs ds x r = Tl.cnt (ansL D x) r := by
  have h := ans_eq (L := D ++ mapT (fun m => joinL m s) ds) (M := mapT (fun m => joinL m s) cs) (fun k => by
    rw [Tl.cnt_append]
    have := t.cnt k
    unfold dltC feltC at this
    omega) x r
  rw [ans_append, ans_join (fun c h => by rw [hd c h, hs]) (by rw [hs, hx]) hb, ans_join (fun c h => by rw [hc c h, hs]) (by rw [hs, hx]) hb] at h
  unfold difC
  omega
theorem dlt_keys (t : Told pairK (dltC s cs ds) D) {p : PK × Int} (hp : p ∈ D) : ∃ c, (c ∈ cs ∨ c ∈ ds) ∧ p.1 = (joinL c.1.1 s, c.1.2) := by
  have hv := t.val p hp
  have : feltC s cs p.1 ≠ 0 ∨ feltC s ds p.1 ≠ 0 := by
    unfold dltC at hv
    omega
  rcases this with h | h
  · obtain ⟨z, hz, e⟩ := List.mem_map.mp (Tl.cnt_mem h)
    obtain ⟨c, hc, rfl⟩ := List.mem_map.mp hz
    exact ⟨c, .inl hc, e.symm⟩
  · obtain ⟨z, hz, e⟩ := List.mem_map.mp (Tl.cnt_mem h)
    obtain ⟨c, hc, rfl⟩ := List.mem_map.mp hz
    exact ⟨c, .inr hc, e.symm⟩
theorem head_le (t : Told pairK (dltC s cs ds) (q :: D')) {p : PK × Int} (hp : p ∈ q :: D') : p = q ∨ (q.1.1 = p.1.1 ∧ q.1.2 < p.1.2) ∨ q.1.1 < p.1.1 := by
  rcases List.mem_cons.mp hp with e | h
  · exact .inl e
  · have a := (List.pairwise_cons.mp t.asc).1 p h
    rw [lt_pair] at a
    split at a
    · rename_i e
      exact .inr (.inl ⟨e, of_decide_eq_true a⟩)
    · exact .inr (.inr (of_decide_eq_true a))
theorem dif_before (hc : ∀ c ∈ cs, c.1.1.length = n) (hd : ∀ c ∈ ds, c.1.1.length = n) (hs : s.length = n) (hx : x.length = n) (hb : leB s x = true) (t : Told pairK (dltC s cs ds) (q :: D')) (hlt : x < q.1.1) (r : List Int) : difC cs ds x r = 0 := by
  rw [dif_at hc hd hs hx hb t]
  have : ansL (q :: D') x = [] := by
    unfold ansL
    rw [List.map_eq_nil_iff, List.filter_eq_nil_iff]
    intro p hp hle
    obtain ⟨c, hc', e⟩ := dlt_keys t hp
    have hl : p.1.1.length = x.length := by
      rw [e, hx]
      show (joinL c.1.1 s).length = n
      have h2 : c.1.1.length = s.length := by
        rcases hc' with h | h
        · rw [hc c h, hs]
        · rw [hd c h, hs]
      rw [joinL_ln h2, hs]
    refine leB_lex hl hle ?_
    rcases head_le t hp with e | ⟨e, _⟩ | e
    · rw [e]; exact hlt
    · rw [← e]; exact hlt
    · exact List.lt_trans hlt e
  rw [this]
  rfl
theorem dif_first (hc : ∀ c ∈ cs, c.1.1.length = n) (hd : ∀ c ∈ ds, c.1.1.length = n) (hs : s.length = n) (hb : leB s q.1.1 = true) (hx : q.1.1.length = n) (t : Told pairK (dltC s cs ds) (q :: D')) {A : List (List Int × Int)} (tA : Told rowK (difC cs ds q.1.1) A) : ∃ c A', A = (q.1.2, c) :: A' := by
  have hat : ∀ r, difC cs ds q.1.1 r = Tl.cnt (q :: D') (q.1.1, r) := fun r => by
    rw [dif_at hc hd hs hx hb t]
    refine ans_at r fun p hp => ?_
    by_cases e : p.1.1 = q.1.1
    · rw [e, leB_rf]; simp
    · rw [decide_eq_false e]
      cases hle : leB p.1.1 q.1.1 with
      | false => rfl
      | true =>
        obtain ⟨c, hc', e'⟩ := dlt_keys t hp
        have hl : p.1.1.length = q.1.1.length := by
          rw [e', hx]
          show (joinL c.1.1 s).length = n
          have h2 : c.1.1.length = s.length := by
            rcases hc' with h | h
            · rw [hc c h, hs]
            · rw [hd c h, hs]
          rw [joinL_ln h2, hs]
        rcases head_le t hp with z | ⟨z, _⟩ | z
        · exact absurd (by rw [z]) e
        · exact absurd z.symm e
        · exact absurd z (leB_lex hl hle)
  have q0 : difC cs ds q.1.1 q.1.2 ≠ 0 := by
    rw [hat]
    have := t.val q List.mem_cons_self
    rw [show (q.1.1, q.1.2) = q.1 from rfl, t.cnt, this.1]
    exact this.2
  have hk := tA.all _ q0
  cases A with
  | nil => exact nomatch hk
  | cons a A' =>
    refine ⟨a.2, A', ?_⟩
    have va := tA.val a List.mem_cons_self
    have : Tl.cnt (q :: D') (q.1.1, a.1) ≠ 0 := by
      rw [← hat, va.1]
      exact va.2
    obtain ⟨p, hp, ep⟩ := List.mem_map.mp (Tl.cnt_mem this)
    have e1 : a.1 = q.1.2 := by
      rcases head_le t hp with z | ⟨z, z2⟩ | z
      · rw [z] at ep
        exact (congrArg Prod.snd ep).symm
      · have z3 : q.1.2 < a.1 := by
          have := congrArg Prod.snd ep
          rw [← show p.1.2 = a.1 from this]
          exact z2
        obtain ⟨b, hb', eb⟩ := List.mem_map.mp hk
        rcases List.mem_cons.mp hb' with rfl | h
        · exact eb
        · have := (List.pairwise_cons.mp tA.asc).1 b h
          rw [lt_row] at this
          have l2 : a.1 < b.1 := of_decide_eq_true this
          rw [eb] at l2
          exact absurd (List.lt_trans l2 z3) (List.lt_irrefl _)
      · have := congrArg Prod.fst ep
        have z4 : q.1.1 < q.1.1 := by
          have e9 : p.1.1 = q.1.1 := this
          rw [e9] at z
          exact z
        exact absurd z4 (List.lt_irrefl _)
    rw [← e1]
end
end K11

namespace K11
open PySem PySem.Spec PyProof.Rows L2 NSet
section
variable {P : Program} {w : World} {K : PySem.W.Frag} {mg : Str → Option Value} {base : Heap}
/-- what is told of a difference: none, or the first key -/
def FirstIs (K : PySem.W.Frag) (H : Hp) (y : V) : List (PK × Int) → Prop
  | [] => y = .non
  | q :: _ => Da K H y (pairD q.1)
def spDiff (K : PySem.W.Frag) : Sp := fun vs H Q _ => ∃ (v u x g : V) (n : Nat) (sc s : List Int) (cs ds : List (PK × Int)), vs = [v, u, x, g] ∧ ChL K H v cs ∧ ChL K H u ds ∧ Mo K H x s ∧ MoL K H g (grd n sc) ∧ Scale n sc ∧ n ≤ 4 ∧ In sc n s ∧ cs.length ≤ 1000 ∧ ds.length ≤ 1000 ∧ (∀ c ∈ cs, In sc n c.1.1) ∧ (∀ c ∈ ds, In sc n c.1.1) ∧
  ∀ H' y, Same H H' → (∀ D, Told pairK (dltC s cs ds) D → FirstIs K H' y D) → Q y H'
theorem d_law_difference (B : Bt mg) (T : Top K mg "_law_difference" s_law_difference ["one", "two", "start", "grid"]) (D_law_before : Def P w K mg base "_law_before" 1 ["one", "two"] (spB K leB)) (D_law_answer : Def P w K mg base "_law_answer" 2 ["told", "spot"] (spAnswer K w)) (D_law_due : Def P w K mg base "_law_due" 1 ["sums"] (spDue K w)) (D_law_sums : Def P w K mg base "_law_sums" 1 ["listed"] (spSums K w)) : Def P w K mg base "_law_difference" 3 ["one", "two", "start", "grid"] (spDiff K) := by
  refine mk_def T sc_law_difference (by rintro _ _ _ _ ⟨_, _, _, _, _, _, _, _, _, rfl, _⟩; rfl) fun f cdv A outer s H vs Q E hr h => ?_
  obtain ⟨v, u, x, g, n, sc, sm, cs, ds, rfl, hv, hu, hx, ⟨a, lv, rfl, ha, hg⟩, S, hn4, is, lc, ld, ic, id', q⟩ := h
  refine ⟨_, (pss_cons (ps_for PassesOwn.never rfl (pi_list (pv 3)) (pg_name (i := 4) sc_law_difference.nd rfl (Or.inl rfl)) (pss_one (ps_if (pt_val (pe_def D_law_before (hr.mono (by first | decide | omega)) (by rfl) (pa_cons (pv 2) (pa_cons (pv 4) pa_nil)))) (pss_cons (ps_setLc (i := 5) (own := [("row", 6), ("count", 7)]) (g := (gTup K 2 (gCons (gName 6) (gCons (gName 7) gNil)))) (tt := tYes) (te := (tTup (tCons (tVar 6) (tCons (tOp ySub (tC (.int 0)) (tVar 7)) tNil)))) rfl sc_law_difference.nd rfl rfl (sw_true rfl rfl rfl (by decide +kernel)) (pi_list (pe_def D_law_answer (hr.mono (by first | decide | omega)) (by rfl) (pa_cons (pv 1) (pa_cons (pv 4) pa_nil)))) (blkOk_by (own := [("row", 6), ("count", 7)]) (N := N_law_difference) (sc := defScope s_law_difference) (by decide +kernel)) (fun _ _ _ _ _ => (pg_tup rfl (pgs_cons (pg_name (i := 6) sc_law_difference.nd rfl (Or.inl rfl)) (pgs_cons (pg_name (i := 7) sc_law_difference.nd rfl (Or.inl rfl)) pgs_nil)))) (fun _ _ _ _ _ => pts_nil) (fun _ _ _ _ _ => (pe_tup (pa_cons (pv 6) (pa_cons (pe_op op_sub pe_int (pv 7)) pa_nil)))))
      (pss_cons (ps_set (i := 8) sc_law_difference.nd rfl (Or.inl rfl) (pe_def D_law_due (hr.mono (by first | decide | omega)) (by rfl) (pa_cons (pe_def D_law_sums (hr.mono (by first | decide | omega)) (by rfl) (pa_cons (pe_op op_cat (pe_def D_law_answer (hr.mono (by first | decide | omega)) (by rfl) (pa_cons (pv 0) (pa_cons (pv 4) pa_nil))) (pv 5)) pa_nil)) pa_nil)))
      (pss_one (ps_if (pt_truth (pv 8) (fun _ => rfl)) (pss_one (ps_ret (pe_tup (pa_cons (pv 4) (pa_cons (pe_ix ix_tup (pe_ix ix_list (pv 8) pe_int (fun _ _ => rfl)) pe_int (fun _ _ => rfl)) pa_nil))))) pss_nil)))) pss_nil)))
      (pss_one (ps_ret pe_non))), ?_⟩
  have gl : lv.length = (grd n sc).length := by simpa using hg.length
  have hc1 : ∀ c ∈ cs, c.1.1.length = n := fun c h => (ic c h).1
  have hd1 : ∀ c ∈ ds, c.1.1.length = n := fun c h => (id' c h).1
  refine ⟨.ref a, rfl, a, rfl, ⟨_, SqL.of ha⟩, ?_⟩
  refine for_list (xs := lv) (fun i σ H' => ∃ y4 y5 y6 y7 y8, σ = [some v, some u, some x, some (.ref a), y4, y5, y6, y7, y8] ∧ Same H H' ∧ ∀ q D', Told pairK (dltC sm cs ds) (q :: D') → ∀ j < i, (grd n sc)[j]? ≠ some q.1.1) ⟨none, none, none, none, none, rfl, Same.refl _, fun q D' _ j h => absurd h (Nat.not_lt_zero _)⟩ (fun i σ H' _ pv' => ?_) (fun i z σ H' hzi pv' => ?_) (fun σ H' pv' => ?_)
  · obtain ⟨_, _, _, _, _, rfl, e, _⟩ := pv'
    exact SqL.of (e _ _ ha)
  · obtain ⟨y4, y5, y6, y7, y8, rfl, e, iv⟩ := pv'
    obtain ⟨d0, hz1, hz2⟩ := hg.get hzi
    obtain ⟨m, hm, rfl⟩ := mo_at hz1
    have im := grd_mem.mp (List.mem_of_getElem? hm)
    have hz := Da.same e _ _ hz2
    have hx1 := Mo.same hx e
    obtain ⟨b1, rfl, hb1⟩ := hx1.inv
    obtain ⟨b2, rfl, hb2⟩ := Mo.inv (m := m) hz
    refine ⟨.ref b1, rfl, .ref b2, rfl, b1, b2, sm, m, rfl, hb1, hb2, by rw [is.1, im.1], by rw [is.1]; omega, fun H1 s1 => ⟨leB sm m, rfl, ite2 (fun zt => ?_) (fun zf => ?_)⟩⟩
    · have hz1' : Mo K H1 (.ref b2) m := Mo.same hz s1
      refine ⟨u, rfl, .ref b2, rfl, u, .ref b2, n, ds, m, rfl, hu.same (e.trans s1), by omega, hz1', im.1, by omega, hd1, fun H2 c2 A2 s2 n2 r2 t2 => ?_⟩
      obtain ⟨_, l2, ec, e2, d2⟩ := id r2
      cases ec
      have la2 : A2.length ≤ 1000 := by
        have h1 := fin_len (ps := ansL ds m) t2.fin fun p hp => Tl.cnt_mem (by rw [(t2.val p hp).1]; exact (t2.val p hp).2)
        have h2 : (ansL ds m).length ≤ ds.length := by
          unfold ansL
          rw [List.length_map]
          exact List.length_filter_le _ _
        exact Nat.le_trans h1 (Nat.le_trans h2 ld)
      have ll2 : l2.length = A2.length := by simpa using d2.length
      refine ⟨c2, rfl, ⟨_, SqL.of e2⟩, fun D hD => ?_⟩
      refine lc_dat (K := K) walk_list hD (by omega) (fun H5 e5 => SqL.of (e5 _ _ e2)) ((A2.map fun p => (p.1, 0 - p.2)).map rcD) (by rw [List.length_map, List.length_map, ll2]) (imm_rcs _) (fun j z5 H5' H5 Q' hj e5 y k => ?_) (fun H5 acc e5 eD dD => ?_)
      · obtain ⟨rfl, hy⟩ := y
        obtain ⟨dd, h1, h2⟩ := d2.get hy
        obtain ⟨c, hc, rfl⟩ := rc_at h1
        obtain ⟨t, yr, rfl, ht, hyr⟩ := rcD_inv (Da.same e5 _ _ h2)
        refine ⟨t, _, rfl, SqT.of ht, rfl, _, _, rfl, _, _, rfl, rfl, ?_⟩
        refine ⟨rfl, yr, rfl, _, rfl, _, _, rfl, rfl, by show 2 ≤ sizeLine; decide, fun g hg => ?_⟩
        refine k _ _ (rcD (c.1, 0 - c.2)) (same_upd hg) ?_ (rcD_of (q := (c.1, 0 - c.2)) upd_same (Mo.same hyr (same_upd hg)))
        rw [List.getElem?_map, List.getElem?_map, hc]
        rfl
      · have sA := ((e.trans s1).trans s2).trans e5
        refine ⟨v, rfl, .ref b2, rfl, v, .ref b2, n, cs, m, rfl, hv.same sA, by omega, Mo.same hz1' (s2.trans e5), im.1, by omega, hc1, fun H6 c6 A6 s6 n6 r6 t6 => ?_⟩
        obtain ⟨_, l6, ec6, e6, d6⟩ := id r6
        cases ec6
        have la6 : A6.length ≤ 1000 := by
          have h1 := fin_len (ps := ansL cs m) t6.fin fun p hp => Tl.cnt_mem (by rw [(t6.val p hp).1]; exact (t6.val p hp).2)
          have h2 : (ansL cs m).length ≤ cs.length := by
            unfold ansL
            rw [List.length_map]
            exact List.length_filter_le _ _
          exact Nat.le_trans h1 (Nat.le_trans h2 lc)
        have ll6 : l6.length = A6.length := by simpa using d6.length
        have lacc : acc.length = A2.length := by simpa using dD.length
        have big : (4000 : Nat) ≤ sizeLine := by decide +kernel
        refine ⟨.ref D, rfl, c6, D, l6, acc, rfl, rfl, e6, s6 _ _ eD, by omega, fun L hL => ?_⟩
        have sL := same_upd (o := .lst (l6 ++ acc)) hL
        refine ⟨.ref L, A6 ++ A2.map (fun p => (p.1, 0 - p.2)), rfl, ⟨L, _, rfl, upd_same, ?_⟩, by rw [List.length_append, List.length_map]; omega, fun H7 b7 N7 s7 nb7 tN7 cN7 => ?_⟩
        · rw [List.map_append]
          exact DaAll.append (Da.sameAll (s6.trans sL) _ _ dD) (Da.sameAll sL _ _ d6)
        refine ⟨b7, N7, rfl, tN7, fun H8 b8 A8 s8 n8 r8 t8 l8 => ?_⟩
        have t8' : Told rowK (difC cs ds m) A8 := t8.congr fun k => by
          rw [cN7, Tl.cnt_append, t6.cnt]
          have h0 : A2.map (fun p => (p.1, 0 - p.2)) = A2.map fun p => (p.1, -p.2) := List.map_congr_left fun p _ => by rw [Int.zero_sub]
          rw [h0, cnt_neg, t2.cnt]
          rfl
        have sB := (((sA.trans s6).trans sL).trans s7).trans s8
        obtain ⟨_, l8', ec8, e8, d8⟩ := id r8
        cases ec8
        cases A8 with
        | nil =>
          cases d8
          refine ⟨.ref b8, rfl, false, .inl ⟨[], SqL.of e8, rfl⟩, iteF ?_⟩
          refine ⟨_, _, _, _, _, rfl, sB, fun q D' t j hj => ?_⟩
          rcases Nat.lt_or_ge j i with h | h
          · exact iv q D' t j h
          · have : j = i := by omega
            subst this
            rw [hm]
            intro ee
            have e3 := Option.some.inj ee
            subst e3
            obtain ⟨_, _, e4⟩ := dif_first hc1 hd1 is.1 zt im.1 t t8'
            cases e4
        | cons a A8 =>
          cases d8 with
          | @cons v0 lv0 _ _ h1 h2 =>
            refine ⟨.ref b8, rfl, true, .inl ⟨_, SqL.of e8, rfl⟩, iteT ?_⟩
            obtain ⟨t9, yr, rfl, ht9, hyr⟩ := rcD_inv h1
            refine ⟨.ref b2, rfl, .ref b8, rfl, b8, _, 0, .ref t9, rfl, rfl, SqL.of e8, atI_nat (j := 0) rfl, t9, _, 0, yr, rfl, rfl, SqT.of ht9, atI_nat (j := 0) rfl, by show 2 ≤ sizeLine; decide, fun g hg => ?_⟩
            have sg := same_upd (o := .tup [.ref b2, yr]) hg
            refine q _ _ (sB.trans sg) fun D' t => ?_
            have a0 : difC cs ds m a.1 ≠ 0 := by
              have := t8'.val a List.mem_cons_self
              rw [this.1]
              exact this.2
            cases D' with
            | nil =>
              refine absurd ?_ a0
              rw [dif_at hc1 hd1 is.1 im.1 zt t]
              rfl
            | cons q0 D' =>
              have emq : m = q0.1.1 := by
                refine row_tot (fun h => absurd (dif_before hc1 hd1 is.1 im.1 zt t h a.1) a0) fun h => ?_
                obtain ⟨c, hc', ec⟩ := dlt_keys t List.mem_cons_self
                have hin : q0.1.1 ∈ grd n sc := by
                  rw [ec]
                  refine grd_mem.mpr (In.join ?_ is)
                  rcases hc' with h | h
                  · exact ic c h
                  · exact id' c h
                obtain ⟨j, hj, ej⟩ := List.mem_iff_getElem.mp hin
                obtain ⟨hi, em⟩ := List.getElem?_eq_some_iff.mp hm
                rcases Nat.lt_trichotomy j i with h1 | h1 | h1
                · exact iv q0 D' t j h1 (by rw [List.getElem?_eq_getElem hj, ej])
                · subst h1
                  rw [← em, ej] at h
                  exact List.lt_irrefl _ h
                · have := List.pairwise_iff_getElem.mp (grd_asc S.asc n) i j hi hj h1
                  rw [em, ej] at this
                  exact List.lt_irrefl _ (List.lt_trans this h)
              subst emq
              obtain ⟨c9, A9, e4⟩ := dif_first hc1 hd1 is.1 zt im.1 t t8'
              have e5' : a.1 = q0.1.2 := by
                rw [(List.cons.inj e4).1]
              rw [e5'] at hyr
              exact pair_of upd_same (Mo.same hz1' ((((((s2.trans e5).trans s6).trans sL).trans s7).trans s8).trans sg)) (Mo.same hyr sg)
    · refine ⟨_, _, _, _, _, rfl, e.trans s1, fun q D' t j hj => ?_⟩
      rcases Nat.lt_or_ge j i with h | h
      · exact iv q D' t j h
      · have : j = i := by omega
        subst this
        rw [hm]
        intro ee
        obtain ⟨c, hc', ec⟩ := dlt_keys t List.mem_cons_self
        have e3 := Option.some.inj ee
        refine zf ?_
        rw [e3, ec]
        refine leB_right ?_
        rw [is.1]
        rcases hc' with h | h
        · exact hc1 c h
        · exact hd1 c h
  · obtain ⟨y4, y5, y6, y7, y8, rfl, e, iv⟩ := pv'
    refine q H' .non e fun D t => ?_
    cases D with
    | nil => rfl
    | cons q D' =>
      obtain ⟨c, hc', ec⟩ := dlt_keys t List.mem_cons_self
      have : q.1.1 ∈ grd n sc := by
        rw [ec]
        refine grd_mem.mpr (In.join ?_ is)
        rcases hc' with h | h
        · exact ic c h
        · exact id' c h
      obtain ⟨j, hj, ej⟩ := List.mem_iff_getElem.mp this
      exact absurd (by rw [List.getElem?_eq_getElem hj, ej]) (iv q D' t j (by omega))
end
end K11

namespace K11
open PySem PySem.Spec PyProof.Rows L2 NSet
section
variable {P : Program} {w : World} {K : PySem.W.Frag} {mg : Str → Option Value} {base : Heap} {C CH : Addr}
theorem FirstIs.same {H H' : Hp} {y : V} : ∀ {D : List (PK × Int)}, FirstIs K H y D → Same H H' → FirstIs K H' y D
  | [], h, _ => h
  | _ :: _, h, e => Da.same e _ _ h
theorem shaped_pair (k : PK) : SeqAt.shaped (pairD k) = true := by
  have h1 := mo_dp k.1
  have h2 := mo_dp k.2
  unfold SeqAt.shaped
  rw [show PyData.canLay0 (pairD k) = (PyData.canLay0 (mo k.1) && (PyData.canLay0 (mo k.2) && true)) from rfl, can_mo, can_mo, Bool.true_and, Bool.true_and, Bool.true_and]
  refine decide_eq_true ?_
  have := pair_dp k
  omega
def spTells (K : PySem.W.Frag) (w : World) (C CH : Addr) : Sp := fun vs H Q _ => ∃ (v u x y : V) (n : Nat) (s : List Int) (T U : List (PK × Int)), vs = [v, u, x, y] ∧ HistAt K w CH H v n T ∧ HistAt K w CH H u n U ∧ FrontAt K C H x n [s] ∧ s.length = n ∧ 1 ≤ n ∧ n ≤ 4 ∧ T.length + U.length < 77 ∧
  (∀ D, Told pairK (dltC s T U) D → FirstIs K H y D) ∧ ∀ H', Same H H' → Q (.bl true) H'
theorem d_law_tells (B : Bt mg) (T : Top K mg "_law_tells" s_law_tells ["left", "right", "front", "due"]) (Dfirst_difference : Def P w K mg base "first_difference" 8 ["first", "second", "front"] (spFd K w C CH)) (D_law_is_numbers : Def P w K mg base "_law_is_numbers" 2 ["value"] (spIsRow K)) : Def P w K mg base "_law_tells" 9 ["left", "right", "front", "due"] (spTells K w C CH) := by
  refine mk_def T sc_law_tells (by rintro _ _ _ _ ⟨_, _, _, _, _, _, _, _, rfl, _⟩; rfl) fun f cdv A outer s H vs Q E hr h => ?_
  obtain ⟨v, u, x, y, n, sm, T1, U1, rfl, hT, hU, hF, hs, hn1, hn4, hlen, hy, q⟩ := h
  refine ⟨_, (pss_cons (ps_set (i := 4) sc_law_tells.nd rfl (Or.inl rfl) (pe_def Dfirst_difference (hr.mono (by first | decide | omega)) (by rfl) (pa_cons (pv 0) (pa_cons (pv 1) (pa_cons (pv 2) pa_nil)))))
      (pss_cons (ps_if (pt_cmpR op_isN (pv 3) pe_non (nomark _)) (pss_one (ps_ret (pe_cmpR op_isN (pv 4) pe_non (nomark _)))) pss_nil)
      (pss_cons (ps_if (pw_or (pt_not (pt_val (pe_callB call_isi (by rfl) B.m_isinstance (by decide +kernel) (pa_cons (pv 4) (pa_cons (pe_bltn (v := .ty "tuple") (by rfl) B.m_tuple (by decide +kernel) rfl) pa_nil))))) (pw_or1 (pt_cmpR op_ne (pe_callB call_len_seq (by rfl) B.m_len PySem.boot_len (pa_cons (pv 4) pa_nil)) pe_int (nomark _)))).pt (pss_one (ps_ret pe_bl)) pss_nil)
      (pss_one (ps_ret (pe_and (pe_def D_law_is_numbers (hr.mono (by first | decide | omega)) (by rfl) (pa_cons (pe_ix ix_tup (pv 4) pe_int (fun _ _ => rfl)) pa_nil)) (pe_and (pe_def D_law_is_numbers (hr.mono (by first | decide | omega)) (by rfl) (pa_cons (pe_ix ix_tup (pv 4) pe_int (fun _ _ => rfl)) pa_nil)) (pe_one (pe_cmpR (op_eqD (hu64 hr)) (pv 4) (pv 3) (nomark _)))))))))), ?_⟩
  refine ⟨v, rfl, u, rfl, x, rfl, v, u, x, n, sm, T1, U1, rfl, hT, hU, hF, hn1, hn4, hlen, fun H1 y1 D s1 tD hy1 => ?_⟩
  have fy := (hy D tD).same s1
  cases D with
  | nil =>
    obtain rfl := fy
    obtain rfl := hy1
    exact ⟨.non, rfl, rfl, _, rfl, iteT ⟨.non, rfl, rfl, q H1 s1⟩⟩
  | cons d D =>
    obtain ⟨t, ya, yb, rfl, ht, hya, hyb⟩ := pair_inv hy1
    obtain ⟨t2, _, _, rfl, _, _, _⟩ := pair_inv fy
    obtain ⟨_, _, _, _, r1⟩ := id hT
    obtain ⟨_, _, _, _, r2⟩ := id hU
    obtain ⟨c, hc, ec⟩ := dlt_keys tD List.mem_cons_self
    have hk : HK n c.1 := by
      rcases hc with h | h
      · exact r1.ok c h
      · exact r2.ok c h
    have l1 : d.1.1.length = n := by
      rw [ec]
      show (joinL c.1.1 sm).length = n
      rw [joinL_ln (by rw [hk.1.1, hs]), hs]
    have l2 : d.1.2.length ≤ 100 := by
      rw [ec]
      exact hk.2
    refine ⟨.ref t2, rfl, rfl, _, rfl, iteF ?_⟩
    refine ⟨.ref t, rfl, _, _, .type "tuple", .type "tuple", true, rfl, .ty _, .base (.tup ht), kit_ty (by decide +kernel), _, rfl, iteF ⟨.ref t, rfl, t, _, rfl, .inr (SqT.of ht), rfl, _, rfl, iteNS rfl ?_⟩⟩
    refine ⟨.ref t, rfl, t, _, 0, ya, rfl, rfl, SqT.of ht, atI_nat (j := 0) rfl, ya, d.1.1, rfl, hya, by omega, fun H2 s2 => ⟨true, rfl, iteT ?_⟩⟩
    refine ⟨.ref t, rfl, t, _, 1, yb, rfl, rfl, SqT.of (s2 _ _ ht), atI_nat (j := 1) rfl, yb, d.1.2, rfl, Mo.same hyb s2, by omega, fun H3 s3 => ⟨true, rfl, iteT ?_⟩⟩
    have hf : Da K H3 (.ref t2) (pairD d.1) := Da.same (s2.trans s3) _ _ fy
    have ht3 : Da K H3 (.ref t) (pairD d.1) := Da.same (s2.trans s3) _ _ hy1
    refine ⟨.ref t, rfl, .ref t2, rfl, _, _, Da.dp _ _ ht3, Da.dp _ _ hf, shaped_pair _, shaped_pair _, ?_⟩
    rw [eqv_self (shaped_pair _)]
    exact q H3 ((s1.trans s2).trans s3)
end
end K11

namespace K11
open PySem PySem.Spec PyProof.Rows L2 NSet
theorem sorted_more {L : List PK} (h : L.Pairwise fun x y => ltK pairK x y = true) (k : PK) : ∃ L' : List PK, L'.Pairwise (fun x y => ltK pairK x y = true) ∧ k ∈ L' ∧ ∀ x ∈ L, x ∈ L' := by
  refine ⟨(L.filter fun x => ltK pairK x k) ++ k :: L.filter fun x => ltK pairK k x, List.pairwise_append.mpr ⟨h.filter _, List.pairwise_cons.mpr ⟨fun a ha => (List.mem_filter.mp ha).2, h.filter _⟩, fun a ha b hb => ?_⟩, by simp, fun x hx => ?_⟩
  · have a1 := (List.mem_filter.mp ha).2
    rcases List.mem_cons.mp hb with rfl | hb
    · exact a1
    · exact ltK_trans ordPair a1 (List.mem_filter.mp hb).2
  · cases e1 : ltK pairK x k with
    | true => exact List.mem_append_left _ (List.mem_filter.mpr ⟨hx, e1⟩)
    | false =>
      cases e2 : ltK pairK k x with
      | true => exact List.mem_append_right _ (List.mem_cons_of_mem _ (List.mem_filter.mpr ⟨hx, e2⟩))
      | false =>
        have : x = k := ordPair.tot x k e1 e2
        rw [this]
        simp
theorem sorted_all : ∀ ks : List PK, ∃ L' : List PK, L'.Pairwise (fun x y => ltK pairK x y = true) ∧ ∀ x ∈ ks, x ∈ L'
  | [] => ⟨[], .nil, fun x hx => nomatch hx⟩
  | k :: ks => by
    obtain ⟨L, h1, h2⟩ := sorted_all ks
    obtain ⟨L', g1, g2, g3⟩ := sorted_more h1 k
    refine ⟨L', g1, fun x hx => ?_⟩
    rcases List.mem_cons.mp hx with rfl | h
    · exact g2
    · exact g3 x (h2 x h)
theorem told_some (s : List Int) (cs ds : List (PK × Int)) : ∃ D, Told pairK (dltC s cs ds) D := by
  obtain ⟨L, h1, h2⟩ := sorted_all (Tl.keys (mapT (fun m => joinL m s) cs) ++ Tl.keys (mapT (fun m => joinL m s) ds))
  refine ⟨_, told_of h1 (dltC s cs ds) fun k hk => h2 k ?_⟩
  have : feltC s cs k ≠ 0 ∨ feltC s ds k ≠ 0 := by
    unfold dltC at hk
    omega
  rcases this with h | h
  · exact List.mem_append_left _ (Tl.cnt_mem h)
  · exact List.mem_append_right _ (Tl.cnt_mem h)
theorem told_nil {s : List Int} {cs ds D : List (PK × Int)} (t : Told pairK (dltC s cs ds) D) : D = [] ↔ ∀ k, feltC s cs k = feltC s ds k := by
  constructor
  · rintro rfl k
    have := t.cnt k
    unfold dltC at this
    simp only [Tl.cnt] at this
    omega
  · intro h
    cases D with
    | nil => rfl
    | cons p D =>
      have := t.val p List.mem_cons_self
      unfold dltC at this
      have := h p.1
      omega
/-- a list that holds what a tally holds is no shorter -/
theorem len_of_cnt {R ps : List (PK × Int)} (f : Tl.Fin R) (h : ∀ k, Tl.cnt R k = Tl.cnt ps k) : R.length ≤ ps.length := fin_len f fun p hp => Tl.cnt_mem (by
  rw [← h, Tl.cnt_in f.nd hp]
  exact f.nz p hp)
theorem join_idem {m s : List Int} (h : m.length = s.length) : joinL (joinL m s) s = joinL m s := by
  refine join_ext h (joinL_ln h) fun k h1 h2 h3 => ?_
  have e : (joinL m s)[k] = if s[k] > m[k] then s[k] else m[k] := by
    simp only [joinL, List.getElem_zipWith]
  rw [e]
  split
  · exact .inr ⟨Int.le_refl _, by omega⟩
  · exact .inl rfl
theorem felt_again {s : List Int} {cs R : List (PK × Int)} (hc : ∀ c ∈ cs, c.1.1.length = s.length) (h : ∀ k, Tl.cnt R k = feltC s cs k) (k : PK) : feltC s R k = feltC s cs k := by
  rw [felt_eq (M := mapT (fun m => joinL m s) cs) h k]
  unfold feltC
  congr 1
  unfold mapT
  rw [List.map_map]
  refine List.map_congr_left fun c h => ?_
  show ((joinL (joinL c.1.1 s) s, c.1.2), c.2) = _
  rw [join_idem (hc c h)]
theorem told_neg {c : PK → Int} {D : List (PK × Int)} (t : Told pairK c D) : Told pairK (fun k => - c k) (D.map fun p => (p.1, -p.2)) := by
  refine ⟨fun p hp => ?_, fun k hk => ?_, List.pairwise_map.mpr t.asc⟩
  · obtain ⟨d, hd, rfl⟩ := List.mem_map.mp hp
    have := t.val d hd
    exact ⟨by show - c d.1 = - d.2; rw [this.1], by show - d.2 ≠ 0; have := this.2; omega⟩
  · obtain ⟨d, hd, e⟩ := List.mem_map.mp (t.all k (by omega))
    exact List.mem_map.mpr ⟨(d.1, -d.2), List.mem_map.mpr ⟨d, hd, rfl⟩, e⟩
section
variable {P : Program} {w : World} {K : PySem.W.Frag} {mg : Str → Option Value} {base : Heap} {C CH : Addr}
def spFewest (K : PySem.W.Frag) (w : World) (C CH : Addr) : Sp := fun vs H Q _ => ∃ (v x y g : V) (a b : Addr) (n : Nat) (sc s : List Int) (T cs ds : List (PK × Int)), vs = [v, .int (n : Nat), .ref a, .ref b, x, y, g] ∧ HistAt K w CH H v n T ∧ (∀ k, Tl.cnt T k = Tl.cnt cs k) ∧ ChL K H (.ref a) cs ∧ ChL K H (.ref b) ds ∧ Mo K H x s ∧ FrontAt K C H y n [s] ∧ MoL K H g (grd n sc) ∧ Scale n sc ∧ 1 ≤ n ∧ n ≤ 4 ∧ In sc n s ∧
  cs.length ≤ 16 ∧ T.length ≤ 16 ∧ ds.length ≤ 50 ∧ (∀ c ∈ cs, KIn n sc c.1) ∧ (∀ c ∈ ds, KIn n sc c.1) ∧ ∀ H', Same H H' → Q (.bl true) H'
theorem d_law_fewest (B : Bt mg) (X : TxH K CH) (ClH : Cls K CH) (T : Top K mg "_law_fewest" s_law_fewest ["left", "axes", "one", "two", "start", "front", "grid"]) (MkHistory : MakeI P w K mg base CH "History" 4 ["self", "axes", "changes"] (spHInit K w CH)) (D_law_difference : Def P w K mg base "_law_difference" 3 ["one", "two", "start", "grid"] (spDiff K))
    (MHfolded : MethD P w K mg base CH "folded" 7 ["self", "front"] (spFolded K w C CH)) (MHseen : MethD P w K mg base CH "seen" 7 ["self", "front"] (spSeen K w C CH)) (MH__eq__ : MethD P w K mg base CH "__eq__" 1 ["self", "other"] (spHEq K w CH)) (MH__len__ : MethD P w K mg base CH "__len__" 1 ["self"] (spHLen K w CH))
    (D_law_tells : Def P w K mg base "_law_tells" 9 ["left", "right", "front", "due"] (spTells K w C CH)) : Def P w K mg base "_law_fewest" 10 ["left", "axes", "one", "two", "start", "front", "grid"] (spFewest K w C CH) := by
  refine mk_def T sc_law_fewest (by rintro _ _ _ _ ⟨_, _, _, _, _, _, _, _, _, _, _, _, rfl, _⟩; rfl) fun f cdv A outer s H vs Q E hr h => ?_
  obtain ⟨v, x, y, g, a, b, n, sc, sm, T1, cs, ds, rfl, hT, hcT, hcs, hds, hx, hF, hg, S, hn1, hn4, is, lc, lT, ld, kc, kd, q⟩ := h
  refine ⟨_, (pss_cons (ps_set (i := 7) sc_law_fewest.nd rfl (Or.inl rfl) (pe_makeI MkHistory (hr.mono (by first | decide | omega)) (by rfl) (pa_cons (pv 1) (pa_cons (pe_callTy call_list_of (by rfl) B.m_list (by decide +kernel) (pa_cons (pv 3) pa_nil)) pa_nil))))
      (pss_cons (ps_set (i := 8) sc_law_fewest.nd rfl (Or.inl rfl) (pe_def D_law_difference (hr.mono (by first | decide | omega)) (by rfl) (pa_cons (pv 2) (pa_cons (pv 3) (pa_cons (pv 4) (pa_cons (pv 6) pa_nil))))))
      (pss_cons (ps_set (i := 9) sc_law_fewest.nd rfl (Or.inl rfl) (pe_methM (pv 0) ClH MHfolded (hr.mono (by first | decide | omega)) (pa_cons (pv 5) pa_nil)))
      (pss_cons (ps_set (i := 10) sc_law_fewest.nd rfl (Or.inl rfl) (pe_cmpR (NSet.op_eqOwn MH__eq__ (hr.mono (by first | decide | omega))) (pe_methM (pv 7) ClH MHfolded (hr.mono (by first | decide | omega)) (pa_cons (pv 5) pa_nil)) (pv 9) (nomark _)))
      (pss_cons (ps_if (pw_or (pt_not (pt_val (pe_callB call_isi (by rfl) B.m_isinstance (by decide +kernel) (pa_cons (pv 10) (pa_cons (pe_bltn (v := .ty "bool") (by rfl) B.m_bool (by decide +kernel) rfl) pa_nil))))) (pw_or1 (pt_cmpR op_ne (pv 10) (pe_cmpR op_isN (pv 8) pe_non (nomark _)) (nomark _)))).pt (pss_one (ps_ret pe_bl)) pss_nil)
      (pss_cons (ps_set (i := 11) sc_law_fewest.nd rfl (Or.inl rfl) (pe_cmpR (NSet.op_eqOwn MH__eq__ (hr.mono (by first | decide | omega))) (pe_methM (pv 7) ClH MHseen (hr.mono (by first | decide | omega)) (pa_cons (pv 5) pa_nil)) (pv 9) (nomark _)))
      (pss_cons (ps_if (pw_or (pt_not (pt_val (pe_callB call_isi (by rfl) B.m_isinstance (by decide +kernel) (pa_cons (pv 11) (pa_cons (pe_bltn (v := .ty "bool") (by rfl) B.m_bool (by decide +kernel) rfl) pa_nil))))) (pw_or1 (pt_cmpR op_ne (pv 11) (pv 10) (nomark _)))).pt (pss_one (ps_ret pe_bl)) pss_nil)
      (pss_cons (ps_if (pw_and (pt_val (pv 10)) (pw_and1 (pt_cmpR op_lt (pe_callB (NSet.call_lenOwn MH__len__ (hr.mono (by first | decide | omega))) (by rfl) B.m_len PySem.boot_len (pa_cons (pv 7) pa_nil)) (pe_callB (NSet.call_lenOwn MH__len__ (hr.mono (by first | decide | omega))) (by rfl) B.m_len PySem.boot_len (pa_cons (pv 9) pa_nil)) (nomark _)))).pt (pss_one (ps_ret pe_bl)) pss_nil)
      (pss_one (ps_ret (pe_and (pe_def D_law_tells (hr.mono (by first | decide | omega)) (by rfl) (pa_cons (pv 0) (pa_cons (pv 7) (pa_cons (pv 5) (pa_cons (pv 8) pa_nil))))) (pe_one (pe_def D_law_tells (hr.mono (by first | decide | omega)) (by rfl) (pa_cons (pv 7) (pa_cons (pv 9) (pa_cons (pv 5) (pa_cons (pv 8) pa_nil))))))))))))))))), ?_⟩
  obtain ⟨_, lvb, eb, elb, dlb⟩ := id hds
  cases eb
  obtain ⟨p, dx, c, rfl, r⟩ := id hT
  refine ⟨.int (n : Nat), rfl, .ref b, rfl, b, lvb, rfl, .inl (SqL.of elb), fun l hl x0 dx0 hx0 hdx0 hne => ?_⟩
  have sL := same_upd (o := .lst lvb) hl
  have sX : Same (L2.upd H l (.lst lvb)) (L2.upd (L2.upd (L2.upd H l (.lst lvb)) dx0 (.own x0)) x0 (.ins CH dx0 [])) := fun b o ho => by
    rw [upd_ne (ne_of_none ho hx0), upd_ne (ne_of_none ho hdx0)]
    exact ho
  refine ⟨x0, dx0, n, l, ds, rfl, upd_same, hn1, hn4, .inl ⟨l, lvb, rfl, sX _ _ upd_same, Da.sameAll (sL.trans sX) _ _ dlb⟩, by omega, fun c hc => (kd c hc).hk S, fun H1 c1 T2 e1 r1 ct kt lt => ⟨rfl, ?_⟩⟩
  have s1 : Same H H1 := sL.trans fun b o ho => e1 _ _ (ne_of_none ho hx0) (sX _ _ ho)
  have hT2 : HistAt K w CH H1 (.ref x0) n T2 := ⟨x0, dx0, c1, rfl, r1⟩
  refine ⟨.ref a, rfl, .ref b, rfl, x, rfl, g, rfl, .ref a, .ref b, x, g, n, sc, sm, cs, ds, rfl, hcs.same s1, hds.same s1, Mo.same hx s1, hg.same s1, S, hn4, is, by omega, by omega, fun c hc => (kc c hc).1, fun c hc => (kd c hc).1, fun H2 yd s2 hyd => ?_⟩
  obtain ⟨D, tD⟩ := told_some sm cs ds
  have s12 := s1.trans s2
  obtain ⟨_, dx2, c2, e2', r2⟩ := id (hT.same s12)
  cases e2'
  refine ⟨.ref p, rfl, p, dx2, _, rfl, r2.ins, hiF_no n c2 (by decide +kernel) (by decide +kernel), y, rfl, .ref p, y, n, [sm], T1, rfl, hT.same s12, hF.same s12, hn1, hn4, by omega, fun H3 ys R s3 hR cR lR => ?_⟩
  have s13 := s12.trans s3
  have s03 := s2.trans s3
  obtain ⟨_, dx3, c3, e3', r3⟩ := id (hT2.same s03)
  cases e3'
  refine ⟨.ref x0, rfl, x0, dx3, _, rfl, r3.ins, hiF_no n c3 (by decide +kernel) (by decide +kernel), y, rfl, .ref x0, y, n, [sm], T2, rfl, hT2.same s03, hF.same s13, hn1, hn4, by omega, fun H4 y2 R2 s4 hR2 cR2 lR2 => ?_⟩
  obtain ⟨p4, dx4, c4, rfl, r4⟩ := id hR2
  obtain ⟨p5, dx5, c5, rfl, r5⟩ := id (hR.same s4)
  refine ⟨.ref p5, rfl, p4, dx4, _, p5, dx5, _, rfl, rfl, r4.ins, r5.ins, .ref p4, .ref p5, n, R2, R, rfl, hR2, hR.same s4, fun H5 bb s5 hb => ⟨bb, rfl, ?_⟩⟩
  have fR : ∀ k, Tl.cnt R k = feltC sm cs k := fun k => (cR k).trans (felt_eq hcT k)
  have fR2 : ∀ k, Tl.cnt R2 k = feltC sm ds k := fun k => (cR2 k).trans (felt_eq ct k)
  have hbD : bb = true ↔ D = [] := by
    rw [hb, told_nil tD]
    constructor
    · intro h k
      rw [← fR, ← fR2]
      exact (Tl.cnt_perm h k).symm
    · intro h
      exact r4.fin.perm r5.fin fun k => by rw [fR, fR2, h]
  have hyD : yd = .non ↔ D = [] := by
    have := hyd D tD
    cases D with
    | nil => exact ⟨fun _ => rfl, fun _ => this⟩
    | cons d D =>
      obtain ⟨_, _, _, e, _⟩ := pair_inv this
      rw [e]
      exact ⟨fun h => (nomatch h), fun h => (nomatch h)⟩
  have hbb : bb = decide (yd = .non) := by
    cases bb with
    | true => exact (decide_eq_true (hyD.mpr (hbD.mp rfl))).symm
    | false => exact (decide_eq_false fun h => by have := hbD.mpr (hyD.mp h); cases this).symm
  refine ⟨.bl bb, rfl, _, _, .type "bool", .type "bool", true, rfl, .ty _, .base (.bl bb), kit_ty (by decide +kernel), _, rfl, iteF ?_⟩
  refine ⟨.bl bb, rfl, yd, rfl, rfl, rfl, _, rfl, ?_⟩
  rw [decide_eq_true (show V.bl bb = V.bl (decide (yd = .non)) by rw [← hbb])]
  refine iteF ?_
  have s25 := (s3.trans s4).trans s5
  obtain ⟨_, dx6, c6, e6', r6⟩ := id (hT2.same (s2.trans s25))
  cases e6'
  refine ⟨.ref x0, rfl, x0, dx6, _, rfl, r6.ins, hiF_no n c6 (by decide +kernel) (by decide +kernel), y, rfl, .ref x0, y, n, sm, T2, rfl, hT2.same (s2.trans s25), hF.same (s12.trans s25), hn1, hn4, by omega, fun H6 y6 R6 s6 hR6 cR6 lR6 => ?_⟩
  obtain ⟨p6, dx6', c6', rfl, r6'⟩ := id hR6
  have hR6' := hR.same ((s4.trans s5).trans s6)
  obtain ⟨_, dx7, c7, e7', r7⟩ := id hR6'
  cases e7'
  refine ⟨.ref p5, rfl, p6, dx6', _, p5, dx7, _, rfl, rfl, r6'.ins, r7.ins, .ref p6, .ref p5, n, R6, R, rfl, hR6, hR6', fun H7 b7 s7 hb7 => ⟨b7, rfl, ?_⟩⟩
  have fR6 : ∀ k, Tl.cnt R6 k = feltC sm ds k := fun k => (cR6 k).trans (felt_eq ct k)
  have hb7D : b7 = true ↔ D = [] := by
    rw [hb7, told_nil tD]
    constructor
    · intro h k
      rw [← fR, ← fR6]
      exact (Tl.cnt_perm h k).symm
    · intro h
      exact r6'.fin.perm r7.fin fun k => by rw [fR, fR6, h]
  obtain rfl : b7 = bb := Bool.eq_iff_iff.mpr (hb7D.trans hbD.symm)
  refine ⟨.bl b7, rfl, _, _, .type "bool", .type "bool", true, rfl, .ty _, .base (.bl b7), kit_ty (by decide +kernel), _, rfl, iteF ?_⟩
  refine ⟨.bl b7, rfl, .bl b7, rfl, rfl, _, rfl, ?_⟩
  rw [decide_eq_true (rfl : V.bl b7 = V.bl b7)]
  refine iteF ?_
  have lTR : b7 = true → R.length ≤ T2.length := fun hb => by
    have h0 := (told_nil tD).mp (hbD.mp hb)
    have := len_of_cnt (ps := mapT (fun m => joinL m sm) T2) r5.fin fun k => by
      rw [fR, h0]
      exact (felt_eq ct k).symm
    rwa [mapT_len] at this
  cases b7 with
  | false =>
    refine ⟨.bl false, rfl, false, rfl, iteF ?_⟩
    have S9 := Same.refl H7
    have sF := ((((s3.trans s4).trans s5).trans s6).trans s7)
    have s0F := (s12.trans sF)
    refine ⟨.ref p, rfl, .ref x0, rfl, y, rfl, yd, rfl, .ref p, .ref x0, y, yd, n, sm, T1, T2, rfl, (hT.same s0F).same S9, (hT2.same (s2.trans sF)).same S9, (hF.same s0F).same S9, is.1, hn1, hn4, by omega, fun D' t' => ((hyd D' (t'.congr fun k => ?_)).same sF).same S9, fun H10 s10 => ⟨true, rfl, iteT ?_⟩⟩
    · show feltC sm T1 k - feltC sm T2 k = feltC sm cs k - feltC sm ds k
      rw [felt_eq hcT, felt_eq ct]
    refine ⟨.ref x0, rfl, .ref p5, rfl, y, rfl, yd, rfl, .ref x0, .ref p5, y, yd, n, sm, T2, R, rfl, ((hT2.same (s2.trans sF)).same S9).same s10, ((hR.same (((s4.trans s5).trans s6).trans s7)).same S9).same s10, ((hF.same s0F).same S9).same s10, is.1, hn1, hn4, by omega, fun D' t' => ?_, fun H11 s11 => q H11 (((s0F.trans S9).trans s10).trans s11)⟩
    have t2 : Told pairK (dltC sm cs ds) (D'.map fun p => (p.1, -p.2)) := (told_neg t').congr fun k => by
      show - (feltC sm T2 k - feltC sm R k) = feltC sm cs k - feltC sm ds k
      rw [felt_eq ct, felt_again (fun c hc => by rw [(kc c hc).1.1, is.1]) fR]
      omega
    have f2 := (((hyd _ t2).same sF).same S9).same s10
    cases D' with
    | nil => exact f2
    | cons d D' => exact f2
  | true =>
    have lt2 := lTR rfl
    have hT7 := hT2.same ((s2.trans s25).trans (s6.trans s7))
    obtain ⟨_, dx8, c8, e8', r8⟩ := id hT7
    cases e8'
    refine ⟨.bl true, rfl, true, rfl, iteT ?_⟩
    refine ⟨.ref x0, rfl, x0, dx8, _, rfl, r8.ins, .ref x0, n, T2, rfl, hT7, fun H8 s8 => ⟨T2.length, rfl, by omega, ?_⟩⟩
    have hR8 := (hR6'.same s7).same s8
    obtain ⟨_, dx9, c9, e9', r9⟩ := id hR8
    cases e9'
    refine ⟨.ref p5, rfl, p5, dx9, _, rfl, r9.ins, .ref p5, n, R, rfl, hR8, fun H9 s9 => ⟨R.length, rfl, by omega, ?_⟩⟩
    refine ⟨_, _, rfl, rfl, _, rfl, ?_⟩
    rw [decide_eq_false (by omega)]
    refine iteF ?_
    have S9 := s8.trans s9
    have sF := ((((s3.trans s4).trans s5).trans s6).trans s7)
    have s0F := (s12.trans sF)
    refine ⟨.ref p, rfl, .ref x0, rfl, y, rfl, yd, rfl, .ref p, .ref x0, y, yd, n, sm, T1, T2, rfl, (hT.same s0F).same S9, (hT2.same (s2.trans sF)).same S9, (hF.same s0F).same S9, is.1, hn1, hn4, by omega, fun D' t' => ((hyd D' (t'.congr fun k => ?_)).same sF).same S9, fun H10 s10 => ⟨true, rfl, iteT ?_⟩⟩
    · show feltC sm T1 k - feltC sm T2 k = feltC sm cs k - feltC sm ds k
      rw [felt_eq hcT, felt_eq ct]
    refine ⟨.ref x0, rfl, .ref p5, rfl, y, rfl, yd, rfl, .ref x0, .ref p5, y, yd, n, sm, T2, R, rfl, ((hT2.same (s2.trans sF)).same S9).same s10, ((hR.same (((s4.trans s5).trans s6).trans s7)).same S9).same s10, ((hF.same s0F).same S9).same s10, is.1, hn1, hn4, by omega, fun D' t' => ?_, fun H11 s11 => q H11 (((s0F.trans S9).trans s10).trans s11)⟩
    have t2 : Told pairK (dltC sm cs ds) (D'.map fun p => (p.1, -p.2)) := (told_neg t').congr fun k => by
      show - (feltC sm T2 k - feltC sm R k) = feltC sm cs k - feltC sm ds k
      rw [felt_eq ct, felt_again (fun c hc => by rw [(kc c hc).1.1, is.1]) fR]
      omega
    have f2 := (((hyd _ t2).same sF).same S9).same s10
    cases D' with
    | nil => exact f2
    | cons d D' => exact f2
end
end K11

namespace K11
open PySem PySem.Spec PyProof.Rows L2 NSet
theorem mapT_fix {s : List Int} {L : List (PK × Int)} (h : ∀ q ∈ L, joinL q.1.1 s = q.1.1) : mapT (fun m => joinL m s) L = L := by
  unfold mapT
  conv => rhs; rw [← List.map_id L]
  refine List.map_congr_left fun q hq => ?_
  show ((joinL q.1.1 s, q.1.2), q.2) = q
  rw [h q hq]
theorem felt_fix {s : List Int} {L : List (PK × Int)} (h : ∀ q ∈ L, joinL q.1.1 s = q.1.1) (k : PK) : feltC s L k = Tl.cnt L k := by
  unfold feltC
  rw [mapT_fix h]
theorem told_one (k : PK) {z : Int} (hz : z ≠ 0) : Told pairK (fun j => if k = j then z else 0) [(k, z)] := by
  refine ⟨fun p hp => ?_, fun j hj => ?_, List.pairwise_singleton _ _⟩
  · rw [List.mem_singleton.mp hp]
    exact ⟨if_pos rfl, hz⟩
  · by_cases e : k = j
    · rw [← e]
      exact List.mem_cons_self
    · rw [if_neg e] at hj
      exact absurd rfl hj
theorem da_take {K : PySem.W.Frag} {H : Hp} : ∀ {vs : List V} {ds : List PyData} (j : Nat), DaAll K H vs ds → DaAll K H (vs.take j) (ds.take j)
  | _, _, 0, _ => .nil
  | _, _, _ + 1, .nil => .nil
  | _, _, j + 1, .cons h t => .cons h (da_take j t)
theorem da_drop {K : PySem.W.Frag} {H : Hp} : ∀ {vs : List V} {ds : List PyData} (j : Nat), DaAll K H vs ds → DaAll K H (vs.drop j) (ds.drop j)
  | _, _, 0, h => h
  | _, _, _ + 1, .nil => .nil
  | _, _, j + 1, .cons h t => da_drop j t
theorem cut_to {lv : List V} {i : Int} {j : Nat} (h : i = (j : Int)) (hj : j < lv.length) : cutV lv none (some i) = lv.take j := by
  subst h
  unfold cutV
  rw [HT.sIx_none, HT.sIx_nat, Nat.min_eq_left (Nat.le_of_lt hj), List.drop_zero, Nat.sub_zero]
theorem cut_from {lv : List V} {i : Int} {j : Nat} (h : i = (j : Int)) (hj : j < lv.length) : cutV lv (some (i + 1)) none = lv.drop (j + 1) := by
  subst h
  unfold cutV
  rw [HT.sIx_none, show (j : Int) + 1 = ((j + 1 : Nat) : Int) by omega, HT.sIx_nat, Nat.min_eq_left hj]
  exact List.take_of_length_le (by rw [List.length_drop]; omega)
theorem first_one {K : PySem.W.Frag} {H : Hp} {y : V} {k : PK} {z : Int} {c : PK → Int} {D : List (PK × Int)} (hz : z ≠ 0) (hc : ∀ j, c j = if k = j then z else 0) (hy : Da K H y (pairD k)) (t : Told pairK c D) : FirstIs K H y D := by
  have := (t.congr hc).uniq ordPair (told_one k hz)
  subst this
  exact hy
theorem mk_sX {H : Hp} {x dx C : Addr} (hx : H x = none) (hdx : H dx = none) (hne : dx ≠ x) : Same H (L2.upd (L2.upd H dx (.own x)) x (.ins C dx [])) := fun b o ho => by
  rw [upd_ne (ne_of_none ho hx), upd_ne (ne_of_none ho hdx)]
  exact ho
theorem mk_s {H H' : Hp} {x dx C : Addr} (hx : H x = none) (hdx : H dx = none) (hne : dx ≠ x) (e : SameB x (L2.upd (L2.upd H dx (.own x)) x (.ins C dx [])) H') : Same H H' := fun b o ho => e _ _ (ne_of_none ho hx) (mk_sX hx hdx hne _ _ ho)
section
variable {P : Program} {w : World} {K : PySem.W.Frag} {mg : Str → Option Value} {base : Heap} {C CH : Addr}
def spNeeded (K : PySem.W.Frag) (w : World) (C CH : Addr) : Sp := fun vs H Q _ => ∃ (v y : V) (n : Nat) (s : List Int) (R : List (PK × Int)) (pl by' : Int), vs = [v, .int (n : Nat), y, .int pl, .int by'] ∧ HistAt K w CH H v n R ∧ FrontAt K C H y n [s] ∧ s.length = n ∧ 1 ≤ n ∧ n ≤ 4 ∧ R.length ≤ 16 ∧ (∀ q ∈ R, joinL q.1.1 s = q.1.1) ∧ by' ≠ 0 ∧ ∀ H', Same H H' → Q (.bl true) H'
theorem d_law_needed (B : Bt mg) (X : TxH K CH) (ClH : Cls K CH) (T : Top K mg "_law_needed" s_law_needed ["short", "axes", "front", "place", "by"]) (MkHistory : MakeI P w K mg base CH "History" 4 ["self", "axes", "changes"] (spHInit K w CH))
    (MHchanges : MethD P w K mg base CH "changes" 1 ["self"] (spChanges K w CH)) (MHfolded : MethD P w K mg base CH "folded" 7 ["self", "front"] (spFolded K w C CH)) (MH__eq__ : MethD P w K mg base CH "__eq__" 1 ["self", "other"] (spHEq K w CH)) (MH__len__ : MethD P w K mg base CH "__len__" 1 ["self"] (spHLen K w CH))
    (D_law_tells : Def P w K mg base "_law_tells" 9 ["left", "right", "front", "due"] (spTells K w C CH)) : Def P w K mg base "_law_needed" 10 ["short", "axes", "front", "place", "by"] (spNeeded K w C CH) := by
  refine mk_def T sc_law_needed (by rintro _ _ _ _ ⟨_, _, _, _, _, _, _, rfl, _⟩; rfl) fun f cdv A outer s H vs Q E hr h => ?_
  obtain ⟨v, y, n, sm, R, pl, by', rfl, hR, hF, hs, hn1, hn4, lR, hj, hby, q⟩ := h
  refine ⟨_, (pss_cons (ps_set (i := 5) sc_law_needed.nd rfl (Or.inl rfl) (pe_methM0 (pv 0) ClH MHchanges (hr.mono (by first | decide | omega))))
      (pss_cons (ps_if (pt_not (pt_truth (pv 5) (fun _ => rfl))) (pss_one (ps_ret pe_bl)) pss_nil)
      (pss_cons (ps_set (i := 3) sc_law_needed.nd rfl (Or.inl rfl) (pe_op op_mod (pe_callTy call_int1 (by rfl) B.m_int (by decide +kernel) (pa_cons (pv 3) pa_nil)) (pe_callB call_len_seq (by rfl) B.m_len PySem.boot_len (pa_cons (pv 5) pa_nil))))
      (pss_cons (ps_asg (pe_ix ix_list (pv 5) (pv 3) (fun _ _ => rfl)) (pg_tup rfl (pgs_cons (pg_name (i := 6) sc_law_needed.nd rfl (Or.inl rfl)) (pgs_cons (pg_name (i := 7) sc_law_needed.nd rfl (Or.inl rfl)) (pgs_cons (pg_name (i := 8) sc_law_needed.nd rfl (Or.inl rfl)) pgs_nil)))))
      (pss_cons (ps_set (i := 9) sc_law_needed.nd rfl (Or.inl rfl) (pe_op op_cat (pe_slice sl_list (pv 5) po_none (po_some (pv 3))) (pe_slice sl_list (pv 5) (po_some (pe_op op_add (pv 3) pe_int)) po_none)))
      (pss_cons (ps_if (pt_not (pt_val (pe_def D_law_tells (hr.mono (by first | decide | omega)) (by rfl) (pa_cons (pv 0) (pa_cons (pe_makeI MkHistory (hr.mono (by first | decide | omega)) (by rfl) (pa_cons (pv 1) (pa_cons (pv 9) pa_nil))) (pa_cons (pv 2) (pa_cons (pe_tup (pa_cons (pv 6) (pa_cons (pv 7) pa_nil))) pa_nil))))))) (pss_one (ps_ret pe_bl)) pss_nil)
      (pss_cons (ps_set (i := 10) sc_law_needed.nd rfl (Or.inl rfl) (pe_makeI MkHistory (hr.mono (by first | decide | omega)) (by rfl) (pa_cons (pv 1) (pa_cons (pe_op op_cat (pv 9) (pe_lst (pa_cons (pe_tup (pa_cons (pv 6) (pa_cons (pv 7) (pa_cons (pe_op op_add (pv 8) (pv 4)) pa_nil)))) pa_nil))) pa_nil))))
      (pss_cons (ps_if (pw_or (pt_cmpR op_lt (pe_callB (NSet.call_lenOwn MH__len__ (hr.mono (by first | decide | omega))) (by rfl) B.m_len PySem.boot_len (pa_cons (pe_methM (pv 10) ClH MHfolded (hr.mono (by first | decide | omega)) (pa_cons (pv 2) pa_nil)) pa_nil)) (pe_callB call_len_seq (by rfl) B.m_len PySem.boot_len (pa_cons (pv 9) pa_nil)) (nomark _)) (pw_or1 (pt_cmpR op_notBl (pe_cmpR (NSet.op_eqOwn MH__eq__ (hr.mono (by first | decide | omega))) (pe_methM (pv 10) ClH MHfolded (hr.mono (by first | decide | omega)) (pa_cons (pv 2) pa_nil)) (pv 0) (nomark _)) pe_bl (nomark _)))).pt (pss_one (ps_ret pe_bl)) pss_nil)
      (pss_one (ps_ret (pe_def D_law_tells (hr.mono (by first | decide | omega)) (by rfl) (pa_cons (pv 10) (pa_cons (pv 0) (pa_cons (pv 2) (pa_cons (pe_tup (pa_cons (pv 6) (pa_cons (pv 7) pa_nil))) pa_nil))))))))))))))), ?_⟩
  obtain ⟨p, dx, c0, rfl, r⟩ := id hR
  refine ⟨.ref p, rfl, p, dx, _, rfl, r.ins, hiF_no n c0 (by decide +kernel) (by decide +kernel), .ref p, n, R, rfl, hR, fun H1 a D s1 na hD tD => ?_⟩
  have pD := told_perm r.fin tD
  have lD : D.length = R.length := pD.length_eq
  obtain ⟨_, lv, ea, el, dl⟩ := id hD
  cases ea
  have hDj : ∀ q ∈ D, joinL q.1.1 sm = q.1.1 := fun q hq => hj q (pD.mem_iff.mp hq)
  have llv : lv.length = D.length := by simpa using dl.length
  by_cases hD0 : D = []
  · subst hD0
    cases dl
    refine ⟨.ref a, rfl, false, .inl ⟨[], SqL.of el, rfl⟩, iteT ?_⟩
    exact q H1 s1
  have dpos : 0 < D.length := List.length_pos_iff.mpr hD0
  have lne : true = (!lv.isEmpty) := by
    cases lv with
    | nil => simp at llv; omega
    | cons _ _ => rfl
  refine ⟨.ref a, rfl, true, .inl ⟨_, SqL.of el, lne⟩, iteF ?_⟩
  have lpos : (0 : Int) < (lv.length : Nat) := by omega
  obtain ⟨j, ej, jlt⟩ : ∃ j : Nat, pl % ((lv.length : Nat) : Int) = (j : Int) ∧ j < lv.length := by
    have h1 := Int.emod_nonneg pl (b := ((lv.length : Nat) : Int)) (by omega)
    have h2 := Int.emod_lt_of_pos pl lpos
    exact ⟨(pl % ((lv.length : Nat) : Int)).toNat, by omega, by omega⟩
  refine ⟨.int pl, rfl, .inl ⟨pl, rfl, .ref a, rfl, a, lv, rfl, .inl (SqL.of el), _, _, rfl, rfl, lpos, ?_⟩⟩
  obtain ⟨dd, h1, h2⟩ := dl.get (i := j) (v := lv[j]) (by simp [jlt])
  obtain ⟨c, hc, rfl⟩ := ch_at h1
  obtain ⟨t, ya, yb, et, ht, hya, hyb⟩ := chD_inv h2
  have jD : j < D.length := by omega
  have hcD : D[j] = c := by
    have := List.getElem?_eq_some_iff.mp hc
    obtain ⟨_, e⟩ := this
    exact e
  have Deq : D = D.take j ++ c :: D.drop (j + 1) := by
    rw [← hcD, List.getElem_cons_drop, List.take_append_drop]
  generalize hrest : D.take j ++ D.drop (j + 1) = rest
  have hrl : rest.length + 1 = D.length := by
    rw [← hrest, List.length_append, List.length_take, List.length_drop]
    omega
  have cD : ∀ k, Tl.cnt D k = Tl.cnt rest k + if c.1 = k then c.2 else 0 := fun k => by
    rw [Deq, ← hrest, Tl.cnt_append, Tl.cnt_append]
    simp only [Tl.cnt]
    omega
  have sub : ∀ x ∈ rest, x ∈ D := fun x hx => by
    rw [← hrest] at hx
    rcases List.mem_append.mp hx with h | h
    · exact List.mem_of_mem_take h
    · exact List.mem_of_mem_drop h
  have finD := tD.fin
  have slr : rest.Sublist D := by
    rw [Deq, ← hrest]
    exact (List.Sublist.refl _).append (List.sublist_cons_self _ _)
  have finr : Tl.Fin rest := ⟨(slr.map _).nodup finD.nd, fun p hp => finD.nz p (sub p hp)⟩
  have cin : c ∈ D := List.mem_of_getElem? hc
  have c0' : Tl.cnt rest c.1 = 0 := by
    have e1 := cD c.1
    rw [if_pos rfl, Tl.cnt_in finD.nd cin] at e1
    omega
  have cR1 : ∀ k, Tl.cnt R k = Tl.cnt rest k + if c.1 = k then c.2 else 0 := fun k => by rw [← tD.cnt, cD]
  have hrj : ∀ q ∈ rest, joinL q.1.1 sm = q.1.1 := fun q hq => hDj q (sub q hq)
  have hrk : ∀ q ∈ rest, HK n q.1 := fun q hq => r.ok q (pD.mem_iff.mp (sub q hq))
  have fR : ∀ k, feltC sm R k = Tl.cnt rest k + if c.1 = k then c.2 else 0 := fun k => by rw [felt_fix hj, cR1]
  refine ⟨.ref a, rfl, .int (pl % ((lv.length : Nat) : Int)), rfl, a, lv, pl % ((lv.length : Nat) : Int), lv[j], rfl, rfl, SqL.of el, at_of (j := j) ej (by simp [jlt]), ?_⟩
  rw [et]
  refine ⟨t, _, rfl, SqT.of ht, rfl, _, _, rfl, _, _, rfl, _, _, rfl, rfl, ?_⟩
  refine ⟨.ref a, rfl, .int (pl % ((lv.length : Nat) : Int)), rfl, pl % ((lv.length : Nat) : Int), rfl, a, lv, rfl, SqL.of el, fun z1 hz1 => ?_⟩
  have sz1 := same_upd (o := .lst (cutV lv none (some (pl % ((lv.length : Nat) : Int))))) hz1
  refine ⟨.ref a, rfl, .int (pl % ((lv.length : Nat) : Int)), rfl, _, _, rfl, rfl, _, rfl, a, lv, rfl, SqL.of (sz1 _ _ el), fun z2 hz2 => ?_⟩
  have sz2 := same_upd (o := .lst (cutV lv (some (pl % ((lv.length : Nat) : Int) + 1)) none)) hz2
  have big : (4000 : Nat) ≤ sizeLine := by decide +kernel
  refine ⟨z1, z2, lv.take j, lv.drop (j + 1), rfl, rfl, ?_, ?_, ?_, fun L hL => ?_⟩
  · rw [← cut_to ej jlt]
    exact sz2 _ _ upd_same
  · rw [← cut_from ej jlt]
    exact upd_same
  · rw [List.length_take, List.length_drop]
    omega
  have sL := same_upd (o := .lst (lv.take j ++ lv.drop (j + 1))) hL
  have s2 := (sz1.trans sz2).trans sL
  have hDL := DaAll.append (da_drop (j + 1) (Da.sameAll s2 _ _ dl)) (da_take j (Da.sameAll s2 _ _ dl))
  rw [← List.map_take, ← List.map_drop, ← List.map_append, hrest] at hDL
  have s02 := s1.trans s2
  have hR2 := hR.same s02
  refine ⟨.ref p, rfl, .int (n : Nat), rfl, .ref L, rfl, fun x0 dx0 hx0 hdx0 hne => ?_⟩
  have sX := mk_sX (C := CH) hx0 hdx0 hne
  refine ⟨x0, dx0, n, L, rest, rfl, upd_same, hn1, hn4, .inl ⟨L, _, rfl, sX _ _ upd_same, Da.sameAll sX _ _ hDL⟩, by omega, hrk, fun H3 c3 T2 e3 r3 ct kt lt => ⟨rfl, ?_⟩⟩
  have s3 := mk_s hx0 hdx0 hne e3
  have hT2 : HistAt K w CH H3 (.ref x0) n T2 := ⟨x0, dx0, c3, rfl, r3⟩
  have fT2 : ∀ k, feltC sm T2 k = Tl.cnt rest k := fun k => by rw [felt_eq ct, felt_fix hrj]
  have s03 := s02.trans s3
  have hpair : ∀ {H9 : Hp}, Same H1 H9 → ∀ {H8 : Hp} {g : Addr}, Same H9 H8 → H8 g = some (.tup [ya, yb]) → Da K H8 (.ref g) (pairD c.1) := fun e9 _ _ e8 eg => pair_of eg (Mo.same hya (e9.trans e8)) (Mo.same hyb (e9.trans e8))
  refine ⟨y, rfl, ya, rfl, yb, rfl, by show 2 ≤ sizeLine; decide, fun g hg => ?_⟩
  have sg := same_upd (o := .tup [ya, yb]) hg
  have cz : c.2 ≠ 0 := finD.nz c cin
  refine ⟨.ref p, .ref x0, y, .ref g, n, sm, R, T2, rfl, (hR.same s03).same sg, hT2.same sg, (hF.same s03).same sg, hs, hn1, hn4, by omega, fun D' t' => ?_, fun H5 s5 => ⟨true, rfl, iteF ?_⟩⟩
  · refine first_one cz (fun j => ?_) (hpair (s2.trans s3) sg upd_same) t'
    show feltC sm R j - feltC sm T2 j = _
    rw [fR, fT2]
    omega
  have s35 := s3.trans (sg.trans s5)
  have s15 := s2.trans s35
  have s05 := s1.trans s15
  have hTup5 := Same.trans s15 (Same.refl H5)
  refine ⟨.int (n : Nat), rfl, .ref L, rfl, ya, rfl, yb, rfl, .int c.2, rfl, .int by', rfl, _, _, rfl, rfl, by show 3 ≤ sizeLine; decide, fun g1 hg1 => ⟨by show 1 ≤ sizeLine; decide, fun l1 hl1 => ?_⟩⟩
  have sg1 := same_upd (o := .tup [ya, yb, .int (c.2 + by')]) hg1
  have sl1 := same_upd (o := .lst [.ref g1]) hl1
  refine ⟨L, l1, lv.take j ++ lv.drop (j + 1), [.ref g1], rfl, rfl, sl1 _ _ (sg1 _ _ (s35 _ _ upd_same)), upd_same, by rw [List.length_append, List.length_take, List.length_drop]; simp only [List.length_cons, List.length_nil]; omega, fun l2 hl2 x1 dx1 hx1 hdx1 hne1 => ?_⟩
  have sl2 := same_upd (o := .lst ((lv.take j ++ lv.drop (j + 1)) ++ [.ref g1])) hl2
  have s58 := (sg1.trans sl1).trans sl2
  have sX1 := mk_sX (C := CH) hx1 hdx1 hne1
  have hc5 : Da K _ (.ref g1) (chD (c.1, c.2 + by')) := Da.same ((sl1.trans sl2).trans sX1) _ _ (chD_of (c := (c.1, c.2 + by')) (upd_same (H := H5)) (Mo.same hya (s15.trans sg1)) (Mo.same hyb (s15.trans sg1)))
  have hD2 := DaAll.append (DaAll.cons hc5 .nil) (Da.sameAll (s35.trans (s58.trans sX1)) _ _ hDL)
  refine ⟨x1, dx1, n, l2, rest ++ [(c.1, c.2 + by')], rfl, upd_same, hn1, hn4, .inl ⟨l2, _, rfl, sX1 _ _ upd_same, by rw [List.map_append]; exact hD2⟩, by rw [List.length_append]; simp only [List.length_cons, List.length_nil]; omega, fun q' hq' => ?_, fun H9 c9 T3 e9 r9 ct3 kt3 lt3 => ⟨rfl, ?_⟩⟩
  · rcases List.mem_append.mp hq' with h | h
    · exact hrk q' h
    · rw [List.mem_singleton.mp h]
      exact r.ok c (pD.mem_iff.mp cin)
  have s89 := mk_s hx1 hdx1 hne1 e9
  have s59 := s58.trans s89
  have hT3 : HistAt K w CH H9 (.ref x1) n T3 := ⟨x1, dx1, c9, rfl, r9⟩
  have l3 : T3.length ≤ 20 := by
    rw [List.length_append] at lt3
    simp only [List.length_cons, List.length_nil] at lt3
    omega
  have fT3 : ∀ k, feltC sm T3 k = Tl.cnt rest k + if c.1 = k then c.2 + by' else 0 := fun k => by
    rw [felt_eq ct3, felt_append, felt_fix hrj]
    obtain ⟨⟨m, t0⟩, z0⟩ := c
    rw [felt_one, hDj _ cin]
  have s09 := s05.trans s59
  refine ⟨.ref x1, rfl, x1, dx1, _, rfl, r9.ins, hiF_no n c9 (by decide +kernel) (by decide +kernel), y, rfl, .ref x1, y, n, [sm], T3, rfl, hT3, hF.same s09, hn1, hn4, by omega, fun H10 y4 R4 s10 hR4 cR4 lR4 => ?_⟩
  obtain ⟨p4, dx4, c4, rfl, r4⟩ := id hR4
  refine ⟨p4, dx4, _, rfl, r4.ins, .ref p4, n, R4, rfl, hR4, fun H11 s11 => ⟨R4.length, rfl, by omega, ?_⟩⟩
  have sE := ((s59.trans s10).trans s11)
  have lenR4 : rest.length ≤ R4.length := fin_len finr fun p' hp' => Tl.cnt_mem (by
    have e0 : Tl.cnt R4 p'.1 = feltC sm T3 p'.1 := cR4 _
    rw [e0, fT3, Tl.cnt_in finr.nd hp']
    by_cases e1 : c.1 = p'.1
    · rw [e1, Tl.cnt_in finr.nd hp'] at c0'
      exact absurd c0' (finr.nz p' hp')
    · rw [if_neg e1, Int.add_zero]
      exact finr.nz p' hp')
  refine ⟨.ref L, rfl, L, lv.take j ++ lv.drop (j + 1), rfl, .inl (SqL.of (sE _ _ (s35 _ _ upd_same))), _, _, rfl, rfl, _, rfl, ?_⟩
  rw [decide_eq_false (by rw [List.length_append, List.length_take, List.length_drop]; omega)]
  refine iteF ?_
  have s9E := s10.trans s11
  obtain ⟨_, dx12, c12, e12, r12⟩ := id (hT3.same s9E)
  cases e12
  refine ⟨.ref x1, rfl, x1, dx12, _, rfl, r12.ins, hiF_no n c12 (by decide +kernel) (by decide +kernel), y, rfl, .ref x1, y, n, [sm], T3, rfl, hT3.same s9E, hF.same (s09.trans s9E), hn1, hn4, by omega, fun H12 y5 R5 s12 hR5 cR5 lR5 => ?_⟩
  obtain ⟨p5, dx5, c5, rfl, r5⟩ := id hR5
  have hR12 := hR.same ((s09.trans s9E).trans s12)
  obtain ⟨_, dx13, c13, e13, r13⟩ := id hR12
  cases e13
  refine ⟨.ref p, rfl, p5, dx5, _, p, dx13, _, rfl, rfl, r5.ins, r13.ins, .ref p5, .ref p, n, R5, R, rfl, hR5, hR12, fun H13 b s13 hb => ⟨b, rfl, ?_⟩⟩
  obtain rfl : b = false := by
    cases b with
    | false => rfl
    | true =>
      have e1 := Tl.cnt_perm (hb.mp rfl) c.1
      have e2 : Tl.cnt R5 c.1 = feltC sm T3 c.1 := cR5 _
      rw [e2, fT3, cR1, if_pos rfl, if_pos rfl] at e1
      omega
  refine ⟨false, false, rfl, rfl, false, rfl, iteF ?_⟩
  have s9F := (s9E.trans s12).trans s13
  refine ⟨.ref x1, rfl, .ref p, rfl, y, rfl, ya, rfl, yb, rfl, by show 2 ≤ sizeLine; decide, fun g2 hg2 => ?_⟩
  have sg2 := same_upd (o := .tup [ya, yb]) hg2
  refine ⟨.ref x1, .ref p, y, .ref g2, n, sm, T3, R, rfl, (hT3.same s9F).same sg2, (hR.same (s09.trans s9F)).same sg2, (hF.same (s09.trans s9F)).same sg2, hs, hn1, hn4, by omega, fun D' t' => ?_, fun H15 s15' => q H15 (((s09.trans s9F).trans sg2).trans s15')⟩
  refine first_one hby (fun j => ?_) (hpair (s15.trans (s59.trans s9F)) sg2 upd_same) t'
  show feltC sm T3 j - feltC sm R j = _
  rw [fR, fT3]
  split <;> omega
end
end K11

namespace K11
open PySem PySem.Spec PyProof.Rows L2 NSet
theorem join_abs : ∀ {m s t : List Int}, m.length = s.length → s.length = t.length → leB s t = true → joinL (joinL m s) t = joinL m t
  | [], [], [], _, _, _ => rfl
  | [], _ :: _, _, h, _, _ => nomatch h
  | _ :: _, [], _, h, _, _ => nomatch h
  | [], [], _ :: _, _, h, _ => nomatch h
  | _ :: _, _ :: _, [], _, h, _ => nomatch h
  | a :: m, b :: s, c :: t, h1, h2, h => by
    rw [leB_cs, Bool.and_eq_true, decide_eq_true_eq] at h
    show (if c > (if b > a then b else a) then c else (if b > a then b else a)) :: joinL (joinL m s) t = (if c > a then c else a) :: joinL m t
    rw [join_abs (by simpa using h1) (by simpa using h2) h.2]
    congr 1
    split <;> split <;> omega
theorem felt_abs {s t : List Int} {T S : List (PK × Int)} (hT : ∀ q ∈ T, q.1.1.length = s.length) (hst : s.length = t.length) (hb : leB s t = true) (h : ∀ k, Tl.cnt S k = feltC s T k) (k : PK) : feltC t S k = feltC t T k := by
  rw [felt_eq (M := mapT (fun m => joinL m s) T) h k]
  unfold feltC
  congr 1
  unfold mapT
  rw [List.map_map]
  refine List.map_congr_left fun c h => ?_
  show ((joinL (joinL c.1.1 s) t, c.1.2), c.2) = _
  rw [join_abs (hT c h) hst hb]
section
variable {P : Program} {w : World} {K : PySem.W.Frag} {mg : Str → Option Value} {base : Heap} {C CH : Addr}
def spSteps (K : PySem.W.Frag) (w : World) (C CH : Addr) : Sp := fun vs H Q _ => ∃ (v g : V) (n : Nat) (a : Addr) (T N : List (PK × Int)) (ms : List (List Int)), vs = [v, .int (n : Nat), .ref a, g] ∧ HistAt K w CH H v n T ∧ TalAt pairK K w H a N ∧ (∀ k, Tl.cnt T k = Tl.cnt N k) ∧ (∀ q ∈ N, HK n q.1) ∧ MoL K H g ms ∧ (∀ m ∈ ms, Ok n m) ∧ ms.Pairwise (fun s t => leB s t = true) ∧ 1 ≤ n ∧ n ≤ 4 ∧ T.length ≤ 16 ∧ ∀ H', Same H H' → Q (.bl true) H'
theorem d_law_steps (B : Bt mg) (X : TxH K CH) (ClH : Cls K CH) (T : Top K mg "_law_steps" s_law_steps ["left", "axes", "net", "starts"]) (MkFront : MakeD P w K mg base C "Front" 3 ["self", "axes", "moments"] (spInit K C))
    (MHfolded : MethD P w K mg base CH "folded" 7 ["self", "front"] (spFolded K w C CH)) (MHseen : MethD P w K mg base CH "seen" 7 ["self", "front"] (spSeen K w C CH)) (MH__eq__ : MethD P w K mg base CH "__eq__" 1 ["self", "other"] (spHEq K w CH)) (MH__len__ : MethD P w K mg base CH "__len__" 1 ["self"] (spHLen K w CH))
    (D_law_joined : Def P w K mg base "_law_joined" 2 ["start", "net"] (spJoined K w)) (D_law_shows : Def P w K mg base "_law_shows" 4 ["history", "axes", "net"] (spShows K w CH)) : Def P w K mg base "_law_steps" 8 ["left", "axes", "net", "starts"] (spSteps K w C CH) := by
  refine mk_def T sc_law_steps (by rintro _ _ _ _ ⟨_, _, _, _, _, _, _, rfl, _⟩; rfl) fun f cdv A outer s H vs Q E hr h => ?_
  obtain ⟨v, g, n, a, T1, N, ms, rfl, hT, tN, cTN, kN, ⟨b, lv, rfl, hb, hg⟩, okm, chn, hn1, hn4, lT, q⟩ := h
  refine ⟨_, (pss_cons (ps_set (i := 4) sc_law_steps.nd rfl (Or.inl rfl) (pv 0))
      (pss_cons (ps_set (i := 5) sc_law_steps.nd rfl (Or.inl rfl) (pv 0))
      (pss_cons (ps_set (i := 6) sc_law_steps.nd rfl (Or.inl rfl) (pe_callB (NSet.call_lenOwn MH__len__ (hr.mono (by first | decide | omega))) (by rfl) B.m_len PySem.boot_len (pa_cons (pv 0) pa_nil)))
      (pss_cons (ps_for PassesOwn.never rfl (pi_list (pv 3)) (pg_name (i := 7) sc_law_steps.nd rfl (Or.inl rfl)) (pss_cons (ps_set (i := 8) sc_law_steps.nd rfl (Or.inl rfl) (pe_makeM MkFront (hr.mono (by first | decide | omega)) (by rfl) (pa_cons (pv 1) (pa_cons (pe_lst (pa_cons (pv 7) pa_nil)) pa_nil))))
      (pss_cons (ps_set (i := 4) sc_law_steps.nd rfl (Or.inl rfl) (pe_methM (pv 4) ClH MHfolded (hr.mono (by first | decide | omega)) (pa_cons (pv 8) pa_nil)))
      (pss_cons (ps_set (i := 5) sc_law_steps.nd rfl (Or.inl rfl) (pe_methM (pv 5) ClH MHseen (hr.mono (by first | decide | omega)) (pa_cons (pv 8) pa_nil)))
      (pss_cons (ps_set (i := 9) sc_law_steps.nd rfl (Or.inl rfl) (pe_def D_law_joined (hr.mono (by first | decide | omega)) (by rfl) (pa_cons (pv 7) (pa_cons (pv 2) pa_nil))))
      (pss_cons (ps_if (pw_or (pt_not (pt_val (pe_def D_law_shows (hr.mono (by first | decide | omega)) (by rfl) (pa_cons (pv 4) (pa_cons (pv 1) (pa_cons (pv 9) pa_nil)))))) (pw_or1 (pt_not (pt_val (pe_def D_law_shows (hr.mono (by first | decide | omega)) (by rfl) (pa_cons (pv 5) (pa_cons (pv 1) (pa_cons (pv 9) pa_nil)))))))).pt (pss_one (ps_ret pe_bl)) pss_nil)
      (pss_cons (ps_if (pw_or (pt_cmpR op_notBl (pe_cmpR (NSet.op_eqOwn MH__eq__ (hr.mono (by first | decide | omega))) (pe_methM (pv 0) ClH MHfolded (hr.mono (by first | decide | omega)) (pa_cons (pv 8) pa_nil)) (pv 4) (nomark _)) pe_bl (nomark _)) (pw_or1 (pt_cmpR op_notBl (pe_cmpR (NSet.op_eqOwn MH__eq__ (hr.mono (by first | decide | omega))) (pe_methM (pv 0) ClH MHseen (hr.mono (by first | decide | omega)) (pa_cons (pv 8) pa_nil)) (pv 4) (nomark _)) pe_bl (nomark _)))).pt (pss_one (ps_ret pe_bl)) pss_nil)
      (pss_cons (ps_if (pt_cmpR op_gt (pe_callB (NSet.call_lenOwn MH__len__ (hr.mono (by first | decide | omega))) (by rfl) B.m_len PySem.boot_len (pa_cons (pv 4) pa_nil)) (pv 6) (nomark _)) (pss_one (ps_ret pe_bl)) pss_nil)
      (pss_one (ps_set (i := 6) sc_law_steps.nd rfl (Or.inl rfl) (pe_callB (NSet.call_lenOwn MH__len__ (hr.mono (by first | decide | omega))) (by rfl) B.m_len PySem.boot_len (pa_cons (pv 4) pa_nil))))))))))))
      (pss_one (ps_ret pe_bl)))))), ?_⟩
  obtain ⟨p, dx, c0, rfl, r⟩ := id hT
  refine ⟨.ref p, rfl, .ref p, rfl, .ref p, rfl, p, dx, _, rfl, r.ins, .ref p, n, T1, rfl, hT, fun H1 s1 => ⟨T1.length, rfl, by omega, ?_⟩⟩
  refine ⟨.ref b, rfl, b, rfl, ⟨_, SqL.of (s1 _ _ hb)⟩, ?_⟩
  have gl : lv.length = ms.length := by simpa using hg.length
  refine for_list (xs := lv) (fun i σ H' => ∃ (ps pv : Addr) (S W : List (PK × Int)) (y7 y8 y9 : Option V), σ = [some (.ref p), some (.int (n : Nat)), some (.ref a), some (.ref b), some (.ref ps), some (.ref pv), some (.int (S.length : Nat)), y7, y8, y9] ∧ Same H H' ∧ HistAt K w CH H' (.ref ps) n S ∧ HistAt K w CH H' (.ref pv) n W ∧ S.length ≤ 16 ∧ W.length ≤ 16 ∧ ∀ t ∈ ms.drop i, ∀ k, feltC t S k = feltC t T1 k ∧ feltC t W k = feltC t T1 k)
    ⟨p, p, T1, T1, none, none, none, rfl, s1, hT.same s1, hT.same s1, lT, lT, fun t _ k => ⟨rfl, rfl⟩⟩ (fun i σ H' _ pv' => ?_) (fun i x σ H' hxi pv' => ?_) (fun σ H' pv' => ?_)
  · obtain ⟨_, _, _, _, _, _, _, rfl, e, _⟩ := pv'
    exact SqL.of (e _ _ hb)
  · obtain ⟨ps, pv, S, W, y7, y8, y9, rfl, e, hS, hW, lS, lW, inv⟩ := pv'
    obtain ⟨d0, hx1, hx2⟩ := hg.get hxi
    obtain ⟨sm, hsm, rfl⟩ := mo_at hx1
    have hx := Da.same e _ _ hx2
    have oks := okm sm (List.mem_of_getElem? hsm)
    obtain ⟨ilt, esm⟩ := List.getElem?_eq_some_iff.mp hsm
    have edrop : ms.drop i = sm :: ms.drop (i + 1) := by rw [List.drop_eq_getElem_cons ilt, esm]
    have later : ∀ t ∈ ms.drop (i + 1), leB sm t = true := by
      have := chn.drop (i := i)
      rw [edrop] at this
      exact (List.pairwise_cons.mp this).1
    have invs := inv sm (by rw [edrop]; exact List.mem_cons_self)
    refine ⟨.int (n : Nat), rfl, x, rfl, by show 1 ≤ sizeLine; decide, fun l hl x0 dx0 hx0 hdx0 hne => ?_⟩
    have sl := same_upd (o := .lst [x]) hl
    have sX := mk_sX (C := C) hx0 hdx0 hne
    refine ⟨x0, dx0, n, .ref l, [sm], rfl, upd_same, hn1, hn4, ⟨l, [x], rfl, sX _ _ upd_same, .cons (Da.same (sl.trans sX) _ _ hx) .nil⟩, fun m hm => by rw [List.mem_singleton.mp hm]; exact oks, by show 1 ≤ 60; decide, fun H2 L kp fa _ il => ⟨rfl, ?_⟩⟩
    rw [isL_one il] at fa
    have s2 := sl.trans (mk_s hx0 hdx0 hne kp)
    have e2 := e.trans s2
    obtain ⟨_, dxs, cs1, es, rs⟩ := id (hS.same s2)
    cases es
    refine ⟨.ref ps, rfl, ps, dxs, _, rfl, rs.ins, hiF_no n cs1 (by decide +kernel) (by decide +kernel), .ref x0, rfl, .ref ps, .ref x0, n, [sm], S, rfl, hS.same s2, fa, hn1, hn4, by omega, fun H3 y3 S' s3 hS' cS' lS' => ?_⟩
    obtain ⟨_, dxv, cv1, ev, rv⟩ := id ((hW.same s2).same s3)
    cases ev
    refine ⟨.ref pv, rfl, pv, dxv, _, rfl, rv.ins, hiF_no n cv1 (by decide +kernel) (by decide +kernel), .ref x0, rfl, .ref pv, .ref x0, n, sm, W, rfl, (hW.same s2).same s3, fa.same s3, hn1, hn4, by omega, fun H4 y4 W' s4 hW' cW' lW' => ?_⟩
    obtain ⟨p3, dx3, c3, rfl, r3⟩ := id hS'
    obtain ⟨p4, dx4, c4, rfl, r4⟩ := id hW'
    have fS' : ∀ k, Tl.cnt S' k = feltC sm T1 k := fun k => (cS' k).trans (invs k).1
    have fW' : ∀ k, Tl.cnt W' k = feltC sm T1 k := fun k => (cW' k).trans (invs k).2
    have e4 := (e2.trans s3).trans s4
    refine ⟨x, rfl, .ref a, rfl, x, a, n, sm, N, rfl, Mo.same hx ((s2.trans s3).trans s4), oks, by omega, tN.same e4, kN, fun H5 b5 M s5 nb5 tM cM lM kM => ?_⟩
    have cdue : ∀ k, Tl.cnt M k = feltC sm T1 k := fun k => by rw [cM, felt_eq cTN]
    refine ⟨.ref p3, rfl, .int (n : Nat), rfl, .ref b5, rfl, .ref p3, n, b5, S', M, rfl, (hS'.same s4).same s5, tM, fun k => by rw [fS', cdue], hn4, by omega, fun H6 s6 => ⟨true, rfl, iteF ?_⟩⟩
    refine ⟨.ref p4, rfl, .int (n : Nat), rfl, .ref b5, rfl, .ref p4, n, b5, W', M, rfl, (hW'.same s5).same s6, tM.same s6, fun k => by rw [fW', cdue], hn4, by omega, fun H7 s7 => ⟨true, rfl, iteF ?_⟩⟩
    have s47 := (s5.trans s6).trans s7
    have e7 := e4.trans s47
    have hS7 := (hS'.same s4).same s47
    have fa7 := ((fa.same s3).same s4).same s47
    obtain ⟨_, dx7, c7, e7', r7⟩ := id (hT.same e7)
    cases e7'
    refine ⟨.ref p, rfl, p, dx7, _, rfl, r7.ins, hiF_no n c7 (by decide +kernel) (by decide +kernel), .ref x0, rfl, .ref p, .ref x0, n, [sm], T1, rfl, hT.same e7, fa7, hn1, hn4, by omega, fun H8 y8 R8 s8 hR8 cR8 lR8 => ?_⟩
    obtain ⟨p8, dx8, c8, rfl, r8⟩ := id hR8
    obtain ⟨_, dx9, c9, e9', r9⟩ := id (hS7.same s8)
    cases e9'
    refine ⟨.ref p3, rfl, p8, dx8, _, p3, dx9, _, rfl, rfl, r8.ins, r9.ins, .ref p8, .ref p3, n, R8, S', rfl, hR8, hS7.same s8, fun H9 b9 s9 hb9 => ⟨b9, rfl, ?_⟩⟩
    obtain rfl : b9 = true := hb9.mpr (r8.fin.perm r9.fin fun k => by rw [cR8, fS']; rfl)
    refine ⟨true, true, rfl, rfl, false, rfl, iteF ?_⟩
    have s79 := s8.trans s9
    obtain ⟨_, dx10, c10, e10', r10⟩ := id (hT.same (e7.trans s79))
    cases e10'
    refine ⟨.ref p, rfl, p, dx10, _, rfl, r10.ins, hiF_no n c10 (by decide +kernel) (by decide +kernel), .ref x0, rfl, .ref p, .ref x0, n, sm, T1, rfl, hT.same (e7.trans s79), fa7.same s79, hn1, hn4, by omega, fun H11 y11 R11 s11 hR11 cR11 lR11 => ?_⟩
    obtain ⟨p11, dx11, c11, rfl, r11⟩ := id hR11
    have hS11 := (hS7.same s79).same s11
    obtain ⟨_, dx12, c12, e12', r12⟩ := id hS11
    cases e12'
    refine ⟨.ref p3, rfl, p11, dx11, _, p3, dx12, _, rfl, rfl, r11.ins, r12.ins, .ref p11, .ref p3, n, R11, S', rfl, hR11, hS11, fun H12 b12 s12 hb12 => ⟨b12, rfl, ?_⟩⟩
    obtain rfl : b12 = true := hb12.mpr (r11.fin.perm r12.fin fun k => by rw [cR11, fS']; rfl)
    refine ⟨true, true, rfl, rfl, false, rfl, iteF ?_⟩
    have hS12 := hS11.same s12
    obtain ⟨_, dx13, c13, e13', r13⟩ := id hS12
    cases e13'
    refine ⟨.ref p3, rfl, p3, dx13, _, rfl, r13.ins, .ref p3, n, S', rfl, hS12, fun H13 s13 => ⟨S'.length, rfl, by omega, .int (S.length : Nat), rfl, _, _, rfl, rfl, _, rfl, ?_⟩⟩
    rw [decide_eq_false (by omega)]
    refine iteF ?_
    have hS13 := hS12.same s13
    obtain ⟨_, dx14, c14, e14', r14⟩ := id hS13
    cases e14'
    refine ⟨.ref p3, rfl, p3, dx14, _, rfl, r14.ins, .ref p3, n, S', rfl, hS13, fun H14 s14 => ⟨S'.length, rfl, by omega, ?_⟩⟩
    have s7E := (((s79.trans s11).trans s12).trans s13).trans s14
    refine ⟨p3, p4, S', W', _, _, _, rfl, e7.trans s7E, hS13.same s14, (hW'.same s47).same s7E, by omega, by omega, fun t ht k => ?_⟩
    have lt := later t ht
    have okt := okm t (List.mem_of_mem_drop ht)
    have hTl : ∀ q ∈ T1, q.1.1.length = sm.length := fun q hq => by rw [(r.ok q hq).1.1, oks.1]
    exact ⟨felt_abs hTl (by rw [oks.1, okt.1]) lt fS' k, felt_abs hTl (by rw [oks.1, okt.1]) lt fW' k⟩
  · obtain ⟨_, _, _, _, _, _, _, rfl, e, _⟩ := pv'
    exact q H' e
end
end K11

namespace K11
open PySem PySem.Spec PyProof.Rows L2 NSet
theorem isL_low {sm : List Int} {bs L : List (List Int)} (h : IsL (bs ++ [sm]) L) (hb : ∀ b ∈ bs, leB sm b = true) (hl : ∀ b ∈ bs, b.length = sm.length) : L = [sm] := by
  refine h.uniq ⟨List.pairwise_singleton _ _, fun x => ?_⟩
  rw [List.mem_singleton, List.mem_append, List.mem_singleton]
  constructor
  · rintro rfl
    refine ⟨.inr rfl, fun y hy e => ?_⟩
    rcases List.mem_append.mp hy with h | h
    · exact ((leB_iff (hl y h)).mp e).anti ((leB_iff (hl y h).symm).mp (hb y h))
    · exact List.mem_singleton.mp h
  · rintro ⟨h1, h2⟩
    rcases h1 with h1 | h1
    · exact (h2 sm (List.mem_append_right _ List.mem_cons_self) (hb x h1)).symm
    · exact h1
theorem join_zero : ∀ {m : List Int}, (∀ c ∈ m, 0 ≤ c) → joinL m (List.replicate m.length 0) = m
  | [], _ => rfl
  | a :: m, h => by
    show (if (0 : Int) > a then 0 else a) :: joinL m (List.replicate m.length 0) = a :: m
    rw [join_zero fun c hc => h c (List.mem_cons_of_mem _ hc), if_neg (by have := h a List.mem_cons_self; omega)]
theorem ch_sameB {K : PySem.W.Frag} {H H' : Hp} {o p : Addr} {cs : List (PK × Int)} (h : ChL K H (.ref o) cs) (n : o ≠ p) (e : SameB p H H') (pt : PotAt H p) : ChL K H' (.ref o) cs := by
  obtain ⟨_, lv, ea, h1, h2⟩ := h
  cases ea
  exact ⟨o, lv, rfl, e _ _ n h1, Da.stAll (SameB.potst e pt) _ _ (imm_chs cs) h2⟩
theorem ch_app {K : PySem.W.Frag} {H : Hp} {o : Addr} {v : V} {c : PK × Int} {cs : List (PK × Int)} {lv : List V} (h1 : H o = some (.lst lv)) (h2 : DaAll K H lv (cs.map chD)) (hv : Da K H v (chD c)) : ChL K (L2.upd H o (.lst (lv ++ [v]))) (.ref o) (cs ++ [c]) := by
  have st : ST K H (L2.upd H o (.lst (lv ++ [v]))) := st_upd h1 True.intro
  refine ⟨o, _, rfl, upd_same, ?_⟩
  rw [List.map_append]
  exact DaAll.snoc (Da.st st _ _ (imm_chD c) hv) (Da.stAll st _ _ (imm_chs cs) h2)
theorem ch_keep {K : PySem.W.Frag} {H : Hp} {o o' : Addr} {cs : List (PK × Int)} {lv l : List V} (h : ChL K H (.ref o') cs) (h1 : H o = some (.lst lv)) (n : o' ≠ o) : ChL K (L2.upd H o (.lst l)) (.ref o') cs := by
  have st : ST K H (L2.upd H o (.lst l)) := st_upd h1 True.intro
  obtain ⟨_, lv', ea, g1, g2⟩ := h
  cases ea
  exact ⟨o', lv', rfl, by rw [upd_ne n]; exact g1, Da.stAll st _ _ (imm_chs cs) g2⟩
theorem cut_take (lv : List V) {i : Int} {j : Nat} (h : i = (j : Int)) : cutV lv none (some i) = lv.take j := by
  subst h
  unfold cutV
  rw [HT.sIx_none, HT.sIx_nat, List.drop_zero, Nat.sub_zero]
  rcases Nat.le_total j lv.length with h | h
  · rw [Nat.min_eq_left h]
  · rw [Nat.min_eq_right h, List.take_of_length_le h, List.take_of_length_le (Nat.le_refl _)]
theorem leB_trans {x y z : List Int} (h1 : x.length = y.length) (h2 : y.length = z.length) (a : leB x y = true) (b : leB y z = true) : leB x z = true := (leB_iff (h1.trans h2)).mpr (((leB_iff h1).mp a).trans ((leB_iff h2).mp b))
theorem low {H0 H H' : Hp} {p : Addr} (e : Same H0 H) (s : SameB p H H') (h : H0 p = none) : Same H0 H' := fun a o ha => s a o (ne_of_none ha h) (e a o ha)
section
variable {P : Program} {w : World} {K : PySem.W.Frag} {mg : Str → Option Value} {base : Heap} {C CH : Addr}
def spLaw (K : PySem.W.Frag) : Sp := fun vs H Q _ => ∃ (a : Addr) (ns : List Int), vs = [.ref a] ∧ SqL K H a (ns.map V.int) ∧ ns.length ≤ 63 ∧ ∀ H', Q (.bl true) H'
theorem d_law (B : Bt mg) (mC : mg "Front" = some (.ref C)) (ClH : Cls K CH) (X : TxH K CH) (T : Top K mg "law" slaw ["script"]) (D_law_box : Def P w K mg base "_law_box" 1 ["cell"] spBox) (D_law_cell : Def P w K mg base "_law_cell" 1 ["script", "k"] (spCell K)) (D_law_draw : Def P w K mg base "_law_draw" 1 ["box", "many"] (spDraw K)) (D_law_scale : Def P w K mg base "_law_scale" 2 ["box", "axes"] (spScale K)) (D_law_pool : Def P w K mg base "_law_pool" 4 ["box"] (spPool K))
    (D_law_changes : Def P w K mg base "_law_changes" 6 ["box", "pool", "scale", "axes", "most"] (spLChanges K)) (D_law_change : Def P w K mg base "_law_change" 5 ["box", "pool", "scale", "axes"] (spChange K)) (D_law_spot : Def P w K mg base "_law_spot" 2 ["box", "scale", "axes"] (spSpot K)) (D_law_join : Def P w K mg base "_law_join" 1 ["one", "two"] (spM K joinL)) (MkFront : MakeD P w K mg base C "Front" 3 ["self", "axes", "moments"] (spInit K C)) (D_law_grid : Def P w K mg base "_law_grid" 1 ["scale", "axes"] (spGrid K)) (MkHistory : MakeI P w K mg base CH "History" 4 ["self", "axes", "changes"] (spHInit K w CH))
    (MHfolded : MethD P w K mg base CH "folded" 7 ["self", "front"] (spFolded K w C CH)) (MHseen : MethD P w K mg base CH "seen" 7 ["self", "front"] (spSeen K w C CH)) (MH__eq__ : MethD P w K mg base CH "__eq__" 1 ["self", "other"] (spHEq K w CH)) (MH__len__ : MethD P w K mg base CH "__len__" 1 ["self"] (spHLen K w CH)) (D_law_joined : Def P w K mg base "_law_joined" 2 ["start", "net"] (spJoined K w)) (D_law_net : Def P w K mg base "_law_net" 1 ["change_list"] (spNet K w)) (D_law_shows : Def P w K mg base "_law_shows" 4 ["history", "axes", "net"] (spShows K w CH))
    (D_law_hidden : Def P w K mg base "_law_hidden" 4 ["box", "change_list", "start", "scale", "axes"] (spHid K)) (D_law_fewest : Def P w K mg base "_law_fewest" 10 ["left", "axes", "one", "two", "start", "front", "grid"] (spFewest K w C CH)) (D_law_needed : Def P w K mg base "_law_needed" 10 ["short", "axes", "front", "place", "by"] (spNeeded K w C CH)) (D_law_steps : Def P w K mg base "_law_steps" 8 ["left", "axes", "net", "starts"] (spSteps K w C CH)) (CMeverything : CMethD P w K mg base C "everything" 5 (spEverything K C)) :
    Def P w K mg base "law" 11 ["script"] (spLaw K) := by
  refine mk_def T sclaw (by rintro _ _ _ _ ⟨_, _, rfl, _⟩; rfl) fun f cdv A outer s H vs Q E hr h => ?_
  obtain ⟨a, ns, rfl, ha, hns, q⟩ := h
  refine ⟨_, (pss_cons (ps_set (i := 1) sclaw.nd rfl (Or.inr rfl) (pe_def D_law_box (hr.mono (by first | decide | omega)) (by rfl) (pa_cons (pe_def D_law_cell (hr.mono (by first | decide | omega)) (by rfl) (pa_cons (pv 0) (pa_cons pe_int pa_nil))) pa_nil)))
      (pss_cons (ps_set (i := 2) sclaw.nd rfl (Or.inr rfl) (pe_op op_add pe_int (pe_def D_law_draw (hr.mono (by first | decide | omega)) (by rfl) (pa_cons (pv 1) (pa_cons pe_int pa_nil)))))
      (pss_cons (ps_set (i := 3) sclaw.nd rfl (Or.inr rfl) (pe_def D_law_scale (hr.mono (by first | decide | omega)) (by rfl) (pa_cons (pv 1) (pa_cons (pv 2) pa_nil))))
      (pss_cons (ps_set (i := 4) sclaw.nd rfl (Or.inl rfl) (pe_def D_law_pool (hr.mono (by first | decide | omega)) (by rfl) (pa_cons (pv 1) pa_nil)))
      (pss_cons (ps_set (i := 5) sclaw.nd rfl (Or.inl rfl) (pe_def D_law_changes (hr.mono (by first | decide | omega)) (by rfl) (pa_cons (pe_def D_law_box (hr.mono (by first | decide | omega)) (by rfl) (pa_cons (pe_def D_law_cell (hr.mono (by first | decide | omega)) (by rfl) (pa_cons (pv 0) (pa_cons pe_int pa_nil))) pa_nil)) (pa_cons (pv 4) (pa_cons (pv 3) (pa_cons (pv 2) (pa_cons pe_int pa_nil)))))))
      (pss_cons (ps_set (i := 6) sclaw.nd rfl (Or.inl rfl) (pe_def D_law_changes (hr.mono (by first | decide | omega)) (by rfl) (pa_cons (pe_def D_law_box (hr.mono (by first | decide | omega)) (by rfl) (pa_cons (pe_def D_law_cell (hr.mono (by first | decide | omega)) (by rfl) (pa_cons (pv 0) (pa_cons pe_int pa_nil))) pa_nil)) (pa_cons (pv 4) (pa_cons (pv 3) (pa_cons (pv 2) (pa_cons pe_int pa_nil)))))))
      (pss_cons (ps_for PassesOwn.never rfl (pi_range2 (by rfl) B.m_range (pa_cons pe_int (pa_cons (pe_callB (call_min2 rfl) (by rfl) B.m_min (by decide +kernel) (pa_cons pe_int (pa_cons (pe_callB call_len_seq (by rfl) B.m_len PySem.boot_len (pa_cons (pv 0) pa_nil)) pa_nil))) pa_nil))) (pg_name (i := 7) sclaw.nd rfl (Or.inl rfl)) (pss_cons (ps_set (i := 8) sclaw.nd rfl (Or.inl rfl) (pe_def D_law_change (hr.mono (by first | decide | omega)) (by rfl) (pa_cons (pe_def D_law_box (hr.mono (by first | decide | omega)) (by rfl) (pa_cons (pe_ix ix_list (pv 0) (pv 7) (fun _ _ => rfl)) pa_nil)) (pa_cons (pv 4) (pa_cons (pv 3) (pa_cons (pv 2) pa_nil))))))
      (pss_one (ps_if (pt_cmpR op_eq (pe_op op_mod (pv 7) pe_int) pe_int (nomark _)) (pss_one (ps_expr (pe_bm PySem.F.plainAttrs_list PySem.F.slot_list_append PySem.F.type_list_append mt_append (pv 5) (pa_cons (pv 8) pa_nil)))) (pss_one (ps_expr (pe_bm PySem.F.plainAttrs_list PySem.F.slot_list_append PySem.F.type_list_append mt_append (pv 6) (pa_cons (pv 8) pa_nil))))))))
      (pss_cons (ps_set (i := 5) sclaw.nd rfl (Or.inl rfl) (pe_slice sl_list (pv 5) po_none (po_some pe_int)))
      (pss_cons (ps_set (i := 1) sclaw.nd rfl (Or.inr rfl) (pe_def D_law_box (hr.mono (by first | decide | omega)) (by rfl) (pa_cons (pe_def D_law_cell (hr.mono (by first | decide | omega)) (by rfl) (pa_cons (pv 0) (pa_cons pe_int pa_nil))) pa_nil)))
      (pss_cons (ps_set (i := 9) sclaw.nd rfl (Or.inr rfl) (pe_def D_law_spot (hr.mono (by first | decide | omega)) (by rfl) (pa_cons (pv 1) (pa_cons (pv 3) (pa_cons (pv 2) pa_nil)))))
      (Evl.pss_cut (ps_if (pt_cmpR op_eq (pe_def D_law_draw (hr.mono (by first | decide | omega)) (by rfl) (pa_cons (pv 1) (pa_cons pe_int pa_nil))) pe_int (nomark _)) (pss_one (ps_set (i := 9) sclaw.nd rfl (Or.inr rfl) (pe_callTy call_tuple_of (by rfl) B.m_tuple (by decide +kernel) (pa_cons (pe_lc (own := [("k", 7)]) (g := (gName 7)) (tt := tYes) (te := (tOp (rIxL K) (tVar 3) (tC (.int 0)))) rfl sclaw.nd (pi_range1 (by rfl) B.m_range (pa_cons (pv 2) pa_nil)) (blkOk_by (own := [("k", 7)]) (N := Nlaw) (sc := defScope slaw) (by decide +kernel)) (fun _ _ _ _ _ => (pg_name (i := 7) sclaw.nd rfl (Or.inl rfl))) (fun _ _ _ _ _ => pts_nil) (fun _ _ _ _ _ => (pe_ix ix_list (pv 3) pe_int (fun _ _ => rfl)))) pa_nil)))) pss_nil)
      (pss_cons (ps_setLc (i := 10) (own := [("k", 7)]) (g := (gName 7)) (tt := tYes) (te := (tCall (spM K joinL) [] E0 (tCons (tVar 9) (tCons (tCall (spSpot K) [] E0 (tCons (tVar 1) (tCons (tVar 3) (tCons (tVar 2) tNil)))) tNil)))) rfl sclaw.nd rfl rfl (sw_true rfl rfl rfl (by decide +kernel)) (pi_range1 (by rfl) B.m_range (pa_cons (pe_def D_law_draw (hr.mono (by first | decide | omega)) (by rfl) (pa_cons (pv 1) (pa_cons pe_int pa_nil))) pa_nil)) (blkOk_by (own := [("k", 7)]) (N := Nlaw) (sc := defScope slaw) (by decide +kernel)) (fun _ _ _ _ _ => (pg_name (i := 7) sclaw.nd rfl (Or.inl rfl))) (fun _ _ _ _ _ => pts_nil) (fun _ _ _ _ _ => (pe_def D_law_join (hr.mono (by first | decide | omega)) (by rfl) (pa_cons (pv 9) (pa_cons (pe_def D_law_spot (hr.mono (by first | decide | omega)) (by rfl) (pa_cons (pv 1) (pa_cons (pv 3) (pa_cons (pv 2) pa_nil)))) pa_nil)))))
      (pss_cons (ps_set (i := 11) sclaw.nd rfl (Or.inl rfl) (pe_def D_law_join (hr.mono (by first | decide | omega)) (by rfl) (pa_cons (pv 9) (pa_cons (pe_def D_law_spot (hr.mono (by first | decide | omega)) (by rfl) (pa_cons (pv 1) (pa_cons (pv 3) (pa_cons (pv 2) pa_nil)))) pa_nil))))
      (pss_cons (ps_set (i := 12) sclaw.nd rfl (Or.inl rfl) (pe_def D_law_join (hr.mono (by first | decide | omega)) (by rfl) (pa_cons (pv 11) (pa_cons (pe_def D_law_spot (hr.mono (by first | decide | omega)) (by rfl) (pa_cons (pv 1) (pa_cons (pv 3) (pa_cons (pv 2) pa_nil)))) pa_nil))))
      (pss_cons (ps_set (i := 13) sclaw.nd rfl (Or.inl rfl) (pe_makeM MkFront (hr.mono (by first | decide | omega)) (by rfl) (pa_cons (pv 2) (pa_cons (pe_op op_cat (pv 10) (pe_lst (pa_cons (pv 9) pa_nil))) pa_nil))))
      (pss_cons (ps_set (i := 14) sclaw.nd rfl (Or.inl rfl) (pe_def D_law_grid (hr.mono (by first | decide | omega)) (by rfl) (pa_cons (pv 3) (pa_cons (pv 2) pa_nil))))
      (pss_cons (ps_set (i := 15) sclaw.nd rfl (Or.inl rfl) (pe_makeI MkHistory (hr.mono (by first | decide | omega)) (by rfl) (pa_cons (pv 2) (pa_cons (pe_callTy call_list_of (by rfl) B.m_list (by decide +kernel) (pa_cons (pv 5) pa_nil)) pa_nil))))
      (pss_cons (ps_set (i := 16) sclaw.nd rfl (Or.inl rfl) (pe_methM (pv 15) ClH MHfolded (hr.mono (by first | decide | omega)) (pa_cons (pv 13) pa_nil)))
      (pss_cons (ps_if (pw_or (pt_not (pt_val (pe_def D_law_shows (hr.mono (by first | decide | omega)) (by rfl) (pa_cons (pv 16) (pa_cons (pv 2) (pa_cons (pe_def D_law_joined (hr.mono (by first | decide | omega)) (by rfl) (pa_cons (pv 9) (pa_cons (pe_def D_law_net (hr.mono (by first | decide | omega)) (by rfl) (pa_cons (pv 5) pa_nil)) pa_nil))) pa_nil)))))) (pw_or1 (pt_cmpR op_gt (pe_callB (NSet.call_lenOwn MH__len__ (hr.mono (by first | decide | omega))) (by rfl) B.m_len PySem.boot_len (pa_cons (pv 16) pa_nil)) (pe_callB (NSet.call_lenOwn MH__len__ (hr.mono (by first | decide | omega))) (by rfl) B.m_len PySem.boot_len (pa_cons (pv 15) pa_nil)) (nomark _)))).pt (pss_one (ps_ret pe_bl)) pss_nil)
      (pss_cons (ps_if (pw_or (pt_cmpR op_notBl (pe_cmpR (NSet.op_eqOwn MH__eq__ (hr.mono (by first | decide | omega))) (pe_methM (pv 15) ClH MHseen (hr.mono (by first | decide | omega)) (pa_cons (pv 13) pa_nil)) (pv 16) (nomark _)) pe_bl (nomark _)) (pw_or1 (pt_cmpR op_notBl (pe_cmpR (NSet.op_eqOwn MH__eq__ (hr.mono (by first | decide | omega))) (pv 16) (pe_methM (pv 15) ClH MHseen (hr.mono (by first | decide | omega)) (pa_cons (pv 13) pa_nil)) (nomark _)) pe_bl (nomark _)))).pt (pss_one (ps_ret pe_bl)) pss_nil)
      (pss_cons (ps_set (i := 1) sclaw.nd rfl (Or.inr rfl) (pe_def D_law_box (hr.mono (by first | decide | omega)) (by rfl) (pa_cons (pe_def D_law_cell (hr.mono (by first | decide | omega)) (by rfl) (pa_cons (pv 0) (pa_cons pe_int pa_nil))) pa_nil)))
      (pss_cons (ps_set (i := 17) sclaw.nd rfl (Or.inl rfl) (pe_def D_law_hidden (hr.mono (by first | decide | omega)) (by rfl) (pa_cons (pv 1) (pa_cons (pv 5) (pa_cons (pv 9) (pa_cons (pv 3) (pa_cons (pv 2) pa_nil)))))))
      (pss_cons (ps_if (pt_not (pt_val (pe_def D_law_fewest (hr.mono (by first | decide | omega)) (by rfl) (pa_cons (pv 15) (pa_cons (pv 2) (pa_cons (pv 5) (pa_cons (pv 17) (pa_cons (pv 9) (pa_cons (pv 13) (pa_cons (pv 14) pa_nil)))))))))) (pss_one (ps_ret pe_bl)) pss_nil)
      (pss_cons (ps_set (i := 17) sclaw.nd rfl (Or.inl rfl) (pe_op op_cat (pe_def D_law_hidden (hr.mono (by first | decide | omega)) (by rfl) (pa_cons (pv 1) (pa_cons (pv 5) (pa_cons (pv 9) (pa_cons (pv 3) (pa_cons (pv 2) pa_nil)))))) (pe_slice sl_list (pv 6) po_none (po_some (pe_def D_law_draw (hr.mono (by first | decide | omega)) (by rfl) (pa_cons (pv 1) (pa_cons pe_int pa_nil)))))))
      (pss_cons (ps_if (pt_not (pt_val (pe_def D_law_fewest (hr.mono (by first | decide | omega)) (by rfl) (pa_cons (pv 15) (pa_cons (pv 2) (pa_cons (pv 5) (pa_cons (pv 17) (pa_cons (pv 9) (pa_cons (pv 13) (pa_cons (pv 14) pa_nil)))))))))) (pss_one (ps_ret pe_bl)) pss_nil)
      (pss_cons (ps_if (pt_not (pt_val (pe_def D_law_needed (hr.mono (by first | decide | omega)) (by rfl) (pa_cons (pv 16) (pa_cons (pv 2) (pa_cons (pv 13) (pa_cons (pe_def D_law_draw (hr.mono (by first | decide | omega)) (by rfl) (pa_cons (pv 1) (pa_cons pe_int pa_nil))) (pa_cons (pe_op op_add pe_int (pe_def D_law_draw (hr.mono (by first | decide | omega)) (by rfl) (pa_cons (pv 1) (pa_cons pe_int pa_nil)))) pa_nil)))))))) (pss_one (ps_ret pe_bl)) pss_nil)
      (pss_cons (ps_if (pt_not (pt_val (pe_def D_law_steps (hr.mono (by first | decide | omega)) (by rfl) (pa_cons (pv 15) (pa_cons (pv 2) (pa_cons (pe_def D_law_net (hr.mono (by first | decide | omega)) (by rfl) (pa_cons (pv 5) pa_nil)) (pa_cons (pe_lst (pa_cons (pv 9) (pa_cons (pv 11) (pa_cons (pv 12) pa_nil)))) pa_nil))))))) (pss_one (ps_ret pe_bl)) pss_nil)
      (pss_cons (ps_if (pt_cmpR op_notBl (pe_cmpR (NSet.op_eqOwn MH__eq__ (hr.mono (by first | decide | omega))) (pe_methM (pv 15) ClH MHfolded (hr.mono (by first | decide | omega)) (pa_cons (NSet.pe_cmethM (pe_glob (v := .ref C) (by rfl) mC rfl) (CMeverything) (hr.mono (by first | decide | omega)) (pa_cons (pv 2) pa_nil)) pa_nil)) (pv 15) (nomark _)) pe_bl (nomark _)) (pss_one (ps_ret pe_bl)) pss_nil)
      (pss_one (ps_ret (pe_and (pe_cmpR op_isBl (pe_cmpR (NSet.op_eqOwn MH__eq__ (hr.mono (by first | decide | omega))) (pe_methM (pv 15) ClH MHseen (hr.mono (by first | decide | omega)) (pa_cons (NSet.pe_cmethM (pe_glob (v := .ref C) (by rfl) mC rfl) (CMeverything) (hr.mono (by first | decide | omega)) (pa_cons (pv 2) pa_nil)) pa_nil)) (pv 15) (nomark _)) pe_bl (nomark _)) (pe_one (pe_def D_law_shows (hr.mono (by first | decide | omega)) (by rfl) (pa_cons (pv 15) (pa_cons (pv 2) (pa_cons (pe_def D_law_net (hr.mono (by first | decide | omega)) (by rfl) (pa_cons (pv 5) pa_nil)) pa_nil)))))))))))))))))))))))))))))))))))), ?_⟩
  -- the first box
  refine ⟨.ref a, rfl, a, ns, 0, rfl, ha, by decide, fun H1 i1 s1 => ⟨i1, rfl, fun H2 p0 s2 np0 pt0 => ?_⟩⟩
  refine ⟨.ref p0, rfl, p0, 4, rfl, pt0, by decide, by decide, fun H3 r s3 pt3 r0 r4 => ⟨_, _, rfl, rfl, ?_⟩⟩
  obtain ⟨n, hnv⟩ : ∃ n : Nat, (1 + r) = (n : Int) := ⟨(1 + r).toNat, by omega⟩
  have hn1 : 1 ≤ n := by omega
  have hn4 : n ≤ 4 := by omega
  have vn : V.int (1 + r) = V.int (n : Nat) := by rw [hnv]
  show gName 2 (V.int (1 + r)) _ _ _
  rw [vn]
  clear vn hnv
  refine ⟨.ref p0, rfl, .int (n : Nat), rfl, p0, n, rfl, pt3, hn1, hn4, fun H4 bs sc s4 pt4 nbs hbs S => ?_⟩
  have np3 : p0 ≠ bs := pt3.ne nbs
  refine ⟨.ref p0, rfl, p0, rfl, pt4, fun H5 ap rs s5 pt5 nap hap l1 l5 wd => ?_⟩
  have hbs5 := s5 _ _ np3.symm hbs
  have e5 : Same H H5 := low (low (low (s1.trans s2) s3 (s1.new np0)) s4 (s1.new np0)) s5 (s1.new np0)
  -- two lists of changes
  refine ⟨.ref a, rfl, a, ns, 1, rfl, e5.seq ha, by decide, fun H6 i6 s6 => ⟨i6, rfl, fun H7 p1 s7 np1 pt7 => ?_⟩⟩
  have e7 : Same H H7 := (e5.trans s6).trans s7
  have hb7 := s7 _ _ (s6 _ _ hbs5)
  have nb1 : bs ≠ p1 := ne_of_none (s6 _ _ hbs5) np1
  obtain ⟨_, lvp, ep, elp, dlp⟩ := id hap
  cases ep
  have na1 : ap ≠ p1 := ne_of_none (s6 _ _ elp) np1
  have n1H5 : H5 p1 = none := s6.new np1
  refine ⟨.ref ap, rfl, .ref bs, rfl, .int (n : Nat), rfl, p1, ap, bs, n, 16, sc, rs, rfl, ⟨pt7, na1, nb1, (hap.same s6).same s7, l1, l5, wd, hb7, S, hn4⟩, by decide, fun H8 o1 cs1 s8 pt8 nO1 hO1 lcs1 kcs1 => ?_⟩
  have f8 : Same H5 H8 := low (s6.trans s7) s8 n1H5
  refine ⟨.ref a, rfl, a, ns, 4, rfl, (e5.trans f8).seq ha, by decide, fun H9 i9 s9 => ⟨i9, rfl, fun H10 p4 s10 np4 pt10 => ?_⟩⟩
  have f10 : Same H5 H10 := (f8.trans s9).trans s10
  obtain ⟨_, lv1, el1', el1, dl1⟩ := id hO1
  cases el1'
  have n4H8 : H8 p4 = none := s9.new np4
  have n4H5 : H5 p4 = none := f8.new n4H8
  refine ⟨.ref ap, rfl, .ref bs, rfl, .int (n : Nat), rfl, p4, ap, bs, n, 16, sc, rs, rfl, ⟨pt10, ne_of_none elp n4H5, ne_of_none hbs5 n4H5, hap.same f10, l1, l5, wd, f10 _ _ hbs5, S, hn4⟩, by decide, fun H11 o2 cs2 s11 pt11 nO2 hO2 lcs2 kcs2 => ?_⟩
  have f11 : Same H5 H11 := low f10 s11 n4H5
  have g11 : Same H8 H11 := low (s9.trans s10) s11 n4H8
  have nO12 : o1 ≠ o2 := ne_of_none ((s9.trans s10) _ _ el1) nO2
  have n1H5' : H5 o1 = none := (s6.trans s7).new nO1
  have n2H5 : H5 o2 = none := f10.new nO2
  have hO1' := hO1.same g11
  -- the loop
  refine ⟨.ref a, rfl, a, _, rfl, .inl ((e5.trans f11).seq ha), 63, _, rfl, 5, _, rfl, ?_, ?_⟩
  · rw [List.length_map]
    split <;> omega
  rw [List.length_map]
  generalize hkk : (if ((ns.length : Nat) : Int) < 63 then ((ns.length : Nat) : Int) else 63) = kk
  have hkn : kk ≤ 63 ∧ kk ≤ (ns.length : Nat) := by
    rw [← hkk]
    split <;> omega
  refine for_range (lo := 5) (n := (kk - 5).toNat) (fun i σ H' => ∃ (y7 y8 : Option V) (c1 c2 : List (PK × Int)), σ = [some (.ref a), some (.ref p0), some (.int (n : Nat)), some (.ref bs), some (.ref ap), some (.ref o1), some (.ref o2), y7, y8, none, none, none, none, none, none, none, none, none] ∧ Same H5 H' ∧ ChL K H' (.ref o1) c1 ∧ ChL K H' (.ref o2) c2 ∧ c1.length ≤ 16 + i ∧ c2.length ≤ 16 + i ∧ (∀ c ∈ c1, KIn n sc c.1) ∧ ∀ c ∈ c2, KIn n sc c.1)
    ⟨none, none, cs1, cs2, rfl, f11, hO1', hO2, lcs1, lcs2, kcs1, kcs2⟩ (fun i σ H' hi pv' => ?_) (fun σ H12 pv' => ?_)
  · obtain ⟨y7, y8, c1, c2, rfl, e, hc1, hc2, l1', l2', k1, k2⟩ := pv'
    have ilt : 5 + i < ns.length := by omega
    refine ⟨.ref a, rfl, .int (5 + (i : Nat)), rfl, a, _, 5 + (i : Nat), .int ns[5 + i], rfl, rfl, (e5.trans e).seq ha, at_of (j := 5 + i) (by omega) (by simp [ilt]), ns[5 + i], rfl, fun Hb pk sb npk ptk => ?_⟩
    have eb := e.trans sb
    have npk5 : H5 pk = none := e.new npk
    refine ⟨.ref ap, rfl, .ref bs, rfl, .int (n : Nat), rfl, pk, ap, bs, n, sc, rs, rfl, ⟨ptk, ne_of_none elp npk5, ne_of_none hbs5 npk5, hap.same eb, l1, l5, wd, eb _ _ hbs5, S, hn4⟩, fun Hc v c sc' ptc dv kc => ?_⟩
    have ec := low eb sc' npk5
    obtain ⟨_, _, ex1, el1', _⟩ := id hc1
    cases ex1
    obtain ⟨_, _, ex2, el2', _⟩ := id hc2
    cases ex2
    have hc1c := ch_sameB (hc1.same sb) (ne_of_none el1' npk) sc' ptk
    have hc2c := ch_sameB (hc2.same sb) (ne_of_none el2' npk) sc' ptk
    obtain ⟨_, v1, ex1, g1, g2⟩ := id hc1c
    cases ex1
    obtain ⟨_, v2, ex2, g3, g4⟩ := id hc2c
    cases ex2
    have lv1' : v1.length = c1.length := by simpa using g2.length
    have lv2' : v2.length = c2.length := by simpa using g4.length
    have big : (1000 : Nat) ≤ sizeLine := by decide +kernel
    refine ⟨.int (5 + (i : Nat)), rfl, _, _, rfl, rfl, (by show (0 : Int) < 2; decide), rfl, _, rfl, ite2 (fun zt => ?_) (fun zf => ?_)⟩
    · refine ⟨.ref o1, rfl, .inl ⟨rfl, _, SqL.of g1⟩, v, rfl, o1, _, _, rfl, rfl, g1, by omega, ?_⟩
      refine ⟨_, _, c1 ++ [c], c2, rfl, ec.mut n1H5', ch_app g1 g2 dv, ch_keep hc2c g1 nO12.symm, by rw [List.length_append]; simp only [List.length_cons, List.length_nil]; omega, by omega, fun x hx => ?_, k2⟩
      rcases List.mem_append.mp hx with h | h
      · exact k1 x h
      · rw [List.mem_singleton.mp h]
        exact kc
    · refine ⟨.ref o2, rfl, .inl ⟨rfl, _, SqL.of g3⟩, v, rfl, o2, _, _, rfl, rfl, g3, by omega, ?_⟩
      refine ⟨_, _, c1, c2 ++ [c], rfl, ec.mut n2H5, ch_keep hc1c g3 nO12, ch_app g3 g4 dv, by omega, by rw [List.length_append]; simp only [List.length_cons, List.length_nil]; omega, k1, fun x hx => ?_⟩
      rcases List.mem_append.mp hx with h | h
      · exact k2 x h
      · rw [List.mem_singleton.mp h]
        exact kc
  obtain ⟨y7, y8, one', more, rfl, e12, hc1, hmore, _, lmore, k1, kmore⟩ := pv'
  -- one, cut
  obtain ⟨_, v1, ex1, g1, g2⟩ := id hc1
  cases ex1
  refine ⟨.ref o1, rfl, 16, rfl, o1, v1, rfl, SqL.of g1, fun o3 ho3 => ?_⟩
  have s13 := same_upd (o := .lst (cutV v1 none (some 16))) ho3
  have cut16 : cutV v1 none (some 16) = v1.take 16 := by
    unfold cutV
    rw [HT.sIx_none, show (16 : Int) = ((16 : Nat) : Int) from rfl, HT.sIx_nat, List.drop_zero, Nat.sub_zero]
    rcases Nat.le_total 16 v1.length with h | h
    · rw [Nat.min_eq_left h]
    · rw [Nat.min_eq_right h, List.take_of_length_le h, List.take_of_length_le (Nat.le_refl _)]
  have hone : ChL K (L2.upd H12 o3 (.lst (cutV v1 none (some 16)))) (.ref o3) (one'.take 16) := ⟨o3, v1.take 16, rfl, by rw [upd_same, cut16], by
    rw [List.map_take]
    exact da_take 16 (Da.sameAll s13 _ _ g2)⟩
  have kone : ∀ c ∈ one'.take 16, KIn n sc c.1 := fun c hc => k1 c (List.mem_of_mem_take hc)
  have lone : (one'.take 16).length ≤ 16 := List.length_take_le _ _
  generalize one'.take 16 = one at hone kone lone
  clear cut16
  have e13 := e12.trans s13
  -- the starts
  refine ⟨.ref a, rfl, a, ns, 2, rfl, (e5.trans e13).seq ha, by decide, fun H14 i14 s14 => ⟨i14, rfl, fun H15 p2 s15 np2 pt15 => ?_⟩⟩
  have e15 := (e13.trans s14).trans s15
  have n2H13 : (L2.upd H12 o3 (.lst (cutV v1 none (some 16)))) p2 = none := s14.new np2
  have n2H5' : H5 p2 = none := e13.new n2H13
  have nb2 : bs ≠ p2 := ne_of_none hbs5 n2H5'
  refine ⟨.ref p2, rfl, .ref bs, rfl, .int (n : Nat), rfl, p2, bs, n, sc, rfl, pt15, nb2, e15 _ _ hbs5, S, hn4, fun H16 v16 m16 s16 pt16 hm16 im16 => ?_⟩
  have slen : 0 < sc.length := List.length_pos_iff.mpr S.ne
  refine ⟨fun σ' H' => ∃ (vst : V) (sm : List Int) (y7 y8 : Option V), σ' = [some (.ref a), some (.ref p2), some (.int (n : Nat)), some (.ref bs), some (.ref ap), some (.ref o3), some (.ref o2), y7, y8, some vst, none, none, none, none, none, none, none, none] ∧ SameB p2 H16 H' ∧ PotAt H' p2 ∧ Mo K H' vst sm ∧ In sc n sm, ?_, ?_⟩
  · refine ⟨.ref p2, rfl, p2, 6, rfl, pt16, by decide, by decide, fun H17 r17 s17 pt17 _ _ => ⟨rfl, _, rfl, ite2 (fun zt => ?_) (fun zf => ⟨v16, m16, _, _, rfl, s17, pt17, Mo.sameB hm16 s17 pt16, im16⟩)⟩⟩
    have hb17 := s17 _ _ nb2 (s16 _ _ nb2 (e15 _ _ hbs5))
    refine ⟨.int (n : Nat), rfl, _, rfl, by omega, by omega, fun D hD => ?_⟩
    refine lc_val walk_range hD (by omega) (fun H1 e => True.intro) ((List.replicate n sc[0]).map V.int) (by simp) (fun i x H1 H2 Q' hi e y k => ?_) (fun H1 e eL => ?_)
    · obtain ⟨rfl, rfl⟩ := y
      refine ⟨rfl, .ref bs, rfl, bs, _, 0, .int sc[0], rfl, rfl, SqL.of (e _ _ hb17), atI_nat (j := 0) (by simp [slen]), ?_⟩
      exact k _ _ (Same.refl _) (by rw [List.getElem?_map, List.getElem?_replicate, if_pos (by omega)]; rfl)
    · refine ⟨D, _, rfl, .inl ⟨SqL.of eL, fun t ht => ?_⟩⟩
      have st := e.trans (same_upd (o := .tup ((List.replicate n sc[0]).map V.int)) ht)
      refine ⟨.ref t, List.replicate n sc[0], _, _, rfl, s17.trans st.b, pt17.same st, Mo.of upd_same, ⟨List.length_replicate, fun c hc => ?_⟩⟩
      rw [List.eq_of_mem_replicate hc]
      exact List.getElem_mem slen
  rintro σ' H18 ⟨vst, sm, y7, y8, rfl, s18, pt18, hst, ist⟩
  clear hm16 im16 m16 v16
  obtain ⟨b1, rfl, hb1⟩ := hst.inv
  have a18 := s16.trans s18
  have n2 : ∀ {Hx : Hp}, SameB p2 H15 Hx → Same H5 Hx := fun s => low e15 s n2H5'
  refine ⟨.ref p2, rfl, p2, 4, rfl, pt18, by decide, by decide, fun H19 r19 s19 pt19 q0 q4 => ⟨r19, rfl, by omega, by omega, fun D hD => ?_⟩⟩
  have npD := pt19.ne hD
  have a19 := a18.trans s19
  refine lc_it (walk_range (lo := 0) (n := r19.toNat)) (fun i H' => SameB p2 H19 H' ∧ PotAt H' p2 ∧ ∃ acc rs, H' D = some (.lst acc) ∧ DaAll K H' acc (rs.map mo) ∧ rs.length = i ∧ ∀ m ∈ rs, In sc n m ∧ leB sm m = true) ⟨Same.b (same_upd hD), pt19.upd npD, [], [], upd_same, .nil, rfl, fun r hr => nomatch hr⟩ (fun i H' _ pv' => True.intro) (fun i x H' H'' hi pv' y => ?_) (fun H20 pv' => ?_)
  · obtain ⟨rfl, rfl⟩ := y
    obtain ⟨e1, pt3', acc, rs', eb, dd, hl, hw⟩ := pv'
    refine ⟨rfl, .ref b1, rfl, .ref p2, rfl, .ref bs, rfl, .int (n : Nat), rfl, p2, bs, n, sc, rfl, pt3', nb2, n2 (a19.trans e1) _ _ hbs5, S, hn4, fun Hm v5 m5 sm5 pt5 hm5 im5 => ?_⟩
    obtain ⟨b5, rfl, hb5⟩ := hm5.inv
    have hst5 := Mo.sameB hst ((s19.trans e1).trans sm5) pt18
    refine ⟨b1, b5, sm, m5, rfl, mo_sqt hst5, hb5, by rw [ist.1, im5.1], by rw [ist.1]; omega, fun H6' t s6 nt et => ?_⟩
    have eb6 := s6 _ _ (sm5 _ _ npD.symm eb)
    have st6 := (SameB.potst (K := K) sm5 pt3').trans s6.st
    have st7 : ST K H6' (_root_.L2.upd H6' D (.lst (acc ++ [.ref t]))) := st_upd eb6 True.intro
    have mt : Mo K H6' (.ref t) (joinL sm m5) := Mo.of et
    refine ⟨_, eb6, ?_, ((e1.trans sm5).trans s6.b).mut hD, (pt5.same s6).upd npD, _, rs' ++ [joinL sm m5], upd_same, ?_, by simp [hl], fun m hm => ?_⟩
    · rw [dd.length, List.length_map, hl]
      have : i < 100 := by omega
      exact Nat.lt_of_lt_of_le this (by decide)
    · rw [List.map_append]
      exact DaAll.snoc (Mo.st mt st7) (Da.stAll (st6.trans st7) _ _ (imm_mos _) dd)
    · rcases List.mem_append.mp hm with h | h
      · exact hw m h
      · rw [List.mem_singleton.mp h]
        exact ⟨In.join ist im5, (leB_iff (joinL_len (by rw [ist.1, im5.1])).symm).mpr (le_joinL (by rw [ist.1, im5.1]))⟩
  obtain ⟨e20, pt20, acc, bsd, eD, dD, lD, kbs⟩ := pv'
  have a20 := a19.trans e20
  refine ⟨.ref b1, rfl, .ref p2, rfl, .ref bs, rfl, .int (n : Nat), rfl, p2, bs, n, sc, rfl, pt20, nb2, n2 a20 _ _ hbs5, S, hn4, fun H21 v21 m21 s21 pt21 hm21 im21 => ?_⟩
  obtain ⟨b21, rfl, hb21⟩ := hm21.inv
  have c21 := (s19.trans e20).trans s21
  refine ⟨b1, b21, sm, m21, rfl, mo_sqt (Mo.sameB hst c21 pt18), hb21, by rw [ist.1, im21.1], by rw [ist.1]; omega, fun H22 t22 s22 nt22 et22 => ?_⟩
  have inear := In.join ist im21
  have lnear : leB sm (joinL sm m21) = true := (leB_iff (joinL_len (by rw [ist.1, im21.1])).symm).mpr (le_joinL (by rw [ist.1, im21.1]))
  generalize joinL sm m21 = near at et22 inear lnear
  have pt22 := pt21.same s22
  have c22 := c21.trans s22.b
  refine ⟨.ref t22, rfl, .ref p2, rfl, .ref bs, rfl, .int (n : Nat), rfl, p2, bs, n, sc, rfl, pt22, nb2, n2 (a18.trans c22) _ _ hbs5, S, hn4, fun H23 v23 m23 s23 pt23 hm23 im23 => ?_⟩
  obtain ⟨b23, rfl, hb23⟩ := hm23.inv
  have hnear22 : Mo K H22 (.ref t22) near := Mo.of et22
  have hnear23 := Mo.sameB hnear22 s23 pt22
  refine ⟨t22, b23, near, m23, rfl, mo_sqt hnear23, hb23, by rw [inear.1, im23.1], by rw [inear.1]; omega, fun H24 t24 s24 nt24 et24 => ?_⟩
  have ifar := In.join inear im23
  have lfar : leB near (joinL near m23) = true := (leB_iff (joinL_len (by rw [inear.1, im23.1])).symm).mpr (le_joinL (by rw [inear.1, im23.1]))
  generalize joinL near m23 = far at et24 ifar lfar
  have c24 := (c22.trans s23).trans s24.b
  have e24 : Same H5 H24 := n2 (a18.trans c24)
  have g24 : Same (_root_.L2.upd H12 o3 (.lst (cutV v1 none (some 16)))) H24 := low (s14.trans s15) (a18.trans c24) n2H13
  have hst24 := Mo.sameB hst c24 pt18
  have hnear24 := Mo.same hnear23 s24
  have hfar24 : Mo K H24 (.ref t24) far := Mo.of et24
  have eD24 : H24 D = some (.lst acc) := s24 _ _ (s23 _ _ npD.symm (s22 _ _ (s21 _ _ npD.symm eD)))
  have dD24 : DaAll K H24 acc (bsd.map mo) := Da.stAll ((((SameB.potst s21 pt20).trans s22.st).trans (SameB.potst s23 pt22)).trans s24.st) _ _ (imm_mos _) dD
  have hone24 := hone.same g24
  have hmore24 := (hmore.same s13).same g24
  have ha24 := (e5.trans e24).seq ha
  have hap24 := hap.same e24
  have hbs24 := e24 _ _ hbs5
  clear hone hmore hnear22 hnear23 et24 et22 hst hb1 dD eD c22 c21 n2
  -- the front
  have big : (5000 : Nat) ≤ sizeLine := by decide +kernel
  have lacc : acc.length = bsd.length := by simpa using dD24.length
  refine ⟨.int (n : Nat), rfl, .ref D, rfl, .ref b1, rfl, by show 1 ≤ sizeLine; decide, fun l hl => ⟨D, l, acc, [.ref b1], rfl, rfl, same_upd hl _ _ eD24, upd_same, by simp only [List.length_cons, List.length_nil]; omega, fun l2 hl2 x0 dx0 hx0 hdx0 hne => ?_⟩⟩
  have sl := same_upd (o := .lst [.ref b1]) hl
  have sl2 := same_upd (o := .lst (acc ++ [.ref b1])) hl2
  have sX := mk_sX (C := C) hx0 hdx0 hne
  have s0X := (sl.trans sl2).trans sX
  refine ⟨x0, dx0, n, .ref l2, bsd ++ [sm], rfl, upd_same, hn1, hn4, ⟨l2, acc ++ [.ref b1], rfl, sX _ _ upd_same, by rw [List.map_append]; exact DaAll.append (.cons (Da.same s0X _ _ hst24) .nil) (Da.sameAll s0X _ _ dD24)⟩, fun m hm => ?_, by rw [List.length_append]; simp only [List.length_cons, List.length_nil]; omega, fun H25 L kp fa _ il => ⟨rfl, ?_⟩⟩
  · rcases List.mem_append.mp hm with h | h
    · exact S.ok (kbs m h).1
    · rw [List.mem_singleton.mp h]
      exact S.ok ist
  rw [isL_low il (fun b hb => (kbs b hb).2) (fun b hb => by rw [(kbs b hb).1.1, ist.1])] at fa
  have s25 := (sl.trans sl2).trans (mk_s hx0 hdx0 hne kp)
  have sc4 : sc.length ≤ 4 := by
    have := S.len
    omega
  refine ⟨.ref bs, rfl, .int (n : Nat), rfl, bs, n, sc, rfl, s25 _ _ hbs24, sc4, hn4, fun H26 gb s26 ngb hgb => ?_⟩
  have s2426 := s25.trans s26
  obtain ⟨_, lv3, ex3, el3, dl3⟩ := id (hone24.same s2426)
  cases ex3
  -- left
  refine ⟨.int (n : Nat), rfl, .ref o3, rfl, o3, lv3, rfl, .inl (SqL.of el3), fun l3 hl3 x1 dx1 hx1 hdx1 hne1 => ?_⟩
  have sl3 := same_upd (o := .lst lv3) hl3
  have sX1 := mk_sX (C := CH) hx1 hdx1 hne1
  refine ⟨x1, dx1, n, l3, one, rfl, upd_same, hn1, hn4, .inl ⟨l3, lv3, rfl, sX1 _ _ upd_same, Da.sameAll (sl3.trans sX1) _ _ dl3⟩, by omega, fun c hc => (kone c hc).hk S, fun H27 c1' T1 e1 r1 ct kt lt => ⟨rfl, ?_⟩⟩
  have s27 := sl3.trans (mk_s hx1 hdx1 hne1 e1)
  have hT27 : HistAt K w CH H27 (.ref x1) n T1 := ⟨x1, dx1, c1', rfl, r1⟩
  have s2427 := s2426.trans s27
  have fa27 := (fa.same s26).same s27
  have hgb27 := hgb.same s27
  have lT1 : T1.length ≤ 16 := by omega
  -- short
  refine ⟨.ref x1, rfl, x1, dx1, _, rfl, r1.ins, hiF_no n c1' (by decide +kernel) (by decide +kernel), .ref x0, rfl, .ref x1, .ref x0, n, [sm], T1, rfl, hT27, fa27, hn1, hn4, by omega, fun H28 y28 R s28 hR cR lR => ?_⟩
  obtain ⟨pR, dxR, cRt, rfl, rR⟩ := id hR
  have fR : ∀ k, Tl.cnt R k = feltC sm one k := fun k => (cR k).trans (felt_eq ct k)
  have s2428 := s2427.trans s28
  refine ⟨.ref pR, rfl, .int (n : Nat), rfl, .ref b1, rfl, .ref o3, rfl, .ref o3, one, rfl, hone24.same s2428, by omega, fun H29 b29 N s29 nb29 tN cN kN lN => ?_⟩
  have kN' : ∀ p ∈ N, HK n p.1 := fun p hp => by
    obtain ⟨c, hc, e⟩ := List.mem_map.mp (kN p hp)
    rw [← e]
    exact (kone c hc).hk S
  refine ⟨.ref b1, b29, n, sm, N, rfl, (Mo.same hst24 s2428).same s29, S.ok ist, by omega, tN, kN', fun H30 b30 M s30 nb30 tM cM lM kM => ?_⟩
  refine ⟨.ref pR, n, b30, R, M, rfl, (hR.same s29).same s30, tM, fun k => by rw [fR, cM, felt_eq cN], hn4, by omega, fun H31 s31 => ⟨true, rfl, iteF ?_⟩⟩
  have s2831 := (s29.trans s30).trans s31
  have hR31 := hR.same s2831
  obtain ⟨_, dx31, c31, e31, r31⟩ := id hR31
  cases e31
  refine ⟨.ref pR, rfl, pR, dx31, _, rfl, r31.ins, .ref pR, n, R, rfl, hR31, fun H32 s32 => ⟨R.length, rfl, by omega, ?_⟩⟩
  have hT32 := ((hT27.same s28).same s2831).same s32
  obtain ⟨_, dx32, c32, e32, r32⟩ := id hT32
  cases e32
  refine ⟨.ref x1, rfl, x1, dx32, _, rfl, r32.ins, .ref x1, n, T1, rfl, hT32, fun H33 s33 => ⟨T1.length, rfl, by omega, _, _, rfl, rfl, _, rfl, ?_⟩⟩
  rw [decide_eq_false (by omega)]
  refine iteF ?_
  -- seen and short
  have s2833 := (s2831.trans s32).trans s33
  have hT33 := hT32.same s33
  have s2733 := s28.trans s2833
  obtain ⟨_, dx33, c33, e33, r33⟩ := id hT33
  cases e33
  refine ⟨.ref x1, rfl, x1, dx33, _, rfl, r33.ins, hiF_no n c33 (by decide +kernel) (by decide +kernel), .ref x0, rfl, .ref x1, .ref x0, n, sm, T1, rfl, hT33, fa27.same s2733, hn1, hn4, by omega, fun H34 y34 R34 s34 hR34 cR34 lR34 => ?_⟩
  obtain ⟨p34, dx34, c34, rfl, r34⟩ := id hR34
  have hRs34 := (hR.same s2833).same s34
  obtain ⟨_, dx35, c35, e35, r35⟩ := id hRs34
  cases e35
  refine ⟨.ref pR, rfl, p34, dx34, _, pR, dx35, _, rfl, rfl, r34.ins, r35.ins, .ref p34, .ref pR, n, R34, R, rfl, hR34, hRs34, fun H36 b36 s36 hb36 => ⟨b36, rfl, ?_⟩⟩
  obtain rfl : b36 = true := hb36.mpr (r34.fin.perm r35.fin fun k => by rw [cR34, cR]; rfl)
  refine ⟨true, true, rfl, rfl, false, rfl, iteF ?_⟩
  have s3336 := s34.trans s36
  have hT36 := hT33.same s3336
  obtain ⟨_, dx36, c36, e36, r36⟩ := id hT36
  cases e36
  refine ⟨.ref pR, rfl, .ref x1, rfl, x1, dx36, _, rfl, r36.ins, hiF_no n c36 (by decide +kernel) (by decide +kernel), .ref x0, rfl, .ref x1, .ref x0, n, sm, T1, rfl, hT36, fa27.same (s2733.trans s3336), hn1, hn4, by omega, fun H37 y37 R37 s37 hR37 cR37 lR37 => ?_⟩
  obtain ⟨p37, dx37, c37, rfl, r37⟩ := id hR37
  have hRs37 := (hRs34.same s36).same s37
  obtain ⟨_, dx38, c38, e38, r38⟩ := id hRs37
  cases e38
  refine ⟨pR, dx38, _, p37, dx37, _, rfl, rfl, r38.ins, r37.ins, .ref pR, .ref p37, n, R, R37, rfl, hRs37, hR37, fun H38 b38 s38 hb38 => ⟨b38, rfl, ?_⟩⟩
  obtain rfl : b38 = true := hb38.mpr (r38.fin.perm r37.fin fun k => by rw [cR37, cR]; rfl)
  refine ⟨true, true, rfl, rfl, false, rfl, iteF ?_⟩
  have s2838 := (s2833.trans s3336).trans (s37.trans s38)
  have s2438 := s2428.trans s2838
  have hT38 := (hT27.same s28).same s2838
  have hR38 := hR.same s2838
  have fa38 := (fa27.same s28).same s2838
  have hgb38 := (hgb27.same s28).same s2838
  have hone38 := hone24.same s2438
  have hmore38 := hmore24.same s2438
  have hst38 := Mo.same hst24 s2438
  have hnear38 := Mo.same hnear24 s2438
  have hfar38 := Mo.same hfar24 s2438
  have ha38 := s2438.seq ha24
  have hbs38 := s2438 _ _ hbs24
  have hRj : ∀ q ∈ R, joinL q.1.1 sm = q.1.1 := fun q hq => by
    have h0 : feltC sm one q.1 ≠ 0 := by
      rw [← fR, Tl.cnt_in rR.fin.nd hq]
      exact rR.fin.nz q hq
    obtain ⟨z, hz, e⟩ := List.mem_map.mp (Tl.cnt_mem h0)
    obtain ⟨c, hc, rfl⟩ := List.mem_map.mp hz
    rw [← e]
    exact join_idem (by rw [(kone c hc).1.1, ist.1])
  have lR16 : R.length ≤ 16 := by omega
  clear hgb27 fa27 hT36 hT33 hT32 hRs37 hRs34 hone24 hmore24 hst24 hnear24 hfar24 ha24 hbs24 hap24 dl3 dD24
  refine ⟨.ref a, rfl, a, ns, 3, rfl, ha38, by decide, fun H39 i39 s39 => ⟨i39, rfl, fun H40 p3 s40 np3' pt40 => ?_⟩⟩
  have n3 : H38 p3 = none := s39.new np3'
  have t40 := s39.trans s40
  obtain ⟨_, lvo, ex4, elo, dlo⟩ := id hone38
  cases ex4
  obtain ⟨_, lvm, ex5, elm, dlm⟩ := id hmore38
  cases ex5
  have no3 : o3 ≠ p3 := ne_of_none elo n3
  have nb3 : bs ≠ p3 := ne_of_none hbs38 n3
  refine ⟨.ref p3, rfl, .ref o3, rfl, .ref b1, rfl, .ref bs, rfl, .int (n : Nat), rfl, p3, o3, bs, .ref b1, n, sc, sm, one, rfl, pt40, no3, nb3, t40 _ _ hbs38, S, hn4, hone38.same t40, by omega, kone, Mo.same hst38 t40, ist, fun H41 l41 ds s41 pt41 nl41 hds lds kds fds => ?_⟩
  have t41 := low t40 s41 n3
  refine ⟨.ref x1, rfl, .int (n : Nat), rfl, .ref o3, rfl, .ref l41, rfl, .ref b1, rfl, .ref x0, rfl, .ref gb, rfl, .ref x1, .ref b1, .ref x0, .ref gb, o3, l41, n, sc, sm, T1, one, ds, rfl, hT38.same t41, ct, hone38.same t41, hds, Mo.same hst38 t41, fa38.same t41, hgb38.same t41, S, hn1, hn4, ist, lone, lT1, by omega, kone, kds, fun H42 s42 => ⟨true, rfl, iteF ?_⟩⟩
  have t42 := t41.trans s42
  have pt42 := pt41.same s42
  refine ⟨.ref p3, rfl, .ref o3, rfl, .ref b1, rfl, .ref bs, rfl, .int (n : Nat), rfl, p3, o3, bs, .ref b1, n, sc, sm, one, rfl, pt42, no3, nb3, t42 _ _ hbs38, S, hn4, hone38.same t42, by omega, kone, Mo.same hst38 t42, ist, fun H43 l43 ds2 s43 pt43 nl43 hds2 lds2 kds2 fds2 => ?_⟩
  have t43 := low t42 s43 n3
  refine ⟨.ref o2, rfl, .ref p3, rfl, p3, 3, rfl, pt43, by decide, by decide, fun H44 r44 s44 pt44 z0 z1 => ?_⟩
  have t44 := low t43 s44 n3
  refine ⟨r44, rfl, o2, lvm, rfl, SqL.of (t44 _ _ elm), fun l44 hl44 => ?_⟩
  obtain ⟨_, lvd, ex6, eld, dld⟩ := id hds2
  cases ex6
  obtain ⟨j44, ej44⟩ : ∃ j : Nat, r44 = (j : Int) := ⟨r44.toNat, by omega⟩
  have ecut := cut_take lvm ej44
  have np43 : p3 ≠ l43 := pt42.ne nl43
  have eld44 : H44 l43 = some (.lst lvd) := s44 _ _ np43.symm eld
  have dld44 : DaAll K H44 lvd (ds2.map chD) := Da.stAll (SameB.potst s44 pt43) _ _ (imm_chs _) dld
  have sl44 := same_upd (o := .lst (cutV lvm none (some r44))) hl44
  have lld : lvd.length = ds2.length := by simpa using dld.length
  refine ⟨l43, l44, lvd, lvm.take j44, rfl, rfl, sl44 _ _ eld44, by rw [upd_same, ecut], by rw [List.length_take]; omega, fun l45 hl45 => ?_⟩
  have sl45 := same_upd (o := .lst (lvd ++ lvm.take j44)) hl45
  have t45 := (t44.trans sl44).trans sl45
  have pt45 := (pt44.same sl44).same sl45
  have hds3 := DaAll.append (da_take j44 (Da.sameAll t45 _ _ dlm)) (Da.sameAll (sl44.trans sl45) _ _ dld44)
  rw [← List.map_take, ← List.map_append] at hds3
  have lds3 : (ds2 ++ more.take j44).length ≤ 50 := by
    rw [List.length_append, List.length_take]
    omega
  have kds3 : ∀ c ∈ ds2 ++ more.take j44, KIn n sc c.1 := fun c hc => by
    rcases List.mem_append.mp hc with h | h
    · exact kds2 c h
    · exact kmore c (List.mem_of_mem_take h)
  generalize ds2 ++ more.take j44 = two at hds3 lds3 kds3
  refine ⟨.ref x1, rfl, .int (n : Nat), rfl, .ref o3, rfl, .ref l45, rfl, .ref b1, rfl, .ref x0, rfl, .ref gb, rfl, .ref x1, .ref b1, .ref x0, .ref gb, o3, l45, n, sc, sm, T1, one, two, rfl, hT38.same t45, ct, hone38.same t45, ⟨l45, _, rfl, upd_same, hds3⟩, Mo.same hst38 t45, fa38.same t45, hgb38.same t45, S, hn1, hn4, ist, lone, lT1, lds3, kone, kds3, fun H46 s46 => ⟨true, rfl, iteF ?_⟩⟩
  have t46 := t45.trans s46
  have pt46 := pt45.same s46
  refine ⟨.ref pR, rfl, .int (n : Nat), rfl, .ref x0, rfl, .ref p3, rfl, p3, 48, rfl, pt46, by decide, by decide, fun H47 pl s47 pt47 _ _ => ⟨.ref p3, rfl, p3, 5, rfl, pt47, by decide, by decide, fun H48 r48 s48 pt48 y0 y1 => ?_⟩⟩
  have t48 := low (low t46 s47 n3) s48 n3
  refine ⟨_, _, rfl, rfl, .ref pR, .ref x0, n, sm, R, pl, 1 + r48, rfl, hR38.same t48, fa38.same t48, ist.1, hn1, hn4, lR16, hRj, by omega, fun H49 s49 => ⟨true, rfl, iteF ?_⟩⟩
  have t49 := t48.trans s49
  refine ⟨.ref x1, rfl, .int (n : Nat), rfl, .ref o3, rfl, .ref o3, one, rfl, hone38.same t49, by omega, fun H50 b50 N2 s50 nb50 tN2 cN2 kN2 lN2 => ?_⟩
  have kN2' : ∀ p ∈ N2, HK n p.1 := fun p hp => by
    obtain ⟨c, hc, e⟩ := List.mem_map.mp (kN2 p hp)
    rw [← e]
    exact (kone c hc).hk S
  have t50 := t49.trans s50
  refine ⟨.ref b1, rfl, .ref t22, rfl, .ref t24, rfl, by show 3 ≤ sizeLine; decide, fun l51 hl51 => ?_⟩
  have sl51 := same_upd (o := .lst [.ref b1, .ref t22, .ref t24]) hl51
  have t51 := t50.trans sl51
  refine ⟨.ref x1, .ref l51, n, b50, T1, N2, [sm, near, far], rfl, hT38.same t51, tN2.same sl51, fun k => by rw [ct, cN2], kN2', ⟨l51, _, rfl, upd_same, .cons (Mo.same hst38 t51) (.cons (Mo.same hnear38 t51) (.cons (Mo.same hfar38 t51) .nil))⟩, fun m hm => ?_, ?_, hn1, hn4, lT1, fun H52 s52 => ⟨true, rfl, iteF ?_⟩⟩
  · rcases List.mem_cons.mp hm with rfl | hm
    · exact S.ok ist
    rcases List.mem_cons.mp hm with rfl | hm
    · exact S.ok inear
    · rw [List.mem_singleton.mp hm]
      exact S.ok ifar
  · have l3 := leB_trans (by rw [ist.1, inear.1]) (by rw [inear.1, ifar.1]) lnear lfar
    refine List.pairwise_cons.mpr ⟨fun x hx => ?_, List.pairwise_cons.mpr ⟨fun x hx => ?_, List.pairwise_singleton _ _⟩⟩
    · rcases List.mem_cons.mp hx with rfl | hx
      · exact lnear
      · rw [List.mem_singleton.mp hx]
        exact l3
    · rw [List.mem_singleton.mp hx]
      exact lfar
  have t52 := t51.trans s52
  have hT52 := hT38.same t52
  obtain ⟨_, dx52, c52, e52, r52⟩ := id hT52
  cases e52
  refine ⟨.ref x1, rfl, x1, dx52, _, rfl, r52.ins, hiF_no n c52 (by decide +kernel) (by decide +kernel), ?_⟩
  have hz : ∀ q ∈ T1, joinL q.1.1 (List.replicate n 0) = q.1.1 := fun q' hq' => by
    have := (r52.ok q' hq').1
    have e := join_zero (m := q'.1.1) fun c hc => (this.2 c hc).1
    rw [this.1] at e
    exact e
  refine ⟨rfl, .int (n : Nat), rfl, n, rfl, hn1, hn4, fun H53 y53 s53 fz => ?_⟩
  refine ⟨.ref x1, y53, n, [List.replicate n 0], T1, rfl, hT52.same s53, fz, hn1, hn4, by omega, fun H54 y54 R54 s54 hR54 cR54 lR54 => ?_⟩
  obtain ⟨p54, dx54, c54, rfl, r54⟩ := id hR54
  have hT54 := (hT52.same s53).same s54
  obtain ⟨_, dx55, c55, e55, r55⟩ := id hT54
  cases e55
  refine ⟨.ref x1, rfl, p54, dx54, _, x1, dx55, _, rfl, rfl, r54.ins, r55.ins, .ref p54, .ref x1, n, R54, T1, rfl, hR54, hT54, fun H55 b55 s55 hb55 => ⟨b55, rfl, ?_⟩⟩
  obtain rfl : b55 = true := hb55.mpr (r54.fin.perm r55.fin fun k => (cR54 k).trans (felt_fix hz k))
  refine ⟨true, true, rfl, rfl, false, rfl, iteF ?_⟩
  have t55 := (s53.trans s54).trans s55
  have hT55 := hT54.same s55
  obtain ⟨_, dx56, c56, e56, r56⟩ := id hT55
  cases e56
  refine ⟨.ref x1, rfl, x1, dx56, _, rfl, r56.ins, hiF_no n c56 (by decide +kernel) (by decide +kernel), ?_⟩
  refine ⟨rfl, .int (n : Nat), rfl, n, rfl, hn1, hn4, fun H57 y57 s57 fz2 => ?_⟩
  refine ⟨.ref x1, y57, n, List.replicate n 0, T1, rfl, hT55.same s57, fz2, hn1, hn4, by omega, fun H58 y58 R58 s58 hR58 cR58 lR58 => ?_⟩
  obtain ⟨p58, dx58, c58, rfl, r58⟩ := id hR58
  have hT58 := (hT55.same s57).same s58
  obtain ⟨_, dx59, c59, e59, r59⟩ := id hT58
  cases e59
  refine ⟨.ref x1, rfl, p58, dx58, _, x1, dx59, _, rfl, rfl, r58.ins, r59.ins, .ref p58, .ref x1, n, R58, T1, rfl, hR58, hT58, fun H59 b59 s59 hb59 => ⟨b59, rfl, ?_⟩⟩
  obtain rfl : b59 = true := hb59.mpr (r58.fin.perm r59.fin fun k => (cR58 k).trans (felt_fix hz k))
  have t59 := (t52.trans t55).trans ((s57.trans s58).trans s59)
  have hT59 := hT58.same s59
  refine ⟨true, true, rfl, rfl, true, rfl, ?_⟩
  refine iteT ?_
  refine ⟨.ref x1, rfl, .int (n : Nat), rfl, .ref o3, rfl, .ref o3, one, rfl, hone38.same t59, by omega, fun H60 b60 N6 s60 nb60 tN6 cN6 kN6 lN6 => ?_⟩
  exact ⟨.ref x1, n, b60, T1, N6, rfl, hT59.same s60, tN6, fun k => by rw [ct, cN6], hn4, by omega, fun H61 s61 => q H61⟩
end
end K11

namespace K11
open PySem PySem.Spec PyProof.Rows L2 NSet
section
theorem all_mk {l : PySem.W.OpenLaw} {w : World} {K : PySem.W.Frag} {h : Heap} {mg : Str → Option Value} {fa : Addr} (X : K.In h) (G : h.Ns mainGlobals mg) (hfa : mg "law" = some (.ref fa)) (c : He5.SaysA faL fnL K) (more : exB K = true)
    : ∃ fd : FuncData, (∀ (s : Shared) (v : Value), BindsTo s fd ⟨[v], []⟩ [("script", v)]) ∧ ∀ base : Heap, K.In base → base.Ns mainGlobals mg → FnOk l.prog w K mg base CX0 11 fa fd ["script"] (spLaw K) := by
  have e := hfa.symm.trans (He.glo_ok X G (He5.SaysA.fact c 61 (f := .glo "law") rfl))
  cases e
  have B : Bt mg := ⟨He.free_ok X G (He5.SaysA.fact c 74 (f := .free "all") rfl), He.free_ok X G (He5.SaysA.fact c 75 (f := .free "zip") rfl), He.free_ok X G (He5.SaysA.fact c 76 (f := .free "tuple") rfl), He.free_ok X G (He5.SaysA.fact c 77 (f := .free "max") rfl), He.free_ok X G (He5.SaysA.fact c 78 (f := .free "min") rfl), He.free_ok X G (He5.SaysA.fact c 79 (f := .free "int") rfl), He.free_ok X G (He5.SaysA.fact c 80 (f := .free "bool") rfl), He.free_ok X G (He5.SaysA.fact c 81 (f := .free "len") rfl), He.free_ok X G (He5.SaysA.fact c 82 (f := .free "range") rfl), He.free_ok X G (He5.SaysA.fact c 83 (f := .free "isinstance") rfl), He.free_ok X G (He5.SaysA.fact c 84 (f := .free "list") rfl), He.free_ok X G (He5.SaysA.fact c 85 (f := .free "any") rfl), He.free_ok X G (He5.SaysA.fact c 86 (f := .free "set") rfl), He.free_ok X G (He5.SaysA.fact c 87 (f := .free "sorted") rfl), He.free_ok X G (He5.SaysA.fact c 88 (f := .free "sum") rfl)⟩
  have ClC : Cls K (He.ga K "Front") := He.cls_ok (He5.SaysA.fact c 1 (f := .cls "Front") rfl)
  have TxC : TxF K (He.ga K "Front") := ⟨ClC, He.noat_ok (He5.SaysA.fact c 3 (f := .noat "Front" "axes") rfl), He.noat_ok (He5.SaysA.fact c 4 (f := .noat "Front" "_lows") rfl)⟩
  have mC := He.glo_ok X G (He5.SaysA.fact c 0 (f := .glo "Front") rfl)
  have mkC : PySem.W.makesIn K (He.ga K "Front") = true := (He.ba (show (PySem.W.makesIn K (He.ga K "Front") && _) = true from (He5.SaysA.fact c 2 (f := .mkr "Front") rfl))).1
  have kcC : PySem.W.keepIn K (.ref (He.ga K "Front")) = true := (He.ba (He.ba (He.ba (show (PySem.W.makesIn K (He.ga K "Front") && (_ && (_ && PySem.W.keepIn K (.ref (He.ga K "Front"))))) = true from (He5.SaysA.fact c 2 (f := .mkr "Front") rfl))).2).2).2
  have ClCH : Cls K (He.ga K "History") := He.cls_ok (He5.SaysA.fact c 6 (f := .cls "History") rfl)
  have TxCH : TxH K (He.ga K "History") := ⟨ClCH, He.noat_ok (He5.SaysA.fact c 8 (f := .noat "History" "axes") rfl), He.noat_ok (He5.SaysA.fact c 9 (f := .noat "History" "_counts") rfl)⟩
  have mCH := He.glo_ok X G (He5.SaysA.fact c 5 (f := .glo "History") rfl)
  have mkCH : PySem.W.makesIn K (He.ga K "History") = true := (He.ba (show (PySem.W.makesIn K (He.ga K "History") && _) = true from (He5.SaysA.fact c 7 (f := .mkr "History") rfl))).1
  have kcCH : PySem.W.keepIn K (.ref (He.ga K "History")) = true := (He.ba (He.ba (He.ba (show (PySem.W.makesIn K (He.ga K "History") && (_ && (_ && PySem.W.keepIn K (.ref (He.ga K "History"))))) = true from (He5.SaysA.fact c 7 (f := .mkr "History") rfl))).2).2).2
  have XICH : TxI K (He.ga K "History") := ⟨He.eqO_ok (exB_at more 0 (b := He.eqO (PySem.W.findIn K (.ref (He.ga K "History")) "__class__") (some (some (.builtin "object.__class__")))) rfl), He.eqO_ok (exB_at more 1 (b := He.eqO (PySem.W.specialIn K (.builtin "object.__class__") "__get__") (some (some (.builtin "getset_descriptor.__get__")))) rfl), of_decide_eq_true (exB_at more 2 (b := decide (PySem.W.takesIn K (.builtin "object.__class__") = some true)) rfl), of_decide_eq_true (exB_at more 3 (b := decide (PySem.W.mroIn K (He.ga K "History") (.type "object") = some true)) rfl), kit_self⟩
  have osfCH : PySem.W.selfFirst K (He.ga K "History") = true := (exB_at more 4 (b := PySem.W.selfFirst K (He.ga K "History")) rfl)
  have G_MOST_AXES : ∃ t, mg "MOST_AXES" = some (.int 4 t) := He.int_ok X G (He5.SaysA.fact c 73 (f := .int "MOST_AXES" 4) rfl)
  obtain ⟨fd0, F0⟩ : ∃ fd, FunD K "is_number" "is_number" (defArgs sis_number) (defBody sis_number) (defScope sis_number) [] [] (He.ga K "is_number") fd := He5.SaysA.def_ c 0 (d := dd0) rfl
  have Tis_number : Top K mg "is_number" sis_number ["value"] := ⟨_, _, He5.fun_of F0, He.glo_ok X G (He5.SaysA.fact c 10 (f := .glo "is_number") rfl), FunD.bindsN (ps := ["value"]) F0 fun _ _ _ _ _ _ us hl => match us, hl with | [_], _ => rfl⟩
  obtain ⟨fd1, F1⟩ : ∃ fd, FunD K "check_axes" "check_axes" (defArgs scheck_axes) (defBody scheck_axes) (defScope scheck_axes) [] [] (He.ga K "check_axes") fd := He5.SaysA.def_ c 1 (d := dd1) rfl
  have Tcheck_axes : Top K mg "check_axes" scheck_axes ["axes"] := ⟨_, _, He5.fun_of F1, He.glo_ok X G (He5.SaysA.fact c 11 (f := .glo "check_axes") rfl), FunD.bindsN (ps := ["axes"]) F1 fun _ _ _ _ _ _ us hl => match us, hl with | [_], _ => rfl⟩
  obtain ⟨fd2, F2⟩ : ∃ fd, FunD K "check_like_axes" "check_like_axes" (defArgs scheck_like_axes) (defBody scheck_like_axes) (defScope scheck_like_axes) [] [] (He.ga K "check_like_axes") fd := He5.SaysA.def_ c 2 (d := dd2) rfl
  have Tcheck_like_axes : Top K mg "check_like_axes" scheck_like_axes ["left", "right"] := ⟨_, _, He5.fun_of F2, He.glo_ok X G (He5.SaysA.fact c 12 (f := .glo "check_like_axes") rfl), FunD.bindsN (ps := ["left", "right"]) F2 fun _ _ _ _ _ _ us hl => match us, hl with | [_, _], _ => rfl⟩
  obtain ⟨fd3, F3⟩ : ∃ fd, FunD K "without_zeros" "without_zeros" (defArgs swithout_zeros) (defBody swithout_zeros) (defScope swithout_zeros) [] [] (He.ga K "without_zeros") fd := He5.SaysA.def_ c 3 (d := dd3) rfl
  have Twithout_zeros : Top K mg "without_zeros" swithout_zeros ["counts"] := ⟨_, _, He5.fun_of F3, He.glo_ok X G (He5.SaysA.fact c 13 (f := .glo "without_zeros") rfl), FunD.bindsN (ps := ["counts"]) F3 fun _ _ _ _ _ _ us hl => match us, hl with | [_], _ => rfl⟩
  obtain ⟨fd4, F4⟩ : ∃ fd, FunD K "times" "times" (defArgs stimes) (defBody stimes) (defScope stimes) [] [] (He.ga K "times") fd := He5.SaysA.def_ c 4 (d := dd4) rfl
  have Ttimes : Top K mg "times" stimes ["counts", "factor"] := ⟨_, _, He5.fun_of F4, He.glo_ok X G (He5.SaysA.fact c 14 (f := .glo "times") rfl), FunD.bindsN (ps := ["counts", "factor"]) F4 fun _ _ _ _ _ _ us hl => match us, hl with | [_, _], _ => rfl⟩
  obtain ⟨fd5, F5⟩ : ∃ fd, FunD K "plus" "plus" (defArgs splus) (defBody splus) (defScope splus) [] [] (He.ga K "plus") fd := He5.SaysA.def_ c 5 (d := dd5) rfl
  have Tplus : Top K mg "plus" splus ["first", "second"] := ⟨_, _, He5.fun_of F5, He.glo_ok X G (He5.SaysA.fact c 15 (f := .glo "plus") rfl), FunD.bindsN (ps := ["first", "second"]) F5 fun _ _ _ _ _ _ us hl => match us, hl with | [_, _], _ => rfl⟩
  obtain ⟨fd6, F6⟩ : ∃ fd, FunD K "tally_of" "tally_of" (defArgs stally_of) (defBody stally_of) (defScope stally_of) [] [] (He.ga K "tally_of") fd := He5.SaysA.def_ c 6 (d := dd6) rfl
  have Ttally_of : Top K mg "tally_of" stally_of ["pairs"] := ⟨_, _, He5.fun_of F6, He.glo_ok X G (He5.SaysA.fact c 16 (f := .glo "tally_of") rfl), FunD.bindsN (ps := ["pairs"]) F6 fun _ _ _ _ _ _ us hl => match us, hl with | [_], _ => rfl⟩
  obtain ⟨fd7, F7⟩ : ∃ fd, FunD K "is_row" "is_row" (defArgs sis_row) (defBody sis_row) (defScope sis_row) [] [] (He.ga K "is_row") fd := He5.SaysA.def_ c 7 (d := dd7) rfl
  have Tis_row : Top K mg "is_row" sis_row ["value"] := ⟨_, _, He5.fun_of F7, He.glo_ok X G (He5.SaysA.fact c 17 (f := .glo "is_row") rfl), FunD.bindsN (ps := ["value"]) F7 fun _ _ _ _ _ _ us hl => match us, hl with | [_], _ => rfl⟩
  obtain ⟨fd8, F8⟩ : ∃ fd, FunD K "check_counted" "check_counted" (defArgs scheck_counted) (defBody scheck_counted) (defScope scheck_counted) [] [] (He.ga K "check_counted") fd := He5.SaysA.def_ c 8 (d := dd8) rfl
  have Tcheck_counted : Top K mg "check_counted" scheck_counted ["row", "count"] := ⟨_, _, He5.fun_of F8, He.glo_ok X G (He5.SaysA.fact c 18 (f := .glo "check_counted") rfl), FunD.bindsN (ps := ["row", "count"]) F8 fun _ _ _ _ _ _ us hl => match us, hl with | [_, _], _ => rfl⟩
  obtain ⟨fd9, F9⟩ : ∃ fd, FunD K "is_moment" "is_moment" (defArgs sis_moment) (defBody sis_moment) (defScope sis_moment) [] [] (He.ga K "is_moment") fd := He5.SaysA.def_ c 9 (d := dd9) rfl
  have Tis_moment : Top K mg "is_moment" sis_moment ["value", "axes"] := ⟨_, _, He5.fun_of F9, He.glo_ok X G (He5.SaysA.fact c 19 (f := .glo "is_moment") rfl), FunD.bindsN (ps := ["value", "axes"]) F9 fun _ _ _ _ _ _ us hl => match us, hl with | [_, _], _ => rfl⟩
  obtain ⟨fd10, F10⟩ : ∃ fd, FunD K "before" "before" (defArgs sbefore) (defBody sbefore) (defScope sbefore) [] [] (He.ga K "before") fd := He5.SaysA.def_ c 10 (d := dd10) rfl
  have Tbefore : Top K mg "before" sbefore ["first", "second"] := ⟨_, _, He5.fun_of F10, He.glo_ok X G (He5.SaysA.fact c 20 (f := .glo "before") rfl), FunD.bindsN (ps := ["first", "second"]) F10 fun _ _ _ _ _ _ us hl => match us, hl with | [_, _], _ => rfl⟩
  obtain ⟨fd11, F11⟩ : ∃ fd, FunD K "join_of" "join_of" (defArgs sjoin_of) (defBody sjoin_of) (defScope sjoin_of) [] [] (He.ga K "join_of") fd := He5.SaysA.def_ c 11 (d := dd11) rfl
  have Tjoin_of : Top K mg "join_of" sjoin_of ["first", "second"] := ⟨_, _, He5.fun_of F11, He.glo_ok X G (He5.SaysA.fact c 21 (f := .glo "join_of") rfl), FunD.bindsN (ps := ["first", "second"]) F11 fun _ _ _ _ _ _ us hl => match us, hl with | [_, _], _ => rfl⟩
  obtain ⟨fd12, F12⟩ : ∃ fd, FunD K "meet_of" "meet_of" (defArgs smeet_of) (defBody smeet_of) (defScope smeet_of) [] [] (He.ga K "meet_of") fd := He5.SaysA.def_ c 12 (d := dd12) rfl
  have Tmeet_of : Top K mg "meet_of" smeet_of ["first", "second"] := ⟨_, _, He5.fun_of F12, He.glo_ok X G (He5.SaysA.fact c 22 (f := .glo "meet_of") rfl), FunD.bindsN (ps := ["first", "second"]) F12 fun _ _ _ _ _ _ us hl => match us, hl with | [_, _], _ => rfl⟩
  obtain ⟨fd13, F13⟩ : ∃ fd, FunD K "check_moment" "check_moment" (defArgs scheck_moment) (defBody scheck_moment) (defScope scheck_moment) [] [] (He.ga K "check_moment") fd := He5.SaysA.def_ c 13 (d := dd13) rfl
  have Tcheck_moment : Top K mg "check_moment" scheck_moment ["moment", "axes"] := ⟨_, _, He5.fun_of F13, He.glo_ok X G (He5.SaysA.fact c 23 (f := .glo "check_moment") rfl), FunD.bindsN (ps := ["moment", "axes"]) F13 fun _ _ _ _ _ _ us hl => match us, hl with | [_, _], _ => rfl⟩
  obtain ⟨fd14, F14⟩ : ∃ fd, FunD K "history_of_tally" "history_of_tally" (defArgs shistory_of_tally) (defBody shistory_of_tally) (defScope shistory_of_tally) [] [] (He.ga K "history_of_tally") fd := He5.SaysA.def_ c 14 (d := dd14) rfl
  have Thistory_of_tally : Top K mg "history_of_tally" shistory_of_tally ["axes", "counts"] := ⟨_, _, He5.fun_of F14, He.glo_ok X G (He5.SaysA.fact c 24 (f := .glo "history_of_tally") rfl), FunD.bindsN (ps := ["axes", "counts"]) F14 fun _ _ _ _ _ _ us hl => match us, hl with | [_, _], _ => rfl⟩
  obtain ⟨fd15, F15⟩ : ∃ fd, FunD K "upward" "upward" (defArgs supward) (defBody supward) (defScope supward) [] [] (He.ga K "upward") fd := He5.SaysA.def_ c 15 (d := dd15) rfl
  have Tupward : Top K mg "upward" supward ["moments"] := ⟨_, _, He5.fun_of F15, He.glo_ok X G (He5.SaysA.fact c 25 (f := .glo "upward") rfl), FunD.bindsN (ps := ["moments"]) F15 fun _ _ _ _ _ _ us hl => match us, hl with | [_], _ => rfl⟩
  obtain ⟨fd16, F16⟩ : ∃ fd, FunD K "first_difference" "first_difference" (defArgs sfirst_difference) (defBody sfirst_difference) (defScope sfirst_difference) [] [] (He.ga K "first_difference") fd := He5.SaysA.def_ c 16 (d := dd16) rfl
  have Tfirst_difference : Top K mg "first_difference" sfirst_difference ["first", "second", "front"] := ⟨_, _, He5.fun_of F16, He.glo_ok X G (He5.SaysA.fact c 26 (f := .glo "first_difference") rfl), FunD.bindsN (ps := ["first", "second", "front"]) F16 fun _ _ _ _ _ _ us hl => match us, hl with | [_, _, _], _ => rfl⟩
  obtain ⟨fd17, F17⟩ : ∃ fd, FunD K "minimal" "minimal" (defArgs sminimal) (defBody sminimal) (defScope sminimal) [] [] (He.ga K "minimal") fd := He5.SaysA.def_ c 17 (d := dd17) rfl
  have Tminimal : Top K mg "minimal" sminimal ["moments"] := ⟨_, _, He5.fun_of F17, He.glo_ok X G (He5.SaysA.fact c 27 (f := .glo "minimal") rfl), FunD.bindsN (ps := ["moments"]) F17 fun _ _ _ _ _ _ us hl => match us, hl with | [_], _ => rfl⟩
  obtain ⟨fd18, F18⟩ : ∃ fd, FunD K "_law_cell" "_law_cell" (defArgs s_law_cell) (defBody s_law_cell) (defScope s_law_cell) [] [] (He.ga K "_law_cell") fd := He5.SaysA.def_ c 18 (d := dd18) rfl
  have T_law_cell : Top K mg "_law_cell" s_law_cell ["script", "k"] := ⟨_, _, He5.fun_of F18, He.glo_ok X G (He5.SaysA.fact c 28 (f := .glo "_law_cell") rfl), FunD.bindsN (ps := ["script", "k"]) F18 fun _ _ _ _ _ _ us hl => match us, hl with | [_, _], _ => rfl⟩
  obtain ⟨fd19, F19⟩ : ∃ fd, FunD K "_law_box" "_law_box" (defArgs s_law_box) (defBody s_law_box) (defScope s_law_box) [] [] (He.ga K "_law_box") fd := He5.SaysA.def_ c 19 (d := dd19) rfl
  have T_law_box : Top K mg "_law_box" s_law_box ["cell"] := ⟨_, _, He5.fun_of F19, He.glo_ok X G (He5.SaysA.fact c 29 (f := .glo "_law_box") rfl), FunD.bindsN (ps := ["cell"]) F19 fun _ _ _ _ _ _ us hl => match us, hl with | [_], _ => rfl⟩
  obtain ⟨fd20, F20⟩ : ∃ fd, FunD K "_law_draw" "_law_draw" (defArgs s_law_draw) (defBody s_law_draw) (defScope s_law_draw) [] [] (He.ga K "_law_draw") fd := He5.SaysA.def_ c 20 (d := dd20) rfl
  have T_law_draw : Top K mg "_law_draw" s_law_draw ["box", "many"] := ⟨_, _, He5.fun_of F20, He.glo_ok X G (He5.SaysA.fact c 30 (f := .glo "_law_draw") rfl), FunD.bindsN (ps := ["box", "many"]) F20 fun _ _ _ _ _ _ us hl => match us, hl with | [_, _], _ => rfl⟩
  obtain ⟨fd21, F21⟩ : ∃ fd, FunD K "_law_number" "_law_number" (defArgs s_law_number) (defBody s_law_number) (defScope s_law_number) [] [] (He.ga K "_law_number") fd := He5.SaysA.def_ c 21 (d := dd21) rfl
  have T_law_number : Top K mg "_law_number" s_law_number ["box"] := ⟨_, _, He5.fun_of F21, He.glo_ok X G (He5.SaysA.fact c 31 (f := .glo "_law_number") rfl), FunD.bindsN (ps := ["box"]) F21 fun _ _ _ _ _ _ us hl => match us, hl with | [_], _ => rfl⟩
  obtain ⟨fd22, F22⟩ : ∃ fd, FunD K "_law_count" "_law_count" (defArgs s_law_count) (defBody s_law_count) (defScope s_law_count) [] [] (He.ga K "_law_count") fd := He5.SaysA.def_ c 22 (d := dd22) rfl
  have T_law_count : Top K mg "_law_count" s_law_count ["box"] := ⟨_, _, He5.fun_of F22, He.glo_ok X G (He5.SaysA.fact c 32 (f := .glo "_law_count") rfl), FunD.bindsN (ps := ["box"]) F22 fun _ _ _ _ _ _ us hl => match us, hl with | [_], _ => rfl⟩
  obtain ⟨fd23, F23⟩ : ∃ fd, FunD K "_law_row" "_law_row" (defArgs s_law_row) (defBody s_law_row) (defScope s_law_row) [] [] (He.ga K "_law_row") fd := He5.SaysA.def_ c 23 (d := dd23) rfl
  have T_law_row : Top K mg "_law_row" s_law_row ["box"] := ⟨_, _, He5.fun_of F23, He.glo_ok X G (He5.SaysA.fact c 33 (f := .glo "_law_row") rfl), FunD.bindsN (ps := ["box"]) F23 fun _ _ _ _ _ _ us hl => match us, hl with | [_], _ => rfl⟩
  obtain ⟨fd24, F24⟩ : ∃ fd, FunD K "_law_pool" "_law_pool" (defArgs s_law_pool) (defBody s_law_pool) (defScope s_law_pool) [] [] (He.ga K "_law_pool") fd := He5.SaysA.def_ c 24 (d := dd24) rfl
  have T_law_pool : Top K mg "_law_pool" s_law_pool ["box"] := ⟨_, _, He5.fun_of F24, He.glo_ok X G (He5.SaysA.fact c 34 (f := .glo "_law_pool") rfl), FunD.bindsN (ps := ["box"]) F24 fun _ _ _ _ _ _ us hl => match us, hl with | [_], _ => rfl⟩
  obtain ⟨fd25, F25⟩ : ∃ fd, FunD K "_law_row_of" "_law_row_of" (defArgs s_law_row_of) (defBody s_law_row_of) (defScope s_law_row_of) [] [] (He.ga K "_law_row_of") fd := He5.SaysA.def_ c 25 (d := dd25) rfl
  have T_law_row_of : Top K mg "_law_row_of" s_law_row_of ["box", "pool", "odds"] := ⟨_, _, He5.fun_of F25, He.glo_ok X G (He5.SaysA.fact c 35 (f := .glo "_law_row_of") rfl), FunD.bindsN (ps := ["box", "pool", "odds"]) F25 fun _ _ _ _ _ _ us hl => match us, hl with | [_, _, _], _ => rfl⟩
  obtain ⟨fd26, F26⟩ : ∃ fd, FunD K "_law_scale" "_law_scale" (defArgs s_law_scale) (defBody s_law_scale) (defScope s_law_scale) [] [] (He.ga K "_law_scale") fd := He5.SaysA.def_ c 26 (d := dd26) rfl
  have T_law_scale : Top K mg "_law_scale" s_law_scale ["box", "axes"] := ⟨_, _, He5.fun_of F26, He.glo_ok X G (He5.SaysA.fact c 36 (f := .glo "_law_scale") rfl), FunD.bindsN (ps := ["box", "axes"]) F26 fun _ _ _ _ _ _ us hl => match us, hl with | [_, _], _ => rfl⟩
  obtain ⟨fd27, F27⟩ : ∃ fd, FunD K "_law_spot" "_law_spot" (defArgs s_law_spot) (defBody s_law_spot) (defScope s_law_spot) [] [] (He.ga K "_law_spot") fd := He5.SaysA.def_ c 27 (d := dd27) rfl
  have T_law_spot : Top K mg "_law_spot" s_law_spot ["box", "scale", "axes"] := ⟨_, _, He5.fun_of F27, He.glo_ok X G (He5.SaysA.fact c 37 (f := .glo "_law_spot") rfl), FunD.bindsN (ps := ["box", "scale", "axes"]) F27 fun _ _ _ _ _ _ us hl => match us, hl with | [_, _, _], _ => rfl⟩
  obtain ⟨fd28, F28⟩ : ∃ fd, FunD K "_law_before" "_law_before" (defArgs s_law_before) (defBody s_law_before) (defScope s_law_before) [] [] (He.ga K "_law_before") fd := He5.SaysA.def_ c 28 (d := dd28) rfl
  have T_law_before : Top K mg "_law_before" s_law_before ["one", "two"] := ⟨_, _, He5.fun_of F28, He.glo_ok X G (He5.SaysA.fact c 38 (f := .glo "_law_before") rfl), FunD.bindsN (ps := ["one", "two"]) F28 fun _ _ _ _ _ _ us hl => match us, hl with | [_, _], _ => rfl⟩
  obtain ⟨fd29, F29⟩ : ∃ fd, FunD K "_law_join" "_law_join" (defArgs s_law_join) (defBody s_law_join) (defScope s_law_join) [] [] (He.ga K "_law_join") fd := He5.SaysA.def_ c 29 (d := dd29) rfl
  have T_law_join : Top K mg "_law_join" s_law_join ["one", "two"] := ⟨_, _, He5.fun_of F29, He.glo_ok X G (He5.SaysA.fact c 39 (f := .glo "_law_join") rfl), FunD.bindsN (ps := ["one", "two"]) F29 fun _ _ _ _ _ _ us hl => match us, hl with | [_, _], _ => rfl⟩
  obtain ⟨fd30, F30⟩ : ∃ fd, FunD K "_law_grid" "_law_grid" (defArgs s_law_grid) (defBody s_law_grid) (defScope s_law_grid) [] [] (He.ga K "_law_grid") fd := He5.SaysA.def_ c 30 (d := dd30) rfl
  have T_law_grid : Top K mg "_law_grid" s_law_grid ["scale", "axes"] := ⟨_, _, He5.fun_of F30, He.glo_ok X G (He5.SaysA.fact c 40 (f := .glo "_law_grid") rfl), FunD.bindsN (ps := ["scale", "axes"]) F30 fun _ _ _ _ _ _ us hl => match us, hl with | [_, _], _ => rfl⟩
  obtain ⟨fd31, F31⟩ : ∃ fd, FunD K "_law_change" "_law_change" (defArgs s_law_change) (defBody s_law_change) (defScope s_law_change) [] [] (He.ga K "_law_change") fd := He5.SaysA.def_ c 31 (d := dd31) rfl
  have T_law_change : Top K mg "_law_change" s_law_change ["box", "pool", "scale", "axes"] := ⟨_, _, He5.fun_of F31, He.glo_ok X G (He5.SaysA.fact c 41 (f := .glo "_law_change") rfl), FunD.bindsN (ps := ["box", "pool", "scale", "axes"]) F31 fun _ _ _ _ _ _ us hl => match us, hl with | [_, _, _, _], _ => rfl⟩
  obtain ⟨fd32, F32⟩ : ∃ fd, FunD K "_law_changes" "_law_changes" (defArgs s_law_changes) (defBody s_law_changes) (defScope s_law_changes) [] [] (He.ga K "_law_changes") fd := He5.SaysA.def_ c 32 (d := dd32) rfl
  have T_law_changes : Top K mg "_law_changes" s_law_changes ["box", "pool", "scale", "axes", "most"] := ⟨_, _, He5.fun_of F32, He.glo_ok X G (He5.SaysA.fact c 42 (f := .glo "_law_changes") rfl), FunD.bindsN (ps := ["box", "pool", "scale", "axes", "most"]) F32 fun _ _ _ _ _ _ us hl => match us, hl with | [_, _, _, _, _], _ => rfl⟩
  obtain ⟨fd33, F33⟩ : ∃ fd, FunD K "_law_net" "_law_net" (defArgs s_law_net) (defBody s_law_net) (defScope s_law_net) [] [] (He.ga K "_law_net") fd := He5.SaysA.def_ c 33 (d := dd33) rfl
  have T_law_net : Top K mg "_law_net" s_law_net ["change_list"] := ⟨_, _, He5.fun_of F33, He.glo_ok X G (He5.SaysA.fact c 43 (f := .glo "_law_net") rfl), FunD.bindsN (ps := ["change_list"]) F33 fun _ _ _ _ _ _ us hl => match us, hl with | [_], _ => rfl⟩
  obtain ⟨fd34, F34⟩ : ∃ fd, FunD K "_law_told" "_law_told" (defArgs s_law_told) (defBody s_law_told) (defScope s_law_told) [] [] (He.ga K "_law_told") fd := He5.SaysA.def_ c 34 (d := dd34) rfl
  have T_law_told : Top K mg "_law_told" s_law_told ["net"] := ⟨_, _, He5.fun_of F34, He.glo_ok X G (He5.SaysA.fact c 44 (f := .glo "_law_told") rfl), FunD.bindsN (ps := ["net"]) F34 fun _ _ _ _ _ _ us hl => match us, hl with | [_], _ => rfl⟩
  obtain ⟨fd35, F35⟩ : ∃ fd, FunD K "_law_is_integer" "_law_is_integer" (defArgs s_law_is_integer) (defBody s_law_is_integer) (defScope s_law_is_integer) [] [] (He.ga K "_law_is_integer") fd := He5.SaysA.def_ c 35 (d := dd35) rfl
  have T_law_is_integer : Top K mg "_law_is_integer" s_law_is_integer ["value"] := ⟨_, _, He5.fun_of F35, He.glo_ok X G (He5.SaysA.fact c 45 (f := .glo "_law_is_integer") rfl), FunD.bindsN (ps := ["value"]) F35 fun _ _ _ _ _ _ us hl => match us, hl with | [_], _ => rfl⟩
  obtain ⟨fd36, F36⟩ : ∃ fd, FunD K "_law_is_numbers" "_law_is_numbers" (defArgs s_law_is_numbers) (defBody s_law_is_numbers) (defScope s_law_is_numbers) [] [] (He.ga K "_law_is_numbers") fd := He5.SaysA.def_ c 36 (d := dd36) rfl
  have T_law_is_numbers : Top K mg "_law_is_numbers" s_law_is_numbers ["value"] := ⟨_, _, He5.fun_of F36, He.glo_ok X G (He5.SaysA.fact c 46 (f := .glo "_law_is_numbers") rfl), FunD.bindsN (ps := ["value"]) F36 fun _ _ _ _ _ _ us hl => match us, hl with | [_], _ => rfl⟩
  obtain ⟨fd37, F37⟩ : ∃ fd, FunD K "_law_sums" "_law_sums" (defArgs s_law_sums) (defBody s_law_sums) (defScope s_law_sums) [] [] (He.ga K "_law_sums") fd := He5.SaysA.def_ c 37 (d := dd37) rfl
  have T_law_sums : Top K mg "_law_sums" s_law_sums ["listed"] := ⟨_, _, He5.fun_of F37, He.glo_ok X G (He5.SaysA.fact c 47 (f := .glo "_law_sums") rfl), FunD.bindsN (ps := ["listed"]) F37 fun _ _ _ _ _ _ us hl => match us, hl with | [_], _ => rfl⟩
  obtain ⟨fd38, F38⟩ : ∃ fd, FunD K "_law_due" "_law_due" (defArgs s_law_due) (defBody s_law_due) (defScope s_law_due) [] [] (He.ga K "_law_due") fd := He5.SaysA.def_ c 38 (d := dd38) rfl
  have T_law_due : Top K mg "_law_due" s_law_due ["sums"] := ⟨_, _, He5.fun_of F38, He.glo_ok X G (He5.SaysA.fact c 48 (f := .glo "_law_due") rfl), FunD.bindsN (ps := ["sums"]) F38 fun _ _ _ _ _ _ us hl => match us, hl with | [_], _ => rfl⟩
  obtain ⟨fd39, F39⟩ : ∃ fd, FunD K "_law_answer" "_law_answer" (defArgs s_law_answer) (defBody s_law_answer) (defScope s_law_answer) [] [] (He.ga K "_law_answer") fd := He5.SaysA.def_ c 39 (d := dd39) rfl
  have T_law_answer : Top K mg "_law_answer" s_law_answer ["told", "spot"] := ⟨_, _, He5.fun_of F39, He.glo_ok X G (He5.SaysA.fact c 49 (f := .glo "_law_answer") rfl), FunD.bindsN (ps := ["told", "spot"]) F39 fun _ _ _ _ _ _ us hl => match us, hl with | [_, _], _ => rfl⟩
  obtain ⟨fd40, F40⟩ : ∃ fd, FunD K "_law_is_changes" "_law_is_changes" (defArgs s_law_is_changes) (defBody s_law_is_changes) (defScope s_law_is_changes) [] [] (He.ga K "_law_is_changes") fd := He5.SaysA.def_ c 40 (d := dd40) rfl
  have T_law_is_changes : Top K mg "_law_is_changes" s_law_is_changes ["told"] := ⟨_, _, He5.fun_of F40, He.glo_ok X G (He5.SaysA.fact c 50 (f := .glo "_law_is_changes") rfl), FunD.bindsN (ps := ["told"]) F40 fun _ _ _ _ _ _ us hl => match us, hl with | [_], _ => rfl⟩
  obtain ⟨fd41, F41⟩ : ∃ fd, FunD K "_law_spots" "_law_spots" (defArgs s_law_spots) (defBody s_law_spots) (defScope s_law_spots) [] [] (He.ga K "_law_spots") fd := He5.SaysA.def_ c 41 (d := dd41) rfl
  have T_law_spots : Top K mg "_law_spots" s_law_spots ["told"] := ⟨_, _, He5.fun_of F41, He.glo_ok X G (He5.SaysA.fact c 51 (f := .glo "_law_spots") rfl), FunD.bindsN (ps := ["told"]) F41 fun _ _ _ _ _ _ us hl => match us, hl with | [_], _ => rfl⟩
  obtain ⟨fd42, F42⟩ : ∃ fd, FunD K "_law_shows" "_law_shows" (defArgs s_law_shows) (defBody s_law_shows) (defScope s_law_shows) [] [] (He.ga K "_law_shows") fd := He5.SaysA.def_ c 42 (d := dd42) rfl
  have T_law_shows : Top K mg "_law_shows" s_law_shows ["history", "axes", "net"] := ⟨_, _, He5.fun_of F42, He.glo_ok X G (He5.SaysA.fact c 52 (f := .glo "_law_shows") rfl), FunD.bindsN (ps := ["history", "axes", "net"]) F42 fun _ _ _ _ _ _ us hl => match us, hl with | [_, _, _], _ => rfl⟩
  obtain ⟨fd43, F43⟩ : ∃ fd, FunD K "_law_joined" "_law_joined" (defArgs s_law_joined) (defBody s_law_joined) (defScope s_law_joined) [] [] (He.ga K "_law_joined") fd := He5.SaysA.def_ c 43 (d := dd43) rfl
  have T_law_joined : Top K mg "_law_joined" s_law_joined ["start", "net"] := ⟨_, _, He5.fun_of F43, He.glo_ok X G (He5.SaysA.fact c 53 (f := .glo "_law_joined") rfl), FunD.bindsN (ps := ["start", "net"]) F43 fun _ _ _ _ _ _ us hl => match us, hl with | [_, _], _ => rfl⟩
  obtain ⟨fd44, F44⟩ : ∃ fd, FunD K "_law_lowered" "_law_lowered" (defArgs s_law_lowered) (defBody s_law_lowered) (defScope s_law_lowered) [] [] (He.ga K "_law_lowered") fd := He5.SaysA.def_ c 44 (d := dd44) rfl
  have T_law_lowered : Top K mg "_law_lowered" s_law_lowered ["box", "spot", "start", "scale"] := ⟨_, _, He5.fun_of F44, He.glo_ok X G (He5.SaysA.fact c 54 (f := .glo "_law_lowered") rfl), FunD.bindsN (ps := ["box", "spot", "start", "scale"]) F44 fun _ _ _ _ _ _ us hl => match us, hl with | [_, _, _, _], _ => rfl⟩
  obtain ⟨fd45, F45⟩ : ∃ fd, FunD K "_law_hidden" "_law_hidden" (defArgs s_law_hidden) (defBody s_law_hidden) (defScope s_law_hidden) [] [] (He.ga K "_law_hidden") fd := He5.SaysA.def_ c 45 (d := dd45) rfl
  have T_law_hidden : Top K mg "_law_hidden" s_law_hidden ["box", "change_list", "start", "scale", "axes"] := ⟨_, _, He5.fun_of F45, He.glo_ok X G (He5.SaysA.fact c 55 (f := .glo "_law_hidden") rfl), FunD.bindsN (ps := ["box", "change_list", "start", "scale", "axes"]) F45 fun _ _ _ _ _ _ us hl => match us, hl with | [_, _, _, _, _], _ => rfl⟩
  obtain ⟨fd46, F46⟩ : ∃ fd, FunD K "_law_difference" "_law_difference" (defArgs s_law_difference) (defBody s_law_difference) (defScope s_law_difference) [] [] (He.ga K "_law_difference") fd := He5.SaysA.def_ c 46 (d := dd46) rfl
  have T_law_difference : Top K mg "_law_difference" s_law_difference ["one", "two", "start", "grid"] := ⟨_, _, He5.fun_of F46, He.glo_ok X G (He5.SaysA.fact c 56 (f := .glo "_law_difference") rfl), FunD.bindsN (ps := ["one", "two", "start", "grid"]) F46 fun _ _ _ _ _ _ us hl => match us, hl with | [_, _, _, _], _ => rfl⟩
  obtain ⟨fd47, F47⟩ : ∃ fd, FunD K "_law_tells" "_law_tells" (defArgs s_law_tells) (defBody s_law_tells) (defScope s_law_tells) [] [] (He.ga K "_law_tells") fd := He5.SaysA.def_ c 47 (d := dd47) rfl
  have T_law_tells : Top K mg "_law_tells" s_law_tells ["left", "right", "front", "due"] := ⟨_, _, He5.fun_of F47, He.glo_ok X G (He5.SaysA.fact c 57 (f := .glo "_law_tells") rfl), FunD.bindsN (ps := ["left", "right", "front", "due"]) F47 fun _ _ _ _ _ _ us hl => match us, hl with | [_, _, _, _], _ => rfl⟩
  obtain ⟨fd48, F48⟩ : ∃ fd, FunD K "_law_fewest" "_law_fewest" (defArgs s_law_fewest) (defBody s_law_fewest) (defScope s_law_fewest) [] [] (He.ga K "_law_fewest") fd := He5.SaysA.def_ c 48 (d := dd48) rfl
  have T_law_fewest : Top K mg "_law_fewest" s_law_fewest ["left", "axes", "one", "two", "start", "front", "grid"] := ⟨_, _, He5.fun_of F48, He.glo_ok X G (He5.SaysA.fact c 58 (f := .glo "_law_fewest") rfl), FunD.bindsN (ps := ["left", "axes", "one", "two", "start", "front", "grid"]) F48 fun _ _ _ _ _ _ us hl => match us, hl with | [_, _, _, _, _, _, _], _ => rfl⟩
  obtain ⟨fd49, F49⟩ : ∃ fd, FunD K "_law_needed" "_law_needed" (defArgs s_law_needed) (defBody s_law_needed) (defScope s_law_needed) [] [] (He.ga K "_law_needed") fd := He5.SaysA.def_ c 49 (d := dd49) rfl
  have T_law_needed : Top K mg "_law_needed" s_law_needed ["short", "axes", "front", "place", "by"] := ⟨_, _, He5.fun_of F49, He.glo_ok X G (He5.SaysA.fact c 59 (f := .glo "_law_needed") rfl), FunD.bindsN (ps := ["short", "axes", "front", "place", "by"]) F49 fun _ _ _ _ _ _ us hl => match us, hl with | [_, _, _, _, _], _ => rfl⟩
  obtain ⟨fd50, F50⟩ : ∃ fd, FunD K "_law_steps" "_law_steps" (defArgs s_law_steps) (defBody s_law_steps) (defScope s_law_steps) [] [] (He.ga K "_law_steps") fd := He5.SaysA.def_ c 50 (d := dd50) rfl
  have T_law_steps : Top K mg "_law_steps" s_law_steps ["left", "axes", "net", "starts"] := ⟨_, _, He5.fun_of F50, He.glo_ok X G (He5.SaysA.fact c 60 (f := .glo "_law_steps") rfl), FunD.bindsN (ps := ["left", "axes", "net", "starts"]) F50 fun _ _ _ _ _ _ us hl => match us, hl with | [_, _, _, _], _ => rfl⟩
  obtain ⟨fd51, F51⟩ : ∃ fd, FunD K "law" "law" (defArgs slaw) (defBody slaw) (defScope slaw) [] [] (He.ga K "law") fd := He5.SaysA.def_ c 51 (d := dd51) rfl
  have Tlaw : Top K mg "law" slaw ["script"] := ⟨_, _, He5.fun_of F51, He.glo_ok X G (He5.SaysA.fact c 61 (f := .glo "law") rfl), FunD.bindsN (ps := ["script"]) F51 fun _ _ _ _ _ _ us hl => match us, hl with | [_], _ => rfl⟩
  obtain ⟨fd52, F52⟩ : ∃ fd, FunD K "__init__" "History.__init__" (defArgs sHistory___init__) (defBody sHistory___init__) (defScope sHistory___init__) [V.ref (He.dflAt ("History", some "__init__") 0 K)] [] (He.ma K (He.ga K "History") "__init__") fd := He5.SaysA.def_ c 52 (d := dd52) rfl
  obtain ⟨ds0, v0, b0_52⟩ := F52.binds1 (ps := ["self", "axes", "changes"]) 2 0 (by simp) (by rfl) (fun T kV doc pm an cdv ct us its h1 h2 => match us, its, h1, h2 with | [_, _], [_], _, _ => ⟨_, rfl, rfl⟩)
  obtain ⟨ds1, v1, b1_52⟩ := F52.binds1 (ps := ["self", "axes", "changes"]) 3 1 (by simp) (by rfl) (fun T kV doc pm an cdv ct us its h1 h2 => match us, its, h1, h2 with | [_, _, _], [_], _, _ => ⟨_, rfl, rfl⟩)
  have THistory___init__ : TopI K (He.ga K "History") "History.__init__" sHistory___init__ ["self", "axes", "changes"] := by
    cases v1
    cases v0 with
    | cons h t =>
      cases t
      cases h
      exact ⟨_, _, _, F52, He.meth_ok (He5.SaysA.fact c 62 (f := .meth "History" "__init__") rfl), b1_52, emptyB_ok (exB_at more 9 (b := emptyB K (He.dflAt ("History", some "__init__") 0 K)) rfl), b0_52⟩
  obtain ⟨fd53, F53⟩ : ∃ fd, FunD K "changes" "History.changes" (defArgs sHistory_changes) (defBody sHistory_changes) (defScope sHistory_changes) [] [] (He.ma K (He.ga K "History") "changes") fd := He5.SaysA.def_ c 53 (d := dd53) rfl
  have THistory_changes : TopM K (He.ga K "History") "changes" "History.changes" sHistory_changes ["self"] := ⟨_, _, He5.fun_of F53, He.meth_ok (He5.SaysA.fact c 63 (f := .meth "History" "changes") rfl), FunD.bindsN (ps := ["self"]) F53 fun _ _ _ _ _ _ us hl => match us, hl with | [_], _ => rfl⟩
  obtain ⟨fd54, F54⟩ : ∃ fd, FunD K "moments" "History.moments" (defArgs sHistory_moments) (defBody sHistory_moments) (defScope sHistory_moments) [] [] (He.ma K (He.ga K "History") "moments") fd := He5.SaysA.def_ c 54 (d := dd54) rfl
  have THistory_moments : TopM K (He.ga K "History") "moments" "History.moments" sHistory_moments ["self"] := ⟨_, _, He5.fun_of F54, He.meth_ok (He5.SaysA.fact c 64 (f := .meth "History" "moments") rfl), FunD.bindsN (ps := ["self"]) F54 fun _ _ _ _ _ _ us hl => match us, hl with | [_], _ => rfl⟩
  obtain ⟨fd55, F55⟩ : ∃ fd, FunD K "folded" "History.folded" (defArgs sHistory_folded) (defBody sHistory_folded) (defScope sHistory_folded) [] [] (He.ma K (He.ga K "History") "folded") fd := He5.SaysA.def_ c 55 (d := dd55) rfl
  have THistory_folded : TopM K (He.ga K "History") "folded" "History.folded" sHistory_folded ["self", "front"] := ⟨_, _, He5.fun_of F55, He.meth_ok (He5.SaysA.fact c 65 (f := .meth "History" "folded") rfl), FunD.bindsN (ps := ["self", "front"]) F55 fun _ _ _ _ _ _ us hl => match us, hl with | [_, _], _ => rfl⟩
  obtain ⟨fd56, F56⟩ : ∃ fd, FunD K "seen" "History.seen" (defArgs sHistory_seen) (defBody sHistory_seen) (defScope sHistory_seen) [] [] (He.ma K (He.ga K "History") "seen") fd := He5.SaysA.def_ c 56 (d := dd56) rfl
  have THistory_seen : TopM K (He.ga K "History") "seen" "History.seen" sHistory_seen ["self", "front"] := ⟨_, _, He5.fun_of F56, He.meth_ok (He5.SaysA.fact c 66 (f := .meth "History" "seen") rfl), FunD.bindsN (ps := ["self", "front"]) F56 fun _ _ _ _ _ _ us hl => match us, hl with | [_, _], _ => rfl⟩
  obtain ⟨fd57, F57⟩ : ∃ fd, FunD K "__len__" "History.__len__" (defArgs sHistory___len__) (defBody sHistory___len__) (defScope sHistory___len__) [] [] (He.ma K (He.ga K "History") "__len__") fd := He5.SaysA.def_ c 57 (d := dd57) rfl
  have THistory___len__ : TopM K (He.ga K "History") "__len__" "History.__len__" sHistory___len__ ["self"] := ⟨_, _, He5.fun_of F57, He.meth_ok (He5.SaysA.fact c 67 (f := .meth "History" "__len__") rfl), FunD.bindsN (ps := ["self"]) F57 fun _ _ _ _ _ _ us hl => match us, hl with | [_], _ => rfl⟩
  obtain ⟨fd58, F58⟩ : ∃ fd, FunD K "__eq__" "History.__eq__" (defArgs sHistory___eq__) (defBody sHistory___eq__) (defScope sHistory___eq__) [] [] (He.ma K (He.ga K "History") "__eq__") fd := He5.SaysA.def_ c 58 (d := dd58) rfl
  have THistory___eq__ : TopM K (He.ga K "History") "__eq__" "History.__eq__" sHistory___eq__ ["self", "other"] := ⟨_, _, He5.fun_of F58, He.meth_ok (He5.SaysA.fact c 68 (f := .meth "History" "__eq__") rfl), FunD.bindsN (ps := ["self", "other"]) F58 fun _ _ _ _ _ _ us hl => match us, hl with | [_, _], _ => rfl⟩
  obtain ⟨fd59, F59⟩ : ∃ fd, FunD K "__sub__" "History.__sub__" (defArgs sHistory___sub__) (defBody sHistory___sub__) (defScope sHistory___sub__) [] [] (He.ma K (He.ga K "History") "__sub__") fd := He5.SaysA.def_ c 59 (d := dd59) rfl
  have THistory___sub__ : TopM K (He.ga K "History") "__sub__" "History.__sub__" sHistory___sub__ ["self", "other"] := ⟨_, _, He5.fun_of F59, He.meth_ok (He5.SaysA.fact c 69 (f := .meth "History" "__sub__") rfl), FunD.bindsN (ps := ["self", "other"]) F59 fun _ _ _ _ _ _ us hl => match us, hl with | [_, _], _ => rfl⟩
  obtain ⟨fd60, F60⟩ : ∃ fd, FunD K "__init__" "Front.__init__" (defArgs sFront___init__) (defBody sFront___init__) (defScope sFront___init__) [] [] (He.ma K (He.ga K "Front") "__init__") fd := He5.SaysA.def_ c 60 (d := dd60) rfl
  have TFront___init__ : TopM K (He.ga K "Front") "__init__" "Front.__init__" sFront___init__ ["self", "axes", "moments"] := ⟨_, _, He5.fun_of F60, He.meth_ok (He5.SaysA.fact c 70 (f := .meth "Front" "__init__") rfl), FunD.bindsN (ps := ["self", "axes", "moments"]) F60 fun _ _ _ _ _ _ us hl => match us, hl with | [_, _, _], _ => rfl⟩
  obtain ⟨fd61, F61⟩ : ∃ fd, FunD K "everything" "Front.everything" (defArgs sFront_everything) (defBody sFront_everything) (defScope sFront_everything) [] [] (He5.wf K (He.ga K "Front") "classmethod" "everything") fd := He5.SaysA.def_ c 61 (d := dd61) rfl
  have TFront_everything : TopC K (He.ga K "Front") "everything" "Front.everything" sFront_everything ["cls", "axes"] := ⟨.type "type", _, _, _, ⟨(exB_at more 5 (b := PySem.W.readsIn K (He.ga K "Front") (.type "type")) rfl), He.eqO_ok (exB_at more 6 (b := He.eqO (PySem.W.specialIn K (.ref (He.ga K "Front")) "__getattribute__") (some (some (.builtin "type.__getattribute__")))) rfl)⟩, He5.cmet_of (exB_at more 7 (b := He5.wrapB K (He.ga K "Front") "classmethod" "classmethod.__get__" "everything") rfl) (exB_at more 8 (b := PySem.W.fnIn K (He5.wf K (He.ga K "Front") "classmethod" "everything")) rfl), He5.fun_of F61, FunD.bindsN (ps := ["cls", "axes"]) F61 fun _ _ _ _ _ _ us hl => match us, hl with | [_, _], _ => rfl⟩
  obtain ⟨fd62, F62⟩ : ∃ fd, FunD K "moments" "Front.moments" (defArgs sFront_moments) (defBody sFront_moments) (defScope sFront_moments) [] [] (He.ma K (He.ga K "Front") "moments") fd := He5.SaysA.def_ c 62 (d := dd62) rfl
  have TFront_moments : TopM K (He.ga K "Front") "moments" "Front.moments" sFront_moments ["self"] := ⟨_, _, He5.fun_of F62, He.meth_ok (He5.SaysA.fact c 71 (f := .meth "Front" "moments") rfl), FunD.bindsN (ps := ["self"]) F62 fun _ _ _ _ _ _ us hl => match us, hl with | [_], _ => rfl⟩
  obtain ⟨fd63, F63⟩ : ∃ fd, FunD K "fold" "Front.fold" (defArgs sFront_fold) (defBody sFront_fold) (defScope sFront_fold) [] [] (He.ma K (He.ga K "Front") "fold") fd := He5.SaysA.def_ c 63 (d := dd63) rfl
  have TFront_fold : TopM K (He.ga K "Front") "fold" "Front.fold" sFront_fold ["self", "moment"] := ⟨_, _, He5.fun_of F63, He.meth_ok (He5.SaysA.fact c 72 (f := .meth "Front" "fold") rfl), FunD.bindsN (ps := ["self", "moment"]) F63 fun _ _ _ _ _ _ us hl => match us, hl with | [_, _], _ => rfl⟩
  have bl := FunD.bindsA (ps := ["script"]) F51 fun _ _ _ _ _ _ us hl => match us, hl with | [_], _ => rfl
  refine ⟨fd51, fun s v => bl s [v] rfl, fun base _ _ => ?_⟩
  have Dbefore := d_before (P := l.prog) (w := w) (K := K) (mg := mg) (base := base) B Tbefore
  have Djoin_of := d_join_of (P := l.prog) (w := w) (K := K) (mg := mg) (base := base) B Tjoin_of
  have Dmeet_of := d_meet_of (P := l.prog) (w := w) (K := K) (mg := mg) (base := base) B Tmeet_of
  have D_law_before := d_law_before (P := l.prog) (w := w) (K := K) (mg := mg) (base := base) B T_law_before
  have D_law_join := d_law_join (P := l.prog) (w := w) (K := K) (mg := mg) (base := base) B T_law_join
  have D_law_is_integer := d_law_is_integer (P := l.prog) (w := w) (K := K) (mg := mg) (base := base) B T_law_is_integer
  have Dis_number := d_is_number (P := l.prog) (w := w) (K := K) (mg := mg) (base := base) B Tis_number
  have Dcheck_axes := d_check_axes (P := l.prog) (w := w) (K := K) (mg := mg) (base := base) B G_MOST_AXES Tcheck_axes Dis_number
  have Dcheck_like_axes := d_check_like_axes (P := l.prog) (w := w) (K := K) (mg := mg) (base := base) B Tcheck_like_axes
  have Dis_moment := d_is_moment (P := l.prog) (w := w) (K := K) (mg := mg) (base := base) B Tis_moment Dis_number
  have Dminimal := d_minimal (P := l.prog) (w := w) (K := K) (mg := mg) (base := base) B Tminimal Dbefore
  have Mmoments := d_Front_moments (P := l.prog) (w := w) (K := K) (mg := mg) (base := base) B TxC TFront_moments
  have Mfold := d_Front_fold (P := l.prog) (w := w) (K := K) (mg := mg) (base := base) B TxC TFront_fold Djoin_of Dmeet_of
  have M__init__ := d_Front___init__ (P := l.prog) (w := w) (K := K) (mg := mg) (base := base) B TxC TFront___init__ Dcheck_axes Dis_moment Dminimal
  have MkFront := M__init__.make mkC kcC mC
  have Dwithout_zeros := d_without_zeros (P := l.prog) (w := w) (K := K) (mg := mg) (base := base) B Twithout_zeros
  have Dtimes := d_times (P := l.prog) (w := w) (K := K) (mg := mg) (base := base) B Ttimes Dwithout_zeros
  have Dtally_of := d_tally_of (P := l.prog) (w := w) (K := K) (mg := mg) (base := base) B Ttally_of Dwithout_zeros
  have Dplus := d_plus (P := l.prog) (w := w) (K := K) (mg := mg) (base := base) B Tplus Dwithout_zeros
  have Dis_row := d_is_row (P := l.prog) (w := w) (K := K) (mg := mg) (base := base) B Tis_row Dis_number
  have Dcheck_counted := d_check_counted (P := l.prog) (w := w) (K := K) (mg := mg) (base := base) B Tcheck_counted Dis_number Dis_row
  have Dcheck_moment := d_check_moment (P := l.prog) (w := w) (K := K) (mg := mg) (base := base) B Tcheck_moment Dis_moment
  have MkHistory := d_History_init (P := l.prog) (w := w) (K := K) (mg := mg) (base := base) B TxCH THistory___init__ mkCH kcCH mCH Dcheck_axes Dcheck_moment Dcheck_counted Dtally_of
  have Dhistory_of_tally := d_history_of_tally (P := l.prog) (w := w) (K := K) (mg := mg) (base := base) B TxCH Thistory_of_tally MkHistory
  have MH__len__ := d_History_len (P := l.prog) (w := w) (K := K) (mg := mg) (base := base) B TxCH THistory___len__
  have MH__eq__ := d_History_eq (P := l.prog) (w := w) (K := K) (mg := mg) (base := base) B TxCH XICH mCH THistory___eq__
  have MH__sub__ := d_History_sub (P := l.prog) (w := w) (K := K) (mg := mg) (base := base) B TxCH XICH mCH THistory___sub__ Dcheck_like_axes Dtimes Dplus Dhistory_of_tally
  have MHchanges := d_History_changes (P := l.prog) (w := w) (K := K) (mg := mg) (base := base) B TxCH THistory_changes
  have MHmoments := d_History_moments (P := l.prog) (w := w) (K := K) (mg := mg) (base := base) B TxCH THistory_moments
  have MHfolded := d_History_folded (P := l.prog) (w := w) (K := K) (mg := mg) (base := base) B TxCH TxC ClCH ClC THistory_folded Dcheck_like_axes MHmoments Mfold Dtally_of Dhistory_of_tally
  have Dupward := d_upward (P := l.prog) (w := w) (K := K) (mg := mg) (base := base) B Tupward Djoin_of Dtally_of Dplus
  have MHseen := d_History_seen (P := l.prog) (w := w) (K := K) (mg := mg) (base := base) B TxCH TxC ClCH ClC THistory_seen Dcheck_like_axes Mmoments MHmoments Djoin_of Dupward Dtally_of Dhistory_of_tally
  have Dfirst_difference := d_first_difference (P := l.prog) (w := w) (K := K) (mg := mg) (base := base) B ClCH osfCH Tfirst_difference MH__sub__ MHseen MHchanges
  have CMeverything := d_everything (P := l.prog) (w := w) (K := K) (mg := mg) (base := base) B TFront_everything Dcheck_axes MkFront
  have D_law_cell := d_law_cell (P := l.prog) (w := w) (K := K) (mg := mg) (base := base) B T_law_cell
  have D_law_box := d_law_box (P := l.prog) (w := w) (K := K) (mg := mg) (base := base) B T_law_box
  have D_law_draw := d_law_draw (P := l.prog) (w := w) (K := K) (mg := mg) (base := base) B T_law_draw
  have D_law_number := d_law_number (P := l.prog) (w := w) (K := K) (mg := mg) (base := base) B T_law_number D_law_draw
  have D_law_count := d_law_count (P := l.prog) (w := w) (K := K) (mg := mg) (base := base) B T_law_count D_law_draw
  have D_law_row := d_law_row (P := l.prog) (w := w) (K := K) (mg := mg) (base := base) B T_law_row D_law_draw D_law_number
  have D_law_pool := d_law_pool (P := l.prog) (w := w) (K := K) (mg := mg) (base := base) B T_law_pool D_law_draw D_law_row
  have D_law_row_of := d_law_row_of (P := l.prog) (w := w) (K := K) (mg := mg) (base := base) B T_law_row_of D_law_draw D_law_row
  have D_law_scale := d_law_scale (P := l.prog) (w := w) (K := K) (mg := mg) (base := base) B T_law_scale D_law_draw
  have D_law_spot := d_law_spot (P := l.prog) (w := w) (K := K) (mg := mg) (base := base) B T_law_spot D_law_draw
  have D_law_grid := d_law_grid (P := l.prog) (w := w) (K := K) (mg := mg) (base := base) B T_law_grid
  have D_law_change := d_law_change (P := l.prog) (w := w) (K := K) (mg := mg) (base := base) B T_law_change D_law_spot D_law_row_of D_law_count
  have D_law_changes := d_law_changes (P := l.prog) (w := w) (K := K) (mg := mg) (base := base) B T_law_changes D_law_draw D_law_change
  have D_law_net := d_law_net (P := l.prog) (w := w) (K := K) (mg := mg) (base := base) B T_law_net
  have D_law_told := d_law_told (P := l.prog) (w := w) (K := K) (mg := mg) (base := base) B T_law_told
  have D_law_joined := d_law_joined (P := l.prog) (w := w) (K := K) (mg := mg) (base := base) B T_law_joined D_law_join
  have D_law_is_numbers := d_law_is_numbers (P := l.prog) (w := w) (K := K) (mg := mg) (base := base) B T_law_is_numbers D_law_is_integer
  have D_law_sums := d_law_sums (P := l.prog) (w := w) (K := K) (mg := mg) (base := base) B T_law_sums
  have D_law_due := d_law_due (P := l.prog) (w := w) (K := K) (mg := mg) (base := base) B T_law_due
  have D_law_answer := d_law_answer (P := l.prog) (w := w) (K := K) (mg := mg) (base := base) B T_law_answer D_law_before D_law_sums D_law_due
  have D_law_is_changes := d_law_is_changes (P := l.prog) (w := w) (K := K) (mg := mg) (base := base) B T_law_is_changes D_law_is_numbers D_law_is_integer D_law_net D_law_told
  have D_law_spots := d_law_spots (P := l.prog) (w := w) (K := K) (mg := mg) (base := base) B T_law_spots
  have D_law_shows := d_law_shows (P := l.prog) (w := w) (K := K) (mg := mg) (base := base) B TxCH ClCH T_law_shows D_law_told MHchanges D_law_is_changes MH__len__ D_law_is_integer MHmoments D_law_spots
  have D_law_lowered := d_law_lowered (P := l.prog) (w := w) (K := K) (mg := mg) (base := base) B T_law_lowered D_law_draw
  have D_law_hidden := d_law_hidden (P := l.prog) (w := w) (K := K) (mg := mg) (base := base) B T_law_hidden D_law_draw D_law_lowered D_law_spot
  have D_law_difference := d_law_difference (P := l.prog) (w := w) (K := K) (mg := mg) (base := base) B T_law_difference D_law_before D_law_answer D_law_due D_law_sums
  have D_law_tells := d_law_tells (P := l.prog) (w := w) (K := K) (mg := mg) (base := base) B T_law_tells Dfirst_difference D_law_is_numbers
  have D_law_fewest := d_law_fewest (P := l.prog) (w := w) (K := K) (mg := mg) (base := base) B TxCH ClCH T_law_fewest MkHistory D_law_difference MHfolded MHseen MH__eq__ MH__len__ D_law_tells
  have D_law_needed := d_law_needed (P := l.prog) (w := w) (K := K) (mg := mg) (base := base) B TxCH ClCH T_law_needed MkHistory MHchanges MHfolded MH__eq__ MH__len__ D_law_tells
  have D_law_steps := d_law_steps (P := l.prog) (w := w) (K := K) (mg := mg) (base := base) B TxCH ClCH T_law_steps MkFront MHfolded MHseen MH__eq__ MH__len__ D_law_joined D_law_shows
  have D := d_law (P := l.prog) (w := w) (K := K) (mg := mg) (base := base) B mC ClCH TxCH Tlaw D_law_box D_law_cell D_law_draw D_law_scale D_law_pool D_law_changes D_law_change D_law_spot D_law_join MkFront D_law_grid MkHistory MHfolded MHseen MH__eq__ MH__len__ D_law_joined D_law_net D_law_shows D_law_hidden D_law_fewest D_law_needed D_law_steps CMeverything
  obtain ⟨f, fd', FF, g, _, _, oc, od, osl, lk⟩ := D
  obtain rfl : He.ga K "law" = f := Value.ref.inj (Option.some.inj ((He.glo_ok X G (He5.SaysA.fact c 61 (f := .glo "law") rfl)).symm.trans g))
  have F0 := He5.fun_of F51
  obtain ⟨oc2, od2, kV, doc, pm, an, cdv, ct, osl2, e2, lk2, _⟩ := F0.ex
  have e3 := Option.some.inj (lk.symm.trans lk2)
  have e4 : fd' = fd51 := by
    have := congrArg Obj.data e3
    exact Data.func.inj this
  rw [← e4]
  exact FF
end
end K11
open PySem PySem.W PySem.Calls PyProof.Rows
set_option maxHeartbeats 0 in
theorem PySem.Challenge.cw_deltamill_k11_whole_one_minimal_is_fewes_holds : PySem.Challenge.rw_deltamill_k11_whole_one_minimal_is_fewes.Holds := by
  w_on; o_law
  refine HandSHeadRun.head_any (r := OpenLaw.row PySem.Challenge.rw_deltamill_k11_whole_one_minimal_is_fewes) (q := view (OpenLaw.row PySem.Challenge.rw_deltamill_k11_whole_one_minimal_is_fewes).prog [75]) (H := K11.hk) (ob := K11.obZ) (M := 9000) (loose := K11.loL) (d := HandSHeadRun.topDef (OpenLaw.row PySem.Challenge.rw_deltamill_k11_whole_one_minimal_is_fewes).prog 75) (kwd := []) K11.obZ_eq
    (by kernel_rfl) (fun s => by kernel_rfl) K11.runZ (by kernel_rfl) (by kernel_rfl) (by kernel_rfl) (by rfl) (by first | assumption | decide +kernel) (by decide +kernel) ⟨rfl, rfl, rfl, rfl, rfl, by decide +kernel⟩ ?hw ?hc
  case hw => w_witness2
  case hc =>
    refine L2.walk_ofE (l := PySem.Challenge.rw_deltamill_k11_whole_one_minimal_is_fewes) (n := 63) (k := 11) (x := "script") (CX := L2.CX0) rfl (by decide) (by kernel_rfl) ⟨rfl, by decide, by decide⟩ ?F (fun _ _ _ _ z => z)
    intro w mg fa h Y G hmg0
    obtain ⟨K, KX, c, more⟩ := Y
    have hmg : mg ("law" : PySem.Str) = some (.ref fa) := by
      have e : (HandSHeadRun.topDef (OpenLaw.row PySem.Challenge.rw_deltamill_k11_whole_one_minimal_is_fewes).prog 75).name = ("law" : PySem.Str) := by kernel_rfl
      rw [← e]
      exact hmg0
    obtain ⟨fd, hb, hF⟩ := K11.all_mk (l := PySem.Challenge.rw_deltamill_k11_whole_one_minimal_is_fewes) (w := w) KX G hmg c more
    exact ⟨K, fd, K11.spLaw K, KX, hb, fun H a ns hl _ hS => ⟨a, ns, rfl, hS, hl, fun _ => rfl⟩, hF⟩
