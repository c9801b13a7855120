import PyProof.Rows.All
import Wide.All
import OpenK.AllK
import Wide.FinOn
import HandS.ForMost
import HandS.Zip
import HandS.Conv
import HandS.TupAny
import HandS.TupLe
import HandS.Wide
import HandS.Style
import HandS.IsInst
import HandS.Flow
import HandS.More
import HandS.Walk
import HandS.MakeKwOnly
import HandS.Evl
import HandS.TupSets
import HandS.TupMul
import HandS.Deep
import HandS.DictComp
import HandS.DictTup
import HandS.SortInts
import HandS.SortRule
import HandS.ListItems
import HandS.SetKeys
import HandS.NamedTupSort
import KE.SortData
import KE.KEqDict
import PyProof.DictFindH
import PyProof.DictMoreH
import HandS.SetBool
import HandS.Star
import HandS.CallLocal
import HandS.OwnEq
import PySem.Challenge.RW_deltamill_k18_plain_positive_parts
set_option Elab.async false
set_option linter.all false
set_option maxRecDepth 100000
set_option maxHeartbeats 8000000
/-! The common layer of the laws about deltamill: defs by name, moments, pots. -/
namespace L2
open PySem PySem.Spec PyProof.Rows

/-! ### defs by name -/
/-- the def x stands behind the top -/
def Top (K : PySem.W.Frag) (mg : Str → Option Value) (x : Str) (st : Stmt) (ps : List Str) : Prop :=
  ∃ (f : Addr) (fd : FuncData), Fun K x x st f fd ∧ mg x = some (.ref f) ∧ Binds K fd ps []
/-- the def x keeps the promise sp -/
def Def (P : Program) (w : World) (K : PySem.W.Frag) (mg : Str → Option Value) (base : Heap) (x : Str) (k : Nat) (ps : List Str) (sp : Sp) : Prop :=
  ∃ (f : Addr) (fd : FuncData), FnOk P w K mg base CX0 k f fd ps sp ∧ mg x = some (.ref f) ∧ PySem.W.keepIn K (.ref f) = true ∧ Binds K fd ps [] ∧ ∃ (oc : Value) (od : Option Addr) (osl : Array (Option Value)), K.lookup f = some ⟨oc, od, .func fd, osl⟩
/-- .. and is called by keywords -/
def DefK (P : Program) (w : World) (K : PySem.W.Frag) (mg : Str → Option Value) (base : Heap) (x : Str) (k : Nat) (ps ks : List Str) (gV : List V → List V → List V) (sp : Sp) : Prop :=
  ∃ (f : Addr) (fd : FuncData) (g : List Value → List Value → List Value), FnOk P w K mg base CX0 k f fd ps sp ∧ mg x = some (.ref f) ∧ PySem.W.keepIn K (.ref f) = true ∧ KBinds K fd ps ks g gV
def TopK (K : PySem.W.Frag) (mg : Str → Option Value) (x : Str) (st : Stmt) (ps ks : List Str) (gV : List V → List V → List V) : Prop :=
  ∃ (f : Addr) (fd : FuncData) (g : List Value → List Value → List Value), Fun K x x st f fd ∧ mg x = some (.ref f) ∧ KBinds K fd ps ks g gV
section
variable {P : Program} {w : World} {K : PySem.W.Frag} {mg : Str → Option Value} {base : Heap} {x : Str} {st : Stmt} {ps N : List Str} {k : Nat} {sp : Sp}
theorem mk_def (T : Top K mg x st ps) (S : FnScope N ps (defScope st)) (len : ∀ vs H Q E, sp vs H Q E → vs.length = ps.length)
    (hbody : ∀ (f : Addr) (cdv : Value) (A : Around) (outer : List Env) (s : Shared) (H : Hp) (vs : List V) (Q : VK) (E : XK), Room k (A.deeper (envOfC x (defScope st) s.heap.objs.size f cdv)) → sp vs H Q E →
      ∃ t, PSs (cxOf CX0 P w K mg base N x (defScope st) f cdv A outer s H E).nox (defBody st) t ∧ t { nx := fun _ H' => Q .non H', rt := Q } (start N vs) H) :
    Def P w K mg base x (k + 1) ps sp := by
  obtain ⟨f, fd, F, g, b⟩ := T
  obtain ⟨oc, _, _, _, _, _, _, _, osl, _, lk, _⟩ := id F.ex
  exact ⟨f, fd, F.ok S len (hbody f), g, F.kp, b, _, _, _, lk⟩
theorem Def.kw {ks : List Str} {gV : List V → List V → List V} (D : Def P w K mg base x k ps sp) (T : TopK K mg x st ps ks gV) : DefK P w K mg base x k ps ks gV sp := by
  obtain ⟨f, fd, F, g, kp, _, _, _, _, lk⟩ := D
  obtain ⟨f', fd', g', F', m', b'⟩ := T
  obtain rfl : f' = f := Value.ref.inj (Option.some.inj (m'.symm.trans g))
  obtain ⟨oc, _, _, _, _, _, _, _, osl, _, lk', _⟩ := id F'.ex
  rw [lk] at lk'
  cases lk'
  exact ⟨f', fd, g', F, g, kp, b'⟩
theorem Def.mono {j : Nat} (h : Def P w K mg base x j ps sp) (hk : j ≤ k) : Def P w K mg base x k ps sp := by
  obtain ⟨f, fd, F, r⟩ := h
  exact ⟨f, fd, F.mono hk, r⟩
end
section
variable {X : Cx} {x : Str} {k : Nat} {ps : List Str} {sp : Sp} {p pos : Pos} {e : Expr} {es : List Expr} {t : TA}
/-- f(e, ..) -/
theorem pe_def (D : Def X.prog X.w X.K X.mg X.base x k ps sp) (hr : Room k X.A) (hg : Gl X x) (ha : PA X (e :: es) t) (hdb : (x == ("__debug__" : Str)) = false := by decide)
    (he : starEach (e :: es) X.env = (false, eval e X.env) :: starEach es X.env := by rfl) (hpl : (backTo pos (starEach es X.env)).any (·.1) = false := by rfl) :
    PE X (.Call (.Name x p) (e :: es) [] pos) (tCall sp [] E0 t) := by
  obtain ⟨f, fd, F, g, kp, b, _⟩ := D
  exact pe_call F hr hg g kp b .nil pass0 ha hdb he hpl
/-- f(k = v, ..) -/
theorem pe_defK0 {ks : List Str} {gV : List V → List V → List V} {kws : List Keyword} {tk : TA} (D : DefK X.prog X.w X.K X.mg X.base x k ps ks gV sp) (hr : Room k X.A) (hg : Gl X x) (hkw : PK X kws tk)
    (hall : (backToKw pos (keywordEach kws X.env)).all (·.1.isSome) = true := by rfl) (hks : (backToKw pos (keywordEach kws X.env)).filterMap (·.1) = ks := by rfl) (hdb : (x == ("__debug__" : Str)) = false := by decide)
    (hpl : ((backTo pos (starEach [] X.env)).any (·.1) || (backToKw pos (keywordEach kws X.env)).any (·.1.isNone)) = false := by rfl) :
    PE X (.Call (.Name x p) [] kws pos) (tCallK sp gV E0 tNil tk) := by
  obtain ⟨f, fd, g, F, hm, kp, b⟩ := D
  refine ⟨fun pins s σ H Q I h => ?_⟩
  refine wpAny_Call_Name_kw (ld_glob I hg hm ?_ hdb)
  refine PySem.W.callWith_KW0 (h₀ := X.base) I.ok.mod.kin kp hall ?_ hpl
  refine thn (hkw.run pos pins s σ H _ I h) fun ws s2 ⟨zs, H2, I2, rz, q2⟩ => ⟨I2.kIn, ?_⟩
  rw [hks]
  exact run_fnk (us := []) (vs := []) F hr b pass0 I2 .nil rz q2
end
/-! ### heaps -/
/-- all that was tracked but p stays -/
def SameB (p : Addr) (H H' : Hp) : Prop := ∀ b o, b ≠ p → H b = some o → H' b = some o
theorem SameB.refl (p : Addr) (H : Hp) : SameB p H H := fun _ _ _ h => h
theorem SameB.trans {p : Addr} {H H1 H2 : Hp} (a : SameB p H H1) (b : SameB p H1 H2) : SameB p H H2 := fun c o n h => b c o n (a c o n h)
theorem Same.b {p : Addr} {H H' : Hp} (a : Same H H') : SameB p H H' := fun c o _ h => a c o h
theorem SameB.upd {p : Addr} {H : Hp} {o : HO} : SameB p H (upd H p o) := fun b u n h => by
  rw [upd_ne n]
  exact h
theorem same_upd {H : Hp} {p : Addr} {o : HO} (h : H p = none) : Same H (upd H p o) := fun b x e => by
  rw [upd_ne (ne_of_none e h)]
  exact e
/-- a new object may change -/
theorem Same.mut {H H' : Hp} {p : Addr} {o : HO} (e : Same H H') (h : H p = none) : Same H (upd H' p o) := fun a u ha => by
  rw [upd_ne (ne_of_none ha h)]
  exact e a u ha
theorem Same.seqT {K : PySem.W.Frag} {H H' : Hp} {a : Addr} {xs : List V} (e : Same H H') (h : SqT K H a xs) : SqT K H' a xs := by
  rcases h with (h | ⟨o, h⟩) | h
  · exact .inl (.inl (e _ _ h))
  · exact .inl (.inr ⟨o, e _ _ h⟩)
  · exact .inr h
theorem Same.new {H H1 : Hp} {p : Addr} (e : Same H H1) (h : H1 p = none) : H p = none := by
  cases q : H p with
  | none => rfl
  | some o =>
    rw [e p o q] at h
    cases h
end L2

namespace L2
open PySem PySem.Spec PyProof.Rows

/-! ### data: tuples are tracked -/
mutual
inductive Da (K : PySem.W.Frag) (H : Hp) : V → PyData → Prop
  | non : Da K H .non .none
  | bl (b : Bool) : Da K H (.bl b) (.bool b)
  | int (i : Int) : Da K H (.int i) (.int i)
  | str (x : Str) : Da K H (.str x) (.str x)
  | lst {a : Addr} {xs : List V} {ds : List PyData} : SqL K H a xs → DaAll K H xs ds → Da K H (.ref a) (.list ds)
  | tup {a : Addr} {xs : List V} {ds : List PyData} : H a = some (.tup xs) → DaAll K H xs ds → Da K H (.ref a) (.tuple ds)
inductive DaAll (K : PySem.W.Frag) (H : Hp) : List V → List PyData → Prop
  | nil : DaAll K H [] []
  | cons {v : V} {vs : List V} {d : PyData} {ds : List PyData} : Da K H v d → DaAll K H vs ds → DaAll K H (v :: vs) (d :: ds)
end
mutual
theorem Da.dp {K : PySem.W.Frag} {H : Hp} : ∀ (d : PyData) (v : V), Da K H v d → Dp K H v d
  | .none, _, h => by
    cases h
    exact .non
  | .bool b, _, h => by
    cases h
    exact .bl b
  | .int i, _, h => by
    cases h
    exact .int i
  | .str x, _, h => by
    cases h
    exact .str x
  | .tuple ds, _, h => by
    cases h with
    | tup hs ha => exact .tup (SqT.of hs) (Da.dpAll ds _ ha)
  | .list ds, _, h => by
    cases h with
    | lst hs ha => exact .lst hs (Da.dpAll ds _ ha)
  | .dict _, _, h => by cases h
theorem Da.dpAll {K : PySem.W.Frag} {H : Hp} : ∀ (ds : List PyData) (vs : List V), DaAll K H vs ds → DpAll K H vs ds
  | [], _, h => by
    cases h
    exact .nil
  | d :: ds, _, h => by
    cases h with
    | cons h1 h2 => exact .cons (Da.dp d _ h1) (Da.dpAll ds _ h2)
end
/-! ### tuples stay -/
def ST (_ : PySem.W.Frag) (H H' : Hp) : Prop := ∀ a xs, H a = some (.tup xs) → H' a = some (.tup xs)
theorem ST.refl {K : PySem.W.Frag} (H : Hp) : ST K H H := fun _ _ h => h
theorem ST.trans {K : PySem.W.Frag} {H H1 H2 : Hp} (a : ST K H H1) (b : ST K H1 H2) : ST K H H2 := fun x o h => b x o (a x o h)
theorem Same.st {K : PySem.W.Frag} {H H' : Hp} (e : Same H H') : ST K H H' := fun _ _ h => e _ _ h
/-- what is no tuple may change -/
def NoTup : HO → Prop
  | .tup _ => False
  | _ => True
theorem SameB.st {K : PySem.W.Frag} {H H' : Hp} {p : Addr} {o : HO} (e : SameB p H H') (h : H p = some o) (n : NoTup o) : ST K H H' := fun a xs q => by
  refine e a _ (fun z => ?_) q
  subst z
  rw [h] at q
  cases q
  exact n
theorem st_upd {K : PySem.W.Frag} {H : Hp} {p : Addr} {o u : HO} (h : H p = some o) (n : NoTup o) : ST K H (upd H p u) := SameB.st SameB.upd h n

/-! ### immutable data -/
mutual
def imm : PyData → Bool
  | .none => true
  | .bool _ => true
  | .int _ => true
  | .str _ => true
  | .tuple ds => immAll ds
  | .list _ => false
  | .dict _ => false
def immAll : List PyData → Bool
  | [] => true
  | d :: ds => imm d && immAll ds
end
mutual
theorem Da.st {K : PySem.W.Frag} {H H' : Hp} (e : ST K H H') : ∀ (d : PyData) (v : V), imm d = true → Da K H v d → Da K H' v d
  | .none, _, _, h => by
    cases h
    exact .non
  | .bool b, _, _, h => by
    cases h
    exact .bl b
  | .int i, _, _, h => by
    cases h
    exact .int i
  | .str x, _, _, h => by
    cases h
    exact .str x
  | .tuple ds, _, hi, h => by
    cases h with
    | tup hs ha => exact .tup (e _ _ hs) (Da.stAll e ds _ hi ha)
  | .list _, _, hi, _ => by cases hi
  | .dict _, _, hi, _ => by cases hi
theorem Da.stAll {K : PySem.W.Frag} {H H' : Hp} (e : ST K H H') : ∀ (ds : List PyData) (vs : List V), immAll ds = true → DaAll K H vs ds → DaAll K H' vs ds
  | [], _, _, h => by
    cases h
    exact .nil
  | d :: ds, _, hi, h => by
    cases h with
    | cons h1 h2 =>
      have hi' : (imm d && immAll ds) = true := hi
      rw [Bool.and_eq_true] at hi'
      exact .cons (Da.st e d _ hi'.1 h1) (Da.stAll e ds _ hi'.2 h2)
end
mutual
/-- all that was tracked stays: data of any kind -/
theorem Da.same {K : PySem.W.Frag} {H H' : Hp} (e : Same H H') : ∀ (d : PyData) (v : V), Da K H v d → Da K H' v d
  | .none, _, h => by
    cases h
    exact .non
  | .bool b, _, h => by
    cases h
    exact .bl b
  | .int i, _, h => by
    cases h
    exact .int i
  | .str x, _, h => by
    cases h
    exact .str x
  | .tuple ds, _, h => by
    cases h with
    | tup hs ha => exact .tup (e _ _ hs) (Da.sameAll e ds _ ha)
  | .list ds, _, h => by
    cases h with
    | lst hs ha => exact .lst (e.seq hs) (Da.sameAll e ds _ ha)
  | .dict _, _, h => by cases h
theorem Da.sameAll {K : PySem.W.Frag} {H H' : Hp} (e : Same H H') : ∀ (ds : List PyData) (vs : List V), DaAll K H vs ds → DaAll K H' vs ds
  | [], _, h => by
    cases h
    exact .nil
  | d :: ds, _, h => by
    cases h with
    | cons h1 h2 => exact .cons (Da.same e d _ h1) (Da.sameAll e ds _ h2)
end
theorem DaAll.length {K : PySem.W.Frag} {H : Hp} : ∀ {vs : List V} {ds : List PyData}, DaAll K H vs ds → vs.length = ds.length
  | _, _, .nil => rfl
  | _, _, .cons _ t => congrArg (· + 1) (DaAll.length t)
theorem DaAll.snoc {K : PySem.W.Frag} {H : Hp} {v : V} {d : PyData} (h : Da K H v d) : ∀ {vs : List V} {ds : List PyData}, DaAll K H vs ds → DaAll K H (vs ++ [v]) (ds ++ [d])
  | _, _, .nil => .cons h .nil
  | _, _, .cons r t => .cons r (DaAll.snoc h t)
theorem DaAll.append {K : PySem.W.Frag} {H : Hp} {us : List V} {es : List PyData} (h : DaAll K H us es) : ∀ {vs : List V} {ds : List PyData}, DaAll K H vs ds → DaAll K H (vs ++ us) (ds ++ es)
  | _, _, .nil => h
  | _, _, .cons r t => .cons r (DaAll.append h t)
theorem DaAll.get {K : PySem.W.Frag} {H : Hp} : ∀ {vs : List V} {ds : List PyData} {i : Nat} {v : V}, DaAll K H vs ds → vs[i]? = some v → ∃ d, ds[i]? = some d ∧ Da K H v d
  | _, _, _, _, .nil, e => by simp at e
  | _, _, 0, _, .cons r _, e => by
    simp at e
    subst e
    exact ⟨_, rfl, r⟩
  | _, _, i + 1, v, .cons _ t, e => by
    obtain ⟨d, h1, h2⟩ := DaAll.get (i := i) (v := v) t (by simpa using e)
    exact ⟨d, by simpa using h1, h2⟩
theorem DaAll.at {K : PySem.W.Frag} {H : Hp} : ∀ {vs : List V} {ds : List PyData} {i : Nat} {d : PyData}, DaAll K H vs ds → ds[i]? = some d → ∃ v, vs[i]? = some v ∧ Da K H v d
  | _, _, _, _, .nil, e => by simp at e
  | _, _, 0, _, .cons r _, e => by
    simp at e
    subst e
    exact ⟨_, rfl, r⟩
  | _, _, i + 1, d, .cons _ t, e => by
    obtain ⟨v, h1, h2⟩ := DaAll.at (i := i) (d := d) t (by simpa using e)
    exact ⟨v, by simpa using h1, h2⟩
theorem DaAll.ints {K : PySem.W.Frag} {H : Hp} : ∀ {vs : List V} {ns : List Int}, DaAll K H vs (ns.map PyData.int) → vs = ns.map V.int
  | _, [], .nil => rfl
  | _, n :: ns, .cons r t => by
    cases r
    rw [DaAll.ints (ns := ns) t]
    rfl
theorem da_ints {K : PySem.W.Frag} {H : Hp} : ∀ ns : List Int, DaAll K H (ns.map V.int) (ns.map PyData.int)
  | [] => .nil
  | n :: ns => .cons (.int n) (da_ints ns)
theorem imm_ints : ∀ ns : List Int, immAll (ns.map PyData.int) = true
  | [] => rfl
  | n :: ns => by
    show (imm (.int n) && immAll (ns.map PyData.int)) = true
    rw [imm_ints ns]
    rfl
/-- a moment (or a row of ints) -/
def mo (m : List Int) : PyData := .tuple (m.map .int)
abbrev Mo (K : PySem.W.Frag) (H : Hp) (v : V) (m : List Int) : Prop := Da K H v (mo m)
theorem imm_mo (m : List Int) : imm (mo m) = true := imm_ints m
theorem Mo.inv {K : PySem.W.Frag} {H : Hp} {v : V} {m : List Int} (h : Mo K H v m) : ∃ a, v = .ref a ∧ SqT K H a (m.map V.int) := by
  cases h with
  | tup hs ha =>
    rw [DaAll.ints ha] at hs
    exact ⟨_, rfl, SqT.of hs⟩
theorem Mo.trk {K : PySem.W.Frag} {H : Hp} {v : V} {m : List Int} (h : Mo K H v m) : ∃ a, v = .ref a ∧ H a = some (.tup (m.map V.int)) := by
  cases h with
  | tup hs ha =>
    rw [DaAll.ints ha] at hs
    exact ⟨_, rfl, hs⟩
theorem Mo.of {K : PySem.W.Frag} {H : Hp} {a : Addr} {m : List Int} (h : H a = some (.tup (m.map V.int))) : Mo K H (.ref a) m := .tup h (da_ints m)
theorem Mo.st {K : PySem.W.Frag} {H H' : Hp} {v : V} {m : List Int} (h : Mo K H v m) (e : ST K H H') : Mo K H' v m := Da.st e _ _ (imm_mo m) h
theorem Mo.same {K : PySem.W.Frag} {H H' : Hp} {v : V} {m : List Int} (h : Mo K H v m) (e : Same H H') : Mo K H' v m := h.st e.st

/-! ### walks -/
theorem walk_zipT {K : PySem.W.Frag} {a b : Addr} {xs ys : List V} (hl : xs.length = ys.length) : Walk (RZ.ItzT K a b) xs.length (fun H => SqT K H a xs ∧ SqT K H b ys) (YPair (fun i => xs[i]?) (fun i => ys[i]?)) := by
  refine ⟨fun i _ hi q => ?_, fun _ q => ⟨xs, ys, q.1, q.2, .inl (Nat.le_refl _)⟩, fun i H v H' _ q y => ?_⟩
  · have h2 : i < ys.length := by omega
    exact ⟨xs, ys, xs[i], ys[i], q.1, q.2, by simp [hi], by simp [h2]⟩
  · obtain ⟨T, x, z, h1, h2, h3, h4, h5⟩ := y
    exact ⟨T, x, z, h1, h2, h3, h4 xs q.1, h5 ys q.2⟩

/-! ### comprehensions -/
section
variable {J : It} {n : Nat} {G : Hp → Prop} {Y : Nat → Hp → V → Hp → Prop} {K : PySem.W.Frag}
/-- what lc_it gives, by name -/
abbrev LcGoal (J : It) (g : TG) (tt : TT) (te : TE) (vs : List Nat) (σ : L2.St) (H1 : Hp) (D : Addr) (Qd : Hp → Prop) : Prop :=
  ∃ W : Nat → Nat → Hp → Prop, (∃ m, W 0 m (upd H1 D (.lst []))) ∧ ∀ i m H, W i m H →
      (J.stop i H ∧ Qd H) ∨ (J.go i H ∧ ∃ Nx : Hp → Prop, (∀ H', Nx H' → ∃ m', m' < m ∧ W (i + 1) m' H') ∧ ∀ x H', J.yld i H x H' → g x (wipe σ vs) H' fun σ2 H2 => wipe σ2 vs = wipe σ vs ∧ tt σ2 H2 fun b H3 =>
        if b = true then te σ2 H3 fun y H4 => ∃ acc, H4 D = some (.lst acc) ∧ acc.length < sizeLine ∧ Nx (upd H4 D (.lst (acc ++ [y]))) else Nx H3)
/-- all elements are values told ahead -/
theorem lc_val (w : Walk J n G Y) {g : TG} {te : TE} {vs : List Nat} {σ : L2.St} {H1 : Hp} {D : Addr} {Qd : Hp → Prop} (hD : H1 D = none) (hn : n ≤ 100000) (hG : ∀ H, Same H1 H → G H) (fs : List V) (hl : fs.length = n)
    (step : ∀ i x H H' (Q : VK), i < n → Same H1 H → Y i H x H' → (∀ y H4, Same H H4 → fs[i]? = some y → Q y H4) → g x (wipe σ vs) H' fun σ2 H2 => wipe σ2 vs = wipe σ vs ∧ te σ2 H2 Q)
    (hd : ∀ H, Same H1 H → H D = some (.lst fs) → Qd H) : LcGoal J g tYes te vs σ H1 D Qd := by
  refine lc_it w (fun i H => Same H1 H ∧ H D = some (.lst (fs.take i))) ⟨same_upd hD, upd_same⟩ (fun i H _ p => hG H p.1) (fun i x H H' hi p y => ?_) (fun H p => ?_)
  · refine step i x H H' _ hi p.1 y fun v H4 e he => ⟨_, e _ _ p.2, ?_, (p.1.trans e).mut hD, ?_⟩
    · rw [List.length_take]
      exact Nat.lt_of_le_of_lt (Nat.min_le_left _ _) (Nat.lt_of_lt_of_le hi (Nat.le_trans hn (by decide)))
    · rw [upd_same, List.take_add_one, he]
      rfl
  · refine hd H p.1 ?_
    rw [p.2, List.take_of_length_le (Nat.le_of_eq hl)]
/-- all elements are immutable data told ahead -/
theorem lc_dat (w : Walk J n G Y) {g : TG} {te : TE} {vs : List Nat} {σ : L2.St} {H1 : Hp} {D : Addr} {Qd : Hp → Prop} (hD : H1 D = none) (hn : n ≤ 100000) (hG : ∀ H, Same H1 H → G H) (ds : List PyData) (hl : ds.length = n) (him : immAll ds = true)
    (step : ∀ i x H H' (Q : VK), i < n → Same H1 H → Y i H x H' → (∀ y H4 d, Same H H4 → ds[i]? = some d → Da K H4 y d → Q y H4) → g x (wipe σ vs) H' fun σ2 H2 => wipe σ2 vs = wipe σ vs ∧ te σ2 H2 Q)
    (hd : ∀ H acc, Same H1 H → H D = some (.lst acc) → DaAll K H acc ds → Qd H) : LcGoal J g tYes te vs σ H1 D Qd := by
  have himt : ∀ i, immAll (ds.take i) = true := by
    have : ∀ (l : List PyData) (i : Nat), immAll l = true → immAll (l.take i) = true := by
      intro l
      induction l with
      | nil => intro i _; cases i <;> rfl
      | cons d l ih =>
        intro i h
        have h' : (imm d && immAll l) = true := h
        rw [Bool.and_eq_true] at h'
        cases i with
        | zero => rfl
        | succ i =>
          show (imm d && immAll (l.take i)) = true
          rw [h'.1, ih i h'.2]
          rfl
    exact fun i => this ds i him
  refine lc_it w (fun i H => Same H1 H ∧ ∃ acc, H D = some (.lst acc) ∧ DaAll K H acc (ds.take i)) ⟨same_upd hD, [], upd_same, .nil⟩ (fun i H _ p => hG H p.1) (fun i x H H' hi p y => ?_) (fun H p => ?_)
  · obtain ⟨p1, acc, p2, p3⟩ := p
    refine step i x H H' _ hi p1 y fun v H4 d e he hv => ⟨acc, e _ _ p2, ?_, (p1.trans e).mut hD, _, upd_same, ?_⟩
    · rw [p3.length, List.length_take]
      exact Nat.lt_of_le_of_lt (Nat.min_le_left _ _) (Nat.lt_of_lt_of_le hi (Nat.le_trans hn (by decide)))
    · rw [List.take_add_one, he]
      have e4 : H4 D = some (.lst acc) := e _ _ p2
      have st : ST K H4 (upd H4 D (.lst (acc ++ [v]))) := st_upd e4 True.intro
      have hid : imm d = true := by
        have : ∀ (l : List PyData) (i : Nat), immAll l = true → l[i]? = some d → imm d = true := by
          intro l
          induction l with
          | nil => intro i _ h; simp at h
          | cons d' l ih =>
            intro i h h2
            have h' : (imm d' && immAll l) = true := h
            rw [Bool.and_eq_true] at h'
            cases i with
            | zero =>
              simp at h2
              subst h2
              exact h'.1
            | succ i => exact ih i h'.2 (by simpa using h2)
        exact this ds i him he
      exact DaAll.snoc (Da.st st _ _ hid hv) (Da.stAll (e.st.trans st) _ _ (himt i) p3)
  · obtain ⟨p1, acc, p2, p3⟩ := p
    rw [List.take_of_length_le (Nat.le_of_eq hl)] at p3
    exact hd H acc p1 p2 p3
end
/-! ### short names of readings -/
abbrev yAdd : R2 := rI0 fun i j => .int (i + j)
abbrev ySub : R2 := rI0 fun i j => .int (i - j)
abbrev yMul : R2 := rI CMul fun i j => .int (i * j)
abbrev yDiv : R2 := rI CDivW fun i j => .int (i / j)
abbrev yMod : R2 := rI (fun _ j => 0 < j) fun i j => .int (i % j)
abbrev yPow : R2 := rI CPow fun i j => .int (i ^ j.toNat)
abbrev yLt : R2 := rI0 fun i j => .bl (decide (i < j))
abbrev yLe : R2 := rI0 fun i j => .bl (decide (i ≤ j))
abbrev yGt : R2 := rI0 fun i j => .bl (decide (j < i))
abbrev yGe : R2 := rI0 fun i j => .bl (decide (j ≤ i))
abbrev yNeg : V → Hp → VK → Prop := rU fun i => .int (-i)
abbrev yLen (K : PySem.W.Frag) : List V → Hp → VK → Prop := fun vs H Q => ∃ p ys, vs = [.ref p] ∧ (SqL K H p ys ∨ SqT K H p ys) ∧ Q (.int ys.length) H
abbrev yMax : List V → Hp → VK → Prop := fun vs H Q => ∃ i j, vs = [.int i, .int j] ∧ Q (.int (if j > i then j else i)) H
abbrev yMin : List V → Hp → VK → Prop := fun vs H Q => ∃ i j, vs = [.int i, .int j] ∧ Q (.int (if j < i then j else i)) H
abbrev yInt : List V → Hp → VK → Prop := fun vs H Q => (∃ i, vs = [.int i] ∧ Q (.int i) H) ∨ ∃ k, vs = [.bl k] ∧ Q (.int (if k then 1 else 0)) H
abbrev yTup (K : PySem.W.Frag) : List V → Hp → VK → Prop := fun vs H Q => ∃ p ys, vs = [.ref p] ∧ ((SqL K H p ys ∧ ∀ l, H l = none → Q (.ref l) (upd H l (.tup ys))) ∨ (SqT K H p ys ∧ Q (.ref p) H))
abbrev yLst (K : PySem.W.Frag) : List V → Hp → VK → Prop := fun vs H Q => ∃ p ys, vs = [.ref p] ∧ (SqL K H p ys ∨ SqT K H p ys) ∧ ∀ l, H l = none → Q (.ref l) (upd H l (.lst ys))
theorem hu64 {A : Around} {k : Nat} (hr : Room k A) : A.units + 64 < cLine := by
  have := hr.un
  omega
theorem hu0 {A : Around} {k : Nat} (hr : Room k A) : A.units < cLine := by
  have := hr.un
  omega
end L2

namespace L2
open PySem PySem.Spec PyProof.Rows
theorem immAll_append : ∀ {a b : List PyData}, immAll a = true → immAll b = true → immAll (a ++ b) = true
  | [], _, _, h => h
  | d :: a, b, h1, h2 => by
    have h' : (imm d && immAll a) = true := h1
    rw [Bool.and_eq_true] at h'
    show (imm d && immAll (a ++ b)) = true
    rw [h'.1, immAll_append h'.2 h2]
    rfl
theorem immAll_at {d : PyData} : ∀ {l : List PyData} {i : Nat}, immAll l = true → l[i]? = some d → imm d = true
  | [], _, _, h => by simp at h
  | e :: l, i, h1, h2 => by
    have h' : (imm e && immAll l) = true := h1
    rw [Bool.and_eq_true] at h'
    cases i with
    | zero =>
      simp at h2
      subst h2
      exact h'.1
    | succ i => exact immAll_at h'.2 (by simpa using h2)
theorem immAll_take : ∀ {l : List PyData} (i : Nat), immAll l = true → immAll (l.take i) = true
  | [], i, _ => by cases i <;> rfl
  | e :: l, i, h1 => by
    have h' : (imm e && immAll l) = true := h1
    rw [Bool.and_eq_true] at h'
    cases i with
    | zero => rfl
    | succ i =>
      show (imm e && immAll (l.take i)) = true
      rw [h'.1, immAll_take i h'.2]
      rfl
theorem immAll_of : ∀ {l : List PyData}, (∀ d ∈ l, imm d = true) → immAll l = true
  | [], _ => rfl
  | e :: l, h => by
    show (imm e && immAll l) = true
    rw [h e List.mem_cons_self, immAll_of fun d hd => h d (List.mem_cons_of_mem _ hd)]
    rfl
theorem sz1000' {n : Nat} (h : n ≤ 100000) : n ≤ sizeLine := Nat.le_trans h (by decide)
section
variable {J J1 : It} {n n1 : Nat} {G G1 : Hp → Prop} {Y Y1 : Nat → Hp → V → Hp → Prop} {K : PySem.W.Frag}
/-- two clauses, the inner one over a thing that stands still; immutable data told ahead -/
theorem lc2_dat (w : Walk J n G Y) (w1 : Walk J1 n1 G1 Y1) {wi1 : TI} {g g1 : TG} {te : TE} {vs vs1 : List Nat} {σ : L2.St} {H1 : Hp} {D : Addr} {Qd : Hp → Prop} (hD : H1 D = none) (hn : n * n1 ≤ 100000)
    (hG : ∀ H, Same H1 H → G H) (hG1 : ∀ H, Same H1 H → G1 H) (ds : Nat → List PyData) (hl : ∀ i, i < n → (ds i).length = n1) (him : ∀ i, i < n → immAll (ds i) = true)
    (step : ∀ i x H H' (Q : L2.St → Hp → Prop), i < n → Same H1 H → Y i H x H' →
      (∀ σ2 H2, Same H H2 → wipe σ2 vs = wipe σ vs → ((∀ H3 R, Same H2 H3 → R J1 H3 → wi1 σ2 H3 R) ∧
        (∀ j y H3 H3' (Q' : VK), j < n1 → Same H1 H3 → ST K H2 H3 → Y1 j H3 y H3' → (∀ z H4 d, Same H3 H4 → (ds i)[j]? = some d → Da K H4 z d → Q' z H4) → g1 y (wipe σ2 vs1) H3' fun σ3 H5 => wipe σ3 vs1 = wipe σ2 vs1 ∧ te σ3 H5 Q')) → Q σ2 H2) → g x (wipe σ vs) H' Q)
    (hd : ∀ H acc, Same H1 H → H D = some (.lst acc) → DaAll K H acc ((List.range n).map ds).flatten → Qd H) :
    ∃ W : Nat → Nat → Hp → Prop, (∃ m, W 0 m (upd H1 D (.lst []))) ∧ ∀ i m H, W i m H →
      (J.stop i H ∧ Qd H) ∨ (J.go i H ∧ ∃ Nx : Hp → Prop, (∀ H', Nx H' → ∃ m', m' < m ∧ W (i + 1) m' H') ∧ ∀ x H', J.yld i H x H' → g x (wipe σ vs) H' fun σ2 H2 => wipe σ2 vs = wipe σ vs ∧ tYes σ2 H2 fun b H3 =>
        if b = true then wi1 σ2 H3 fun J1 H4 => ∃ W1 : Nat → Nat → Hp → Prop, (∃ m, W1 0 m H4) ∧ ∀ j k H, W1 j k H →
          (J1.stop j H ∧ Nx H) ∨ (J1.go j H ∧ ∃ Nx1 : Hp → Prop, (∀ H', Nx1 H' → ∃ k', k' < k ∧ W1 (j + 1) k' H') ∧ ∀ x H', J1.yld j H x H' → g1 x (wipe σ2 vs1) H' fun σ3 H5 => wipe σ3 vs1 = wipe σ2 vs1 ∧ tYes σ3 H5 fun b H6 =>
            if b = true then te σ3 H6 fun y H7 => ∃ acc, H7 D = some (.lst acc) ∧ acc.length < sizeLine ∧ Nx1 (upd H7 D (.lst (acc ++ [y]))) else Nx1 H6)
        else Nx H3) := by
  have flen : ∀ i, i ≤ n → ((List.range i).map ds).flatten.length = i * n1 := by
    intro i
    induction i with
    | zero => intro _; simp
    | succ i ih =>
      intro h
      rw [List.range_succ, List.map_append, List.flatten_append, List.length_append, ih (by omega)]
      simp [hl i (by omega), Nat.succ_mul]
  have fimm : ∀ i, i ≤ n → immAll ((List.range i).map ds).flatten = true := by
    intro i
    induction i with
    | zero => intro _; rfl
    | succ i ih =>
      intro h
      rw [List.range_succ, List.map_append, List.flatten_append]
      refine immAll_append (ih (by omega)) ?_
      simpa using him i (by omega)
  have fsnoc : ∀ i, ((List.range (i + 1)).map ds).flatten = ((List.range i).map ds).flatten ++ ds i := by
    intro i
    rw [List.range_succ, List.map_append, List.flatten_append]
    simp
  refine ⟨fun i m H => m = n - i ∧ i ≤ n ∧ Same H1 H ∧ ∃ acc, H D = some (.lst acc) ∧ DaAll K H acc ((List.range i).map ds).flatten, ⟨n, by simp, Nat.zero_le _, same_upd hD, [], upd_same, .nil⟩, ?_⟩
  rintro i m H ⟨rfl, hi, p1, acc, p2, p3⟩
  by_cases hlt : i < n
  · refine .inr ⟨w.goes i H hlt (hG H p1), fun H' => Same H1 H' ∧ ∃ acc, H' D = some (.lst acc) ∧ DaAll K H' acc ((List.range (i + 1)).map ds).flatten, fun H' ⟨q1, q2⟩ => ⟨n - (i + 1), by omega, rfl, hlt, q1, q2⟩, fun x H' y => ?_⟩
    refine step i x H H' _ hlt p1 (w.yields i H x H' hlt (hG H p1) y) fun σ2 H2 e2 ws ⟨hin, el⟩ => ?_
    refine ⟨ws, ?_⟩
    show wi1 σ2 H2 _
    refine hin H2 _ (Same.refl _) ?_
    refine ⟨fun j k H => k = n1 - j ∧ j ≤ n1 ∧ Same H1 H ∧ ST K H2 H ∧ ∃ acc, H D = some (.lst acc) ∧ DaAll K H acc (((List.range i).map ds).flatten ++ (ds i).take j), ⟨n1, by simp, Nat.zero_le _, p1.trans e2, ST.refl _, acc, e2 _ _ p2, ?_⟩, ?_⟩
    · rw [List.take_zero, List.append_nil]
      exact Da.sameAll e2 _ _ p3
    · rintro j k H3 ⟨rfl, hj, q1, qb, acc3, q2, q3⟩
      by_cases hjl : j < n1
      · refine .inr ⟨w1.goes j H3 hjl (hG1 H3 q1), fun H' => Same H1 H' ∧ ST K H2 H' ∧ ∃ acc, H' D = some (.lst acc) ∧ DaAll K H' acc (((List.range i).map ds).flatten ++ (ds i).take (j + 1)), fun H' ⟨r1, r2⟩ => ⟨n1 - (j + 1), by omega, rfl, hjl, r1, r2⟩, fun x3 H3' y3 => ?_⟩
        refine el j x3 H3 H3' _ hjl q1 qb (w1.yields j H3 x3 H3' hjl (hG1 H3 q1) y3) fun z H4 d e4 hd4 hz => ?_
        have e5 : H4 D = some (.lst acc3) := e4 _ _ q2
        have st : ST K H4 (upd H4 D (.lst (acc3 ++ [z]))) := st_upd e5 True.intro
        refine ⟨acc3, e5, ?_, (q1.trans e4).mut hD, (qb.trans e4.st).trans st, _, upd_same, ?_⟩
        · have l3 := q3.length
          rw [List.length_append, flen i hi, List.length_take] at l3
          have hle : (i + 1) * n1 ≤ n * n1 := Nat.mul_le_mul_right _ hlt
          rw [Nat.succ_mul] at hle
          refine Nat.lt_of_lt_of_le ?_ (sz1000' hn)
          have : min j (ds i).length ≤ j := Nat.min_le_left _ _
          omega
        · rw [List.take_add_one, hd4, ← List.append_assoc]
          exact DaAll.snoc (Da.st st _ _ (immAll_at (him i hlt) hd4) hz) (Da.stAll (e4.st.trans st) _ _ (immAll_append (fimm i hi) (immAll_take j (him i hlt))) q3)
      · have ej : j = n1 := by omega
        subst ej
        refine .inl ⟨w1.stops H3 (hG1 H3 q1), q1, acc3, q2, ?_⟩
        rw [fsnoc]
        rw [List.take_of_length_le (Nat.le_of_eq (hl i hlt))] at q3
        exact q3
  · have e : i = n := by omega
    subst e
    exact .inl ⟨w.stops H (hG H p1), hd H acc p1 p2 p3⟩
/-- a comprehension with a test: values told ahead -/
theorem lc_val_if (w : Walk J n G Y) {g : TG} {tt : TT} {te : TE} {vs : List Nat} {σ : L2.St} {H1 : Hp} {D : Addr} {Qd : Hp → Prop} (hD : H1 D = none) (hn : n ≤ 100000) (hG : ∀ H, Same H1 H → G H) (bs : Nat → Bool) (fs : Nat → V)
    (step : ∀ i x H H' (Q : VK) (R : Hp → Prop), i < n → Same H1 H → Y i H x H' → (∀ H4, bs i = true → Same H H4 → Q (fs i) H4) → (∀ H3, bs i = false → Same H H3 → R H3) →
      g x (wipe σ vs) H' fun σ2 H2 => wipe σ2 vs = wipe σ vs ∧ tt σ2 H2 fun b H3 => if b = true then te σ2 H3 Q else R H3)
    (hd : ∀ H, Same H1 H → H D = some (.lst (((List.range n).filter bs).map fs)) → Qd H) : LcGoal J g tt te vs σ H1 D Qd := by
  refine lc_it w (fun i H => Same H1 H ∧ H D = some (.lst (((List.range i).filter bs).map fs))) ⟨same_upd hD, upd_same⟩ (fun i H _ p => hG H p.1) (fun i x H H' hi p y => ?_) (fun H p => hd H p.1 p.2)
  refine step i x H H' _ _ hi p.1 y (fun H4 hb e => ⟨_, e _ _ p.2, ?_, (p.1.trans e).mut hD, ?_⟩) fun H3 hb e => ⟨p.1.trans e, ?_⟩
  · rw [List.length_map]
    refine Nat.lt_of_le_of_lt (List.length_filter_le _ _) ?_
    rw [List.length_range]
    exact Nat.lt_of_lt_of_le hi (Nat.le_trans hn (by decide))
  · rw [upd_same, List.range_succ, List.filter_append, List.map_append]
    simp [hb]
  · rw [e _ _ p.2, List.range_succ, List.filter_append, List.map_append]
    simp [hb]
end
theorem SameB.mut {p q : Addr} {H H' : Hp} {o : HO} (e : SameB p H H') (h : H q = none) : SameB p H (L2.upd H' q o) := fun a u n ha => by
  rw [upd_ne (ne_of_none ha h)]
  exact e a u n ha
theorem SameB.fresh {p q : Addr} {H H' : Hp} (e : SameB p H H') (hp : ∃ o, H p = some o) (h : H' q = none) (hp' : ∃ o, H' p = some o) : H q = none := by
  cases z : H q with
  | none => rfl
  | some o =>
    by_cases hq : q = p
    · subst hq
      obtain ⟨o', ho'⟩ := hp'
      rw [h] at ho'
      cases ho'
    · rw [e q o hq z] at h
      cases h
theorem SameB.seqT {K : PySem.W.Frag} {p a : Addr} {H H' : Hp} {l xs : List V} (e : SameB p H H') (hp : H p = some (.lst l)) (h : SqT K H a xs) : SqT K H' a xs := by
  rcases h with (h | ⟨o, h⟩) | h
  · exact .inl (.inl (e _ _ (ne_of h hp (by intro z; cases z)) h))
  · exact .inl (.inr ⟨o, e _ _ (ne_of h hp (by intro z; cases z)) h⟩)
  · exact .inr h
/-- a lock and its key: behind the unlocking all is as it was -/
theorem same_unlock {d : Addr} {o : Obj} {u : HO} {H H' : Hp} (h : H d = some u) (e : Same (upd H d (.frz o u)) H') : Same H (upd H' d u) := fun a x ha => by
  by_cases z : a = d
  · subst z
    rw [upd_same, ← h, ha]
  · rw [upd_ne z]
    exact e a x (by rw [upd_ne z]; exact ha)
theorem same_lock {d : Addr} {o : Obj} {u : HO} {H H' : Hp} (e : Same (upd H d (.frz o u)) H') : SameB d H H' := fun a x n ha => e a x (by rw [upd_ne n]; exact ha)
end L2

namespace L2
open PySem PySem.Spec PyProof.Rows
/-! ### x in o, by the class's own __contains__ -/
def rInOwn (C : Addr) (sp : Sp) (E : XK) : R2 := fun x y H Q => ∃ a dx fs, y = .ref a ∧ H a = some (.ins C dx fs) ∧ sp [.ref a, x] H (fun v H' => ∃ b, v = .bl b ∧ Q (.bl b) H') E
section
variable {X : Cx} {CX : CXT} {k : Nat} {C f : Addr} {fd : FuncData} {ps : List Str} {sp : Sp} {E : XK}
theorem op_inOwn (F : FnOk X.prog X.w X.K X.mg X.base CX k f fd ps sp) (hs : PySem.W.findIn X.K (.ref C) "__contains__" = some (some (.ref f))) (hf : PySem.W.isFn X.K (.ref f) = true) (hb : Binds X.K fd ps []) (hx : Passes CX X E) (hr : Room k X.A) : OpR X (compareOp .In) (rInOwn C sp E) := by
  intro pins s σ H x y v u Q I rx ry h
  obtain ⟨a, dx, fs, rfl, ha, q⟩ := h
  cases ry
  obtain ⟨mA, J, _⟩ := ins_get I.hok ha
  obtain ⟨od, J, _⟩ := J.look
  obtain ⟨m, hF⟩ := I.fr
  refine PySem.W.in_K hF I.ok.mod.kin J hs hf ?_
  have q2 : sp ([V.ref a, x] ++ []) H (fun v H' => ∃ b, v = V.bl b ∧ Q (.bl b) H') E := q
  refine thn (run_fn (us := [.ref a, v]) (vs := [.ref a, x]) (dvs := []) F hr hb .nil hx I (.cons rfl (.cons rx .nil)) q2) fun r s' hz => ?_
  obtain ⟨z, H', I', rz, b, ez, q'⟩ := hz
  subst ez
  cases rz
  exact wpAny_truthy_bool ⟨V.bl b, H', I', rfl, q'⟩
/-- o.m(k = v, ..) -/
def tMethK0 (m : Str) (C : Addr) (sp : Sp) (gV : List V → List V → List V) (E : XK) (ta : TE) (tk : TA) : TE := fun σ H Q => ta σ H fun x H1 => ∃ a dx fs, x = .ref a ∧ H1 a = some (.ins C dx fs) ∧ fs.lookup m = none ∧ tk σ H1 fun zs H2 => sp (gV [x] zs) H2 Q E
theorem pe_methK0 {m : Str} {o : Expr} {apos pos : Pos} {ta : TE} {tk : TA} {kws : List Keyword} {ks : List Str} {g : List Value → List Value → List Value} {gV : List V → List V → List V} {pl : Sem Bool} (he : PE X o ta) (c : Cls X.K C) (hm : Meth X.K C m f)
    (F : FnOk X.prog X.w X.K X.mg X.base CX k f fd ps sp) (hr : Room k X.A) (hb : KBinds X.K fd ps ks g gV) (hx : Passes CX X E) (hkw : PK X kws tk)
    (hall : (backToKw pos (keywordEach kws X.env)).all (·.1.isSome) = true := by rfl) (hks : (backToKw pos (keywordEach kws X.env)).filterMap (·.1) = ks := by rfl)
    (hpl : ((backTo pos (starEach [] X.env)).any (·.1) || (backToKw pos (keywordEach kws X.env)).any (·.1.isNone)) = false := by rfl)
    (ht : eval (.Call (.Attribute o m apos) [] kws pos) X.env = (do
      let ov ← eval o X.env
      standAt apos.atName
      let (f, first) ← holding [ov] (getMethod ov m pl)
      callWith pos f first (backTo pos (starEach [] X.env)) (backToKw pos (keywordEach kws X.env))) := by rfl) :
    PE X (.Call (.Attribute o m apos) [] kws pos) (tMethK0 m C sp gV E ta tk) := by
  refine ⟨fun pins s σ H Q I h => ?_⟩
  refine PySem.W.methodCall_KW (pl := pl) (thn (he.run pins s σ H _ I h) fun u s1 ⟨x, H1, I1, rx, a, dx, fs, ex, ea, l, q⟩ => ?_) ht
  subst ex
  obtain rfl : u = Value.ref a := rx
  refine getmeth_ok I1 ea c hm l ?_
  refine PySem.W.callWith_KW0 (first := [.ref a]) (h₀ := X.base) I.ok.mod.kin hm.kp hall ?_ hpl
  refine thn (hkw.run pos pins s1 σ H1 _ I1 q) fun ws s2 ⟨zs, H2, I2, rz, q2⟩ => ⟨I2.kIn, ?_⟩
  rw [hks]
  exact run_fnk (us := [.ref a]) (vs := [.ref a]) F hr hb hx I2 (.cons rfl .nil) rz q2
end
/-! ### tuple * int, 1 included -/
theorem tuple_mul1 (l : Addr) (items : Array Value) (n : Nat) (dd : Option Addr) (sl : Array (Option Value)) (u : Tok) :
    Meets (Builtin.«tuple.__mul__» ⟨[.ref l, .int 1 u], []⟩) (fun _ R s => s.heap.get? l = some { cls := .type "tuple", dict := dd, data := .seq items n, slots := sl } ∧ R (.ok (.ret (Value.ref l))) s) :=
  .of_wp fun prog w A R s h => by
    obtain ⟨hp, g, d, tk, os⟩ := s
    obtain ⟨hl, h⟩ := h
    have f1 := AutoSeq1.idx_int
    wp_walk using wpAny_loadPart' hl
    exact ⟨_, rfl, h⟩
def rRepA (K : PySem.W.Frag) : R2 := fun x y H Q => (∃ l xs, x = .ref l ∧ y = .int 1 ∧ SqT K H l xs ∧ Q (.ref l) H) ∨ rRepT K x y H Q
theorem op_repA {X : Cx} : OpR X (binaryOp .Mult) (rRepA X.K) := by
  intro pins s σ H x y v u Q I rx ry h
  rcases h with h | h
  · obtain ⟨l, xs, rfl, rfl, hT, q⟩ := h
    cases rx
    obtain ⟨t, rfl⟩ := ry
    obtain ⟨its, r, ⟨⟨cls, dd, data, sl⟩, ho, hc, n, hd⟩, hs⟩ := I.tuple hT
    simp only at hc hd
    subst hc hd
    refine wpAny_binaryOp_repeat_ref (T := "tuple") (U := "int") (by decide) ⟨_, ho, rfl⟩ (fun s' => typeIs_int s' 1 t) noFill_tuple_mul F.fills_int_mul F.slot_int_rmul repeat_tuple F.slot_int_index.lookup
      (call_meets F.slot_int_rmul (typeIs_int s 1 t) F.entry_int_rmul (F.args_int_rmul_2 _ _) (int_rmul_tuple 1 t l its.toArray n dd sl)
        ⟨ho, rfl, ⟨_, ho, rfl⟩, call_meets F.slot_tuple_mul ⟨_, ho, rfl⟩ F.entry_tuple_mul (F.args_tuple_mul_2 _ _) (tuple_mul1 l its.toArray n dd sl t) ⟨ho, ?_⟩⟩)
    exact ⟨.ref l, H, I, rfl, q⟩
  · exact op_repT pins s σ H x y v u Q I rx ry h

theorem hu65 {A : Around} {k : Nat} (hr : Room k A) : A.units + 65 < cLine := by
  have := hr.un
  omega
theorem pe_globI {X : Cx} {x : Str} {i : Int} {pos : Pos} (h : ∃ t, X.mg x = some (.int i t)) (hg : Gl X x) (hdb : (x == ("__debug__" : Str)) = false := by decide) : PE X (.Name x pos) (tC (.int i)) := by
  obtain ⟨t, h⟩ := h
  exact pe_glob hg h ⟨t, rfl⟩ hdb
/-- sorted(xs), fewer than 64 tuples of d ints in [0, B) -/
def rSortM (K : PySem.W.Frag) : List V → Hp → VK → Prop := fun vs H Q => ∃ d B, 1 ≤ d ∧ rSortU K d B vs H Q
theorem cr_sortM {X : Cx} : CallR X (.builtin "sorted") (rSortM X.K) := by
  intro pins s σ H vs us Q I r h
  obtain ⟨d, B, hd, h⟩ := h
  exact cr_sortT hd pins s σ H vs us Q I r h
/-! ### classes by name -/
/-- the def m stands in the class at C -/
def TopM (K : PySem.W.Frag) (C : Addr) (m qual : Str) (st : Stmt) (ps : List Str) : Prop :=
  ∃ (f : Addr) (fd : FuncData), Fun K m qual st f fd ∧ Meth K C m f ∧ Binds K fd ps []
def TopMK (K : PySem.W.Frag) (C : Addr) (m qual : Str) (st : Stmt) (ps ks : List Str) (gV : List V → List V → List V) : Prop :=
  ∃ (f : Addr) (fd : FuncData) (g : List Value → List Value → List Value), Fun K m qual st f fd ∧ Meth K C m f ∧ KBinds K fd ps ks g gV
def MethD (P : Program) (w : World) (K : PySem.W.Frag) (mg : Str → Option Value) (base : Heap) (C : Addr) (m : Str) (k : Nat) (ps : List Str) (sp : Sp) : Prop :=
  ∃ (f : Addr) (fd : FuncData), Meth K C m f ∧ FnOk P w K mg base CX0 k f fd ps sp ∧ Binds K fd ps [] ∧ ∃ (oc : Value) (od : Option Addr) (osl : Array (Option Value)), K.lookup f = some ⟨oc, od, .func fd, osl⟩
def MethDK (P : Program) (w : World) (K : PySem.W.Frag) (mg : Str → Option Value) (base : Heap) (C : Addr) (m : Str) (k : Nat) (ps ks : List Str) (gV : List V → List V → List V) (sp : Sp) : Prop :=
  ∃ (f : Addr) (fd : FuncData) (g : List Value → List Value → List Value), Meth K C m f ∧ FnOk P w K mg base CX0 k f fd ps sp ∧ KBinds K fd ps ks g gV
def MakeD (P : Program) (w : World) (K : PySem.W.Frag) (mg : Str → Option Value) (base : Heap) (C : Addr) (x : Str) (k : Nat) (ps : List Str) (sp : Sp) : Prop :=
  ∃ (f : Addr) (fd : FuncData), Mk K C f ∧ mg x = some (.ref C) ∧ FnOk P w K mg base CX0 k f fd ps sp ∧ Binds K fd ps []
section
variable {P : Program} {w : World} {K : PySem.W.Frag} {mg : Str → Option Value} {base : Heap} {C : Addr} {m qual x : Str} {st : Stmt} {ps N : List Str} {k : Nat} {sp : Sp}
theorem mk_meth (T : TopM K C m qual st ps) (S : FnScope N ps (defScope st)) (len : ∀ vs H Q E, sp vs H Q E → vs.length = ps.length)
    (hbody : ∀ (f : Addr) (cdv : Value) (A : Around) (outer : List Env) (s : Shared) (H : Hp) (vs : List V) (Q : VK) (E : XK), Room k (A.deeper (envOfC qual (defScope st) s.heap.objs.size f cdv)) → sp vs H Q E →
      ∃ t, PSs (cxOf CX0 P w K mg base N qual (defScope st) f cdv A outer s H E).nox (defBody st) t ∧ t { nx := fun _ H' => Q .non H', rt := Q } (start N vs) H) :
    MethD P w K mg base C m (k + 1) ps sp := by
  obtain ⟨f, fd, F, M, b⟩ := T
  obtain ⟨oc, _, _, _, _, _, _, _, osl, _, lk, _⟩ := id F.ex
  exact ⟨f, fd, M, F.ok S len (hbody f), b, _, _, _, lk⟩
theorem MethD.kw {ks : List Str} {gV : List V → List V → List V} (D : MethD P w K mg base C m k ps sp) (T : TopMK K C m qual st ps ks gV) : MethDK P w K mg base C m k ps ks gV sp := by
  obtain ⟨f, fd, M, F, b, _, _, _, lk⟩ := D
  obtain ⟨f', fd', g', F', M', b'⟩ := T
  have e := M'.at_.symm.trans M.at_
  obtain rfl : f' = f := Value.ref.inj (Option.some.inj (Option.some.inj e))
  obtain ⟨oc, _, _, _, _, _, _, _, osl, _, lk', _⟩ := id F'.ex
  rw [lk] at lk'
  cases lk'
  exact ⟨f', fd, g', M, F, b'⟩
theorem MethD.make (D : MethD P w K mg base C "__init__" k ps sp) (hm : PySem.W.makesIn K C = true) (hk : PySem.W.keepIn K (.ref C) = true) (hg : mg x = some (.ref C)) : MakeD P w K mg base C x k ps sp := by
  obtain ⟨f, fd, M, F, b, _⟩ := D
  exact ⟨f, fd, ⟨hm, M.at_, M.fn, hk⟩, hg, F, b⟩
end
section
variable {X : Cx} {C : Addr} {m x : Str} {k : Nat} {ps : List Str} {sp : Sp} {p pos apos : Pos} {o e : Expr} {es : List Expr} {ta : TE} {t : TA}
theorem pe_methM {pl : Sem Bool} (he : PE X o ta) (c : Cls X.K C) (D : MethD X.prog X.w X.K X.mg X.base C m k ps sp) (hr : Room k X.A) (ha : PA X (e :: es) t)
    (hst : starEach (e :: es) X.env = (false, eval e X.env) :: starEach es X.env := by rfl) (hpl : (backTo pos (starEach es X.env)).any (·.1) = false := by rfl)
    (ht : eval (.Call (.Attribute o m apos) (e :: es) [] pos) X.env = (do
      let ov ← eval o X.env
      standAt apos.atName
      let (f, first) ← holding [ov] (getMethod ov m pl)
      callWith pos f first (backTo pos (starEach (e :: es) X.env)) (backToKw pos (keywordEach [] X.env))) := by rfl) :
    PE X (.Call (.Attribute o m apos) (e :: es) [] pos) (tMeth C m sp [] E0 ta t) := by
  obtain ⟨f, fd, M, F, b, _⟩ := D
  exact pe_meth he c M F hr b .nil pass0 ha hst hpl ht
theorem pe_methM0 {pl : Sem Bool} (he : PE X o ta) (c : Cls X.K C) (D : MethD X.prog X.w X.K X.mg X.base C m k ps sp) (hr : Room k X.A)
    (ht : eval (.Call (.Attribute o m apos) [] [] pos) X.env = (do
      let ov ← eval o X.env
      standAt apos.atName
      let (f, first) ← holding [ov] (getMethod ov m pl)
      callWith pos f first (backTo pos (starEach [] X.env)) (backToKw pos (keywordEach [] X.env))) := by rfl) :
    PE X (.Call (.Attribute o m apos) [] [] pos) (tMeth C m sp [] E0 ta tNil) := by
  obtain ⟨f, fd, M, F, b, _⟩ := D
  exact pe_meth0 he c M F hr b .nil pass0 ht
theorem pe_methMK0 {pl : Sem Bool} {ks : List Str} {gV : List V → List V → List V} {kws : List Keyword} {tk : TA} (he : PE X o ta) (c : Cls X.K C) (D : MethDK X.prog X.w X.K X.mg X.base C m k ps ks gV sp) (hr : Room k X.A) (hkw : PK X kws tk)
    (hall : (backToKw pos (keywordEach kws X.env)).all (·.1.isSome) = true := by rfl) (hks : (backToKw pos (keywordEach kws X.env)).filterMap (·.1) = ks := by rfl)
    (hpl : ((backTo pos (starEach [] X.env)).any (·.1) || (backToKw pos (keywordEach kws X.env)).any (·.1.isNone)) = false := by rfl)
    (ht : eval (.Call (.Attribute o m apos) [] kws pos) X.env = (do
      let ov ← eval o X.env
      standAt apos.atName
      let (f, first) ← holding [ov] (getMethod ov m pl)
      callWith pos f first (backTo pos (starEach [] X.env)) (backToKw pos (keywordEach kws X.env))) := by rfl) :
    PE X (.Call (.Attribute o m apos) [] kws pos) (tMethK0 m C sp gV E0 ta tk) := by
  obtain ⟨f, fd, g, M, F, b⟩ := D
  exact pe_methK0 he c M F hr b pass0 hkw hall hks hpl ht
theorem pe_makeM (D : MakeD X.prog X.w X.K X.mg X.base C x k ps sp) (hr : Room (k + 1) X.A) (hg : Gl X x) (ha : PA X (e :: es) t) (hdb : (x == ("__debug__" : Str)) = false := by decide)
    (he : starEach (e :: es) X.env = (false, eval e X.env) :: starEach es X.env := by rfl) (hpl : (backTo pos (starEach es X.env)).any (·.1) = false := by rfl) :
    PE X (.Call (.Name x p) (e :: es) [] pos) (tMake C sp [] E0 t) := by
  obtain ⟨f, fd, M, hm, F, b⟩ := D
  exact pe_make M F hr hg hm b .nil pass0 ha hdb he hpl
theorem op_inM (D : MethD X.prog X.w X.K X.mg X.base C "__contains__" k ps sp) (hr : Room k X.A) : OpR X (compareOp .In) (rInOwn C sp E0) := by
  obtain ⟨f, fd, M, F, b, _⟩ := D
  exact op_inOwn F M.at_ M.fn b pass0 hr
end
/-- o.m(k = v): the object, then the value -/
def kwG {α : Type} : List α → List α → List α
  | [u], [w] => [u, w]
  | _, _ => []
theorem kw_rel : ∀ {vs : List V} {us : List Value} {zs : List V} {ws : List Value}, Vals vs us → Vals zs ws → Vals (kwG vs zs) (kwG us ws)
  | _, _, _, _, .nil, _ => .nil
  | _, _, _, _, .cons r .nil, .cons r' .nil => .cons r (.cons r' .nil)
  | _, _, _, _, .cons r .nil, .nil => .nil
  | _, _, _, _, .cons r .nil, .cons _ (.cons _ _) => .nil
  | _, _, _, _, .cons _ (.cons _ _), _ => .nil
theorem kw_binds {K : PySem.W.Frag} {fd : FuncData} {a b : Str} (h : ∀ (s : Shared) (u w : Value), K.In s.heap → BindsTo s fd ⟨[u], [(b, w)]⟩ [(a, u), (b, w)]) : KBinds K fd [a, b] [b] kwG kwG :=
  ⟨(fun s us ws X hl => match us, ws, hl with
    | [u], [w], _ => h s u w X
    | [], _, hl => nomatch hl
    | [_], [], hl => nomatch hl
    | [_], _ :: _ :: _, hl => nomatch hl
    | _ :: _ :: _, _, hl => nomatch hl), kw_rel⟩
end L2

namespace L2
open PySem PySem.Spec PyProof.Rows
/-- x & y, x | y by the class's own method; an object comes back -/
def rBinOwn (C : Addr) (sp : Sp) (E : XK) : R2 := fun x y H Q => ∃ a dx fs b dy gs, x = .ref a ∧ y = .ref b ∧ H a = some (.ins C dx fs) ∧ H b = some (.ins C dy gs) ∧ sp [.ref a, .ref b] H (fun v H' => ∃ c, v = .ref c ∧ Q (.ref c) H') E
theorem op_binM {X : Cx} {k : Nat} {C : Addr} {m : Str} {ps : List Str} {sp : Sp} {op : Operator} (hd : PySem.dunder op.info.2 = m) (D : MethD X.prog X.w X.K X.mg X.base C m k ps sp) (SF : PySem.W.selfFirst X.K C = true) (hr : Room k X.A) : OpR X (binaryOp op) (rBinOwn C sp E0) := by
  obtain ⟨f, fd, M, F, bd, _⟩ := D
  subst hd
  intro pins s σ H x y v u Q I rx ry h
  obtain ⟨a, dx, fs, b, dy, gs, rfl, rfl, ha, hb, q⟩ := h
  cases rx
  cases ry
  obtain ⟨mA, J, _⟩ := ins_get I.hok ha
  obtain ⟨mB, J', _⟩ := ins_get I.hok hb
  obtain ⟨od, J, _⟩ := J.look
  obtain ⟨od', J', _⟩ := J'.look
  obtain ⟨mm, hF⟩ := I.fr
  refine PySem.W.binop_K hF I.ok.mod.kin J J'.type SF M.at_ M.fn ?_
  have q2 : sp ([V.ref a, V.ref b] ++ []) H (fun v H' => ∃ c, v = V.ref c ∧ Q (.ref c) H') E0 := q
  refine thn (run_fn (us := [.ref a, .ref b]) (vs := [.ref a, .ref b]) (dvs := []) F hr bd .nil pass0 I (.cons rfl (.cons rfl .nil)) q2) fun r s' hz => ?_
  obtain ⟨z, H', I', rz, c, ez, q'⟩ := hz
  subst ez
  cases rz
  exact ⟨V.ref c, H', I', rfl, q'⟩
/-- what isinstance asks of a class -/
structure TxI (K : PySem.W.Frag) (C : Addr) : Prop where
  ha : PySem.W.findIn K (.ref C) "__class__" = some (some (.builtin "object.__class__"))
  hn : PySem.W.specialIn K (.builtin "object.__class__") "__get__" = some (some (.builtin "getset_descriptor.__get__"))
  htk : PySem.W.takesIn K (.builtin "object.__class__") = some true
  hm : PySem.W.mroIn K C (.type "object") = some true
  ko : PySem.W.kitOne K (.ref C) (.ref C) = some true
end L2
namespace L2
open PySem PySem.Spec PyProof.Rows
theorem kit_self {K : PySem.W.Frag} {C : Addr} : PySem.W.kitOne K (.ref C) (.ref C) = some true := by
  unfold PySem.W.kitOne
  rw [if_pos]
  simp
end L2

/-! sorted(d.items()) of a dict of whole numbers -/
namespace L2
open PySem PySem.Spec PyProof.Rows
abbrev yMulW : R2 := rI CMulW fun i j => .int (i * j)
abbrev yAbs : List V → Hp → VK → Prop := fun vs H Q => ∃ i, vs = [.int i] ∧ Q (.int (if i < 0 then -i else i)) H
def rItemsK : V → List V → Hp → VK → Prop := fun x xs H Q => ∃ (a : Addr) (kvs : List (Key × V)), x = .ref a ∧ xs = [] ∧ H a = some (.dK kvs) ∧ ∀ v, H v = none → Q (.ref v) (upd H v (DX.itemsO v a))
theorem mt_itemsK {X : Cx} : MtR X "dict.items" rItemsK := by
  intro pins s σ H x xs v us Q I rx rxs h
  obtain ⟨a, kvs, rfl, rfl, ha, q⟩ := h
  cases rx
  cases rxs
  obtain ⟨z, hd, vs, rel, o, es, ep, ho, hx, hdat, _⟩ := dk_of I.hok ha
  refine DT.callItems (es := es) (ep := ep) hd ⟨o, ho, hx, hdat⟩ ?_
  have hnew := I.hok.fresh (Nat.le_refl s.heap.objs.size)
  exact ⟨.ref s.heap.objs.size, _, I.laid (t' := s.toks) (fun b u e => Heap.get?_push_of_some _ e) (Nat.le_refl _) (DX.itemsO_ok (p := s.heap.objs.size) (d := a) (Heap.get?_push_size _ rfl)), rfl, q _ hnew⟩
theorem isPair_one {h : Heap} {v : Value} {x y x' y' : Int} (p : Srt.IsPair h v x y) (q : Srt.IsPair h v x' y') : (x, y) = (x', y') := by
  obtain ⟨a, o, t, u, n, e, ho, _, hd⟩ := p
  obtain ⟨a', o', t', u', n', e', ho', _, hd'⟩ := q
  rw [e] at e'
  cases e'
  rw [ho] at ho'
  cases ho'
  rw [hd] at hd'
  cases hd'
  rfl
theorem pairs_at {P : Program} {w : World} {es : List DictEntry} {vs : List (Key × Value)} (r : Pairs (mixKind P w) es vs) : ∀ {j : Nat} {e : DictEntry}, es[j]? = some e → ∃ k v, vs[j]? = some (k, v) ∧ keyIs k e.key = true ∧ e.val = v := by
  induction r with
  | nil => intro j e h; simp at h
  | @cons e0 kv es kvs h1 h2 _ ih =>
    intro j e h
    cases j with
    | zero =>
      simp at h
      subst h
      exact ⟨kv.1, kv.2, rfl, h1, h2⟩
    | succ j => exact ih (by simpa using h)
/-- a dict from whole numbers to whole numbers -/
abbrev dkI (L : List (Int × Int)) : List (Key × V) := L.map fun q => (Sum.inl q.1, V.int q.2)
def rSortItK : List V → Hp → VK → Prop := fun vs H Q => ∃ (p a : Addr) (L : List (Int × Int)), vs = [.ref p] ∧ H p = some (DX.itemsO p a) ∧ H a = some (.dK (dkI L)) ∧
  ∀ (H' : Hp) (l : Addr) (ts : List Addr) (M : List (Int × Int)), Same H H' → H l = none → M.Perm L → SrtO.Srtd SrtO.lexB M → H' l = some (.lst (ts.map V.ref)) → Paired (fun (t : Addr) (q : Int × Int) => H' t = some (.tup [.int q.1, .int q.2])) ts M → Q (.ref l) H'
theorem paired_map {α β : Type} {F : α → β → Prop} {f : α → β} : ∀ {l : List α}, (∀ x ∈ l, F x (f x)) → Paired F l (l.map f)
  | [], _ => .nil
  | x :: l, h => .cons (h x List.mem_cons_self) (paired_map fun y hy => h y (List.mem_cons_of_mem _ hy))
theorem cr_sortedItemsK {X : Cx} (hc : X.calm = true) : CallR X (.builtin "sorted") rSortItK := by
  intro pins s σ H xs us Q I r h
  obtain ⟨p, a, L, rfl, hp, ha, q⟩ := h
  obtain rfl := Vals.ref1 r
  have view : s.heap.IsItemsView p a := (show ObjOk X.prog X.w H s.heap p (DX.itemsO p a) from I.hok p _ hp).1
  obtain ⟨z, hd, vs, rel, o, es, ep, ho, hx, hdat, hk, hpr, hn⟩ := dk_of I.hok ha
  have l1 : L.length = vs.length := by
    have e := rel.length
    rwa [List.length_map] at e
  have l2 : es.size = vs.length := by
    have e := hpr.length
    simpa using e
  rw [List.length_map] at z
  have hh : X.A.handled = none := I.ok.hd hc
  refine DT.sortedI (es := es) (ep := ep) hh view ⟨o, ho, hx, hdat⟩ (by omega) fun h' tk as hk' hlt hl hG => ?_
  have nd : as.Nodup := List.Pairwise.imp (fun h => Nat.ne_of_lt h) hG.rise
  have asl : as.length = L.length := by omega
  -- what stands at each of the new pairs
  have made : ∀ (j : Nat) (b : Addr), as[j]? = some b → ∃ q : Int × Int, L[j]? = some q ∧ Srt.IsPair h' (.ref b) q.1 q.2 := by
    intro j b hj
    obtain ⟨en, he, hg⟩ := hG.pairs j b hj
    obtain ⟨k, v, hv, hkey, hval⟩ := pairs_at hpr (j := j) (e := en) (by simpa using he)
    obtain ⟨x, hx1, hx2⟩ := KV.at' rel hv
    rw [List.getElem?_map] at hx1
    cases hL : L[j]? with
    | none =>
      rw [hL] at hx1
      cases hx1
    | some qq =>
      rw [hL] at hx1
      have e1 : (Sum.inl qq.1, V.int qq.2) = (k, x) := Option.some.inj hx1
      injection e1 with e2 e3
      subst e2
      subst e3
      obtain ⟨t, ht⟩ := relV_key hkey
      obtain ⟨u, hu⟩ := hx2
      refine ⟨qq, rfl, b, _, t, u, 0, rfl, hg, rfl, ?_⟩
      rw [ht, hval, hu]
  obtain ⟨kf, hkf⟩ : ∃ kf : Addr → Int × Int, ∀ b ∈ as, Srt.IsPair h' (.ref b) (kf b).1 (kf b).2 := by
    have : ∀ b : Addr, ∃ qq : Int × Int, b ∈ as → Srt.IsPair h' (.ref b) qq.1 qq.2 := by
      intro b
      by_cases hb : b ∈ as
      · obtain ⟨j, hj⟩ := List.mem_iff_getElem?.mp hb
        obtain ⟨qq, _, hq⟩ := made j b hj
        exact ⟨qq, fun _ => hq⟩
      · exact ⟨(0, 0), fun y => absurd y hb⟩
    exact Classical.skolem.mp this
  have eL : as.map kf = L := by
    refine List.ext_getElem? fun j => ?_
    rw [List.getElem?_map]
    cases hj : as[j]? with
    | none =>
      have : L.length ≤ j := by
        have := List.getElem?_eq_none_iff.mp hj
        omega
      rw [List.getElem?_eq_none_iff.mpr this]
      rfl
    | some b =>
      obtain ⟨qq, h1, h2⟩ := made j b hj
      rw [h1]
      have := isPair_one (hkf b (List.mem_of_getElem? hj)) h2
      exact congrArg some this
  let kV2 : Value → Int × Int := fun v => match v with
    | .ref b => kf b
    | _ => (0, 0)
  have hob : (h'.push { cls := .type "list", data := .seq (as.map Value.ref).toArray }).get? h'.objs.size = some (seqObj "list" (as.map Value.ref).toArray 0) := Heap.get?_push_size _ rfl
  have ka : ∀ b o, h'.get? b = some o → (h'.push { cls := .type "list", data := .seq (as.map Value.ref).toArray }).get? b = some o := fun b o e => Heap.get?_push_of_some _ e
  have off : ∀ b o, h'.get? b = some o → b ≠ h'.objs.size := fun b o e => Nat.ne_of_lt (Heap.lt_size e)
  generalize hh2 : h'.push { cls := .type "list", data := .seq (as.map Value.ref).toArray } = h2 at hob ka ⊢
  have hp2 : ∀ v ∈ as.map Value.ref, Srt.IsPair h2 v (kV2 v).1 (kV2 v).2 := by
    intro v hv
    obtain ⟨b, hb, rfl⟩ := List.mem_map.mp hv
    exact (hkf b hb).keeps fun c oc e _ => ka c oc e
  have lenV : (as.map Value.ref).length ≤ sizeLine := by rw [List.length_map]; omega
  refine wpAny_call_entry PyProof.Rows.slot_list_sort ⟨_, hob, rfl⟩ PyProof.Rows.entry_list_sort
    (SrtO.list_sort_ord (s := { s with heap := h2, toks := tk }) (SrtO.swo_lex kV2) hob lenV (fun h2' => SrtO.pairs_sortableO (s := { s with heap := h2, toks := tk }) (by omega) hp2 fun oo e => ?_) fun out o1 o2 => ⟨.none, rfl, ?_⟩) (PyProof.Rows.args_list_sort _)
  · have e' : some oo = some (seqObj "list" (as.map Value.ref).toArray 0) := e.symm.trans hob
    cases e'
    intro c
    exact absurd (Value.type.inj c) (by decide)
  · show EP X pins σ Q (.ref h'.objs.size) { s with heap := sortedHeap h2 h'.objs.size (as.map Value.ref) out.toArray, toks := tk }
    have inV : ∀ v ∈ out, ∃ b ∈ as, v = Value.ref b := fun v hv => by
      obtain ⟨b, hb, e⟩ := List.mem_map.mp (o2.perm.mem_iff.mp hv)
      exact ⟨b, hb, e.symm⟩
    obtain ⟨ts, ets⟩ : ∃ ts : List Addr, out = ts.map Value.ref := by
      have : ∀ l : List Value, (∀ v ∈ l, ∃ b ∈ as, v = Value.ref b) → ∃ ts : List Addr, l = ts.map Value.ref := by
        intro l
        induction l with
        | nil => intro _; exact ⟨[], rfl⟩
        | cons v l ih =>
          intro hl'
          obtain ⟨b, _, e⟩ := hl' v List.mem_cons_self
          obtain ⟨ts, e2⟩ := ih fun y hy => hl' y (List.mem_cons_of_mem _ hy)
          exact ⟨b :: ts, by rw [e, e2]; rfl⟩
      exact this out inV
    subst ets
    have tsIn : ∀ b ∈ ts, b ∈ as := fun b hb => by
      obtain ⟨c, hc', e⟩ := inV (.ref b) (List.mem_map.mpr ⟨b, hb, rfl⟩)
      cases e
      exact hc'
    have tperm : ts.Perm as := by
      have e := o2.perm.map (fun v : Value => match v with
        | .ref b => b
        | _ => 0)
      have back : ∀ l : List Addr, (l.map Value.ref).map (fun v : Value => match v with
        | .ref b => b
        | _ => 0) = l := by
        intro l
        rw [List.map_map]
        exact List.map_id' l
      rwa [back, back] at e
    have M1 : (ts.map kf).Perm L := by
      rw [← eL]
      exact tperm.map kf
    have M2 : SrtO.Srtd SrtO.lexB (ts.map kf) := by
      have e : SrtO.Srtd SrtO.lexB ((ts.map Value.ref).map kV2) := SrtO.srtd_map o1
      rwa [List.map_map] at e
    have kF : ∀ b oo, b ≠ h'.objs.size → h2.get? b = some oo → (sortedHeap h2 h'.objs.size (as.map Value.ref) (ts.map Value.ref).toArray).get? b = some oo := fun b oo hb e => (PyProof.Rows.sortedHeap_old hb (Heap.lt_size e)).trans e
    have kS : ∀ b oo, s.heap.get? b = some oo → (sortedHeap h2 h'.objs.size (as.map Value.ref) (ts.map Value.ref).toArray).get? b = some oo := fun b oo e => kF b oo (off _ _ (hk' b oo e)) (ka b oo (hk' b oo e))
    obtain ⟨eF, heF⟩ := PyProof.Rows.sortedHeap_at (vs := as.map Value.ref) (out := (ts.map Value.ref).toArray) hob
    have I1 : Inv X pins σ H { s with heap := sortedHeap h2 h'.objs.size (as.map Value.ref) (ts.map Value.ref).toArray, toks := tk } := I.kept (t' := tk) kS
    have newL : H h'.objs.size = none := I.hok.fresh (Nat.le_of_lt hlt)
    have I2 : Inv X pins σ (upd H h'.objs.size (.lst (ts.map V.ref))) { s with heap := sortedHeap h2 h'.objs.size (as.map Value.ref) (ts.map Value.ref).toArray, toks := tk } :=
      I1.take (h' := sortedHeap h2 h'.objs.size (as.map Value.ref) (ts.map Value.ref).toArray) (t' := tk) (fun b ob _ e => e) (I.fpOk (Nat.le_of_lt hlt) newL) ⟨by rw [List.length_map, tperm.length_eq]; omega, ts.map Value.ref, eF, LiI.vals_refs ts, heF⟩
    obtain ⟨H2, I3, g, qt⟩ := DX.takeT (P := fun b us => us = [V.int (kf b).1, V.int (kf b).2]) I as _ I2 nd fun b hb => by
      have hbl : s.heap.objs.size ≤ b := Nat.le_of_lt (hG.above b hb)
      obtain ⟨c, oc, t, u, n, e, hoc, hcc, hdc⟩ := hkf b hb
      cases e
      refine ⟨hbl, ?_, _, rfl, fun H3 => ⟨by show 2 ≤ sizeLine; decide, [Value.int (kf b).1 t, Value.int (kf b).2 u], .cons ⟨t, rfl⟩ (.cons ⟨u, rfl⟩ .nil), ⟨oc, kF _ _ (off _ _ hoc) (ka _ _ hoc), hcc, n, hdc⟩⟩⟩
      rw [upd_ne (off _ _ hoc)]
      exact I.hok.fresh hbl
    have gr : Same H H2 := fun b oo e => g b oo (by rw [upd_ne (ne_of_none e newL)]; exact e)
    refine ⟨.ref h'.objs.size, H2, I3, rfl, q H2 h'.objs.size ts (ts.map kf) gr newL M1 M2 (g _ _ upd_same) (paired_map fun b hb => ?_)⟩
    obtain ⟨us, eu, hu⟩ := qt b (tsIn b hb)
    rw [hu, eu]
end L2

namespace L2
open PySem PySem.Spec PyProof.Rows
section
variable {J : It} {n : Nat} {G : Hp → Prop} {Y : Nat → Hp → V → Hp → Prop} {K : PySem.W.Frag}
/-- two clauses, the inner one over a thing of the turn; immutable data told ahead -/
theorem lc2_datV (w : Walk J n G Y) {wi1 : TI} {g g1 : TG} {te : TE} {vs vs1 : List Nat} {σ : L2.St} {H1 : Hp} {D : Addr} {Qd : Hp → Prop} (hD : H1 D = none)
    (hG : ∀ H, Same H1 H → G H) (ds : Nat → List PyData) (hn : ((List.range n).map ds).flatten.length ≤ 100000) (him : ∀ i, i < n → immAll (ds i) = true)
    (step : ∀ i x H H' (Q : L2.St → Hp → Prop), i < n → Same H1 H → Y i H x H' →
      (∀ σ2 H2, Same H H2 → wipe σ2 vs = wipe σ vs → (∃ (J1 : It) (G1 : Hp → Prop) (Y1 : Nat → Hp → V → Hp → Prop), Walk J1 (ds i).length G1 Y1 ∧ (∀ H, Same H2 H ∨ (Same H1 H ∧ ST K H2 H) → G1 H) ∧ (∀ H3 R, Same H2 H3 → R J1 H3 → wi1 σ2 H3 R) ∧
        (∀ j y H3 H3' (Q' : VK), j < (ds i).length → Same H1 H3 → ST K H2 H3 → Y1 j H3 y H3' → (∀ z H4 d, Same H3 H4 → (ds i)[j]? = some d → Da K H4 z d → Q' z H4) → g1 y (wipe σ2 vs1) H3' fun σ3 H5 => wipe σ3 vs1 = wipe σ2 vs1 ∧ te σ3 H5 Q')) → Q σ2 H2) → g x (wipe σ vs) H' Q)
    (hd : ∀ H acc, Same H1 H → H D = some (.lst acc) → DaAll K H acc ((List.range n).map ds).flatten → Qd H) :
    ∃ W : Nat → Nat → Hp → Prop, (∃ m, W 0 m (upd H1 D (.lst []))) ∧ ∀ i m H, W i m H →
      (J.stop i H ∧ Qd H) ∨ (J.go i H ∧ ∃ Nx : Hp → Prop, (∀ H', Nx H' → ∃ m', m' < m ∧ W (i + 1) m' H') ∧ ∀ x H', J.yld i H x H' → g x (wipe σ vs) H' fun σ2 H2 => wipe σ2 vs = wipe σ vs ∧ tYes σ2 H2 fun b H3 =>
        if b = true then wi1 σ2 H3 fun J1 H4 => ∃ W1 : Nat → Nat → Hp → Prop, (∃ m, W1 0 m H4) ∧ ∀ j k H, W1 j k H →
          (J1.stop j H ∧ Nx H) ∨ (J1.go j H ∧ ∃ Nx1 : Hp → Prop, (∀ H', Nx1 H' → ∃ k', k' < k ∧ W1 (j + 1) k' H') ∧ ∀ x H', J1.yld j H x H' → g1 x (wipe σ2 vs1) H' fun σ3 H5 => wipe σ3 vs1 = wipe σ2 vs1 ∧ tYes σ3 H5 fun b H6 =>
            if b = true then te σ3 H6 fun y H7 => ∃ acc, H7 D = some (.lst acc) ∧ acc.length < sizeLine ∧ Nx1 (upd H7 D (.lst (acc ++ [y]))) else Nx1 H6)
        else Nx H3) := by
  have fsnoc : ∀ i, ((List.range (i + 1)).map ds).flatten = ((List.range i).map ds).flatten ++ ds i := by
    intro i
    rw [List.range_succ, List.map_append, List.flatten_append]
    simp
  have fimm : ∀ i, i ≤ n → immAll ((List.range i).map ds).flatten = true := by
    intro i
    induction i with
    | zero => intro _; rfl
    | succ i ih =>
      intro h
      rw [fsnoc]
      exact immAll_append (ih (by omega)) (him i (by omega))
  have fle : ∀ k i, i + k = n → ((List.range i).map ds).flatten.length ≤ ((List.range n).map ds).flatten.length := by
    intro k
    induction k with
    | zero => intro i e; rw [show i = n by omega]; exact Nat.le_refl _
    | succ k ih =>
      intro i e
      have := ih (i + 1) (by omega)
      rw [fsnoc i, List.length_append] at this
      omega
  refine ⟨fun i m H => m = n - i ∧ i ≤ n ∧ Same H1 H ∧ ∃ acc, H D = some (.lst acc) ∧ DaAll K H acc ((List.range i).map ds).flatten, ⟨n, by simp, Nat.zero_le _, same_upd hD, [], upd_same, .nil⟩, ?_⟩
  rintro i m H ⟨rfl, hi, p1, acc, p2, p3⟩
  by_cases hlt : i < n
  · refine .inr ⟨w.goes i H hlt (hG H p1), fun H' => Same H1 H' ∧ ∃ acc, H' D = some (.lst acc) ∧ DaAll K H' acc ((List.range (i + 1)).map ds).flatten, fun H' ⟨q1, q2⟩ => ⟨n - (i + 1), by omega, rfl, hlt, q1, q2⟩, fun x H' y => ?_⟩
    refine step i x H H' _ hlt p1 (w.yields i H x H' hlt (hG H p1) y) fun σ2 H2 e2 ws ⟨J1, G1, Y1, w1, hG1, hin, el⟩ => ?_
    refine ⟨ws, ?_⟩
    show wi1 σ2 H2 _
    refine hin H2 _ (Same.refl _) ?_
    refine ⟨fun j k H => k = (ds i).length - j ∧ j ≤ (ds i).length ∧ Same H1 H ∧ ST K H2 H ∧ ∃ acc, H D = some (.lst acc) ∧ DaAll K H acc (((List.range i).map ds).flatten ++ (ds i).take j), ⟨(ds i).length, by simp, Nat.zero_le _, p1.trans e2, ST.refl _, acc, e2 _ _ p2, ?_⟩, ?_⟩
    · rw [List.take_zero, List.append_nil]
      exact Da.sameAll e2 _ _ p3
    · rintro j k H3 ⟨rfl, hj, q1, qb, acc3, q2, q3⟩
      by_cases hjl : j < (ds i).length
      · refine .inr ⟨w1.goes j H3 hjl (hG1 H3 (.inr ⟨q1, qb⟩)), fun H' => Same H1 H' ∧ ST K H2 H' ∧ ∃ acc, H' D = some (.lst acc) ∧ DaAll K H' acc (((List.range i).map ds).flatten ++ (ds i).take (j + 1)), fun H' ⟨r1, r2⟩ => ⟨(ds i).length - (j + 1), by omega, rfl, hjl, r1, r2⟩, fun x3 H3' y3 => ?_⟩
        refine el j x3 H3 H3' _ hjl q1 qb (w1.yields j H3 x3 H3' hjl (hG1 H3 (.inr ⟨q1, qb⟩)) y3) fun z H4 d e4 hd4 hz => ?_
        have e5 : H4 D = some (.lst acc3) := e4 _ _ q2
        have st : ST K H4 (upd H4 D (.lst (acc3 ++ [z]))) := st_upd e5 True.intro
        refine ⟨acc3, e5, ?_, (q1.trans e4).mut hD, (qb.trans e4.st).trans st, _, upd_same, ?_⟩
        · have l3 := q3.length
          rw [List.length_append, List.length_take] at l3
          have hle := fle (n - (i + 1)) (i + 1) (by omega)
          rw [fsnoc i, List.length_append] at hle
          refine Nat.lt_of_lt_of_le ?_ (sz1000' hn)
          have : min j (ds i).length ≤ j := Nat.min_le_left _ _
          omega
        · rw [List.take_add_one, hd4, ← List.append_assoc]
          exact DaAll.snoc (Da.st st _ _ (immAll_at (him i hlt) hd4) hz) (Da.stAll (e4.st.trans st) _ _ (immAll_append (fimm i hi) (immAll_take j (him i hlt))) q3)
      · have ej : j = (ds i).length := by omega
        subst ej
        refine .inl ⟨w1.stops H3 (hG1 H3 (.inr ⟨q1, qb⟩)), q1, acc3, q2, ?_⟩
        rw [fsnoc]
        rw [List.take_length] at q3
        exact q3
  · have e : i = n := by omega
    subst e
    exact .inl ⟨w.stops H (hG H p1), hd H acc p1 p2 p3⟩
end
end L2

/-! rows (tuples of whole numbers of any length) sorted; dicts whose keys are rows: their items sorted -/
namespace RW9
open PySem PySem.Spec PySem.W PyProof.Rows
section
variable {prog : Program} {w : World} {A : Around} {s : Shared}
theorem eachIs_self {R : Value → PyData → Prop} {enc : Value → PyData} : ∀ {vs : List Value}, (∀ v ∈ vs, R v (enc v)) → EachIs R vs (vs.map enc)
  | [], _ => .nil
  | v :: vs, h => .cons (h v List.mem_cons_self) (eachIs_self fun u hu => h u (List.mem_cons_of_mem _ hu))
/-- tuples that read as alike data, with an item at least where there are two of them -/
theorem sortable {a : Addr} {vs : List Value} {enc : Value → PyData} (h2 : 2 ≤ vs.length)
    (er : ∀ h' : Heap, (∀ b o, b ≠ a → s.heap.get? b = some o → h'.get? b = some o) → ∀ v ∈ vs, ∃ as, Reads h' v (enc v) as)
    (hal : ∀ v ∈ vs, ∀ u ∈ vs, alike (enc v) (enc u) = true) (ht : ∀ v ∈ vs, ∃ x r, enc v = .tuple (x :: r)) (hu : ∀ v ∈ vs, A.units + (enc v).depth < cLine) :
    SrtO.SortableO prog w A s a vs fun v u => dataLt (enc v) (enc u) := by
  intro h' keep
  have hal' : AllAlike (vs.map enc) := by
    intro d hd d' hd'
    obtain ⟨v, hv, rfl⟩ := List.mem_map.mp hd
    obtain ⟨u, hu', rfl⟩ := List.mem_map.mp hd'
    exact hal v hv u hu'
  have S : SortsAt prog w A { s with heap := h' } (dataKind h' (vs.map enc)) vs :=
    SortsAt.data (s := { s with heap := h' }) (eachIs_self (R := fun v d => ∃ as, Reads h' v d as) (er h' keep)) hal' (.inl fun d hd => by
      obtain ⟨v, hv, rfl⟩ := List.mem_map.mp hd
      exact ht v hv) fun d hd => by
      obtain ⟨v, hv, rfl⟩ := List.mem_map.mp hd
      exact hu v hv
  obtain ⟨kd, lt, kk⟩ := S.kind
  refine ⟨kd, fun Q E hq => kk h2 E hq, ?_⟩
  intro p q hp hq
  obtain ⟨as, ra⟩ := er h' keep p.1 hp
  obtain ⟨bs, rb⟩ := er h' keep q.1 hq
  exact lt (fun _ _ => False) p.1 q.1 _ _ (dataKind_some hal' (List.mem_map.mpr ⟨_, hp, rfl⟩) ra) (dataKind_some hal' (List.mem_map.mpr ⟨_, hq, rfl⟩) rb) ⟨rfl, rfl⟩
/-- a datum's order -/
theorem swo_data (enc : Value → PyData) : SrtO.Swo fun v u => dataLt (enc v) (enc u) := by
  have ir := (listOrd itemOrd).irrefl
  refine ⟨fun x y h => ?_, fun x y z h1 h2 => ?_⟩
  · show (listOrd itemOrd).blt (keyToks (enc y)) (keyToks (enc x)) = false
    cases e : (listOrd itemOrd).blt (keyToks (enc y)) (keyToks (enc x)) with
    | false => rfl
    | true => exact absurd ((listOrd itemOrd).trans _ _ _ h e) (by rw [ir]; exact Bool.false_ne_true)
  · show (listOrd itemOrd).blt (keyToks (enc z)) (keyToks (enc x)) = false
    cases e : (listOrd itemOrd).blt (keyToks (enc z)) (keyToks (enc x)) with
    | false => rfl
    | true =>
      rcases (listOrd itemOrd).negTrans _ (keyToks (enc y)) _ e with q | q
      · exact absurd (q.symm.trans h2) (by decide)
      · exact absurd (q.symm.trans h1) (by decide)
/-! ### the order of rows -/
def ltR (xs ys : List Int) : Bool := decide (xs < ys)
abbrev encR (r : List Int) : PyData := .tuple (r.map .int)
theorem encR_lt (xs ys : List Int) : dataLt (encR xs) (encR ys) = ltR xs ys := by
  rw [dataLt_tuple]
  exact dataLt_ints xs ys
theorem encR_alike (xs ys : List Int) : alike (encR xs) (encR ys) = true := by
  simp [alike, alike_ints]
theorem eqv_ints : ∀ {xs ys : List Int}, PyData.eqvAll (xs.map .int) (ys.map .int) = true → xs = ys
  | [], [], _ => rfl
  | [], y :: ys, h => by simp [PyData.eqvAll] at h
  | x :: xs, [], h => by simp [PyData.eqvAll] at h
  | x :: xs, y :: ys, h => by
    have h' : (PyData.eqv (.int x) (.int y) && PyData.eqvAll (xs.map .int) (ys.map .int)) = true := by rw [← eqv_all_cons]; exact h
    obtain ⟨h1, h2⟩ := Bool.and_eq_true_iff.mp h'
    rw [eqv_ints h2, (show x = y by simpa [PyData.eqv] using h1)]
theorem encR_eqv {xs ys : List Int} (h : PyData.eqv (encR xs) (encR ys) = true) : xs = ys := eqv_ints (by simpa [PyData.eqv] using h)
/-- an item: a row and a number -/
abbrev encI (q : List Int × Int) : PyData := .tuple [encR q.1, .int q.2]
theorem encI_lt {p q : List Int × Int} (h : p.1 ≠ q.1) : dataLt (encI p) (encI q) = ltR p.1 q.1 := by
  rw [dataLt_pair (encR_alike _ _) (by simp [alike]), if_neg (fun e => h (encR_eqv e)), encR_lt]
theorem reads_row {h : Heap} {b : Addr} {r : List Int} {its : List Value} (hI : IntsAre its r) (ht : IsTup h b its.toArray) : ∃ as, Reads h (.ref b) (encR r) as := by
  obtain ⟨o, ho, hc, n, hd⟩ := ht
  have z : ∀ {its : List Value} {r : List Int}, IntsAre its r → ReadsAll h its (r.map .int) [] := by
    intro its r q
    induction q with
    | nil => exact .nil
    | cons i t _ ih => exact .cons (as := []) (.int _ _) ih
  exact ⟨_, .tuple ho hc hd (by simpa using z hI)⟩
end
end RW9

namespace L2
open PySem PySem.Spec PySem.W PyProof.Rows RW9
abbrev rk (r : List Int) : List L2.Key := r.map Sum.inl
theorem rk_kV (r : List Int) : (rk r).map kV = r.map V.int := by
  rw [List.map_map]
  rfl
theorem rk_inj {r q : List Int} (h : rk r = rk q) : r = q := (List.map_inj_right (f := (Sum.inl : Int → L2.Key)) (fun x y e => Sum.inl.inj e)).mp h
/-- a dict from rows to numbers -/
abbrev rowD (L : List (List Int × Int)) : List (List L2.Key × V) := L.map fun q => (rk q.1, V.int q.2)
theorem rowD_keys {H : Hp} : ∀ {L : List (List Int × Int)} {xs : List (List L2.Key × Addr × Value)}, KT H (rowD L) xs → (xs.map (·.1)).Nodup → (L.map (·.1)).Nodup := by
  intro L xs r hn
  have e : xs.map (·.1) = (L.map (·.1)).map rk := by
    have z : ∀ {kvs : List (List L2.Key × V)} {xs : List (List L2.Key × Addr × Value)}, KT H kvs xs → xs.map (·.1) = kvs.map (·.1) := by
      intro kvs xs r
      induction r with
      | nil => rfl
      | cons h t ih => rw [List.map_cons, List.map_cons, ih, ← h.1]
    rw [z r, List.map_map, List.map_map]
    rfl
  rw [e] at hn
  exact List.Pairwise.of_map rk (fun a b h e => h (by rw [e])) hn
theorem row_ints {X : Cx} {pins : List (Addr × Obj)} {σ : St} {H : Hp} {s : Shared} (I : Inv X pins σ H s) {b : Addr} {r : List Int} (h : H b = some (.tup (r.map V.int))) : ∃ its, IntsAre its r ∧ IsTup s.heap b its.toArray := by
  obtain ⟨_, its, rv, q⟩ := (show ObjOk X.prog X.w H s.heap b (.tup (r.map V.int)) from I.hok b _ h)
  exact ⟨its, by simpa using rv.ints, q⟩
/-- what an item of the new list is -/
def ItemAt (H : Hp) (t : Addr) (q : List Int × Int) : Prop := ∃ b, H t = some (.tup [.ref b, .int q.2]) ∧ H b = some (.tup (q.1.map V.int))
def rSortItR : List V → Hp → VK → Prop := fun vs H Q => ∃ (p a : Addr) (L : List (List Int × Int)), vs = [.ref p] ∧ H p = some (DX.itemsO p a) ∧ H a = some (.dT (rowD L)) ∧
  ∀ (H' : Hp) (l : Addr) (ts : List Addr) (M : List (List Int × Int)), Same H H' → H l = none → M.Perm L → (M.map (·.1)).Nodup → M.Pairwise (fun p q => ltR q.1 p.1 = false) → H' l = some (.lst (ts.map V.ref)) → Paired (ItemAt H') ts M → Q (.ref l) H'
theorem cr_sortedItemsR {X : Cx} (hc : X.calm = true) (hu : X.A.units + 8 < cLine) : CallR X (.builtin "sorted") rSortItR := by
  intro pins s σ H xs us Q I r h
  obtain ⟨p, a, L, rfl, hp, ha, q⟩ := h
  obtain rfl := Vals.ref1 r
  have view : s.heap.IsItemsView p a := (show ObjOk X.prog X.w H s.heap p (DX.itemsO p a) from I.hok p _ hp).1
  obtain ⟨z, hd, xs', rel, o, es, ep, ho, hx, hdat, hes, his, hn⟩ := dt_of I.hok ha
  have ndL : (L.map (·.1)).Nodup := rowD_keys rel hn
  have l1 : L.length = xs'.length := by
    have e := Paired.length rel
    rwa [List.length_map] at e
  have l2 : es.size = xs'.length := size_of_entries hes
  rw [List.length_map] at z
  have hh : X.A.handled = none := I.ok.hd hc
  refine DT.sortedI (es := es) (ep := ep) hh view ⟨o, ho, hx, hdat⟩ (by omega) fun h' tk as hk' hlt hl hG => ?_
  have nd : as.Nodup := List.Pairwise.imp (fun h => Nat.ne_of_lt h) hG.rise
  have asl : as.length = L.length := by omega
  have made : ∀ (j : Nat) (b : Addr), as[j]? = some b → ∃ (q : List Int × Int) (kq : Addr) (t : Tok), L[j]? = some q ∧ H kq = some (.tup (q.1.map V.int)) ∧ h'.get? b = some { cls := .type "tuple", data := .seq #[Value.ref kq, Value.int q.2 t] } := by
    intro j b hj
    obtain ⟨en, he, hg⟩ := hG.pairs j b hj
    rw [entry_at hes j] at he
    cases hxj : xs'[j]? with
    | none =>
      rw [hxj] at he
      exact nomatch (show (none : Option DictEntry) = some en from he)
    | some x =>
      rw [hxj] at he
      have een : entryOfKey (tupleKind (mixKind X.prog X.w)) x = en := Option.some.inj he
      obtain ⟨e0, he0, r1, r2, r3⟩ := DX.pget rel hxj
      rw [List.getElem?_map] at he0
      cases hL : L[j]? with
      | none =>
        rw [hL] at he0
        cases he0
      | some qq =>
        rw [hL] at he0
        have ee : (rk qq.1, V.int qq.2) = e0 := Option.some.inj he0
        subst ee
        obtain ⟨t, ht⟩ := r3
        refine ⟨qq, x.2.1, t, rfl, ?_, ?_⟩
        · rw [← rk_kV]
          exact r2
        · rw [hg, ← een, ← ht]
          all_goals rfl
  obtain ⟨kf, hkf⟩ : ∃ kf : Addr → (List Int × Int) × Addr × Tok, ∀ (j : Nat) (b : Addr), as[j]? = some b → L[j]? = some (kf b).1 ∧ H (kf b).2.1 = some (.tup ((kf b).1.1.map V.int)) ∧ h'.get? b = some { cls := .type "tuple", data := .seq #[Value.ref (kf b).2.1, Value.int (kf b).1.2 (kf b).2.2] } := by
    have : ∀ b : Addr, ∃ k : (List Int × Int) × Addr × Tok, ∀ j : Nat, as[j]? = some b → L[j]? = some k.1 ∧ H k.2.1 = some (.tup (k.1.1.map V.int)) ∧ h'.get? b = some { cls := .type "tuple", data := .seq #[Value.ref k.2.1, Value.int k.1.2 k.2.2] } := by
      intro b
      by_cases hb : b ∈ as
      · obtain ⟨j, hj⟩ := List.mem_iff_getElem?.mp hb
        obtain ⟨qq, kq, t, h1, h2, h3⟩ := made j b hj
        refine ⟨(qq, kq, t), fun i hi => ?_⟩
        have ji : j = i := (List.getElem?_inj (List.getElem?_eq_some_iff.mp hj).1 nd).mp (hj.trans hi.symm)
        subst ji
        exact ⟨h1, h2, h3⟩
      · exact ⟨((([] : List Int), (0 : Int)), (0 : Addr), (0 : Nat)), fun j hj => absurd (List.mem_of_getElem? hj) hb⟩
    obtain ⟨f, hf⟩ := Classical.skolem.mp this
    exact ⟨f, fun j b hj => hf b j hj⟩
  have eL : as.map (fun b => (kf b).1) = L := by
    refine List.ext_getElem? fun j => ?_
    rw [List.getElem?_map]
    cases hj : as[j]? with
    | none =>
      have : L.length ≤ j := by
        have := List.getElem?_eq_none_iff.mp hj
        omega
      rw [List.getElem?_eq_none_iff.mpr this]
      rfl
    | some b => exact (hkf j b hj).1.symm
  have kIn : ∀ b ∈ as, H (kf b).2.1 = some (.tup ((kf b).1.1.map V.int)) ∧ h'.get? b = some { cls := .type "tuple", data := .seq #[Value.ref (kf b).2.1, Value.int (kf b).1.2 (kf b).2.2] } := fun b hb => by
    obtain ⟨j, hj⟩ := List.mem_iff_getElem?.mp hb
    exact (hkf j b hj).2
  let enc : Value → PyData := fun v => match v with
    | .ref b => encI (kf b).1
    | _ => encI ([], 0)
  have hob : (h'.push { cls := .type "list", data := .seq (as.map Value.ref).toArray }).get? h'.objs.size = some (seqObj "list" (as.map Value.ref).toArray 0) := Heap.get?_push_size _ rfl
  have ka : ∀ b o, h'.get? b = some o → (h'.push { cls := .type "list", data := .seq (as.map Value.ref).toArray }).get? b = some o := fun b o e => Heap.get?_push_of_some _ e
  have off : ∀ b o, h'.get? b = some o → b ≠ h'.objs.size := fun b o e => Nat.ne_of_lt (Heap.lt_size e)
  generalize hh2 : h'.push { cls := .type "list", data := .seq (as.map Value.ref).toArray } = h2 at hob ka ⊢
  have lenV : (as.map Value.ref).length ≤ sizeLine := by rw [List.length_map]; omega
  have er : ∀ h2' : Heap, (∀ b o, b ≠ h'.objs.size → h2.get? b = some o → h2'.get? b = some o) → ∀ v ∈ as.map Value.ref, ∃ ws, Reads h2' v (enc v) ws := by
    intro h2' keep v hv
    obtain ⟨b, hb, rfl⟩ := List.mem_map.mp hv
    obtain ⟨e1, e2⟩ := kIn b hb
    obtain ⟨its, hI, ob, hob', hcb, nb, hdb⟩ := row_ints I e1
    obtain ⟨ws, hw⟩ := reads_row (h := h2') hI ⟨ob, keep _ _ (off _ _ (hk' _ _ hob')) (ka _ _ (hk' _ _ hob')), hcb, nb, hdb⟩
    exact ⟨_, .tuple (keep _ _ (off _ _ e2) (ka _ _ e2)) rfl rfl (.cons hw (.cons (.int _ _) .nil))⟩
  refine wpAny_call_entry PyProof.Rows.slot_list_sort ⟨_, hob, rfl⟩ PyProof.Rows.entry_list_sort
    (SrtO.list_sort_ord (s := { s with heap := h2, toks := tk }) (swo_data enc) hob lenV (fun h2l => sortable (s := { s with heap := h2, toks := tk }) h2l er (fun v hv u hu' => ?_) (fun v hv => ?_) fun v hv => ?_) fun out o1 o2 => ⟨.none, rfl, ?_⟩) (PyProof.Rows.args_list_sort _)
  · obtain ⟨b, hb, rfl⟩ := List.mem_map.mp hv
    obtain ⟨c, hc', rfl⟩ := List.mem_map.mp hu'
    show alike (encI (kf b).1) (encI (kf c).1) = true
    simp [alike, alikeAll, alike_ints]
  · obtain ⟨b, hb, rfl⟩ := List.mem_map.mp hv
    exact ⟨_, _, rfl⟩
  · obtain ⟨b, hb, rfl⟩ := List.mem_map.mp hv
    show X.A.in1.in1.units + (encI (kf b).1).depth < cLine
    have e1 : X.A.in1.in1.units = X.A.units + 2 := rfl
    have e2 : (encI (kf b).1).depth ≤ 4 := by
      simp [PyData.depth, PyData.depthAll, depth_ints]
    omega
  · show EP X pins σ Q (.ref h'.objs.size) { s with heap := sortedHeap h2 h'.objs.size (as.map Value.ref) out.toArray, toks := tk }
    have inV : ∀ v ∈ out, ∃ b ∈ as, v = Value.ref b := fun v hv => by
      obtain ⟨b, hb, e⟩ := List.mem_map.mp (o2.perm.mem_iff.mp hv)
      exact ⟨b, hb, e.symm⟩
    obtain ⟨ts, ets⟩ : ∃ ts : List Addr, out = ts.map Value.ref := ⟨out.map adO, ref_map fun v hv => by
      obtain ⟨b, _, e⟩ := inV v hv
      exact ⟨b, e⟩⟩
    subst ets
    have tsIn : ∀ b ∈ ts, b ∈ as := fun b hb => by
      obtain ⟨c, hc', e⟩ := inV (.ref b) (List.mem_map.mpr ⟨b, hb, rfl⟩)
      cases e
      exact hc'
    have tperm : ts.Perm as := by
      have e := o2.perm.map adO
      rwa [ad_map, ad_map] at e
    have M1 : (ts.map fun b => (kf b).1).Perm L := by
      rw [← eL]
      exact tperm.map _
    have M0 : ((ts.map fun b => (kf b).1).map (·.1)).Nodup := (M1.map (·.1)).nodup_iff.mpr ndL
    have M2 : (ts.map fun b => (kf b).1).Pairwise (fun p q => ltR q.1 p.1 = false) := by
      have e : (ts.map Value.ref).Pairwise (fun v u => dataLt (enc u) (enc v) = false) := o1
      rw [List.pairwise_map] at e ⊢
      rw [List.map_map, List.Nodup, List.pairwise_map] at M0
      refine (e.and M0).imp fun {x y} hxy => ?_
      have e2 : dataLt (encI (kf y).1) (encI (kf x).1) = false := hxy.1
      rwa [encI_lt (fun z => hxy.2 z.symm)] at e2
    have kF : ∀ b oo, b ≠ h'.objs.size → h2.get? b = some oo → (sortedHeap h2 h'.objs.size (as.map Value.ref) (ts.map Value.ref).toArray).get? b = some oo := fun b oo hb e => (PyProof.Rows.sortedHeap_old hb (Heap.lt_size e)).trans e
    have kS : ∀ b oo, s.heap.get? b = some oo → (sortedHeap h2 h'.objs.size (as.map Value.ref) (ts.map Value.ref).toArray).get? b = some oo := fun b oo e => kF b oo (off _ _ (hk' b oo e)) (ka b oo (hk' b oo e))
    obtain ⟨eF, heF⟩ := PyProof.Rows.sortedHeap_at (vs := as.map Value.ref) (out := (ts.map Value.ref).toArray) hob
    have I1 : Inv X pins σ H { s with heap := sortedHeap h2 h'.objs.size (as.map Value.ref) (ts.map Value.ref).toArray, toks := tk } := I.kept (t' := tk) kS
    have newL : H h'.objs.size = none := I.hok.fresh (Nat.le_of_lt hlt)
    have I2 : Inv X pins σ (upd H h'.objs.size (.lst (ts.map V.ref))) { s with heap := sortedHeap h2 h'.objs.size (as.map Value.ref) (ts.map Value.ref).toArray, toks := tk } :=
      I1.take (h' := sortedHeap h2 h'.objs.size (as.map Value.ref) (ts.map Value.ref).toArray) (t' := tk) (fun b ob _ e => e) (I.fpOk (Nat.le_of_lt hlt) newL) ⟨by rw [List.length_map, tperm.length_eq]; omega, ts.map Value.ref, eF, LiI.vals_refs ts, heF⟩
    obtain ⟨H2, I3, g, qt⟩ := DX.takeT (P := fun b us => us = [V.ref (kf b).2.1, V.int (kf b).1.2]) I as _ I2 nd fun b hb => by
      have hbl : s.heap.objs.size ≤ b := Nat.le_of_lt (hG.above b hb)
      obtain ⟨e1, e2⟩ := kIn b hb
      refine ⟨hbl, ?_, _, rfl, fun H3 => ⟨by show 2 ≤ sizeLine; decide, [Value.ref (kf b).2.1, Value.int (kf b).1.2 (kf b).2.2], .cons rfl (.cons ⟨_, rfl⟩ .nil), ⟨_, kF _ _ (off _ _ e2) (ka _ _ e2), rfl, 0, rfl⟩⟩⟩
      rw [upd_ne (off _ _ e2)]
      exact I.hok.fresh hbl
    have gr : Same H H2 := fun b oo e => g b oo (by rw [upd_ne (ne_of_none e newL)]; exact e)
    refine ⟨.ref h'.objs.size, H2, I3, rfl, q H2 h'.objs.size ts _ gr newL M1 M0 M2 (g _ _ upd_same) (paired_map fun b hb => ?_)⟩
    obtain ⟨us, eu, hu3⟩ := qt b (tsIn b hb)
    exact ⟨_, by rw [hu3, eu], gr _ _ (kIn b (tsIn b hb)).1⟩
end L2

namespace L2
open PySem PySem.Spec PySem.W PyProof.Rows RW9
/-- sorted(d), d a dict whose keys are rows -/
def rSortKeysR : List V → Hp → VK → Prop := fun vs H Q => ∃ (a : Addr) (kvs : List (List L2.Key × V)) (ks : List (List Int)), vs = [.ref a] ∧ Rd H a (.dT kvs) ∧ kvs.map (·.1) = ks.map rk ∧ (2 ≤ ks.length → [] ∉ ks) ∧
  ∀ (p : Addr) (ts : List Addr) (M : List (List Int)), H p = none → M.Perm ks → M.Nodup → M.Pairwise (fun p q => ltR q p = false) → Paired (fun (t : Addr) (r : List Int) => H t = some (.tup (r.map V.int))) ts M → Q (.ref p) (upd H p (.lst (ts.map V.ref)))
theorem cr_sortedKeysR {X : Cx} (hc : X.calm = true) (hu : X.A.units + 8 < cLine) : CallR X (.builtin "sorted") rSortKeysR := by
  intro pins s σ H xs us Q I r h
  obtain ⟨a, kvs, ks, rfl, hd, hks, hne, q⟩ := h
  obtain rfl := Vals.ref1 r
  obtain ⟨z, hs, xs', rel, o, es, ep, ho, hx, hdt, he, hn⟩ := (show ObjOk X.prog X.w H s.heap a (.dT kvs) from hd.ok I.hok)
  have l1 : es.size = xs'.length := size_of_entries he
  have l2 : kvs.length = xs'.length := Paired.length rel
  have l3 : kvs.length = ks.length := by
    have e := congrArg List.length hks
    rwa [List.length_map, List.length_map] at e
  -- the row of each key
  have at' : ∀ (j : Nat) (x : List L2.Key × Addr × Value), xs'[j]? = some x → ∃ r : List Int, ks[j]? = some r ∧ x.1 = rk r ∧ H x.2.1 = some (.tup (r.map V.int)) := by
    intro j x hj
    obtain ⟨e0, he0, r1, r2, _⟩ := DX.pget rel hj
    have e1 : (kvs.map (·.1))[j]? = some e0.1 := by rw [List.getElem?_map, he0]; rfl
    rw [hks, List.getElem?_map] at e1
    obtain ⟨r, hr, e2⟩ := Option.map_eq_some_iff.mp e1
    exact ⟨r, hr, by rw [← r1, e2], by rw [← rk_kV, e2]; exact r2⟩
  have ndk : ks.Nodup := by
    have e : xs'.map (·.1) = ks.map rk := by
      rw [← hks]
      refine List.ext_getElem? fun j => ?_
      rw [List.getElem?_map, List.getElem?_map]
      cases hj : xs'[j]? with
      | none =>
        have := List.getElem?_eq_none_iff.mp hj
        rw [List.getElem?_eq_none (by omega)]
        rfl
      | some x =>
        obtain ⟨e0, he0, r1, _⟩ := DX.pget rel hj
        rw [he0]
        exact congrArg some r1.symm
    rw [e] at hn
    exact List.Pairwise.of_map rk (fun a b h e => h (by rw [e])) hn
  refine Calls.call_function_entry PyProof.Rows.kind_sorted PyProof.Rows.plain_sorted PyProof.Rows.entry_sorted (PyProof.Rows.args_sorted1 _) ?_
  unfold Builtin.«sorted»
  refine wpAny_bind (m := checkCount "sorted" 1 1 _) (wpAny_pure ?_)
  refine wpAny_bind (PySem.W.kdu_collect (A := X.A.in1) (kdl_raw hs hx hdt) (I.ok.hd hc) ho (by omega) fun h' tk acc hk hacc => ?_)
  have hal : acc.toList.length = xs'.length := by rw [Array.length_toList, hacc.1]; exact l1
  have ea : acc.toList = (xs'.map fun x => x.2.1).map Value.ref := by
    refine List.ext_getElem? fun j => ?_
    rw [List.map_map, List.getElem?_map]
    cases hj : acc.toList[j]? with
    | none =>
      have := List.getElem?_eq_none_iff.mp hj
      rw [List.getElem?_eq_none (by omega)]
      rfl
    | some v =>
      obtain ⟨en, hen, hv⟩ := hacc.2 j v (by rw [← Array.getElem?_toList]; exact hj)
      have qe := entry_at he j
      rw [hen] at qe
      cases hb : xs'[j]? with
      | none =>
        rw [hb] at qe
        exact nomatch (show some en = none from qe)
      | some b =>
        rw [hb] at qe
        have e2 : en = entryOfKey (tupleKind (mixKind X.prog X.w)) b := Option.some.inj qe
        rw [hv, e2]
        rfl
  generalize has : (xs'.map fun x => x.2.1) = as at ea
  have asl : as.length = ks.length := by rw [← has, List.length_map]; omega
  obtain ⟨kf, hkf⟩ : ∃ kf : Addr → List Int, ∀ (j : Nat) (b : Addr), as[j]? = some b → ks[j]? = some (kf b) ∧ H b = some (.tup ((kf b).map V.int)) := by
    have : ∀ b : Addr, ∃ r : List Int, ∀ j : Nat, as[j]? = some b → ks[j]? = some r ∧ H b = some (.tup (r.map V.int)) := by
      intro b
      by_cases hb : b ∈ as
      · obtain ⟨j, hj⟩ := List.mem_iff_getElem?.mp hb
        have one : ∀ i : Nat, as[i]? = some b → ∃ r, ks[i]? = some r ∧ H b = some (.tup (r.map V.int)) := by
          intro i hi
          rw [← has, List.getElem?_map] at hi
          obtain ⟨x, hx1, hx2⟩ := Option.map_eq_some_iff.mp hi
          subst hx2
          obtain ⟨r, hr, _, e3⟩ := at' i x hx1
          exact ⟨r, hr, e3⟩
        obtain ⟨r, h1, h2⟩ := one j hj
        refine ⟨r, fun i hi => ?_⟩
        obtain ⟨r', h3, h4⟩ := one i hi
        have e : r'.map V.int = r.map V.int := by
          rw [h2] at h4
          injection h4 with h4
          injection h4 with h4
          exact h4.symm
        have er : r' = r := (List.map_inj_right (f := V.int) (fun x y e => by injection e)).mp e
        subst er
        exact ⟨h3, h2⟩
      · exact ⟨[], fun j hj => absurd (List.mem_of_getElem? hj) hb⟩
    obtain ⟨f, hf⟩ := Classical.skolem.mp this
    exact ⟨f, fun j b hj => hf b j hj⟩
  have eL : as.map kf = ks := by
    refine List.ext_getElem? fun j => ?_
    rw [List.getElem?_map]
    cases hj : as[j]? with
    | none =>
      have := List.getElem?_eq_none_iff.mp hj
      rw [List.getElem?_eq_none (by omega)]
      rfl
    | some b => exact (hkf j b hj).1.symm
  have kIn : ∀ b ∈ as, H b = some (.tup ((kf b).map V.int)) := fun b hb => by
    obtain ⟨j, hj⟩ := List.mem_iff_getElem?.mp hb
    exact (hkf j b hj).2
  let enc : Value → PyData := fun v => match v with
    | .ref b => encR (kf b)
    | _ => encR []
  have I1 : Inv X pins σ H { s with heap := h', toks := tk } := I.kept hk
  rw [ea]
  have lenV : (as.map Value.ref).length ≤ sizeLine := by rw [List.length_map]; omega
  refine wpAny_bind (wpAny_newList ?_ lenV)
  have hob : (h'.push (seqObj "list" (as.map Value.ref).toArray 0)).get? h'.objs.size = some (seqObj "list" (as.map Value.ref).toArray 0) := Heap.get?_push_size _ rfl
  have ka : ∀ b o, h'.get? b = some o → (h'.push (seqObj "list" (as.map Value.ref).toArray 0)).get? b = some o := fun b o e => Heap.get?_push_of_some _ e
  have off : ∀ b o, h'.get? b = some o → b ≠ h'.objs.size := fun b o e => Nat.ne_of_lt (Heap.lt_size e)
  show wpAny _ _ _ _ _ { s with heap := h'.push (seqObj "list" (as.map Value.ref).toArray 0), toks := tk }
  generalize hh2 : h'.push (seqObj "list" (as.map Value.ref).toArray 0) = h2 at hob ka ⊢
  have er : ∀ h2' : Heap, (∀ b o, b ≠ h'.objs.size → h2.get? b = some o → h2'.get? b = some o) → ∀ v ∈ as.map Value.ref, ∃ ws, Reads h2' v (enc v) ws := by
    intro h2' keep v hv
    obtain ⟨b, hb, rfl⟩ := List.mem_map.mp hv
    obtain ⟨its, hI, ob, hob', hcb, nb, hdb⟩ := row_ints I1 (kIn b hb)
    exact reads_row (h := h2') hI ⟨ob, keep _ _ (off _ _ hob') (ka _ _ hob'), hcb, nb, hdb⟩
  refine wpAny_bind (wpAny_holding (wpAny_call_entry PyProof.Rows.slot_list_sort ⟨_, hob, rfl⟩ PyProof.Rows.entry_list_sort
    (SrtO.list_sort_ord (s := { s with heap := h2, toks := tk }) (swo_data enc) hob lenV (fun h2l => sortable (s := { s with heap := h2, toks := tk }) h2l er (fun v hv u hu' => ?_) (fun v hv => ?_) fun v hv => ?_) fun out o1 o2 => ⟨_, rfl, ?_⟩) (PyProof.Rows.args_list_sort _)))
  · obtain ⟨b, hb, rfl⟩ := List.mem_map.mp hv
    obtain ⟨c, hc', rfl⟩ := List.mem_map.mp hu'
    exact encR_alike _ _
  · obtain ⟨b, hb, rfl⟩ := List.mem_map.mp hv
    show ∃ x r, encR (kf b) = .tuple (x :: r)
    have ne : kf b ≠ [] := fun e => hne (by rw [← asl]; rwa [List.length_map] at h2l) (by
      rw [← eL, ← e]
      exact List.mem_map.mpr ⟨b, hb, rfl⟩)
    cases e : kf b with
    | nil => exact absurd e ne
    | cons x r => exact ⟨_, _, rfl⟩
  · obtain ⟨b, hb, rfl⟩ := List.mem_map.mp hv
    show X.A.in1.in1.units + (encR (kf b)).depth < cLine
    have e1 : X.A.in1.in1.units = X.A.units + 2 := rfl
    have e2 : (encR (kf b)).depth ≤ 4 := by
      simp [PyData.depth, depth_ints]
    omega
  · refine wpAny_pure ?_
    have inV : ∀ v ∈ out, ∃ b ∈ as, v = Value.ref b := fun v hv => by
      obtain ⟨b, hb, e⟩ := List.mem_map.mp (o2.perm.mem_iff.mp hv)
      exact ⟨b, hb, e.symm⟩
    obtain ⟨ts, ets⟩ : ∃ ts : List Addr, out = ts.map Value.ref := ⟨out.map adO, ref_map fun v hv => by
      obtain ⟨b, _, e⟩ := inV v hv
      exact ⟨b, e⟩⟩
    subst ets
    have tsIn : ∀ b ∈ ts, b ∈ as := fun b hb => by
      obtain ⟨c, hc', e⟩ := inV (.ref b) (List.mem_map.mpr ⟨b, hb, rfl⟩)
      cases e
      exact hc'
    have tperm : ts.Perm as := by
      have e := o2.perm.map adO
      rwa [ad_map, ad_map] at e
    have M1 : (ts.map kf).Perm ks := by
      rw [← eL]
      exact tperm.map _
    have M2 : (ts.map kf).Pairwise (fun p q => ltR q p = false) := by
      have e : (ts.map Value.ref).Pairwise (fun v u => dataLt (enc u) (enc v) = false) := o1
      rw [List.pairwise_map] at e ⊢
      refine e.imp fun {x y} hxy => ?_
      have e2 : dataLt (encR (kf y)) (encR (kf x)) = false := hxy
      rwa [encR_lt] at e2
    obtain ⟨eF, heF⟩ := PyProof.Rows.sortedHeap_at (vs := as.map Value.ref) (out := (ts.map Value.ref).toArray) hob
    have kF : ∀ b oo, h'.get? b = some oo → (sortedHeap h2 h'.objs.size (as.map Value.ref) (ts.map Value.ref).toArray).get? b = some oo := fun b oo e => (PyProof.Rows.sortedHeap_old (off _ _ e) (Heap.lt_size (ka _ _ e))).trans (ka _ _ e)
    refine ⟨.ref h'.objs.size, rfl, .ref h'.objs.size, upd H h'.objs.size (.lst (ts.map V.ref)), I1.laid (t' := tk) kF (Nat.le_refl _) ⟨by rw [List.length_map, tperm.length_eq]; omega, ts.map Value.ref, eF, LiI.vals_refs ts, heF⟩, rfl, q _ ts _ (I1.hok.fresh (Nat.le_refl _)) M1 (M1.nodup_iff.mpr ndk) M2 (paired_map fun b hb => kIn b (tsIn b hb))⟩
end L2

/-! dicts whose keys are rows: == of two equal ones, setdefault, comprehensions -/
namespace RW9
open PySem PySem.Calls PySem.W PySem.Spec PyProof.Rows
section
variable {prog : Program} {w : World} {K : Type} [DecidableEq K] {knd : HeapKind prog w K} {A : Around} {E : Value → Shared → Prop} {s : Shared}
theorem same_heap {nm : String} {a b : Addr} {xa xb : List (K × Addr × Value)} {Q : Bool → Shared → Prop} (hu : knd.room A) (ha : (a == sysModules) = false) (hb : (b == sysModules) = false)
    (da : s.heap.DictOfH knd a xa) (db : s.heap.DictOfH knd b xb) (hl : xa.length = xb.length) (hv : ∀ x ∈ xa, ∃ (j : Nat) (p : Addr × Value), xb[j]? = some (x.1, p) ∧ SeqAt.EqAt A s x.2.2 p.2 true) (h : Q true s) :
    wpAny (model prog w) A (Builtin.Dict.samePairs nm a b) Q E s := by
  obtain ⟨oa, es, ep, hoa, _, hda, hea, hia, hna⟩ := da
  obtain ⟨ob, es', ep', hob, _, hdb, heb, hib, hnb⟩ := db
  have la : es.size = xa.length := size_of_entries hea
  have lb : es'.size = xb.length := size_of_entries heb
  have hsz : es.size = es'.size := by omega
  unfold Builtin.Dict.samePairs Builtin.Dict.showsAll
  rw [if_neg (show ¬ (a == sysModules) = true by rw [ha]; exact Bool.false_ne_true), if_neg (show ¬ (b == sysModules) = true by rw [hb]; exact Bool.false_ne_true)]
  refine wpAny_bind (wpAny_pure (wpAny_bind (wpAny_pure ?_)))
  refine wpAny_bind (wpAny_dictEntries hoa hda ?_)
  dsimp only
  refine wpAny_bind (wpAny_dictEntries hob hdb ?_)
  rw [if_neg (by rw [hsz]; simp)]
  refine wpAny_bind (wpAny_dictEpoch hoa hda ?_)
  refine wpAny_bind ?_
  rw [Std.Legacy.Range.forIn_eq_forIn_range']
  simp only [Std.Legacy.Range.size, Nat.sub_zero, Nat.add_sub_cancel, Nat.div_one]
  refine wpAny_forIn_list _ (fun rest q s' => s' = s ∧ q = (none, ()) ∧ ∀ i ∈ rest, i < es.size) _ ?_ ?_ _ _ ⟨rfl, rfl, fun i hi => by
    have := (List.mem_range'_1.mp hi).2
    omega⟩
  · rintro i rest q s' ⟨rfl, rfl, hr⟩
    have hlt : i < es.size := hr i List.mem_cons_self
    have hlx : i < xa.length := by omega
    have hin : xa[i] ∈ xa := List.getElem_mem hlx
    have ent : es[i]? = some (entryOfKey knd xa[i]) := by
      rw [entry_at hea i, List.getElem?_eq_getElem hlx]
      rfl
    obtain ⟨j, p, hj, heq⟩ := hv _ hin
    refine wpAny_bind (wpAny_dictEntries hoa hda ?_)
    rw [ent]
    show wpAny _ _ (holding [(entryOfKey knd xa[i]).key, (entryOfKey knd xa[i]).val] _ >>= _) _ _ _
    refine wpAny_bind (wpAny_holding (wpAny_bind (wpAny_dictFind_heap hu (hia _ hin) hob hdb heb hib hnb (fun hno => absurd hj (hno j p)) fun j' p' hj' => ?_)))
    have e1 : j' = j := idxH_unique hnb hj' hj
    subst e1
    have e2 : p' = p := by
      rw [hj] at hj'
      injection hj' with e
      injection e with _ e
      exact e.symm
    subst e2
    refine wpAny_bind (wpAny_dictEntries hob hdb ?_)
    rw [entry_at heb j', hj]
    show wpAny _ _ (holding _ _) _ _ _
    refine wpAny_holding (heq prog w _ _ ?_)
    show wpAny _ _ (if (!true) = true then _ else _) _ _ _
    rw [if_neg (by decide)]
    refine wpAny_bind (wpAny_dictEpoch hoa hda ?_)
    rw [if_neg (by simp)]
    exact wpAny_pure ⟨rfl, rfl, fun i hi => hr i (List.mem_cons_of_mem _ hi)⟩
  · rintro q s' ⟨rfl, rfl, _⟩
    exact wpAny_pure h
theorem eq_heap {a b : Addr} {xa xb : List (K × Addr × Value)} {Q : Value → Shared → Prop} (hr : knd.room A.in1) (hu : A.units < cLine) (ha : (a == sysModules) = false) (hb : (b == sysModules) = false)
    (da : s.heap.DictOfH knd a xa) (db : s.heap.DictOfH knd b xb) (hl : xa.length = xb.length) (hv : ∀ x ∈ xa, ∃ (j : Nat) (p : Addr × Value), xb[j]? = some (x.1, p) ∧ SeqAt.EqAt A.in1 s x.2.2 p.2 true) (h : Q (.bool true) s) :
    wpAny (model prog w) A (compareOp .Eq (.ref a) (.ref b)) Q E s := by
  have ta : s.TypeIs (.ref a) "dict" := da.typeIs
  have tb : s.TypeIs (.ref b) "dict" := db.typeIs
  refine wpAny_richCompare_same_room (op := .Eq) ta tb PySem.F.slot_dict_eq (wpAny_call_entry PySem.F.slot_dict_eq ta PySem.F.entry_dict_eq ?_ (PySem.F.args_dict_eq_2 _ _)) hu
  show wpAny _ _ (Builtin.Dict.dictSlotArgs "__eq__" ⟨[.ref a, .ref b], []⟩ >>= _) _ _ s
  refine wpAny_bind ?_
  unfold Builtin.Dict.dictSlotArgs
  refine wpAny_bind (wpAny_notOrdered_dict ta ?_)
  show wpAny _ _ (pure (Value.ref a, Value.ref b)) _ _ s
  refine wpAny_pure ?_
  refine wpAny_bind (wpAny_isInstance (T := "dict") tb PySem.F.sub_dict_dict ?_)
  simp only [Bool.not_true, Bool.false_eq_true, if_false]
  refine wpAny_bind (wpAny_pure (wpAny_bind (wpAny_pure ?_)))
  refine wpAny_bind (same_heap hr ha hb da db hl hv ?_)
  exact wpAny_pure ⟨_, rfl, (fun x => nomatch x), h⟩
end
end RW9

namespace L2
open PySem PySem.Spec PySem.W PyProof.Rows RW9
section
variable {X : Cx}
/-- == of two dicts from rows to numbers that hold the same -/
def rEqRow : R2 := fun x y H Q => ∃ a b L M, x = .ref a ∧ y = .ref b ∧ H a = some (.dT (rowD L)) ∧ H b = some (.dT (rowD M)) ∧ L.Perm M ∧ Q (.bl true) H
theorem op_eq_row (hu : X.A.units + 1 < cLine) : OpR X (compareOp .Eq) rEqRow := by
  intro pins s σ H x y v u Q I rx ry h
  obtain ⟨a, b, L, M, rfl, rfl, ea, eb, pm, q⟩ := h
  obtain rfl : v = Value.ref a := rx
  obtain rfl : u = Value.ref b := ry
  obtain ⟨_, ya, xa, ra, da⟩ := dt_of I.hok ea
  obtain ⟨_, yb, xb, rb, db⟩ := dt_of I.hok eb
  have la : L.length = xa.length := by
    have e := Paired.length ra
    rwa [List.length_map] at e
  have lb : M.length = xb.length := by
    have e := Paired.length rb
    rwa [List.length_map] at e
  have lm := pm.length_eq
  refine eq_heap (tupleKind_room_in1 hu) (by omega) ya yb da db (by omega) (fun x hx => ?_) (fin_bl I q rfl)
  obtain ⟨i, hi⟩ := List.mem_iff_getElem?.mp hx
  obtain ⟨e0, he0, r1, _, r3⟩ := DX.pget ra hi
  rw [List.getElem?_map] at he0
  obtain ⟨p, hp, e1⟩ := Option.map_eq_some_iff.mp he0
  subst e1
  obtain ⟨j, hj⟩ := List.mem_iff_getElem?.mp (pm.mem_iff.mp (List.mem_of_getElem? hp))
  have hjx : ∃ z, xb[j]? = some z := ⟨xb[j]'(by have := (List.getElem?_eq_some_iff.mp hj).1; omega), List.getElem?_eq_getElem _⟩
  obtain ⟨z, hz⟩ := hjx
  obtain ⟨e2, he2, s1, _, s3⟩ := DX.pget rb hz
  rw [List.getElem?_map, hj] at he2
  have e3 : (rk p.1, V.int p.2) = e2 := Option.some.inj he2
  subst e3
  obtain ⟨t, ht⟩ := r3
  obtain ⟨t', ht'⟩ := s3
  refine ⟨j, z.2, by rw [hz, ← r1, s1], ?_⟩
  rw [ht, ht']
  have e := SeqAt.EqAt.int_int (A := X.A.in1) (s := s) p.2 t p.2 t'
  rw [beq_self_eq_true] at e
  exact e
/-! ### setdefault -/
def tDSetdT (td ty tx : TE) : TE := fun σ H Q => td σ H fun x H1 => ∃ a, x = .ref a ∧ IsD H1 a ∧ ty σ H1 fun y H2 => tx σ H2 fun z H3 => ∃ (kvs : List (List Key × V)) (k : List Key) (b : Addr), H3 a = some (.dT kvs) ∧ y = .ref b ∧ H3 b = some (.tup (k.map kV)) ∧ kvs.length < sizeLine ∧
  (∀ v, valV kvs k = some v → Q v H3) ∧ (valV kvs k = none → Q z (upd H3 a (.dT (putK kvs k z))))
theorem d_setdT {pins : List (Addr × Obj)} {σ : St} {H : Hp} {s : Shared} {a b : Addr} {r : Value} {d : V} {k : List Key} {A : Around} {E : Value → Shared → Prop} {kvs : List (List Key × V)} {Q : Value → Shared → Prop} (hu : A.units + 1 < cLine) (I : Inv X pins σ H s)
    (e : H a = some (.dT kvs)) (eb : H b = some (.tup (k.map kV))) (rd : RelV d r) (hl : kvs.length < sizeLine)
    (h1 : ∀ v, valV kvs k = some v → ∀ (w' : Value) (s' : Shared), Inv X pins σ H s' → RelV v w' → Q w' s') (h2 : valV kvs k = none → ∀ (w' : Value) (s' : Shared), Inv X pins σ (upd H a (.dT (putK kvs k d))) s' → RelV d w' → Q w' s') :
    wpAny (model X.prog X.w) A (call (.builtin "dict.setdefault") [.ref a, .ref b, r]) Q E s := by
  obtain ⟨z, hd, xs, rel, dd⟩ := dt_of I.hok e
  have hz : xs.length ≤ sizeLine := by rw [← Paired.length rel]; exact z
  have rv := rel.val k
  refine call_meetsIn PySem.F.slot_dict_setdefault dd.typeIs PySem.F.entry_dict_setdefault (PySem.F.args_dict_setdefault_3 _ _ _) (meetsH_dict_setdefault (tupleKind (mixKind X.prog X.w)) a b hd r) ⟨tupleKind_room_in1 hu, k, xs, key_of I.hok eb, dd, hz, fun p hp => ?_, fun hn h' dd' hs => ?_⟩
  · rw [hp] at rv
    cases q0 : valV kvs k with
    | none =>
      rw [q0] at rv
      exact (show False from rv).elim
    | some v0 =>
      rw [q0] at rv
      exact h1 v0 q0 _ _ (I.tok _) rv
  · rw [hn] at rv
    cases q0 : valV kvs k with
    | some v0 =>
      rw [q0] at rv
      exact (show False from rv).elim
    | none =>
      have hl2 : (putK kvs k d).length ≤ sizeLine := by
        have := length_putK kvs k d
        omega
      obtain ⟨q, es, ep, hq, g2, g3, g4, _, g5⟩ := dd'
      exact h2 q0 _ _ (d_write I (by rw [e]; exact True.intro) hs ⟨q, hq⟩ ⟨hl2, hd, _, (rel.put k eb rd).keeps fun c ys ec => (by rw [upd_ne (ne_of ec e (fun z => nomatch z))]; exact ec), q, es, ep, hq, g2, g3, g4, g5⟩) rd
theorem pe_dsetdT {o e f : Expr} {td ty tx : TE} {apos cpos : Pos} (hu : X.A.units + 1 < cLine) (ho : PE X o td) (he : PE X e ty) (hf : PE X f tx) (m : M2 X o "setdefault" apos e f cpos) : PE X (.Call (.Attribute o "setdefault" apos) [e, f] [] cpos) (tDSetdT td ty tx) := by
  refine ⟨fun pins s σ H Q I h => ?_⟩
  refine wpAny_Call_method m.base m.few m.line PySem.F.plainAttrs_dict PySem.F.slot_dict_setdefault PySem.F.type_dict_setdefault (thn (ho.run pins s σ H _ I h) fun u s1 ⟨x, H1, I1, rx, a, ex, d, q1⟩ => ?_)
  subst ex
  obtain rfl : u = Value.ref a := rx
  obtain ⟨t1, t2, _⟩ := isD_at I1 d
  refine ⟨t1, t2, ?_⟩
  rw [m.trees]
  refine Calls.callWith_builtin rfl (Calls.evalArgs_plain (Calls.spliced_cons (thn (he.run pins s1 σ H1 _ I1 q1) fun iv s2 ⟨y, H2, I2, ry, q2⟩ =>
    Calls.spliced_cons (thn (hf.run pins s2 σ H2 _ I2 q2) fun fv s3 ⟨z, H3, I3, rz, kvs, k, b, ea, ey, eb, hl, q3, q4⟩ => Calls.spliced_nil ?_))))
  subst ey
  obtain rfl : iv = Value.ref b := ry
  exact d_setdT hu I3 ea eb rz hl (fun v hv w' s4 I4 rw' => ⟨v, _, I4, rw', q3 v hv⟩) fun hn w' s4 I4 rw' => ⟨z, _, I4, rw', q4 hn⟩
/-! ### a comprehension's own put -/
theorem d_dictSetT {pins : List (Addr × Obj)} {σ : St} {H : Hp} {s : Shared} {E : Value → Shared → Prop} {D b : Addr} {kvs : List (List Key × V)} {k : List Key} {v : V} {r : Value} {Q : Unit → Shared → Prop} (hu : X.A.units < cLine) (I : Inv X pins σ H s) (hD : H D = some (.dT kvs)) (eb : H b = some (.tup (k.map kV))) (hz : kvs.length < sizeLine)
    (rv : RelV v r) (h : ∀ s', Inv X pins σ (upd H D (.dT (putK kvs k v))) s' → Q () s') : wpAny (model X.prog X.w) X.A (dictSet D (.ref b) r) Q E s := by
  obtain ⟨z, hd, xs, rel, dd⟩ := dt_of I.hok hD
  have hzv : xs.length ≤ sizeLine := by rw [← Paired.length rel]; exact z
  have hl : (putK kvs k v).length ≤ sizeLine := by have := length_putK kvs k v; omega
  refine wpAny_dictSet_heap (hsz := hzv) (knd := tupleKind (mixKind X.prog X.w)) hu (key_of I.hok eb) dd fun h' dd' hs => h _ ?_
  obtain ⟨q, es, ep, hq, g2, g3, g4, _, g5⟩ := dd'
  exact d_write I (by rw [hD]; exact True.intro) hs ⟨q, hq⟩ ⟨hl, hd, _, (rel.put k eb rv).keeps fun c ys ec => (by rw [upd_ne (ne_of ec hD (fun z => nomatch z))]; exact ec), q, es, ep, hq, g2, g3, g4, g5⟩
end
end L2

/-! a dict comprehension whose keys may be rows -/
namespace L2
open PySem PySem.Spec PyProof.Rows
/-- a comprehension's put, either kind of dict -/
theorem put_comp {X : Cx} {pins : List (Addr × Obj)} {σ : St} {H H' : Hp} {s : Shared} {E : Value → Shared → Prop} {D : Addr} {y v : V} {u r : Value} {Q : Unit → Shared → Prop} (hu : X.A.units < cLine) (I : Inv X pins σ H s) (g : DPut H D y v H') (ry : RelV y u) (rv : RelV v r) (h : ∀ s', Inv X pins σ H' s' → Q () s') :
    wpAny (model X.prog X.w) X.A (dictSet D u r) Q E s := by
  rcases g with ⟨kvs, k, e, rfl, l, rfl⟩ | ⟨kvs, k, b, e, rfl, eb, l, rfl⟩
  · exact d_dictSet I e l ry rv h
  · obtain rfl : u = Value.ref b := ry
    exact d_dictSetT hu I e eb l rv h
/-- {k: v for target in iter if ..}: D the new dict, o0 what it is at first -/
def tDcP (o0 : HO) (wi : TI) (g : TG) (tt : TT) (tk tv : TE) (vs : List Nat) : TE := fun σ H Q => wi σ H fun J H1 => ∀ D, H1 D = none → ∃ W : Nat → Nat → Hp → Prop, (∃ m, W 0 m (upd H1 D o0)) ∧ ∀ i m H, W i m H →
  (J.stop i H ∧ Q (.ref D) H) ∨ (J.go i H ∧ ∃ Nx : Hp → Prop, (∀ H', Nx H' → ∃ m', m' < m ∧ W (i + 1) m' H') ∧ ∀ x H', J.yld i H x H' → g x (wipe σ vs) H' fun σ2 H2 => wipe σ2 vs = wipe σ vs ∧ tt σ2 H2 fun b H3 =>
    if b = true then tk σ2 H3 fun y H4 => tv σ2 H4 fun z H5 => ∃ H6, DPut H5 D y z H6 ∧ Nx H6 else Nx H3)
/-- what a new dict may be at first -/
def Fresh0 (o0 : HO) : Prop := ∀ (P : Program) (w : World) (H : Hp) (h : Heap), sysModules < h.objs.size → ObjOk P w H (h.push { cls := .type "dict", data := .dict #[] }) h.objs.size o0
theorem fresh_T : Fresh0 (.dT []) := fun P w H h hb => dt_empty h hb
section
variable {X : Cx} {kx vx tg iter : Expr} {ifs : List Expr} {scope : Scope} {own : List (Str × Nat)} {pos : Pos} {o0 : HO} {wi : TI} {g : TG} {tt : TT} {tk tv : TE}
theorem dcP_core {pins : List (Addr × Obj)} {s : Shared} {σ : L2.St} {H : Hp} {Q : VK} {pos' : Pos} {use : Option (Value → Sem Unit)} {Qf : Value → Shared → Prop} (h0 : Fresh0 o0) (hu : X.A.units < cLine) (hc : X.calm = true) (hN : X.N.Nodup) (I : Inv X pins σ H s) (hi : PI X tg iter wi) (ok : BlkOk X.N X.env.scope scope own)
    (hg : ∀ (s : Shared) (H : Hp) (C : Addr) (cl : List (Str × Addr)) (fp : List Addr), PG (X.blk s H scope (compEnvC scope cl C X.env) fp) tg g)
    (ht : ∀ (s : Shared) (H : Hp) (C : Addr) (cl : List (Str × Addr)) (fp : List Addr), PTs (X.blk s H scope (compEnvC scope cl C X.env) fp) ifs tt)
    (hk : ∀ (s : Shared) (H : Hp) (C : Addr) (cl : List (Str × Addr)) (fp : List Addr), PE (X.blk s H scope (compEnvC scope cl C X.env) fp) kx tk)
    (hv : ∀ (s : Shared) (H : Hp) (C : Addr) (cl : List (Str × Addr)) (fp : List Addr), PE (X.blk s H scope (compEnvC scope cl C X.env) fp) vx tv) (hs : ∀ x, foldedSetIterable iter X.env x = pure x)
    (h : tDcP o0 wi g tt tk tv (own.map (·.2)) σ H Q)
    (hRR : ∀ D C s' m H', Inv X pins σ H' s' → Q (.ref D) H' → s'.heap.Ns C m → FpOk X pins H' C → compPost (model X.prog X.w) X.A X.xe use Qf (.ref D) C (.ok .next) s') :
    wpAny (model X.prog X.w) X.A (comprehension (.DictComp kx vx [⟨tg, iter, ifs, 0⟩] scope pos) scope X.env pos' newDict false (eval iter X.env) use) Qf X.xe s := by
  have cells : ∀ y ∈ scope.names, y.2 = .free → ∃ c, X.env.cells.lookup y.1 = some c := fun y hy e => (ok.free y hy e).elim (fun k => I.ok.has _ (.inl k)) fun k => I.ok.has _ (.inr k)
  refine wpAny_comprehension_free (use := use) rfl hs (closure_ok cells) ok.kind (fun y hy e => by rw [ok.uniq y hy, e]) (thn (hi.run pins s σ H _ I h) fun xv sA hx => thn hx fun itv sB hB => ?_)
  obtain ⟨it, fp, tn, J, H2, e, I2, T, st2, f2, q⟩ := hB
  subst e
  refine wpAny_newObj_type (newEnv_comp ?_)
  generalize hD : sB.heap.objs.size = D
  obtain ⟨W, ⟨m0, w0⟩, turn⟩ := q D (I2.hok.fresh (Nat.le_of_eq hD))
  -- the new dict
  have oldB : ∀ b o, sB.heap.get? b = some o → (sB.heap.push { cls := .type "dict", data := .dict #[] }).get? b = some o := fun b o e => Heap.get?_push_of_some _ e
  have I3 : Inv X pins σ (upd H2 D o0) { sB with heap := sB.heap.push { cls := .type "dict", data := .dict #[] } } :=
    I2.laid (t' := sB.toks) oldB (Nat.le_of_eq hD) (by rw [← hD]; exact h0 _ _ _ sB.heap I2.big)
  have below : ∀ b ∈ fp, b < sB.heap.objs.size := fun b hb => (T.obj _ _ st2 b hb).elim fun o e => Heap.lt_size e.1
  generalize hs3 : ({ sB with heap := sB.heap.push { cls := .type "dict", data := .dict #[] } } : Shared) = s3 at I3
  have eh3 : s3.heap = sB.heap.push { cls := .type "dict", data := .dict #[] } := by rw [← hs3]
  have f3 : ∀ b ∈ fp, FpOk X pins (upd H2 D o0) b ∧ b < s3.heap.objs.size := fun b hb => by
    have l := below b hb
    refine ⟨⟨?_, (f2 b hb).2⟩, by rw [eh3, Heap.size_push]; exact Nat.lt_succ_of_lt l⟩
    rw [upd_ne (fun z => absurd l (by rw [z, ← hD]; exact Nat.lt_irrefl _))]
    exact (f2 b hb).1
  have I4 := block_start I3 ok hN f3
  generalize hH3 : upd H2 D o0 = H3 at I3 I4 w0 f3
  generalize hcl : cellsFrom (s3.heap.objs.size + 1) scope.names (cloFrom X.env.cells scope.names []) = cl at I4
  have pg := hg s3 H3 s3.heap.objs.size cl fp
  have pt := ht s3 H3 s3.heap.objs.size cl fp
  have pk := hk s3 H3 s3.heap.objs.size cl fp
  have pv := hv s3 H3 s3.heap.objs.size cl fp
  show codeAny _ _ (.compStart (.DictComp kx vx [⟨tg, iter, ifs, 0⟩] scope pos) 0 (.ref it) (.ref D) (compEnvC scope cl s3.heap.objs.size X.env)) (compPost (model X.prog X.w) X.A X.xe use Qf (.ref D) s3.heap.objs.size) { s3 with heap := pushCells (s3.heap.push { cls := .type "dict", data := .dict #[] }) scope.names }
  generalize hce : compEnvC scope cl s3.heap.objs.size X.env = ce at I4 pg pt pk pv ⊢
  have cL : ce.locals = s3.heap.objs.size := by rw [← hce]; rfl
  generalize hs4 : ({ s3 with heap := pushCells (s3.heap.push { cls := .type "dict", data := .dict #[] }) scope.names } : Shared) = s4 at I4 ⊢
  have st4 : tn 0 s4.heap := T.keep _ _ _ st2 fun b _ o e => by
    rw [← hs4]
    exact pushCells_keeps _ _ _ _ (Heap.get?_push_of_some _ (by rw [eh3]; exact oldB b o e))
  have stat : ∀ {σ' : St} {H' : Hp} {s' : Shared}, Inv (X.blk s3 H3 scope ce fp) [] σ' H' s' → (∀ b ∈ fp, H' b = none) → ∀ b ∈ fp, FpOk (X.blk s3 H3 scope ce fp) [] H' b := fun {σ' H' s'} I' hn b hb =>
    ⟨hn b hb, (I'.ok.exf b hb).1, I'.ok.exfs b hb, .inl hb, fun x c e => (I'.ok.exf b hb).2 x c e, fun p hp => absurd (show p ∈ ([] : List (Addr × Obj)) ++ [] from hp) (by simp)⟩
  refine (fun loop => codeAny_compStart_dict loop (T.self X.A 0 _ _ _ st4 loop)) ?_
  refine compLoop_anyD (fun n s' => ∃ i H', Inv (X.blk s3 H3 scope ce fp) [] (wipe σ (own.map (·.2))) H' s' ∧ tn i s'.heap ∧ (∀ b ∈ fp, H' b = none) ∧ W i n H') ?_ m0 ⟨0, H3, I4, st4, fun b hb => (f3 b hb).1.1, w0⟩
  rintro n s5 ⟨i, H5, I5, st5, n5, w5⟩
  rcases turn i n H5 w5 with ⟨stop, qq⟩ | ⟨go, Nx, hNx, step⟩
  · -- the end: back in the def
    refine thnF (T.done (X.blk s3 H3 scope ce fp) rfl rfl rfl hc i [] s5 _ H5 (fun _ _ => False) I5 (stat I5 n5) st5 stop) fun r s6 ⟨hr, I6⟩ => ?_
    subst hr
    have I7 : Inv X pins σ H5 s6 := I3.call' (ch := fp) I6.os I6.base I6.hok I6.bare fun b hb => ⟨(f3 b hb).1.2.2.2.1, (f3 b hb).1.2.1, (f3 b hb).1.2.2.2.2.1, (f3 b hb).1.2.2.2.2.2⟩
    have nC : H5 ce.locals = none := I6.free
    obtain ⟨m, hn, _⟩ := I6.loc
    have hn' : s6.heap.Ns ce.locals m := hn
    rw [cL] at hn' nC
    exact hRR D s3.heap.objs.size s6 m H5 I7 qq hn' (I3.fpOk (Nat.le_refl _) nC)
  · refine thnF (T.item (X.blk s3 H3 scope ce fp) rfl rfl rfl hc i [] s5 _ H5 (fun _ _ => False) I5 (stat I5 n5) st5 go) fun r s6 ⟨u, hr, h6⟩ => ?_
    subst hr
    refine thnF h6 fun _ s7 ⟨x, H7, I7, r7, y7, st7, n7⟩ => ?_
    refine thnF (pg.run _ s7 _ H7 x u _ (I7.pinned (stat I7 n7) (T.obj _ _ st7)) r7 (step x H7 y7)) fun _ s8 ⟨σ8, H8, I8, hw8, q8⟩ => ?_
    refine thnF (pt.run _ s8 σ8 H8 _ I8 q8) fun b s9 ⟨H9, I9, q9⟩ => ?_
    -- a turn's end
    have fin : ∀ {s' : Shared} {H' : Hp}, Inv (X.blk s3 H3 scope ce fp) ([] ++ pinsAt fp s7.heap) σ8 H' s' → Nx H' → ∃ m, m < n ∧ ∃ i H', Inv (X.blk s3 H3 scope ce fp) [] (wipe σ (own.map (·.2))) H' s' ∧ tn i s'.heap ∧ (∀ b ∈ fp, H' b = none) ∧ W i m H' := fun {s' H'} I' nx => by
      obtain ⟨m', hm, w'⟩ := hNx H' nx
      have pin : ∀ b ∈ fp, ∀ o, s7.heap.get? b = some o → s'.heap.get? b = some o ∧ H' b = none := fun b hb o e => by
        have z := I'.pin (b, o) (List.mem_append_right _ (List.mem_append_right _ (mem_pinsAt hb e)))
        exact ⟨z.1, z.2.1⟩
      refine ⟨m', hm, i + 1, H', (I'.unpinned (pins := [])).weak (by rw [← hw8, wipe_length]) (fun j v e => ?_), T.keep _ _ _ st7 fun b hb o e => (pin b hb o e).1, fun b hb => ?_, w'⟩
      · rw [← hw8] at e
        exact (wipe_some e).1
      · obtain ⟨o, e, _⟩ := T.obj _ _ st7 b hb
        exact (pin b hb o e).2
    cases b with
    | false =>
      simp only [Bool.false_eq_true, if_false] at q9 ⊢
      exact fin I9 q9
    | true =>
      simp only [if_true] at q9 ⊢
      refine thnF (pk.run _ s9 σ8 H9 _ I9 q9) fun z sK ⟨yk, HK, IK, rK, qK⟩ => ?_
      refine thnF (pv.run _ sK σ8 HK _ IK qK) fun z2 sV ⟨yv, HV, IV, rV, H6, put, nx⟩ => ?_
      exact put_comp (X := X.blk s3 H3 scope ce fp) hu IV put rK rV fun s12 I12 => fin I12 nx
theorem pe_dcP (h0 : Fresh0 o0) (hu : X.A.units < cLine) (hc : X.calm = true) (hN : X.N.Nodup) (hi : PI X tg iter wi) (ok : BlkOk X.N X.env.scope scope own)
    (hg : ∀ (s : Shared) (H : Hp) (C : Addr) (cl : List (Str × Addr)) (fp : List Addr), PG (X.blk s H scope (compEnvC scope cl C X.env) fp) tg g)
    (ht : ∀ (s : Shared) (H : Hp) (C : Addr) (cl : List (Str × Addr)) (fp : List Addr), PTs (X.blk s H scope (compEnvC scope cl C X.env) fp) ifs tt)
    (hk : ∀ (s : Shared) (H : Hp) (C : Addr) (cl : List (Str × Addr)) (fp : List Addr), PE (X.blk s H scope (compEnvC scope cl C X.env) fp) kx tk)
    (hv : ∀ (s : Shared) (H : Hp) (C : Addr) (cl : List (Str × Addr)) (fp : List Addr), PE (X.blk s H scope (compEnvC scope cl C X.env) fp) vx tv) (hs : ∀ x, foldedSetIterable iter X.env x = pure x := by intro _; rfl) :
    PE X (.DictComp kx vx [⟨tg, iter, ifs, 0⟩] scope pos) (tDcP o0 wi g tt tk tv (own.map (·.2))) := by
  refine ⟨fun pins s σ H Q I h => ?_⟩
  rw [arm_eval_DictComp]
  refine dcP_core h0 hu hc hN I hi ok hg ht hk hv hs h fun D C s' m H' I' q hn f => ⟨m, hn, fun h'' sb => ?_⟩
  obtain ⟨f0, f1, f2, f3, f4, f5⟩ := f
  exact ⟨.ref D, H', I'.turned (t' := s'.toks) (fun b o hb e => (sb.2 b hb).trans e) f0 f1 f3 f4 f5, rfl, q⟩
theorem swD_true {gs : List Comprehension} {py : Pos} {y : Str} {l : Nat} {env : Env} (hk : env.scope.kind = .function) (hy : env.scope.names.lookup y = some .local) (hl : (py.line == pos.line) = true)
    (ha : (scope.names.any fun (n, k) => n == y && (k == .local || k == .cell)) = false) : swapsWith (.DictComp kx vx gs scope pos) (some (.Name y py)) l env = pure true := by
  have ky : env.kindOf y = some .local := hy
  have hb : env.blockKind = .function := by unfold Env.blockKind; rw [hk]; rfl
  unfold swapsWith
  simp only [hb, ky, ha, Expr.pos, hl]
  rfl
/-- x = {k: v for ..} -/
theorem ps_setDcP {i : Nat} {y : Str} {py spos : Pos} (h0 : Fresh0 o0) (hu : X.A.units < cLine) (hc : X.calm = true) (hN : X.N.Nodup) (hy : X.N[i]? = some y) (hyl : X.env.scope.names.lookup y = some .local)
    (hsw : swapsWith (.DictComp kx vx [⟨tg, iter, ifs, 0⟩] scope pos) (some (.Name y py)) spos.line X.env = pure true) (hi : PI X tg iter wi) (ok : BlkOk X.N X.env.scope scope own)
    (hg : ∀ (s : Shared) (H : Hp) (C : Addr) (cl : List (Str × Addr)) (fp : List Addr), PG (X.blk s H scope (compEnvC scope cl C X.env) fp) tg g)
    (ht : ∀ (s : Shared) (H : Hp) (C : Addr) (cl : List (Str × Addr)) (fp : List Addr), PTs (X.blk s H scope (compEnvC scope cl C X.env) fp) ifs tt)
    (hk : ∀ (s : Shared) (H : Hp) (C : Addr) (cl : List (Str × Addr)) (fp : List Addr), PE (X.blk s H scope (compEnvC scope cl C X.env) fp) kx tk)
    (hv : ∀ (s : Shared) (H : Hp) (C : Addr) (cl : List (Str × Addr)) (fp : List Addr), PE (X.blk s H scope (compEnvC scope cl C X.env) fp) vx tv) (hs : ∀ x, foldedSetIterable iter X.env x = pure x := by intro _; rfl) :
    PS X (.Assign [.Name y py] (.DictComp kx vx [⟨tg, iter, ifs, 0⟩] scope pos) spos) (tAsg (tDcP o0 wi g tt tk tv (own.map (·.2))) (gName i)) := by
  refine ⟨fun pins s σ H D I h => ?_⟩
  rw [exec_Assign_Name_used _ _ _ _ hsw]
  refine wpAny_bind (wpAny_standAt (wpAny_bind ?_))
  show wpAny _ X.A (do let _ ← comprehension (.DictComp kx vx [⟨tg, iter, ifs, 0⟩] scope pos) scope X.env (firstIterPos [⟨tg, iter, ifs, 0⟩] pos) newDict false (eval iter X.env) (some (assign (.Name y py) X.env))) _ _ s
  have h : tDcP o0 wi g tt tk tv (own.map (·.2)) σ H (fun x H1 => gName i x σ H1 D.nx) := h
  refine wpAny_bind (thn (dcP_core (Qf := fun _ s' => SP X pins D .next s') h0 hu hc hN I hi ok hg ht hk hv hs h fun L C s' m H' I' q hn f => ?_) fun _ s' hq => wpAny_pure (wpAny_pure hq))
  show wpAny _ _ (assign (.Name y py) X.env (.ref L)) _ _ _
  refine wpAny_assign_Name (store_ok2 (v := V.ref L) I' hN hy (.inl hyl) rfl (fun s2 I2 ⟨a, sb, ha⟩ => ?_) (.inr hyl))
  obtain ⟨f0, f1, f2, f3, f4, f5⟩ := f
  have haC : C ≠ a := by
    rcases ha with z | z
    · rw [z]; exact f1
    · exact fun e => f4 y a z e.symm
  refine ⟨m, hn.sameBut sb haC, fun h3 sb3 => ?_⟩
  exact ⟨_, H', I2.turned (t' := s2.toks) (fun b o hb e => (sb3.2 b hb).trans e) f0 f1 f3 f4 f5, q⟩
end
end L2

/-! sets of texts: made by a comprehension, sorted -/
namespace L2
open PySem PySem.Spec PySem.W PyProof.Rows
def txOf (e : Int × Value) : Str := match e.2 with
  | .str x _ => x
  | _ => Str.empty
def GoodX (w : World) (e : Int × Value) : Prop := ∃ x tk, e.2 = Value.str x tk ∧ e.1 = hashStr w x
/-- the set of the texts L at a -/
def SetX (w : World) (h : Heap) (a : Addr) (L : List Str) : Prop :=
  ∃ o es ep t, h.get? a = some o ∧ o.ExactSet ∧ o.data = .set es ep t ∧ (∀ e ∈ es.toList, GoodX w e) ∧ (es.toList.map txOf).Perm L ∧ L.Nodup ∧ es.size < scanBound ∧ t.fits es.size = true ∧ Ris t.place.toList ∧ (w.params.followText "set-order" = true ∨ t.led = true)
section
variable {P : Program} {w : World} {A : Around} {E : Value → Shared → Prop} {s : Shared} {a : Addr} {L : List Str}
theorem goodX_is {e : Int × Value} (g : GoodX w e) (x : Str) : (strKind P w).is x e.2 = true ↔ txOf e = x := by
  obtain ⟨y, tk, h1, _⟩ := g
  unfold txOf
  rw [h1]
  constructor
  · intro h
    obtain ⟨t, e⟩ := Value.isStrOf_shape (x := x) (v := .str y tk) h
    exact (Value.str.inj e).1
  · intro h
    rw [← h]
    exact strKind_is P w y tk
theorem goodX_elems {l : List (Int × Value)} (g : ∀ e ∈ l, GoodX w e) : ElemsOf (strKind P w) l := fun e he => by
  obtain ⟨x, tk, h1, h2⟩ := g e he
  exact ⟨⟨x, by rw [h1]; exact strKind_is P w x tk, h2⟩, by rw [h1]; rfl⟩
theorem SetX.typeIs (R : SetX w s.heap a L) : s.TypeIs (.ref a) "set" := by
  obtain ⟨o, es, ep, t, ho, hx, _⟩ := R
  exact ⟨o, ho, hx.1⟩
/-- a member is put in -/
theorem setX_add {x : Str} {tk : Tok} {Q : Value → Shared → Prop} (R : SetX w s.heap a L) (room : L.length + 1 < scanBound)
    (hQ : ∀ h', Heap.SameBut a s.heap h' → SetX w h' a (if x ∈ L then L else x :: L) → Q .none { s with heap := h', toks := s.toks + 1 }) :
    wpAny (model P w) A (call (.builtin "set.add") [.ref a, .str x tk]) Q E s := by
  have ty := R.typeIs
  obtain ⟨o, es, ep, t, ho, hex, hd, g, pm0, nd, hb, hf, hr, hl⟩ := R
  have hn : es.size = L.length := by rw [← Array.length_toList, ← pm0.length_eq, List.length_map]
  have hkey : (strKind P w).is x (.str x tk) = true := strKind_is P w x tk
  have hsc : (Value.str x tk).scannable = true := rfl
  have hel : ElemsOf (strKind P w) es.toList := goodX_elems g
  -- one more, then perhaps all anew
  have quiet : ∀ (f g : String) (b : Bool) {s₁ : Shared} {Q' : Unit → Shared → Prop}, Q' () s₁ → wpAny (model P w) A.in1 (if b = true then rule f else pure ()) Q' E s₁ := fun f g b s₁ Q' q => by
    cases b
    · exact wpAny_pure q
    · exact wpAny_rule q
  refine wpAny_call_entry F.slot_set_add ty F.entry_set_add ?_ (F.args_set_add_2 _ _)
  unfold Builtin.«set.add» Builtin.Frozenset.oneOther
  simp only [List.isEmpty_nil, bind_assoc]
  unfold Builtin.Frozenset.addrOf setAdd
  refine wpAny_bind (wpAny_pure ?_)
  try dsimp only
  refine wpAny_bind (wpAny_pure ?_)
  try dsimp only
  refine wpAny_bind (wpAny_holding (wpAny_bind ((strKind P w).pyHash hkey ?_)))
  unfold setAddHashed setAddHashedIn
  refine wpAny_holding (wpAny_bind (wpAny_setState_of (s := { s with toks := s.toks + 1 }) ho hd hf ?_))
  dsimp only
  rw [byScan_of hsc hb hel]
  simp only [↓reduceIte]
  unfold setAddByScan
  refine wpAny_bind (wpAny_bind (wpAny_rule (wpAny_bind (wpAny_setScan_of (s := { s with toks := s.toks + 1 }) hkey ho hd hf hel ?_))))
  cases hfi : List.findIdx? (fun e => (strKind P w).is x e.2) es.toList with
  | some j =>
    dsimp only
    obtain ⟨hj, pj, _⟩ := List.findIdx?_eq_some_iff_getElem.mp hfi
    have hin : x ∈ L := pm0.mem_iff.mp (List.mem_map.mpr ⟨es.toList[j], List.getElem_mem hj, (goodX_is (g _ (List.getElem_mem hj)) x).mp pj⟩)
    have q := hQ s.heap (Heap.SameBut.refl a s.heap)
    rw [if_pos hin] at q
    exact wpAny_pure (wpAny_pure (wpAny_pure ⟨_, rfl, q ⟨o, es, ep, t, ho, hex, hd, g, pm0, nd, hb, hf, hr, hl⟩⟩))
  | none =>
    dsimp only
    have hno : x ∉ L := fun z => by
      obtain ⟨e, he, q⟩ := List.mem_map.mp (pm0.mem_iff.mpr z)
      have c := List.findIdx?_eq_none_iff.mp hfi e he
      rw [(goodX_is (P := P) (g e he) x).mpr q] at c
      cases c
    have pm := layNew_perm t es ((strKind P w).hash x) (.str x tk)
    have hf1 := layNew_fits t es ((strKind P w).hash x) (.str x tk)
    have hr1 := layNew_ris t es ((strKind P w).hash x) (.str x tk) hr
    have hl1 := layNew_led t es ((strKind P w).hash x) (.str x tk)
    generalize layNew t es ((strKind P w).hash x) (.str x tk) = Z at pm hf1 hr1 hl1 ⊢
    obtain ⟨es1, t1, wasDummy, gave⟩ := Z
    dsimp only at pm hf1 hr1 hl1 ⊢
    rw [Array.toList_push] at pm
    have pc : es1.toList.Perm (((strKind P w).hash x, Value.str x tk) :: es.toList) := pm.trans (List.perm_append_singleton _ _)
    have pk : (es1.toList.map txOf).Perm (x :: L) := (pc.map txOf).trans (pm0.cons x)
    have g1 : ∀ e ∈ es1.toList, GoodX w e := fun e he => by
      rcases List.mem_cons.mp (pc.mem_iff.mp he) with z | z
      · rw [z]
        exact ⟨x, tk, rfl, rfl⟩
      · exact g e z
    have nd1 : (x :: L).Nodup := List.nodup_cons.mpr ⟨hno, nd⟩
    have hsz : es1.size = L.length + 1 := by rw [← Array.length_toList, pc.length_eq, List.length_cons, Array.length_toList, hn]
    have hb1 : es1.size < scanBound := by rw [hsz]; exact room
    have hled : w.params.followText "set-order" = true ∨ t1.led = true := hl.imp id fun z => by rw [hl1]; exact z
    have fin : ∀ h', Heap.SameBut a s.heap h' → SetX w h' a (x :: L) → Q .none { s with heap := h', toks := s.toks + 1 } := fun h' sb r => by
      have q := hQ h' sb
      rw [if_neg hno] at q
      exact q r
    -- the two stores
    have tail : ∀ (t2 : SetTable) (wd : Bool) (gg : Bool → Sem Unit) (R : Option Bool → Shared → Prop), t2.fits es1.size = true → Ris t2.place.toList → (w.params.followText "set-order" = true ∨ t2.led = true) →
        (∀ (b : Bool) (s₁ : Shared) (Q' : Unit → Shared → Prop), Q' () s₁ → wpAny (model P w) A.in1 (gg b) Q' (fun e s' => E e s') s₁) →
        (∀ h', Heap.SameBut a s.heap h' → SetX w h' a (x :: L) → R (some true) { s with heap := h', toks := s.toks + 1 }) →
        wpAny (model P w) A.in1 (do
          storeSet a es1 t2
          if (!wd && t2.tooFull) = true then do
              gg (relayAll t2 es1 (SetTable.grown es1.size)).2.2
              storeSet a (relayAll t2 es1 (SetTable.grown es1.size)).1 (relayAll t2 es1 (SetTable.grown es1.size)).2.1
              pure (some true)
            else pure (some true)) R (fun e s' => E e s') { s with toks := s.toks + 1 } := by
      intro t2 wd gg R hf2 hr2 hl2 hgg hR
      refine wpAny_bind (wpAny_storeSet_of (s := { s with toks := s.toks + 1 }) ho hd ?_ (fits_of_scanBound hb1))
      have ho1 := store_at (es' := es1) (t' := t2) ho hd
      have sb1 := Heap.SameBut.update s.heap a (Obj.putSet es1 t2)
      split
      · have pr := relayAll_perm t2 es1 (SetTable.grown es1.size)
        have hf3 := relayAll_fits t2 es1 (SetTable.grown es1.size)
        have hr3 := relayAll_ris t2 es1 (SetTable.grown es1.size)
        have hl3 := relayAll_led t2 es1 (SetTable.grown es1.size)
        generalize relayAll t2 es1 (SetTable.grown es1.size) = Y at pr hf3 hr3 hl3 ⊢
        obtain ⟨es2, t3, gv⟩ := Y
        dsimp only at pr hf3 hr3 hl3 ⊢
        have hb2 : es2.size < scanBound := by
          rw [← Array.length_toList, pr.length_eq, Array.length_toList]
          exact hb1
        refine wpAny_bind (hgg _ _ _ ?_)
        refine wpAny_bind (wpAny_storeSet_of ho1 rfl ?_ (fits_of_scanBound hb2))
        have ho2 := store_at (es' := es2) (t' := t3) ho1 rfl
        exact wpAny_pure (hR _ (sb1.trans (Heap.SameBut.update _ a _)) ⟨_, es2, _, t3, ho2, hex, rfl, fun e he => g1 e (pr.mem_iff.mp he), (pr.map txOf).trans pk, nd1, hb2, hf3, hr3, hl2.imp id fun z => by rw [hl3]; exact z⟩)
      · exact wpAny_pure (hR _ sb1 ⟨_, es1, _, t2, ho1, hex, rfl, g1, pk, nd1, hb1, hf2, hr2, hl2⟩)
    have hgw : ∀ (b : Bool) {s₁ : Shared} {Q' : Unit → Shared → Prop}, Q' () s₁ → wpAny (model P w) A.in1 (match b with | true => rule "set.scan.the-table-gave-way" | false => pure ()) Q' (fun e s' => E e s') s₁ :=
      fun b s₁ Q' q => by cases b <;> first | exact wpAny_pure q | exact wpAny_rule q
    refine wpAny_bind (hgw _ ?_)
    split
    · refine wpAny_bind ?_
      rw [hashByValue_scannable 8 hsc]
      refine wpAny_pure ?_
      refine tail _ _ _ _ ?_ ?_ ?_ ?_ ?_
      · first | (split <;> first | exact hf1 | exact SetTable.fits_plain_off hf1) | exact hf1
      · first | (split <;> exact hr1) | exact hr1
      · first | (split <;> exact hled) | exact hled
      · intro b s₁ Q' q; cases b <;> first | exact wpAny_pure q | exact wpAny_rule q
      · intro h' sb r; dsimp only; exact wpAny_pure (wpAny_pure ⟨_, rfl, fin h' sb r⟩)
    · refine wpAny_bind (wpAny_pure ?_)
      simp only [↓reduceIte]
      refine tail _ _ _ _ hf1 hr1 hled ?_ ?_
      · intro b s₁ Q' q; cases b <;> first | exact wpAny_pure q | exact wpAny_rule q
      · intro h' sb r; dsimp only; exact wpAny_pure (wpAny_pure ⟨_, rfl, fin h' sb r⟩)
end
end L2

namespace L2
open PySem PySem.Spec PySem.W PyProof.Rows RW9 PpSet
def SetXO (w : World) (a : Addr) (L : List Str) : HO := .ext fun h => SetX w h a L
theorem setX_at {w : World} {h h' : Heap} {a : Addr} {L : List Str} (R : SetX w h a L) (k : ∀ o, h.get? a = some o → h'.get? a = some o) : SetX w h' a L := by
  obtain ⟨o, es, ep, t, ho, r⟩ := R
  exact ⟨o, es, ep, t, k o ho, r⟩
theorem setXO_new {w : World} {P : Program} {H : Hp} {h : Heap} {a : Addr} {L : List Str} (R : SetX w h a L) : ObjOk P w H h a (SetXO w a L) := by
  have ⟨o, _, _, _, ho, _⟩ := R
  exact ⟨R, ⟨o, ho⟩, fun h1 h2 p k => setX_at p k⟩
theorem setX_fresh {h : Heap} (w : World) : SetX w (h.push { cls := .type "set", dict := none, data := .set #[] 0 (.fresh 0 0 (!w.params.followText "set-order")) }) h.objs.size [] :=
  ⟨_, #[], 0, _, Heap.get?_push_size _ rfl, ⟨rfl, rfl, rfl⟩, rfl, (fun e he => by simp at he), .nil, List.Pairwise.nil, (by decide), (by rfl), List.Pairwise.nil, by
    show _ ∨ (!w.params.followText "set-order") = true
    cases w.params.followText "set-order"
    · exact .inr rfl
    · exact .inl rfl⟩
section
variable {X : Cx}
theorem addX_ok {pins : List (Addr × Obj)} {σ : L2.St} {H : Hp} {s : Shared} {E : Value → Shared → Prop} {D : Addr} {L : List Str} {x : Str} {tk : Tok} {Q : Value → Shared → Prop} (I : Inv X pins σ H s) (hD : H D = some (SetXO X.w D L)) (room : L.length + 1 < scanBound)
    (h : ∀ s', Inv X pins σ (upd H D (SetXO X.w D (if x ∈ L then L else x :: L))) s' → Q .none s') : wpAny (model X.prog X.w) X.A (call (.builtin "set.add") [.ref D, .str x tk]) Q E s := by
  have R : SetX X.w s.heap D L := (I.hok D _ hD).1
  refine setX_add R room fun h' sb new => ?_
  have he : ∃ u, h'.get? D = some u := by
    have ⟨o, _, _, _, ho, _⟩ := new
    exact ⟨o, ho⟩
  exact h _ (I.write (e := D) (t' := s.toks + 1) (by rw [hD]; trivial) (.inl rfl) (fun b u hb hu => (sb.2 b hb).trans hu) he (setXO_new new))
/-- {elt for target in iter if ..}, elt a text: D the new set -/
def tScX (w : World) (wi : TI) (g : TG) (tt : TT) (te : TE) (vs : List Nat) : TE := fun σ H Q => wi σ H fun J H1 => ∀ D, H1 D = none → ∃ W : Nat → Nat → Hp → Prop, (∃ m, W 0 m (upd H1 D (SetXO w D []))) ∧ ∀ i m H, W i m H →
  (J.stop i H ∧ Q (.ref D) H) ∨ (J.go i H ∧ ∃ Nx : Hp → Prop, (∀ H', Nx H' → ∃ m', m' < m ∧ W (i + 1) m' H') ∧ ∀ x H', J.yld i H x H' → g x (wipe σ vs) H' fun σ2 H2 => wipe σ2 vs = wipe σ vs ∧ tt σ2 H2 fun b H3 =>
    if b = true then te σ2 H3 fun y H4 => ∃ (x : Str) (L : List Str), y = .str x ∧ H4 D = some (SetXO w D L) ∧ L.length + 1 < scanBound ∧ Nx (upd H4 D (SetXO w D (if x ∈ L then L else x :: L))) else Nx H3)
variable {elt tg iter : Expr} {ifs : List Expr} {scope : Scope} {own : List (Str × Nat)} {pos : Pos} {wi : TI} {g : TG} {tt : TT} {te : TE}
theorem pe_scX (hc : X.calm = true) (hN : X.N.Nodup) (hi : PI X tg iter wi) (ok : BlkOk X.N X.env.scope scope own)
    (hg : ∀ (s : Shared) (H : Hp) (C : Addr) (cl : List (Str × Addr)) (fp : List Addr), PG (X.blk s H scope (compEnvC scope cl C X.env) fp) tg g)
    (ht : ∀ (s : Shared) (H : Hp) (C : Addr) (cl : List (Str × Addr)) (fp : List Addr), PTs (X.blk s H scope (compEnvC scope cl C X.env) fp) ifs tt)
    (hv : ∀ (s : Shared) (H : Hp) (C : Addr) (cl : List (Str × Addr)) (fp : List Addr), PE (X.blk s H scope (compEnvC scope cl C X.env) fp) elt te) (hs : ∀ x, foldedSetIterable iter X.env x = pure x := by intro _; rfl) :
    PE X (.SetComp elt [⟨tg, iter, ifs, 0⟩] scope pos) (tScX X.w wi g tt te (own.map (·.2))) := by
  refine ⟨fun pins s σ H Q I h => ?_⟩
  rw [eval_SetComp]
  have cells : ∀ y ∈ scope.names, y.2 = .free → ∃ c, X.env.cells.lookup y.1 = some c := fun y hy e => (ok.free y hy e).elim (fun k => I.ok.has _ (.inl k)) fun k => I.ok.has _ (.inr k)
  refine wpAny_comprehension_free (use := none) rfl hs (closure_ok cells) ok.kind (fun y hy e => by rw [ok.uniq y hy, e]) (thn (hi.run pins s σ H _ I h) fun xv sA hx => thn hx fun itv sB hB => ?_)
  obtain ⟨it, fp, tn, J, H2, e, I2, T, st2, f2, q⟩ := hB
  subst e
  refine newSet_ok (newEnv_comp ?_)
  generalize hD : sB.heap.objs.size = D
  obtain ⟨W, ⟨m0, w0⟩, turn⟩ := q D (I2.hok.fresh (Nat.le_of_eq hD))
  generalize hob : ({ cls := .type "set", dict := none, data := .set #[] 0 (.fresh 0 0 (!X.w.params.followText "set-order")) } : Obj) = ob
  have oldB : ∀ b o, sB.heap.get? b = some o → (sB.heap.push ob).get? b = some o := fun b o e => Heap.get?_push_of_some _ e
  have I3 : Inv X pins σ (upd H2 D (SetXO X.w D [])) { sB with heap := sB.heap.push ob } := by
    refine I2.laid (t' := sB.toks) oldB (Nat.le_of_eq hD) ?_
    rw [← hD, ← hob]
    exact setXO_new (setX_fresh X.w)
  have below : ∀ b ∈ fp, b < sB.heap.objs.size := fun b hb => (T.obj _ _ st2 b hb).elim fun o e => Heap.lt_size e.1
  generalize hs3 : ({ sB with heap := sB.heap.push ob } : Shared) = s3 at I3
  have eh3 : s3.heap = sB.heap.push ob := by rw [← hs3]
  have f3 : ∀ b ∈ fp, FpOk X pins (upd H2 D (SetXO X.w D [])) b ∧ b < s3.heap.objs.size := fun b hb => by
    have l := below b hb
    refine ⟨⟨?_, (f2 b hb).2⟩, by rw [eh3, Heap.size_push]; exact Nat.lt_succ_of_lt l⟩
    rw [upd_ne (fun z => absurd l (by rw [z, ← hD]; exact Nat.lt_irrefl _))]
    exact (f2 b hb).1
  have I4 := block_start I3 ok hN f3
  generalize hH3 : upd H2 D (SetXO X.w D []) = H3 at I3 I4 w0 f3
  generalize hcl : cellsFrom (s3.heap.objs.size + 1) scope.names (cloFrom X.env.cells scope.names []) = cl at I4
  have pg := hg s3 H3 s3.heap.objs.size cl fp
  have pt := ht s3 H3 s3.heap.objs.size cl fp
  have pv := hv s3 H3 s3.heap.objs.size cl fp
  show codeAny _ _ (.compStart (.SetComp elt [⟨tg, iter, ifs, 0⟩] scope pos) 0 (.ref it) (.ref D) (compEnvC scope cl s3.heap.objs.size X.env)) (compPost (model X.prog X.w) X.A X.xe none (EP X pins σ Q) (.ref D) s3.heap.objs.size) { s3 with heap := pushCells (s3.heap.push { cls := .type "dict", data := .dict #[] }) scope.names }
  generalize hce : compEnvC scope cl s3.heap.objs.size X.env = ce at I4 pg pt pv ⊢
  have cL : ce.locals = s3.heap.objs.size := by rw [← hce]; rfl
  generalize hs4 : ({ s3 with heap := pushCells (s3.heap.push { cls := .type "dict", data := .dict #[] }) scope.names } : Shared) = s4 at I4 ⊢
  have st4 : tn 0 s4.heap := T.keep _ _ _ st2 fun b _ o e => by
    rw [← hs4]
    exact pushCells_keeps _ _ _ _ (Heap.get?_push_of_some _ (by rw [eh3]; exact oldB b o e))
  have stat : ∀ {σ' : L2.St} {H' : Hp} {s' : Shared}, Inv (X.blk s3 H3 scope ce fp) [] σ' H' s' → (∀ b ∈ fp, H' b = none) → ∀ b ∈ fp, FpOk (X.blk s3 H3 scope ce fp) [] H' b := fun {σ' H' s'} I' hn b hb =>
    ⟨hn b hb, (I'.ok.exf b hb).1, I'.ok.exfs b hb, .inl hb, fun x c e => (I'.ok.exf b hb).2 x c e, fun p hp => absurd (show p ∈ ([] : List (Addr × Obj)) ++ [] from hp) (by simp)⟩
  refine (fun loop => codeAny_compStart_set loop (T.self X.A 0 _ _ _ st4 loop)) ?_
  refine compLoopS_any (fun n s' => ∃ i H', Inv (X.blk s3 H3 scope ce fp) [] (wipe σ (own.map (·.2))) H' s' ∧ tn i s'.heap ∧ (∀ b ∈ fp, H' b = none) ∧ W i n H') ?_ m0 ⟨0, H3, I4, st4, fun b hb => (f3 b hb).1.1, w0⟩
  rintro n s5 ⟨i, H5, I5, st5, n5, w5⟩
  rcases turn i n H5 w5 with ⟨stop, qq⟩ | ⟨go, Nx, hNx, step⟩
  · refine thnF (T.done (X.blk s3 H3 scope ce fp) rfl rfl rfl hc i [] s5 _ H5 (fun _ _ => False) I5 (stat I5 n5) st5 stop) fun r s6 ⟨hr, I6⟩ => ?_
    subst hr
    have I7 : Inv X pins σ H5 s6 := I3.call' (ch := fp) I6.os I6.base I6.hok I6.bare fun b hb => ⟨(f3 b hb).1.2.2.2.1, (f3 b hb).1.2.1, (f3 b hb).1.2.2.2.2.1, (f3 b hb).1.2.2.2.2.2⟩
    have nC : H5 ce.locals = none := I6.free
    obtain ⟨m, hn, _⟩ := I6.loc
    have hn' : s6.heap.Ns ce.locals m := hn
    rw [cL] at hn' nC
    refine ⟨m, hn', fun h'' sb => ?_⟩
    obtain ⟨c0, c1, c2, c3, c4, c5⟩ := I3.fpOk (Nat.le_refl s3.heap.objs.size) nC
    exact ⟨.ref D, H5, I7.turned (t' := s6.toks) (fun b o hb e => (sb.2 b hb).trans e) c0 c1 c3 c4 c5, rfl, qq⟩
  · refine thnF (T.item (X.blk s3 H3 scope ce fp) rfl rfl rfl hc i [] s5 _ H5 (fun _ _ => False) I5 (stat I5 n5) st5 go) fun r s6 ⟨u, hr, h6⟩ => ?_
    subst hr
    refine thnF h6 fun _ s7 ⟨x, H7, I7, r7, y7, st7, n7⟩ => ?_
    refine thnF (pg.run _ s7 _ H7 x u _ (I7.pinned (stat I7 n7) (T.obj _ _ st7)) r7 (step x H7 y7)) fun _ s8 ⟨σ8, H8, I8, hw8, q8⟩ => ?_
    refine thnF (pt.run _ s8 σ8 H8 _ I8 q8) fun b s9 ⟨H9, I9, q9⟩ => ?_
    have fin : ∀ {s' : Shared} {H' : Hp}, Inv (X.blk s3 H3 scope ce fp) ([] ++ pinsAt fp s7.heap) σ8 H' s' → Nx H' → ∃ m, m < n ∧ ∃ i H', Inv (X.blk s3 H3 scope ce fp) [] (wipe σ (own.map (·.2))) H' s' ∧ tn i s'.heap ∧ (∀ b ∈ fp, H' b = none) ∧ W i m H' := fun {s' H'} I' nx => by
      obtain ⟨m', hm, w'⟩ := hNx H' nx
      have pin : ∀ b ∈ fp, ∀ o, s7.heap.get? b = some o → s'.heap.get? b = some o ∧ H' b = none := fun b hb o e => by
        have z := I'.pin (b, o) (List.mem_append_right _ (List.mem_append_right _ (mem_pinsAt hb e)))
        exact ⟨z.1, z.2.1⟩
      refine ⟨m', hm, i + 1, H', (I'.unpinned (pins := [])).weak (by rw [← hw8, wipe_length]) (fun j v e => ?_), T.keep _ _ _ st7 fun b hb o e => (pin b hb o e).1, fun b hb => ?_, w'⟩
      · rw [← hw8] at e
        exact (wipe_some e).1
      · obtain ⟨o, e, _⟩ := T.obj _ _ st7 b hb
        exact (pin b hb o e).2
    cases b with
    | false =>
      simp only [Bool.false_eq_true, if_false] at q9 ⊢
      exact fin I9 q9
    | true =>
      simp only [if_true] at q9 ⊢
      refine thnF (pv.run _ s9 σ8 H9 _ I9 q9) fun z sV ⟨yv, HV, IV, rV, tx, L0, ey, hDV, room, nx⟩ => ?_
      subst ey
      obtain ⟨tk, rfl⟩ := (show ∃ t, z = Value.str tx t from rV)
      exact addX_ok (X := X.blk s3 H3 scope ce fp) IV hDV room fun s12 I12 => fin I12 nx
/-! ### sorted of a set of texts -/
def rSortX (w : World) : List V → Hp → VK → Prop := fun vs H Q => ∃ (a : Addr) (L : List Str), vs = [.ref a] ∧ H a = some (SetXO w a L) ∧ ∀ (p : Addr) (M : List Str), H p = none → M.Perm L → M.Nodup → Q (.ref p) (upd H p (.lst (M.map V.str)))
theorem cr_sortedX (hc : X.calm = true) (hu : X.A.units + 8 < cLine) : CallR X (.builtin "sorted") (rSortX X.w) := by
  intro pins s σ H xs us Q I r h
  obtain ⟨a, L, rfl, ha, q⟩ := h
  obtain rfl := Vals.ref1 r
  obtain ⟨o, es, ep, t, ho, hex, hd, g, pm0, nd, hb, hf, hr, hl⟩ := (show SetX X.w s.heap a L from (I.hok a _ ha).1)
  refine Calls.call_function_entry PyProof.Rows.kind_sorted PyProof.Rows.plain_sorted PyProof.Rows.entry_sorted (PyProof.Rows.args_sorted1 _) ?_
  unfold Builtin.«sorted»
  refine wpAny_bind (m := checkCount "sorted" 1 1 _) (wpAny_pure ?_)
  refine wpAny_bind (collect_set (A := X.A.in1) (I.ok.hd hc) ⟨o, ho, hex.1, hd⟩ hf hb hr hl fun s1 vs k1 hz g1 o1 pm => ?_)
  let tx : Value → Str := fun v => match v with
    | .str x _ => x
    | _ => Str.empty
  have isS : ∀ v ∈ vs, ∃ x tk, v = Value.str x tk := fun v hv => by
    obtain ⟨e, he, q⟩ := List.mem_map.mp (pm.mem_iff.mp hv)
    obtain ⟨x, tk, h1, _⟩ := g e he
    exact ⟨x, tk, by rw [← q]; exact h1⟩
  have pL : (vs.map tx).Perm L := by
    have e : (vs.map tx).Perm (es.toList.map txOf) := by
      have z := pm.map tx
      rw [List.map_map] at z
      exact z
    exact e.trans pm0
  have vl : vs.length ≤ sizeLine := by
    rw [pm.length_eq, List.length_map, Array.length_toList]
    exact fits_of_scanBound hb
  have I1 : Inv X pins σ H s1 := I.call' (ch := []) o1 (Un.kept k1) (I.hok.kept k1) (by rw [g1]; exact I.bare) (fun _ z => nomatch z)
  refine wpAny_bind (wpAny_newList ?_ vl)
  have hob : (s1.heap.push (seqObj "list" vs.toArray 0)).get? s1.heap.objs.size = some (seqObj "list" vs.toArray 0) := Heap.get?_push_size _ rfl
  have ka : ∀ b o, s1.heap.get? b = some o → (s1.heap.push (seqObj "list" vs.toArray 0)).get? b = some o := fun b o e => Heap.get?_push_of_some _ e
  show wpAny _ _ _ _ _ { s1 with heap := s1.heap.push (seqObj "list" vs.toArray 0) }
  generalize hh2 : s1.heap.push (seqObj "list" vs.toArray 0) = h2 at hob ka ⊢
  let enc : Value → PyData := fun v => .str (tx v)
  refine wpAny_bind (wpAny_holding (wpAny_call_entry PyProof.Rows.slot_list_sort ⟨_, hob, rfl⟩ PyProof.Rows.entry_list_sort
    (SrtO.list_sort_ord (s := { s1 with heap := h2 }) (swo_data enc) hob vl (fun h2l h' _ => ?_) fun out p1 p2 => ⟨_, rfl, ?_⟩) (PyProof.Rows.args_list_sort _)))
  · have S : SortsAt X.prog X.w X.A.in1.in1 { s1 with heap := h' } (dataKind h' (vs.map enc)) vs :=
      SortsAt.data (s := { s1 with heap := h' }) (eachIs_self (R := fun v d => ∃ as, Reads h' v d as) fun v hv => by
        obtain ⟨x, tk, rfl⟩ := isS v hv
        exact ⟨[], .str x tk⟩) (fun d hd d' hd' => by
        obtain ⟨v, _, rfl⟩ := List.mem_map.mp hd
        obtain ⟨u, _, rfl⟩ := List.mem_map.mp hd'
        rfl) (.inr fun d hd => by
        obtain ⟨v, _, rfl⟩ := List.mem_map.mp hd
        exact ⟨fun z => PyData.noConfusion z, fun xs z => PyData.noConfusion z⟩) fun d hd => by
        obtain ⟨v, _, rfl⟩ := List.mem_map.mp hd
        show X.A.in1.in1.units + (PyData.str (tx v)).depth < cLine
        have e1 : X.A.in1.in1.units = X.A.units + 2 := rfl
        have e2 : (PyData.str (tx v)).depth = 0 := by simp [PyData.depth]
        omega
    obtain ⟨kd, lt, kk⟩ := S.kind
    refine ⟨kd, fun Q E hq => kk h2l E hq, ?_⟩
    have hal : AllAlike (vs.map enc) := fun d hd d' hd' => by
      obtain ⟨v, _, rfl⟩ := List.mem_map.mp hd
      obtain ⟨u, _, rfl⟩ := List.mem_map.mp hd'
      rfl
    have rd : ∀ v ∈ vs, ∃ as, Reads h' v (enc v) as := fun v hv => by
      obtain ⟨x, tk, rfl⟩ := isS v hv
      exact ⟨[], .str x tk⟩
    intro p q hp hq
    obtain ⟨as, ra⟩ := rd p.1 hp
    obtain ⟨bs, rb⟩ := rd q.1 hq
    exact lt (fun _ _ => False) p.1 q.1 _ _ (dataKind_some hal (List.mem_map.mpr ⟨_, hp, rfl⟩) ra) (dataKind_some hal (List.mem_map.mpr ⟨_, hq, rfl⟩) rb) ⟨rfl, rfl⟩
  · refine wpAny_pure ?_
    have isO : ∀ v ∈ out, ∃ x tk, v = Value.str x tk := fun v hv => isS v (p2.perm.mem_iff.mp hv)
    have pO : (out.map tx).Perm L := (p2.perm.map tx).trans pL
    obtain ⟨eF, heF⟩ := PyProof.Rows.sortedHeap_at (vs := vs) (out := out.toArray) hob
    have rv : Vals ((out.map tx).map V.str) out := by
      have z : ∀ l : List Value, (∀ v ∈ l, ∃ x tk, v = Value.str x tk) → Vals ((l.map tx).map V.str) l := by
        intro l
        induction l with
        | nil => intro _; exact .nil
        | cons v l ih =>
          intro hl'
          obtain ⟨x, tk, rfl⟩ := hl' v List.mem_cons_self
          exact .cons ⟨tk, rfl⟩ (ih fun u hu => hl' u (List.mem_cons_of_mem _ hu))
      exact z out isO
    have kF : ∀ b oo, s1.heap.get? b = some oo → (sortedHeap h2 s1.heap.objs.size vs out.toArray).get? b = some oo := fun b oo e => (PyProof.Rows.sortedHeap_old (Nat.ne_of_lt (Heap.lt_size e)) (Heap.lt_size (ka _ _ e))).trans (ka _ _ e)
    refine ⟨.ref s1.heap.objs.size, rfl, .ref s1.heap.objs.size, upd H s1.heap.objs.size (.lst ((out.map tx).map V.str)), I1.laid (t' := s1.toks) kF (Nat.le_refl _) ⟨by rw [List.length_map, List.length_map, p2.perm.length_eq]; exact vl, out, eF, rv, heF⟩, rfl, q _ _ (I1.hok.fresh (Nat.le_refl _)) pO (pO.nodup_iff.mpr nd)⟩
end
end L2

/-! tallies: lists of pairs (a key, a count) -/
namespace Tl
section
variable {κ : Type} [DecidableEq κ]
/-- the sum of the counts of k -/
def cnt : List (κ × Int) → κ → Int
  | [], _ => 0
  | p :: l, k => (if p.1 = k then p.2 else 0) + cnt l k
abbrev keys (L : List (κ × Int)) : List κ := L.map (·.1)
theorem cnt_append (l m : List (κ × Int)) (k : κ) : cnt (l ++ m) k = cnt l k + cnt m k := by
  induction l with
  | nil => simp [cnt]
  | cons p l ih =>
    show (if p.1 = k then p.2 else 0) + cnt (l ++ m) k = (if p.1 = k then p.2 else 0) + cnt l k + cnt m k
    rw [ih]
    omega
theorem cnt_perm {l m : List (κ × Int)} (h : l.Perm m) (k : κ) : cnt l k = cnt m k := by
  induction h with
  | nil => rfl
  | cons x _ ih => simp only [cnt, ih]
  | swap x y l =>
    simp only [cnt]
    omega
  | trans _ _ h1 h2 => exact h1.trans h2
theorem cnt_out {L : List (κ × Int)} {k : κ} (h : k ∉ keys L) : cnt L k = 0 := by
  induction L with
  | nil => rfl
  | cons p L ih =>
    have h' : ¬ (k ∈ p.1 :: keys L) := h
    simp only [cnt]
    rw [if_neg (fun e => h' (by rw [e]; exact List.mem_cons_self)), ih (fun z => h' (List.mem_cons_of_mem _ z))]
    rfl
theorem cnt_in {L : List (κ × Int)} (hn : (keys L).Nodup) {p : κ × Int} (h : p ∈ L) : cnt L p.1 = p.2 := by
  induction L with
  | nil => cases h
  | cons q L ih =>
    obtain ⟨h1, h2⟩ := List.nodup_cons.mp (show (q.1 :: keys L).Nodup from hn)
    simp only [cnt]
    rcases List.mem_cons.mp h with e | h
    · subst e
      rw [if_pos rfl, cnt_out h1]
      omega
    · rw [if_neg (fun e => h1 (by rw [e]; exact List.mem_map.mpr ⟨p, h, rfl⟩)), ih h2 h]
      omega
theorem cnt_mem {L : List (κ × Int)} {k : κ} (h : cnt L k ≠ 0) : k ∈ keys L := by
  refine Classical.byContradiction fun z => h (cnt_out z)
/-- L is a tally without zeros -/
structure Fin (L : List (κ × Int)) : Prop where
  nd : (keys L).Nodup
  nz : ∀ p ∈ L, p.2 ≠ 0
theorem Fin.mem {L : List (κ × Int)} (F : Fin L) {p : κ × Int} : p ∈ L ↔ cnt L p.1 = p.2 ∧ p.2 ≠ 0 := by
  constructor
  · intro h
    exact ⟨cnt_in F.nd h, F.nz p h⟩
  · rintro ⟨h1, h2⟩
    obtain ⟨q, hq, e⟩ := List.mem_map.mp (cnt_mem (show cnt L p.1 ≠ 0 by rw [h1]; exact h2))
    have e2 := cnt_in F.nd hq
    rw [e, h1] at e2
    have : q = p := Prod.ext e e2.symm
    rw [← this]
    exact hq
theorem nodup_keys {L : List (κ × Int)} (h : (keys L).Nodup) : L.Nodup := List.Pairwise.of_map (·.1) (fun _ _ ne e => ne (congrArg _ e)) h
/-- two such tallies with the same sums hold the same -/
theorem Fin.perm {L M : List (κ × Int)} (F : Fin L) (G : Fin M) (h : ∀ k, cnt L k = cnt M k) : L.Perm M := by
  refine (List.perm_ext_iff_of_nodup (nodup_keys F.nd) (nodup_keys G.nd)).mpr fun p => ?_
  rw [F.mem, G.mem, h]
theorem Fin.of_perm {L M : List (κ × Int)} (F : Fin L) (h : L.Perm M) : Fin M := ⟨(h.map (·.1)).nodup_iff.mp F.nd, fun p hp => F.nz p (h.mem_iff.mpr hp)⟩
def nzL (L : List (κ × Int)) : List (κ × Int) := L.filter fun p => decide (p.2 ≠ 0)
theorem cnt_nz (L : List (κ × Int)) (k : κ) : cnt (nzL L) k = cnt L k := by
  induction L with
  | nil => rfl
  | cons p L ih =>
    unfold nzL at ih ⊢
    by_cases e : p.2 = 0
    · rw [List.filter_cons_of_neg (by simp [e]), ih]
      simp only [cnt, e]
      split <;> simp
    · rw [List.filter_cons_of_pos (by simp [e])]
      simp only [cnt, ih]
theorem fin_nz {L : List (κ × Int)} (h : (keys L).Nodup) : Fin (nzL L) := ⟨h.sublist (List.Sublist.map _ List.filter_sublist), fun p hp => of_decide_eq_true (List.mem_filter.mp hp).2⟩
/-- a count is put -/
def put (L : List (κ × Int)) (k : κ) (v : Int) : List (κ × Int) := if (L.any fun p => decide (p.1 = k)) = true then L.map (fun p => if p.1 = k then (p.1, v) else p) else L ++ [(k, v)]
theorem any_keys {L : List (κ × Int)} {k : κ} : (L.any fun p => decide (p.1 = k)) = true ↔ k ∈ keys L := by
  rw [List.any_eq_true]
  constructor
  · rintro ⟨p, hp, e⟩
    exact List.mem_map.mpr ⟨p, hp, of_decide_eq_true e⟩
  · intro h
    obtain ⟨p, hp, e⟩ := List.mem_map.mp h
    exact ⟨p, hp, decide_eq_true e⟩
theorem put_keys {L : List (κ × Int)} {k : κ} {v : Int} : keys (put L k v) = if k ∈ keys L then keys L else keys L ++ [k] := by
  unfold put
  by_cases e : k ∈ keys L
  · rw [if_pos (any_keys.mpr e), if_pos e]
    unfold keys
    rw [List.map_map]
    refine List.map_congr_left fun p _ => ?_
    show (if p.1 = k then (p.1, v) else p).1 = p.1
    split <;> rfl
  · rw [if_neg (fun z => e (any_keys.mp z)), if_neg e]
    unfold keys
    rw [List.map_append]
    rfl
theorem put_nodup {L : List (κ × Int)} {k : κ} {v : Int} (h : (keys L).Nodup) : (keys (put L k v)).Nodup := by
  rw [put_keys]
  split
  · exact h
  · next e =>
    refine List.nodup_append.mpr ⟨h, by simp, fun a ha b hb => ?_⟩
    rw [List.mem_singleton.mp hb]
    intro z
    exact e (z ▸ ha)
theorem put_len {L : List (κ × Int)} {k : κ} {v : Int} : (put L k v).length ≤ L.length + 1 := by
  unfold put
  split <;> simp
theorem put_cnt {L : List (κ × Int)} {k : κ} {v : Int} (h : (keys L).Nodup) (j : κ) : cnt (put L k v) j = if j = k then v else cnt L j := by
  by_cases e : k ∈ keys L
  · unfold put
    rw [if_pos (any_keys.mpr e)]
    induction L with
    | nil => cases e
    | cons p L ih =>
      obtain ⟨h1, h2⟩ := List.nodup_cons.mp (show (p.1 :: keys L).Nodup from h)
      by_cases ek : p.1 = k
      · have same : L.map (fun p => if p.1 = k then (p.1, v) else p) = L := by
          have z : ∀ q ∈ L, (if q.1 = k then (q.1, v) else q) = q := fun q hq => if_neg fun eq => h1 (by rw [ek, ← eq]; exact List.mem_map.mpr ⟨q, hq, rfl⟩)
          rw [List.map_congr_left z, List.map_id']
        rw [List.map_cons, same, if_pos ek]
        simp only [cnt]
        by_cases ej : j = k
        · rw [if_pos (by rw [ek, ej]), if_pos ej, ej, cnt_out (by rw [← ek]; exact h1)]
          omega
        · rw [if_neg (fun z => ej (by rw [← z, ek])), if_neg ej, if_neg (fun z => ej (by rw [← z, ek]))]
      · have e' : k ∈ keys L := by
          rcases List.mem_cons.mp (show k ∈ p.1 :: keys L from e) with z | z
          · exact absurd z.symm ek
          · exact z
        rw [List.map_cons, if_neg ek]
        simp only [cnt]
        rw [ih h2 e']
        by_cases ej : j = k
        · rw [if_pos ej, if_pos ej, if_neg (fun z => ek (z.trans ej))]
          omega
        · rw [if_neg ej, if_neg ej]
  · unfold put
    rw [if_neg (fun z => e (any_keys.mp z)), cnt_append]
    simp only [cnt]
    by_cases ej : j = k
    · rw [if_pos ej, if_pos ej.symm, ej, cnt_out e]
      omega
    · rw [if_neg ej, if_neg (fun z => ej z.symm)]
      omega
theorem put_mem {L : List (κ × Int)} {k : κ} {v : Int} {p : κ × Int} (h : p ∈ put L k v) : p.1 = k ∨ p.1 ∈ keys L := by
  have z : p.1 ∈ keys (put L k v) := List.mem_map.mpr ⟨p, h, rfl⟩
  rw [put_keys] at z
  split at z
  · exact .inr z
  · rcases List.mem_append.mp z with z | z
    · exact .inr z
    · exact .inl (List.mem_singleton.mp z)
end
end Tl

namespace L2
open PySem PySem.Spec PySem.W PyProof.Rows RW9 Tl
theorem val_row (k : List Int) : ∀ L : List (List Int × Int), valV (rowD L) (rk k) = (L.find? fun p => decide (p.1 = k)).map fun p => V.int p.2
  | [] => rfl
  | p :: L => by
    have ih := val_row k L
    by_cases e : p.1 = k
    · rw [show rowD (p :: L) = (rk p.1, V.int p.2) :: rowD L from rfl, valV_pos (show (rk p.1, V.int p.2).1 = rk k by rw [e]), List.find?_cons_of_pos (by simp [e])]
      rfl
    · rw [show rowD (p :: L) = (rk p.1, V.int p.2) :: rowD L from rfl, valV_neg (show ¬ (rk p.1, V.int p.2).1 = rk k from fun h => e (rk_inj h)), List.find?_cons_of_neg (by simp [e])]
      exact ih
theorem find_cnt {L : List (List Int × Int)} (hn : (keys L).Nodup) (k : List Int) : L.find? (fun p => decide (p.1 = k)) = if k ∈ keys L then some (k, cnt L k) else none := by
  cases h : L.find? (fun p => decide (p.1 = k)) with
  | some p =>
    have hp := List.mem_of_find?_eq_some h
    have e : p.1 = k := of_decide_eq_true (List.find?_some (p := fun p : List Int × Int => decide (p.1 = k)) h)
    rw [if_pos (by rw [← e]; exact List.mem_map.mpr ⟨p, hp, rfl⟩), ← e, cnt_in hn hp]
  | none =>
    rw [if_neg]
    intro z
    obtain ⟨p, hp, e⟩ := List.mem_map.mp z
    have := List.find?_eq_none.mp h p hp
    simp [e] at this
theorem get_row {L : List (List Int × Int)} (hn : (keys L).Nodup) (k : List Int) : (valV (rowD L) (rk k)).getD (.int 0) = .int (cnt L k) := by
  rw [val_row, find_cnt hn]
  split
  · rfl
  · next e => rw [cnt_out e]; rfl
theorem get_row_in {L : List (List Int × Int)} (hn : (keys L).Nodup) {k : List Int} (h : k ∈ keys L) : valV (rowD L) (rk k) = some (.int (cnt L k)) := by
  rw [val_row, find_cnt hn, if_pos h]
  rfl
theorem put_row (L : List (List Int × Int)) (k : List Int) (v : Int) : putK (rowD L) (rk k) (V.int v) = rowD (put L k v) := by
  have ha : ((rowD L).any fun kv => decide (kv.1 = rk k)) = L.any fun p => decide (p.1 = k) := by
    unfold rowD
    rw [List.any_map]
    congr 1
    funext p
    show decide (rk p.1 = rk k) = decide (p.1 = k)
    by_cases e : p.1 = k
    · simp [e]
    · rw [decide_eq_false e]
      exact decide_eq_false fun h => e (rk_inj h)
  unfold putK put
  rw [ha]
  split
  · unfold rowD
    rw [List.map_map, List.map_map]
    refine List.map_congr_left fun p _ => ?_
    show (if rk p.1 = rk k then (rk p.1, V.int v) else (rk p.1, V.int p.2)) = _
    by_cases e : p.1 = k
    · rw [if_pos (by rw [e])]
      simp [e]
    · rw [if_neg fun h => e (rk_inj h)]
      simp [e]
  · unfold rowD
    rw [List.map_append]
    rfl
/-- the tuple at b is the row r -/
abbrev RowAt (H : Hp) (b : Addr) (r : List Int) : Prop := H b = some (.tup (r.map V.int))
theorem dget_row {H : Hp} {a b : Addr} {L : List (List Int × Int)} {r : List Int} (h : Rd H a (.dT (rowD L))) (hn : (keys L).Nodup) (hr : RowAt H b r) : ∃ o, DGet H a (.ref b) o ∧ o.getD (.int 0) = .int (cnt L r) :=
  ⟨_, .inr ⟨_, rk r, b, h, rfl, by rw [rk_kV]; exact hr, rfl⟩, get_row hn r⟩
theorem dget_row_in {H : Hp} {a b : Addr} {L : List (List Int × Int)} {r : List Int} (h : Rd H a (.dT (rowD L))) (hn : (keys L).Nodup) (hr : RowAt H b r) (hin : r ∈ keys L) : DGet H a (.ref b) (some (.int (cnt L r))) :=
  .inr ⟨_, rk r, b, h, rfl, by rw [rk_kV]; exact hr, (get_row_in hn hin).symm⟩
theorem dput_row {H : Hp} {a b : Addr} {L : List (List Int × Int)} {r : List Int} {v : Int} (h : H a = some (.dT (rowD L))) (hr : RowAt H b r) (hl : L.length < sizeLine) : DPut H a (.ref b) (.int v) (upd H a (.dT (rowD (put L r v)))) := by
  rw [← put_row]
  exact DPut.t h (by rw [rk_kV]; exact hr) (by rw [List.length_map]; exact hl)
/-- a dict of rows, walked: the i-th key's tuple -/
theorem key_row {H : Hp} {L : List (List Int × Int)} {i : Nat} {k : List L2.Key} {v : V} {q : Addr} (h : (rowD L)[i]? = some (k, v)) (hq : H q = some (.tup (k.map kV))) : ∃ p, L[i]? = some p ∧ RowAt H q p.1 := by
  rw [List.getElem?_map] at h
  obtain ⟨p, hp, e⟩ := Option.map_eq_some_iff.mp h
  have e1 : rk p.1 = k := congrArg Prod.fst e
  exact ⟨p, hp, by unfold RowAt; rw [← rk_kV, e1]; exact hq⟩
end L2

namespace L2
open PySem PySem.Spec PySem.W PyProof.Rows RW9 Tl
/-- what tDcP asks behind its walk -/
def DcGoal (J : It) (o0 : HO) (g : TG) (tt : TT) (tk tv : TE) (vs : List Nat) (σ : L2.St) (H1 : Hp) (D : Addr) (Qd : Hp → Prop) : Prop :=
  ∃ W : Nat → Nat → Hp → Prop, (∃ m, W 0 m (upd H1 D o0)) ∧ ∀ i m H, W i m H →
    (J.stop i H ∧ Qd H) ∨ (J.go i H ∧ ∃ Nx : Hp → Prop, (∀ H', Nx H' → ∃ m', m' < m ∧ W (i + 1) m' H') ∧ ∀ x H', J.yld i H x H' → g x (wipe σ vs) H' fun σ2 H2 => wipe σ2 vs = wipe σ vs ∧ tt σ2 H2 fun b H3 =>
      if b = true then tk σ2 H3 fun y H4 => tv σ2 H4 fun z H5 => ∃ H6, DPut H5 D y z H6 ∧ Nx H6 else Nx H3)
theorem dcP_it {J : It} {n : Nat} {G : Hp → Prop} {Y : Nat → Hp → V → Hp → Prop} (w : Walk J n G Y) {o0 : HO} {g : TG} {tt : TT} {tk tv : TE} {vs : List Nat} {σ : L2.St} {H1 : Hp} {D : Addr} {Qd : Hp → Prop} (Pv : Nat → Hp → Prop) (h0 : Pv 0 (upd H1 D o0)) (hG : ∀ i H, i ≤ n → Pv i H → G H)
    (hs : ∀ i x H H', i < n → Pv i H → Y i H x H' → g x (wipe σ vs) H' fun σ2 H2 => wipe σ2 vs = wipe σ vs ∧ tt σ2 H2 fun b H3 =>
      if b = true then tk σ2 H3 fun y H4 => tv σ2 H4 fun z H5 => ∃ H6, DPut H5 D y z H6 ∧ Pv (i + 1) H6 else Pv (i + 1) H3)
    (hd : ∀ H, Pv n H → Qd H) : DcGoal J o0 g tt tk tv vs σ H1 D Qd := by
  refine ⟨fun i m H => m = n - i ∧ i ≤ n ∧ Pv i H, ⟨n, by simp, Nat.zero_le _, h0⟩, ?_⟩
  rintro i m H ⟨rfl, hi, p⟩
  have q := hG i H hi p
  by_cases hlt : i < n
  · exact .inr ⟨w.goes i H hlt q, Pv (i + 1), fun H' p' => ⟨n - (i + 1), by omega, rfl, hlt, p'⟩, fun x H' y => hs i x H H' hlt p (w.yields i H x H' hlt q y)⟩
  · have e : i = n := by omega
    subst e
    exact .inl ⟨w.stops H q, hd H p⟩
theorem putL_new {L : List (List Int × Int)} {k : List Int} {v : Int} (h : k ∉ keys L) : put L k v = L ++ [(k, v)] := by
  unfold put
  rw [if_neg fun z => h (any_keys.mp z)]
/-- {row: f for row in d if ..}: d a dict of rows -/
theorem dc_rows {L : List (List Int × Int)} {a D : Addr} {od : Obj} {H1 : Hp} (hz : H1 a = some (.frz od (.dT (rowD L)))) (nd : (keys L).Nodup) (hl : L.length ≤ 100000) {g : TG} {tt : TT} {tk tv : TE} {vs : List Nat} {σ : L2.St} {Qd : Hp → Prop} (hD : H1 D = none) (bs : List Int × Int → Bool) (fs : List Int × Int → Int)
    (step : ∀ (p : List Int × Int) (q : Addr) (H2 : Hp) (Q2 : V → V → Hp → Prop) (R : Hp → Prop), p ∈ L → Same H1 H2 → RowAt H2 q p.1 → (bs p = true → ∀ H4, Same H2 H4 → Q2 (.ref q) (.int (fs p)) H4) → (bs p = false → ∀ H3, Same H2 H3 → R H3) →
      g (.ref q) (wipe σ vs) H2 fun σ2 H2' => wipe σ2 vs = wipe σ vs ∧ tt σ2 H2' fun b H3 => if b = true then tk σ2 H3 fun y H4 => tv σ2 H4 fun z H5 => Q2 y z H5 else R H3)
    (hd : ∀ H', Same H1 H' → H' D = some (.dT (rowD ((L.filter bs).map fun p => (p.1, fs p)))) → Qd H') : DcGoal (Itkt a od (rowD L)) (.dT []) g tt tk tv vs σ H1 D Qd := by
  have en : (rowD L).length = L.length := by simp
  refine dcP_it (walk_keysT (kvs := rowD L)) (fun i H' => Same H1 H' ∧ H' D = some (.dT (rowD (((L.take i).filter bs).map fun p => (p.1, fs p))))) ⟨same_upd hD, upd_same⟩ (fun i H' _ p => p.1 _ _ hz) (fun i x H2 H3 hi pv y => ?_) (fun H' pv => ?_)
  · obtain ⟨rfl, k, v, q, hk, rfl, hq⟩ := y
    obtain ⟨p, hp, hr⟩ := key_row hk hq
    have ht : L.take (i + 1) = L.take i ++ [p] := by rw [List.take_add_one, hp]; rfl
    have hnew : p.1 ∉ keys (((L.take i).filter bs).map fun p => (p.1, fs p)) := by
      intro h1
      obtain ⟨p1, hp1, e1⟩ := List.mem_map.mp h1
      obtain ⟨p2, hp2, e2⟩ := List.mem_map.mp hp1
      have hin : p2 ∈ L.take i := (List.mem_filter.mp hp2).1
      have hn2 : (keys (L.take (i + 1))).Nodup := nd.sublist ((List.take_sublist _ _).map _)
      rw [ht, keys, List.map_append] at hn2
      refine (List.nodup_append.mp hn2).2.2 p2.1 (List.mem_map.mpr ⟨p2, hin, rfl⟩) p.1 (by simp) ?_
      rw [← e1, ← e2]
    refine step p q _ _ _ (List.mem_of_getElem? hp) pv.1 hr (fun hb H4 e4 => ?_) (fun hb H3 e3 => ⟨pv.1.trans e3, ?_⟩)
    · have hD4 := e4 _ _ pv.2
      refine ⟨_, dput_row hD4 (e4 _ _ hr) ?_, (pv.1.trans e4).mut hD, ?_⟩
      · rw [List.length_map]
        refine Nat.lt_of_le_of_lt (List.length_filter_le _ _) ?_
        refine Nat.lt_of_le_of_lt (List.length_take_le _ _) ?_
        rw [en] at hi
        exact Nat.lt_of_lt_of_le hi (Nat.le_trans hl (by decide))
      · rw [upd_same, putL_new hnew, ht, List.filter_append, List.map_append]
        simp [hb]
    · rw [e3 _ _ pv.2, ht, List.filter_append, List.map_append]
      simp [hb]
  · have e : L.take (rowD L).length = L := by rw [List.take_of_length_le]; simp
    rw [e] at pv
    exact hd H' pv.1 pv.2
end L2

/-! a class whose __init__ has an empty tuple as the default of its last parameter; calls of a def held by a local name, with a star -/
namespace L2
open PySem PySem.Spec PySem.W PyProof.Rows RW9 Tl
theorem hu8 {A : Around} {k : Nat} (hr : Room k A) : A.units + 8 < cLine := by
  have := hr.un
  omega
/-- an empty tuple of the text -/
def EmptyT (K : PySem.W.Frag) (t : Addr) : Prop := ∃ (o : Obj) (n : Nat), K.lookup t = some o ∧ o.cls = .type "tuple" ∧ o.data = .seq #[] n
theorem EmptyT.seq {K : PySem.W.Frag} {t : Addr} (h : EmptyT K t) (H : Hp) : SqT K H t [] := by
  obtain ⟨o, n, h1, h2, h3⟩ := h
  exact .inr ⟨o, #[], n, h1, h2, h3, by decide, .nil⟩
def TopI (K : PySem.W.Frag) (C : Addr) (qual : Str) (st : Stmt) (ps : List Str) : Prop :=
  ∃ (f : Addr) (fd : FuncData) (t : Addr), FunD K "__init__" qual (defArgs st) (defBody st) (defScope st) [V.ref t] [] f fd ∧ Meth K C "__init__" f ∧ Binds K fd ps [] ∧ EmptyT K t ∧ Binds K fd ps [.ref t]
def MakeI (P : Program) (w : World) (K : PySem.W.Frag) (mg : Str → Option Value) (base : Heap) (C : Addr) (x : Str) (k : Nat) (ps : List Str) (sp : Sp) : Prop :=
  ∃ (f : Addr) (fd : FuncData), Mk K C f ∧ mg x = some (.ref C) ∧ FnOk P w K mg base CX0 k f fd ps sp ∧ Binds K fd ps [] ∧ ∃ t, EmptyT K t ∧ Binds K fd ps [.ref t]
section
variable {P : Program} {w : World} {K : PySem.W.Frag} {mg : Str → Option Value} {base : Heap} {C : Addr} {qual x : Str} {st : Stmt} {ps N : List Str} {k : Nat} {sp : Sp}
theorem mk_init (T : TopI K C qual st ps) (S : FnScope N ps (defScope st)) (len : ∀ vs H Q E, sp vs H Q E → vs.length = ps.length) (hm : PySem.W.makesIn K C = true) (hk : PySem.W.keepIn K (.ref C) = true) (hg : mg x = some (.ref C))
    (hbody : ∀ (f : Addr) (cdv : Value) (A : Around) (outer : List Env) (s : Shared) (H : Hp) (vs : List V) (Q : VK) (E : XK), Room k (A.deeper (envOfC qual (defScope st) s.heap.objs.size f cdv)) → sp vs H Q E →
      ∃ t, PSs (cxOf CX0 P w K mg base N qual (defScope st) f cdv A outer s H E).nox (defBody st) t ∧ t { nx := fun _ H' => Q .non H', rt := Q } (start N vs) H) :
    MakeI P w K mg base C x (k + 1) ps sp := by
  obtain ⟨f, fd, t, F, M, b, b0⟩ := T
  refine ⟨f, fd, ⟨hm, M.at_, M.fn, hk⟩, hg, F.ok S len fun cdv A outer s H vs Q E hr h => ?_, b, t, b0⟩
  obtain ⟨tm, h1, h2⟩ := hbody f cdv A outer s H vs Q E hr h
  exact ⟨tm, h1.nox, h2⟩
end
section
variable {X : Cx} {C : Addr} {x : Str} {k : Nat} {ps : List Str} {sp : Sp} {p pos : Pos} {e : Expr} {es : List Expr} {t : TA}
theorem pe_makeI (D : MakeI X.prog X.w X.K X.mg X.base C x k ps sp) (hr : Room (k + 1) X.A) (hg : Gl X x) (ha : PA X (e :: es) t) (hdb : (x == ("__debug__" : Str)) = false := by decide)
    (he : starEach (e :: es) X.env = (false, eval e X.env) :: starEach es X.env := by rfl) (hpl : (backTo pos (starEach es X.env)).any (·.1) = false := by rfl) : PE X (.Call (.Name x p) (e :: es) [] pos) (tMake C sp [] E0 t) := by
  obtain ⟨f, fd, M, g, F, b, _⟩ := D
  exact pe_make M F hr hg g b .nil pass0 ha hdb he hpl
/-- C() -/
def tMake0 (K : PySem.W.Frag) (C : Addr) (sp : Sp) : TE := fun σ H Q => ∀ t, EmptyT K t → tMake C sp [.ref t] E0 tNil σ H Q
theorem pe_makeI0 (D : MakeI X.prog X.w X.K X.mg X.base C x k ps sp) (hr : Room (k + 1) X.A) (hg : Gl X x) (hdb : (x == ("__debug__" : Str)) = false := by decide) : PE X (.Call (.Name x p) [] [] pos) (tMake0 X.K C sp) := by
  obtain ⟨f, fd, M, g, F, _, t, ht, b⟩ := D
  refine ⟨fun pins s σ H Q I h => ?_⟩
  exact (pe_make0 M F hr hg g b (.cons (show RelV (.ref t) (.ref t) from rfl) .nil) pass0 hdb).run pins s σ H Q I (h t ht)
end
end L2

namespace L2
open PySem PySem.Spec PySem.W PyProof.Rows RW9 Tl
/-- the def at f keeps sp, called with a star or not -/
def HeldR (P : Program) (w : World) (K : PySem.W.Frag) (mg : Str → Option Value) (base : Heap) (k : Nat) (f : Addr) (sp : Sp) : Prop := FnR P w K mg base CX0 k f sp ∧ PySem.W.keepIn K (.ref f) = true
section
variable {X : Cx} {k i : Nat} {x : Str} {p pos : Pos} {e : Expr} {es : List Expr} {t : TA}
def tCallSL (P : Program) (w : World) (K : PySem.W.Frag) (mg : Str → Option Value) (base : Heap) (k i : Nat) (t : TA) : TE := fun σ H Q => ∃ f sp, σ[i]? = some (some (.ref f)) ∧ HeldR P w K mg base k f sp ∧ t σ H fun vs H1 => sp vs H1 Q E0
/-- x(e, .., *y), x a local name that holds a def -/
theorem pe_callSL (hr : Room k X.A) (hN : X.N[i]? = some x) (hv : Vis X.env.scope x) (ha : PA X (e :: es) t)
    (hdb : (x == ("__debug__" : Str)) = false := by decide) (hcd : (x == ("__classdict__" : Str)) = false := by decide)
    (he : starEach (e :: es) X.env = (false, eval e X.env) :: starEach es X.env := by rfl) (hst : (backTo pos (starEach es X.env)).any (·.1) = true := by rfl) :
    PE X (.Call (.Name x p) (e :: es) [] pos) (tCallSL X.prog X.w X.K X.mg X.base k i t) := by
  refine ⟨fun pins s σ H Q I h => ?_⟩
  obtain ⟨f, sp, hs, ⟨F, hk⟩, ht⟩ := h
  refine wpAny_Call_Name_kw (thn ((pe_var (pos := p) hN hv hdb hcd).run pins s σ H (fun v H1 => v = .ref f ∧ H1 = H) I ⟨.ref f, hs, rfl, rfl⟩) fun u s1 ⟨v, H1, I1, r1, q1⟩ => ?_)
  obtain ⟨rfl, rfl⟩ := q1
  cases r1
  refine PySem.W.callWith_S2 (h₀ := X.base) I.ok.mod.kin hk (thn (ha.run pos pins s1 σ _ _ I1 ht) fun us s2 ⟨vs, H2, I2, r, q⟩ => ⟨I2.kIn, ?_⟩) he hst
  exact wpAny_call (run_fnR F hr pass0 I2 r q)
end
end L2

namespace L2
open PySem PySem.Spec PyProof.Rows
section
variable {J : It} {n : Nat} {G : Hp → Prop} {Y : Nat → Hp → V → Hp → Prop} {K : PySem.W.Frag}
/-- two clauses, the inner one over a thing of the turn; immutable data told ahead -/
theorem lc2_datW (w : Walk J n G Y) {wi1 : TI} {g g1 : TG} {te : TE} {vs vs1 : List Nat} {σ : L2.St} {H1 : Hp} {D : Addr} {Qd : Hp → Prop} (hD : H1 D = none)
    (hG : ∀ H, Same H1 H → G H) (ds : Nat → List PyData) (hn : ((List.range n).map ds).flatten.length ≤ 100000) (him : ∀ i, i < n → immAll (ds i) = true)
    (step : ∀ i x H H' (Q : L2.St → Hp → Prop), i < n → Same H1 H → Y i H x H' →
      (∀ σ2 H2, Same H H2 → wipe σ2 vs = wipe σ vs → (∀ R : It → Hp → Prop,
        (∀ (J1 : It) (G1 : Hp → Prop) (Y1 : Nat → Hp → V → Hp → Prop) H3, Same H2 H3 → Walk J1 (ds i).length G1 Y1 → (∀ H, Same H3 H → G1 H) → (0 < (ds i).length → ∀ H, Same H1 H → G1 H) →
          (∀ j y H4 H4' (Q' : VK), j < (ds i).length → Same H1 H4 → ST K H3 H4 → Y1 j H4 y H4' → (∀ z H5 d, Same H4 H5 → (ds i)[j]? = some d → Da K H5 z d → Q' z H5) → g1 y (wipe σ2 vs1) H4' fun σ3 H6 => wipe σ3 vs1 = wipe σ2 vs1 ∧ te σ3 H6 Q') → R J1 H3) → wi1 σ2 H2 R) → Q σ2 H2) → g x (wipe σ vs) H' Q)
    (hd : ∀ H acc, Same H1 H → H D = some (.lst acc) → DaAll K H acc ((List.range n).map ds).flatten → Qd H) :
    ∃ W : Nat → Nat → Hp → Prop, (∃ m, W 0 m (upd H1 D (.lst []))) ∧ ∀ i m H, W i m H →
      (J.stop i H ∧ Qd H) ∨ (J.go i H ∧ ∃ Nx : Hp → Prop, (∀ H', Nx H' → ∃ m', m' < m ∧ W (i + 1) m' H') ∧ ∀ x H', J.yld i H x H' → g x (wipe σ vs) H' fun σ2 H2 => wipe σ2 vs = wipe σ vs ∧ tYes σ2 H2 fun b H3 =>
        if b = true then wi1 σ2 H3 fun J1 H4 => ∃ W1 : Nat → Nat → Hp → Prop, (∃ m, W1 0 m H4) ∧ ∀ j k H, W1 j k H →
          (J1.stop j H ∧ Nx H) ∨ (J1.go j H ∧ ∃ Nx1 : Hp → Prop, (∀ H', Nx1 H' → ∃ k', k' < k ∧ W1 (j + 1) k' H') ∧ ∀ x H', J1.yld j H x H' → g1 x (wipe σ2 vs1) H' fun σ3 H5 => wipe σ3 vs1 = wipe σ2 vs1 ∧ tYes σ3 H5 fun b H6 =>
            if b = true then te σ3 H6 fun y H7 => ∃ acc, H7 D = some (.lst acc) ∧ acc.length < sizeLine ∧ Nx1 (upd H7 D (.lst (acc ++ [y]))) else Nx1 H6)
        else Nx H3) := by
  have fsnoc : ∀ i, ((List.range (i + 1)).map ds).flatten = ((List.range i).map ds).flatten ++ ds i := by
    intro i
    rw [List.range_succ, List.map_append, List.flatten_append]
    simp
  have fimm : ∀ i, i ≤ n → immAll ((List.range i).map ds).flatten = true := by
    intro i
    induction i with
    | zero => intro _; rfl
    | succ i ih =>
      intro h
      rw [fsnoc]
      exact immAll_append (ih (by omega)) (him i (by omega))
  have fle : ∀ k i, i + k = n → ((List.range i).map ds).flatten.length ≤ ((List.range n).map ds).flatten.length := by
    intro k
    induction k with
    | zero => intro i e; rw [show i = n by omega]; exact Nat.le_refl _
    | succ k ih =>
      intro i e
      have := ih (i + 1) (by omega)
      rw [fsnoc i, List.length_append] at this
      omega
  refine ⟨fun i m H => m = n - i ∧ i ≤ n ∧ Same H1 H ∧ ∃ acc, H D = some (.lst acc) ∧ DaAll K H acc ((List.range i).map ds).flatten, ⟨n, by simp, Nat.zero_le _, same_upd hD, [], upd_same, .nil⟩, ?_⟩
  rintro i m H ⟨rfl, hi, p1, acc, p2, p3⟩
  by_cases hlt : i < n
  · refine .inr ⟨w.goes i H hlt (hG H p1), fun H' => Same H1 H' ∧ ∃ acc, H' D = some (.lst acc) ∧ DaAll K H' acc ((List.range (i + 1)).map ds).flatten, fun H' ⟨q1, q2⟩ => ⟨n - (i + 1), by omega, rfl, hlt, q1, q2⟩, fun x H' y => ?_⟩
    refine step i x H H' _ hlt p1 (w.yields i H x H' hlt (hG H p1) y) fun σ2 H2 e2 ws hin => ?_
    refine ⟨ws, ?_⟩
    show wi1 σ2 H2 _
    refine hin _ fun J1 G1 Y1 H2a e2a w1 hG1 hG2 el => ?_
    refine ⟨fun j k H => k = (ds i).length - j ∧ j ≤ (ds i).length ∧ Same H1 H ∧ ((j = 0 → Same H2a H) ∧ ST K H2a H) ∧ ∃ acc, H D = some (.lst acc) ∧ DaAll K H acc (((List.range i).map ds).flatten ++ (ds i).take j), ⟨(ds i).length, by simp, Nat.zero_le _, (p1.trans e2).trans e2a, ⟨fun _ => Same.refl _, ST.refl _⟩, acc, e2a _ _ (e2 _ _ p2), ?_⟩, ?_⟩
    · rw [List.take_zero, List.append_nil]
      exact Da.sameAll (e2.trans e2a) _ _ p3
    · rintro j k H3 ⟨rfl, hj, q1, qb, acc3, q2, q3⟩
      by_cases hjl : j < (ds i).length
      · refine .inr ⟨w1.goes j H3 hjl (hG2 (by omega) H3 q1), fun H' => Same H1 H' ∧ ST K H2a H' ∧ ∃ acc, H' D = some (.lst acc) ∧ DaAll K H' acc (((List.range i).map ds).flatten ++ (ds i).take (j + 1)), fun H' ⟨r1, rs, r2⟩ => ⟨(ds i).length - (j + 1), by omega, rfl, hjl, r1, ⟨fun z => absurd z (by omega), rs⟩, r2⟩, fun x3 H3' y3 => ?_⟩
        refine el j x3 H3 H3' _ hjl q1 qb.2 (w1.yields j H3 x3 H3' hjl (hG2 (by omega) H3 q1) y3) fun z H4 d e4 hd4 hz => ?_
        have e5 : H4 D = some (.lst acc3) := e4 _ _ q2
        have st : ST K H4 (upd H4 D (.lst (acc3 ++ [z]))) := st_upd e5 True.intro
        refine ⟨acc3, e5, ?_, (q1.trans e4).mut hD, (qb.2.trans e4.st).trans st, _, upd_same, ?_⟩
        · have l3 := q3.length
          rw [List.length_append, List.length_take] at l3
          have hle := fle (n - (i + 1)) (i + 1) (by omega)
          rw [fsnoc i, List.length_append] at hle
          refine Nat.lt_of_lt_of_le ?_ (sz1000' hn)
          have : min j (ds i).length ≤ j := Nat.min_le_left _ _
          omega
        · rw [List.take_add_one, hd4, ← List.append_assoc]
          exact DaAll.snoc (Da.st st _ _ (immAll_at (him i hlt) hd4) hz) (Da.stAll (e4.st.trans st) _ _ (immAll_append (fimm i hi) (immAll_take j (him i hlt))) q3)
      · have ej : j = (ds i).length := by omega
        subst ej
        refine .inl ⟨w1.stops H3 (if h0 : (ds i).length = 0 then hG1 H3 (qb.1 h0) else hG2 (by omega) H3 q1), q1, acc3, q2, ?_⟩
        rw [fsnoc]
        rw [List.take_length] at q3
        exact q3
  · have e : i = n := by omega
    subst e
    exact .inl ⟨w.stops H (hG H p1), hd H acc p1 p2 p3⟩
end
end L2

/-! defs with a star parameter, by name; a module's dict read by a text -/
namespace L2
open PySem PySem.Spec PySem.W PyProof.Rows
/-- the def x keeps sp, called by position -/
def DefR (P : Program) (w : World) (K : PySem.W.Frag) (mg : Str → Option Value) (base : Heap) (x : Str) (k : Nat) (sp : Sp) : Prop := ∃ f, FnR P w K mg base CX0 k f sp ∧ mg x = some (.ref f) ∧ PySem.W.keepIn K (.ref f) = true
def TopS (K : PySem.W.Frag) (mg : Str → Option Value) (x : Str) (st : Stmt) (ps : List Str) (pv : Str) : Prop :=
  ∃ (f : Addr) (fd : FuncData), Fun K x x st f fd ∧ mg x = some (.ref f) ∧ ∀ us rest : List Value, us.length = ps.length → bindArgs fd ⟨us ++ rest, []⟩ = (newTuple rest >>= fun t => pure (ps.zip us ++ [(pv, t)]))
section
variable {P : Program} {w : World} {K : PySem.W.Frag} {mg : Str → Option Value} {base : Heap} {x pv : Str} {st : Stmt} {ps N : List Str} {k : Nat} {sp : Sp}
theorem mk_defS (T : TopS K mg x st ps pv) (S : FnScope N (ps ++ [pv]) (defScope st))
    (hbody : ∀ (f : Addr) (cdv : Value) (A : Around) (outer : List Env) (s : Shared) (H : Hp) (vs : List V) (Q : VK) (E : XK), Room k (A.deeper (envOfC x (defScope st) s.heap.objs.size f cdv)) → sp vs H Q E →
      ∃ t, PSs (cxOf CX0 P w K mg base N x (defScope st) f cdv A outer s H E).nox (defBody st) t ∧ t { nx := fun _ H' => Q .non H', rt := Q } (start N vs) H) :
    DefR P w K mg base x (k + 1) (fun vs H Q E => ∃ ws rest, vs = ws ++ rest ∧ ws.length = ps.length ∧ rest.length ≤ sizeLine ∧ ∀ p, H p = Option.none → sp (ws ++ [V.ref p]) (upd H p (.tup rest)) Q E) := by
  obtain ⟨f, fd, F, g, hb⟩ := T
  obtain ⟨oc, od, kV, doc, pm, an, cdv, ct, osl, rfl, lk, hcd⟩ := F.ex
  refine ⟨f, StX.fn_star lk hcd S StX.cxUp_none hb fun A outer s H vs Q E hr hsp => ?_, g, F.kp⟩
  obtain ⟨t, h, q⟩ := hbody f cdv A outer s H vs Q E hr hsp
  exact ⟨t, h.nox, q⟩
end
section
variable {X : Cx} {x : Str} {k : Nat} {sp : Sp} {p pos : Pos} {e : Expr} {es : List Expr} {t : TA}
theorem pe_defR (D : DefR X.prog X.w X.K X.mg X.base x k sp) (hr : Room k X.A) (hg : Gl X x) (ha : PA X (e :: es) t) (hdb : (x == ("__debug__" : Str)) = false := by decide)
    (he : starEach (e :: es) X.env = (false, eval e X.env) :: starEach es X.env := by rfl) (hpl : (backTo pos (starEach es X.env)).any (·.1) = false := by rfl) :
    PE X (.Call (.Name x p) (e :: es) [] pos) (tCall sp [] E0 t) := by
  obtain ⟨f, F, g, kp⟩ := D
  refine ⟨fun pins s σ H Q I h => ?_⟩
  refine wpAny_Call_Name_kw (ld_glob I hg g ?_ hdb)
  refine PySem.W.callWith_K (h₀ := X.base) I.ok.mod.kin kp (thn (ha.run pos pins s σ H _ I h) fun us s1 ⟨vs, H1, I1, r, q⟩ => ⟨I1.kIn, ?_⟩) he hpl
  have q' : sp (vs ++ []) H1 Q E0 := q
  rw [List.append_nil] at q'
  exact wpAny_call (run_fnR F hr pass0 I1 r q')
end
/-- a def's promise, by its address -/
theorem Def.held {P : Program} {w : World} {K : PySem.W.Frag} {mg : Str → Option Value} {base : Heap} {x : Str} {k : Nat} {ps : List Str} {sp : Sp} (D : Def P w K mg base x k ps sp) : ∃ f, mg x = some (.ref f) ∧ HeldR P w K mg base k f sp := by
  obtain ⟨f, fd, F, g, kp, b, _⟩ := D
  refine ⟨f, g, (F.raw b .nil).imp fun vs H Q E h => ?_, kp⟩
  rw [List.append_nil]
  exact h
end L2

namespace L2
open PySem PySem.Spec PySem.W PyProof.Rows RW9
/-- sorted(l), l a list of rows -/
def rSortRowsL (K : PySem.W.Frag) : List V → Hp → VK → Prop := fun vs H Q => ∃ (a : Addr) (as : List Addr) (ks : List (List Int)), vs = [.ref a] ∧ SqL K H a (as.map V.ref) ∧ Paired (fun (t : Addr) (r : List Int) => H t = some (.tup (r.map V.int))) as ks ∧ (2 ≤ ks.length → [] ∉ ks) ∧
  ∀ (p : Addr) (ts : List Addr) (M : List (List Int)), H p = none → M.Perm ks → M.Pairwise (fun p q => ltR q p = false) → Paired (fun (t : Addr) (r : List Int) => H t = some (.tup (r.map V.int))) ts M → Q (.ref p) (upd H p (.lst (ts.map V.ref)))
theorem vals_refs_eq : ∀ {as : List Addr} {us : List Value}, Vals (as.map V.ref) us → us = as.map Value.ref
  | [], _, h => by cases h; rfl
  | a :: as, _, h => by
    cases h with
    | cons r t =>
      rw [vals_refs_eq t, List.map_cons]
      congr 1
theorem cr_sortedRowsL {X : Cx} (hc : X.calm = true) (hu : X.A.units + 8 < cLine) : CallR X (.builtin "sorted") (rSortRowsL X.K) := by
  intro pins s σ H xs us Q I r h
  obtain ⟨a, as, ks, rfl, ha, hrow, hne, q⟩ := h
  obtain rfl := Vals.ref1 r
  obtain ⟨its, rv, hl, hz⟩ := I.list ha
  have asl : as.length = ks.length := hrow.length
  obtain rfl := vals_refs_eq rv
  obtain ⟨kf, hkf⟩ : ∃ kf : Addr → List Int, as.map kf = ks ∧ ∀ b ∈ as, H b = some (.tup ((kf b).map V.int)) := by
    have : ∀ b : Addr, ∃ r : List Int, ∀ r' : List Int, H b = some (.tup (r'.map V.int)) → r' = r := by
      intro b
      by_cases hb : ∃ r' : List Int, H b = some (.tup (r'.map V.int))
      · obtain ⟨r', h2⟩ := hb
        refine ⟨r', fun r h4 => ?_⟩
        have e : r'.map V.int = r.map V.int := by
          rw [h2] at h4
          injection h4 with h4
          injection h4 with h4
        exact ((List.map_inj_right (f := V.int) (fun x y e => by injection e)).mp e).symm
      · exact ⟨[], fun r' h => absurd ⟨r', h⟩ hb⟩
    obtain ⟨f, hf⟩ := Classical.skolem.mp this
    have z : ∀ {as : List Addr} {ks : List (List Int)}, Paired (fun (t : Addr) (r : List Int) => H t = some (.tup (r.map V.int))) as ks → as.map f = ks ∧ ∀ b ∈ as, H b = some (.tup ((f b).map V.int)) := by
      intro as ks h
      induction h with
      | nil => exact ⟨rfl, fun b hb => nomatch hb⟩
      | cons h t ih =>
        have e := hf _ _ h
        refine ⟨by rw [List.map_cons, ih.1, ← e], fun b hb => ?_⟩
        rcases List.mem_cons.mp hb with rfl | hb
        · rw [← e]
          exact h
        · exact ih.2 b hb
    exact ⟨f, z hrow⟩
  obtain ⟨eL, kIn⟩ := hkf
  let enc : Value → PyData := fun v => match v with
    | .ref b => encR (kf b)
    | _ => encR []
  have lenV : (as.map Value.ref).length ≤ sizeLine := by
    rw [List.length_map]
    rw [List.length_map] at hz
    exact hz
  refine Calls.call_function_entry PyProof.Rows.kind_sorted PyProof.Rows.plain_sorted PyProof.Rows.entry_sorted (PyProof.Rows.args_sorted1 _) ?_
  unfold Builtin.«sorted»
  refine wpAny_bind (m := checkCount "sorted" 1 1 _) (wpAny_pure ?_)
  refine wpAny_bind (PyProof.Rows.collect_list hl.isList ?_ lenV)
  generalize hh' : (s.heap.push (seqObj "list" #[] 0)).update s.heap.objs.size (Obj.mapSeq (· ++ (as.map Value.ref).toArray)) = h'
  have hk : ∀ b o, s.heap.get? b = some o → h'.get? b = some o := fun b o e => by
    have hlt := Heap.lt_size e
    rw [← hh', Heap.get?_update_ne _ _ _ _ (Nat.ne_of_lt hlt)]
    exact Heap.get?_push_of_some _ e
  have I1 : Inv X pins σ H { s with heap := h' } := I.kept (t' := s.toks) hk
  refine wpAny_bind (wpAny_newList ?_ lenV)
  have hob : (h'.push (seqObj "list" (as.map Value.ref).toArray 0)).get? h'.objs.size = some (seqObj "list" (as.map Value.ref).toArray 0) := Heap.get?_push_size _ rfl
  have ka : ∀ b o, h'.get? b = some o → (h'.push (seqObj "list" (as.map Value.ref).toArray 0)).get? b = some o := fun b o e => Heap.get?_push_of_some _ e
  have off : ∀ b o, h'.get? b = some o → b ≠ h'.objs.size := fun b o e => Nat.ne_of_lt (Heap.lt_size e)
  show wpAny _ _ _ _ _ { s with heap := h'.push (seqObj "list" (as.map Value.ref).toArray 0) }
  generalize hh2 : h'.push (seqObj "list" (as.map Value.ref).toArray 0) = h2 at hob ka ⊢
  have er : ∀ h2' : Heap, (∀ b o, b ≠ h'.objs.size → h2.get? b = some o → h2'.get? b = some o) → ∀ v ∈ as.map Value.ref, ∃ ws, Reads h2' v (enc v) ws := by
    intro h2' keep v hv
    obtain ⟨b, hb, rfl⟩ := List.mem_map.mp hv
    obtain ⟨its, hI, ob, hob', hcb, nb, hdb⟩ := row_ints I1 (kIn b hb)
    exact reads_row (h := h2') hI ⟨ob, keep _ _ (off _ _ hob') (ka _ _ hob'), hcb, nb, hdb⟩
  refine wpAny_bind (wpAny_holding (wpAny_call_entry PyProof.Rows.slot_list_sort ⟨_, hob, rfl⟩ PyProof.Rows.entry_list_sort
    (SrtO.list_sort_ord (s := { s with heap := h2 }) (swo_data enc) hob lenV (fun h2l => sortable (s := { s with heap := h2 }) h2l er (fun v hv u hu' => ?_) (fun v hv => ?_) fun v hv => ?_) fun out o1 o2 => ⟨_, rfl, ?_⟩) (PyProof.Rows.args_list_sort _)))
  · obtain ⟨b, hb, rfl⟩ := List.mem_map.mp hv
    obtain ⟨c, hc', rfl⟩ := List.mem_map.mp hu'
    exact encR_alike _ _
  · obtain ⟨b, hb, rfl⟩ := List.mem_map.mp hv
    show ∃ x r, encR (kf b) = .tuple (x :: r)
    have ne : kf b ≠ [] := fun e => hne (by rw [← asl]; rwa [List.length_map] at h2l) (by
      rw [← eL, ← e]
      exact List.mem_map.mpr ⟨b, hb, rfl⟩)
    cases e : kf b with
    | nil => exact absurd e ne
    | cons x r => exact ⟨_, _, rfl⟩
  · obtain ⟨b, hb, rfl⟩ := List.mem_map.mp hv
    show X.A.in1.in1.units + (encR (kf b)).depth < cLine
    have e1 : X.A.in1.in1.units = X.A.units + 2 := rfl
    have e2 : (encR (kf b)).depth ≤ 4 := by
      simp [PyData.depth, depth_ints]
    omega
  · refine wpAny_pure ?_
    have inV : ∀ v ∈ out, ∃ b ∈ as, v = Value.ref b := fun v hv => by
      obtain ⟨b, hb, e⟩ := List.mem_map.mp (o2.perm.mem_iff.mp hv)
      exact ⟨b, hb, e.symm⟩
    obtain ⟨ts, ets⟩ : ∃ ts : List Addr, out = ts.map Value.ref := ⟨out.map adO, ref_map fun v hv => by
      obtain ⟨b, _, e⟩ := inV v hv
      exact ⟨b, e⟩⟩
    subst ets
    have tsIn : ∀ b ∈ ts, b ∈ as := fun b hb => by
      obtain ⟨c, hc', e⟩ := inV (.ref b) (List.mem_map.mpr ⟨b, hb, rfl⟩)
      cases e
      exact hc'
    have tperm : ts.Perm as := by
      have e := o2.perm.map adO
      rwa [ad_map, ad_map] at e
    have M1 : (ts.map kf).Perm ks := by
      rw [← eL]
      exact tperm.map _
    have M2 : (ts.map kf).Pairwise (fun p q => ltR q p = false) := by
      have e : (ts.map Value.ref).Pairwise (fun v u => dataLt (enc u) (enc v) = false) := o1
      rw [List.pairwise_map] at e ⊢
      refine e.imp fun {x y} hxy => ?_
      have e2 : dataLt (encR (kf y)) (encR (kf x)) = false := hxy
      rwa [encR_lt] at e2
    obtain ⟨eF, heF⟩ := PyProof.Rows.sortedHeap_at (vs := as.map Value.ref) (out := (ts.map Value.ref).toArray) hob
    have kF : ∀ b oo, h'.get? b = some oo → (sortedHeap h2 h'.objs.size (as.map Value.ref) (ts.map Value.ref).toArray).get? b = some oo := fun b oo e => (PyProof.Rows.sortedHeap_old (off _ _ e) (Heap.lt_size (ka _ _ e))).trans (ka _ _ e)
    refine ⟨.ref h'.objs.size, rfl, .ref h'.objs.size, upd H h'.objs.size (.lst (ts.map V.ref)), I1.laid (t' := s.toks) kF (Nat.le_refl _) ⟨by rw [List.length_map, tperm.length_eq]; rw [List.length_map] at lenV; omega, ts.map Value.ref, eF, LiI.vals_refs ts, heF⟩, rfl, q _ ts _ (I1.hok.fresh (Nat.le_refl _)) M1 M2 (paired_map fun b hb => kIn b (tsIn b hb))⟩
end L2

namespace K18
open PySem PySem.Spec PyProof.Rows L2
def topS (i : Nat) : Stmt := PySem.Challenge.pw_deltamill_k18_plain_positive_parts.main.body.getD i (.Pass ⟨0, 0, 0, 0⟩)
abbrev s_wall : Stmt := topS 0
abbrev N_wall : List Str := ["k"]
theorem sc_wall : FnScope N_wall ["k"] (defScope s_wall) := ⟨rfl, rfl, rfl, by decide +kernel, rfl, by decide +kernel, by decide +kernel⟩

abbrev sis_number : Stmt := topS 7
abbrev Nis_number : List Str := ["value"]
theorem scis_number : FnScope Nis_number ["value"] (defScope sis_number) := ⟨rfl, rfl, rfl, by decide +kernel, rfl, by decide +kernel, by decide +kernel⟩

abbrev swithout_zeros : Stmt := topS 9
abbrev Nwithout_zeros : List Str := ["counts", "key"]
theorem scwithout_zeros : FnScope Nwithout_zeros ["counts"] (defScope swithout_zeros) := ⟨rfl, rfl, rfl, by decide +kernel, rfl, by decide +kernel, by decide +kernel⟩

abbrev stimes : Stmt := topS 10
abbrev Ntimes : List Str := ["counts", "factor", "key"]
theorem sctimes : FnScope Ntimes ["counts", "factor"] (defScope stimes) := ⟨rfl, rfl, rfl, by decide +kernel, rfl, by decide +kernel, by decide +kernel⟩

abbrev splus : Stmt := topS 11
abbrev Nplus : List Str := ["first", "second", "made", "key"]
theorem scplus : FnScope Nplus ["first", "second"] (defScope splus) := ⟨rfl, rfl, rfl, by decide +kernel, rfl, by decide +kernel, by decide +kernel⟩

abbrev slesser : Stmt := topS 12
abbrev Nlesser : List Str := ["first", "second", "keys", "key"]
theorem sclesser : FnScope Nlesser ["first", "second"] (defScope slesser) := ⟨rfl, rfl, rfl, by decide +kernel, rfl, by decide +kernel, by decide +kernel⟩

abbrev sgreater : Stmt := topS 13
abbrev Ngreater : List Str := ["first", "second", "keys", "key"]
theorem scgreater : FnScope Ngreater ["first", "second"] (defScope sgreater) := ⟨rfl, rfl, rfl, by decide +kernel, rfl, by decide +kernel, by decide +kernel⟩

abbrev stally_of : Stmt := topS 14
abbrev Ntally_of : List Str := ["pairs", "made", "key", "count"]
theorem sctally_of : FnScope Ntally_of ["pairs"] (defScope stally_of) := ⟨rfl, rfl, rfl, by decide +kernel, rfl, by decide +kernel, by decide +kernel⟩

abbrev sis_row : Stmt := topS 16
abbrev Nis_row : List Str := ["value", "column"]
theorem scis_row : FnScope Nis_row ["value"] (defScope sis_row) := ⟨rfl, rfl, rfl, by decide +kernel, rfl, by decide +kernel, by decide +kernel⟩

abbrev scheck_counted : Stmt := topS 17
abbrev Ncheck_counted : List Str := ["row", "count"]
theorem sccheck_counted : FnScope Ncheck_counted ["row", "count"] (defScope scheck_counted) := ⟨rfl, rfl, rfl, by decide +kernel, rfl, by decide +kernel, by decide +kernel⟩

abbrev sbag_of_tally : Stmt := topS 18
abbrev Nbag_of_tally : List Str := ["counts", "made"]
theorem scbag_of_tally : FnScope Nbag_of_tally ["counts"] (defScope sbag_of_tally) := ⟨rfl, rfl, rfl, by decide +kernel, rfl, by decide +kernel, by decide +kernel⟩

abbrev stally_in : Stmt := topS 19
abbrev Ntally_in : List Str := ["bag", "row"]
theorem sctally_in : FnScope Ntally_in ["bag"] (defScope stally_in) := ⟨rfl, rfl, rfl, by decide +kernel, rfl, by decide +kernel, by decide +kernel⟩

abbrev ssubplans : Stmt := topS 23
abbrev Nsubplans : List Str := ["node", "place"]
theorem scsubplans : FnScope Nsubplans ["node"] (defScope ssubplans) := ⟨rfl, rfl, rfl, by decide +kernel, rfl, by decide +kernel, by decide +kernel⟩

abbrev swith_subplan : Stmt := topS 24
abbrev Nwith_subplan : List Str := ["node", "position", "other", "place"]
theorem scwith_subplan : FnScope Nwith_subplan ["node", "position", "other"] (defScope swith_subplan) := ⟨rfl, rfl, rfl, by decide +kernel, rfl, by decide +kernel, by decide +kernel⟩

abbrev svalue_of : Stmt := topS 26
abbrev Nvalue_of : List Str := ["term", "row", "constant", "parts", "column", "factor"]
theorem scvalue_of : FnScope Nvalue_of ["term", "row"] (defScope svalue_of) := ⟨rfl, rfl, rfl, by decide +kernel, rfl, by decide +kernel, by decide +kernel⟩

abbrev svalues_of : Stmt := topS 27
abbrev Nvalues_of : List Str := ["terms", "row", "term"]
theorem scvalues_of : FnScope Nvalues_of ["terms", "row"] (defScope svalues_of) := ⟨rfl, rfl, rfl, by decide +kernel, rfl, by decide +kernel, by decide +kernel⟩

abbrev scompares : Stmt := topS 28
abbrev Ncompares : List Str := ["left", "op", "right"]
theorem sccompares : FnScope Ncompares ["left", "op", "right"] (defScope scompares) := ⟨rfl, rfl, rfl, by decide +kernel, rfl, by decide +kernel, by decide +kernel⟩

abbrev sholds : Stmt := topS 29
abbrev Nholds : List Str := ["tests", "row", "left", "op", "right"]
theorem scholds : FnScope Nholds ["tests", "row"] (defScope sholds) := ⟨rfl, rfl, rfl, by decide +kernel, rfl, by decide +kernel, by decide +kernel⟩

abbrev scontains : Stmt := topS 31
abbrev Ncontains : List Str := ["node", "name", "sub"]
theorem sccontains : FnScope Ncontains ["node", "name"] (defScope scontains) := ⟨rfl, rfl, rfl, by decide +kernel, rfl, by decide +kernel, by decide +kernel⟩

abbrev sfree_parts : Stmt := topS 33
abbrev Nfree_parts : List Str := ["node", "path", "loops", "own", "_", "name", "found", "position", "sub", "is_step", "around"]
theorem scfree_parts : FnScope Nfree_parts ["node", "path", "loops"] (defScope sfree_parts) := ⟨rfl, rfl, rfl, by decide +kernel, rfl, by decide +kernel, by decide +kernel⟩

abbrev stables_of : Stmt := topS 34
abbrev Ntables_of : List Str := ["plan", "part"]
theorem sctables_of : FnScope Ntables_of ["plan"] (defScope stables_of) := ⟨rfl, rfl, rfl, by decide +kernel, rfl, by decide +kernel, by decide +kernel⟩

abbrev spicked : Stmt := topS 36
abbrev Npicked : List Str := ["row", "columns", "column"]
theorem scpicked : FnScope Npicked ["row", "columns"] (defScope spicked) := ⟨rfl, rfl, rfl, by decide +kernel, rfl, by decide +kernel, by decide +kernel⟩

abbrev sby_values : Stmt := topS 37
abbrev Nby_values : List Str := ["rows", "columns", "groups", "row"]
theorem scby_values : FnScope Nby_values ["rows", "columns"] (defScope sby_values) := ⟨rfl, rfl, rfl, by decide +kernel, rfl, by decide +kernel, by decide +kernel⟩

abbrev spositive : Stmt := topS 38
abbrev Npositive : List Str := ["counts", "row"]
theorem scpositive : FnScope Npositive ["counts"] (defScope spositive) := ⟨rfl, rfl, rfl, by decide +kernel, rfl, by decide +kernel, by decide +kernel⟩

abbrev swork_choose : Stmt := topS 39
abbrev Nwork_choose : List Str := ["node", "counts", "row"]
theorem scwork_choose : FnScope Nwork_choose ["node", "counts"] (defScope swork_choose) := ⟨rfl, rfl, rfl, by decide +kernel, rfl, by decide +kernel, by decide +kernel⟩

abbrev swork_map : Stmt := topS 40
abbrev Nwork_map : List Str := ["node", "counts", "row"]
theorem scwork_map : FnScope Nwork_map ["node", "counts"] (defScope swork_map) := ⟨rfl, rfl, rfl, by decide +kernel, rfl, by decide +kernel, by decide +kernel⟩

abbrev swork_join : Stmt := topS 41
abbrev Nwork_join : List Str := ["node", "left", "right", "columns", "pair", "matches", "row", "match"]
theorem scwork_join : FnScope Nwork_join ["node", "left", "right"] (defScope swork_join) := ⟨rfl, rfl, rfl, by decide +kernel, rfl, by decide +kernel, by decide +kernel⟩

abbrev swork_plus : Stmt := topS 42
abbrev Nwork_plus : List Str := ["_", "left", "right"]
theorem scwork_plus : FnScope Nwork_plus ["_", "left", "right"] (defScope swork_plus) := ⟨rfl, rfl, rfl, by decide +kernel, rfl, by decide +kernel, by decide +kernel⟩

abbrev swork_less : Stmt := topS 43
abbrev Nwork_less : List Str := ["_", "left", "right"]
theorem scwork_less : FnScope Nwork_less ["_", "left", "right"] (defScope swork_less) := ⟨rfl, rfl, rfl, by decide +kernel, rfl, by decide +kernel, by decide +kernel⟩

abbrev swork_distinct : Stmt := topS 44
abbrev Nwork_distinct : List Str := ["_", "counts", "row"]
theorem scwork_distinct : FnScope Nwork_distinct ["_", "counts"] (defScope swork_distinct) := ⟨rfl, rfl, rfl, by decide +kernel, rfl, by decide +kernel, by decide +kernel⟩

abbrev swork_without : Stmt := topS 45
abbrev Nwork_without : List Str := ["node", "left", "right", "columns", "pair", "matches", "row"]
theorem scwork_without : FnScope Nwork_without ["node", "left", "right"] (defScope swork_without) := ⟨rfl, rfl, rfl, by decide +kernel, rfl, by decide +kernel, by decide +kernel⟩

abbrev svalue_of_group : Stmt := topS 46
abbrev Nvalue_of_group : List Str := ["sort", "rows", "counts", "word", "row", "column", "values"]
theorem scvalue_of_group : FnScope Nvalue_of_group ["sort", "rows", "counts"] (defScope svalue_of_group) := ⟨rfl, rfl, rfl, by decide +kernel, rfl, by decide +kernel, by decide +kernel⟩

abbrev swork_group : Stmt := topS 47
abbrev Nwork_group : List Str := ["node", "counts", "keys", "sort", "rows", "groups", "values"]
theorem scwork_group : FnScope Nwork_group ["node", "counts"] (defScope swork_group) := ⟨rfl, rfl, rfl, by decide +kernel, rfl, by decide +kernel, by decide +kernel⟩

abbrev swork_top : Stmt := topS 48
abbrev Nwork_top : List Str := ["node", "counts", "keys", "many", "groups", "made", "values", "missing", "row"]
theorem scwork_top : FnScope Nwork_top ["node", "counts"] (defScope swork_top) := ⟨rfl, rfl, rfl, by decide +kernel, rfl, by decide +kernel, by decide +kernel⟩

abbrev swork : Stmt := topS 50
abbrev Nwork : List Str := ["node", "tallies", "finish"]
theorem scwork : FnScope Nwork ["node", "tallies"] (defScope swork) := ⟨rfl, rfl, rfl, by decide +kernel, rfl, by decide +kernel, by decide +kernel⟩

abbrev ssettled : Stmt := topS 52
abbrev Nsettled : List Str := ["plan", "tables", "sub"]
theorem scsettled : FnScope Nsettled ["plan", "tables"] (defScope ssettled) := ⟨rfl, rfl, rfl, by decide +kernel, rfl, by decide +kernel, by decide +kernel⟩

abbrev srounds_over : Stmt := topS 53
abbrev Nrounds_over : List Str := ["loop", "tables", "name", "start", "step", "first", "within", "table", "short", "found", "last", "told", "grown", "row"]
theorem scrounds_over : FnScope Nrounds_over ["loop", "tables"] (defScope srounds_over) := ⟨rfl, rfl, rfl, by decide +kernel, rfl, by decide +kernel, by decide +kernel⟩

abbrev sshortened : Stmt := topS 54
abbrev Nshortened : List Str := ["node", "name", "tables", "within", "word", "made", "position", "sub"]
theorem scshortened : FnScope Nshortened ["node", "name", "tables", "within"] (defScope sshortened) := ⟨rfl, rfl, rfl, by decide +kernel, rfl, by decide +kernel, by decide +kernel⟩

abbrev sworked : Stmt := topS 56
abbrev Nworked : List Str := ["node", "bags", "bag"]
theorem scworked : FnScope Nworked ["node", "bags"] (defScope sworked) := ⟨rfl, rfl, rfl, by decide +kernel, rfl, by decide +kernel, by decide +kernel⟩

abbrev sanswer : Stmt := topS 57
abbrev Nanswer : List Str := ["plan", "tables"]
theorem scanswer : FnScope Nanswer ["plan", "tables"] (defScope sanswer) := ⟨rfl, rfl, rfl, by decide +kernel, rfl, by decide +kernel, by decide +kernel⟩

abbrev stallies_of : Stmt := topS 58
abbrev Ntallies_of : List Str := ["plan", "tables", "name"]
theorem sctallies_of : FnScope Ntallies_of ["plan", "tables"] (defScope stallies_of) := ⟨rfl, rfl, rfl, by decide +kernel, rfl, by decide +kernel, by decide +kernel⟩

abbrev s_law_integer : Stmt := topS 60
abbrev N_law_integer : List Str := ["value"]
theorem sc_law_integer : FnScope N_law_integer ["value"] (defScope s_law_integer) := ⟨rfl, rfl, rfl, by decide +kernel, rfl, by decide +kernel, by decide +kernel⟩

abbrev s_law_purse : Stmt := topS 61
abbrev N_law_purse : List Str := ["script", "k", "cell", "first", "second"]
theorem sc_law_purse : FnScope N_law_purse ["script", "k"] (defScope s_law_purse) := ⟨rfl, rfl, rfl, by decide +kernel, rfl, by decide +kernel, by decide +kernel⟩

abbrev s_law_draw : Stmt := topS 62
abbrev N_law_draw : List Str := ["purse", "many", "digit"]
theorem sc_law_draw : FnScope N_law_draw ["purse", "many"] (defScope s_law_draw) := ⟨rfl, rfl, rfl, by decide +kernel, rfl, by decide +kernel, by decide +kernel⟩

abbrev s_law_number : Stmt := topS 63
abbrev N_law_number : List Str := ["purse", "way", "sign", "head"]
theorem sc_law_number : FnScope N_law_number ["purse"] (defScope s_law_number) := ⟨rfl, rfl, rfl, by decide +kernel, rfl, by decide +kernel, by decide +kernel⟩

abbrev s_law_count : Stmt := topS 64
abbrev N_law_count : List Str := ["purse", "small"]
theorem sc_law_count : FnScope N_law_count ["purse", "small"] (defScope s_law_count) := ⟨rfl, rfl, rfl, by decide +kernel, rfl, by decide +kernel, by decide +kernel⟩

abbrev s_law_pairs : Stmt := topS 65
abbrev N_law_pairs : List Str := ["purse", "width", "most", "small", "size", "pairs", "at", "row", "column", "count"]
theorem sc_law_pairs : FnScope N_law_pairs ["purse", "width", "most", "small"] (defScope s_law_pairs) := ⟨rfl, rfl, rfl, by decide +kernel, rfl, by decide +kernel, by decide +kernel⟩

abbrev s_law_term : Stmt := topS 66
abbrev N_law_term : List Str := ["purse", "width", "way", "constant", "parts", "column", "factor", "asked"]
theorem sc_law_term : FnScope N_law_term ["purse", "width"] (defScope s_law_term) := ⟨rfl, rfl, rfl, by decide +kernel, rfl, by decide +kernel, by decide +kernel⟩

abbrev s_law_tests : Stmt := topS 67
abbrev N_law_tests : List Str := ["purse", "width", "tests", "at", "left", "op"]
theorem sc_law_tests : FnScope N_law_tests ["purse", "width"] (defScope s_law_tests) := ⟨rfl, rfl, rfl, by decide +kernel, rfl, by decide +kernel, by decide +kernel⟩

abbrev s_law_terms : Stmt := topS 68
abbrev N_law_terms : List Str := ["purse", "width", "at"]
theorem sc_law_terms : FnScope N_law_terms ["purse", "width"] (defScope s_law_terms) := ⟨rfl, rfl, rfl, by decide +kernel, rfl, by decide +kernel, by decide +kernel⟩

abbrev s_law_columns : Stmt := topS 69
abbrev N_law_columns : List Str := ["purse", "left", "right", "many", "at"]
theorem sc_law_columns : FnScope N_law_columns ["purse", "left", "right"] (defScope s_law_columns) := ⟨rfl, rfl, rfl, by decide +kernel, rfl, by decide +kernel, by decide +kernel⟩

abbrev s_law_keys : Stmt := topS 70
abbrev N_law_keys : List Str := ["purse", "width", "many", "at"]
theorem sc_law_keys : FnScope N_law_keys ["purse", "width"] (defScope s_law_keys) := ⟨rfl, rfl, rfl, by decide +kernel, rfl, by decide +kernel, by decide +kernel⟩

abbrev s_law_sort : Stmt := topS 71
abbrev N_law_sort : List Str := ["purse", "width", "way"]
theorem sc_law_sort : FnScope N_law_sort ["purse", "width"] (defScope s_law_sort) := ⟨rfl, rfl, rfl, by decide +kernel, rfl, by decide +kernel, by decide +kernel⟩

abbrev s_law_many : Stmt := topS 72
abbrev N_law_many : List Str := ["purse", "way"]
theorem sc_law_many : FnScope N_law_many ["purse"] (defScope s_law_many) := ⟨rfl, rfl, rfl, by decide +kernel, rfl, by decide +kernel, by decide +kernel⟩

abbrev s_law_name : Stmt := topS 73
abbrev N_law_name : List Str := ["purse", "taken", "words", "letters", "name", "at", "way", "one"]
theorem sc_law_name : FnScope N_law_name ["purse", "taken"] (defScope s_law_name) := ⟨rfl, rfl, rfl, by decide +kernel, rfl, by decide +kernel, by decide +kernel⟩

abbrev s_law_sub : Stmt := topS 74
abbrev N_law_sub : List Str := ["purse", "table", "way"]
theorem sc_law_sub : FnScope N_law_sub ["purse"] (defScope s_law_sub) := ⟨rfl, rfl, rfl, by decide +kernel, rfl, by decide +kernel, by decide +kernel⟩

abbrev s_law_node : Stmt := topS 75
abbrev N_law_node : List Str := ["purse", "kind", "first", "second", "left", "right", "keys"]
theorem sc_law_node : FnScope N_law_node ["purse", "kind", "first", "second", "left", "right"] (defScope s_law_node) := ⟨rfl, rfl, rfl, by decide +kernel, rfl, by decide +kernel, by decide +kernel⟩

abbrev s_law_value : Stmt := topS 76
abbrev N_law_value : List Str := ["term", "row", "value", "part"]
theorem sc_law_value : FnScope N_law_value ["term", "row"] (defScope s_law_value) := ⟨rfl, rfl, rfl, by decide +kernel, rfl, by decide +kernel, by decide +kernel⟩

abbrev s_law_test : Stmt := topS 77
abbrev N_law_test : List Str := ["test", "row", "left", "right"]
theorem sc_law_test : FnScope N_law_test ["test", "row"] (defScope s_law_test) := ⟨rfl, rfl, rfl, by decide +kernel, rfl, by decide +kernel, by decide +kernel⟩

abbrev s_law_added : Stmt := topS 78
abbrev N_law_added : List Str := ["pairs", "found", "row", "count"]
theorem sc_law_added : FnScope N_law_added ["pairs"] (defScope s_law_added) := ⟨rfl, rfl, rfl, by decide +kernel, rfl, by decide +kernel, by decide +kernel⟩

abbrev s_law_agree : Stmt := topS 79
abbrev N_law_agree : List Str := ["pairs", "left", "right", "pair"]
theorem sc_law_agree : FnScope N_law_agree ["pairs", "left", "right"] (defScope s_law_agree) := ⟨rfl, rfl, rfl, by decide +kernel, rfl, by decide +kernel, by decide +kernel⟩

abbrev s_law_grouped : Stmt := topS 80
abbrev N_law_grouped : List Str := ["node", "rows", "found", "sort", "row", "count", "word", "column"]
theorem sc_law_grouped : FnScope N_law_grouped ["node", "rows"] (defScope s_law_grouped) := ⟨rfl, rfl, rfl, by decide +kernel, rfl, by decide +kernel, by decide +kernel⟩

abbrev s_law_topped : Stmt := topS 81
abbrev N_law_topped : List Str := ["node", "rows", "room", "found", "row", "count", "word", "column", "left", "kept"]
theorem sc_law_topped : FnScope N_law_topped ["node", "rows"] (defScope s_law_topped) := ⟨rfl, rfl, rfl, by decide +kernel, rfl, by decide +kernel, by decide +kernel⟩

abbrev s_law_kept : Stmt := topS 82
abbrev N_law_kept : List Str := ["node", "first", "second", "found", "row", "count", "pair"]
theorem sc_law_kept : FnScope N_law_kept ["node", "first", "second"] (defScope s_law_kept) := ⟨rfl, rfl, rfl, by decide +kernel, rfl, by decide +kernel, by decide +kernel⟩

abbrev s_law_due : Stmt := topS 83
abbrev N_law_due : List Str := ["node", "first", "second", "pair", "found", "row", "count", "test", "term", "left", "many", "right", "times_v"]
theorem sc_law_due : FnScope N_law_due ["node", "first", "second"] (defScope s_law_due) := ⟨rfl, rfl, rfl, by decide +kernel, rfl, by decide +kernel, by decide +kernel⟩

abbrev s_law_from_nothing : Stmt := topS 84
abbrev N_law_from_nothing : List Str := ["plan", "lists", "first", "second"]
theorem sc_law_from_nothing : FnScope N_law_from_nothing ["plan", "lists"] (defScope s_law_from_nothing) := ⟨rfl, rfl, rfl, by decide +kernel, rfl, by decide +kernel, by decide +kernel⟩

abbrev s_law_tells : Stmt := topS 85
abbrev N_law_tells : List Str := ["told", "due", "rows", "small", "one", "wanted", "value"]
theorem sc_law_tells : FnScope N_law_tells ["told", "due"] (defScope s_law_tells) := ⟨rfl, rfl, rfl, by decide +kernel, rfl, by decide +kernel, by decide +kernel⟩

abbrev s_law_node_holds : Stmt := topS 86
abbrev N_law_node_holds : List Str := ["purse", "kind", "widths", "left", "right", "shared", "first", "second", "node", "bag", "other", "told", "due"]
theorem sc_law_node_holds : FnScope N_law_node_holds ["purse", "kind"] (defScope s_law_node_holds) := ⟨rfl, rfl, rfl, by decide +kernel, rfl, by decide +kernel, by decide +kernel⟩

abbrev s_law_narrow : Stmt := topS 87
abbrev N_law_narrow : List Str := ["purse", "part", "at"]
theorem sc_law_narrow : FnScope N_law_narrow ["purse", "part"] (defScope s_law_narrow) := ⟨rfl, rfl, rfl, by decide +kernel, rfl, by decide +kernel, by decide +kernel⟩

abbrev s_law_one : Stmt := topS 88
abbrev N_law_one : List Str := ["purse", "kind", "part", "names", "node"]
theorem sc_law_one : FnScope N_law_one ["purse", "kind", "part"] (defScope s_law_one) := ⟨rfl, rfl, rfl, by decide +kernel, rfl, by decide +kernel, by decide +kernel⟩

abbrev s_law_plan : Stmt := topS 89
abbrev N_law_plan : List Str := ["purse", "deep", "names", "widths", "way", "at", "left", "terms", "right", "pairs", "wide"]
theorem sc_law_plan : FnScope N_law_plan ["purse", "deep", "names", "widths"] (defScope s_law_plan) := ⟨rfl, rfl, rfl, by decide +kernel, rfl, by decide +kernel, by decide +kernel⟩

abbrev s_law_plan_holds : Stmt := topS 90
abbrev N_law_plan_holds : List Str := ["purse", "spare", "names", "widths", "lists", "tables", "at", "pairs", "pair", "plan", "way", "at_last", "right", "order", "told", "name"]
theorem sc_law_plan_holds : FnScope N_law_plan_holds ["purse", "spare"] (defScope s_law_plan_holds) := ⟨rfl, rfl, rfl, by decide +kernel, rfl, by decide +kernel, by decide +kernel⟩

abbrev slaw : Stmt := topS 91
abbrev Nlaw : List Str := ["script", "kinds", "k", "purse"]
theorem sclaw : FnScope Nlaw ["script"] (defScope slaw) := ⟨rfl, rfl, rfl, by decide +kernel, rfl, by decide +kernel, by decide +kernel⟩

abbrev sBag___init__ : Stmt := inClass (topS 20) 0
abbrev NBag___init__ : List Str := ["self", "pairs", "counted", "row", "count"]
theorem scBag___init__ : FnScope NBag___init__ ["self", "pairs"] (defScope sBag___init__) := ⟨rfl, rfl, rfl, by decide +kernel, rfl, by decide +kernel, by decide +kernel⟩

abbrev sBag_pairs : Stmt := inClass (topS 20) 2
abbrev NBag_pairs : List Str := ["self"]
theorem scBag_pairs : FnScope NBag_pairs ["self"] (defScope sBag_pairs) := ⟨rfl, rfl, rfl, by decide +kernel, rfl, by decide +kernel, by decide +kernel⟩

abbrev sBag___eq__ : Stmt := inClass (topS 20) 10
abbrev NBag___eq__ : List Str := ["self", "other"]
theorem scBag___eq__ : FnScope NBag___eq__ ["self", "other"] (defScope sBag___eq__) := ⟨rfl, rfl, rfl, by decide +kernel, rfl, by decide +kernel, by decide +kernel⟩

/-- the built-in names that the text uses are the built-in ones -/
structure Bt (mg : Str → Option Value) : Prop where
  m_all : mg "all" = none
  m_tuple : mg "tuple" = none
  m_sum : mg "sum" = none
  m_abs : mg "abs" = none
  m_int : mg "int" = none
  m_bool : mg "bool" = none
  m_list : mg "list" = none
  m_len : mg "len" = none
  m_range : mg "range" = none
  m_isinstance : mg "isinstance" = none
  m_sorted : mg "sorted" = none
  m_min : mg "min" = none
  m_enumerate : mg "enumerate" = none
  m_zip : mg "zip" = none
  m_max : mg "max" = none
  m_any : mg "any" = none
end K18

namespace K18
open PySem PySem.Spec PyProof.Rows L2 RW9 Tl
/-- a tally of rows at a -/
structure TalAt (H : Hp) (a : Addr) (L : List (List Int × Int)) : Prop where
  at' : H a = some (.dT (rowD L))
  nd : (keys L).Nodup
  len : L.length ≤ 5000
section
variable {P : Program} {w : World} {K : PySem.W.Frag} {mg : Str → Option Value} {base : Heap}
def spWz : Sp := fun vs H Q _ => ∃ (a : Addr) (L : List (List Int × Int)), vs = [.ref a] ∧ TalAt H a L ∧ ∀ H' b, Same H H' → H b = none → TalAt H' b (nzL L) → Q (.ref b) H'
theorem nz_len (L : List (List Int × Int)) : (nzL L).length ≤ L.length := List.length_filter_le _ _
theorem map_self {L : List (List Int × Int)} (f : List Int × Int → Bool) : (L.filter f).map (fun p => (p.1, p.2)) = L.filter f := List.map_id' _
theorem d_without_zeros (B : Bt mg) (T : Top K mg "without_zeros" swithout_zeros ["counts"]) : Def P w K mg base "without_zeros" 1 ["counts"] spWz := by
  refine mk_def T scwithout_zeros (by rintro _ _ _ _ ⟨_, _, rfl, _⟩; rfl) fun f cdv A outer s H vs Q E hr h => ?_
  obtain ⟨a, L, rfl, t, q⟩ := h
  refine ⟨_, (pss_one (ps_ret (pe_lock (pe_dcP fresh_T (hu0 hr) (own := [("key", 1)]) (g := (gName 1)) (tt := (tTest (tOp rNe (tDGet (tVar 0) (tVar 1)) (tC (.int 0))))) (tk := (tVar 1)) (tv := (tDGet (tVar 0) (tVar 1))) rfl scwithout_zeros.nd (pi_keys (pv 0)) (blkOk_by (own := [("key", 1)]) (N := Nwithout_zeros) (sc := defScope swithout_zeros) (by decide +kernel)) (fun _ _ _ _ _ => (pg_name (i := 1) scwithout_zeros.nd rfl (Or.inl rfl))) (fun _ _ _ _ _ => (pts_one (pt_cmpR op_ne (pe_dget (hu_of hr) (pv 0) (pv 1) (fun _ _ => rfl)) pe_int (nomark _)))) (fun _ _ _ _ _ => (pv 1)) (fun _ _ _ _ _ => (pe_dget (hu_of hr) (pv 0) (pv 1) (fun _ _ => rfl))))))), ?_⟩
  refine ⟨a, _, t.at', True.intro, fun od => ?_⟩
  have hz : L2.upd H a (.frz od (.dT (rowD L))) a = some (.frz od (.dT (rowD L))) := upd_same
  refine ⟨.ref a, rfl, a, od, rfl, .inr ⟨_, hz, fun D hD => ?_⟩⟩
  have nDa : D ≠ a := (ne_of_none hz hD).symm
  refine dc_rows hz t.nd (by have := t.len; omega) hD (fun p => decide (p.2 ≠ 0)) (fun p => p.2) (fun p r H2 Q2 R hp e hr' k1 k2 => ?_) (fun H' e eD => ?_)
  · have hg : ∀ H4 : Hp, Same H2 H4 → DGet H4 a (.ref r) (some (.int p.2)) := fun H4 e4 => by
      rw [← cnt_in t.nd hp]
      exact dget_row_in (.inr ⟨od, e4 _ _ (e _ _ hz)⟩) t.nd (e4 _ _ hr') (List.mem_map.mpr ⟨p, hp, rfl⟩)
    refine ⟨rfl, .ref a, rfl, .ref r, rfl, a, _, rfl, hg _ (Same.refl _), rfl, _, rfl, ?_⟩
    by_cases e0 : p.2 = 0
    · rw [decide_eq_true (show V.int p.2 = V.int 0 by rw [e0])]
      exact iteF (k2 (by simp [e0]) _ (Same.refl _))
    · rw [decide_eq_false (show ¬ V.int p.2 = V.int 0 from fun z => e0 (V.int.inj z))]
      exact iteT ⟨.ref r, rfl, .ref a, rfl, .ref r, rfl, a, _, rfl, hg _ (Same.refl _), k1 (by simp [e0]) _ (Same.refl _)⟩
  · rw [map_self] at eD
    have hDn : H D = none := (show L2.upd H a _ D = none from hD) ▸ (upd_ne nDa).symm
    refine ⟨e _ _ hz, q _ D (same_unlock t.at' e) hDn ⟨?_, (fin_nz t.nd).nd, Nat.le_trans (nz_len L) t.len⟩⟩
    rw [upd_ne nDa]
    exact eD
def spTimes : Sp := fun vs H Q _ => ∃ (a : Addr) (L : List (List Int × Int)), vs = [.ref a, .int (-1)] ∧ TalAt H a L ∧ ∀ H' b, Same H H' → H b = none → TalAt H' b (nzL (L.map fun p => (p.1, -p.2))) → Q (.ref b) H'
theorem filter_true {α : Type} (l : List α) : l.filter (fun _ => true) = l := List.filter_eq_self.mpr fun _ _ => rfl
theorem keys_map (L : List (List Int × Int)) (f : List Int × Int → Int) : keys (L.map fun p => (p.1, f p)) = keys L := by
  unfold keys
  rw [List.map_map]
  rfl
theorem d_times (B : Bt mg) (T : Top K mg "times" stimes ["counts", "factor"]) (Dwithout_zeros : Def P w K mg base "without_zeros" 1 ["counts"] spWz) : Def P w K mg base "times" 2 ["counts", "factor"] spTimes := by
  refine mk_def T sctimes (by rintro _ _ _ _ ⟨_, _, rfl, _⟩; rfl) fun f cdv A outer s H vs Q E hr h => ?_
  obtain ⟨a, L, rfl, t, q⟩ := h
  refine ⟨_, (pss_one (ps_ret (pe_def Dwithout_zeros (hr.mono (by first | decide | omega)) (by rfl) (pa_cons (pe_lock (pe_dcP fresh_T (hu0 hr) (own := [("key", 2)]) (g := (gName 2)) (tt := tYes) (tk := (tVar 2)) (tv := (tOp yMul (tDGet (tVar 0) (tVar 2)) (tVar 1))) rfl sctimes.nd (pi_keys (pv 0)) (blkOk_by (own := [("key", 2)]) (N := Ntimes) (sc := defScope stimes) (by decide +kernel)) (fun _ _ _ _ _ => (pg_name (i := 2) sctimes.nd rfl (Or.inl rfl))) (fun _ _ _ _ _ => pts_nil) (fun _ _ _ _ _ => (pv 2)) (fun _ _ _ _ _ => (pe_op op_mul (pe_dget (hu_of hr) (pv 0) (pv 2) (fun _ _ => rfl)) (pv 1))))) pa_nil)))), ?_⟩
  refine ⟨a, _, t.at', True.intro, fun od => ?_⟩
  have hz : L2.upd H a (.frz od (.dT (rowD L))) a = some (.frz od (.dT (rowD L))) := upd_same
  refine ⟨.ref a, rfl, a, od, rfl, .inr ⟨_, hz, fun D hD => ?_⟩⟩
  have nDa : D ≠ a := (ne_of_none hz hD).symm
  refine dc_rows hz t.nd (by have := t.len; omega) hD (fun _ => true) (fun p => -p.2) (fun p r H2 Q2 R hp e hr' k1 k2 => ?_) (fun H' e eD => ?_)
  · have hg : DGet H2 a (.ref r) (some (.int p.2)) := by
      rw [← cnt_in t.nd hp]
      exact dget_row_in (.inr ⟨od, e _ _ hz⟩) t.nd hr' (List.mem_map.mpr ⟨p, hp, rfl⟩)
    refine ⟨rfl, ?_⟩
    show if true = true then _ else R H2
    refine iteT ⟨.ref r, rfl, .ref a, rfl, .ref r, rfl, a, _, rfl, hg, .int (-1), rfl, _, _, rfl, rfl, .inr ⟨by decide, by decide⟩, ?_⟩
    show Q2 _ (.int (p.2 * (-1))) H2
    rw [show p.2 * (-1) = -p.2 by omega]
    exact k1 rfl _ (Same.refl _)
  · rw [filter_true] at eD
    have hDn : H D = none := (show L2.upd H a _ D = none from hD) ▸ (upd_ne nDa).symm
    have e2 := same_unlock t.at' e
    have eD2 : L2.upd H' a (.dT (rowD L)) D = some (.dT (rowD (L.map fun p => (p.1, -p.2)))) := by
      rw [upd_ne nDa]
      exact eD
    refine ⟨e _ _ hz, D, _, rfl, ⟨eD2, by rw [keys_map]; exact t.nd, by rw [List.length_map]; exact t.len⟩, fun H3 b e3 hb tb => q H3 b (e2.trans e3) (e2.new hb) tb⟩
theorem flipP {α β : Type} {F : α → β → Prop} : ∀ {l : List α} {m : List β}, Paired F l m → Paired (fun b a => F a b) m l
  | _, _, .nil => .nil
  | _, _, .cons h t => .cons h (flipP t)
/-- a pair: a row and a count -/
def PairAt (H : Hp) (v : V) (p : List Int × Int) : Prop := ∃ t b, v = .ref t ∧ H t = some (.tup [.ref b, .int p.2]) ∧ RowAt H b p.1
theorem PairAt.st {H H' : Hp} {v : V} {p : List Int × Int} (h : PairAt H v p) (e : ∀ t us, H t = some (.tup us) → H' t = some (.tup us)) : PairAt H' v p := by
  obtain ⟨t, b, rfl, h1, h2⟩ := h
  exact ⟨t, b, rfl, e _ _ h1, e _ _ h2⟩
theorem cnt_take {ps : List (List Int × Int)} {i : Nat} {p : List Int × Int} (h : ps[i]? = some p) (k : List Int) : cnt (ps.take (i + 1)) k = cnt (ps.take i) k + if p.1 = k then p.2 else 0 := by
  rw [List.take_add_one, h, Option.toList_some, Tl.cnt_append]
  simp [Tl.cnt]
/-- a tally that is summed up: i pairs of ps are in it -/
structure Sum (H : Hp) (a : Addr) (T ps : List (List Int × Int)) : Prop where
  at' : H a = some (.dT (rowD T))
  nd : (keys T).Nodup
  len : T.length ≤ ps.length
  sum : ∀ k, cnt T k = cnt ps k
  inn : ∀ p ∈ T, p.1 ∈ keys ps
theorem Sum.put {H : Hp} {a : Addr} {T ps : List (List Int × Int)} (S : Sum H a T ps) (p : List Int × Int) : Sum (L2.upd H a (.dT (rowD (put T p.1 (cnt T p.1 + p.2))))) a (put T p.1 (cnt T p.1 + p.2)) (ps ++ [p]) where
  at' := upd_same
  nd := put_nodup S.nd
  len := by
    have := put_len (L := T) (k := p.1) (v := cnt T p.1 + p.2)
    have := S.len
    rw [List.length_append, List.length_singleton]
    omega
  sum k := by
    rw [put_cnt S.nd, Tl.cnt_append, S.sum]
    simp only [Tl.cnt]
    by_cases e : k = p.1
    · rw [if_pos e, if_pos e.symm, e]
      omega
    · rw [if_neg e, if_neg (fun z => e z.symm), S.sum]
      omega
  inn r hr := by
    unfold keys
    rw [List.map_append]
    rcases put_mem hr with e | e
    · exact List.mem_append_right _ (by rw [e]; simp)
    · obtain ⟨z, hz, ez⟩ := List.mem_map.mp e
      exact List.mem_append_left _ (by rw [← ez]; exact S.inn z hz)
def spTally (K : PySem.W.Frag) : Sp := fun vs H Q _ => ∃ (a : Addr) (acc : List V) (ps : List (List Int × Int)), vs = [.ref a] ∧ H a = some (.lst acc) ∧ Paired (PairAt H) acc ps ∧ ps.length ≤ 5000 ∧
  ∀ H' b T, Same H H' → H b = none → TalAt H' b T → Fin T → (∀ k, cnt T k = cnt ps k) → (∀ p ∈ T, p.1 ∈ keys ps) → Q (.ref b) H'
theorem nz_in {T ps : List (List Int × Int)} (h : ∀ p ∈ T, p.1 ∈ keys ps) : ∀ p ∈ nzL T, p.1 ∈ keys ps := fun p hp => h p (List.mem_filter.mp hp).1
theorem d_tally_of (B : Bt mg) (T : Top K mg "tally_of" stally_of ["pairs"]) (Dwithout_zeros : Def P w K mg base "without_zeros" 1 ["counts"] spWz) : Def P w K mg base "tally_of" 2 ["pairs"] (spTally K) := by
  refine mk_def T sctally_of (by rintro _ _ _ _ ⟨_, _, _, rfl, _⟩; rfl) fun f cdv A outer s H vs Q E hr h => ?_
  obtain ⟨a, acc, ps, rfl, ha, hx, hn, q⟩ := h
  refine ⟨_, (pss_cons (ps_set (i := 1) sctally_of.nd rfl (Or.inl rfl) (pe_dnewT))
      (pss_cons (ps_for PassesOwn.never rfl (pi_list (pv 0)) (pg_tup rfl (pgs_cons (pg_name (i := 2) sctally_of.nd rfl (Or.inl rfl)) (pgs_cons (pg_name (i := 3) sctally_of.nd rfl (Or.inl rfl)) pgs_nil))) (pss_one (ps_dput (hu_of hr) (pv 1) (pv 2) (pe_op op_add (pe_dget2 (hu_of hr) (pv 1) (pv 2) pe_int ⟨by rfl, by rfl, by rfl, by rfl⟩) (pv 3)) rfl)))
      (pss_one (ps_ret (pe_def Dwithout_zeros (hr.mono (by first | decide | omega)) (by rfl) (pa_cons (pv 1) pa_nil)))))), ?_⟩
  intro M hM
  have naM : a ≠ M := ne_of_none ha hM
  have ha1 : L2.upd H M (.dT []) a = some (.lst acc) := by rw [upd_ne naM]; exact ha
  refine ⟨.ref a, rfl, a, rfl, ⟨_, SqL.of ha1⟩, ?_⟩
  have hl : acc.length = ps.length := Paired.length hx
  refine for_list (xs := acc) (fun i σ H' => ∃ y2 y3 T, σ = [some (.ref a), some (.ref M), y2, y3] ∧ SameB M H H' ∧ Sum H' M T (ps.take i)) ⟨none, none, [], rfl, Same.b (same_upd hM), ⟨upd_same, List.Pairwise.nil, Nat.le_refl _, fun k => rfl, fun p hp => nomatch hp⟩⟩ (fun i σ H' _ pv' => ?_) (fun i x σ H' hxi pv' => ?_) (fun σ H' pv' => ?_)
  · obtain ⟨_, _, _, _, e, _⟩ := pv'
    exact SqL.of (e _ _ naM ha)
  · obtain ⟨y2, y3, T, rfl, e, S⟩ := pv'
    obtain ⟨p, hp, hpx⟩ := DX.pget (flipP hx) hxi
    have st : ∀ t us, H t = some (.tup us) → H' t = some (.tup us) := fun t us ht => by
      by_cases z : t = M
      · rw [z, hM] at ht
        cases ht
      · exact e _ _ z ht
    obtain ⟨t, b, rfl, ht, hb⟩ := hpx.st st
    obtain ⟨o, ho, eo⟩ := dget_row (.inl S.at') S.nd hb
    have lt : T.length < sizeLine := Nat.lt_of_le_of_lt (Nat.le_trans S.len (Nat.le_trans (List.length_take_le _ _) (Nat.le_trans (by
      have := (List.getElem?_eq_some_iff.mp hp).1
      omega) hn))) (by decide)
    refine ⟨t, _, rfl, SqT.of ht, rfl, _, _, rfl, _, _, rfl, rfl, ?_⟩
    refine ⟨.ref M, rfl, M, rfl, .inr ⟨_, .inl S.at'⟩, .ref b, rfl, o, ho, .int p.2, rfl, _, _, eo, rfl, .ref M, rfl, .ref b, rfl, M, _, rfl, dput_row S.at' hb lt, _, _, Tl.put T p.1 (Tl.cnt T p.1 + p.2), rfl, e.trans SameB.upd, ?_⟩
    rw [List.take_add_one, hp, Option.toList_some]
    exact S.put p
  · obtain ⟨y2, y3, T, rfl, e, S⟩ := pv'
    rw [hl, List.take_length] at S
    refine ⟨.ref M, rfl, M, _, rfl, ⟨S.at', S.nd, Nat.le_trans S.len hn⟩, fun H3 b s3 hb tb => ?_⟩
    have sm : Same H H3 := fun t u ht => s3 _ _ (e _ _ (fun z => by rw [z, hM] at ht; cases ht) ht)
    refine q H3 b _ sm ?_ tb (fin_nz S.nd) (fun k => by rw [cnt_nz, S.sum]) (nz_in S.inn)
    cases z : H b with
    | none => rfl
    | some u =>
      have h' : H' b = some u := e _ _ (fun z2 => by rw [z2, hM] at z; cases z) z
      rw [hb] at h'
      cases h'
def spPlus : Sp := fun vs H Q _ => ∃ (a b : Addr) (L M : List (List Int × Int)), vs = [.ref a, .ref b] ∧ TalAt H a L ∧ TalAt H b M ∧ L.length + M.length ≤ 5000 ∧
  ∀ H' c T, Same H H' → H c = none → TalAt H' c T → Fin T → (∀ k, Tl.cnt T k = Tl.cnt L k + Tl.cnt M k) → (∀ p ∈ T, p.1 ∈ keys L ∨ p.1 ∈ keys M) → Q (.ref c) H'
theorem sum_self {H : Hp} {a : Addr} {L : List (List Int × Int)} (h : H a = some (.dT (rowD L))) (nd : (keys L).Nodup) : Sum H a L L := ⟨h, nd, Nat.le_refl _, fun _ => rfl, fun p hp => List.mem_map.mpr ⟨p, hp, rfl⟩⟩
theorem d_plus (B : Bt mg) (T : Top K mg "plus" splus ["first", "second"]) (Dwithout_zeros : Def P w K mg base "without_zeros" 1 ["counts"] spWz) : Def P w K mg base "plus" 2 ["first", "second"] spPlus := by
  refine mk_def T scplus (by rintro _ _ _ _ ⟨_, _, _, _, rfl, _⟩; rfl) fun f cdv A outer s H vs Q E hr h => ?_
  obtain ⟨a, b, L, M, rfl, ta, tb, hn, q⟩ := h
  refine ⟨_, (pss_cons (ps_lock (ps_setDcP (i := 2) fresh_T (hu0 hr) (own := [("key", 3)]) (g := (gName 3)) (tt := tYes) (tk := (tVar 3)) (tv := (tDGet (tVar 0) (tVar 3))) rfl scplus.nd rfl rfl (swD_true rfl rfl rfl (by decide +kernel)) (pi_keys (pv 0)) (blkOk_by (own := [("key", 3)]) (N := Nplus) (sc := defScope splus) (by decide +kernel)) (fun _ _ _ _ _ => (pg_name (i := 3) scplus.nd rfl (Or.inl rfl))) (fun _ _ _ _ _ => pts_nil) (fun _ _ _ _ _ => (pv 3)) (fun _ _ _ _ _ => (pe_dget (hu_of hr) (pv 0) (pv 3) (fun _ _ => rfl)))))
      (pss_cons (ps_lock (ps_for PassesOwn.never rfl (pi_keys (pv 1)) (pg_name (i := 3) scplus.nd rfl (Or.inl rfl)) (pss_one (ps_dput (hu_of hr) (pv 2) (pv 3) (pe_op op_add (pe_dget2 (hu_of hr) (pv 2) (pv 3) pe_int ⟨by rfl, by rfl, by rfl, by rfl⟩) (pe_dget (hu_of hr) (pv 1) (pv 3) (fun _ _ => rfl))) rfl))))
      (pss_one (ps_ret (pe_def Dwithout_zeros (hr.mono (by first | decide | omega)) (by rfl) (pa_cons (pv 2) pa_nil)))))), ?_⟩
  refine ⟨a, _, ta.at', True.intro, fun od => ?_⟩
  have hz : L2.upd H a (.frz od (.dT (rowD L))) a = some (.frz od (.dT (rowD L))) := upd_same
  refine ⟨.ref a, rfl, a, od, rfl, .inr ⟨_, hz, fun D hD => ?_⟩⟩
  have nDa : D ≠ a := (ne_of_none hz hD).symm
  refine dc_rows hz ta.nd (by have := ta.len; omega) hD (fun _ => true) (fun p => p.2) (fun p r H2 Q2 R hp e hr' k1 k2 => ?_) (fun H' e eD => ?_)
  · have hg : DGet H2 a (.ref r) (some (.int p.2)) := by
      rw [← cnt_in ta.nd hp]
      exact dget_row_in (.inr ⟨od, e _ _ hz⟩) ta.nd hr' (List.mem_map.mpr ⟨p, hp, rfl⟩)
    refine ⟨rfl, ?_⟩
    show if true = true then _ else R H2
    exact iteT ⟨.ref r, rfl, .ref a, rfl, .ref r, rfl, a, _, rfl, hg, k1 rfl _ (Same.refl _)⟩
  · rw [map_self, filter_true] at eD
    have hDn : H D = none := (show L2.upd H a _ D = none from hD) ▸ (upd_ne nDa).symm
    have e2 := same_unlock ta.at' e
    have eD2 : L2.upd H' a (.dT (rowD L)) D = some (.dT (rowD L)) := by
      rw [upd_ne nDa]
      exact eD
    refine ⟨e _ _ hz, ?_⟩
    generalize L2.upd H' a (.dT (rowD L)) = H3 at e2 eD2 ⊢
    have nbD : b ≠ D := ne_of_none tb.at' hDn
    have hb3 : H3 b = some (.dT (rowD M)) := e2 _ _ tb.at'
    refine ⟨b, _, hb3, True.intro, fun od2 => ?_⟩
    have hz2 : L2.upd H3 b (.frz od2 (.dT (rowD M))) b = some (.frz od2 (.dT (rowD M))) := upd_same
    have hD3 : L2.upd H3 b (.frz od2 (.dT (rowD M))) D = some (.dT (rowD L)) := by
      rw [upd_ne nbD.symm]
      exact eD2
    refine ⟨.ref b, rfl, b, od2, rfl, .inr ⟨_, hz2, ?_⟩⟩
    have lk : Same (L2.upd H3 b (.frz od2 (.dT (rowD M)))) (L2.upd H3 b (.frz od2 (.dT (rowD M)))) := Same.refl _
    refine for_it (walk_keysT (kvs := rowD M)) (fun i σ H' => ∃ y3 T, σ = [some (.ref a), some (.ref b), some (.ref D), y3] ∧ SameB D (L2.upd H3 b (.frz od2 (.dT (rowD M)))) H' ∧ Sum H' D T (L ++ M.take i)) ⟨none, L, rfl, SameB.refl _ _, by rw [List.take_zero, List.append_nil]; exact sum_self hD3 ta.nd⟩ (fun i σ H' _ pv' => ?_) (fun i x σ H' H'' hi pv' y => ?_) (fun σ H' pv' => ?_)
    · obtain ⟨_, _, _, e, _⟩ := pv'
      exact e _ _ nbD hz2
    · obtain ⟨y3, T, rfl, e, S⟩ := pv'
      obtain ⟨rfl, k, v, r, hk, rfl, hq⟩ := y
      obtain ⟨p, hp, hr'⟩ := key_row hk hq
      have hg : DGet H'' b (.ref r) (some (.int p.2)) := by
        rw [← cnt_in tb.nd (List.mem_of_getElem? hp)]
        exact dget_row_in (.inr ⟨od2, e _ _ nbD hz2⟩) tb.nd hr' (List.mem_map.mpr ⟨p, List.mem_of_getElem? hp, rfl⟩)
      obtain ⟨o, ho, eo⟩ := dget_row (.inl S.at') S.nd hr'
      have lt : T.length < sizeLine := by
        refine Nat.lt_of_le_of_lt S.len (Nat.lt_of_le_of_lt (?_ : _ ≤ 5000) (by decide))
        rw [List.length_append]
        have := (List.take_sublist i M).length_le
        omega
      refine ⟨.ref D, rfl, D, rfl, .inr ⟨_, .inl S.at'⟩, .ref r, rfl, o, ho, .ref b, rfl, .ref r, rfl, b, _, rfl, hg, _, _, eo, rfl, .ref D, rfl, .ref r, rfl, D, _, rfl, dput_row S.at' hr' lt, some (.ref r), Tl.put T p.1 (Tl.cnt T p.1 + p.2), rfl, e.trans SameB.upd, ?_⟩
      rw [List.take_add_one, hp, Option.toList_some, ← List.append_assoc]
      exact S.put p
    · obtain ⟨y3, T, rfl, e, S⟩ := pv'
      have eM : M.take (rowD M).length = M := by rw [List.take_of_length_le]; simp
      rw [eM] at S
      have lT : T.length ≤ 5000 := Nat.le_trans S.len (by rw [List.length_append]; exact hn)
      refine ⟨e _ _ nbD hz2, .ref D, rfl, D, T, rfl, ⟨?_, S.nd, lT⟩, fun H5 c s5 hc tc => ?_⟩
      · rw [upd_ne nbD.symm]
        exact S.at'
      have sm : Same H H5 := fun t u ht => by
        refine s5 _ _ ?_
        have h3 := e2 _ _ ht
        by_cases z : t = b
        · rw [z, upd_same, ← hb3, ← z, h3]
        · rw [upd_ne z]
          refine e _ _ (fun z2 => ?_) (by rw [upd_ne z]; exact h3)
          rw [z2, hDn] at ht
          cases ht
      refine q H5 c _ sm ?_ tc (fin_nz S.nd) (fun k => by rw [cnt_nz, S.sum, Tl.cnt_append]) fun p hp => ?_
      · cases z : H c with
        | none => rfl
        | some u =>
          have h' : L2.upd H' b (.dT (rowD M)) c ≠ none := by
            by_cases zc : c = b
            · rw [zc, upd_same]
              exact fun z => nomatch z
            · rw [upd_ne zc, e _ _ (fun z2 => by rw [z2, hDn] at z; cases z) (by rw [upd_ne zc]; exact e2 _ _ z)]
              exact fun z => nomatch z
          exact absurd hc h'
      · have := nz_in S.inn p hp
        unfold keys at this
        rw [List.map_append] at this
        exact List.mem_append.mp this
end
end K18

namespace K18
open PySem PySem.Spec PyProof.Rows L2 RW9 Tl
/-! ### bags -/
def baF (c : Addr) : List (Str × V) := putF "_counts" (.ref c) []
theorem baF_c (c : Addr) : (baF c).lookup ("_counts" : Str) = some (.ref c) := by
  unfold baF
  rw [lookup_putF, if_pos rfl]
theorem baF_over (c d : Addr) : putF "_counts" (.ref d) (baF c) = baF d := by rfl
/-- the class as the top has made it -/
structure TxB (K : PySem.W.Frag) (C : Addr) : Prop where
  cl : Cls K C
  nC : NoAttr K C "_counts"
structure BagR (K : PySem.W.Frag) (C : Addr) (H : Hp) (p dx c : Addr) (L : List (List Int × Int)) : Prop where
  ins : H p = some (.ins C dx (baF c))
  tal : TalAt H c L
  fin : Fin L
/-- a bag of the tally L stands at v -/
def BagAt (K : PySem.W.Frag) (C : Addr) (H : Hp) (v : V) (L : List (List Int × Int)) : Prop := ∃ p dx c, v = .ref p ∧ BagR K C H p dx c L
theorem TalAt.same {H H' : Hp} {a : Addr} {L : List (List Int × Int)} (t : TalAt H a L) (e : Same H H') : TalAt H' a L := ⟨e _ _ t.at', t.nd, t.len⟩
theorem BagAt.same {K : PySem.W.Frag} {C : Addr} {H H' : Hp} {v : V} {L : List (List Int × Int)} (h : BagAt K C H v L) (e : Same H H') : BagAt K C H' v L := by
  obtain ⟨p, dx, c, rfl, r⟩ := h
  exact ⟨p, dx, c, rfl, e _ _ r.ins, r.tal.same e, r.fin⟩
section
variable {P : Program} {w : World} {K : PySem.W.Frag} {mg : Str → Option Value} {base : Heap} {C : Addr}
def spIsNumber : Sp := fun vs H Q _ => ∃ i : Int, vs = [.int i] ∧ ∀ H', Same H H' → Q (.bl true) H'
theorem d_is_number (B : Bt mg) (T : Top K mg "is_number" sis_number ["value"]) : Def P w K mg base "is_number" 1 ["value"] spIsNumber := by
  refine mk_def T scis_number (by rintro _ _ _ _ ⟨i, rfl, _⟩; rfl) fun f cdv A outer s H vs Q E hr h => ?_
  obtain ⟨i, rfl, q⟩ := h
  refine ⟨_, (pss_one (ps_ret (pe_and (pe_callB call_isi (by rfl) B.m_isinstance (by decide +kernel) (pa_cons (pv 0) (pa_cons (pe_bltn (v := .ty "int") (by rfl) B.m_int (by decide +kernel) rfl) pa_nil))) (pe_one (pe_not (pe_callB call_isi (by rfl) B.m_isinstance (by decide +kernel) (pa_cons (pv 0) (pa_cons (pe_bltn (v := .ty "bool") (by rfl) B.m_bool (by decide +kernel) rfl) pa_nil)))))))), ?_⟩
  refine ⟨.int i, rfl, _, _, .type "int", .type "int", true, rfl, .ty _, .base (.int i), kit_ty (by decide +kernel), _, rfl, ?_⟩
  refine ⟨.int i, rfl, _, _, .type "int", .type "bool", false, rfl, .ty _, .base (.int i), kit_ty (by decide +kernel), _, rfl, ?_⟩
  exact q H (Same.refl _)
def spIsRow : Sp := fun vs H Q _ => ∃ (a : Addr) (r : List Int), vs = [.ref a] ∧ RowAt H a r ∧ r.length ≤ 100 ∧ ∀ H', Same H H' → Q (.bl true) H'
theorem d_is_row (B : Bt mg) (T : Top K mg "is_row" sis_row ["value"]) (Dis_number : Def P w K mg base "is_number" 1 ["value"] spIsNumber) : Def P w K mg base "is_row" 2 ["value"] spIsRow := by
  refine mk_def T scis_row (by rintro _ _ _ _ ⟨_, _, rfl, _⟩; rfl) fun f cdv A outer s H vs Q E hr h => ?_
  obtain ⟨a, r, rfl, ha, hl, q⟩ := h
  refine ⟨_, (pss_one (ps_ret (pe_and (pe_callB call_isi (by rfl) B.m_isinstance (by decide +kernel) (pa_cons (pv 0) (pa_cons (pe_bltn (v := .ty "tuple") (by rfl) B.m_tuple (by decide +kernel) rfl) pa_nil))) (pe_one (pe_callB (cr_all rfl) (by rfl) B.m_all (by decide +kernel) (pa_cons (pe_lc (own := [("column", 1)]) (g := (gName 1)) (tt := tYes) (te := (tCall spIsNumber [] E0 (tCons (tVar 1) tNil))) rfl scis_row.nd (pi_tup (pv 0)) (blkOk_by (own := [("column", 1)]) (N := Nis_row) (sc := defScope sis_row) (by decide +kernel)) (fun _ _ _ _ _ => (pg_name (i := 1) scis_row.nd rfl (Or.inl rfl))) (fun _ _ _ _ _ => pts_nil) (fun _ _ _ _ _ => (pe_def Dis_number (hr.mono (by first | decide | omega)) (by rfl) (pa_cons (pv 1) pa_nil)))) pa_nil)))))), ?_⟩
  refine ⟨.ref a, rfl, _, _, .type "tuple", .type "tuple", true, rfl, .ty _, .base (.tup ha), kit_ty (by decide +kernel), _, rfl, ?_⟩
  refine ⟨.ref a, rfl, a, rfl, ⟨_, SqT.of ha⟩, fun D hD => ?_⟩
  have n0 : (r.map V.int).length = r.length := by simp
  refine lc_val (walk_tup (K := K)) hD (by omega) (fun H2 e => e.seqT (SqT.of ha)) (List.replicate r.length (V.bl true)) (by simp) (fun j y H2 H3 Q' hj e1 y1 k => ?_) (fun H2 e1 eD => ?_)
  · obtain ⟨rfl, hy⟩ := y1
    rw [List.getElem?_map] at hy
    obtain ⟨c, hc, rfl⟩ := Option.map_eq_some_iff.mp hy
    refine ⟨rfl, .int c, rfl, c, rfl, fun H4 e4 => k _ _ e4 ?_⟩
    rw [n0] at hj
    simp [hj]
  · refine ⟨D, List.replicate r.length true, rfl, SqL.of (by rw [eD, List.map_replicate]), ?_⟩
    rw [show (List.replicate r.length true).all id = true by simp]
    exact q H2 e1
def spCheck : Sp := fun vs H Q _ => ∃ (a : Addr) (r : List Int) (i : Int), vs = [.ref a, .int i] ∧ RowAt H a r ∧ r.length ≤ 100 ∧ ∀ H', Same H H' → Q .non H'
theorem d_check_counted (B : Bt mg) (T : Top K mg "check_counted" scheck_counted ["row", "count"]) (Dis_number : Def P w K mg base "is_number" 1 ["value"] spIsNumber) (Dis_row : Def P w K mg base "is_row" 2 ["value"] spIsRow) : Def P w K mg base "check_counted" 3 ["row", "count"] spCheck := by
  refine mk_def T sccheck_counted (by rintro _ _ _ _ ⟨_, _, _, rfl, _⟩; rfl) fun f cdv A outer s H vs Q E hr h => ?_
  obtain ⟨a, r, i, rfl, ha, hl, q⟩ := h
  refine ⟨_, (pss_cons (ps_if (pt_not (pt_val (pe_def Dis_row (hr.mono (by first | decide | omega)) (by rfl) (pa_cons (pv 0) pa_nil)))) (pss_one ps_never) pss_nil)
      (pss_one (ps_if (pt_not (pt_val (pe_def Dis_number (hr.mono (by first | decide | omega)) (by rfl) (pa_cons (pv 1) pa_nil)))) (pss_one ps_never) pss_nil))), ?_⟩
  exact ⟨.ref a, rfl, a, r, rfl, ha, hl, fun H1 s1 => ⟨true, rfl, iteF ⟨.int i, rfl, i, rfl, fun H2 s2 => ⟨true, rfl, iteF (q H2 (s1.trans s2))⟩⟩⟩⟩
/-- a list of pairs -/
def PairsAt (H : Hp) (a : Addr) (ps : List (List Int × Int)) : Prop := ∃ acc, H a = some (.lst acc) ∧ Paired (PairAt H) acc ps
def spInit (K : PySem.W.Frag) (C : Addr) : Sp := fun vs H Q _ => ∃ (p dx : Addr) (a : Addr) (ps : List (List Int × Int)), vs = [.ref p, .ref a] ∧ H p = some (.ins C dx []) ∧ (PairsAt H a ps ∨ (EmptyT K a ∧ ps = [])) ∧ ps.length ≤ 5000 ∧ (∀ q ∈ ps, q.1.length ≤ 100) ∧
  ∀ H' c T, SameB p H H' → H c = none → BagR K C H' p dx c T → (∀ k, Tl.cnt T k = Tl.cnt ps k) → (∀ q ∈ T, q.1 ∈ keys ps) → Q .non H'
theorem d_Bag_init (B : Bt mg) (X : TxB K C) (T : TopI K C "Bag.__init__" sBag___init__ ["self", "pairs"]) (hm : PySem.W.makesIn K C = true) (hk : PySem.W.keepIn K (.ref C) = true) (hg : mg "Bag" = some (.ref C))
    (Dcheck_counted : Def P w K mg base "check_counted" 3 ["row", "count"] spCheck) (Dtally_of : Def P w K mg base "tally_of" 2 ["pairs"] (spTally K)) : MakeI P w K mg base C "Bag" 4 ["self", "pairs"] (spInit K C) := by
  refine mk_init T scBag___init__ (by rintro _ _ _ _ ⟨_, _, _, _, rfl, _⟩; rfl) hm hk hg fun f cdv A outer s H vs Q E hr h => ?_
  obtain ⟨p, dx, a, ps, rfl, h1, hps, hn, hw, q⟩ := h
  -- the end, either way
  have fin : ∀ (M : Addr) (H' : Hp) (acc : List V) (y3 y4 : Option V), H M = none → SameB M H H' → H' M = some (.lst acc) → Paired (PairAt H') acc ps →
      sFld K (tVar 0) (tCall (spTally K) [] E0 (tCons (tVar 2) tNil)) "_counts" { nx := fun _ H' => Q .non H', rt := Q } [some (.ref p), some (.ref a), some (.ref M), y3, y4] H' := by
    intro M H' acc y3 y4 hM e eM hx
    have npM : p ≠ M := ne_of_none h1 hM
    refine ⟨_, rfl, M, acc, ps, rfl, eM, hx, hn, fun H2 b T s2 nb tb fb cb kb => ?_⟩
    have ep : H2 p = some (.ins C dx []) := s2 _ _ (e _ _ npM h1)
    refine ⟨_, rfl, p, C, dx, [], rfl, ep, X.cl, X.nC, by decide, ?_⟩
    have nbp : b ≠ p := fun z => by
      rw [z, e _ _ npM h1] at nb
      cases nb
    refine q _ b T (fun t u n ht => ?_) ?_ ⟨upd_same, ⟨by rw [upd_ne nbp]; exact tb.at', tb.nd, tb.len⟩, fb⟩ cb kb
    · rw [upd_ne n]
      exact s2 _ _ (e _ _ (fun z => by rw [z, hM] at ht; cases ht) ht)
    · cases z : H b with
      | none => rfl
      | some u =>
        by_cases zM : b = M
        · rw [zM, eM] at nb
          cases nb
        · rw [e _ _ zM z] at nb
          cases nb
  rcases hps with ⟨acc, ha, hx⟩ | ⟨ht, rfl⟩
  · refine ⟨_, (pss_cons (ps_set (i := 2) scBag___init__.nd rfl (Or.inl rfl) (pe_lst pa_nil))
      (pss_cons (ps_for PassesOwn.never rfl (pi_list (pv 1)) (pg_tup rfl (pgs_cons (pg_name (i := 3) scBag___init__.nd rfl (Or.inl rfl)) (pgs_cons (pg_name (i := 4) scBag___init__.nd rfl (Or.inl rfl)) pgs_nil))) (pss_cons (ps_expr (pe_def Dcheck_counted (hr.mono (by first | decide | omega)) (by rfl) (pa_cons (pv 3) (pa_cons (pv 4) pa_nil))))
      (pss_one (ps_expr (pe_bm PySem.F.plainAttrs_list PySem.F.slot_list_append PySem.F.type_list_append mt_append (pv 2) (pa_cons (pe_tup (pa_cons (pv 3) (pa_cons (pv 4) pa_nil))) pa_nil))))))
      (pss_one (ps_fld (pv 0) (pe_def Dtally_of (hr.mono (by first | decide | omega)) (by rfl) (pa_cons (pv 2) pa_nil)) rfl)))), ?_⟩
    refine ⟨by show 0 ≤ sizeLine; decide, fun M hM => ?_⟩
    have naM : a ≠ M := ne_of_none ha hM
    have ha1 : L2.upd H M (.lst []) a = some (.lst acc) := by rw [upd_ne naM]; exact ha
    refine ⟨.ref a, rfl, a, rfl, ⟨_, SqL.of ha1⟩, ?_⟩
    have hl : acc.length = ps.length := Paired.length hx
    refine for_list (xs := acc) (fun i σ H' => ∃ y3 y4 acc2, σ = [some (.ref p), some (.ref a), some (.ref M), y3, y4] ∧ SameB M H H' ∧ H' M = some (.lst acc2) ∧ Paired (PairAt H') acc2 (ps.take i)) ⟨none, none, [], rfl, Same.b (same_upd hM), upd_same, .nil⟩ (fun i σ H' _ pv' => ?_) (fun i x σ H' hxi pv' => ?_) (fun σ H' pv' => ?_)
    · obtain ⟨_, _, _, _, e, _⟩ := pv'
      exact SqL.of (e _ _ naM ha)
    · obtain ⟨y3, y4, acc2, rfl, e, eM, hx2⟩ := pv'
      obtain ⟨r, hr', hrx⟩ := DX.pget (flipP hx) hxi
      have st : ∀ t us, H t = some (.tup us) → H' t = some (.tup us) := fun t us ht => e _ _ (fun z => by rw [z, hM] at ht; cases ht) ht
      obtain ⟨t, b, rfl, ht, hb⟩ := hrx.st st
      refine ⟨t, _, rfl, SqT.of ht, rfl, _, _, rfl, _, _, rfl, rfl, ?_⟩
      refine ⟨.ref b, rfl, .int r.2, rfl, b, r.1, r.2, rfl, hb, hw r (List.mem_of_getElem? hr'), fun H1 s1 => ?_⟩
      have eM1 := s1 _ _ eM
      refine ⟨.ref M, rfl, .inl ⟨rfl, _, SqL.of eM1⟩, .ref b, rfl, .int r.2, rfl, by show 2 ≤ sizeLine; decide, fun g hg => ?_⟩
      have nMg : M ≠ g := ne_of_none eM1 hg
      have eM2 : L2.upd H1 g (.tup [.ref b, .int r.2]) M = some (.lst acc2) := by rw [upd_ne nMg]; exact eM1
      have l2 : acc2.length < sizeLine := by
        rw [Paired.length hx2]
        refine Nat.lt_of_le_of_lt (Nat.le_trans (List.take_sublist _ _).length_le hn) (by decide)
      have st2 : ∀ t us, H' t = some (.tup us) → L2.upd (L2.upd H1 g (.tup [.ref b, .int r.2])) M (.lst (acc2 ++ [.ref g])) t = some (.tup us) := fun t us ht => by
        have h1 := s1 _ _ ht
        rw [upd_ne (ne_of h1 eM1 (fun z => nomatch z)), upd_ne (ne_of_none h1 hg)]
        exact h1
      refine ⟨M, _, _, rfl, rfl, eM2, l2, _, _, acc2 ++ [.ref g], rfl, ((e.trans s1.b).trans (Same.b (same_upd hg))).mut hM, upd_same, ?_⟩
      rw [List.take_add_one, hr', Option.toList_some]
      refine Paired.snoc (Paired.mapP hx2 fun v r h => h.st st2) ⟨g, b, rfl, ?_, st2 _ _ hb⟩
      rw [upd_ne nMg.symm, upd_same]
    · obtain ⟨y3, y4, acc2, rfl, e, eM, hx2⟩ := pv'
      rw [hl, List.take_length] at hx2
      exact fin M H' acc2 y3 y4 hM e eM hx2
  · refine ⟨_, (pss_cons (ps_set (i := 2) scBag___init__.nd rfl (Or.inl rfl) (pe_lst pa_nil))
      (pss_cons (ps_for PassesOwn.never rfl (pi_tup (pv 1)) (pg_tup rfl (pgs_cons (pg_name (i := 3) scBag___init__.nd rfl (Or.inl rfl)) (pgs_cons (pg_name (i := 4) scBag___init__.nd rfl (Or.inl rfl)) pgs_nil))) (pss_cons (ps_expr (pe_def Dcheck_counted (hr.mono (by first | decide | omega)) (by rfl) (pa_cons (pv 3) (pa_cons (pv 4) pa_nil))))
      (pss_one (ps_expr (pe_bm PySem.F.plainAttrs_list PySem.F.slot_list_append PySem.F.type_list_append mt_append (pv 2) (pa_cons (pe_tup (pa_cons (pv 3) (pa_cons (pv 4) pa_nil))) pa_nil))))))
      (pss_one (ps_fld (pv 0) (pe_def Dtally_of (hr.mono (by first | decide | omega)) (by rfl) (pa_cons (pv 2) pa_nil)) rfl)))), ?_⟩
    refine ⟨by show 0 ≤ sizeLine; decide, fun M hM => ?_⟩
    refine ⟨.ref a, rfl, a, rfl, ⟨_, ht.seq _⟩, ?_⟩
    refine for_tup (xs := []) (fun i σ H' => σ = [some (.ref p), some (.ref a), some (.ref M), none, none] ∧ H' = L2.upd H M (.lst [])) ⟨rfl, rfl⟩ (fun i σ H' _ pv' => ht.seq _) (fun i x σ H' hxi pv' => nomatch hxi) (fun σ H' pv' => ?_)
    obtain ⟨rfl, rfl⟩ := pv'
    exact fin M _ [] none none hM (Same.b (same_upd hM)) upd_same .nil
end
end K18

namespace K18
open PySem PySem.Spec PyProof.Rows L2 RW9 Tl
section
variable {P : Program} {w : World} {K : PySem.W.Frag} {mg : Str → Option Value} {base : Heap} {C : Addr}
def spBagOf (K : PySem.W.Frag) (C : Addr) : Sp := fun vs H Q _ => ∃ (c : Addr) (L : List (List Int × Int)), vs = [.ref c] ∧ TalAt H c L ∧ Fin L ∧ ∀ H' p dx, Same H H' → H p = none → BagR K C H' p dx c L → Q (.ref p) H'
theorem d_bag_of_tally (B : Bt mg) (X : TxB K C) (T : Top K mg "bag_of_tally" sbag_of_tally ["counts"]) (MkBag : MakeI P w K mg base C "Bag" 4 ["self", "pairs"] (spInit K C)) : Def P w K mg base "bag_of_tally" 6 ["counts"] (spBagOf K C) := by
  refine mk_def T scbag_of_tally (by rintro _ _ _ _ ⟨_, _, rfl, _⟩; rfl) fun f cdv A outer s H vs Q E hr h => ?_
  obtain ⟨c, L, rfl, t, fl, q⟩ := h
  refine ⟨_, (pss_cons (ps_set (i := 1) scbag_of_tally.nd rfl (Or.inl rfl) (pe_makeI0 MkBag (hr.mono (by first | decide | omega)) (by rfl)))
      (pss_cons (ps_fld (pv 1) (pv 0) rfl)
      (pss_one (ps_ret (pv 1))))), ?_⟩
  refine fun e0 he x dx hx hdx hne => ?_
  have ncx : c ≠ x := ne_of_none t.at' hx
  have ncd : c ≠ dx := ne_of_none t.at' hdx
  refine ⟨x, dx, e0, [], rfl, upd_same, .inr ⟨he, rfl⟩, Nat.zero_le _, (fun q hq => absurd hq (by simp)), fun H1 c1 T1 e1 n1 r1 _ _ => ⟨rfl, ?_⟩⟩
  have s1 : Same H H1 := fun b o ho => by
    refine e1 _ _ (ne_of_none ho hx) ?_
    rw [upd_ne (ne_of_none ho hx), upd_ne (ne_of_none ho hdx)]
    exact ho
  refine ⟨.ref c, rfl, .ref x, rfl, x, C, dx, _, rfl, r1.ins, X.cl, X.nC, by show 1 < 1000; decide, ?_⟩
  refine ⟨.ref x, rfl, q _ x dx (s1.mut hx) hx ⟨?_, ⟨?_, t.nd, t.len⟩, fl⟩⟩
  · rw [baF_over]
    exact upd_same
  · rw [upd_ne ncx]
    exact s1 _ _ t.at'
def spTallyIn (K : PySem.W.Frag) (C : Addr) : Sp := fun vs H Q _ => ∃ (p dx c : Addr) (L : List (List Int × Int)), vs = [.ref p] ∧ BagR K C H p dx c L ∧ ∀ H' b, Same H H' → H b = none → TalAt H' b L → Q (.ref b) H'
theorem d_tally_in (B : Bt mg) (X : TxB K C) (T : Top K mg "tally_in" stally_in ["bag"]) : Def P w K mg base "tally_in" 1 ["bag"] (spTallyIn K C) := by
  refine mk_def T sctally_in (by rintro _ _ _ _ ⟨_, _, _, _, rfl, _⟩; rfl) fun f cdv A outer s H vs Q E hr h => ?_
  obtain ⟨p, dx, c, L, rfl, r, q⟩ := h
  have t := r.tal
  refine ⟨_, (pss_one (ps_ret (pe_lock (pe_dcP fresh_T (hu0 hr) (own := [("row", 1)]) (g := (gName 1)) (tt := tYes) (tk := (tVar 1)) (tv := (tDGet (tFld K (tVar 0) "_counts") (tVar 1))) rfl sctally_in.nd (pi_keys (pe_fld (pv 0) rfl)) (blkOk_by (own := [("row", 1)]) (N := Ntally_in) (sc := defScope stally_in) (by decide +kernel)) (fun _ _ _ _ _ => (pg_name (i := 1) sctally_in.nd rfl (Or.inl rfl))) (fun _ _ _ _ _ => pts_nil) (fun _ _ _ _ _ => (pv 1)) (fun _ _ _ _ _ => (pe_dget (hu_of hr) (pe_fld (pv 0) rfl) (pv 1) (fun _ _ => rfl))))))), ?_⟩
  refine ⟨c, _, t.at', True.intro, fun od => ?_⟩
  have npc : p ≠ c := ne_of r.ins t.at' (fun z => nomatch z)
  have hz : L2.upd H c (.frz od (.dT (rowD L))) c = some (.frz od (.dT (rowD L))) := upd_same
  have hp : L2.upd H c (.frz od (.dT (rowD L))) p = some (.ins C dx (baF c)) := by rw [upd_ne npc]; exact r.ins
  refine ⟨.ref p, rfl, p, C, dx, _, _, rfl, hp, X.cl, X.nC, baF_c c, c, od, rfl, .inr ⟨_, hz, fun D hD => ?_⟩⟩
  have nDc : D ≠ c := (ne_of_none hz hD).symm
  refine dc_rows hz t.nd (by have := t.len; omega) hD (fun _ => true) (fun p => p.2) (fun p' r' H2 Q2 R hp' e hr' k1 k2 => ?_) (fun H' e eD => ?_)
  · have hg : DGet H2 c (.ref r') (some (.int p'.2)) := by
      rw [← cnt_in t.nd hp']
      exact dget_row_in (.inr ⟨od, e _ _ hz⟩) t.nd hr' (List.mem_map.mpr ⟨p', hp', rfl⟩)
    refine ⟨rfl, ?_⟩
    show if true = true then _ else R H2
    exact iteT ⟨.ref r', rfl, .ref p, rfl, p, C, dx, _, _, rfl, e _ _ hp, X.cl, X.nC, baF_c c, .ref r', rfl, c, _, rfl, hg, k1 rfl _ (Same.refl _)⟩
  · rw [map_self, filter_true] at eD
    have hDn : H D = none := (show L2.upd H c _ D = none from hD) ▸ (upd_ne nDc).symm
    refine ⟨e _ _ hz, q _ D (same_unlock t.at' e) hDn ⟨?_, t.nd, t.len⟩⟩
    rw [upd_ne nDc]
    exact eD
/-- the sorted list of a tally's pairs -/
def SortL (M : List (List Int × Int)) : Prop := M.Pairwise fun p q => ltR q.1 p.1 = false
def spPairs (K : PySem.W.Frag) (C : Addr) : Sp := fun vs H Q _ => ∃ (p dx c : Addr) (L : List (List Int × Int)), vs = [.ref p] ∧ BagR K C H p dx c L ∧ ∀ H' l M, Same H H' → PairsAt H' l M → M.Perm L → SortL M → Q (.ref l) H'
theorem d_Bag_pairs (B : Bt mg) (X : TxB K C) (T : TopM K C "pairs" "Bag.pairs" sBag_pairs ["self"]) : MethD P w K mg base C "pairs" 1 ["self"] (spPairs K C) := by
  refine mk_meth T scBag_pairs (by rintro _ _ _ _ ⟨_, _, _, _, rfl, _⟩; rfl) fun f cdv A outer s H vs Q E hr h => ?_
  obtain ⟨p, dx, c, L, rfl, r, q⟩ := h
  refine ⟨_, (pss_one (ps_ret (pe_callB (cr_sortedItemsR rfl (hu8 hr)) (by rfl) B.m_sorted (by decide +kernel) (pa_cons (pe_bm0 PySem.F.plainAttrs_dict PySem.F.slot_dict_items PySem.F.type_dict_items DX.mt_itemsT (pe_fld (pv 0) rfl)) pa_nil)))), ?_⟩
  have t := r.tal
  refine ⟨.ref p, rfl, p, C, dx, _, _, rfl, r.ins, X.cl, X.nC, baF_c c, ?_⟩
  refine ⟨.inr (.inr (.inl ⟨rfl, .inr ⟨_, t.at'⟩⟩)), c, _, rfl, rfl, t.at', fun v hv => ?_⟩
  have ncv : c ≠ v := ne_of_none t.at' hv
  refine ⟨v, c, L, rfl, upd_same, by rw [upd_ne ncv]; exact t.at', fun H' l ts M s1 nl pm nd so el pr => ?_⟩
  refine q H' l M ((same_upd hv).trans s1) ⟨_, el, ?_⟩ pm so
  have z : ∀ {ts : List Addr} {M : List (List Int × Int)}, Paired (ItemAt H') ts M → Paired (PairAt H') (ts.map V.ref) M := by
    intro ts M h
    induction h with
    | nil => exact .nil
    | cons h _ ih =>
      obtain ⟨b, h1, h2⟩ := h
      exact .cons ⟨_, b, rfl, h1, h2⟩ ih
  exact z pr
def EqR (K : PySem.W.Frag) (C : Addr) (a b : Addr) (H : Hp) : Prop := ∃ dx c dx' c' L M, BagR K C H a dx c L ∧ BagR K C H b dx' c' M ∧ L.Perm M
theorem d_Bag_eq (B : Bt mg) (X : TxB K C) (TI : TxI K C) (mC : mg "Bag" = some (.ref C)) (T : TopM K C "__eq__" "Bag.__eq__" sBag___eq__ ["self", "other"]) : MethD P w K mg base C "__eq__" 1 ["self", "other"] (L2.spEq (EqR K C)) := by
  refine mk_meth T scBag___eq__ (by rintro _ _ _ _ ⟨_, _, rfl, _⟩; rfl) fun f cdv A outer s H vs Q E hr h => ?_
  obtain ⟨p, p', rfl, ⟨dx, c, dx', c', L, M, r, r', pm⟩, q⟩ := h
  refine ⟨_, (pss_one (ps_ret (pe_and (pe_callB call_isi (by rfl) B.m_isinstance (by decide +kernel) (pa_cons (pv 1) (pa_cons (pe_glob (v := .ref C) (by rfl) mC rfl) pa_nil))) (pe_one (pe_cmpR (op_eq_row (hu_of hr)) (pe_fld (pv 0) rfl) (pe_fld (pv 1) rfl) (nomark _)))))), ?_⟩
  refine ⟨.ref p', rfl, _, _, .ref C, .ref C, true, rfl, .own _, .base (.ins r'.ins X.cl TI.ha TI.hn TI.htk TI.hm), kit_self, _, rfl, ?_⟩
  refine ⟨.ref p, rfl, p, C, dx, _, _, rfl, r.ins, X.cl, X.nC, baF_c c, .ref p', rfl, p', C, dx', _, _, rfl, r'.ins, X.cl, X.nC, baF_c c', ?_⟩
  exact ⟨c, c', L, M, rfl, rfl, r.tal.at', r'.tal.at', pm, q _ (fun _ _ h => h)⟩
end
end K18

namespace K18
open PySem PySem.Spec PyProof.Rows L2
/-! ### terms -/
abbrev Tm := Int × List (Int × Int)
def prD (q : Int × Int) : PyData := .tuple [.int q.1, .int q.2]
def ptD (l : List (Int × Int)) : PyData := .tuple (l.map prD)
def tmD (t : Tm) : PyData := .tuple [.int t.1, ptD t.2]
def tsD (ts : List Tm) : PyData := .tuple (ts.map tmD)
theorem imm_pr (q : Int × Int) : imm (prD q) = true := rfl
theorem imm_prs (l : List (Int × Int)) : immAll (l.map prD) = true := immAll_of fun d hd => by
  obtain ⟨q, _, rfl⟩ := List.mem_map.mp hd
  rfl
theorem imm_pt (l : List (Int × Int)) : imm (ptD l) = true := imm_prs l
theorem imm_tm (t : Tm) : imm (tmD t) = true := by
  show (true && (imm (ptD t.2) && true)) = true
  rw [imm_pt]
  rfl
theorem imm_tms (ts : List Tm) : immAll (ts.map tmD) = true := immAll_of fun d hd => by
  obtain ⟨q, _, rfl⟩ := List.mem_map.mp hd
  exact imm_tm q
theorem da_pr {K : PySem.W.Frag} {H : Hp} {t : Addr} {a b : Int} (h : H t = some (.tup [.int a, .int b])) : Da K H (.ref t) (prD (a, b)) := .tup h (.cons (.int a) (.cons (.int b) .nil))
theorem da_tm {K : PySem.W.Frag} {H : Hp} {t : Addr} {v : V} {a : Int} {l : List (Int × Int)} (h : H t = some (.tup [.int a, v])) (hv : Da K H v (ptD l)) : Da K H (.ref t) (tmD (a, l)) := .tup h (.cons (.int a) (.cons hv .nil))
theorem iteY {c A B : Prop} [Decidable c] (hc : c) (h : A) : if decide c = true then A else B := by
  rw [decide_eq_true hc]
  exact iteT h
theorem iteN {c A B : Prop} [Decidable c] (hc : ¬ c) (h : B) : if decide c = true then A else B := by
  rw [decide_eq_false hc]
  exact iteF h
theorem strNe {x y : Str} (h : x ≠ y) : ¬ V.str x = V.str y := fun e => h (V.str.inj e)
/-! ### values -/
def valP (l : List (Int × Int)) (row : List Int) : Int := (l.map fun q => q.2 * row.getD q.1.toNat 0).sum
def valT (t : Tm) (row : List Int) : Int := t.1 + valP t.2 row
theorem valP_snoc (l : List (Int × Int)) (q : Int × Int) (row : List Int) : valP (l ++ [q]) row = valP l row + q.2 * row.getD q.1.toNat 0 := by
  simp [valP]
structure VOk (t : Tm) (row : List Int) : Prop where
  len : t.2.length ≤ 1000
  col : ∀ q ∈ t.2, 0 ≤ q.1 ∧ q.1 < row.length
  mul : ∀ q ∈ t.2, CMulW q.2 (row.getD q.1.toNat 0)
theorem Da.tmI {K : PySem.W.Frag} {H : Hp} {v : V} {t : Tm} (h : Da K H v (tmD t)) : ∃ a b, v = .ref a ∧ H a = some (.tup [.int t.1, .ref b]) ∧ Da K H (.ref b) (ptD t.2) := by
  cases h with
  | @tup a xs ds hs ha =>
    cases ha with
    | cons h1 h2 =>
      cases h2 with
      | cons h2 h3 =>
        cases h3
        cases h1
        cases h2 with
        | @tup b ys es hb hd => exact ⟨a, b, rfl, hs, .tup hb hd⟩
theorem Da.ptI {K : PySem.W.Frag} {H : Hp} {v : V} {l : List (Int × Int)} (h : Da K H v (ptD l)) : ∃ a xs, v = .ref a ∧ H a = some (.tup xs) ∧ DaAll K H xs (l.map prD) := by
  cases h with
  | @tup a xs ds hs ha => exact ⟨a, xs, rfl, hs, ha⟩
theorem Da.tsI {K : PySem.W.Frag} {H : Hp} {v : V} {l : List Tm} (h : Da K H v (tsD l)) : ∃ a xs, v = .ref a ∧ H a = some (.tup xs) ∧ DaAll K H xs (l.map tmD) := by
  cases h with
  | @tup a xs ds hs ha => exact ⟨a, xs, rfl, hs, ha⟩
theorem Da.prI {K : PySem.W.Frag} {H : Hp} {v : V} {q : Int × Int} (h : Da K H v (prD q)) : ∃ a, v = .ref a ∧ H a = some (.tup [.int q.1, .int q.2]) := by
  cases h with
  | @tup a xs ds hs ha =>
    cases ha with
    | cons h1 h2 =>
      cases h2 with
      | cons h2 h3 =>
        cases h3
        cases h1
        cases h2
        exact ⟨a, rfl, hs⟩
theorem at_map {α β : Type} {f : α → β} {l : List α} {i : Nat} {d : β} (h : (l.map f)[i]? = some d) : ∃ x, l[i]? = some x ∧ f x = d := by
  rw [List.getElem?_map] at h
  cases e : l[i]? with
  | none =>
    rw [e] at h
    cases h
  | some x =>
    rw [e] at h
    exact ⟨x, rfl, Option.some.inj h⟩
/-- the item of a row of ints at a column -/
theorem row_at {row : List Int} {i : Int} (h0 : 0 ≤ i) (h1 : i < row.length) : atI (row.map V.int) i = some (.int (row.getD i.toNat 0)) := by
  obtain ⟨j, rfl⟩ := Int.eq_ofNat_of_zero_le h0
  have hj : j < row.length := by omega
  refine atI_nat ?_
  rw [List.getElem?_map, List.getElem?_eq_getElem hj]
  simp [hj]
section
variable {P : Program} {w : World} {K : PySem.W.Frag} {mg : Str → Option Value} {base : Heap}
def spValue (K : PySem.W.Frag) : Sp := fun vs H Q _ => ∃ (u v : V) (t : Tm) (row : List Int), vs = [u, v] ∧ Da K H u (tmD t) ∧ Mo K H v row ∧ VOk t row ∧ ∀ H', Same H H' → Q (.int (valT t row)) H'
theorem d_value_of (B : Bt mg) (T : Top K mg "value_of" svalue_of ["term", "row"]) : Def P w K mg base "value_of" 1 ["term", "row"] (spValue K) := by
  refine mk_def T scvalue_of (by rintro _ _ _ _ ⟨_, _, _, _, rfl, _⟩; rfl) fun f cdv A outer s H vs Q E hr h => ?_
  obtain ⟨u, v, t, row, rfl, hu, hv, ok, q⟩ := h
  refine ⟨_, (pss_cons (ps_asg (pv 0) (pg_tup rfl (pgs_cons (pg_name (i := 2) scvalue_of.nd rfl (Or.inl rfl)) (pgs_cons (pg_name (i := 3) scvalue_of.nd rfl (Or.inl rfl)) pgs_nil))))
      (pss_one (ps_ret (pe_op op_add (pv 2) (pe_callB (cr_sum rfl) (by rfl) B.m_sum (by decide +kernel) (pa_cons (pe_lc (own := [("column", 4), ("factor", 5)]) (g := (gTup K 2 (gCons (gName 4) (gCons (gName 5) gNil)))) (tt := tYes) (te := (tOp yMulW (tVar 5) (tOp (rIxT K) (tVar 1) (tVar 4)))) rfl scvalue_of.nd (pi_tup (pv 3)) (blkOk_by (own := [("column", 4), ("factor", 5)]) (N := Nvalue_of) (sc := defScope svalue_of) (by decide +kernel)) (fun _ _ _ _ _ => (pg_tup rfl (pgs_cons (pg_name (i := 4) scvalue_of.nd rfl (Or.inl rfl)) (pgs_cons (pg_name (i := 5) scvalue_of.nd rfl (Or.inl rfl)) pgs_nil)))) (fun _ _ _ _ _ => pts_nil) (fun _ _ _ _ _ => (pe_op op_mulW (pv 5) (pe_ix ix_tup (pv 1) (pv 4) (fun _ _ => rfl))))) pa_nil)))))), ?_⟩
  obtain ⟨a, b, rfl, ha, hb⟩ := Da.tmI hu
  obtain ⟨c, rfl, hc⟩ := hv.trk
  obtain ⟨_, xs, e, hb, hx⟩ := Da.ptI hb
  cases e
  refine ⟨.ref a, rfl, a, _, rfl, SqT.of ha, rfl, _, _, rfl, _, _, rfl, rfl, ?_⟩
  refine ⟨.int t.1, rfl, .ref b, rfl, b, rfl, ⟨_, SqT.of hb⟩, fun D hD => ?_⟩
  have hl : xs.length = t.2.length := by rw [hx.length, List.length_map]
  refine lc_val (walk_tup (K := K)) hD (by have := ok.len; omega) (fun H1 e => e.seqT (SqT.of hb)) (t.2.map fun q => V.int (q.2 * row.getD q.1.toNat 0)) (by simp [hl]) (fun i x H1 H2 Q' hi e y k => ?_) (fun H1 e eD => ?_)
  · obtain ⟨rfl, hxi⟩ := y
    obtain ⟨d, hd, hdx⟩ := hx.get hxi
    obtain ⟨q0, hq0, rfl⟩ := at_map hd
    obtain ⟨r, rfl, hr0⟩ := Da.prI (Da.same e _ _ hdx)
    obtain ⟨c0, c1⟩ := ok.col q0 (List.mem_of_getElem? hq0)
    refine ⟨r, _, rfl, SqT.of hr0, rfl, _, _, rfl, _, _, rfl, rfl, rfl, .int q0.2, rfl, .ref c, rfl, .int q0.1, rfl, c, _, _, _, rfl, rfl, SqT.of (e _ _ hc), row_at c0 c1, _, _, rfl, rfl, ok.mul q0 (List.mem_of_getElem? hq0), k _ _ (Same.refl _) ?_⟩
    rw [List.getElem?_map, hq0]
    rfl
  · refine ⟨D, t.2.map fun q => q.2 * row.getD q.1.toNat 0, rfl, SqL.of (by rw [eD, List.map_map]; rfl), _, _, rfl, rfl, ?_⟩
    exact q H1 e
theorem d_law_value (B : Bt mg) (T : Top K mg "_law_value" s_law_value ["term", "row"]) : Def P w K mg base "_law_value" 1 ["term", "row"] (spValue K) := by
  refine mk_def T sc_law_value (by rintro _ _ _ _ ⟨_, _, _, _, rfl, _⟩; rfl) fun f cdv A outer s H vs Q E hr h => ?_
  obtain ⟨u, v, t, row, rfl, hu, hv, ok, q⟩ := h
  refine ⟨_, (pss_cons (ps_set (i := 2) sc_law_value.nd rfl (Or.inl rfl) (pe_ix ix_tup (pv 0) pe_int (fun _ _ => rfl)))
      (pss_cons (ps_for PassesOwn.never rfl (pi_tup (pe_ix ix_tup (pv 0) pe_int (fun _ _ => rfl))) (pg_name (i := 3) sc_law_value.nd rfl (Or.inl rfl)) (pss_one (ps_set (i := 2) sc_law_value.nd rfl (Or.inl rfl) (pe_op op_add (pv 2) (pe_op op_mulW (pe_ix ix_tup (pv 3) pe_int (fun _ _ => rfl)) (pe_ix ix_tup (pv 1) (pe_ix ix_tup (pv 3) pe_int (fun _ _ => rfl)) (fun _ _ => rfl)))))))
      (pss_one (ps_ret (pv 2))))), ?_⟩
  obtain ⟨a, b, rfl, ha, hb⟩ := Da.tmI hu
  obtain ⟨c, rfl, hc⟩ := hv.trk
  obtain ⟨_, xs, e, hb, hx⟩ := Da.ptI hb
  cases e
  have hl : xs.length = t.2.length := by rw [hx.length, List.length_map]
  refine ⟨.ref a, rfl, a, _, _, .int t.1, rfl, rfl, SqT.of ha, atI_nat (j := 0) rfl, ?_⟩
  refine ⟨.ref a, rfl, a, _, _, .ref b, rfl, rfl, SqT.of ha, atI_nat (j := 1) rfl, b, rfl, ⟨_, SqT.of hb⟩, ?_⟩
  refine for_tup (xs := xs) (fun i σ H' => ∃ y3, σ = [some (.ref a), some (.ref c), some (.int (t.1 + valP (t.2.take i) row)), y3] ∧ Same H H') ⟨none, by simp [valP]; rfl, Same.refl H⟩ (fun i σ H' _ pv' => ?_) (fun i x σ H' hxi pv' => ?_) (fun σ H' pv' => ?_)
  · obtain ⟨_, _, e⟩ := pv'
    exact e.seqT (SqT.of hb)
  · obtain ⟨y3, rfl, e⟩ := pv'
    obtain ⟨d, hd, hdx⟩ := hx.get hxi
    obtain ⟨q0, hq0, rfl⟩ := at_map hd
    obtain ⟨r, rfl, hr0⟩ := Da.prI (Da.same e _ _ hdx)
    obtain ⟨c0, c1⟩ := ok.col q0 (List.mem_of_getElem? hq0)
    refine ⟨_, rfl, .ref r, rfl, r, _, _, .int q0.2, rfl, rfl, SqT.of hr0, atI_nat (j := 1) rfl, .ref c, rfl, .ref r, rfl, r, _, _, .int q0.1, rfl, rfl, SqT.of hr0, atI_nat (j := 0) rfl, c, _, _, _, rfl, rfl, SqT.of (e _ _ hc), row_at c0 c1, _, _, rfl, rfl, ok.mul q0 (List.mem_of_getElem? hq0), _, _, rfl, rfl, some (.ref r), ?_, e⟩
    rw [List.take_add_one, hq0, Option.toList_some, valP_snoc, ← Int.add_assoc]
    rfl
  · obtain ⟨y3, rfl, e⟩ := pv'
    rw [hl, List.take_length]
    exact ⟨_, rfl, q H' e⟩
def opS : Nat → Str
  | 0 => "="
  | 1 => "!="
  | 2 => "<"
  | _ => "<="
def cmpO (a : Int) : Nat → Int → Bool
  | 0, b => decide (a = b)
  | 1, b => !decide (a = b)
  | 2, b => decide (a < b)
  | _, b => decide (a ≤ b)
def spCompares : Sp := fun vs H Q _ => ∃ (a b : Int) (k : Nat), vs = [.int a, .str (opS k), .int b] ∧ k < 4 ∧ Q (.bl (cmpO a k b)) H
theorem d_compares (B : Bt mg) (T : Top K mg "compares" scompares ["left", "op", "right"]) : Def P w K mg base "compares" 1 ["left", "op", "right"] spCompares := by
  refine mk_def T sccompares (by rintro _ _ _ _ ⟨_, _, _, rfl, _⟩; rfl) fun f cdv A outer s H vs Q E hr h => ?_
  obtain ⟨a, b, k, rfl, hk, q⟩ := h
  refine ⟨_, (pss_cons (ps_if (pt_cmpR op_eq (pv 1) pe_str (nomark _)) (pss_one (ps_ret (pe_cmpR op_eq (pv 0) (pv 2) (nomark _)))) pss_nil)
      (pss_cons (ps_if (pt_cmpR op_eq (pv 1) pe_str (nomark _)) (pss_one (ps_ret (pe_cmpR op_ne (pv 0) (pv 2) (nomark _)))) pss_nil)
      (pss_cons (ps_if (pt_cmpR op_eq (pv 1) pe_str (nomark _)) (pss_one (ps_ret (pe_cmpR op_lt (pv 0) (pv 2) (nomark _)))) pss_nil)
      (pss_one (ps_ret (pe_cmpR op_le (pv 0) (pv 2) (nomark _))))))), ?_⟩
  match k, hk with
  | 0, _ => 
    refine ⟨_, rfl, rfl, _, rfl, iteY rfl ⟨.int a, rfl, .int b, rfl, rfl, ?_⟩⟩
    rw [show decide (V.int a = V.int b) = decide (a = b) by simp]
    exact q
  | 1, _ => 
    refine ⟨_, rfl, rfl, _, rfl, iteN (strNe (by decide +kernel)) ⟨_, rfl, rfl, _, rfl, iteY rfl ⟨.int a, rfl, .int b, rfl, rfl, ?_⟩⟩⟩
    rw [show decide (V.int a = V.int b) = decide (a = b) by simp]
    exact q
  | 2, _ => exact ⟨_, rfl, rfl, _, rfl, iteN (strNe (by decide +kernel)) ⟨_, rfl, rfl, _, rfl, iteN (strNe (by decide +kernel)) ⟨_, rfl, rfl, _, rfl, iteY rfl ⟨.int a, rfl, .int b, rfl, _, _, rfl, rfl, q⟩⟩⟩⟩
  | 3, _ => exact ⟨_, rfl, rfl, _, rfl, iteN (strNe (by decide +kernel)) ⟨_, rfl, rfl, _, rfl, iteN (strNe (by decide +kernel)) ⟨_, rfl, rfl, _, rfl, iteN (strNe (by decide +kernel)) ⟨.int a, rfl, .int b, rfl, _, _, rfl, rfl, q⟩⟩⟩⟩
/-! ### rows of values -/
def midT (ts : List Tm) (row : List Int) : List Int := ts.map fun t => valT t row
def spValues (K : PySem.W.Frag) : Sp := fun vs H Q _ => ∃ (u v : V) (ts : List Tm) (row : List Int), vs = [u, v] ∧ Da K H u (tsD ts) ∧ Mo K H v row ∧ ts.length ≤ 1000 ∧ (∀ t ∈ ts, VOk t row) ∧ ∀ H' a, Same H H' → Mo K H' a (midT ts row) → Q a H'
theorem d_values_of (B : Bt mg) (T : Top K mg "values_of" svalues_of ["terms", "row"]) (Dvalue_of : Def P w K mg base "value_of" 1 ["term", "row"] (spValue K)) : Def P w K mg base "values_of" 2 ["terms", "row"] (spValues K) := by
  refine mk_def T scvalues_of (by rintro _ _ _ _ ⟨_, _, _, _, rfl, _⟩; rfl) fun f cdv A outer s H vs Q E hr h => ?_
  obtain ⟨u, v, ts, row, rfl, hu, hv, hn, ok, q⟩ := h
  refine ⟨_, (pss_one (ps_ret (pe_callTy call_tuple_of (by rfl) B.m_tuple (by decide +kernel) (pa_cons (pe_lc (own := [("term", 2)]) (g := (gName 2)) (tt := tYes) (te := (tCall (spValue K) [] E0 (tCons (tVar 2) (tCons (tVar 1) tNil)))) rfl scvalues_of.nd (pi_tup (pv 0)) (blkOk_by (own := [("term", 2)]) (N := Nvalues_of) (sc := defScope svalues_of) (by decide +kernel)) (fun _ _ _ _ _ => (pg_name (i := 2) scvalues_of.nd rfl (Or.inl rfl))) (fun _ _ _ _ _ => pts_nil) (fun _ _ _ _ _ => (pe_def Dvalue_of (hr.mono (by first | decide | omega)) (by rfl) (pa_cons (pv 2) (pa_cons (pv 1) pa_nil))))) pa_nil)))), ?_⟩
  obtain ⟨a, xs, rfl, ha, hx⟩ := Da.tsI hu
  have hl : xs.length = ts.length := by rw [hx.length, List.length_map]
  refine ⟨.ref a, rfl, a, rfl, ⟨_, SqT.of ha⟩, fun D hD => ?_⟩
  refine lc_val (walk_tup (K := K)) hD (by omega) (fun H1 e => e.seqT (SqT.of ha)) ((midT ts row).map V.int) (by simp [midT, hl]) (fun i x H1 H2 Q' hi e y k => ?_) (fun H1 e eD => ?_)
  · obtain ⟨rfl, hxi⟩ := y
    obtain ⟨d, hd, hdx⟩ := hx.get hxi
    obtain ⟨t0, ht0, rfl⟩ := at_map hd
    refine ⟨rfl, x, rfl, v, rfl, x, v, t0, row, rfl, Da.same e _ _ hdx, hv.same e, ok t0 (List.mem_of_getElem? ht0), fun H3 s3 => k _ _ s3 ?_⟩
    rw [midT, List.map_map, List.getElem?_map, ht0]
    rfl
  · refine ⟨D, _, rfl, .inl ⟨SqL.of eD, fun t ht => ?_⟩⟩
    exact q _ _ (e.trans (same_upd ht)) (Mo.of upd_same)
/-! ### tests -/
structure Tst where
  l : Tm
  k : Nat
  r : Tm
def tstD (x : Tst) : PyData := .tuple [tmD x.l, .str (opS x.k), tmD x.r]
def tstsD (l : List Tst) : PyData := .tuple (l.map tstD)
def tstB (x : Tst) (row : List Int) : Bool := cmpO (valT x.l row) x.k (valT x.r row)
structure TstOk (x : Tst) (row : List Int) : Prop where
  l : VOk x.l row
  k : x.k < 4
  r : VOk x.r row
theorem imm_tst (x : Tst) : imm (tstD x) = true := by
  show (imm (tmD x.l) && (true && (imm (tmD x.r) && true))) = true
  rw [imm_tm, imm_tm]
  rfl
theorem imm_tsts (l : List Tst) : immAll (l.map tstD) = true := immAll_of fun d hd => by
  obtain ⟨q, _, rfl⟩ := List.mem_map.mp hd
  exact imm_tst q
theorem Da.tstI {K : PySem.W.Frag} {H : Hp} {v : V} {x : Tst} (h : Da K H v (tstD x)) : ∃ a u z, v = .ref a ∧ H a = some (.tup [u, .str (opS x.k), z]) ∧ Da K H u (tmD x.l) ∧ Da K H z (tmD x.r) := by
  cases h with
  | @tup a xs ds hs ha =>
    cases ha with
    | cons h1 h2 =>
      cases h2 with
      | cons h2 h3 =>
        cases h3 with
        | cons h3 h4 =>
          cases h4
          cases h2
          exact ⟨a, _, _, rfl, hs, h1, h3⟩
theorem Da.tstsI {K : PySem.W.Frag} {H : Hp} {v : V} {l : List Tst} (h : Da K H v (tstsD l)) : ∃ a xs, v = .ref a ∧ H a = some (.tup xs) ∧ DaAll K H xs (l.map tstD) := by
  cases h with
  | @tup a xs ds hs ha => exact ⟨a, xs, rfl, hs, ha⟩
def holdsB (l : List Tst) (row : List Int) : Bool := l.all fun x => tstB x row
def spHolds (K : PySem.W.Frag) : Sp := fun vs H Q _ => ∃ (u v : V) (l : List Tst) (row : List Int), vs = [u, v] ∧ Da K H u (tstsD l) ∧ Mo K H v row ∧ l.length ≤ 1000 ∧ (∀ x ∈ l, TstOk x row) ∧ ∀ H', Same H H' → Q (.bl (holdsB l row)) H'
theorem d_holds (B : Bt mg) (T : Top K mg "holds" sholds ["tests", "row"]) (Dvalue_of : Def P w K mg base "value_of" 1 ["term", "row"] (spValue K)) (Dcompares : Def P w K mg base "compares" 1 ["left", "op", "right"] spCompares) : Def P w K mg base "holds" 2 ["tests", "row"] (spHolds K) := by
  refine mk_def T scholds (by rintro _ _ _ _ ⟨_, _, _, _, rfl, _⟩; rfl) fun f cdv A outer s H vs Q E hr h => ?_
  obtain ⟨u, v, l, row, rfl, hu, hv, hn, ok, q⟩ := h
  refine ⟨_, (pss_one (ps_ret (pe_callB (cr_all rfl) (by rfl) B.m_all (by decide +kernel) (pa_cons (pe_lc (own := [("left", 2), ("op", 3), ("right", 4)]) (g := (gTup K 3 (gCons (gName 2) (gCons (gName 3) (gCons (gName 4) gNil))))) (tt := tYes) (te := (tCall spCompares [] E0 (tCons (tCall (spValue K) [] E0 (tCons (tVar 2) (tCons (tVar 1) tNil))) (tCons (tVar 3) (tCons (tCall (spValue K) [] E0 (tCons (tVar 4) (tCons (tVar 1) tNil))) tNil))))) rfl scholds.nd (pi_tup (pv 0)) (blkOk_by (own := [("left", 2), ("op", 3), ("right", 4)]) (N := Nholds) (sc := defScope sholds) (by decide +kernel)) (fun _ _ _ _ _ => (pg_tup rfl (pgs_cons (pg_name (i := 2) scholds.nd rfl (Or.inl rfl)) (pgs_cons (pg_name (i := 3) scholds.nd rfl (Or.inl rfl)) (pgs_cons (pg_name (i := 4) scholds.nd rfl (Or.inl rfl)) pgs_nil))))) (fun _ _ _ _ _ => pts_nil) (fun _ _ _ _ _ => (pe_def Dcompares (hr.mono (by first | decide | omega)) (by rfl) (pa_cons (pe_def Dvalue_of (hr.mono (by first | decide | omega)) (by rfl) (pa_cons (pv 2) (pa_cons (pv 1) pa_nil))) (pa_cons (pv 3) (pa_cons (pe_def Dvalue_of (hr.mono (by first | decide | omega)) (by rfl) (pa_cons (pv 4) (pa_cons (pv 1) pa_nil))) pa_nil)))))) pa_nil)))), ?_⟩
  obtain ⟨a, xs, rfl, ha, hx⟩ := Da.tstsI hu
  have hl : xs.length = l.length := by rw [hx.length, List.length_map]
  refine ⟨.ref a, rfl, a, rfl, ⟨_, SqT.of ha⟩, fun D hD => ?_⟩
  refine lc_val (walk_tup (K := K)) hD (by omega) (fun H1 e => e.seqT (SqT.of ha)) ((l.map fun x => tstB x row).map V.bl) (by simp [hl]) (fun i x H1 H2 Q' hi e y k => ?_) (fun H1 e eD => ?_)
  · obtain ⟨rfl, hxi⟩ := y
    obtain ⟨d, hd, hdx⟩ := hx.get hxi
    obtain ⟨t0, ht0, rfl⟩ := at_map hd
    obtain ⟨b, z1, z2, rfl, hb, h1, h2⟩ := Da.tstI (Da.same e _ _ hdx)
    have ok0 := ok t0 (List.mem_of_getElem? ht0)
    refine ⟨b, _, rfl, SqT.of hb, rfl, _, _, rfl, _, _, rfl, _, _, rfl, rfl, rfl, z1, rfl, v, rfl, z1, v, t0.l, row, rfl, h1, hv.same e, ok0.l, fun H3 s3 => ?_⟩
    refine ⟨_, rfl, z2, rfl, v, rfl, z2, v, t0.r, row, rfl, Da.same s3 _ _ h2, (hv.same e).same s3, ok0.r, fun H4 s4 => ?_⟩
    refine ⟨_, _, t0.k, rfl, ok0.k, k _ _ (s3.trans s4) ?_⟩
    rw [List.map_map, List.getElem?_map, ht0]
    rfl
  · refine ⟨D, l.map fun x => tstB x row, rfl, SqL.of eD, ?_⟩
    rw [show (l.map fun x => tstB x row).all id = holdsB l row by simp [holdsB]]
    exact q H1 e
end
end K18

namespace K18
open PySem PySem.Spec PyProof.Rows L2 RW9 Tl
section
variable {P : Program} {w : World} {K : PySem.W.Frag} {mg : Str → Option Value} {base : Heap} {C : Addr}
def spTest (K : PySem.W.Frag) : Sp := fun vs H Q _ => ∃ (u v : V) (x : Tst) (row : List Int), vs = [u, v] ∧ Da K H u (tstD x) ∧ Mo K H v row ∧ TstOk x row ∧ ∀ H', Same H H' → Q (.bl (tstB x row)) H'
/-- the row's items at the columns -/
def pickL (cols row : List Int) : List Int := cols.map fun c => row.getD c.toNat 0
def ColOk (cols row : List Int) : Prop := ∀ c ∈ cols, 0 ≤ c ∧ c < row.length
/-- the columns: a list or a tuple -/
def ColsAt (H : Hp) (c : Addr) (cols : List Int) : Prop := H c = some (.lst (cols.map V.int)) ∨ H c = some (.tup (cols.map V.int))
theorem ColsAt.mv {H H' : Hp} {c : Addr} {cols : List Int} (h : ColsAt H c cols) (e : ∀ o, H c = some o → H' c = some o) : ColsAt H' c cols := h.imp (e _) (e _)
theorem ColsAt.same {H H' : Hp} {c : Addr} {cols : List Int} (h : ColsAt H c cols) (e : Same H H') : ColsAt H' c cols := h.imp (e _ _) (e _ _)
theorem ColsAt.ne_new {H : Hp} {c x : Addr} {cols : List Int} (h : ColsAt H c cols) (hx : H x = none) : c ≠ x := by
  rcases h with h | h
  · exact ne_of_none h hx
  · exact ne_of_none h hx
theorem ColsAt.neT {H : Hp} {c x : Addr} {cols : List Int} {D} (h : ColsAt H c cols) (hx : H x = some (.dT D)) : c ≠ x := by
  rcases h with h | h
  · exact ne_of h hx (fun z => nomatch z)
  · exact ne_of h hx (fun z => nomatch z)
def spPicked : Sp := fun vs H Q _ => ∃ (b c : Addr) (row cols : List Int), vs = [.ref b, .ref c] ∧ RowAt H b row ∧ ColsAt H c cols ∧ ColOk cols row ∧ cols.length ≤ 1000 ∧ ∀ H' t, Same H H' → RowAt H' t (pickL cols row) → Q (.ref t) H'
theorem d_picked (B : Bt mg) (T : Top K mg "picked" spicked ["row", "columns"]) : Def P w K mg base "picked" 1 ["row", "columns"] spPicked := by
  refine mk_def T scpicked (by rintro _ _ _ _ ⟨_, _, _, _, rfl, _⟩; rfl) fun f cdv A outer s H vs Q E hr h => ?_
  obtain ⟨b, c, row, cols, rfl, hb, hc, ok, hn, q⟩ := h
  rcases hc with hc | hc
  · refine ⟨_, (pss_one (ps_ret (pe_callTy call_tuple_of (by rfl) B.m_tuple (by decide +kernel) (pa_cons (pe_lc (own := [("column", 2)]) (g := (gName 2)) (tt := tYes) (te := (tOp (rIxT K) (tVar 0) (tVar 2))) rfl scpicked.nd (pi_list (pv 1)) (blkOk_by (own := [("column", 2)]) (N := Npicked) (sc := defScope spicked) (by decide +kernel)) (fun _ _ _ _ _ => (pg_name (i := 2) scpicked.nd rfl (Or.inl rfl))) (fun _ _ _ _ _ => pts_nil) (fun _ _ _ _ _ => (pe_ix ix_tup (pv 0) (pv 2) (fun _ _ => rfl)))) pa_nil)))), ?_⟩
    refine ⟨.ref c, rfl, c, rfl, ⟨_, SqL.of hc⟩, fun D hD => ?_⟩
    refine lc_val (walk_list (K := K)) hD (by simp; omega) (fun H1 e => SqL.of (e _ _ hc)) ((pickL cols row).map V.int) (by simp [pickL]) (fun i x H1 H2 Q' hi e y k => ?_) (fun H1 e eD => ?_)
    · obtain ⟨rfl, hxi⟩ := y
      rw [List.getElem?_map] at hxi
      obtain ⟨col, hcol, rfl⟩ := Option.map_eq_some_iff.mp hxi
      obtain ⟨c0, c1⟩ := ok col (List.mem_of_getElem? hcol)
      refine ⟨rfl, .ref b, rfl, .int col, rfl, b, _, _, _, rfl, rfl, SqT.of (e _ _ hb), row_at c0 c1, k _ _ (Same.refl _) ?_⟩
      rw [pickL, List.map_map, List.getElem?_map, hcol]
      rfl
    · refine ⟨D, _, rfl, .inl ⟨SqL.of eD, fun t ht => ?_⟩⟩
      exact q _ t (e.trans (same_upd ht)) upd_same
  · refine ⟨_, (pss_one (ps_ret (pe_callTy call_tuple_of (by rfl) B.m_tuple (by decide +kernel) (pa_cons (pe_lc (own := [("column", 2)]) (g := (gName 2)) (tt := tYes) (te := (tOp (rIxT K) (tVar 0) (tVar 2))) rfl scpicked.nd (pi_tup (pv 1)) (blkOk_by (own := [("column", 2)]) (N := Npicked) (sc := defScope spicked) (by decide +kernel)) (fun _ _ _ _ _ => (pg_name (i := 2) scpicked.nd rfl (Or.inl rfl))) (fun _ _ _ _ _ => pts_nil) (fun _ _ _ _ _ => (pe_ix ix_tup (pv 0) (pv 2) (fun _ _ => rfl)))) pa_nil)))), ?_⟩
    refine ⟨.ref c, rfl, c, rfl, ⟨_, SqT.of hc⟩, fun D hD => ?_⟩
    refine lc_val (walk_tup (K := K)) hD (by simp; omega) (fun H1 e => e.seqT (SqT.of hc)) ((pickL cols row).map V.int) (by simp [pickL]) (fun i x H1 H2 Q' hi e y k => ?_) (fun H1 e eD => ?_)
    · obtain ⟨rfl, hxi⟩ := y
      rw [List.getElem?_map] at hxi
      obtain ⟨col, hcol, rfl⟩ := Option.map_eq_some_iff.mp hxi
      obtain ⟨c0, c1⟩ := ok col (List.mem_of_getElem? hcol)
      refine ⟨rfl, .ref b, rfl, .int col, rfl, b, _, _, _, rfl, rfl, SqT.of (e _ _ hb), row_at c0 c1, k _ _ (Same.refl _) ?_⟩
      rw [pickL, List.map_map, List.getElem?_map, hcol]
      rfl
    · refine ⟨D, _, rfl, .inl ⟨SqL.of eD, fun t ht => ?_⟩⟩
      exact q _ t (e.trans (same_upd ht)) upd_same
/-! ### rows by their values -/
/-- a group: its values, its list, the rows' tuples in it -/
abbrev Gp := List Int × Addr × List Addr
abbrev grD (E : List Gp) : List (List Key × V) := E.map fun e => (rk e.1, V.ref e.2.1)
abbrev inG (cols : List Int) (k : List Int) (L : List (List Int × Int)) : List (List Int × Int) := L.filter fun p => decide (pickL cols p.1 = k)
structure Grp (H0 H : Hp) (G : Addr) (cols : List Int) (L : List (List Int × Int)) (E : List Gp) : Prop where
  at' : H G = some (.dT (grD E))
  keys : (E.map (·.1)).Nodup
  adr : (E.map (·.2.1)).Nodup
  lst : ∀ e ∈ E, H e.2.1 = some (.lst (e.2.2.map V.ref)) ∧ Paired (fun (b : Addr) (p : List Int × Int) => RowAt H b p.1) e.2.2 (inG cols e.1 L)
  new : ∀ e ∈ E, H0 e.2.1 = none
  out : ∀ k, k ∉ E.map (·.1) → inG cols k L = []
  len : E.length ≤ L.length
  non : ∀ e ∈ E, ∃ p ∈ L, pickL cols p.1 = e.1
theorem val_gr (k : List Int) : ∀ E : List Gp, valV (grD E) (rk k) = (E.find? fun e => decide (e.1 = k)).map fun e => V.ref e.2.1
  | [] => rfl
  | e :: E => by
    have ih := val_gr k E
    by_cases ek : e.1 = k
    · rw [show grD (e :: E) = (rk e.1, V.ref e.2.1) :: grD E from rfl, valV_pos (show (rk e.1, V.ref e.2.1).1 = rk k by rw [ek]), List.find?_cons_of_pos (by simp [ek])]
      rfl
    · rw [show grD (e :: E) = (rk e.1, V.ref e.2.1) :: grD E from rfl, valV_neg (show ¬ (rk e.1, V.ref e.2.1).1 = rk k from fun h => ek (rk_inj h)), List.find?_cons_of_neg (by simp [ek])]
      exact ih
theorem gr_in {E : List Gp} {k : List Int} {v : V} (h : valV (grD E) (rk k) = some v) : ∃ e ∈ E, e.1 = k ∧ v = .ref e.2.1 := by
  rw [val_gr] at h
  obtain ⟨e, he, rfl⟩ := Option.map_eq_some_iff.mp h
  exact ⟨e, List.mem_of_find?_eq_some he, of_decide_eq_true (List.find?_some (p := fun e : Gp => decide (e.1 = k)) he), rfl⟩
theorem gr_out {E : List Gp} {k : List Int} (h : valV (grD E) (rk k) = none) : k ∉ E.map (·.1) := by
  rw [val_gr] at h
  intro z
  obtain ⟨e, he, ek⟩ := List.mem_map.mp z
  have := List.find?_eq_none.mp (Option.map_eq_none_iff.mp h) e he
  simp [ek] at this
theorem inG_snoc (cols k : List Int) (L : List (List Int × Int)) (p : List Int × Int) : inG cols k (L ++ [p]) = if pickL cols p.1 = k then inG cols k L ++ [p] else inG cols k L := by
  unfold inG
  rw [List.filter_append]
  by_cases e : pickL cols p.1 = k
  · simp [e]
  · simp [e]
end
end K18

namespace K18
open PySem PySem.Spec PyProof.Rows L2 RW9 Tl
theorem rowAt_upd {H : Hp} {a b : Addr} {o : HO} {r : List Int} (h : RowAt H b r) (n : ∀ us, H a ≠ some (.tup us)) : RowAt (L2.upd H a o) b r := by
  have : b ≠ a := fun z => by
    rw [z] at h
    exact n _ h
  unfold RowAt
  rw [upd_ne this]
  exact h
/-- a row of values that are there is put in -/
theorem Grp.old {H0 H : Hp} {G : Addr} {cols : List Int} {L : List (List Int × Int)} {E : List Gp} (g : Grp H0 H G cols L E) {e : Gp} (he : e ∈ E) {p : List Int × Int} {b : Addr} (hb : RowAt H b p.1) (hk : pickL cols p.1 = e.1) :
    Grp H0 (L2.upd H e.2.1 (.lst ((e.2.2 ++ [b]).map V.ref))) G cols (L ++ [p]) (E.map fun x => if x.1 = e.1 then (x.1, x.2.1, x.2.2 ++ [b]) else x) := by
  have hl := (g.lst e he).1
  have nGl : G ≠ e.2.1 := ne_of g.at' hl (fun z => nomatch z)
  have uniq : ∀ x ∈ E, x.1 = e.1 → x = e := fun x hx hxe => by
    obtain ⟨i, hi⟩ := List.mem_iff_getElem?.mp hx
    obtain ⟨j, hj⟩ := List.mem_iff_getElem?.mp he
    have h1 : (E.map (·.1))[i]? = some e.1 := by rw [List.getElem?_map, hi, ← hxe]; rfl
    have h2 : (E.map (·.1))[j]? = some e.1 := by rw [List.getElem?_map, hj]; rfl
    have ij := (List.getElem?_inj (List.getElem?_eq_some_iff.mp h1).1 g.keys).mp (h1.trans h2.symm)
    rw [ij, hj] at hi
    exact (Option.some.inj hi).symm
  have eD : grD (E.map fun x => if x.1 = e.1 then (x.1, x.2.1, x.2.2 ++ [b]) else x) = grD E := by
    unfold grD
    rw [List.map_map]
    refine List.map_congr_left fun x _ => ?_
    show (rk (if x.1 = e.1 then (x.1, x.2.1, x.2.2 ++ [b]) else x).1, V.ref (if x.1 = e.1 then (x.1, x.2.1, x.2.2 ++ [b]) else x).2.1) = (rk x.1, V.ref x.2.1)
    split <;> rfl
  have k1 : (E.map fun x => if x.1 = e.1 then (x.1, x.2.1, x.2.2 ++ [b]) else x).map (·.1) = E.map (·.1) := by
    rw [List.map_map]
    refine List.map_congr_left fun x _ => ?_
    show (if x.1 = e.1 then (x.1, x.2.1, x.2.2 ++ [b]) else x).1 = x.1
    split <;> rfl
  have k2 : (E.map fun x => if x.1 = e.1 then (x.1, x.2.1, x.2.2 ++ [b]) else x).map (·.2.1) = E.map (·.2.1) := by
    rw [List.map_map]
    refine List.map_congr_left fun x _ => ?_
    show (if x.1 = e.1 then (x.1, x.2.1, x.2.2 ++ [b]) else x).2.1 = x.2.1
    split <;> rfl
  have st : ∀ c r, RowAt H c r → RowAt (L2.upd H e.2.1 (.lst ((e.2.2 ++ [b]).map V.ref))) c r := fun c r h => rowAt_upd h fun us z => by
    rw [hl] at z
    cases z
  refine ⟨by rw [upd_ne nGl, eD]; exact g.at', by rw [k1]; exact g.keys, by rw [k2]; exact g.adr, fun x' hx' => ?_, fun x' hx' => ?_, fun k hk' => ?_, by
    rw [List.length_map, List.length_append]
    have := g.len
    omega, fun x' hx' => ?_⟩
  · obtain ⟨x, hx, ex⟩ := List.mem_map.mp hx'
    by_cases hxe : x.1 = e.1
    · have e1 := uniq x hx hxe
      subst e1
      rw [if_pos rfl] at ex
      subst ex
      refine ⟨upd_same, ?_⟩
      rw [inG_snoc, if_pos hk]
      exact Paired.snoc (Paired.mapP (g.lst x hx).2 fun c q h => st c _ h) (st b _ hb)
    · rw [if_neg hxe] at ex
      subst ex
      have nx : x.2.1 ≠ e.2.1 := fun z => hxe (by
        obtain ⟨i, hi⟩ := List.mem_iff_getElem?.mp hx
        obtain ⟨j, hj⟩ := List.mem_iff_getElem?.mp he
        have h1 : (E.map (·.2.1))[i]? = some e.2.1 := by rw [List.getElem?_map, hi, ← z]; rfl
        have h2 : (E.map (·.2.1))[j]? = some e.2.1 := by rw [List.getElem?_map, hj]; rfl
        have ij := (List.getElem?_inj (List.getElem?_eq_some_iff.mp h1).1 g.adr).mp (h1.trans h2.symm)
        rw [ij, hj] at hi
        rw [← Option.some.inj hi])
      refine ⟨by rw [upd_ne nx]; exact (g.lst x hx).1, ?_⟩
      rw [inG_snoc, if_neg (fun z => hxe (by rw [← z, hk]))]
      exact Paired.mapP (g.lst x hx).2 fun c q h => st c _ h
  · obtain ⟨x, hx, ex⟩ := List.mem_map.mp hx'
    have : x'.2.1 = x.2.1 := by rw [← ex]; split <;> rfl
    rw [this]
    exact g.new x hx
  · rw [k1] at hk'
    rw [inG_snoc, if_neg (fun z => hk' (by rw [← z, hk]; exact List.mem_map.mpr ⟨e, he, rfl⟩))]
    exact g.out k hk'
  · obtain ⟨x, hx, ex⟩ := List.mem_map.mp hx'
    have : x'.1 = x.1 := by rw [← ex]; split <;> rfl
    rw [this]
    obtain ⟨r, hr, e2⟩ := g.non x hx
    exact ⟨r, List.mem_append_left _ hr, e2⟩
/-- .. of values that are new -/
theorem Grp.more {H0 H H' : Hp} {G z : Addr} {cols : List Int} {L : List (List Int × Int)} {E : List Gp} (g : Grp H0 H G cols L E) {p : List Int × Int} {b : Addr} (hb : RowAt H b p.1) (hk : pickL cols p.1 ∉ E.map (·.1)) (hz : H z = none) (h0z : H0 z = none)
    (hG : H' G = some (.dT (putK (grD E) (rk (pickL cols p.1)) (.ref z)))) (hz' : H' z = some (.lst [.ref b])) (st : ∀ a o, a ≠ G → H a = some o → H' a = some o) :
    Grp H0 H' G cols (L ++ [p]) (E ++ [(pickL cols p.1, z, [b])]) := by
  have hv : valV (grD E) (rk (pickL cols p.1)) = none := by
    cases h : valV (grD E) (rk (pickL cols p.1)) with
    | none => rfl
    | some v =>
      obtain ⟨e, he, ek, _⟩ := gr_in h
      exact absurd (List.mem_map.mpr ⟨e, he, ek⟩) hk
  have sr : ∀ c r, RowAt H c r → RowAt H' c r := fun c r h => st _ _ (ne_of h g.at' (fun z => nomatch z)) h
  have nz : ∀ e ∈ E, e.2.1 ≠ z := fun e he => ne_of_none (g.lst e he).1 hz
  have nG : ∀ e ∈ E, e.2.1 ≠ G := fun e he => ne_of (g.lst e he).1 g.at' (fun z => nomatch z)
  refine ⟨by rw [hG, putK_new _ hv, grD, grD, List.map_append]; rfl, ?_, ?_, fun x hx => ?_, fun x hx => ?_, fun k hk' => ?_, by
    rw [List.length_append, List.length_append]
    have := g.len
    simp
    exact this, fun x hx => ?_⟩
  · rw [List.map_append]
    refine List.nodup_append.mpr ⟨g.keys, by simp, fun a ha c hc => ?_⟩
    rw [List.mem_singleton.mp hc]
    intro q
    have q' : a = pickL cols p.1 := q
    exact hk (by rw [← q']; exact ha)
  · rw [List.map_append]
    refine List.nodup_append.mpr ⟨g.adr, by simp, fun a ha c hc => ?_⟩
    rw [List.mem_singleton.mp hc]
    obtain ⟨e, he, rfl⟩ := List.mem_map.mp ha
    exact nz e he
  · rcases List.mem_append.mp hx with hx | hx
    · refine ⟨st _ _ (nG x hx) (g.lst x hx).1, ?_⟩
      rw [inG_snoc, if_neg (fun q => hk (by rw [q]; exact List.mem_map.mpr ⟨x, hx, rfl⟩))]
      exact Paired.mapP (g.lst x hx).2 fun c q h => sr c _ h
    · rw [List.mem_singleton.mp hx]
      refine ⟨hz', ?_⟩
      rw [inG_snoc, if_pos rfl, g.out _ hk]
      exact .cons (sr b _ hb) .nil
  · rcases List.mem_append.mp hx with hx | hx
    · exact g.new x hx
    · rw [List.mem_singleton.mp hx]
      exact h0z
  · rw [List.map_append] at hk'
    have h1 : k ∉ E.map (·.1) := fun q => hk' (List.mem_append_left _ q)
    have h2 : pickL cols p.1 ≠ k := fun q => hk' (List.mem_append_right _ (by simp [q]))
    rw [inG_snoc, if_neg h2]
    exact g.out k h1
  · rcases List.mem_append.mp hx with hx | hx
    · obtain ⟨r, hr, e2⟩ := g.non x hx
      exact ⟨r, List.mem_append_left _ hr, e2⟩
    · rw [List.mem_singleton.mp hx]
      exact ⟨p, List.mem_append_right _ (List.mem_singleton.mpr rfl), rfl⟩
section
variable {P : Program} {w : World} {K : PySem.W.Frag} {mg : Str → Option Value} {base : Heap} {C : Addr}
def spByValues : Sp := fun vs H Q _ => ∃ (a c : Addr) (L : List (List Int × Int)) (cols : List Int), vs = [.ref a, .ref c] ∧ (TalAt H a L ∨ L.length ≤ 5000 ∧ ∃ bs : List Addr, H a = some (.lst (bs.map V.ref)) ∧ Paired (fun (b : Addr) (p : List Int × Int) => RowAt H b p.1) bs L) ∧ ColsAt H c cols ∧ (∀ p ∈ L, ColOk cols p.1) ∧ cols.length ≤ 1000 ∧
  ∀ H' G E, Same H H' → H G = none → Grp H H' G cols L E → Q (.ref G) H'
theorem d_by_values (B : Bt mg) (T : Top K mg "by_values" sby_values ["rows", "columns"]) (Dpicked : Def P w K mg base "picked" 1 ["row", "columns"] spPicked) : Def P w K mg base "by_values" 2 ["rows", "columns"] spByValues := by
  refine mk_def T scby_values (by rintro _ _ _ _ ⟨_, _, _, _, rfl, _⟩; rfl) fun f cdv A outer s H vs Q E hr h => ?_
  obtain ⟨a, c, L, cols, rfl, t, hc, ok, hn, q⟩ := h
  rcases t with t | t
  · refine ⟨_, (pss_cons (ps_set (i := 2) scby_values.nd rfl (Or.inl rfl) (pe_dnewT))
      (pss_cons (ps_lock (ps_for PassesOwn.never rfl (pi_keys (pv 0)) (pg_name (i := 3) scby_values.nd rfl (Or.inl rfl)) (pss_one (ps_expr (pe_bm PySem.F.plainAttrs_list PySem.F.slot_list_append PySem.F.type_list_append mt_append (pe_dsetdT (hu_of hr) (pv 2) (pe_def Dpicked (hr.mono (by first | decide | omega)) (by rfl) (pa_cons (pv 3) (pa_cons (pv 1) pa_nil))) (pe_lst pa_nil) ⟨by rfl, by rfl, by rfl, by rfl⟩) (pa_cons (pv 3) pa_nil))))))
      (pss_one (ps_ret (pv 2))))), ?_⟩
    intro G hG
    have naG : a ≠ G := ne_of_none t.at' hG
    have ncG : c ≠ G := hc.ne_new hG
    have nca : c ≠ a := hc.neT t.at'
    have ha1 : L2.upd H G (.dT []) a = some (.dT (rowD L)) := by rw [upd_ne naG]; exact t.at'
    refine ⟨a, _, ha1, True.intro, fun od => ?_⟩
    have hz : L2.upd (L2.upd H G (.dT [])) a (.frz od (.dT (rowD L))) a = some (.frz od (.dT (rowD L))) := upd_same
    have hG1 : L2.upd (L2.upd H G (.dT [])) a (.frz od (.dT (rowD L))) G = some (.dT (grD [])) := by
      rw [upd_ne naG.symm, upd_same]
      rfl
    have hc1 : ColsAt (L2.upd (L2.upd H G (.dT [])) a (.frz od (.dT (rowD L)))) c cols := hc.mv fun o ho => by
      rw [upd_ne nca, upd_ne ncG]
      exact ho
    have hs1 : ∀ b o, b ≠ a → H b = some o → L2.upd (L2.upd H G (.dT [])) a (.frz od (.dT (rowD L))) b = some o := fun b o n ho => by
      rw [upd_ne n, upd_ne (ne_of_none ho hG)]
      exact ho
    refine ⟨.ref a, rfl, a, od, rfl, .inr ⟨_, hz, ?_⟩⟩
    generalize L2.upd (L2.upd H G (.dT [])) a (.frz od (.dT (rowD L))) = H1 at hz hG1 hc1 hs1 ⊢
    have new1 : ∀ u, H1 u = none → H u = none := fun u hu => by
      cases h : H u with
      | none => rfl
      | some o =>
        by_cases za : u = a
        · rw [za, hz] at hu
          cases hu
        · rw [hs1 _ _ za h] at hu
          cases hu
    refine for_it (walk_keysT (kvs := rowD L)) (fun i σ H' => ∃ y3 E, σ = [some (.ref a), some (.ref c), some (.ref G), y3] ∧ SameB G H1 H' ∧ Grp H1 H' G cols (L.take i) E) ⟨none, [], rfl, SameB.refl _ _, hG1, List.Pairwise.nil, List.Pairwise.nil, (fun e he => nomatch he), (fun e he => nomatch he), (fun k _ => rfl), Nat.le_refl _, (fun e he => nomatch he)⟩ (fun i σ H' _ pv' => ?_) (fun i x σ H' H'' hi pv' y => ?_) (fun σ H' pv' => ?_)
    · obtain ⟨_, _, _, e, _⟩ := pv'
      exact e _ _ naG hz
    · obtain ⟨y3, E, rfl, e, g⟩ := pv'
      obtain ⟨rfl, k, v, r, hk, rfl, hq⟩ := y
      obtain ⟨p, hp, hr'⟩ := key_row hk hq
      refine ⟨.ref G, rfl, G, rfl, .inr ⟨_, .inl g.at'⟩, .ref r, rfl, .ref c, rfl, r, c, p.1, cols, rfl, hr', hc1.mv (fun o ho => e _ _ ncG ho), ok p (List.mem_of_getElem? hp), hn, fun H2 b s2 hb => ?_⟩
      have hG2 := s2 _ _ g.at'
      refine ⟨by show 0 ≤ sizeLine; decide, fun z hz0 => ?_⟩
      have nGz : G ≠ z := ne_of_none hG2 hz0
      have h0z : H1 z = none := by
        cases h : H1 z with
        | none => rfl
        | some o =>
          rw [s2 _ _ (e _ _ (fun q => nGz q.symm) h)] at hz0
          cases hz0
      have hG3 : L2.upd H2 z (.lst []) G = some (.dT (grD E)) := by rw [upd_ne nGz]; exact hG2
      have hb3 : RowAt (L2.upd H2 z (.lst [])) b (pickL cols p.1) := rowAt_upd hb fun us q => by rw [hz0] at q; cases q
      have hr3 : RowAt (L2.upd H2 z (.lst [])) r p.1 := rowAt_upd (s2 _ _ hr') fun us q => by rw [hz0] at q; cases q
      have lE : (grD E).length < sizeLine := by
        rw [List.length_map]
        refine Nat.lt_of_le_of_lt (Nat.le_trans g.len (Nat.le_trans (List.take_sublist _ _).length_le t.len)) (by decide)
      have ht : L.take (i + 1) = L.take i ++ [p] := by rw [List.take_add_one, hp]; rfl
      have g2 : Grp H1 (L2.upd H2 z (.lst [])) G cols (L.take i) E := ⟨hG3, g.keys, g.adr, (fun x hx => ⟨by
        rw [upd_ne (ne_of_none (s2 _ _ (g.lst x hx).1) hz0)]
        exact s2 _ _ (g.lst x hx).1, Paired.mapP (g.lst x hx).2 fun c q h => rowAt_upd (s2 _ _ h) fun us y => by rw [hz0] at y; cases y⟩), g.new, g.out, g.len, g.non⟩
      have e2 : SameB G H1 (L2.upd H2 z (.lst [])) := (e.trans s2.b).trans (Same.b (same_upd hz0))
      refine ⟨_, rk (pickL cols p.1), b, hG3, rfl, by rw [rk_kV]; exact hb3, lE, fun v hv => ?_, fun hv => ?_⟩
      · obtain ⟨x, hx, hxk, rfl⟩ := gr_in hv
        have hl := (g2.lst x hx).1
        have ll : (x.2.2.map V.ref).length < sizeLine := by
          rw [List.length_map, Paired.length (g2.lst x hx).2]
          refine Nat.lt_of_le_of_lt (Nat.le_trans (List.length_filter_le _ _) (Nat.le_trans (List.take_sublist _ _).length_le t.len)) (by decide)
        refine ⟨.inl ⟨rfl, _, SqL.of hl⟩, .ref r, rfl, x.2.1, _, _, rfl, rfl, hl, ll, ?_⟩
        have g3 := g2.old hx hr3 hxk.symm
        rw [List.map_append] at g3
        rw [← ht] at g3
        exact ⟨_, _, rfl, e2.mut (g2.new x hx), g3⟩
      · have hz3 : L2.upd (L2.upd H2 z (.lst [])) G (.dT (putK (grD E) (rk (pickL cols p.1)) (.ref z))) z = some (.lst []) := by rw [upd_ne nGz.symm, upd_same]
        refine ⟨.inl ⟨rfl, _, SqL.of hz3⟩, .ref r, rfl, z, _, _, rfl, rfl, hz3, by decide, ?_⟩
        have gH : Grp H1 H2 G cols (L.take i) E := ⟨hG2, g.keys, g.adr, (fun x hx => ⟨s2 _ _ (g.lst x hx).1, Paired.mapP (g.lst x hx).2 fun c q h => s2 _ _ h⟩), g.new, g.out, g.len, g.non⟩
        have g3 := gH.more (s2 _ _ hr') (gr_out hv) hz0 h0z (H' := L2.upd (L2.upd (L2.upd H2 z (.lst [])) G (.dT (putK (grD E) (rk (pickL cols p.1)) (.ref z)))) z (.lst ([] ++ [.ref r]))) (by rw [upd_ne nGz, upd_same]) upd_same (fun u o n hu => by
          rw [upd_ne (ne_of_none hu hz0), upd_ne n, upd_ne (ne_of_none hu hz0)]
          exact hu)
        rw [← ht] at g3
        exact ⟨_, _, rfl, (e2.trans SameB.upd).mut h0z, g3⟩
    · obtain ⟨y3, E, rfl, e, g⟩ := pv'
      have eL : L.take (rowD L).length = L := by rw [List.take_of_length_le]; simp
      rw [eL] at g
      have naG' : G ≠ a := naG.symm
      refine ⟨e _ _ naG hz, .ref G, rfl, q _ G E (fun u o hu => ?_) hG ⟨by rw [upd_ne naG']; exact g.at', g.keys, g.adr, (fun x hx => ⟨?_, Paired.mapP (g.lst x hx).2 fun c r h => rowAt_upd h fun us y => ?_⟩), (fun x hx => new1 _ (g.new x hx)), g.out, g.len, g.non⟩⟩
      · by_cases za : u = a
        · rw [za, upd_same, ← t.at', ← za, hu]
        · rw [upd_ne za]
          exact e _ _ (ne_of_none hu hG) (hs1 _ _ za hu)
      · rw [upd_ne (fun z => ?_)]
        · exact (g.lst x hx).1
        · have := g.new x hx
          rw [z, hz] at this
          cases this
      · rw [e _ _ naG hz] at y
        cases y
  · refine ⟨_, (pss_cons (ps_set (i := 2) scby_values.nd rfl (Or.inl rfl) (pe_dnewT))
      (pss_cons (ps_for PassesOwn.never rfl (pi_list (pv 0)) (pg_name (i := 3) scby_values.nd rfl (Or.inl rfl)) (pss_one (ps_expr (pe_bm PySem.F.plainAttrs_list PySem.F.slot_list_append PySem.F.type_list_append mt_append (pe_dsetdT (hu_of hr) (pv 2) (pe_def Dpicked (hr.mono (by first | decide | omega)) (by rfl) (pa_cons (pv 3) (pa_cons (pv 1) pa_nil))) (pe_lst pa_nil) ⟨by rfl, by rfl, by rfl, by rfl⟩) (pa_cons (pv 3) pa_nil)))))
      (pss_one (ps_ret (pv 2))))), ?_⟩
    obtain ⟨hn5, bs, ha, hbs⟩ := t
    have lb : bs.length = L.length := hbs.length
    intro G hG
    have naG : a ≠ G := ne_of_none ha hG
    have ncG : c ≠ G := hc.ne_new hG
    have e1 := same_upd (o := .dT []) hG
    have ha1 := e1 _ _ ha
    have hc1 := hc.same e1
    have hbs1 : Paired (fun (b : Addr) (p : List Int × Int) => RowAt (L2.upd H G (.dT [])) b p.1) bs L := Paired.mapP hbs fun b p h => e1 _ _ h
    have hG1 : L2.upd H G (.dT []) G = some (.dT (grD [])) := upd_same
    generalize L2.upd H G (.dT []) = H1 at e1 ha1 hc1 hbs1 hG1 ⊢
    refine ⟨.ref a, rfl, a, rfl, ⟨_, SqL.of ha1⟩, ?_⟩
    refine for_list (xs := bs.map V.ref) (fun i σ H' => ∃ y3 E, σ = [some (.ref a), some (.ref c), some (.ref G), y3] ∧ SameB G H1 H' ∧ Grp H1 H' G cols (L.take i) E) ⟨none, [], rfl, SameB.refl _ _, hG1, List.Pairwise.nil, List.Pairwise.nil, (fun e he => nomatch he), (fun e he => nomatch he), (fun k _ => rfl), Nat.le_refl _, (fun e he => nomatch he)⟩ (fun i σ H' _ pv' => ?_) (fun i x σ H' hxi pv' => ?_) (fun σ H' pv' => ?_)
    · obtain ⟨_, _, _, e, _⟩ := pv'
      exact SqL.of (e _ _ naG ha1)
    · obtain ⟨y3, E, rfl, e, g⟩ := pv'
      rw [List.getElem?_map] at hxi
      obtain ⟨r, hri, rfl⟩ := Option.map_eq_some_iff.mp hxi
      obtain ⟨p, hp, hr1⟩ := DX.pget (flipP hbs1) hri
      have nrG : r ≠ G := ne_of hr1 hG1 (fun z => nomatch z)
      have hr' : RowAt H' r p.1 := e _ _ nrG hr1
      refine ⟨.ref G, rfl, G, rfl, .inr ⟨_, .inl g.at'⟩, .ref r, rfl, .ref c, rfl, r, c, p.1, cols, rfl, hr', hc1.mv (fun o ho => e _ _ ncG ho), ok p (List.mem_of_getElem? hp), hn, fun H2 b s2 hb => ?_⟩
      have hG2 := s2 _ _ g.at'
      refine ⟨by show 0 ≤ sizeLine; decide, fun z hz0 => ?_⟩
      have nGz : G ≠ z := ne_of_none hG2 hz0
      have h0z : H1 z = none := by
        cases h : H1 z with
        | none => rfl
        | some o =>
          rw [s2 _ _ (e _ _ (fun q => nGz q.symm) h)] at hz0
          cases hz0
      have hG3 : L2.upd H2 z (.lst []) G = some (.dT (grD E)) := by rw [upd_ne nGz]; exact hG2
      have hb3 : RowAt (L2.upd H2 z (.lst [])) b (pickL cols p.1) := rowAt_upd hb fun us q => by rw [hz0] at q; cases q
      have hr3 : RowAt (L2.upd H2 z (.lst [])) r p.1 := rowAt_upd (s2 _ _ hr') fun us q => by rw [hz0] at q; cases q
      have lE : (grD E).length < sizeLine := by
        rw [List.length_map]
        refine Nat.lt_of_le_of_lt (Nat.le_trans g.len (Nat.le_trans (List.take_sublist _ _).length_le hn5)) (by decide)
      have ht : L.take (i + 1) = L.take i ++ [p] := by rw [List.take_add_one, hp]; rfl
      have g2 : Grp H1 (L2.upd H2 z (.lst [])) G cols (L.take i) E := ⟨hG3, g.keys, g.adr, (fun x hx => ⟨by
        rw [upd_ne (ne_of_none (s2 _ _ (g.lst x hx).1) hz0)]
        exact s2 _ _ (g.lst x hx).1, Paired.mapP (g.lst x hx).2 fun c q h => rowAt_upd (s2 _ _ h) fun us y => by rw [hz0] at y; cases y⟩), g.new, g.out, g.len, g.non⟩
      have e2 : SameB G H1 (L2.upd H2 z (.lst [])) := (e.trans s2.b).trans (Same.b (same_upd hz0))
      refine ⟨_, rk (pickL cols p.1), b, hG3, rfl, by rw [rk_kV]; exact hb3, lE, fun v hv => ?_, fun hv => ?_⟩
      · obtain ⟨x, hx, hxk, rfl⟩ := gr_in hv
        have hl := (g2.lst x hx).1
        have ll : (x.2.2.map V.ref).length < sizeLine := by
          rw [List.length_map, Paired.length (g2.lst x hx).2]
          refine Nat.lt_of_le_of_lt (Nat.le_trans (List.length_filter_le _ _) (Nat.le_trans (List.take_sublist _ _).length_le hn5)) (by decide)
        refine ⟨.inl ⟨rfl, _, SqL.of hl⟩, .ref r, rfl, x.2.1, _, _, rfl, rfl, hl, ll, ?_⟩
        have g3 := g2.old hx hr3 hxk.symm
        rw [List.map_append] at g3
        rw [← ht] at g3
        exact ⟨_, _, rfl, e2.mut (g2.new x hx), g3⟩
      · have hz3 : L2.upd (L2.upd H2 z (.lst [])) G (.dT (putK (grD E) (rk (pickL cols p.1)) (.ref z))) z = some (.lst []) := by rw [upd_ne nGz.symm, upd_same]
        refine ⟨.inl ⟨rfl, _, SqL.of hz3⟩, .ref r, rfl, z, _, _, rfl, rfl, hz3, by decide, ?_⟩
        have gH : Grp H1 H2 G cols (L.take i) E := ⟨hG2, g.keys, g.adr, (fun x hx => ⟨s2 _ _ (g.lst x hx).1, Paired.mapP (g.lst x hx).2 fun c q h => s2 _ _ h⟩), g.new, g.out, g.len, g.non⟩
        have g3 := gH.more (s2 _ _ hr') (gr_out hv) hz0 h0z (H' := L2.upd (L2.upd (L2.upd H2 z (.lst [])) G (.dT (putK (grD E) (rk (pickL cols p.1)) (.ref z)))) z (.lst ([] ++ [.ref r]))) (by rw [upd_ne nGz, upd_same]) upd_same (fun u o n hu => by
          rw [upd_ne (ne_of_none hu hz0), upd_ne n, upd_ne (ne_of_none hu hz0)]
          exact hu)
        rw [← ht] at g3
        exact ⟨_, _, rfl, (e2.trans SameB.upd).mut h0z, g3⟩
    · obtain ⟨y3, E, rfl, e, g⟩ := pv'
      have eL : L.take (bs.map V.ref).length = L := by rw [List.take_of_length_le]; simp; omega
      rw [eL] at g
      exact ⟨.ref G, rfl, q _ G E (fun u o hu => e _ _ (ne_of_none hu hG) (e1 _ _ hu)) hG ⟨g.at', g.keys, g.adr, g.lst, (fun x hx => e1.new (g.new x hx)), g.out, g.len, g.non⟩⟩
end
end K18

namespace K18
open PySem PySem.Spec PyProof.Rows L2 RW9 Tl
abbrev Tly := List (List Int × Int)
/-- what a part of a plan gives back: the tally of R -/
def Gives (H : Hp) (Q : VK) (R : Tly) : Prop := ∀ H' b T, Same H H' → H b = none → TalAt H' b T → Fin T → (∀ k, Tl.cnt T k = Tl.cnt R k) → (∀ p ∈ T, p.1 ∈ keys R) → Q (.ref b) H'
def chooseL (l : List Tst) (L : Tly) : Tly := L.filter fun p => holdsB l p.1
def mapL (ts : List Tm) (L : Tly) : Tly := L.map fun p => (midT ts p.1, p.2)
def lessL (L M : Tly) : Tly := L ++ M.map fun p => (p.1, -p.2)
def pairD (p : List Int × Int) : PyData := .tuple [mo p.1, .int p.2]
theorem imm_pairD (p : List Int × Int) : imm (pairD p) = true := by
  show (imm (mo p.1) && (true && true)) = true
  rw [imm_mo]
  rfl
theorem imm_pairs (l : Tly) : immAll (l.map pairD) = true := immAll_of fun d hd => by
  obtain ⟨q, _, rfl⟩ := List.mem_map.mp hd
  exact imm_pairD q
theorem Da.pairI {K : PySem.W.Frag} {H : Hp} {v : V} {p : List Int × Int} (h : Da K H v (pairD p)) : PairAt H v p := by
  cases h with
  | @tup a xs ds hs ha =>
    cases ha with
    | cons h1 h2 =>
      cases h2 with
      | cons h2 h3 =>
        cases h3
        cases h2
        obtain ⟨b, rfl, hb⟩ := Mo.trk h1
        exact ⟨a, b, rfl, hs, hb⟩
theorem da_pairs {K : PySem.W.Frag} {H : Hp} : ∀ {acc : List V} {ps : Tly}, DaAll K H acc (ps.map pairD) → Paired (PairAt H) acc ps
  | [], [], _ => .nil
  | _ :: _, [], h => by cases h
  | [], _ :: _, h => by cases h
  | _ :: _, _ :: _, h => by
    cases h with
    | cons h1 h2 => exact .cons (Da.pairI h1) (da_pairs h2)
theorem da_pair {K : PySem.W.Frag} {H : Hp} {t b : Addr} {r : List Int} {i : Int} (h : H t = some (.tup [.ref b, .int i])) (hb : RowAt H b r) : Da K H (.ref t) (pairD (r, i)) := .tup h (.cons (Mo.of hb) (.cons (.int i) .nil))
section
variable {P : Program} {w : World} {K : PySem.W.Frag} {mg : Str → Option Value} {base : Heap} {C : Addr}
def spChoose (K : PySem.W.Frag) : Sp := fun vs H Q _ => ∃ (n a : Addr) (xs : List V) (v : V) (l : List Tst) (L : Tly), vs = [.ref n, .ref a] ∧ H n = some (.tup xs) ∧ xs[2]? = some v ∧ Da K H v (tstsD l) ∧ TalAt H a L ∧ Fin L ∧ l.length ≤ 1000 ∧ (∀ p ∈ L, ∀ x ∈ l, TstOk x p.1) ∧ Gives H Q (chooseL l L)
theorem d_work_choose (B : Bt mg) (T : Top K mg "work_choose" swork_choose ["node", "counts"]) (Dholds : Def P w K mg base "holds" 2 ["tests", "row"] (spHolds K)) : Def P w K mg base "work_choose" 3 ["node", "counts"] (spChoose K) := by
  refine mk_def T scwork_choose (by rintro _ _ _ _ ⟨_, _, _, _, _, _, rfl, _⟩; rfl) fun f cdv A outer s H vs Q E hr h => ?_
  obtain ⟨n, a, xs, v, l, L, rfl, hn, hv, hd, t, fl, hl, ok, q⟩ := h
  refine ⟨_, (pss_one (ps_ret (pe_lock (pe_dcP fresh_T (hu0 hr) (own := [("row", 2)]) (g := (gName 2)) (tt := (tB (tCall (spHolds K) [] E0 (tCons (tOp (rIxT K) (tVar 0) (tC (.int 2))) (tCons (tVar 2) tNil))))) (tk := (tVar 2)) (tv := (tDGet (tVar 1) (tVar 2))) rfl scwork_choose.nd (pi_keys (pv 1)) (blkOk_by (own := [("row", 2)]) (N := Nwork_choose) (sc := defScope swork_choose) (by decide +kernel)) (fun _ _ _ _ _ => (pg_name (i := 2) scwork_choose.nd rfl (Or.inl rfl))) (fun _ _ _ _ _ => (pts_one (pt_val (pe_def Dholds (hr.mono (by first | decide | omega)) (by rfl) (pa_cons (pe_ix ix_tup (pv 0) pe_int (fun _ _ => rfl)) (pa_cons (pv 2) pa_nil)))))) (fun _ _ _ _ _ => (pv 2)) (fun _ _ _ _ _ => (pe_dget (hu_of hr) (pv 1) (pv 2) (fun _ _ => rfl))))))), ?_⟩
  refine ⟨a, _, t.at', True.intro, fun od => ?_⟩
  have hz : L2.upd H a (.frz od (.dT (rowD L))) a = some (.frz od (.dT (rowD L))) := upd_same
  have nna : n ≠ a := ne_of hn t.at' (fun z => nomatch z)
  have st : ST K H (L2.upd H a (.frz od (.dT (rowD L)))) := st_upd t.at' True.intro
  have hn1 : L2.upd H a (.frz od (.dT (rowD L))) n = some (.tup xs) := by rw [upd_ne nna]; exact hn
  have hd1 : Da K (L2.upd H a (.frz od (.dT (rowD L)))) v (tstsD l) := Da.st st _ _ (imm_tsts l) hd
  refine ⟨.ref a, rfl, a, od, rfl, .inr ⟨_, hz, fun D hD => ?_⟩⟩
  have nDa : D ≠ a := (ne_of_none hz hD).symm
  refine dc_rows hz t.nd (by have := t.len; omega) hD (fun p => holdsB l p.1) (fun p => p.2) (fun p r H2 Q2 R hp e hr' k1 k2 => ?_) (fun H' e eD => ?_)
  · have hg : ∀ H4 : Hp, Same H2 H4 → DGet H4 a (.ref r) (some (.int p.2)) := fun H4 e4 => by
      rw [← cnt_in t.nd hp]
      exact dget_row_in (.inr ⟨od, e4 _ _ (e _ _ hz)⟩) t.nd (e4 _ _ hr') (List.mem_map.mpr ⟨p, hp, rfl⟩)
    refine ⟨rfl, .ref n, rfl, n, _, _, v, rfl, rfl, SqT.of (e _ _ hn1), atI_nat (j := 2) hv, .ref r, rfl, v, .ref r, l, p.1, rfl, Da.same e _ _ hd1, Mo.of hr', hl, ok p hp, fun H3 s3 => ⟨holdsB l p.1, rfl, ?_⟩⟩
    cases hb : holdsB l p.1 with
    | false => exact iteF (k2 hb _ s3)
    | true => exact iteT ⟨.ref r, rfl, .ref a, rfl, .ref r, rfl, a, _, rfl, hg _ s3, k1 hb _ s3⟩
  · rw [map_self] at eD
    have hDn : H D = none := (show L2.upd H a _ D = none from hD) ▸ (upd_ne nDa).symm
    have F2 : Fin (chooseL l L) := ⟨fl.nd.sublist (List.filter_sublist.map _), fun p hp => fl.nz p (List.mem_filter.mp hp).1⟩
    refine ⟨e _ _ hz, q _ D (chooseL l L) (same_unlock t.at' e) hDn ⟨?_, F2.nd, Nat.le_trans (List.length_filter_le _ _) t.len⟩ F2 (fun _ => rfl) fun p hp => List.mem_map.mpr ⟨p, hp, rfl⟩⟩
    rw [upd_ne nDa]
    exact eD
def spMap (K : PySem.W.Frag) : Sp := fun vs H Q _ => ∃ (n a : Addr) (xs : List V) (v : V) (ts : List Tm) (L : Tly), vs = [.ref n, .ref a] ∧ H n = some (.tup xs) ∧ xs[2]? = some v ∧ Da K H v (tsD ts) ∧ TalAt H a L ∧ ts.length ≤ 1000 ∧ (∀ p ∈ L, ∀ t ∈ ts, VOk t p.1) ∧ Gives H Q (mapL ts L)
theorem d_work_map (B : Bt mg) (T : Top K mg "work_map" swork_map ["node", "counts"]) (Dvalues_of : Def P w K mg base "values_of" 2 ["terms", "row"] (spValues K)) (Dtally_of : Def P w K mg base "tally_of" 2 ["pairs"] (spTally K)) : Def P w K mg base "work_map" 3 ["node", "counts"] (spMap K) := by
  refine mk_def T scwork_map (by rintro _ _ _ _ ⟨_, _, _, _, _, _, rfl, _⟩; rfl) fun f cdv A outer s H vs Q E hr h => ?_
  obtain ⟨n, a, xs, v, ts, L, rfl, hn, hv, hd, t, hl, ok, q⟩ := h
  refine ⟨_, (pss_one (ps_ret (pe_def Dtally_of (hr.mono (by first | decide | omega)) (by rfl) (pa_cons (pe_lock (pe_lc (own := [("row", 2)]) (g := (gName 2)) (tt := tYes) (te := (tTup (tCons (tCall (spValues K) [] E0 (tCons (tOp (rIxT K) (tVar 0) (tC (.int 2))) (tCons (tVar 2) tNil))) (tCons (tDGet (tVar 1) (tVar 2)) tNil)))) rfl scwork_map.nd (pi_keys (pv 1)) (blkOk_by (own := [("row", 2)]) (N := Nwork_map) (sc := defScope swork_map) (by decide +kernel)) (fun _ _ _ _ _ => (pg_name (i := 2) scwork_map.nd rfl (Or.inl rfl))) (fun _ _ _ _ _ => pts_nil) (fun _ _ _ _ _ => (pe_tup (pa_cons (pe_def Dvalues_of (hr.mono (by first | decide | omega)) (by rfl) (pa_cons (pe_ix ix_tup (pv 0) pe_int (fun _ _ => rfl)) (pa_cons (pv 2) pa_nil))) (pa_cons (pe_dget (hu_of hr) (pv 1) (pv 2) (fun _ _ => rfl)) pa_nil)))))) pa_nil)))), ?_⟩
  refine ⟨a, _, t.at', True.intro, fun od => ?_⟩
  have hz : L2.upd H a (.frz od (.dT (rowD L))) a = some (.frz od (.dT (rowD L))) := upd_same
  have nna : n ≠ a := ne_of hn t.at' (fun z => nomatch z)
  have st : ST K H (L2.upd H a (.frz od (.dT (rowD L)))) := st_upd t.at' True.intro
  have hn1 : L2.upd H a (.frz od (.dT (rowD L))) n = some (.tup xs) := by rw [upd_ne nna]; exact hn
  have hd1 : Da K (L2.upd H a (.frz od (.dT (rowD L)))) v (tsD ts) := Da.st st _ _ (imm_tms ts) hd
  refine ⟨.ref a, rfl, a, od, rfl, .inr ⟨_, hz, fun D hD => ?_⟩⟩
  have nDa : D ≠ a := (ne_of_none hz hD).symm
  refine lc_dat (K := K) (walk_keysT (kvs := rowD L)) hD (by have := t.len; simp; omega) (fun H2 e => e _ _ hz) ((mapL ts L).map pairD) (by simp [mapL]) (imm_pairs _) (fun i x H2 H3 Q' hi e y kk => ?_) (fun H2 acc e eD dD => ?_)
  · obtain ⟨rfl, k, u, r, hk, rfl, hq⟩ := y
    obtain ⟨p, hp, hr'⟩ := key_row hk hq
    refine ⟨rfl, .ref n, rfl, n, _, _, v, rfl, rfl, SqT.of (e _ _ hn1), atI_nat (j := 2) hv, .ref r, rfl, v, .ref r, ts, p.1, rfl, Da.same e _ _ hd1, Mo.of hr', hl, ok p (List.mem_of_getElem? hp), fun H4 z s4 hm => ?_⟩
    obtain ⟨b, rfl, hb⟩ := hm.trk
    have hg : DGet H4 a (.ref r) (some (.int p.2)) := by
      rw [← cnt_in t.nd (List.mem_of_getElem? hp)]
      exact dget_row_in (.inr ⟨od, s4 _ _ (e _ _ hz)⟩) t.nd (s4 _ _ hr') (List.mem_map.mpr ⟨p, List.mem_of_getElem? hp, rfl⟩)
    refine ⟨.ref a, rfl, .ref r, rfl, a, _, rfl, hg, by show 2 ≤ sizeLine; decide, fun g hgn => ?_⟩
    refine kk _ _ (pairD (midT ts p.1, p.2)) (s4.trans (same_upd hgn)) ?_ (da_pair upd_same ?_)
    · rw [mapL, List.map_map, List.getElem?_map, hp]
      rfl
    · unfold RowAt
      rw [upd_ne (ne_of_none hb hgn)]
      exact hb
  · have hDn : H D = none := (show L2.upd H a _ D = none from hD) ▸ (upd_ne nDa).symm
    have e2 := same_unlock t.at' e
    have st2 : ST K H2 (L2.upd H2 a (.dT (rowD L))) := st_upd (e _ _ hz) True.intro
    have eD2 : L2.upd H2 a (.dT (rowD L)) D = some (.lst acc) := by rw [upd_ne nDa]; exact eD
    refine ⟨e _ _ hz, D, acc, mapL ts L, rfl, eD2, da_pairs (Da.stAll st2 _ _ (imm_pairs _) dD), by rw [mapL, List.length_map]; exact t.len, fun H3 b T s3 hb tb fb cb kb => q H3 b T (e2.trans s3) (e2.new hb) tb fb cb kb⟩
def spWPlus : Sp := fun vs H Q _ => ∃ (v : V) (a b : Addr) (L M : Tly), vs = [v, .ref a, .ref b] ∧ TalAt H a L ∧ TalAt H b M ∧ L.length + M.length ≤ 5000 ∧ Gives H Q (L ++ M)
theorem d_work_plus (B : Bt mg) (T : Top K mg "work_plus" swork_plus ["_", "left", "right"]) (Dplus : Def P w K mg base "plus" 2 ["first", "second"] spPlus) : Def P w K mg base "work_plus" 3 ["_", "left", "right"] spWPlus := by
  refine mk_def T scwork_plus (by rintro _ _ _ _ ⟨_, _, _, _, _, rfl, _⟩; rfl) fun f cdv A outer s H vs Q E hr h => ?_
  obtain ⟨v, a, b, L, M, rfl, ta, tb, hn, q⟩ := h
  refine ⟨_, (pss_one (ps_ret (pe_def Dplus (hr.mono (by first | decide | omega)) (by rfl) (pa_cons (pv 1) (pa_cons (pv 2) pa_nil))))), ?_⟩
  refine ⟨.ref a, rfl, .ref b, rfl, a, b, L, M, rfl, ta, tb, hn, fun H' c T s1 hc tc fc cc kc => q H' c T s1 hc tc fc (fun k => by rw [cc, Tl.cnt_append]) fun p hp => ?_⟩
  unfold keys
  rw [List.map_append]
  exact List.mem_append.mpr (kc p hp)
def spWLess : Sp := fun vs H Q _ => ∃ (v : V) (a b : Addr) (L M : Tly), vs = [v, .ref a, .ref b] ∧ TalAt H a L ∧ TalAt H b M ∧ L.length + M.length ≤ 5000 ∧ Gives H Q (lessL L M)
theorem d_work_less (B : Bt mg) (T : Top K mg "work_less" swork_less ["_", "left", "right"]) (Dplus : Def P w K mg base "plus" 2 ["first", "second"] spPlus) (Dtimes : Def P w K mg base "times" 2 ["counts", "factor"] spTimes) : Def P w K mg base "work_less" 3 ["_", "left", "right"] spWLess := by
  refine mk_def T scwork_less (by rintro _ _ _ _ ⟨_, _, _, _, _, rfl, _⟩; rfl) fun f cdv A outer s H vs Q E hr h => ?_
  obtain ⟨v, a, b, L, M, rfl, ta, tb, hn, q⟩ := h
  refine ⟨_, (pss_one (ps_ret (pe_def Dplus (hr.mono (by first | decide | omega)) (by rfl) (pa_cons (pv 1) (pa_cons (pe_def Dtimes (hr.mono (by first | decide | omega)) (by rfl) (pa_cons (pv 2) (pa_cons (pe_un un_neg pe_int) pa_nil))) pa_nil))))), ?_⟩
  have ln := nz_len (M.map fun p => (p.1, -p.2))
  rw [List.length_map] at ln
  refine ⟨.ref a, rfl, .ref b, rfl, 1, rfl, b, M, rfl, tb, fun H1 b1 s1 hb1 tb1 => ?_⟩
  refine ⟨a, b1, L, _, rfl, ta.same s1, tb1, by omega, fun H' c T s2 hc tc fc cc kc => q H' c T (s1.trans s2) (s1.new hc) tc fc (fun k => by rw [cc, cnt_nz, lessL, Tl.cnt_append]) fun p hp => ?_⟩
  unfold keys lessL
  rw [List.map_append]
  exact List.mem_append.mpr ((kc p hp).imp id fun z => by
    obtain ⟨r, hr, e⟩ := List.mem_map.mp z
    exact List.mem_map.mpr ⟨r, (List.mem_filter.mp hr).1, e⟩)
end
end K18

namespace K18
open PySem PySem.Spec PyProof.Rows L2 RW9 Tl
def joinL (cols : List (Int × Int)) (L M : Tly) : Tly := (L.map fun p => (inG (cols.map (·.2)) (pickL (cols.map (·.1)) p.1) M).map fun q => (p.1 ++ q.1, p.2 * q.2)).flatten
theorem join_len (cols : List (Int × Int)) (L M : Tly) : (joinL cols L M).length ≤ L.length * M.length := by
  unfold joinL
  induction L with
  | nil => simp
  | cons p L ih =>
    rw [List.map_cons, List.flatten_cons, List.length_append, List.length_map, List.length_cons, Nat.succ_mul]
    have := List.length_filter_le (fun q : List Int × Int => decide (pickL (cols.map (·.2)) q.1 = pickL (cols.map (·.1)) p.1)) M
    have h2 : (inG (cols.map (·.2)) (pickL (cols.map (·.1)) p.1) M).length ≤ M.length := this
    omega
theorem map_getDL {β : Type} (f : List Int × Int → β) (L : Tly) : ((List.range L.length).map fun i => f (L.getD i ([], 0))) = L.map f := by
  refine List.ext_getElem? fun i => ?_
  rw [List.getElem?_map, List.getElem?_map]
  by_cases h : i < L.length
  · rw [List.getElem?_range h, List.getElem?_eq_getElem h]
    simp [h]
  · rw [List.getElem?_eq_none (by simp; omega), List.getElem?_eq_none (by omega)]
    rfl
section
variable {P : Program} {w : World} {K : PySem.W.Frag} {mg : Str → Option Value} {base : Heap} {C : Addr}
structure JoinOk (cols : List (Int × Int)) (L M : Tly) : Prop where
  len : cols.length ≤ 1000
  l : ∀ p ∈ L, ColOk (cols.map (·.1)) p.1
  r : ∀ q ∈ M, ColOk (cols.map (·.2)) q.1
  mul : ∀ p ∈ L, ∀ q ∈ M, CMulW p.2 q.2
  few : L.length * M.length ≤ 5000
  wid : ∀ p ∈ L, ∀ q ∈ M, p.1.length + q.1.length ≤ 1000
def spJoin (K : PySem.W.Frag) : Sp := fun vs H Q _ => ∃ (n a b : Addr) (xs : List V) (v : V) (cols : List (Int × Int)) (L M : Tly), vs = [.ref n, .ref a, .ref b] ∧ H n = some (.tup xs) ∧ xs[3]? = some v ∧ Da K H v (ptD cols) ∧ TalAt H a L ∧ TalAt H b M ∧ JoinOk cols L M ∧ Gives H Q (joinL cols L M)
theorem d_work_join (B : Bt mg) (T : Top K mg "work_join" swork_join ["node", "left", "right"]) (Dpicked : Def P w K mg base "picked" 1 ["row", "columns"] spPicked) (Dby_values : Def P w K mg base "by_values" 2 ["rows", "columns"] spByValues) (Dtally_of : Def P w K mg base "tally_of" 2 ["pairs"] (spTally K)) : Def P w K mg base "work_join" 3 ["node", "left", "right"] (spJoin K) := by
  refine mk_def T scwork_join (by rintro _ _ _ _ ⟨_, _, _, _, _, _, _, _, rfl, _⟩; rfl) fun f cdv A outer s H vs Q E hr h => ?_
  obtain ⟨n, a, b, xs, v, cols, L, M, rfl, hn, hv, hd, ta, tb, ok, q⟩ := h
  refine ⟨_, (pss_cons (ps_set (i := 3) scwork_join.nd rfl (Or.inr rfl) (pe_lc (own := [("pair", 4)]) (g := (gName 4)) (tt := tYes) (te := (tOp (rIxT K) (tVar 4) (tC (.int 0)))) rfl scwork_join.nd (pi_tup (pe_ix ix_tup (pv 0) pe_int (fun _ _ => rfl))) (blkOk_by (own := [("pair", 4)]) (N := Nwork_join) (sc := defScope swork_join) (by decide +kernel)) (fun _ _ _ _ _ => (pg_name (i := 4) scwork_join.nd rfl (Or.inl rfl))) (fun _ _ _ _ _ => pts_nil) (fun _ _ _ _ _ => (pe_ix ix_tup (pv 4) pe_int (fun _ _ => rfl)))))
      (pss_cons (ps_set (i := 5) scwork_join.nd rfl (Or.inr rfl) (pe_def Dby_values (hr.mono (by first | decide | omega)) (by rfl) (pa_cons (pv 2) (pa_cons (pe_lc (own := [("pair", 4)]) (g := (gName 4)) (tt := tYes) (te := (tOp (rIxT K) (tVar 4) (tC (.int 1)))) rfl scwork_join.nd (pi_tup (pe_ix ix_tup (pv 0) pe_int (fun _ _ => rfl))) (blkOk_by (own := [("pair", 4)]) (N := Nwork_join) (sc := defScope swork_join) (by decide +kernel)) (fun _ _ _ _ _ => (pg_name (i := 4) scwork_join.nd rfl (Or.inl rfl))) (fun _ _ _ _ _ => pts_nil) (fun _ _ _ _ _ => (pe_ix ix_tup (pv 4) pe_int (fun _ _ => rfl)))) pa_nil))))
      (pss_one (ps_ret (pe_def Dtally_of (hr.mono (by first | decide | omega)) (by rfl) (pa_cons (pe_lock (pe_lc2 (own := [("row", 6), ("match", 7)]) (g := (gName 6)) (tt := tYes) (wi1 := (iList K (tDGet2 (tVar 5) (tCall spPicked [] E0 (tCons (tVar 6) (tCons (tVar 3) tNil))) (tLst tNil)))) (g1 := (gName 7)) (tt1 := tYes) (te := (tTup (tCons (tOp (rCatA K) (tVar 6) (tVar 7)) (tCons (tOp yMulW (tDGet (tVar 1) (tVar 6)) (tDGet (tVar 2) (tVar 7))) tNil)))) rfl scwork_join.nd (pi_keys (pv 1)) (blkOk_by (own := [("row", 6), ("match", 7)]) (N := Nwork_join) (sc := defScope swork_join) (by decide +kernel)) (vs1 := [7]) (by decide) (fun _ _ _ _ _ => (pg_name (i := 6) scwork_join.nd rfl (Or.inl rfl))) (fun _ _ _ _ _ => pts_nil) (fun _ _ _ _ _ => (pi_list (pe_dget2 (hu_of hr) (pv 5) (pe_def Dpicked (hr.mono (by first | decide | omega)) (by rfl) (pa_cons (pv 6) (pa_cons (pv 3) pa_nil))) (pe_lst pa_nil) ⟨by rfl, by rfl, by rfl, by rfl⟩))) (fun _ _ _ _ _ => (pg_name (i := 7) scwork_join.nd rfl (Or.inl rfl))) (fun _ _ _ _ _ => pts_nil) (fun _ _ _ _ _ => (pe_tup (pa_cons (pe_op op_catA (pv 6) (pv 7)) (pa_cons (pe_op op_mulW (pe_dget (hu_of hr) (pv 1) (pv 6) (fun _ _ => rfl)) (pe_dget (hu_of hr) (pv 2) (pv 7) (fun _ _ => rfl))) pa_nil)))))) pa_nil)))))), ?_⟩
  obtain ⟨nv, ys, rfl, hnv, hy⟩ := Da.ptI hd
  have lc : ys.length = cols.length := by rw [hy.length, List.length_map]
  have hcl := ok.len
  refine ⟨.ref n, rfl, n, _, _, .ref nv, rfl, rfl, SqT.of hn, atI_nat (j := 3) hv, nv, rfl, ⟨_, SqT.of hnv⟩, fun D1 hD1 => ?_⟩
  refine lc_val (walk_tup (K := K)) hD1 (by omega) (fun H1 e => e.seqT (SqT.of hnv)) ((cols.map (·.1)).map V.int) (by simp [lc]) (fun i x H1 H2 Q' hi e y k => ?_) (fun H1 e1 eD1 => ?_)
  · obtain ⟨rfl, hxi⟩ := y
    obtain ⟨d, hd', hdx⟩ := hy.get hxi
    obtain ⟨q0, hq0, rfl⟩ := at_map hd'
    obtain ⟨r, rfl, hr0⟩ := Da.prI (Da.same e _ _ hdx)
    refine ⟨rfl, .ref r, rfl, r, _, _, .int q0.1, rfl, rfl, SqT.of hr0, atI_nat (j := 0) rfl, k _ _ (Same.refl _) ?_⟩
    rw [List.getElem?_map, List.getElem?_map, hq0]
    rfl
  refine ⟨.ref b, rfl, .ref n, rfl, n, _, _, .ref nv, rfl, rfl, SqT.of (e1 _ _ hn), atI_nat (j := 3) hv, nv, rfl, ⟨_, SqT.of (e1 _ _ hnv)⟩, fun D2 hD2 => ?_⟩
  refine lc_val (walk_tup (K := K)) hD2 (by omega) (fun H2 e => e.seqT (SqT.of (e1 _ _ hnv))) ((cols.map (·.2)).map V.int) (by simp [lc]) (fun i x H2 H3 Q' hi e y k => ?_) (fun H2 e2 eD2 => ?_)
  · obtain ⟨rfl, hxi⟩ := y
    obtain ⟨d, hd', hdx⟩ := hy.get hxi
    obtain ⟨q0, hq0, rfl⟩ := at_map hd'
    obtain ⟨r, rfl, hr0⟩ := Da.prI (Da.same (e1.trans e) _ _ hdx)
    refine ⟨rfl, .ref r, rfl, r, _, _, .int q0.2, rfl, rfl, SqT.of hr0, atI_nat (j := 1) rfl, k _ _ (Same.refl _) ?_⟩
    rw [List.getElem?_map, List.getElem?_map, hq0]
    rfl
  have e12 := e1.trans e2
  refine ⟨b, D2, M, cols.map (·.2), rfl, .inl (tb.same e12), .inl eD2, ok.r, by rw [List.length_map]; exact hcl, fun H3 G E3 s3 nG g => ?_⟩
  have e3 := e12.trans s3
  have eD1' : H3 D1 = some (.lst ((cols.map (·.1)).map V.int)) := s3 _ _ (e2 _ _ eD1)
  have ta3 := ta.same e3
  have tb3 := tb.same e3
  refine ⟨a, _, ta3.at', True.intro, fun od => ?_⟩
  have nGa : G ≠ a := fun z => by rw [z, e12 _ _ ta.at'] at nG; cases nG
  have nDa : D1 ≠ a := ne_of eD1' ta3.at' (fun z => nomatch z)
  have hz : L2.upd H3 a (.frz od (.dT (rowD L))) a = some (.frz od (.dT (rowD L))) := upd_same
  have hG4 : L2.upd H3 a (.frz od (.dT (rowD L))) G = some (.dT (grD E3)) := by rw [upd_ne nGa]; exact g.at'
  have hD4 : L2.upd H3 a (.frz od (.dT (rowD L))) D1 = some (.lst ((cols.map (·.1)).map V.int)) := by rw [upd_ne nDa]; exact eD1'
  have hb4 : Rd (L2.upd H3 a (.frz od (.dT (rowD L)))) b (.dT (rowD M)) := by
    by_cases z : b = a
    · refine .inr ⟨od, ?_⟩
      rw [z, upd_same]
      have h1 := tb3.at'
      rw [z, ta3.at'] at h1
      rw [Option.some.inj h1]
    · refine .inl ?_
      rw [upd_ne z]
      exact tb3.at'
  have row4 : ∀ c r, RowAt H3 c r → RowAt (L2.upd H3 a (.frz od (.dT (rowD L)))) c r := fun c r h => rowAt_upd h fun us z => by rw [ta3.at'] at z; cases z
  have lst4 : ∀ e ∈ E3, L2.upd H3 a (.frz od (.dT (rowD L))) e.2.1 = some (.lst (e.2.2.map V.ref)) ∧ Paired (fun (b : Addr) (p : List Int × Int) => RowAt (L2.upd H3 a (.frz od (.dT (rowD L)))) b p.1) e.2.2 (inG (cols.map (·.2)) e.1 M) := fun e he => by
    obtain ⟨h1, h2⟩ := g.lst e he
    refine ⟨?_, Paired.mapP h2 fun c r h => row4 _ _ h⟩
    rw [upd_ne (ne_of h1 ta3.at' (fun z => nomatch z))]
    exact h1
  refine ⟨.ref a, rfl, a, od, rfl, .inr ⟨_, hz, fun D hD => ?_⟩⟩
  have nDa2 : D ≠ a := (ne_of_none hz hD).symm
  have hDn : H3 D = none := (show L2.upd H3 a _ D = none from hD) ▸ (upd_ne nDa2).symm
  have unl := fun H' (e : Same (L2.upd H3 a (.frz od (.dT (rowD L)))) H') => same_unlock ta3.at' e
  generalize L2.upd H3 a (.frz od (.dT (rowD L))) = H4 at hz hG4 hD4 hb4 row4 lst4 hD unl ⊢
  have flat : ((List.range (rowD L).length).map fun i => ((inG (cols.map (·.2)) (pickL (cols.map (·.1)) (L.getD i ([], 0)).1) M).map fun q => ((L.getD i ([], 0)).1 ++ q.1, (L.getD i ([], 0)).2 * q.2)).map pairD).flatten = (joinL cols L M).map pairD := by
    rw [show (rowD L).length = L.length by simp, map_getDL (fun p => ((inG (cols.map (·.2)) (pickL (cols.map (·.1)) p.1) M).map fun q => (p.1 ++ q.1, p.2 * q.2)).map pairD) L, joinL, List.map_flatten, List.map_map]
    rfl
  have jl := join_len cols L M
  have few := ok.few
  refine lc2_datW (K := K) (walk_keysT (kvs := rowD L)) hD (fun H5 e => e _ _ hz) (fun i => ((inG (cols.map (·.2)) (pickL (cols.map (·.1)) (L.getD i ([], 0)).1) M).map fun q => ((L.getD i ([], 0)).1 ++ q.1, (L.getD i ([], 0)).2 * q.2)).map pairD) (by rw [flat, List.length_map]; omega) (fun i _ => imm_pairs _) (fun i x H5 H6 Q' hi e y k => ?_) (fun H5 acc e eD hacc => ?_)
  · obtain ⟨rfl, kk, u, r, hk, rfl, hq⟩ := y
    obtain ⟨p, hp, hr'⟩ := key_row hk hq
    have hpm := List.mem_of_getElem? hp
    have eg : L.getD i ([], 0) = p := by rw [List.getD_eq_getElem?_getD, hp]; rfl
    refine k _ _ (Same.refl _) rfl fun R hR => ?_
    refine ⟨.ref G, rfl, G, rfl, .inr ⟨_, .inl (e _ _ hG4)⟩, .ref r, rfl, .ref D1, rfl, r, D1, p.1, cols.map (·.1), rfl, hr', .inl (e _ _ hD4), ok.l p hpm, by rw [List.length_map]; exact hcl, fun H7 t s7 ht => ?_⟩
    refine ⟨by show 0 ≤ sizeLine; decide, fun z hzn => ?_⟩
    have s8 : Same H7 (L2.upd H7 z (.lst [])) := same_upd hzn
    have e8 : Same H4 (L2.upd H7 z (.lst [])) := (e.trans s7).trans s8
    have zat : L2.upd H7 z (.lst []) z = some (.lst []) := upd_same
    generalize L2.upd H7 z (.lst []) = H8 at s8 e8 zat ⊢
    have hgt : DGet H8 G (.ref t) (valV (grD E3) (rk (pickL (cols.map (·.1)) p.1))) := .inr ⟨_, _, t, .inl (e8 _ _ hG4), rfl, by rw [rk_kV]; exact s8 _ _ ht, rfl⟩
    refine ⟨_, hgt, ?_⟩
    cases hv2 : valV (grD E3) (rk (pickL (cols.map (·.1)) p.1)) with
    | none =>
      have hin : inG (cols.map (·.2)) (pickL (cols.map (·.1)) p.1) M = [] := g.out _ (gr_out hv2)
      refine ⟨z, rfl, ⟨_, SqL.of zat⟩, ?_⟩
      refine hR _ (fun H => SqL K H z []) _ H8 (s7.trans s8) (by rw [eg, hin]; exact walk_list (K := K) (xs := [])) (fun H9 e9 => SqL.of (e9 _ _ zat)) (fun z0 => ?_) (fun j y H9 H9' Q2 hj => ?_)
      · rw [eg, hin] at z0
        cases z0
      · rw [eg, hin] at hj
        cases hj
    | some v2 =>
      obtain ⟨e0, he0, ek0, rfl⟩ := gr_in hv2
      obtain ⟨l1, l2⟩ := lst4 e0 he0
      rw [ek0] at l2
      have lb := Paired.length l2
      refine ⟨e0.2.1, rfl, ⟨_, SqL.of (e8 _ _ l1)⟩, ?_⟩
      refine hR _ (fun H => SqL K H e0.2.1 (e0.2.2.map V.ref)) _ H8 (s7.trans s8) (by rw [eg, List.length_map, List.length_map, ← lb, ← List.length_map (f := V.ref)]; exact walk_list (K := K)) (fun H9 e9 => SqL.of (e9 _ _ (e8 _ _ l1))) (fun _ H9 e9 => SqL.of (e9 _ _ l1)) (fun j y H9 H9' Q2 hj e9 st9 hy k2 => ?_)
      obtain ⟨rfl, hyj⟩ := hy
      rw [List.getElem?_map] at hyj
      obtain ⟨c, hc, rfl⟩ := Option.map_eq_some_iff.mp hyj
      obtain ⟨q2, hq2, hcr⟩ := DX.pget (flipP l2) hc
      have hqm : q2 ∈ M := (List.mem_filter.mp (List.mem_of_getElem? hq2)).1
      have hr9 : RowAt H9' r p.1 := st9 _ _ (s8 _ _ (s7 _ _ hr'))
      have hc9 : RowAt H9' c q2.1 := e9 _ _ hcr
      have cat : ∀ Q3 : VK, (∀ H' u, Same H9' H' → RowAt H' u (p.1 ++ q2.1) → Q3 (.ref u) H') → rCatA K (.ref r) (.ref c) H9' Q3 := fun Q3 h => by
        refine ⟨r, c, p.1.map V.int, q2.1.map V.int, rfl, rfl, SqT.of hr9, SqT.of hc9, ?_, fun h0 => ?_, fun h0 h1 => ?_, fun h0 h1 u hu => ?_⟩
        · rw [List.length_map, List.length_map]
          exact Nat.le_trans (ok.wid p hpm q2 hqm) (by decide)
        · refine h _ c (Same.refl _) ?_
          rw [List.map_eq_nil_iff.mp h0]
          exact hc9
        · refine h _ r (Same.refl _) ?_
          rw [List.map_eq_nil_iff.mp h1, List.append_nil]
          exact hr9
        · refine h _ u (same_upd hu) ?_
          unfold RowAt
          rw [upd_same, List.map_append]
      refine ⟨rfl, .ref r, rfl, .ref c, rfl, cat _ fun H10 u2 s10 hu => ?_⟩
      have hgl : DGet H10 a (.ref r) (some (.int p.2)) := by
        rw [← cnt_in ta.nd hpm]
        exact dget_row_in (.inr ⟨od, s10 _ _ (e9 _ _ hz)⟩) ta.nd (s10 _ _ hr9) (List.mem_map.mpr ⟨p, hpm, rfl⟩)
      have hgr : DGet H10 b (.ref c) (some (.int q2.2)) := by
        rw [← cnt_in tb.nd hqm]
        exact dget_row_in (hb4.imp (fun z => s10 _ _ (e9 _ _ z)) fun ⟨o2, z⟩ => ⟨o2, s10 _ _ (e9 _ _ z)⟩) tb.nd (s10 _ _ hc9) (List.mem_map.mpr ⟨q2, hqm, rfl⟩)
      refine ⟨.ref a, rfl, .ref r, rfl, a, _, rfl, hgl, .ref b, rfl, .ref c, rfl, b, _, rfl, hgr, _, _, rfl, rfl, ok.mul p hpm q2 hqm, by show 2 ≤ sizeLine; decide, fun t2 ht2 => k2 _ _ (pairD (p.1 ++ q2.1, p.2 * q2.2)) (s10.trans (same_upd ht2)) ?_ (da_pair upd_same ?_)⟩
      · rw [eg, List.map_map, List.getElem?_map, hq2]
        rfl
      · unfold RowAt
        rw [upd_ne (ne_of_none hu ht2)]
        exact hu
  · rw [flat] at hacc
    have st2 : ST K H5 (L2.upd H5 a (.dT (rowD L))) := st_upd (e _ _ hz) True.intro
    have eD2 : L2.upd H5 a (.dT (rowD L)) D = some (.lst acc) := by rw [upd_ne nDa2]; exact eD
    have e6 := e3.trans (unl H5 e)
    refine ⟨e _ _ hz, D, acc, joinL cols L M, rfl, eD2, da_pairs (Da.stAll st2 _ _ (imm_pairs _) hacc), by omega, fun H7 b2 T2 s7 hb tb2 fb cb kb => q H7 b2 T2 (e6.trans s7) (e6.new hb) tb2 fb cb kb⟩
end
end K18

namespace K18
open PySem PySem.Spec PyProof.Rows L2 RW9 Tl
def posL (L : Tly) : Tly := L.filter fun p => decide (0 < p.2)
abbrev RowsP (H : Hp) (bs : List Addr) (L : Tly) : Prop := Paired (fun (b : Addr) (p : List Int × Int) => RowAt H b p.1) bs L
/-- {row: f for row in l}: l a list of rows -/
theorem dc_list {K : PySem.W.Frag} {L : Tly} {a D : Addr} {bs : List Addr} {H1 : Hp} (hz : H1 a = some (.lst (bs.map V.ref))) (hbs : RowsP H1 bs L) (nd : (keys L).Nodup) (hl : L.length ≤ 100000) {g : TG} {tt : TT} {tk tv : TE} {vs : List Nat} {σ : L2.St} {Qd : Hp → Prop} (hD : H1 D = none) (fs : List Int × Int → Int)
    (step : ∀ (p : List Int × Int) (q : Addr) (H2 : Hp) (Q2 : V → V → Hp → Prop) (R : Hp → Prop), p ∈ L → Same H1 H2 → RowAt H2 q p.1 → (∀ H4, Same H2 H4 → Q2 (.ref q) (.int (fs p)) H4) →
      g (.ref q) (wipe σ vs) H2 fun σ2 H2' => wipe σ2 vs = wipe σ vs ∧ tt σ2 H2' fun b H3 => if b = true then tk σ2 H3 fun y H4 => tv σ2 H4 fun z H5 => Q2 y z H5 else R H3)
    (hd : ∀ H', Same H1 H' → H' D = some (.dT (rowD (L.map fun p => (p.1, fs p)))) → Qd H') : DcGoal (Itl K a) (.dT []) g tt tk tv vs σ H1 D Qd := by
  have en : (bs.map V.ref).length = L.length := by rw [List.length_map]; exact hbs.length
  refine dcP_it (walk_list (K := K) (xs := bs.map V.ref)) (fun i H' => Same H1 H' ∧ H' D = some (.dT (rowD ((L.take i).map fun p => (p.1, fs p))))) ⟨same_upd hD, upd_same⟩ (fun i H' _ p => SqL.of (p.1 _ _ hz)) (fun i x H2 H3 hi pv y => ?_) (fun H' pv => ?_)
  · obtain ⟨rfl, hx⟩ := y
    rw [List.getElem?_map] at hx
    obtain ⟨q, hq, rfl⟩ := Option.map_eq_some_iff.mp hx
    obtain ⟨p, hp, hr⟩ := DX.pget (flipP hbs) hq
    have ht : L.take (i + 1) = L.take i ++ [p] := by rw [List.take_add_one, hp]; rfl
    have hnew : p.1 ∉ keys ((L.take i).map fun p => (p.1, fs p)) := by
      intro h1
      obtain ⟨p1, hp1, e1⟩ := List.mem_map.mp h1
      obtain ⟨p2, hin, e2⟩ := List.mem_map.mp hp1
      have hn2 : (keys (L.take (i + 1))).Nodup := nd.sublist ((List.take_sublist _ _).map _)
      rw [ht, keys, List.map_append] at hn2
      refine (List.nodup_append.mp hn2).2.2 p2.1 (List.mem_map.mpr ⟨p2, hin, rfl⟩) p.1 (by simp) ?_
      rw [← e1, ← e2]
    refine step p q _ _ _ (List.mem_of_getElem? hp) pv.1 (pv.1 _ _ hr) (fun H4 e4 => ?_)
    have hD4 := e4 _ _ pv.2
    refine ⟨_, dput_row hD4 (e4 _ _ (pv.1 _ _ hr)) ?_, (pv.1.trans e4).mut hD, ?_⟩
    · rw [List.length_map]
      refine Nat.lt_of_le_of_lt (List.length_take_le _ _) ?_
      rw [en] at hi
      exact Nat.lt_of_lt_of_le hi (Nat.le_trans hl (by decide))
    · rw [upd_same, putL_new hnew, ht, List.map_append]
      rfl
  · have e : L.take (bs.map V.ref).length = L := by rw [List.take_of_length_le]; omega
    rw [e] at pv
    exact hd H' pv.1 pv.2
section
variable {P : Program} {w : World} {K : PySem.W.Frag} {mg : Str → Option Value} {base : Heap} {C : Addr}
def spPositive : Sp := fun vs H Q _ => ∃ (a : Addr) (L : Tly), vs = [.ref a] ∧ TalAt H a L ∧ ∀ H' D bs, Same H H' → H D = none → H' D = some (.lst (bs.map V.ref)) → RowsP H' bs (posL L) → Q (.ref D) H'
theorem d_positive (B : Bt mg) (T : Top K mg "positive" spositive ["counts"]) : Def P w K mg base "positive" 1 ["counts"] spPositive := by
  refine mk_def T scpositive (by rintro _ _ _ _ ⟨_, _, rfl, _⟩; rfl) fun f cdv A outer s H vs Q E hr h => ?_
  obtain ⟨a, L, rfl, t, q⟩ := h
  refine ⟨_, (pss_one (ps_ret (pe_lock (pe_lc (own := [("row", 1)]) (g := (gName 1)) (tt := (tTest (tOp yGt (tDGet (tVar 0) (tVar 1)) (tC (.int 0))))) (te := (tVar 1)) rfl scpositive.nd (pi_keys (pv 0)) (blkOk_by (own := [("row", 1)]) (N := Npositive) (sc := defScope spositive) (by decide +kernel)) (fun _ _ _ _ _ => (pg_name (i := 1) scpositive.nd rfl (Or.inl rfl))) (fun _ _ _ _ _ => (pts_one (pt_cmpR op_gt (pe_dget (hu_of hr) (pv 0) (pv 1) (fun _ _ => rfl)) pe_int (nomark _)))) (fun _ _ _ _ _ => (pv 1)))))), ?_⟩
  refine ⟨a, _, t.at', True.intro, fun od => ?_⟩
  have hz : L2.upd H a (.frz od (.dT (rowD L))) a = some (.frz od (.dT (rowD L))) := upd_same
  refine ⟨.ref a, rfl, a, od, rfl, .inr ⟨_, hz, fun D hD => ?_⟩⟩
  have nDa : D ≠ a := (ne_of_none hz hD).symm
  have hDn : H D = none := (show L2.upd H a _ D = none from hD) ▸ (upd_ne nDa).symm
  have unl := fun H' (e : Same (L2.upd H a (.frz od (.dT (rowD L)))) H') => same_unlock t.at' e
  generalize L2.upd H a (.frz od (.dT (rowD L))) = H1 at hz hD unl ⊢
  have hl := t.len
  refine lc_it (walk_keysT (kvs := rowD L)) (fun i H2 => Same H1 H2 ∧ ∃ bs : List Addr, H2 D = some (.lst (bs.map V.ref)) ∧ RowsP H2 bs (posL (L.take i))) ⟨same_upd hD, [], upd_same, .nil⟩ (fun i H2 _ p => p.1 _ _ hz) (fun i x H2 H3 hi pv y => ?_) (fun H2 pv => ?_)
  · obtain ⟨e, bs, eD, hbs⟩ := pv
    obtain ⟨rfl, k, v, r, hk, rfl, hq⟩ := y
    obtain ⟨p, hp, hr'⟩ := key_row hk hq
    have hpm := List.mem_of_getElem? hp
    have ht : posL (L.take (i + 1)) = posL (L.take i) ++ posL [p] := by rw [List.take_add_one, hp]; exact List.filter_append ..
    have hg : DGet H3 a (.ref r) (some (.int p.2)) := by
      rw [← cnt_in t.nd hpm]
      exact dget_row_in (.inr ⟨od, e _ _ hz⟩) t.nd hr' (List.mem_map.mpr ⟨p, hpm, rfl⟩)
    refine ⟨rfl, .ref a, rfl, .ref r, rfl, a, _, rfl, hg, _, _, rfl, rfl, _, rfl, ?_⟩
    by_cases hpos : (0 : Int) < p.2
    · rw [decide_eq_true hpos]
      refine iteT ⟨.ref r, rfl, bs.map V.ref, eD, ?_, e.mut hD, bs ++ [r], ?_, ?_⟩
      · rw [List.length_map, hbs.length]
        exact Nat.lt_of_le_of_lt (Nat.le_trans (List.length_filter_le _ _) (Nat.le_trans (List.take_sublist _ _).length_le hl)) (by decide)
      · rw [upd_same, List.map_append]
        rfl
      · rw [ht, show posL [p] = [p] by simp [posL, hpos]]
        exact Paired.snoc (Paired.mapP hbs fun b p h => rowAt_upd h fun us z => by rw [eD] at z; cases z) (rowAt_upd hr' fun us z => by rw [eD] at z; cases z)
    · rw [decide_eq_false hpos]
      refine iteF ⟨e, bs, eD, ?_⟩
      rw [ht, show posL [p] = [] by simp [posL, hpos], List.append_nil]
      exact hbs
  · obtain ⟨e, bs, eD, hbs⟩ := pv
    rw [show L.take (rowD L).length = L by rw [List.take_of_length_le]; simp] at hbs
    have hD2 := unl _ e
    have naD : D ≠ a := nDa
    refine ⟨e _ _ hz, q _ D bs hD2 hDn (by rw [upd_ne naD]; exact eD) (Paired.mapP hbs fun b p h => rowAt_upd h fun us z => by rw [e _ _ hz] at z; cases z)⟩
def distinctL (L : Tly) : Tly := (posL L).map fun p => (p.1, 1)
def spDistinct : Sp := fun vs H Q _ => ∃ (v : V) (a : Addr) (L : Tly), vs = [v, .ref a] ∧ TalAt H a L ∧ Gives H Q (distinctL L)
theorem keys_distinct (L : Tly) : keys (distinctL L) = keys (posL L) := by
  unfold distinctL keys
  rw [List.map_map]
  rfl
theorem nd_pos {L : Tly} (h : (keys L).Nodup) : (keys (posL L)).Nodup := h.sublist (List.filter_sublist.map _)
theorem d_work_distinct (B : Bt mg) (T : Top K mg "work_distinct" swork_distinct ["_", "counts"]) (Dpositive : Def P w K mg base "positive" 1 ["counts"] spPositive) : Def P w K mg base "work_distinct" 3 ["_", "counts"] spDistinct := by
  refine mk_def T scwork_distinct (by rintro _ _ _ _ ⟨_, _, _, rfl, _⟩; rfl) fun f cdv A outer s H vs Q E hr h => ?_
  obtain ⟨v, a, L, rfl, t, q⟩ := h
  refine ⟨_, (pss_one (ps_ret (pe_dcP fresh_T (hu0 hr) (own := [("row", 2)]) (g := (gName 2)) (tt := tYes) (tk := (tVar 2)) (tv := (tC (.int 1))) rfl scwork_distinct.nd (pi_list (pe_def Dpositive (hr.mono (by first | decide | omega)) (by rfl) (pa_cons (pv 1) pa_nil))) (blkOk_by (own := [("row", 2)]) (N := Nwork_distinct) (sc := defScope swork_distinct) (by decide +kernel)) (fun _ _ _ _ _ => (pg_name (i := 2) scwork_distinct.nd rfl (Or.inl rfl))) (fun _ _ _ _ _ => pts_nil) (fun _ _ _ _ _ => (pv 2)) (fun _ _ _ _ _ => pe_int)))), ?_⟩
  refine ⟨.ref a, rfl, a, L, rfl, t, fun H1 l bs e1 hl0 hl hbs => ?_⟩
  refine ⟨l, rfl, ⟨_, SqL.of hl⟩, fun D hD => ?_⟩
  have lp : (posL L).length ≤ 5000 := Nat.le_trans (List.length_filter_le _ _) t.len
  refine dc_list (K := K) hl hbs (nd_pos t.nd) (by omega) hD (fun _ => 1) (fun p q2 H2 Q2 R hp e2 hr' k1 => ?_) (fun H' e eD => ?_)
  · refine ⟨rfl, ?_⟩
    show if true = true then _ else R H2
    exact iteT ⟨.ref q2, rfl, k1 _ (Same.refl _)⟩
  · have F : Fin (distinctL L) := ⟨by rw [keys_distinct]; exact nd_pos t.nd, fun p hp => by
      obtain ⟨r, _, rfl⟩ := List.mem_map.mp hp
      show (1 : Int) ≠ 0
      decide⟩
    exact q H' D (distinctL L) (e1.trans e) (e1.new hD) ⟨eD, F.nd, by rw [distinctL, List.length_map]; exact lp⟩ F (fun _ => rfl) fun p hp => List.mem_map.mpr ⟨p, hp, rfl⟩
end
end K18

namespace K18
open PySem PySem.Spec PyProof.Rows L2 RW9 Tl
def matchB (cols : List (Int × Int)) (M : Tly) (r : List Int) : Bool := (posL M).any fun q => decide (pickL (cols.map (·.2)) q.1 = pickL (cols.map (·.1)) r)
def withoutL (cols : List (Int × Int)) (L M : Tly) : Tly := L.filter fun p => !matchB cols M p.1
structure WithOk (cols : List (Int × Int)) (L M : Tly) : Prop where
  len : cols.length ≤ 1000
  l : ∀ p ∈ L, ColOk (cols.map (·.1)) p.1
  r : ∀ q ∈ M, ColOk (cols.map (·.2)) q.1
section
variable {P : Program} {w : World} {K : PySem.W.Frag} {mg : Str → Option Value} {base : Heap} {C : Addr}
def spWithout (K : PySem.W.Frag) : Sp := fun vs H Q _ => ∃ (n a b : Addr) (xs : List V) (v : V) (cols : List (Int × Int)) (L M : Tly), vs = [.ref n, .ref a, .ref b] ∧ H n = some (.tup xs) ∧ xs[3]? = some v ∧ Da K H v (ptD cols) ∧ TalAt H a L ∧ Fin L ∧ TalAt H b M ∧ WithOk cols L M ∧ Gives H Q (withoutL cols L M)
theorem d_work_without (B : Bt mg) (T : Top K mg "work_without" swork_without ["node", "left", "right"]) (Dpicked : Def P w K mg base "picked" 1 ["row", "columns"] spPicked) (Dby_values : Def P w K mg base "by_values" 2 ["rows", "columns"] spByValues) (Dpositive : Def P w K mg base "positive" 1 ["counts"] spPositive) : Def P w K mg base "work_without" 3 ["node", "left", "right"] (spWithout K) := by
  refine mk_def T scwork_without (by rintro _ _ _ _ ⟨_, _, _, _, _, _, _, _, rfl, _⟩; rfl) fun f cdv A outer s H vs Q E hr h => ?_
  obtain ⟨n, a, b, xs, v, cols, L, M, rfl, hn, hv, hd, ta, fl, tb, ok, q⟩ := h
  refine ⟨_, (pss_cons (ps_set (i := 3) scwork_without.nd rfl (Or.inr rfl) (pe_lc (own := [("pair", 4)]) (g := (gName 4)) (tt := tYes) (te := (tOp (rIxT K) (tVar 4) (tC (.int 0)))) rfl scwork_without.nd (pi_tup (pe_ix ix_tup (pv 0) pe_int (fun _ _ => rfl))) (blkOk_by (own := [("pair", 4)]) (N := Nwork_without) (sc := defScope swork_without) (by decide +kernel)) (fun _ _ _ _ _ => (pg_name (i := 4) scwork_without.nd rfl (Or.inl rfl))) (fun _ _ _ _ _ => pts_nil) (fun _ _ _ _ _ => (pe_ix ix_tup (pv 4) pe_int (fun _ _ => rfl)))))
      (pss_cons (ps_set (i := 5) scwork_without.nd rfl (Or.inr rfl) (pe_def Dby_values (hr.mono (by first | decide | omega)) (by rfl) (pa_cons (pe_def Dpositive (hr.mono (by first | decide | omega)) (by rfl) (pa_cons (pv 2) pa_nil)) (pa_cons (pe_lc (own := [("pair", 4)]) (g := (gName 4)) (tt := tYes) (te := (tOp (rIxT K) (tVar 4) (tC (.int 1)))) rfl scwork_without.nd (pi_tup (pe_ix ix_tup (pv 0) pe_int (fun _ _ => rfl))) (blkOk_by (own := [("pair", 4)]) (N := Nwork_without) (sc := defScope swork_without) (by decide +kernel)) (fun _ _ _ _ _ => (pg_name (i := 4) scwork_without.nd rfl (Or.inl rfl))) (fun _ _ _ _ _ => pts_nil) (fun _ _ _ _ _ => (pe_ix ix_tup (pv 4) pe_int (fun _ _ => rfl)))) pa_nil))))
      (pss_one (ps_ret (pe_lock (pe_dcP fresh_T (hu0 hr) (own := [("row", 6)]) (g := (gName 6)) (tt := (tB (tDNotIn (tCall spPicked [] E0 (tCons (tVar 6) (tCons (tVar 3) tNil))) (tVar 5)))) (tk := (tVar 6)) (tv := (tDGet (tVar 1) (tVar 6))) rfl scwork_without.nd (pi_keys (pv 1)) (blkOk_by (own := [("row", 6)]) (N := Nwork_without) (sc := defScope swork_without) (by decide +kernel)) (fun _ _ _ _ _ => (pg_name (i := 6) scwork_without.nd rfl (Or.inl rfl))) (fun _ _ _ _ _ => (pts_one (pt_cmp (pc_dnotin (hu_of hr) (pe_def Dpicked (hr.mono (by first | decide | omega)) (by rfl) (pa_cons (pv 6) (pa_cons (pv 3) pa_nil))) (pv 5))))) (fun _ _ _ _ _ => (pv 6)) (fun _ _ _ _ _ => (pe_dget (hu_of hr) (pv 1) (pv 6) (fun _ _ => rfl))))))))), ?_⟩
  obtain ⟨nv, ys, rfl, hnv, hy⟩ := Da.ptI hd
  have lc : ys.length = cols.length := by rw [hy.length, List.length_map]
  have hcl := ok.len
  refine ⟨.ref n, rfl, n, _, _, .ref nv, rfl, rfl, SqT.of hn, atI_nat (j := 3) hv, nv, rfl, ⟨_, SqT.of hnv⟩, fun D1 hD1 => ?_⟩
  refine lc_val (walk_tup (K := K)) hD1 (by omega) (fun H1 e => e.seqT (SqT.of hnv)) ((cols.map (·.1)).map V.int) (by simp [lc]) (fun i x H1 H2 Q' hi e y k => ?_) (fun H1 e1 eD1 => ?_)
  · obtain ⟨rfl, hxi⟩ := y
    obtain ⟨d, hd', hdx⟩ := hy.get hxi
    obtain ⟨q0, hq0, rfl⟩ := at_map hd'
    obtain ⟨r, rfl, hr0⟩ := Da.prI (Da.same e _ _ hdx)
    refine ⟨rfl, .ref r, rfl, r, _, _, .int q0.1, rfl, rfl, SqT.of hr0, atI_nat (j := 0) rfl, k _ _ (Same.refl _) ?_⟩
    rw [List.getElem?_map, List.getElem?_map, hq0]
    rfl
  refine ⟨.ref b, rfl, b, M, rfl, tb.same e1, fun H2 l bs s2 hl0 hl hbs => ?_⟩
  have e2 := e1.trans s2
  have eD12 := s2 _ _ eD1
  refine ⟨.ref n, rfl, n, _, _, .ref nv, rfl, rfl, SqT.of (e2 _ _ hn), atI_nat (j := 3) hv, nv, rfl, ⟨_, SqT.of (e2 _ _ hnv)⟩, fun D2 hD2 => ?_⟩
  refine lc_val (walk_tup (K := K)) hD2 (by omega) (fun H3 e => e.seqT (SqT.of (e2 _ _ hnv))) ((cols.map (·.2)).map V.int) (by simp [lc]) (fun i x H3 H4 Q' hi e y k => ?_) (fun H3 e3 eD2 => ?_)
  · obtain ⟨rfl, hxi⟩ := y
    obtain ⟨d, hd', hdx⟩ := hy.get hxi
    obtain ⟨q0, hq0, rfl⟩ := at_map hd'
    obtain ⟨r, rfl, hr0⟩ := Da.prI (Da.same (e2.trans e) _ _ hdx)
    refine ⟨rfl, .ref r, rfl, r, _, _, .int q0.2, rfl, rfl, SqT.of hr0, atI_nat (j := 1) rfl, k _ _ (Same.refl _) ?_⟩
    rw [List.getElem?_map, List.getElem?_map, hq0]
    rfl
  have e23 := e2.trans e3
  have lp : (posL M).length ≤ 5000 := Nat.le_trans (List.length_filter_le _ _) tb.len
  refine ⟨l, D2, posL M, cols.map (·.2), rfl, .inr ⟨lp, bs, e3 _ _ hl, Paired.mapP hbs fun _ _ h => e3 _ _ h⟩, .inl eD2, (fun p hp => ok.r p (List.mem_filter.mp hp).1), by rw [List.length_map]; exact hcl, fun H5 G E3 s5 nG g => ?_⟩
  have e5 := e23.trans s5
  have eD15 : H5 D1 = some (.lst ((cols.map (·.1)).map V.int)) := s5 _ _ (e3 _ _ eD12)
  have ta5 := ta.same e5
  refine ⟨a, _, ta5.at', True.intro, fun od => ?_⟩
  have nGa : G ≠ a := fun z => by rw [z, e23 _ _ ta.at'] at nG; cases nG
  have nDa : D1 ≠ a := ne_of eD15 ta5.at' (fun z => nomatch z)
  have hz : L2.upd H5 a (.frz od (.dT (rowD L))) a = some (.frz od (.dT (rowD L))) := upd_same
  have hG6 : L2.upd H5 a (.frz od (.dT (rowD L))) G = some (.dT (grD E3)) := by rw [upd_ne nGa]; exact g.at'
  have hD6 : L2.upd H5 a (.frz od (.dT (rowD L))) D1 = some (.lst ((cols.map (·.1)).map V.int)) := by rw [upd_ne nDa]; exact eD15
  refine ⟨.ref a, rfl, a, od, rfl, .inr ⟨_, hz, fun D hD => ?_⟩⟩
  have nDa2 : D ≠ a := (ne_of_none hz hD).symm
  have hDn : H5 D = none := (show L2.upd H5 a _ D = none from hD) ▸ (upd_ne nDa2).symm
  have unl := fun H' (e : Same (L2.upd H5 a (.frz od (.dT (rowD L)))) H') => same_unlock ta5.at' e
  generalize L2.upd H5 a (.frz od (.dT (rowD L))) = H6 at hz hG6 hD6 hD unl ⊢
  have hmatch : ∀ r, matchB cols M r = (valV (grD E3) (rk (pickL (cols.map (·.1)) r))).isSome := fun r => by
    cases hv2 : valV (grD E3) (rk (pickL (cols.map (·.1)) r)) with
    | none =>
      have hin := g.out _ (gr_out hv2)
      show (posL M).any _ = false
      refine List.any_eq_false.mpr fun q0 hq0 => ?_
      have := List.filter_eq_nil_iff.mp hin q0 hq0
      exact this
    | some v2 =>
      obtain ⟨e0, he0, ek0, _⟩ := gr_in hv2
      obtain ⟨p0, hp0, ep⟩ := g.non e0 he0
      show (posL M).any _ = true
      exact List.any_eq_true.mpr ⟨p0, hp0, decide_eq_true (ep.trans ek0)⟩
  refine dc_rows hz ta.nd (by have := ta.len; omega) hD (fun p => !matchB cols M p.1) (fun p => p.2) (fun p r H7 Q2 R hp e7 hr' k1 k2 => ?_) (fun H7 e7 eD7 => ?_)
  · refine ⟨rfl, .ref r, rfl, .ref D1, rfl, r, D1, p.1, cols.map (·.1), rfl, hr', .inl (e7 _ _ hD6), ok.l p hp, by rw [List.length_map]; exact hcl, fun H8 t s8 ht => ?_⟩
    have hgt : DGet H8 G (.ref t) (valV (grD E3) (rk (pickL (cols.map (·.1)) p.1))) := .inr ⟨_, _, t, .inl (s8 _ _ (e7 _ _ hG6)), rfl, by rw [rk_kV]; exact ht, rfl⟩
    refine ⟨.ref G, rfl, G, _, rfl, hgt, _, rfl, ?_⟩
    rw [← hmatch]
    have hg : DGet H8 a (.ref r) (some (.int p.2)) := by
      rw [← cnt_in ta.nd hp]
      exact dget_row_in (.inr ⟨od, s8 _ _ (e7 _ _ hz)⟩) ta.nd (s8 _ _ hr') (List.mem_map.mpr ⟨p, hp, rfl⟩)
    cases hb : matchB cols M p.1 with
    | true => exact iteF (k2 (by rw [hb]; rfl) _ s8)
    | false => exact iteT ⟨.ref r, rfl, .ref a, rfl, .ref r, rfl, a, _, rfl, hg, k1 (by rw [hb]; rfl) _ s8⟩
  · rw [map_self] at eD7
    have F2 : Fin (withoutL cols L M) := ⟨fl.nd.sublist (List.filter_sublist.map _), fun p hp => fl.nz p (List.mem_filter.mp hp).1⟩
    refine ⟨e7 _ _ hz, q _ D (withoutL cols L M) (e5.trans (unl _ e7)) (e5.new hDn) ⟨?_, F2.nd, Nat.le_trans (List.length_filter_le _ _) ta.len⟩ F2 (fun _ => rfl) fun p hp => List.mem_map.mpr ⟨p, hp, rfl⟩⟩
    rw [upd_ne nDa2]
    exact eD7
end
end K18

namespace K18
open PySem PySem.Spec PyProof.Rows L2 RW9 Tl
/-! ### what a group is worth -/
/-- a sort: 0 count, 1 sum, 2 least, 3 greatest; its column -/
structure Srt where
  k : Nat
  c : Int
def srtW (k : Nat) : Str := if k = 1 then "sum" else if k = 2 then "least" else "greatest"
def srtV (s : Srt) : List V := if s.k = 0 then [.str "count"] else [.str (srtW s.k), .int s.c]
def srtD (s : Srt) : PyData := if s.k = 0 then .tuple [.str "count"] else .tuple [.str (srtW s.k), .int s.c]
abbrev SrtAt (H : Hp) (b : Addr) (s : Srt) : Prop := H b = some (.tup (srtV s))
def lsMin : List Int → Int
  | [] => 0
  | [x] => x
  | x :: y :: l => min x (lsMin (y :: l))
def lsMax : List Int → Int
  | [] => 0
  | [x] => x
  | x :: y :: l => max x (lsMax (y :: l))
theorem lsMin_spec : ∀ {l : List Int}, l ≠ [] → lsMin l ∈ l ∧ ∀ y ∈ l, lsMin l ≤ y
  | [], h => absurd rfl h
  | [x], _ => ⟨List.mem_singleton.mpr rfl, fun y hy => by rw [List.mem_singleton.mp hy]; exact Int.le_refl _⟩
  | x :: y :: l, _ => by
    obtain ⟨h1, h2⟩ := lsMin_spec (l := y :: l) (by simp)
    show min x (lsMin (y :: l)) ∈ _ ∧ ∀ z ∈ x :: y :: l, min x (lsMin (y :: l)) ≤ z
    refine ⟨?_, fun z hz => ?_⟩
    · by_cases h : x ≤ lsMin (y :: l)
      · rw [Int.min_eq_left h]
        exact List.mem_cons_self ..
      · rw [Int.min_eq_right (by omega)]
        exact List.mem_cons_of_mem _ h1
    · rcases List.mem_cons.mp hz with rfl | hz
      · exact Int.min_le_left ..
      · exact Int.le_trans (Int.min_le_right ..) (h2 z hz)
theorem lsMax_spec : ∀ {l : List Int}, l ≠ [] → lsMax l ∈ l ∧ ∀ y ∈ l, y ≤ lsMax l
  | [], h => absurd rfl h
  | [x], _ => ⟨List.mem_singleton.mpr rfl, fun y hy => by rw [List.mem_singleton.mp hy]; exact Int.le_refl _⟩
  | x :: y :: l, _ => by
    obtain ⟨h1, h2⟩ := lsMax_spec (l := y :: l) (by simp)
    show max x (lsMax (y :: l)) ∈ _ ∧ ∀ z ∈ x :: y :: l, z ≤ max x (lsMax (y :: l))
    refine ⟨?_, fun z hz => ?_⟩
    · by_cases h : lsMax (y :: l) ≤ x
      · rw [Int.max_eq_left h]
        exact List.mem_cons_self ..
      · rw [Int.max_eq_right (by omega)]
        exact List.mem_cons_of_mem _ h1
    · rcases List.mem_cons.mp hz with rfl | hz
      · exact Int.le_max_left ..
      · exact Int.le_trans (h2 z hz) (Int.le_max_right ..)
theorem lsMin_eq {l : List Int} {m : Int} (h1 : m ∈ l) (h2 : ∀ y ∈ l, m ≤ y) : m = lsMin l := by
  obtain ⟨h3, h4⟩ := lsMin_spec (List.ne_nil_of_mem h1)
  have := h2 _ h3
  have := h4 _ h1
  omega
theorem lsMax_eq {l : List Int} {m : Int} (h1 : m ∈ l) (h2 : ∀ y ∈ l, y ≤ m) : m = lsMax l := by
  obtain ⟨h3, h4⟩ := lsMax_spec (List.ne_nil_of_mem h1)
  have := h2 _ h3
  have := h4 _ h1
  omega
abbrev colV (c : Int) (r : List Int) : Int := r.getD c.toNat 0
def valG (s : Srt) (G : Tly) : Int := if s.k = 0 then (G.map (·.2)).sum else if s.k = 1 then (G.map fun p => p.2 * colV s.c p.1).sum else if s.k = 2 then lsMin (G.map fun p => colV s.c p.1) else lsMax (G.map fun p => colV s.c p.1)
structure SrtOk (s : Srt) (L : Tly) : Prop where
  k : s.k ≤ 3
  col : s.k ≠ 0 → ∀ p ∈ L, 0 ≤ s.c ∧ s.c < p.1.length
  mul : s.k = 1 → ∀ p ∈ L, CMulW p.2 (colV s.c p.1)
theorem SrtOk.sub {s : Srt} {L M : Tly} (h : SrtOk s L) (hs : ∀ p ∈ M, p ∈ L) : SrtOk s M := ⟨h.k, fun e p hp => h.col e p (hs p hp), fun e p hp => h.mul e p (hs p hp)⟩
section
variable {P : Program} {w : World} {K : PySem.W.Frag} {mg : Str → Option Value} {base : Heap} {C : Addr}
def spGroupV (K : PySem.W.Frag) : Sp := fun vs H Q _ => ∃ (st l a : Addr) (s : Srt) (bs : List Addr) (G L : Tly), vs = [.ref st, .ref l, .ref a] ∧ SrtAt H st s ∧ H l = some (.lst (bs.map V.ref)) ∧ RowsP H bs G ∧ TalAt H a L ∧ (∀ p ∈ G, p ∈ L) ∧ G ≠ [] ∧ G.length ≤ 5000 ∧ SrtOk s G ∧ ∀ H', Same H H' → Q (.int (valG s G)) H'
theorem d_value_of_group (B : Bt mg) (T : Top K mg "value_of_group" svalue_of_group ["sort", "rows", "counts"]) : Def P w K mg base "value_of_group" 2 ["sort", "rows", "counts"] (spGroupV K) := by
  refine mk_def T scvalue_of_group (by rintro _ _ _ _ ⟨_, _, _, _, _, _, _, rfl, _⟩; rfl) fun f cdv A outer s0 H vs Q E hr h => ?_
  obtain ⟨st, l, a, s, bs, G, L, rfl, hst, hl, hbs, t, hGL, hG, hn, ok, q⟩ := h
  refine ⟨_, (pss_cons (ps_set (i := 3) scvalue_of_group.nd rfl (Or.inl rfl) (pe_ix ix_tup (pv 0) pe_int (fun _ _ => rfl)))
      (pss_cons (ps_if (pt_cmpR op_eq (pv 3) pe_str (nomark _)) (pss_one (ps_ret (pe_callB (cr_sum rfl) (by rfl) B.m_sum (by decide +kernel) (pa_cons (pe_lc (own := [("row", 4)]) (g := (gName 4)) (tt := tYes) (te := (tDGet (tVar 2) (tVar 4))) rfl scvalue_of_group.nd (pi_list (pv 1)) (blkOk_by (own := [("row", 4)]) (N := Nvalue_of_group) (sc := defScope svalue_of_group) (by decide +kernel)) (fun _ _ _ _ _ => (pg_name (i := 4) scvalue_of_group.nd rfl (Or.inl rfl))) (fun _ _ _ _ _ => pts_nil) (fun _ _ _ _ _ => (pe_dget (hu_of hr) (pv 2) (pv 4) (fun _ _ => rfl)))) pa_nil)))) pss_nil)
      (pss_cons (ps_set (i := 5) scvalue_of_group.nd rfl (Or.inr rfl) (pe_ix ix_tup (pv 0) pe_int (fun _ _ => rfl)))
      (pss_cons (ps_if (pt_cmpR op_eq (pv 3) pe_str (nomark _)) (pss_one (ps_ret (pe_callB (cr_sum rfl) (by rfl) B.m_sum (by decide +kernel) (pa_cons (pe_lc (own := [("row", 4)]) (g := (gName 4)) (tt := tYes) (te := (tOp yMulW (tDGet (tVar 2) (tVar 4)) (tOp (rIxT K) (tVar 4) (tVar 5)))) rfl scvalue_of_group.nd (pi_list (pv 1)) (blkOk_by (own := [("row", 4)]) (N := Nvalue_of_group) (sc := defScope svalue_of_group) (by decide +kernel)) (fun _ _ _ _ _ => (pg_name (i := 4) scvalue_of_group.nd rfl (Or.inl rfl))) (fun _ _ _ _ _ => pts_nil) (fun _ _ _ _ _ => (pe_op op_mulW (pe_dget (hu_of hr) (pv 2) (pv 4) (fun _ _ => rfl)) (pe_ix ix_tup (pv 4) (pv 5) (fun _ _ => rfl))))) pa_nil)))) pss_nil)
      (pss_cons (ps_setLc (i := 6) (own := [("row", 4)]) (g := (gName 4)) (tt := tYes) (te := (tOp (rIxT K) (tVar 4) (tVar 5))) rfl scvalue_of_group.nd rfl rfl (sw_true rfl rfl rfl (by decide +kernel)) (pi_list (pv 1)) (blkOk_by (own := [("row", 4)]) (N := Nvalue_of_group) (sc := defScope svalue_of_group) (by decide +kernel)) (fun _ _ _ _ _ => (pg_name (i := 4) scvalue_of_group.nd rfl (Or.inl rfl))) (fun _ _ _ _ _ => pts_nil) (fun _ _ _ _ _ => (pe_ix ix_tup (pv 4) (pv 5) (fun _ _ => rfl))))
      (pss_one (ps_ret (pe_ifExp (pt_cmpR op_eq (pv 3) pe_str (nomark _)) (pe_callB (cr_min rfl) (by rfl) B.m_min (by decide +kernel) (pa_cons (pv 6) pa_nil)) (pe_callB (cr_max rfl) (by rfl) B.m_max (by decide +kernel) (pa_cons (pv 6) pa_nil)))))))))), ?_⟩
  obtain ⟨k, c⟩ := s
  have lb : bs.length = G.length := hbs.length
  have hk := ok.k
  -- the count of a row
  have hg : ∀ {H2 : Hp} {r : Addr} {p : List Int × Int}, Same H H2 → p ∈ G → RowAt H2 r p.1 → DGet H2 a (.ref r) (some (.int p.2)) := fun {H2 r p} e hp hr' => by
    rw [← cnt_in t.nd (hGL p hp)]
    exact dget_row_in (.inl (e _ _ t.at')) t.nd hr' (List.mem_map.mpr ⟨p, hGL p hp, rfl⟩)
  have h4 : k = 0 ∨ k = 1 ∨ k = 2 ∨ k = 3 := by
    have : k ≤ 3 := hk
    omega
  rcases h4 with rfl | rfl | rfl | rfl
  · refine ⟨.ref st, rfl, st, _, _, .str "count", rfl, rfl, SqT.of hst, atI_nat (j := 0) rfl, .str "count", rfl, rfl, _, rfl, iteY rfl ?_⟩
    refine ⟨.ref l, rfl, l, rfl, ⟨_, SqL.of hl⟩, fun D hD => ?_⟩
    refine lc_val (walk_list (K := K)) hD (by rw [List.length_map]; omega) (fun H1 e => SqL.of (e _ _ hl)) ((G.map (·.2)).map V.int) (by simp [lb]) (fun i x H1 H2 Q' hi e y kk => ?_) (fun H1 e eD => ?_)
    · obtain ⟨rfl, hxi⟩ := y
      rw [List.getElem?_map] at hxi
      obtain ⟨r, hri, rfl⟩ := Option.map_eq_some_iff.mp hxi
      obtain ⟨p, hp, hr1⟩ := DX.pget (flipP hbs) hri
      refine ⟨rfl, .ref a, rfl, .ref r, rfl, a, _, rfl, hg e (List.mem_of_getElem? hp) (e _ _ hr1), kk _ _ (Same.refl _) ?_⟩
      rw [List.getElem?_map, List.getElem?_map, hp]
      rfl
    · refine ⟨D, G.map (fun p : List Int × Int => p.2), rfl, SqL.of eD, ?_⟩
      exact q H1 e
  · refine ⟨.ref st, rfl, st, _, _, .str "sum", rfl, rfl, SqT.of hst, atI_nat (j := 0) rfl, .str "sum", rfl, rfl, _, rfl, iteN (strNe (by decide +kernel)) ?_⟩
    refine ⟨.ref st, rfl, st, _, _, .int c, rfl, rfl, SqT.of hst, atI_nat (j := 1) rfl, .str "sum", rfl, rfl, _, rfl, iteY rfl ?_⟩
    refine ⟨.ref l, rfl, l, rfl, ⟨_, SqL.of hl⟩, fun D hD => ?_⟩
    refine lc_val (walk_list (K := K)) hD (by rw [List.length_map]; omega) (fun H1 e => SqL.of (e _ _ hl)) ((G.map fun p => p.2 * colV c p.1).map V.int) (by simp [lb]) (fun i x H1 H2 Q' hi e y kk => ?_) (fun H1 e eD => ?_)
    · obtain ⟨rfl, hxi⟩ := y
      rw [List.getElem?_map] at hxi
      obtain ⟨r, hri, rfl⟩ := Option.map_eq_some_iff.mp hxi
      obtain ⟨p, hp, hr1⟩ := DX.pget (flipP hbs) hri
      have hpm := List.mem_of_getElem? hp
      obtain ⟨c0, c1⟩ := ok.col (by show (1 : Nat) ≠ 0; decide) p hpm
      refine ⟨rfl, .ref a, rfl, .ref r, rfl, a, _, rfl, hg e hpm (e _ _ hr1), .ref r, rfl, .int c, rfl, r, _, _, _, rfl, rfl, SqT.of (e _ _ hr1), row_at c0 c1, _, _, rfl, rfl, ok.mul rfl p hpm, kk _ _ (Same.refl _) ?_⟩
      rw [List.getElem?_map, List.getElem?_map, hp]
      rfl
    · refine ⟨D, G.map (fun p : List Int × Int => p.2 * colV c p.1), rfl, SqL.of eD, ?_⟩
      exact q H1 e
  · refine ⟨.ref st, rfl, st, _, _, .str "least", rfl, rfl, SqT.of hst, atI_nat (j := 0) rfl, .str "least", rfl, rfl, _, rfl, iteN (strNe (by decide +kernel)) ?_⟩
    refine ⟨.ref st, rfl, st, _, _, .int c, rfl, rfl, SqT.of hst, atI_nat (j := 1) rfl, .str "least", rfl, rfl, _, rfl, iteN (strNe (by decide +kernel)) ?_⟩
    refine ⟨.ref l, rfl, l, rfl, ⟨_, SqL.of hl⟩, fun D hD => ?_⟩
    refine lc_val (walk_list (K := K)) hD (by rw [List.length_map]; omega) (fun H1 e => SqL.of (e _ _ hl)) ((G.map fun p => colV c p.1).map V.int) (by simp [lb]) (fun i x H1 H2 Q' hi e y kk => ?_) (fun H1 e eD => ?_)
    · obtain ⟨rfl, hxi⟩ := y
      rw [List.getElem?_map] at hxi
      obtain ⟨r, hri, rfl⟩ := Option.map_eq_some_iff.mp hxi
      obtain ⟨p, hp, hr1⟩ := DX.pget (flipP hbs) hri
      have hpm := List.mem_of_getElem? hp
      obtain ⟨c0, c1⟩ := ok.col (by show (2 : Nat) ≠ 0; decide) p hpm
      refine ⟨rfl, .ref r, rfl, .int c, rfl, r, _, _, _, rfl, rfl, SqT.of (e _ _ hr1), row_at c0 c1, kk _ _ (Same.refl _) ?_⟩
      rw [List.getElem?_map, List.getElem?_map, hp]
      rfl
    · have ne : 0 < (G.map fun p => colV c p.1).length := by
        rw [List.length_map]
        exact List.length_pos_iff.mpr hG
      refine ⟨.str "least", rfl, rfl, _, rfl, iteY rfl ?_⟩
      refine ⟨.ref D, rfl, D, G.map fun p => colV c p.1, rfl, SqL.of eD, ne, fun m h1 h2 => ?_⟩
      rw [lsMin_eq h1 h2]
      exact q _ e
  · refine ⟨.ref st, rfl, st, _, _, .str "greatest", rfl, rfl, SqT.of hst, atI_nat (j := 0) rfl, .str "greatest", rfl, rfl, _, rfl, iteN (strNe (by decide +kernel)) ?_⟩
    refine ⟨.ref st, rfl, st, _, _, .int c, rfl, rfl, SqT.of hst, atI_nat (j := 1) rfl, .str "greatest", rfl, rfl, _, rfl, iteN (strNe (by decide +kernel)) ?_⟩
    refine ⟨.ref l, rfl, l, rfl, ⟨_, SqL.of hl⟩, fun D hD => ?_⟩
    refine lc_val (walk_list (K := K)) hD (by rw [List.length_map]; omega) (fun H1 e => SqL.of (e _ _ hl)) ((G.map fun p => colV c p.1).map V.int) (by simp [lb]) (fun i x H1 H2 Q' hi e y kk => ?_) (fun H1 e eD => ?_)
    · obtain ⟨rfl, hxi⟩ := y
      rw [List.getElem?_map] at hxi
      obtain ⟨r, hri, rfl⟩ := Option.map_eq_some_iff.mp hxi
      obtain ⟨p, hp, hr1⟩ := DX.pget (flipP hbs) hri
      have hpm := List.mem_of_getElem? hp
      obtain ⟨c0, c1⟩ := ok.col (by show (3 : Nat) ≠ 0; decide) p hpm
      refine ⟨rfl, .ref r, rfl, .int c, rfl, r, _, _, _, rfl, rfl, SqT.of (e _ _ hr1), row_at c0 c1, kk _ _ (Same.refl _) ?_⟩
      rw [List.getElem?_map, List.getElem?_map, hp]
      rfl
    · have ne : 0 < (G.map fun p => colV c p.1).length := by
        rw [List.length_map]
        exact List.length_pos_iff.mpr hG
      refine ⟨.str "greatest", rfl, rfl, _, rfl, iteN (strNe (by decide +kernel)) ?_⟩
      refine ⟨.ref D, rfl, D, G.map fun p => colV c p.1, rfl, SqL.of eD, ne, fun m h1 h2 => ?_⟩
      rw [lsMax_eq h1 h2]
      exact q _ e
end
end K18

namespace K18
open PySem PySem.Spec PyProof.Rows L2 RW9 Tl
/-- each once -/
def ded : List (List Int) → List (List Int)
  | [] => []
  | k :: l => if k ∈ l then ded l else k :: ded l
theorem mem_ded {k : List Int} : ∀ {l : List (List Int)}, k ∈ ded l ↔ k ∈ l
  | [] => Iff.rfl
  | x :: l => by
    unfold ded
    split
    · next h =>
      rw [mem_ded (l := l), List.mem_cons]
      exact ⟨.inr, fun z => z.elim (fun e => by rw [e]; exact h) id⟩
    · rw [List.mem_cons, List.mem_cons, mem_ded (l := l)]
theorem nd_ded : ∀ l : List (List Int), (ded l).Nodup
  | [] => List.nodup_nil
  | x :: l => by
    unfold ded
    split
    · exact nd_ded l
    · next h => exact List.nodup_cons.mpr ⟨fun z => h (mem_ded.mp z), nd_ded l⟩
theorem len_ded : ∀ l : List (List Int), (ded l).length ≤ l.length
  | [] => Nat.le_refl _
  | x :: l => by
    have := len_ded l
    unfold ded
    split
    · simp
      omega
    · simp
      omega
def relL (s : Srt) (L : Tly) : Tly := if s.k = 2 ∨ s.k = 3 then posL L else L
def grpRow (s : Srt) (cols : List Int) (M : Tly) (k : List Int) : List Int × Int := (k ++ [valG s (inG cols k M)], 1)
def groupL (s : Srt) (cols : List Int) (L : Tly) : Tly := (ded ((relL s L).map fun p => pickL cols p.1)).map (grpRow s cols (relL s L))
theorem rel_sub {s : Srt} {L : Tly} : ∀ p ∈ relL s L, p ∈ L := fun p hp => by
  unfold relL at hp
  split at hp
  · exact (List.mem_filter.mp hp).1
  · exact hp
theorem app_inj {a b : List Int} {x y : Int} (h : a ++ [x] = b ++ [y]) : a = b := by
  have := congrArg List.dropLast h
  simpa using this
theorem keys_grp (s : Srt) (cols : List Int) (M : Tly) {l : List (List Int)} (h : l.Nodup) : (keys (l.map (grpRow s cols M))).Nodup := by
  unfold keys
  rw [List.map_map]
  refine List.Pairwise.map _ (fun a b ne e => ne ?_) h
  exact app_inj e
theorem fin_grp (s : Srt) (cols : List Int) (M : Tly) {l : List (List Int)} (h : l.Nodup) : Fin (l.map (grpRow s cols M)) := ⟨keys_grp s cols M h, fun p hp => by
  obtain ⟨k, _, rfl⟩ := List.mem_map.mp hp
  show (1 : Int) ≠ 0
  decide⟩
structure GrpOk (s : Srt) (cols : List Int) (L : Tly) : Prop where
  len : cols.length ≤ 1000
  ok : ∀ p ∈ L, ColOk cols p.1
  srt : SrtOk s L
section
variable {P : Program} {w : World} {K : PySem.W.Frag} {mg : Str → Option Value} {base : Heap} {C : Addr}
def srtH (k : Nat) : Str := if k = 0 then "count" else srtW k
theorem srt_head (s : Srt) : (srtV s)[0]? = some (.str (srtH s.k)) := by
  unfold srtV srtH
  split <;> rfl
theorem srt_in {k : Nat} (h : k ≤ 3) : inV (.str (srtH k)) [V.str "least", .str "greatest"] = decide (k = 2 ∨ k = 3) := by
  have h4 : k = 0 ∨ k = 1 ∨ k = 2 ∨ k = 3 := by omega
  rcases h4 with rfl | rfl | rfl | rfl <;> decide +kernel
def spGroup (K : PySem.W.Frag) : Sp := fun vs H Q _ => ∃ (n a kt st : Addr) (v0 v1 : V) (s : Srt) (cols : List Int) (L : Tly), vs = [.ref n, .ref a] ∧ H n = some (.tup [v0, v1, .ref kt, .ref st]) ∧ RowAt H kt cols ∧ SrtAt H st s ∧ TalAt H a L ∧ GrpOk s cols L ∧ Gives H Q (groupL s cols L)
theorem d_work_group (B : Bt mg) (T : Top K mg "work_group" swork_group ["node", "counts"]) (Dby_values : Def P w K mg base "by_values" 2 ["rows", "columns"] spByValues) (Dpositive : Def P w K mg base "positive" 1 ["counts"] spPositive) (Dvalue_of_group : Def P w K mg base "value_of_group" 2 ["sort", "rows", "counts"] (spGroupV K)) : Def P w K mg base "work_group" 3 ["node", "counts"] (spGroup K) := by
  refine mk_def T scwork_group (by rintro _ _ _ _ ⟨_, _, _, _, _, _, _, _, _, rfl, _⟩; rfl) fun f cdv A outer s0 H vs Q E hr h => ?_
  obtain ⟨n, a, kt, st, v0, v1, s, cols, L, rfl, hn, hkt, hst, t, ok, q⟩ := h
  refine ⟨_, (pss_cons (ps_asg (pe_slice sl_tupA (pv 0) (po_some pe_int) po_none) (pg_tup rfl (pgs_cons (pg_name (i := 2) scwork_group.nd rfl (Or.inl rfl)) (pgs_cons (pg_name (i := 3) scwork_group.nd rfl (Or.inr rfl)) pgs_nil))))
      (Evl.pss_cut (ps_set (i := 4) scwork_group.nd rfl (Or.inl rfl) (pe_ifExp (pt_cmpR op_in_seq (pe_ix ix_tup (pv 3) pe_int (fun _ _ => rfl)) (pe_tup (pa_cons pe_str (pa_cons pe_str pa_nil))) rfl) (pe_def Dpositive (hr.mono (by first | decide | omega)) (by rfl) (pa_cons (pv 1) pa_nil)) (pe_callTy (call_list_dT rfl) (by rfl) B.m_list (by decide +kernel) (pa_cons (pv 1) pa_nil))))
      (pss_cons (ps_set (i := 5) scwork_group.nd rfl (Or.inr rfl) (pe_def Dby_values (hr.mono (by first | decide | omega)) (by rfl) (pa_cons (pv 4) (pa_cons (pv 2) pa_nil))))
      (pss_one (ps_ret (pe_lock (pe_dcP fresh_T (hu0 hr) (own := [("values", 6)]) (g := (gName 6)) (tt := tYes) (tk := (tOp (rCatA K) (tVar 6) (tTup (tCons (tCall (spGroupV K) [] E0 (tCons (tVar 3) (tCons (tDGet (tVar 5) (tVar 6)) (tCons (tVar 1) tNil)))) tNil)))) (tv := (tC (.int 1))) rfl scwork_group.nd (pi_keys (pv 5)) (blkOk_by (own := [("values", 6)]) (N := Nwork_group) (sc := defScope swork_group) (by decide +kernel)) (fun _ _ _ _ _ => (pg_name (i := 6) scwork_group.nd rfl (Or.inl rfl))) (fun _ _ _ _ _ => pts_nil) (fun _ _ _ _ _ => (pe_op op_catA (pv 6) (pe_tup (pa_cons (pe_def Dvalue_of_group (hr.mono (by first | decide | omega)) (by rfl) (pa_cons (pv 3) (pa_cons (pe_dget (hu_of hr) (pv 5) (pv 6) (fun _ _ => rfl)) (pa_cons (pv 1) pa_nil)))) pa_nil)))) (fun _ _ _ _ _ => pe_int)))))))), ?_⟩
  refine ⟨.ref n, rfl, 2, rfl, n, _, rfl, SqT.of hn, (fun z => nomatch (show (2 : Nat) = 0 from z.1)), fun _ p hp => ?_⟩
  have e1 := same_upd (o := .tup [V.ref kt, .ref st]) hp
  have hp1 := upd_same (H := H) (a := p) (o := .tup [V.ref kt, .ref st])
  have hkt1 := e1 _ _ hkt
  have hst1 := e1 _ _ hst
  have t1 := t.same e1
  generalize hH1 : L2.upd H p (.tup [V.ref kt, .ref st]) = H1 at e1 hp1 hkt1 hst1 t1
  have hcut : cutV [v0, v1, V.ref kt, .ref st] (some 2) none = [V.ref kt, .ref st] := rfl
  rw [hcut, hH1]
  clear hcut hH1
  refine ⟨p, _, rfl, SqT.of hp1, rfl, _, _, rfl, _, _, rfl, rfl, ?_⟩
  -- the rows
  refine ⟨fun σ' H' => ∃ (rl : Addr) (bs : List Addr), σ' = [some (.ref n), some (.ref a), some (.ref kt), some (.ref st), some (.ref rl), none, none] ∧ Same H H' ∧ H' rl = some (.lst (bs.map V.ref)) ∧ RowsP H' bs (relL s L), ?_, fun σ' H2 pv => ?_⟩
  · refine ⟨.ref st, rfl, st, _, _, .str (srtH s.k), rfl, rfl, SqT.of hst1, atI_nat (j := 0) (srt_head s), by show 2 ≤ sizeLine; decide, fun w2 hw2 => ?_⟩
    have e2 := same_upd (o := .tup [V.str "least", .str "greatest"]) hw2
    refine ⟨w2, _, rfl, .inr (SqT.of upd_same), rfl, rfl, _, rfl, ?_⟩
    show if inV (.str (srtH s.k)) [V.str "least", .str "greatest"] = true then _ else _
    rw [srt_in ok.srt.k]
    have t2 := t1.same e2
    have e02 := e1.trans e2
    generalize L2.upd H1 w2 (.tup [V.str "least", .str "greatest"]) = H2 at e2 t2 e02 ⊢
    by_cases hr2 : s.k = 2 ∨ s.k = 3
    · rw [decide_eq_true hr2]
      refine iteT ⟨.ref a, rfl, a, L, rfl, t2, fun H3 D bs s3 hD0 hD hbs => ⟨D, bs, rfl, e02.trans s3, hD, ?_⟩⟩
      unfold relL
      rw [if_pos hr2]
      exact hbs
    · rw [decide_eq_false hr2]
      refine iteF ⟨.ref a, rfl, a, _, rfl, .inl t2.at', fun D bs hD hks => ?_⟩
      have e3 := same_upd (o := .lst (bs.map V.ref)) hD
      refine ⟨D, bs, rfl, e02.trans e3, upd_same, ?_⟩
      unfold relL
      rw [if_neg hr2]
      have z : ∀ {L : Tly} {bs : List Addr}, IsKeys H2 (rowD L) bs → RowsP H2 bs L := by
        intro L
        induction L with
        | nil =>
          intro bs h
          cases h
          exact .nil
        | cons p L ih =>
          intro bs h
          cases h with
          | cons h t => exact .cons (by unfold RowAt; rw [← rk_kV]; exact h) (ih t)
      exact Paired.mapP (z hks) fun _ _ h => e3 _ _ h
  obtain ⟨rl, bs, rfl, e2, hrl, hbs⟩ := pv
  have lM : (relL s L).length ≤ 5000 := by
    unfold relL
    split
    · exact Nat.le_trans (List.length_filter_le _ _) t.len
    · exact t.len
  have okM : ∀ p ∈ relL s L, ColOk cols p.1 := fun p hp => ok.ok p (rel_sub p hp)
  have srtM : SrtOk s (relL s L) := ok.srt.sub rel_sub
  have subM : ∀ p ∈ relL s L, p ∈ L := rel_sub
  have qM := q
  unfold groupL at qM
  generalize relL s L = M at hbs lM okM srtM subM qM
  refine ⟨.ref rl, rfl, .ref kt, rfl, rl, kt, M, cols, rfl, .inr ⟨lM, bs, hrl, hbs⟩, .inr (e2 _ _ hkt), okM, ok.len, fun H3 G E3 s3 nG g => ?_⟩
  have e3 := e2.trans s3
  have t3 := t.same e3
  have hst3 := e3 _ _ hst
  have gl := g.len
  refine ⟨G, _, g.at', True.intro, fun od => ?_⟩
  have naG : a ≠ G := fun z => by rw [← z, e2 _ _ t.at'] at nG; cases nG
  have hz : L2.upd H3 G (.frz od (.dT (grD E3))) G = some (.frz od (.dT (grD E3))) := upd_same
  have t4 : TalAt (L2.upd H3 G (.frz od (.dT (grD E3)))) a L := ⟨by rw [upd_ne naG]; exact t3.at', t3.nd, t3.len⟩
  have row4 : ∀ c r, RowAt H3 c r → RowAt (L2.upd H3 G (.frz od (.dT (grD E3)))) c r := fun c r h => rowAt_upd h fun us z => by rw [g.at'] at z; cases z
  have hst4 : SrtAt (L2.upd H3 G (.frz od (.dT (grD E3)))) st s := by
    unfold SrtAt
    rw [upd_ne (ne_of hst3 g.at' (fun z => nomatch z))]
    exact hst3
  have lst4 : ∀ e ∈ E3, L2.upd H3 G (.frz od (.dT (grD E3))) e.2.1 = some (.lst (e.2.2.map V.ref)) ∧ RowsP (L2.upd H3 G (.frz od (.dT (grD E3)))) e.2.2 (inG cols e.1 M) := fun e he => by
    obtain ⟨h1, h2⟩ := g.lst e he
    refine ⟨?_, Paired.mapP h2 fun c r h => row4 _ _ h⟩
    rw [upd_ne (ne_of h1 g.at' (fun z => nomatch z))]
    exact h1
  refine ⟨.ref G, rfl, G, od, rfl, .inr ⟨_, hz, fun D hD => ?_⟩⟩
  have nDG : D ≠ G := (ne_of_none hz hD).symm
  have hDn : H3 D = none := (show L2.upd H3 G _ D = none from hD) ▸ (upd_ne nDG).symm
  have unl := fun H' (e : Same (L2.upd H3 G (.frz od (.dT (grD E3)))) H') => same_unlock g.at' e
  generalize L2.upd H3 G (.frz od (.dT (grD E3))) = H4 at hz t4 hst4 lst4 hD unl ⊢
  have ndT : (keys ((E3.map (·.1)).map (grpRow s cols M))).Nodup := keys_grp s cols M g.keys
  refine dcP_it (walk_keysT (kvs := grD E3)) (fun i H' => Same H4 H' ∧ H' D = some (.dT (rowD (((E3.take i).map (·.1)).map (grpRow s cols M))))) ⟨same_upd hD, upd_same⟩ (fun i H' _ p => p.1 _ _ hz) (fun i x H5 H6 hi pv y => ?_) (fun H5 pv => ?_)
  · obtain ⟨rfl, k, v, r, hk, rfl, hq⟩ := y
    rw [List.getElem?_map] at hk
    obtain ⟨e, he, ek⟩ := Option.map_eq_some_iff.mp hk
    obtain ⟨rfl, rfl⟩ : rk e.1 = k ∧ V.ref e.2.1 = v := ⟨congrArg Prod.fst ek, congrArg Prod.snd ek⟩
    have hem := List.mem_of_getElem? he
    rw [rk_kV] at hq
    obtain ⟨e5, hD5⟩ := pv
    obtain ⟨l1, l2⟩ := lst4 e hem
    obtain ⟨p0, hp0, ep0⟩ := g.non e hem
    have hin : p0 ∈ inG cols e.1 M := List.mem_filter.mpr ⟨hp0, decide_eq_true ep0⟩
    have hsub : ∀ p ∈ inG cols e.1 M, p ∈ M := fun p hp => (List.mem_filter.mp hp).1
    have hval : valV (grD E3) (rk e.1) = some (.ref e.2.1) := by
      cases hv : valV (grD E3) (rk e.1) with
      | none => exact absurd (List.mem_map.mpr ⟨e, hem, rfl⟩) (gr_out hv)
      | some v =>
        obtain ⟨e', he', ek', rfl⟩ := gr_in hv
        obtain ⟨i1, hi1⟩ := List.mem_iff_getElem?.mp he'
        obtain ⟨i2, hi2⟩ := List.mem_iff_getElem?.mp hem
        have h1 : (E3.map (·.1))[i1]? = some e.1 := by rw [List.getElem?_map, hi1, ← ek']; rfl
        have h2 : (E3.map (·.1))[i2]? = some e.1 := by rw [List.getElem?_map, hi2]; rfl
        have ij := (List.getElem?_inj (List.getElem?_eq_some_iff.mp h1).1 g.keys).mp (h1.trans h2.symm)
        rw [ij, hi2] at hi1
        rw [Option.some.inj hi1]
    have hgG : DGet H6 G (.ref r) (some (.ref e.2.1)) := .inr ⟨_, rk e.1, r, .inr ⟨od, e5 _ _ hz⟩, rfl, by rw [rk_kV]; exact hq, hval.symm⟩
    refine ⟨rfl, ?_⟩
    show if true = true then _ else (Same H4 H6 ∧ H6 D = some (.dT (rowD (((E3.take (i + 1)).map (·.1)).map (grpRow s cols M)))))
    refine iteT ⟨.ref r, rfl, .ref st, rfl, .ref G, rfl, .ref r, rfl, G, _, rfl, hgG, .ref a, rfl, st, e.2.1, a, s, e.2.2, inG cols e.1 M, L, rfl, e5 _ _ hst4, e5 _ _ l1, Paired.mapP l2 fun _ _ h => e5 _ _ h, t4.same e5, fun p hp => subM p (hsub p hp), List.ne_nil_of_mem hin, Nat.le_trans (List.length_filter_le _ _) lM, srtM.sub hsub, fun H7 e7 => ?_⟩
    refine ⟨by show 1 ≤ sizeLine; decide, fun u hu => ?_⟩
    have e8 := e7.trans (same_upd (o := .tup [V.int (valG s (inG cols e.1 M))]) hu)
    have hu8 := upd_same (H := H7) (a := u) (o := .tup [V.int (valG s (inG cols e.1 M))])
    generalize L2.upd H7 u (.tup [V.int (valG s (inG cols e.1 M))]) = H8 at e8 hu8 ⊢
    have hr8 : RowAt H8 r e.1 := e8 _ _ hq
    have fin : ∀ (H9 : Hp) (z : Addr), Same H8 H9 → RowAt H9 z (e.1 ++ [valG s (inG cols e.1 M)]) → ∃ H10, DPut H9 D (.ref z) (.int 1) H10 ∧ Same H4 H10 ∧ H10 D = some (.dT (rowD (((E3.take (i + 1)).map (·.1)).map (grpRow s cols M)))) := fun H9 z e9 hz9 => by
      have hD9 := e9 _ _ (e8 _ _ hD5)
      have ht : E3.take (i + 1) = E3.take i ++ [e] := by rw [List.take_add_one, he]; rfl
      have hn2 : (keys (((E3.take (i + 1)).map (·.1)).map (grpRow s cols M))).Nodup := ndT.sublist ((((List.take_sublist _ _).map _).map _).map _)
      rw [ht, List.map_append, List.map_append, keys, List.map_append] at hn2
      have hnew : (e.1 ++ [valG s (inG cols e.1 M)]) ∉ keys (((E3.take i).map (·.1)).map (grpRow s cols M)) := fun h1 => (List.nodup_append.mp hn2).2.2 _ h1 _ (List.mem_singleton.mpr rfl) rfl
      refine ⟨_, dput_row hD9 hz9 ?_, ((e5.trans e8).trans e9).mut hD, ?_⟩
      · rw [List.length_map, List.length_map]
        exact Nat.lt_of_le_of_lt (Nat.le_trans (List.length_take_le' _ _) (Nat.le_trans gl lM)) (by decide)
      · rw [upd_same, putL_new hnew, ht, List.map_append, List.map_append]
        rfl
    refine ⟨r, u, e.1.map V.int, [V.int (valG s (inG cols e.1 M))], rfl, rfl, SqT.of hr8, SqT.of hu8, ?_, fun h0 => ?_, (fun h0 h1 => nomatch h1), fun h0 h1 z hz0 => ?_⟩
    · obtain ⟨p1, hp1⟩ : ∃ p1, p1 = p0 := ⟨_, rfl⟩
      have : e.1.length = cols.length := by rw [← ep0]; simp [pickL]
      rw [List.length_map, this]
      exact Nat.le_trans (Nat.add_le_add_right ok.len 1) (by decide)
    · have e0 : e.1 = [] := List.map_eq_nil_iff.mp h0
      refine fin _ u (Same.refl _) ?_
      rw [e0] at hu8 ⊢
      exact hu8
    · refine fin _ z (same_upd hz0) ?_
      unfold RowAt
      rw [upd_same, List.map_append]
      rfl
  · obtain ⟨e5, hD5⟩ := pv
    rw [show E3.take (grD E3).length = E3 by rw [List.take_of_length_le]; simp] at hD5
    have F : Fin ((E3.map (·.1)).map (grpRow s cols M)) := fin_grp s cols M g.keys
    have hperm : (E3.map (·.1)).Perm (ded (M.map fun p => pickL cols p.1)) := by
      refine (List.perm_ext_iff_of_nodup g.keys (nd_ded _)).mpr fun k => ?_
      rw [mem_ded]
      constructor
      · intro hk
        obtain ⟨e, he, rfl⟩ := List.mem_map.mp hk
        obtain ⟨p, hp, ep⟩ := g.non e he
        exact List.mem_map.mpr ⟨p, hp, ep⟩
      · intro hk
        obtain ⟨p, hp, rfl⟩ := List.mem_map.mp hk
        refine Classical.byContradiction fun hno => ?_
        have := g.out _ hno
        have h2 : p ∈ inG cols (pickL cols p.1) M := List.mem_filter.mpr ⟨hp, decide_eq_true rfl⟩
        rw [this] at h2
        cases h2
    have hp2 := hperm.map (grpRow s cols M)
    refine ⟨e5 _ _ hz, qM _ D _ (e3.trans (unl _ e5)) (e3.new hDn) ⟨?_, F.nd, ?_⟩ F (fun k => Tl.cnt_perm hp2 k) fun p hp => List.mem_map.mpr ⟨p, hp2.mem_iff.mp hp, rfl⟩⟩
    · rw [upd_ne nDG]
      exact hD5
    · rw [List.length_map, List.length_map]
      exact Nat.le_trans gl lM
end
end K18

namespace K18
open PySem PySem.Spec PyProof.Rows L2 RW9 Tl
theorem sort_one {M D : Tly} (h : M.Perm D) (F : Fin D) (sM : SortL M) (sD : SortL D) : M = D := by
  refine List.Perm.eq_of_pairwise (le := fun (p q : List Int × Int) => ltR q.1 p.1 = false) (fun a b ha hb h1 h2 => ?_) sM sD h
  have e : a.1 = b.1 := by
    unfold ltR at h1 h2
    exact List.le_antisymm (of_decide_eq_false h1) (of_decide_eq_false h2)
  have hb2 := (F.mem (p := b)).mp hb
  have ha2 := (F.mem (p := a)).mp (h.mem_iff.mp ha)
  exact Prod.ext e (by rw [← ha2.1, ← hb2.1, e])
theorem fin_pos {L : Tly} (h : (keys L).Nodup) : Fin (posL L) := ⟨nd_pos h, fun p hp => by
  have := of_decide_eq_true (List.mem_filter.mp hp).2
  omega⟩
/-! ### the first ones of every group -/
/-- of one group -/
def topR : Int → Tly → Tly
  | _, [] => []
  | m, p :: l => (p.1, min p.2 m) :: topR (m - min p.2 m) l
/-- of all groups, in one walk -/
def topW (cols : List Int) : (List Int → Int) → Tly → Tly
  | _, [] => []
  | room, p :: l => (p.1, min p.2 (room (pickL cols p.1))) :: topW cols (fun x => if x = pickL cols p.1 then room x - min p.2 (room (pickL cols p.1)) else room x) l
def topL (cols : List Int) (m : Int) (S : Tly) : Tly := topW cols (fun _ => m) S
theorem keys_topR : ∀ (m : Int) (l : Tly), keys (topR m l) = keys l
  | _, [] => rfl
  | m, p :: l => by
    show p.1 :: keys (topR _ l) = p.1 :: keys l
    rw [keys_topR]
theorem keys_topW (cols : List Int) : ∀ (room : List Int → Int) (l : Tly), keys (topW cols room l) = keys l
  | _, [] => rfl
  | m, p :: l => by
    show p.1 :: keys (topW cols _ l) = p.1 :: keys l
    rw [keys_topW]
theorem topR_zero (r : List Int) : ∀ (l : Tly), (∀ p ∈ l, 0 < p.2) → Tl.cnt (topR 0 l) r = 0
  | [], _ => rfl
  | p :: l, h => by
    have h1 := h p (List.mem_cons_self ..)
    have e : min p.2 (0 : Int) = 0 := Int.min_eq_right (by omega)
    show (if p.1 = r then min p.2 0 else 0) + Tl.cnt (topR (0 - min p.2 0) l) r = 0
    rw [e, Int.sub_zero, topR_zero r l fun q hq => h q (List.mem_cons_of_mem _ hq)]
    split <;> rfl
theorem topR_out {r : List Int} {m : Int} {l : Tly} (h : r ∉ keys l) : Tl.cnt (topR m l) r = 0 := cnt_out (by rw [keys_topR]; exact h)
theorem inG_out {cols k r : List Int} {S : Tly} (h : pickL cols r ≠ k) : r ∉ keys (inG cols k S) := fun hr => by
  obtain ⟨p, hp, rfl⟩ := List.mem_map.mp hr
  exact h (of_decide_eq_true (List.mem_filter.mp hp).2)
theorem cnt_topW (cols : List Int) (r : List Int) : ∀ (room : List Int → Int) (S : Tly), Tl.cnt (topW cols room S) r = Tl.cnt (topR (room (pickL cols r)) (inG cols (pickL cols r) S)) r
  | _, [] => rfl
  | room, p :: S => by
    have ih := cnt_topW cols r (fun x => if x = pickL cols p.1 then room x - min p.2 (room (pickL cols p.1)) else room x) S
    show (if p.1 = r then min p.2 (room (pickL cols p.1)) else 0) + Tl.cnt (topW cols _ S) r = _
    rw [ih]
    by_cases hk : pickL cols p.1 = pickL cols r
    · rw [show inG cols (pickL cols r) (p :: S) = p :: inG cols (pickL cols r) S from List.filter_cons_of_pos (decide_eq_true hk)]
      show _ = (if p.1 = r then min p.2 (room (pickL cols r)) else 0) + Tl.cnt (topR (room (pickL cols r) - min p.2 (room (pickL cols r))) _) r
      rw [if_pos hk.symm, hk]
    · rw [show inG cols (pickL cols r) (p :: S) = inG cols (pickL cols r) S from List.filter_cons_of_neg (by simp [hk])]
      rw [if_neg (fun e => hk (by rw [e])), if_neg (fun e => hk e.symm), Int.zero_add]
/-- what the groups of ks give -/
def topB (cols : List Int) (m : Int) (S : Tly) (ks : List (List Int)) (r : List Int) : Int := if pickL cols r ∈ ks then Tl.cnt (topR m (inG cols (pickL cols r) S)) r else 0
/-- a row is put into what was made of earlier ones -/
theorem top_put {T l : Tly} {p : List Int × Int} {m : Int} {tgt : List Int → Int} (nd : (keys T).Nodup) (hp : p.1 ∉ keys T) (h : ∀ r, Tl.cnt T r + Tl.cnt (topR m (p :: l)) r = tgt r) (r : List Int) : Tl.cnt (Tl.put T p.1 (min p.2 m)) r + Tl.cnt (topR (m - min p.2 m) l) r = tgt r := by
  rw [← h r, put_cnt nd]
  show _ = Tl.cnt T r + ((if p.1 = r then min p.2 m else 0) + Tl.cnt (topR (m - min p.2 m) l) r)
  by_cases e : r = p.1
  · rw [if_pos e, if_pos e.symm, e, cnt_out hp]
    omega
  · rw [if_neg e, if_neg (fun z => e z.symm)]
    omega
theorem topB_next {cols : List Int} {m : Int} {S : Tly} {ks : List (List Int)} {k : List Int} (hk : k ∉ ks) (r : List Int) : topB cols m S ks r + Tl.cnt (topR m (inG cols k S)) r = topB cols m S (ks ++ [k]) r := by
  unfold topB
  by_cases e : pickL cols r = k
  · subst e
    rw [if_neg hk, if_pos (List.mem_append_right _ (List.mem_singleton.mpr rfl)), Int.zero_add]
  · rw [topR_out (inG_out e), Int.add_zero]
    by_cases h : pickL cols r ∈ ks
    · rw [if_pos h, if_pos (List.mem_append_left _ h)]
    · rw [if_neg h, if_neg fun z => (List.mem_append.mp z).elim h fun z => e (List.mem_singleton.mp z)]
end K18

namespace K18
open PySem PySem.Spec PyProof.Rows L2 RW9 Tl
structure TopOk (cols : List Int) (m : Int) (L : Tly) : Prop where
  len : cols.length ≤ 1000
  ok : ∀ p ∈ L, ColOk cols p.1
  pos : 1 ≤ m
  nil : 2 ≤ (keys L).length → [] ∉ keys L
theorem nodup_leR : ∀ {l m : List (List Int)}, l.Nodup → (∀ x ∈ l, x ∈ m) → l.length ≤ m.length
  | [], _, _, _ => Nat.zero_le _
  | x :: l, m, nd, h => by
    obtain ⟨h1, h2⟩ := List.nodup_cons.mp nd
    have hx := h x (List.mem_cons_self ..)
    have ih := nodup_leR (m := m.erase x) h2 fun y hy => (List.mem_erase_of_ne (fun e => h1 (by rw [← e]; exact hy))).mpr (h y (List.mem_cons_of_mem _ hy))
    rw [List.length_erase_of_mem hx] at ih
    have := List.length_pos_of_mem hx
    rw [List.length_cons]
    omega
/-- what is made so far -/
structure Mad (S T : Tly) : Prop where
  nd : (keys T).Nodup
  inn : ∀ r ∈ keys T, r ∈ keys S
  nz : ∀ r ∈ keys T, Tl.cnt T r ≠ 0
theorem Mad.len {S T : Tly} (h : Mad S T) : T.length ≤ S.length := by
  have := nodup_leR h.nd h.inn
  rwa [List.length_map, List.length_map] at this
theorem Mad.put {S T : Tly} (h : Mad S T) {k : List Int} {v : Int} (hk : k ∈ keys S) (hv : v ≠ 0) : Mad S (Tl.put T k v) := by
  have hm : ∀ r ∈ keys (Tl.put T k v), r = k ∨ r ∈ keys T := fun r hr => by
    obtain ⟨p, hp, rfl⟩ := List.mem_map.mp hr
    exact put_mem hp
  refine ⟨put_nodup h.nd, fun r hr => ?_, fun r hr => ?_⟩
  · rcases hm r hr with rfl | hr
    · exact hk
    · exact h.inn r hr
  · rw [put_cnt h.nd]
    split
    · exact hv
    · next e =>
      rcases hm r hr with rfl | hr
      · exact absurd rfl e
      · exact h.nz r hr
section
variable {P : Program} {w : World} {K : PySem.W.Frag} {mg : Str → Option Value} {base : Heap} {C : Addr}
def spTop : Sp := fun vs H Q _ => ∃ (n a kt : Addr) (v0 v1 : V) (m : Int) (cols : List Int) (L S : Tly), vs = [.ref n, .ref a] ∧ H n = some (.tup [v0, v1, .ref kt, .int m]) ∧ RowAt H kt cols ∧ TalAt H a L ∧ TopOk cols m L ∧ S.Perm (posL L) ∧ SortL S ∧ Gives H Q (topL cols m S)
theorem d_work_top (B : Bt mg) (T : Top K mg "work_top" swork_top ["node", "counts"]) (Dby_values : Def P w K mg base "by_values" 2 ["rows", "columns"] spByValues) (Dpositive : Def P w K mg base "positive" 1 ["counts"] spPositive) : Def P w K mg base "work_top" 3 ["node", "counts"] spTop := by
  refine mk_def T scwork_top (by rintro _ _ _ _ ⟨_, _, _, _, _, _, _, _, _, rfl, _⟩; rfl) fun f cdv A outer s0 H vs Q E hr h => ?_
  obtain ⟨n, a, kt, v0, v1, m, cols, L, S, rfl, hn, hkt, t, ok, hS, sS, q⟩ := h
  refine ⟨_, (pss_cons (ps_asg (pe_slice sl_tupA (pv 0) (po_some pe_int) po_none) (pg_tup rfl (pgs_cons (pg_name (i := 2) scwork_top.nd rfl (Or.inl rfl)) (pgs_cons (pg_name (i := 3) scwork_top.nd rfl (Or.inl rfl)) pgs_nil))))
      (pss_cons (ps_set (i := 4) scwork_top.nd rfl (Or.inl rfl) (pe_def Dby_values (hr.mono (by first | decide | omega)) (by rfl) (pa_cons (pe_callB (cr_sortedRowsL rfl (hu8 hr)) (by rfl) B.m_sorted (by decide +kernel) (pa_cons (pe_def Dpositive (hr.mono (by first | decide | omega)) (by rfl) (pa_cons (pv 1) pa_nil)) pa_nil)) (pa_cons (pv 2) pa_nil))))
      (pss_cons (ps_set (i := 5) scwork_top.nd rfl (Or.inl rfl) (pe_dnewT))
      (pss_cons (ps_lock (ps_for PassesOwn.never rfl (pi_keys (pv 4)) (pg_name (i := 6) scwork_top.nd rfl (Or.inl rfl)) (pss_cons (ps_set (i := 7) scwork_top.nd rfl (Or.inl rfl) (pv 3))
      (pss_one (ps_for PassesOwn.never rfl (pi_list (pe_dget (hu_of hr) (pv 4) (pv 6) (fun _ _ => rfl))) (pg_name (i := 8) scwork_top.nd rfl (Or.inl rfl)) (pss_cons (ps_dput (hu_of hr) (pv 5) (pv 8) (pe_callB (call_min2 rfl) (by rfl) B.m_min (by decide +kernel) (pa_cons (pe_dget (hu_of hr) (pv 1) (pv 8) (fun _ _ => rfl)) (pa_cons (pv 7) pa_nil))) rfl)
      (pss_cons (ps_set (i := 7) scwork_top.nd rfl (Or.inl rfl) (pe_op op_sub (pv 7) (pe_dget (hu_of hr) (pv 5) (pv 8) (fun _ _ => rfl))))
      (pss_one (ps_if (pt_cmpR op_eq (pv 7) pe_int (nomark _)) (pss_one ps_break) pss_nil)))))))))
      (pss_one (ps_ret (pv 5))))))), ?_⟩
  refine ⟨.ref n, rfl, 2, rfl, n, _, rfl, SqT.of hn, (fun z => nomatch (show (2 : Nat) = 0 from z.1)), fun _ p hp => ?_⟩
  have e1 := same_upd (o := .tup [V.ref kt, .int m]) hp
  have hp1 := upd_same (H := H) (a := p) (o := .tup [V.ref kt, .int m])
  have hkt1 := e1 _ _ hkt
  have t1 := t.same e1
  generalize hH1 : L2.upd H p (.tup [V.ref kt, .int m]) = H1 at e1 hp1 hkt1 t1
  have hcut : cutV [v0, v1, V.ref kt, .int m] (some 2) none = [V.ref kt, .int m] := rfl
  rw [hcut, hH1]
  clear hcut hH1
  refine ⟨p, _, rfl, SqT.of hp1, rfl, _, _, rfl, _, _, rfl, rfl, ?_⟩
  refine ⟨.ref a, rfl, a, L, rfl, t1, fun H2 D bs s2 hD0 hD hbs => ?_⟩
  have ndp := nd_pos t.nd
  have lp : (posL L).length ≤ 5000 := Nat.le_trans (List.length_filter_le _ _) t.len
  have hrows : Paired (fun (t : Addr) (r : List Int) => H2 t = some (.tup (r.map V.int))) bs (keys (posL L)) := by
    have z : ∀ {bs : List Addr} {L : Tly}, RowsP H2 bs L → Paired (fun (t : Addr) (r : List Int) => H2 t = some (.tup (r.map V.int))) bs (keys L) := by
      intro bs L h
      induction h with
      | nil => exact .nil
      | cons h _ ih => exact .cons h ih
    exact z hbs
  refine ⟨D, bs, keys (posL L), rfl, SqL.of hD, hrows, fun h2 hin => ok.nil ?_ ?_, fun sl ts M hsl hM sM pr => ?_⟩
  · have : (keys (posL L)).length ≤ (keys L).length := by
      rw [List.length_map, List.length_map]
      exact List.length_filter_le _ _
    omega
  · obtain ⟨x, hx, ex⟩ := List.mem_map.mp hin
    exact List.mem_map.mpr ⟨x, (List.mem_filter.mp hx).1, ex⟩
  have e3 := (e1.trans s2).trans (same_upd (o := .lst (ts.map V.ref)) hsl)
  have hsl3 := upd_same (H := H2) (a := sl) (o := .lst (ts.map V.ref))
  -- the rows with their counts
  obtain rfl : (M.map fun r => (r, Tl.cnt L r)) = S := by
    have hp2 : (M.map fun r => (r, Tl.cnt L r)).Perm (posL L) := by
      have h1 := hM.map fun r => (r, Tl.cnt L r)
      refine h1.trans (List.Perm.of_eq ?_)
      unfold keys
      rw [List.map_map]
      refine (List.map_congr_left fun p hp => ?_).trans (List.map_id _)
      show (p.1, Tl.cnt L p.1) = p
      rw [cnt_in t.nd (List.mem_filter.mp hp).1]
    refine sort_one (hp2.trans hS.symm) ((fin_pos t.nd).of_perm hS.symm) ?_ sS
    rw [SortL, List.pairwise_map]
    exact sM
  have hSL : ∀ p ∈ (M.map fun r => (r, Tl.cnt L r)), p ∈ L ∧ 0 < p.2 := fun p hp => by
    have := hS.mem_iff.mp hp
    exact ⟨(List.mem_filter.mp this).1, of_decide_eq_true (List.mem_filter.mp this).2⟩
  have hrS : RowsP (L2.upd H2 sl (.lst (ts.map V.ref))) ts (M.map fun r => (r, Tl.cnt L r)) := by
    have z : ∀ {ts : List Addr} {M : List (List Int)}, Paired (fun (t : Addr) (r : List Int) => H2 t = some (.tup (r.map V.int))) ts M → RowsP (L2.upd H2 sl (.lst (ts.map V.ref))) ts (M.map fun r => (r, Tl.cnt L r)) := by
      intro ts' M h
      generalize HO.lst (ts'.map V.ref) = ob
      induction h with
      | nil => exact .nil
      | cons h _ ih => exact .cons (same_upd hsl _ _ h) ih
    exact z pr
  have lS : (M.map fun r => (r, Tl.cnt L r)).length ≤ 5000 := by rw [hS.length_eq]; exact lp
  have ndS : (keys (M.map fun r => (r, Tl.cnt L r))).Nodup := (hS.map (·.1)).nodup_iff.mpr ndp
  generalize (M.map fun r => (r, Tl.cnt L r)) = S at hS sS q hSL hrS lS ndS
  have t3 := t.same e3
  have hkt3 := e3 _ _ hkt
  generalize L2.upd H2 sl (.lst (ts.map V.ref)) = H3 at e3 hsl3 hrS t3 hkt3 ⊢
  refine ⟨.ref kt, rfl, sl, kt, S, cols, rfl, .inr ⟨lS, ts, hsl3, hrS⟩, .inr hkt3, (fun p hp => ok.ok p (hSL p hp).1), ok.len, fun H4 G E3 s4 nG g => ?_⟩
  have e4 := e3.trans s4
  have t4 := t.same e4
  have gl := g.len
  intro R hR
  have nRG : G ≠ R := ne_of_none g.at' hR
  have naR : a ≠ R := ne_of_none t4.at' hR
  have naG : a ≠ G := fun z => by rw [← z, e3 _ _ t.at'] at nG; cases nG
  have e5 := same_upd (o := .dT []) hR
  have hR5 := upd_same (H := H4) (a := R) (o := .dT [])
  refine ⟨G, _, e5 _ _ g.at', True.intro, fun od => ?_⟩
  have e6 : ∀ b o, b ≠ G → H4 b = some o → L2.upd (L2.upd H4 R (.dT [])) G (.frz od (.dT (grD E3))) b = some o := fun b o nb ho => by
    rw [upd_ne nb]
    exact e5 _ _ ho
  have hz : L2.upd (L2.upd H4 R (.dT [])) G (.frz od (.dT (grD E3))) G = some (.frz od (.dT (grD E3))) := upd_same
  have hR6 : L2.upd (L2.upd H4 R (.dT [])) G (.frz od (.dT (grD E3))) R = some (.dT (rowD [])) := by
    rw [upd_ne nRG.symm, upd_same]
    rfl
  refine ⟨.ref G, rfl, G, od, rfl, .inr ⟨_, hz, ?_⟩⟩
  generalize L2.upd (L2.upd H4 R (.dT [])) G (.frz od (.dT (grD E3))) = H6 at e6 hz hR6 ⊢
  have ha6 := e6 _ _ naG t4.at'
  have row6 : ∀ {b : Addr} {r : List Int}, RowAt H4 b r → RowAt H6 b r := fun h => e6 _ _ (ne_of h g.at' (fun z => nomatch z)) h
  have lst6 : ∀ e ∈ E3, H6 e.2.1 = some (.lst (e.2.2.map V.ref)) ∧ e.2.1 ≠ R ∧ RowsP H6 e.2.2 (inG cols e.1 S) := fun e he => by
    obtain ⟨h1, h2⟩ := g.lst e he
    exact ⟨e6 _ _ (ne_of h1 g.at' (fun z => nomatch z)) h1, ne_of_none h1 hR, Paired.mapP h2 fun c r h => row6 h⟩
  refine for_it (walk_keysT (kvs := grD E3)) (fun i σ H' => ∃ y6 y7 y8 T, σ = [some (.ref n), some (.ref a), some (.ref kt), some (.int m), some (.ref G), some (.ref R), y6, y7, y8] ∧ SameB R H6 H' ∧ H' R = some (.dT (rowD T)) ∧ Mad S T ∧ (∀ q ∈ keys T, pickL cols q ∈ (E3.take i).map (·.1)) ∧ ∀ r, Tl.cnt T r = topB cols m S ((E3.take i).map (·.1)) r)
    ⟨none, none, none, [], rfl, SameB.refl _ _, hR6, ⟨List.nodup_nil, (fun r hr => nomatch hr), fun r hr => nomatch hr⟩, (fun q hq => nomatch hq), fun r => by unfold topB; rw [if_neg (by simp)]; rfl⟩ (fun i σ H' _ pv' => ?_) (fun i x σ H' H'' hi pv' y => ?_) (fun σ H' pv' => ?_)
  · obtain ⟨_, _, _, _, _, e, _⟩ := pv'
    exact e _ _ nRG hz
  · obtain ⟨y6, y7, y8, T, rfl, e7, hR7, mad, hks, hcnt⟩ := pv'
    obtain ⟨rfl, k, v, r, hk, rfl, hq⟩ := y
    rw [List.getElem?_map] at hk
    obtain ⟨e, he, ek⟩ := Option.map_eq_some_iff.mp hk
    obtain ⟨rfl, rfl⟩ : rk e.1 = k ∧ V.ref e.2.1 = v := ⟨congrArg Prod.fst ek, congrArg Prod.snd ek⟩
    have hem := List.mem_of_getElem? he
    rw [rk_kV] at hq
    obtain ⟨l1, nlR, l2⟩ := lst6 e hem
    have ht : (E3.take (i + 1)).map (·.1) = (E3.take i).map (·.1) ++ [e.1] := by rw [List.take_add_one, he, List.map_append]; rfl
    have hnew : e.1 ∉ (E3.take i).map (·.1) := fun hmem => by
      have nd := g.keys.sublist ((List.take_sublist (i + 1) E3).map (·.1))
      rw [ht] at nd
      exact (List.nodup_append.mp nd).2.2 e.1 hmem e.1 (List.mem_singleton.mpr rfl) rfl
    have hval : valV (grD E3) (rk e.1) = some (.ref e.2.1) := by
      cases hv : valV (grD E3) (rk e.1) with
      | none => exact absurd (List.mem_map.mpr ⟨e, hem, rfl⟩) (gr_out hv)
      | some v =>
        obtain ⟨e', he', ek', rfl⟩ := gr_in hv
        obtain ⟨i1, hi1⟩ := List.mem_iff_getElem?.mp he'
        obtain ⟨i2, hi2⟩ := List.mem_iff_getElem?.mp hem
        have h1 : (E3.map (·.1))[i1]? = some e.1 := by rw [List.getElem?_map, hi1, ← ek']; rfl
        have h2 : (E3.map (·.1))[i2]? = some e.1 := by rw [List.getElem?_map, hi2]; rfl
        have ij := (List.getElem?_inj (List.getElem?_eq_some_iff.mp h1).1 g.keys).mp (h1.trans h2.symm)
        rw [ij, hi2] at hi1
        rw [Option.some.inj hi1]
    have hgG : DGet H'' G (.ref r) (some (.ref e.2.1)) := .inr ⟨_, rk e.1, r, .inr ⟨od, e7 _ _ nRG hz⟩, rfl, by rw [rk_kV]; exact hq, hval.symm⟩
    have hl7 := e7 _ _ nlR l1
    have tgt := fun r => topB_next (cols := cols) (m := m) (S := S) hnew r
    have subG : ∀ p ∈ inG cols e.1 S, p ∈ S ∧ pickL cols p.1 = e.1 := fun p hp => ⟨(List.mem_filter.mp hp).1, of_decide_eq_true (List.mem_filter.mp hp).2⟩
    have ndG : (keys (inG cols e.1 S)).Nodup := ndS.sublist (List.filter_sublist.map _)
    refine ⟨.int m, rfl, .ref G, rfl, .ref r, rfl, G, _, rfl, hgG, e.2.1, rfl, ⟨_, SqL.of hl7⟩, ?_⟩
    rw [ht]
    generalize inG cols e.1 S = Gr at l2 tgt subG ndG
    have pos := ok.pos
    refine for_list (xs := e.2.2.map V.ref) (fun j σ H' => ∃ y8 mis T, σ = [some (.ref n), some (.ref a), some (.ref kt), some (.int m), some (.ref G), some (.ref R), some (.ref r), some (.int mis), y8] ∧ SameB R H6 H' ∧ H' R = some (.dT (rowD T)) ∧ 0 < mis ∧ Mad S T ∧ (∀ q ∈ keys T, pickL cols q ∈ (E3.take i).map (·.1) ∨ q ∈ keys (Gr.take j)) ∧ ∀ r, Tl.cnt T r + Tl.cnt (topR mis (Gr.drop j)) r = topB cols m S ((E3.take i).map (·.1) ++ [e.1]) r)
      ⟨y8, m, T, rfl, e7, hR7, by omega, mad, fun q hq => .inl (hks q hq), fun r => by rw [hcnt r]; exact tgt r⟩ (fun j σ H' _ pv => ?_) (fun j x σ H' hxj pv => ?_) (fun σ H' pv => ?_)
    · obtain ⟨_, _, _, _, e, _⟩ := pv
      exact SqL.of (e _ _ nlR l1)
    · obtain ⟨y8, mis, T, rfl, e8, hR8, hmis, mad, hks8, hcnt8⟩ := pv
      rw [List.getElem?_map] at hxj
      obtain ⟨b, hbj, rfl⟩ := Option.map_eq_some_iff.mp hxj
      obtain ⟨p, hp, hb6⟩ := DX.pget (flipP l2) hbj
      have hpm := List.mem_of_getElem? hp
      obtain ⟨hpS, hpk⟩ := subG p hpm
      obtain ⟨hpL, hpos⟩ := hSL p hpS
      have nbR : b ≠ R := ne_of hb6 hR6 (fun z => nomatch z)
      have hb8 : RowAt H' b p.1 := e8 _ _ nbR hb6
      have hgc : DGet H' a (.ref b) (some (.int p.2)) := by
        rw [← cnt_in t.nd hpL]
        exact dget_row_in (.inl (e8 _ _ naR ha6)) t.nd hb8 (List.mem_map.mpr ⟨p, hpL, rfl⟩)
      have hdr : Gr.drop j = p :: Gr.drop (j + 1) := by
        obtain ⟨hj, hpe⟩ := List.getElem?_eq_some_iff.mp hp
        rw [List.drop_eq_getElem_cons hj, hpe]
      have htk : Gr.take (j + 1) = Gr.take j ++ [p] := by rw [List.take_add_one, hp]; rfl
      have hpT : p.1 ∉ keys T := fun hin => by
        rcases hks8 _ hin with h | h
        · rw [hpk] at h
          exact hnew h
        · have nd := ndG.sublist ((List.take_sublist (j + 1) Gr).map (·.1))
          rw [htk, List.map_append] at nd
          exact (List.nodup_append.mp nd).2.2 _ h _ (List.mem_singleton.mpr rfl) rfl
      have hmin : (if mis < p.2 then mis else p.2) = min p.2 mis := by
        split
        · rw [Int.min_eq_right (by omega)]
        · rw [Int.min_eq_left (by omega)]
      have hv0 : 0 < min p.2 mis := Int.lt_min.mpr ⟨hpos, hmis⟩
      have hvm : min p.2 mis ≤ mis := Int.min_le_right ..
      have lt : T.length < sizeLine := Nat.lt_of_le_of_lt (Nat.le_trans mad.len lS) (by decide)
      have cnt9 : ∀ r, Tl.cnt (Tl.put T p.1 (min p.2 mis)) r + Tl.cnt (topR (mis - min p.2 mis) (Gr.drop (j + 1))) r = topB cols m S ((E3.take i).map (·.1) ++ [e.1]) r := top_put mad.nd hpT (by rw [← hdr]; exact hcnt8)
      have mad9 := mad.put (k := p.1) (v := min p.2 mis) (List.mem_map.mpr ⟨p, hpS, rfl⟩) (by omega)
      have ks9 : ∀ q ∈ keys (Tl.put T p.1 (min p.2 mis)), pickL cols q ∈ (E3.take i).map (·.1) ∨ q ∈ keys (Gr.take (j + 1)) := fun q hq => by
        obtain ⟨x, hx, rfl⟩ := List.mem_map.mp hq
        rw [htk, keys, List.map_append]
        rcases put_mem hx with h | h
        · exact .inr (List.mem_append_right _ (by rw [h]; exact List.mem_singleton.mpr rfl))
        · exact (hks8 _ h).imp id fun h => List.mem_append_left _ h
      have restPos : ∀ x ∈ Gr.drop (j + 1), 0 < x.2 := fun x hx => (hSL x (subG x (List.mem_of_mem_drop hx)).1).2
      generalize min p.2 mis = v at hmin hv0 hvm cnt9 mad9 ks9
      refine ⟨.ref a, rfl, .ref b, rfl, a, _, rfl, hgc, .int mis, rfl, _, _, rfl, ?_⟩
      rw [hmin]
      refine ⟨.ref R, rfl, .ref b, rfl, R, _, rfl, dput_row hR8 hb8 lt, ?_⟩
      have e9 : SameB R H6 (L2.upd H' R (.dT (rowD (Tl.put T p.1 v)))) := e8.trans SameB.upd
      have hR9 := upd_same (H := H') (a := R) (o := .dT (rowD (Tl.put T p.1 v)))
      have hb9 : RowAt (L2.upd H' R (.dT (rowD (Tl.put T p.1 v)))) b p.1 := rowAt_upd hb8 fun us z => by rw [hR8] at z; cases z
      generalize L2.upd H' R (.dT (rowD (Tl.put T p.1 v))) = H9 at e9 hR9 hb9 ⊢
      have hg9 : DGet H9 R (.ref b) (some (.int v)) := by
        have hin : p.1 ∈ keys (Tl.put T p.1 v) := by
          rw [put_keys, if_neg hpT]
          exact List.mem_append_right _ (List.mem_singleton.mpr rfl)
        have := dget_row_in (.inl hR9) mad9.nd hb9 hin
        rwa [put_cnt mad.nd, if_pos rfl] at this
      refine ⟨.int mis, rfl, .ref R, rfl, .ref b, rfl, R, _, rfl, hg9, _, _, rfl, rfl, ?_⟩
      refine ⟨.int (mis - v), rfl, rfl, _, rfl, ?_⟩
      by_cases h0 : mis - v = 0
      · rw [decide_eq_true (show V.int (mis - v) = V.int 0 by rw [h0])]
        refine iteT ⟨_, _, _, _, rfl, e9, hR9, mad9, fun q hq => ?_, fun r => ?_⟩
        · rcases ks9 q hq with h | h
          · exact List.mem_append_left _ h
          · obtain ⟨x, hx, rfl⟩ := List.mem_map.mp h
            exact List.mem_append_right _ (by rw [(subG x (List.mem_of_mem_take hx)).2]; exact List.mem_singleton.mpr rfl)
        · have := cnt9 r
          rw [h0, topR_zero r _ restPos, Int.add_zero] at this
          exact this
      · rw [decide_eq_false (show ¬ V.int (mis - v) = V.int 0 from fun z => h0 (V.int.inj z))]
        exact iteF ⟨_, _, _, rfl, e9, hR9, by omega, mad9, ks9, cnt9⟩
    · obtain ⟨y8, mis, T, rfl, e8, hR8, hmis, mad, hks8, hcnt8⟩ := pv
      have lg : Gr.length ≤ (e.2.2.map V.ref).length := by rw [List.length_map, l2.length]; exact Nat.le_refl _
      refine ⟨_, _, _, T, rfl, e8, hR8, mad, fun q hq => ?_, fun r => ?_⟩
      · rcases hks8 q hq with h | h
        · exact List.mem_append_left _ h
        · obtain ⟨x, hx, rfl⟩ := List.mem_map.mp h
          exact List.mem_append_right _ (by rw [(subG x (List.mem_of_mem_take hx)).2]; exact List.mem_singleton.mpr rfl)
      · have := hcnt8 r
        rw [List.drop_eq_nil_of_le lg] at this
        rw [← this]
        show _ = Tl.cnt T r + 0
        omega
  · obtain ⟨y6, y7, y8, T, rfl, e7, hR7, mad, hks, hcnt⟩ := pv'
    rw [show E3.take (grD E3).length = E3 by rw [List.take_of_length_le]; simp] at hcnt
    have F : Fin T := ⟨mad.nd, fun p hp => by
      have := mad.nz p.1 (List.mem_map.mpr ⟨p, hp, rfl⟩)
      rwa [cnt_in mad.nd hp] at this⟩
    refine ⟨e7 _ _ nRG hz, .ref R, rfl, q _ R T (fun b o ho => ?_) (e4.new hR) ⟨?_, mad.nd, Nat.le_trans mad.len lS⟩ F (fun k => ?_) fun p hp => ?_⟩
    · have h4 := e4 _ _ ho
      by_cases hbG : b = G
      · rw [hbG, upd_same, ← g.at', ← hbG, h4]
      · rw [upd_ne hbG]
        exact e7 _ _ (ne_of_none h4 hR) (e6 _ _ hbG h4)
    · rw [upd_ne nRG.symm]
      exact hR7
    · rw [hcnt k, topL, cnt_topW]
      unfold topB
      split
      · rfl
      · next hno =>
        have := g.out _ hno
        rw [this]
        rfl
    · show p.1 ∈ keys (topL cols m S)
      rw [topL, keys_topW]
      exact mad.inn _ (List.mem_map.mpr ⟨p, hp, rfl⟩)
end
end K18

namespace K18
open PySem PySem.Spec PyProof.Rows L2 RW9 Tl
/-- a word of the module's dict of works: the def of this promise -/
def WorkAt (P : Program) (w : World) (K : PySem.W.Frag) (mg : Str → Option Value) (base : Heap) (W : Addr) (word : Str) (sp : Sp) : Prop := ∃ f, KDct K w W word (.ref f) ∧ HeldR P w K mg base 3 f sp
structure Works (P : Program) (w : World) (K : PySem.W.Frag) (mg : Str → Option Value) (base : Heap) (W : Addr) : Prop where
  choose : WorkAt P w K mg base W "choose" (spChoose K)
  map : WorkAt P w K mg base W "map" (spMap K)
  join : WorkAt P w K mg base W "join" (spJoin K)
  plus : WorkAt P w K mg base W "plus" spWPlus
  less : WorkAt P w K mg base W "less" spWLess
  distinct : WorkAt P w K mg base W "distinct" spDistinct
  without : WorkAt P w K mg base W "without" (spWithout K)
  group : WorkAt P w K mg base W "group" (spGroup K)
  top : WorkAt P w K mg base W "top" spTop
theorem Da.srtI {K : PySem.W.Frag} {H : Hp} {v : V} {s : Srt} (h : Da K H v (srtD s)) : ∃ b, v = .ref b ∧ SrtAt H b s := by
  unfold srtD at h
  unfold SrtAt srtV
  split at h
  · next e =>
    rw [if_pos e]
    cases h with
    | @tup a xs ds hs ha =>
      cases ha with
      | cons h1 h2 =>
        cases h2
        cases h1
        exact ⟨a, rfl, hs⟩
  · next e =>
    rw [if_neg e]
    cases h with
    | @tup a xs ds hs ha =>
      cases ha with
      | cons h1 h2 =>
        cases h2 with
        | cons h2 h3 =>
          cases h3
          cases h1
          cases h2
          exact ⟨a, rfl, hs⟩
/-- the tallies Ls make R by the node xs -/
inductive Part (K : PySem.W.Frag) (H : Hp) (xs : List V) : List Tly → Tly → Prop
  | choose {v : V} {l : List Tst} {L : Tly} (h0 : xs[0]? = some (.str "choose")) (h2 : xs[2]? = some v) (hd : Da K H v (tstsD l)) (hf : Fin L) (hl : l.length ≤ 1000) (ok : ∀ p ∈ L, ∀ x ∈ l, TstOk x p.1) : Part K H xs [L] (chooseL l L)
  | map {v : V} {ts : List Tm} {L : Tly} (h0 : xs[0]? = some (.str "map")) (h2 : xs[2]? = some v) (hd : Da K H v (tsD ts)) (hl : ts.length ≤ 1000) (ok : ∀ p ∈ L, ∀ t ∈ ts, VOk t p.1) : Part K H xs [L] (mapL ts L)
  | join {v : V} {cols : List (Int × Int)} {L M : Tly} (h0 : xs[0]? = some (.str "join")) (h3 : xs[3]? = some v) (hd : Da K H v (ptD cols)) (ok : JoinOk cols L M) : Part K H xs [L, M] (joinL cols L M)
  | plus {L M : Tly} (h0 : xs[0]? = some (.str "plus")) (hn : L.length + M.length ≤ 5000) : Part K H xs [L, M] (L ++ M)
  | less {L M : Tly} (h0 : xs[0]? = some (.str "less")) (hn : L.length + M.length ≤ 5000) : Part K H xs [L, M] (lessL L M)
  | distinct {L : Tly} (h0 : xs[0]? = some (.str "distinct")) : Part K H xs [L] (distinctL L)
  | without {v : V} {cols : List (Int × Int)} {L M : Tly} (h0 : xs[0]? = some (.str "without")) (h3 : xs[3]? = some v) (hd : Da K H v (ptD cols)) (hf : Fin L) (ok : WithOk cols L M) : Part K H xs [L, M] (withoutL cols L M)
  | group {v1 v2 v3 : V} {cols : List Int} {s : Srt} {L : Tly} (hx : xs = [.str "group", v1, v2, v3]) (h2 : Da K H v2 (mo cols)) (h3 : Da K H v3 (srtD s)) (ok : GrpOk s cols L) : Part K H xs [L] (groupL s cols L)
  | top {v1 v2 : V} {m : Int} {cols : List Int} {L S : Tly} (hx : xs = [.str "top", v1, v2, .int m]) (h2 : Da K H v2 (mo cols)) (ok : TopOk cols m L) (hS : S.Perm (posL L)) (sS : SortL S) : Part K H xs [L] (topL cols m S)
abbrev TalsAt (H : Hp) : List V → List Tly → Prop := Paired fun v L => ∃ b, v = .ref b ∧ TalAt H b L
theorem Part.same {K : PySem.W.Frag} {H H' : Hp} {xs : List V} {Ls : List Tly} {R : Tly} (h : Part K H xs Ls R) (e : Same H H') : Part K H' xs Ls R := by
  cases h with
  | choose h0 h2 hd hf hl ok => exact .choose h0 h2 (Da.same e _ _ hd) hf hl ok
  | map h0 h2 hd hl ok => exact .map h0 h2 (Da.same e _ _ hd) hl ok
  | join h0 h3 hd ok => exact .join h0 h3 (Da.same e _ _ hd) ok
  | plus h0 hn => exact .plus h0 hn
  | less h0 hn => exact .less h0 hn
  | distinct h0 => exact .distinct h0
  | without h0 h3 hd hf ok => exact .without h0 h3 (Da.same e _ _ hd) hf ok
  | group hx h2 h3 ok => exact .group hx (Da.same e _ _ h2) (Da.same e _ _ h3) ok
  | top hx h2 ok hS sS => exact .top hx (Da.same e _ _ h2) ok hS sS
section
variable {P : Program} {w : World} {K : PySem.W.Frag} {mg : Str → Option Value} {base : Heap} {C W_WORKS : Addr}
theorem Works.call (S : Works P w K mg base W_WORKS) {H : Hp} {n : Addr} {xs us : List V} {Ls : List Tly} {R : Tly} {Q : VK} (hn : H n = some (.tup xs)) (p : Part K H xs Ls R) (hu : TalsAt H us Ls) (g : Gives H Q R) :
    ∃ (word : Str) (f : Addr) (sp : Sp), xs[0]? = some (.str word) ∧ KDct K w W_WORKS word (.ref f) ∧ HeldR P w K mg base 3 f sp ∧ sp (.ref n :: us) H Q E0 := by
  cases p with
  | choose h0 h2 hd hf hl ok =>
    cases hu with
    | cons h t =>
      cases t
      obtain ⟨b, rfl, hb⟩ := h
      obtain ⟨f, k, hh⟩ := S.choose
      exact ⟨_, f, _, h0, k, hh, n, b, xs, _, _, _, rfl, hn, h2, hd, hb, hf, hl, ok, g⟩
  | map h0 h2 hd hl ok =>
    cases hu with
    | cons h t =>
      cases t
      obtain ⟨b, rfl, hb⟩ := h
      obtain ⟨f, k, hh⟩ := S.map
      exact ⟨_, f, _, h0, k, hh, n, b, xs, _, _, _, rfl, hn, h2, hd, hb, hl, ok, g⟩
  | join h0 h3 hd ok =>
    cases hu with
    | cons h t =>
      cases t with
      | cons h' t =>
        cases t
        obtain ⟨b, rfl, hb⟩ := h
        obtain ⟨c, rfl, hc⟩ := h'
        obtain ⟨f, k, hh⟩ := S.join
        exact ⟨_, f, _, h0, k, hh, n, b, c, xs, _, _, _, _, rfl, hn, h3, hd, hb, hc, ok, g⟩
  | plus h0 hn' =>
    cases hu with
    | cons h t =>
      cases t with
      | cons h' t =>
        cases t
        obtain ⟨b, rfl, hb⟩ := h
        obtain ⟨c, rfl, hc⟩ := h'
        obtain ⟨f, k, hh⟩ := S.plus
        exact ⟨_, f, _, h0, k, hh, .ref n, b, c, _, _, rfl, hb, hc, hn', g⟩
  | less h0 hn' =>
    cases hu with
    | cons h t =>
      cases t with
      | cons h' t =>
        cases t
        obtain ⟨b, rfl, hb⟩ := h
        obtain ⟨c, rfl, hc⟩ := h'
        obtain ⟨f, k, hh⟩ := S.less
        exact ⟨_, f, _, h0, k, hh, .ref n, b, c, _, _, rfl, hb, hc, hn', g⟩
  | distinct h0 =>
    cases hu with
    | cons h t =>
      cases t
      obtain ⟨b, rfl, hb⟩ := h
      obtain ⟨f, k, hh⟩ := S.distinct
      exact ⟨_, f, _, h0, k, hh, .ref n, b, _, rfl, hb, g⟩
  | without h0 h3 hd hf ok =>
    cases hu with
    | cons h t =>
      cases t with
      | cons h' t =>
        cases t
        obtain ⟨b, rfl, hb⟩ := h
        obtain ⟨c, rfl, hc⟩ := h'
        obtain ⟨f, k, hh⟩ := S.without
        exact ⟨_, f, _, h0, k, hh, n, b, c, xs, _, _, _, _, rfl, hn, h3, hd, hb, hf, hc, ok, g⟩
  | group hx h2 h3 ok =>
    cases hu with
    | cons h t =>
      cases t
      obtain ⟨b, rfl, hb⟩ := h
      obtain ⟨f, k, hh⟩ := S.group
      subst hx
      obtain ⟨kt, rfl, hkt⟩ := Mo.trk h2
      obtain ⟨st, rfl, hst⟩ := Da.srtI h3
      exact ⟨_, f, _, rfl, k, hh, n, b, kt, st, _, _, _, _, _, rfl, hn, hkt, hst, hb, ok, g⟩
  | top hx h2 ok hS sS =>
    cases hu with
    | cons h t =>
      cases t
      obtain ⟨b, rfl, hb⟩ := h
      obtain ⟨f, k, hh⟩ := S.top
      subst hx
      obtain ⟨kt, rfl, hkt⟩ := Mo.trk h2
      exact ⟨_, f, _, rfl, k, hh, n, b, kt, _, _, _, _, _, _, rfl, hn, hkt, hb, ok, hS, sS, g⟩
def spWork (K : PySem.W.Frag) : Sp := fun vs H Q _ => ∃ (n t : Addr) (xs us : List V) (Ls : List Tly) (R : Tly), vs = [.ref n, .ref t] ∧ H n = some (.tup xs) ∧ H t = some (.lst us) ∧ Part K H xs Ls R ∧ TalsAt H us Ls ∧ Gives H Q R
theorem d_work (B : Bt mg) (T : Top K mg "work" swork ["node", "tallies"]) (mW_WORKS : mg "WORKS" = some (.ref W_WORKS)) (S : Works P w K mg base W_WORKS) : Def P w K mg base "work" 4 ["node", "tallies"] (spWork K) := by
  refine mk_def T scwork (by rintro _ _ _ _ ⟨_, _, _, _, _, _, rfl, _⟩; rfl) fun f cdv A outer s H vs Q E hr h => ?_
  obtain ⟨n, t, xs, us, Ls, R, rfl, hn, ht, hp, hu, g⟩ := h
  refine ⟨_, (pss_cons (ps_set (i := 2) scwork.nd rfl (Or.inl rfl) (pe_ix ix_kdict (pe_glob (v := .ref W_WORKS) (by rfl) mW_WORKS rfl) (pe_ix ix_tup (pv 0) pe_int (fun _ _ => rfl)) (fun _ _ => rfl)))
      (pss_one (ps_ret (pe_callSL (k := 3) (hr.mono (by first | decide | omega)) (i := 2) rfl (Or.inl rfl) (pa_cons (pv 0) (StX.pa_star (pv 1) pa_nil)))))), ?_⟩
  obtain ⟨word, f2, sp, h0, hk, hh, hs⟩ := S.call hn hp hu g
  refine ⟨.ref n, rfl, n, _, _, .str word, rfl, rfl, SqT.of hn, atI_nat (j := 0) h0, W_WORKS, word, .ref f2, rfl, rfl, hk, ?_⟩
  refine ⟨f2, sp, rfl, hh, .ref n, rfl, .ref t, rfl, t, us, rfl, .inr (SqL.of ht), ?_⟩
  show sp (.ref n :: (us ++ [])) H Q E0
  rw [List.append_nil]
  exact hs
end
end K18

namespace K18
open PySem PySem.Spec PyProof.Rows L2 RW9 Tl
section
variable {P : Program} {w : World} {K : PySem.W.Frag} {mg : Str → Option Value} {base : Heap} {C W_WORKS : Addr}
abbrev BagsAt (K : PySem.W.Frag) (C : Addr) (H : Hp) : List V → List Tly → Prop := Paired fun v L => ∃ p dx c, v = .ref p ∧ BagR K C H p dx c L
theorem BagR.same {H H' : Hp} {p dx c : Addr} {L : Tly} (h : BagR K C H p dx c L) (e : Same H H') : BagR K C H' p dx c L := ⟨e _ _ h.ins, h.tal.same e, h.fin⟩
def spWorkedT (K : PySem.W.Frag) (C : Addr) : Sp := fun vs H Q _ => ∃ (n t : Addr) (xs bs : List V) (Ls : List Tly) (R : Tly), vs = [.ref n, .ref t] ∧ H n = some (.tup xs) ∧ H t = some (.tup bs) ∧ Part K H xs Ls R ∧ BagsAt K C H bs Ls ∧ Ls.length ≤ 100 ∧
  ∀ H' p dx c T, Same H H' → H p = none → BagR K C H' p dx c T → (∀ k, Tl.cnt T k = Tl.cnt R k) → (∀ q ∈ T, q.1 ∈ keys R) → Q (.ref p) H'
theorem d_workedT (B : Bt mg) (T : TopS K mg "worked" sworked ["node"] "bags") (Dbag_of_tally : Def P w K mg base "bag_of_tally" 6 ["counts"] (spBagOf K C)) (Dtally_in : Def P w K mg base "tally_in" 1 ["bag"] (spTallyIn K C)) (Dwork : Def P w K mg base "work" 4 ["node", "tallies"] (spWork K)) :
    DefR P w K mg base "worked" 7 (fun vs H Q E => ∃ ws rest, vs = ws ++ rest ∧ ws.length = (["node"] : List Str).length ∧ rest.length ≤ sizeLine ∧ ∀ p, H p = Option.none → spWorkedT K C (ws ++ [V.ref p]) (L2.upd H p (.tup rest)) Q E) := by
  refine mk_defS T scworked fun f cdv A outer s H vs Q E hr h => ?_
  obtain ⟨n, t, xs, bs, Ls, R, rfl, hn, ht, hp, hb, hl, q⟩ := h
  refine ⟨_, (pss_one (ps_ret (pe_def Dbag_of_tally (hr.mono (by first | decide | omega)) (by rfl) (pa_cons (pe_def Dwork (hr.mono (by first | decide | omega)) (by rfl) (pa_cons (pv 0) (pa_cons (pe_lc (own := [("bag", 2)]) (g := (gName 2)) (tt := tYes) (te := (tCall (spTallyIn K C) [] E0 (tCons (tVar 2) tNil))) rfl scworked.nd (pi_tup (pv 1)) (blkOk_by (own := [("bag", 2)]) (N := Nworked) (sc := defScope sworked) (by decide +kernel)) (fun _ _ _ _ _ => (pg_name (i := 2) scworked.nd rfl (Or.inl rfl))) (fun _ _ _ _ _ => pts_nil) (fun _ _ _ _ _ => (pe_def Dtally_in (hr.mono (by first | decide | omega)) (by rfl) (pa_cons (pv 2) pa_nil)))) pa_nil))) pa_nil)))), ?_⟩
  refine ⟨.ref n, rfl, .ref t, rfl, t, rfl, ⟨_, SqT.of ht⟩, fun D hD => ?_⟩
  have lb : bs.length = Ls.length := Paired.length hb
  refine lc_it (walk_tup (K := K) (xs := bs)) (fun i H' => Same H H' ∧ ∃ acc, H' D = some (.lst acc) ∧ TalsAt H' acc (Ls.take i)) ⟨same_upd hD, [], upd_same, .nil⟩ (fun i H' _ p => p.1.seqT (SqT.of ht)) (fun i x H1 H2 hi pv y => ?_) (fun H1 pv => ?_)
  · obtain ⟨e, acc, eD, hacc⟩ := pv
    obtain ⟨rfl, hx⟩ := y
    obtain ⟨L, hL, p, dx, c, rfl, hr'⟩ := DX.pget (flipP hb) hx
    refine ⟨rfl, .ref p, rfl, p, dx, c, L, rfl, hr'.same e, fun H3 b s3 hbn tb => ?_⟩
    have eD3 := s3 _ _ eD
    have nbD : b ≠ D := fun z => by
      rw [z, eD] at hbn
      cases hbn
    have st : ∀ v L, (∃ b, v = V.ref b ∧ TalAt H3 b L) → ∃ b', v = V.ref b' ∧ TalAt (L2.upd H3 D (.lst (acc ++ [.ref b]))) b' L := fun v L ⟨b', e1, t1⟩ => by
      refine ⟨b', e1, ?_, t1.nd, t1.len⟩
      rw [upd_ne (ne_of t1.at' eD3 (fun z => nomatch z))]
      exact t1.at'
    refine ⟨acc, eD3, ?_, (e.trans s3).mut hD, _, upd_same, ?_⟩
    · rw [Paired.length hacc]
      refine Nat.lt_of_le_of_lt (Nat.le_trans (List.take_sublist _ _).length_le hl) (by decide)
    · rw [List.take_add_one, hL, Option.toList_some]
      exact Paired.snoc (Paired.mapP hacc fun v L ⟨b', e1, t1⟩ => st v L ⟨b', e1, t1.same s3⟩) (st _ _ ⟨b, rfl, tb⟩)
  · obtain ⟨e, acc, eD, hacc⟩ := pv
    rw [lb, List.take_length] at hacc
    refine ⟨n, D, xs, acc, Ls, R, rfl, e _ _ hn, eD, hp.same e, hacc, fun H2 b T2 s2 hbn tb fb cb kb => ?_⟩
    exact ⟨b, T2, rfl, tb, fb, fun H3 p dx s3 hpn r => q H3 p dx b T2 ((e.trans s2).trans s3) ((e.trans s2).new hpn) r cb kb⟩
/-- worked(node, bag, ..) -/
def spWorked (K : PySem.W.Frag) (C : Addr) : Sp := fun vs H Q _ => ∃ (n : Addr) (xs bs : List V) (Ls : List Tly) (R : Tly), vs = .ref n :: bs ∧ H n = some (.tup xs) ∧ Part K H xs Ls R ∧ BagsAt K C H bs Ls ∧ Ls.length ≤ 100 ∧
  ∀ H' p dx c T, Same H H' → H p = none → BagR K C H' p dx c T → (∀ k, Tl.cnt T k = Tl.cnt R k) → (∀ q ∈ T, q.1 ∈ keys R) → Q (.ref p) H'
theorem d_worked (D : DefR P w K mg base "worked" 7 (fun vs H Q E => ∃ ws rest, vs = ws ++ rest ∧ ws.length = (["node"] : List Str).length ∧ rest.length ≤ sizeLine ∧ ∀ p, H p = Option.none → spWorkedT K C (ws ++ [V.ref p]) (L2.upd H p (.tup rest)) Q E)) : DefR P w K mg base "worked" 7 (spWorked K C) := by
  obtain ⟨f, F, g, kp⟩ := D
  refine ⟨f, F.imp fun vs H Q E h => ?_, g, kp⟩
  obtain ⟨n, xs, bs, Ls, R, rfl, hn, hp, hb, hl, q⟩ := h
  refine ⟨[.ref n], bs, rfl, rfl, ?_, fun t ht => ?_⟩
  · rw [Paired.length hb]
    exact Nat.le_trans hl (by decide)
  · have e := same_upd (o := .tup bs) ht
    refine ⟨n, t, xs, bs, Ls, R, rfl, e _ _ hn, upd_same, hp.same e, Paired.mapP hb fun v L ⟨p, dx, c, e1, r⟩ => ⟨p, dx, c, e1, r.same e⟩, hl, fun H' p dx c T s hpn r c1 k1 => q H' p dx c T (e.trans s) (e.new hpn) r c1 k1⟩
end
end K18

namespace K18
open PySem PySem.Spec PyProof.Rows L2 RW9 Tl
/-- all rows have one width -/
def OneW (ps : Tly) : Prop := ∃ n : Nat, ∀ p ∈ ps, p.1.length = n
theorem oneW_nil {T : Tly} {n : Nat} (h : ∀ p ∈ T, p.1.length = n) (nd : (keys T).Nodup) : 2 ≤ (keys T).length → [] ∉ keys T := fun h2 hin => by
  obtain ⟨p, hp, e⟩ := List.mem_map.mp hin
  have hn : n = 0 := by rw [← h p hp, e]; rfl
  have all : ∀ k ∈ keys T, k = [] := fun k hk => by
    obtain ⟨r, hr, e2⟩ := List.mem_map.mp hk
    have := h r hr
    rw [hn, e2] at this
    exact List.length_eq_zero_iff.mp this
  match hk : keys T, h2 with
  | a :: b :: l, _ =>
    rw [hk] at nd all
    have ha := all a (by simp)
    have hb := all b (by simp)
    rw [ha, hb] at nd
    exact absurd nd (by simp)
section
variable {P : Program} {w : World} {K : PySem.W.Frag} {mg : Str → Option Value} {base : Heap} {C : Addr}
def spAdded : Sp := fun vs H Q _ => ∃ (a : Addr) (ps : Tly), vs = [.ref a] ∧ PairsAt H a ps ∧ ps.length ≤ 5000 ∧ OneW ps ∧ ∀ H' l D, Same H H' → H l = none → PairsAt H' l D → Fin D → SortL D → (∀ k, Tl.cnt D k = Tl.cnt ps k) → (∀ p ∈ D, p.1 ∈ keys ps) → Q (.ref l) H'
theorem d_law_added (B : Bt mg) (T : Top K mg "_law_added" s_law_added ["pairs"]) : Def P w K mg base "_law_added" 1 ["pairs"] spAdded := by
  refine mk_def T sc_law_added (by rintro _ _ _ _ ⟨_, _, rfl, _⟩; rfl) fun f cdv A outer s H vs Q E hr h => ?_
  obtain ⟨a, ps, rfl, ⟨acc, ha, hx⟩, hn, ⟨wd, hw⟩, q⟩ := h
  refine ⟨_, (pss_cons (ps_set (i := 1) sc_law_added.nd rfl (Or.inr rfl) (pe_dnewT))
      (pss_cons (ps_for PassesOwn.never rfl (pi_list (pv 0)) (pg_tup rfl (pgs_cons (pg_name (i := 2) sc_law_added.nd rfl (Or.inl rfl)) (pgs_cons (pg_name (i := 3) sc_law_added.nd rfl (Or.inl rfl)) pgs_nil))) (pss_one (ps_dput (hu_of hr) (pv 1) (pv 2) (pe_op op_add (pe_dget2 (hu_of hr) (pv 1) (pv 2) pe_int ⟨by rfl, by rfl, by rfl, by rfl⟩) (pv 3)) rfl)))
      (pss_one (ps_ret (pe_lc (own := [("row", 2)]) (g := (gName 2)) (tt := (tTest (tOp rNe (tDGet (tVar 1) (tVar 2)) (tC (.int 0))))) (te := (tTup (tCons (tVar 2) (tCons (tDGet (tVar 1) (tVar 2)) tNil)))) rfl sc_law_added.nd (pi_list (pe_callB (cr_sortedKeysR rfl (hu8 hr)) (by rfl) B.m_sorted (by decide +kernel) (pa_cons (pv 1) pa_nil))) (blkOk_by (own := [("row", 2)]) (N := N_law_added) (sc := defScope s_law_added) (by decide +kernel)) (fun _ _ _ _ _ => (pg_name (i := 2) sc_law_added.nd rfl (Or.inl rfl))) (fun _ _ _ _ _ => (pts_one (pt_cmpR op_ne (pe_dget (hu_of hr) (pv 1) (pv 2) (fun _ _ => rfl)) pe_int (nomark _)))) (fun _ _ _ _ _ => (pe_tup (pa_cons (pv 2) (pa_cons (pe_dget (hu_of hr) (pv 1) (pv 2) (fun _ _ => rfl)) pa_nil))))))))), ?_⟩
  intro M hM
  have naM : a ≠ M := ne_of_none ha hM
  have ha1 : L2.upd H M (.dT []) a = some (.lst acc) := by rw [upd_ne naM]; exact ha
  refine ⟨.ref a, rfl, a, rfl, ⟨_, SqL.of ha1⟩, ?_⟩
  have hl : acc.length = ps.length := Paired.length hx
  refine for_list (xs := acc) (fun i σ H' => ∃ y2 y3 T, σ = [some (.ref a), some (.ref M), y2, y3] ∧ SameB M H H' ∧ Sum H' M T (ps.take i)) ⟨none, none, [], rfl, Same.b (same_upd hM), ⟨upd_same, List.Pairwise.nil, Nat.le_refl _, fun k => rfl, fun p hp => nomatch hp⟩⟩ (fun i σ H' _ pv' => ?_) (fun i x σ H' hxi pv' => ?_) (fun σ H' pv' => ?_)
  · obtain ⟨_, _, _, _, e, _⟩ := pv'
    exact SqL.of (e _ _ naM ha)
  · obtain ⟨y2, y3, T, rfl, e, S⟩ := pv'
    obtain ⟨p, hp, hpx⟩ := DX.pget (flipP hx) hxi
    have st : ∀ t us, H t = some (.tup us) → H' t = some (.tup us) := fun t us ht => e _ _ (fun z => by rw [z, hM] at ht; cases ht) ht
    obtain ⟨t, b, rfl, ht, hb⟩ := hpx.st st
    obtain ⟨o, ho, eo⟩ := dget_row (.inl S.at') S.nd hb
    have lt : T.length < sizeLine := Nat.lt_of_le_of_lt (Nat.le_trans S.len (Nat.le_trans (List.take_sublist _ _).length_le hn)) (by decide)
    refine ⟨t, _, rfl, SqT.of ht, rfl, _, _, rfl, _, _, rfl, rfl, ?_⟩
    refine ⟨.ref M, rfl, M, rfl, .inr ⟨_, .inl S.at'⟩, .ref b, rfl, o, ho, .int p.2, rfl, _, _, eo, rfl, .ref M, rfl, .ref b, rfl, M, _, rfl, dput_row S.at' hb lt, _, _, Tl.put T p.1 (Tl.cnt T p.1 + p.2), rfl, e.trans SameB.upd, ?_⟩
    rw [List.take_add_one, hp, Option.toList_some]
    exact S.put p
  · obtain ⟨y2, y3, T, rfl, e, S⟩ := pv'
    rw [hl, List.take_length] at S
    have hwT : ∀ p ∈ T, p.1.length = wd := fun p hp => by
      obtain ⟨r, hr', e2⟩ := List.mem_map.mp (S.inn p hp)
      rw [← e2]
      exact hw r hr'
    refine ⟨.ref M, rfl, M, _, keys T, rfl, .inl S.at', by rw [List.map_map, List.map_map]; rfl, oneW_nil hwT S.nd, fun p0 ts Ks hp0 pm nd so pr => ?_⟩
    have e1 : Same H' (L2.upd H' p0 (.lst (ts.map V.ref))) := same_upd hp0
    have e0 : Same H (L2.upd H' p0 (.lst (ts.map V.ref))) := fun t u ht => e1 _ _ (e _ _ (fun z => by rw [z, hM] at ht; cases ht) ht)
    have hp1 : L2.upd H' p0 (.lst (ts.map V.ref)) p0 = some (.lst (ts.map V.ref)) := upd_same
    have hM1 : L2.upd H' p0 (.lst (ts.map V.ref)) M = some (.dT (rowD T)) := e1 _ _ S.at'
    have pr1 : Paired (fun (t : Addr) (r : List Int) => RowAt (L2.upd H' p0 (.lst (ts.map V.ref))) t r) ts Ks := Paired.mapP pr fun t r h => e1 _ _ h
    generalize L2.upd H' p0 (.lst (ts.map V.ref)) = H1 at e0 hp1 hM1 pr1 ⊢
    refine ⟨p0, rfl, ⟨_, SqL.of hp1⟩, fun D hD => ?_⟩
    have lK : ts.length = Ks.length := Paired.length pr1
    have lKT : Ks.length ≤ 5000 := by
      rw [pm.length_eq, List.length_map]
      exact Nat.le_trans S.len hn
    refine lc_it (walk_list (K := K) (xs := ts.map V.ref)) (fun i H2 => Same H1 H2 ∧ ∃ acc, H2 D = some (.lst acc) ∧ Paired (PairAt H2) acc (((Ks.take i).map fun k => (k, Tl.cnt T k)).filter fun p => decide (p.2 ≠ 0))) ⟨same_upd hD, [], upd_same, .nil⟩ (fun i H2 _ p => SqL.of (p.1 _ _ hp1)) (fun i x H2 H3 hi pv y => ?_) (fun H2 pv => ?_)
    · obtain ⟨e2, acc2, eD, hacc⟩ := pv
      obtain ⟨rfl, hxi⟩ := y
      rw [List.getElem?_map] at hxi
      obtain ⟨t, ht, rfl⟩ := Option.map_eq_some_iff.mp hxi
      obtain ⟨k, hk, hkr⟩ := DX.pget (flipP pr1) ht
      have hkT : k ∈ keys T := pm.mem_iff.mp (List.mem_of_getElem? hk)
      have hg : ∀ H4, Same H3 H4 → DGet H4 M (.ref t) (some (.int (Tl.cnt T k))) := fun H4 e4 => dget_row_in (.inl (e4 _ _ (e2 _ _ hM1))) S.nd (e4 _ _ (e2 _ _ hkr)) hkT
      have ht1 : Ks.take (i + 1) = Ks.take i ++ [k] := by rw [List.take_add_one, hk]; rfl
      refine ⟨rfl, .ref M, rfl, .ref t, rfl, M, _, rfl, hg _ (Same.refl _), rfl, _, rfl, ?_⟩
      by_cases e00 : Tl.cnt T k = 0
      · rw [decide_eq_true (show V.int (Tl.cnt T k) = V.int 0 by rw [e00])]
        refine iteF ⟨e2, acc2, eD, ?_⟩
        rw [ht1, List.map_append, List.filter_append]
        simpa [e00] using hacc
      · rw [decide_eq_false (show ¬ V.int (Tl.cnt T k) = V.int 0 from fun z => e00 (V.int.inj z))]
        refine iteT ⟨.ref t, rfl, .ref M, rfl, .ref t, rfl, M, _, rfl, hg _ (Same.refl _), by show 2 ≤ sizeLine; decide, fun u hu => ?_⟩
        have eu := same_upd (o := .tup [.ref t, .int (Tl.cnt T k)]) hu
        have nDu : D ≠ u := ne_of_none eD hu
        have eD3 := eu _ _ eD
        refine ⟨acc2, eD3, ?_, (e2.trans eu).mut hD, _, upd_same, ?_⟩
        · rw [Paired.length hacc]
          refine Nat.lt_of_le_of_lt (Nat.le_trans (List.length_filter_le _ _) ?_) (show 5000 < sizeLine by decide)
          rw [List.length_map]
          exact Nat.le_trans (List.take_sublist _ _).length_le lKT
        · have st3 : ∀ z us, H3 z = some (.tup us) → L2.upd (L2.upd H3 u (.tup [.ref t, .int (Tl.cnt T k)])) D (.lst (acc2 ++ [.ref u])) z = some (.tup us) := fun z us hz => by
            rw [upd_ne (ne_of hz eD (fun y => nomatch y)), upd_ne (ne_of_none hz hu)]
            exact hz
          rw [ht1, List.map_append, List.filter_append]
          have : (List.filter (fun p : List Int × Int => decide (p.2 ≠ 0)) ([k].map fun k => (k, Tl.cnt T k))) = [(k, Tl.cnt T k)] := by simp [e00]
          rw [this]
          refine Paired.snoc (Paired.mapP hacc fun v r h => h.st st3) ⟨u, t, rfl, ?_, st3 _ _ (e2 _ _ hkr)⟩
          rw [upd_ne nDu.symm, upd_same]
    · obtain ⟨e2, acc2, eD, hacc⟩ := pv
      rw [show (ts.map V.ref).length = Ks.length by rw [List.length_map, lK], List.take_length] at hacc
      have hDn : H D = none := e0.new hD
      have kk : keys (Ks.map fun k => (k, Tl.cnt T k)) = Ks := by
        unfold keys
        rw [List.map_map]
        exact List.map_id' _
      have ndK : (keys (Ks.map fun k => (k, Tl.cnt T k))).Nodup := by rw [kk]; exact nd
      have cK : ∀ k, Tl.cnt (Ks.map fun k => (k, Tl.cnt T k)) k = Tl.cnt T k := fun k => by
        by_cases hk : k ∈ Ks
        · have := cnt_in ndK (p := (k, Tl.cnt T k)) (List.mem_map.mpr ⟨k, hk, rfl⟩)
          exact this
        · rw [cnt_out (by rw [kk]; exact hk), cnt_out (fun z => hk (pm.mem_iff.mpr z))]
      refine q H2 D (nzL (Ks.map fun k => (k, Tl.cnt T k))) (e0.trans e2) hDn ⟨acc2, eD, hacc⟩ (fin_nz ndK) ?_ (fun k => by rw [cnt_nz, cK, S.sum]) fun p hp => ?_
      · refine List.Pairwise.sublist List.filter_sublist ?_
        rw [List.pairwise_map]
        exact so
      · obtain ⟨k, hk, rfl⟩ := List.mem_map.mp (List.mem_filter.mp hp).1
        obtain ⟨r, hr', e3⟩ := List.mem_map.mp (pm.mem_iff.mp hk)
        show k ∈ keys ps
        rw [← e3]
        exact S.inn r hr'
end
end K18

namespace K18
open PySem PySem.Spec PyProof.Rows L2 RW9 Tl
section
variable {P : Program} {w : World} {K : PySem.W.Frag} {mg : Str → Option Value} {base : Heap} {C : Addr}
def agreeB (cols : List (Int × Int)) (r1 r2 : List Int) : Bool := cols.all fun q => decide (r1.getD q.1.toNat 0 = r2.getD q.2.toNat 0)
def spAgree (K : PySem.W.Frag) : Sp := fun vs H Q _ => ∃ (v : V) (b c : Addr) (cols : List (Int × Int)) (r1 r2 : List Int), vs = [v, .ref b, .ref c] ∧ Da K H v (ptD cols) ∧ RowAt H b r1 ∧ RowAt H c r2 ∧ cols.length ≤ 1000 ∧ ColOk (cols.map (·.1)) r1 ∧ ColOk (cols.map (·.2)) r2 ∧ ∀ H', Same H H' → Q (.bl (agreeB cols r1 r2)) H'
theorem d_law_agree (B : Bt mg) (T : Top K mg "_law_agree" s_law_agree ["pairs", "left", "right"]) : Def P w K mg base "_law_agree" 1 ["pairs", "left", "right"] (spAgree K) := by
  refine mk_def T sc_law_agree (by rintro _ _ _ _ ⟨_, _, _, _, _, _, rfl, _⟩; rfl) fun f cdv A outer s H vs Q E hr h => ?_
  obtain ⟨v, b, c, cols, r1, r2, rfl, hd, hb, hc, hn, o1, o2, q⟩ := h
  refine ⟨_, (pss_one (ps_ret (pe_callB (cr_all rfl) (by rfl) B.m_all (by decide +kernel) (pa_cons (pe_lc (own := [("pair", 3)]) (g := (gName 3)) (tt := tYes) (te := (tOp rEq (tOp (rIxT K) (tVar 1) (tOp (rIxT K) (tVar 3) (tC (.int 0)))) (tOp (rIxT K) (tVar 2) (tOp (rIxT K) (tVar 3) (tC (.int 1)))))) rfl sc_law_agree.nd (pi_tup (pv 0)) (blkOk_by (own := [("pair", 3)]) (N := N_law_agree) (sc := defScope s_law_agree) (by decide +kernel)) (fun _ _ _ _ _ => (pg_name (i := 3) sc_law_agree.nd rfl (Or.inl rfl))) (fun _ _ _ _ _ => pts_nil) (fun _ _ _ _ _ => (pe_cmpR op_eq (pe_ix ix_tup (pv 1) (pe_ix ix_tup (pv 3) pe_int (fun _ _ => rfl)) (fun _ _ => rfl)) (pe_ix ix_tup (pv 2) (pe_ix ix_tup (pv 3) pe_int (fun _ _ => rfl)) (fun _ _ => rfl)) (nomark _)))) pa_nil)))), ?_⟩
  obtain ⟨nv, ys, rfl, hnv, hy⟩ := Da.ptI hd
  have lc : ys.length = cols.length := by rw [hy.length, List.length_map]
  refine ⟨.ref nv, rfl, nv, rfl, ⟨_, SqT.of hnv⟩, fun D hD => ?_⟩
  refine lc_val (walk_tup (K := K)) hD (by omega) (fun H1 e => e.seqT (SqT.of hnv)) ((cols.map fun q => decide (r1.getD q.1.toNat 0 = r2.getD q.2.toNat 0)).map V.bl) (by simp [lc]) (fun i x H1 H2 Q' hi e y k => ?_) (fun H1 e eD => ?_)
  · obtain ⟨rfl, hxi⟩ := y
    obtain ⟨d, hd', hdx⟩ := hy.get hxi
    obtain ⟨q0, hq0, rfl⟩ := at_map hd'
    have hm := List.mem_of_getElem? hq0
    obtain ⟨r, rfl, hr0⟩ := Da.prI (Da.same e _ _ hdx)
    obtain ⟨c0, c1⟩ := o1 q0.1 (List.mem_map.mpr ⟨q0, hm, rfl⟩)
    obtain ⟨c2, c3⟩ := o2 q0.2 (List.mem_map.mpr ⟨q0, hm, rfl⟩)
    refine ⟨rfl, .ref b, rfl, .ref r, rfl, r, _, _, .int q0.1, rfl, rfl, SqT.of hr0, atI_nat (j := 0) rfl, b, _, _, _, rfl, rfl, SqT.of (e _ _ hb), row_at c0 c1, .ref c, rfl, .ref r, rfl, r, _, _, .int q0.2, rfl, rfl, SqT.of hr0, atI_nat (j := 1) rfl, c, _, _, _, rfl, rfl, SqT.of (e _ _ hc), row_at c2 c3, rfl, k _ _ (Same.refl _) ?_⟩
    rw [List.map_map, List.getElem?_map, hq0]
    show some (V.bl (decide (r1.getD q0.1.toNat 0 = r2.getD q0.2.toNat 0))) = some (V.bl (decide (V.int (r1.getD q0.1.toNat 0) = V.int (r2.getD q0.2.toNat 0))))
    rw [show decide (V.int (r1.getD q0.1.toNat 0) = V.int (r2.getD q0.2.toNat 0)) = decide (r1.getD q0.1.toNat 0 = r2.getD q0.2.toNat 0) by simp]
  · refine ⟨D, cols.map fun q => decide (r1.getD q.1.toNat 0 = r2.getD q.2.toNat 0), rfl, SqL.of eD, ?_⟩
    rw [show (cols.map fun q => decide (r1.getD q.1.toNat 0 = r2.getD q.2.toNat 0)).all id = agreeB cols r1 r2 by simp [agreeB]]
    exact q H1 e
theorem agree_pick (cols : List (Int × Int)) (r1 r2 : List Int) : agreeB cols r1 r2 = decide (pickL (cols.map (·.2)) r2 = pickL (cols.map (·.1)) r1) := by
  induction cols with
  | nil => rfl
  | cons q cols ih =>
    unfold agreeB at ih ⊢
    rw [List.all_cons, ih]
    unfold pickL
    simp only [List.map_cons, List.cons.injEq]
    rw [Bool.eq_iff_iff, Bool.and_eq_true, decide_eq_true_iff, decide_eq_true_iff, decide_eq_true_iff]
    exact ⟨fun h => ⟨h.1.symm, h.2⟩, fun h => ⟨h.1.symm, h.2⟩⟩
theorem decInt (a c : Int) : decide (V.int a = V.int c) = decide (a = c) := by simp
theorem d_law_test (B : Bt mg) (T : Top K mg "_law_test" s_law_test ["test", "row"]) (D_law_value : Def P w K mg base "_law_value" 1 ["term", "row"] (spValue K)) : Def P w K mg base "_law_test" 2 ["test", "row"] (spTest K) := by
  refine mk_def T sc_law_test (by rintro _ _ _ _ ⟨_, _, _, _, rfl, _⟩; rfl) fun f cdv A outer s H vs Q E hr h => ?_
  obtain ⟨u, v, x, row, rfl, hu, hv, ok, q⟩ := h
  obtain ⟨b, z1, z2, rfl, hb, h1, h2⟩ := Da.tstI hu
  refine ⟨_, (pss_cons (ps_set (i := 2) sc_law_test.nd rfl (Or.inl rfl) (pe_def D_law_value (hr.mono (by first | decide | omega)) (by rfl) (pa_cons (pe_ix ix_tup (pv 0) pe_int (fun _ _ => rfl)) (pa_cons (pv 1) pa_nil))))
      (pss_cons (ps_set (i := 3) sc_law_test.nd rfl (Or.inl rfl) (pe_def D_law_value (hr.mono (by first | decide | omega)) (by rfl) (pa_cons (pe_ix ix_tup (pv 0) pe_int (fun _ _ => rfl)) (pa_cons (pv 1) pa_nil))))
      (pss_cons (ps_if (pt_cmpR op_eq (pe_ix ix_tup (pv 0) pe_int (fun _ _ => rfl)) pe_str (nomark _)) (pss_one (ps_ret (pe_cmpR op_eq (pv 2) (pv 3) (nomark _)))) pss_nil)
      (pss_cons (ps_if (pt_cmpR op_eq (pe_ix ix_tup (pv 0) pe_int (fun _ _ => rfl)) pe_str (nomark _)) (pss_one (ps_ret (pe_cmpR op_ne (pv 2) (pv 3) (nomark _)))) pss_nil)
      (pss_cons (ps_if (pt_cmpR op_eq (pe_ix ix_tup (pv 0) pe_int (fun _ _ => rfl)) pe_str (nomark _)) (pss_one (ps_ret (pe_cmpR op_lt (pv 2) (pv 3) (nomark _)))) pss_nil)
      (pss_one (ps_ret (pe_cmpR op_le (pv 2) (pv 3) (nomark _))))))))), ?_⟩
  refine ⟨.ref b, rfl, b, _, _, z1, rfl, rfl, SqT.of hb, atI_nat (j := 0) rfl, v, rfl, z1, v, x.l, row, rfl, h1, hv, ok.l, fun H1 s1 => ?_⟩
  refine ⟨.ref b, rfl, b, _, _, z2, rfl, rfl, SqT.of (s1 _ _ hb), atI_nat (j := 2) rfl, v, rfl, z2, v, x.r, row, rfl, Da.same s1 _ _ h2, hv.same s1, ok.r, fun H2 s2 => ?_⟩
  have qe := q H2 (s1.trans s2)
  have hb2 : H2 b = some (.tup [z1, .str (opS x.k), z2]) := (s1.trans s2) _ _ hb
  have hk := ok.k
  unfold tstB at qe
  clear q ok hu h1 h2 hb s1 s2 hv
  generalize valT x.l row = a1 at qe ⊢
  generalize valT x.r row = a2 at qe ⊢
  generalize x.k = k at qe hb2 hk
  have sb : SqT K H2 b [z1, .str (opS k), z2] := SqT.of hb2
  have h4 : k = 0 ∨ k = 1 ∨ k = 2 ∨ k = 3 := by omega
  rcases h4 with rfl | rfl | rfl | rfl
  · refine ⟨.ref b, rfl, b, _, _, .str "=", rfl, rfl, sb, atI_nat (j := 1) rfl, rfl, _, rfl, iteY rfl ⟨.int a1, rfl, .int a2, rfl, rfl, ?_⟩⟩
    rw [decInt]
    exact qe
  · refine ⟨.ref b, rfl, b, _, _, .str "!=", rfl, rfl, sb, atI_nat (j := 1) rfl, rfl, _, rfl, iteN (strNe (by decide +kernel)) ?_⟩
    refine ⟨.ref b, rfl, b, _, _, .str "!=", rfl, rfl, sb, atI_nat (j := 1) rfl, rfl, _, rfl, iteY rfl ⟨.int a1, rfl, .int a2, rfl, rfl, ?_⟩⟩
    rw [decInt]
    exact qe
  · refine ⟨.ref b, rfl, b, _, _, .str "<", rfl, rfl, sb, atI_nat (j := 1) rfl, rfl, _, rfl, iteN (strNe (by decide +kernel)) ?_⟩
    refine ⟨.ref b, rfl, b, _, _, .str "<", rfl, rfl, sb, atI_nat (j := 1) rfl, rfl, _, rfl, iteN (strNe (by decide +kernel)) ?_⟩
    refine ⟨.ref b, rfl, b, _, _, .str "<", rfl, rfl, sb, atI_nat (j := 1) rfl, rfl, _, rfl, iteY rfl ⟨.int a1, rfl, .int a2, rfl, _, _, rfl, rfl, qe⟩⟩
  · refine ⟨.ref b, rfl, b, _, _, .str "<=", rfl, rfl, sb, atI_nat (j := 1) rfl, rfl, _, rfl, iteN (strNe (by decide +kernel)) ?_⟩
    refine ⟨.ref b, rfl, b, _, _, .str "<=", rfl, rfl, sb, atI_nat (j := 1) rfl, rfl, _, rfl, iteN (strNe (by decide +kernel)) ?_⟩
    refine ⟨.ref b, rfl, b, _, _, .str "<=", rfl, rfl, sb, atI_nat (j := 1) rfl, rfl, _, rfl, iteN (strNe (by decide +kernel)) ?_⟩
    exact ⟨.int a1, rfl, .int a2, rfl, _, _, rfl, rfl, qe⟩
end
end K18

namespace K18
open PySem PySem.Spec PyProof.Rows L2 RW9 Tl
theorem PairsAt.get {H : Hp} {a : Addr} {ps : Tly} (h : PairsAt H a ps) : ∃ acc, H a = some (.lst acc) ∧ Paired (PairAt H) acc ps := h
theorem PairAt.same {H H' : Hp} {v : V} {p : List Int × Int} (h : PairAt H v p) (e : Same H H') : PairAt H' v p := h.st fun _ _ h => e _ _ h
theorem PairsAt.same {H H' : Hp} {a : Addr} {ps : Tly} (h : PairsAt H a ps) (e : Same H H') : PairsAt H' a ps := by
  obtain ⟨acc, h1, h2⟩ := h
  exact ⟨acc, e _ _ h1, Paired.mapP h2 fun v p h => h.same e⟩
/-- a new pair at the end of a list of pairs -/
theorem PairsAt.push {H : Hp} {F u b : Addr} {acc : List V} {ps : Tly} {p : List Int × Int} (h1 : H F = some (.lst acc)) (h2 : Paired (PairAt H) acc ps) (hu : H u = none) (hb : RowAt H b p.1) :
    Paired (PairAt (L2.upd (L2.upd H u (.tup [.ref b, .int p.2])) F (.lst (acc ++ [.ref u])))) (acc ++ [.ref u]) (ps ++ [p]) := by
  have nFu : F ≠ u := ne_of_none h1 hu
  have st : ∀ z us, H z = some (.tup us) → L2.upd (L2.upd H u (.tup [.ref b, .int p.2])) F (.lst (acc ++ [.ref u])) z = some (.tup us) := fun z us hz => by
    rw [upd_ne (ne_of hz h1 (fun y => nomatch y)), upd_ne (ne_of_none hz hu)]
    exact hz
  refine Paired.snoc (Paired.mapP h2 fun v r h => h.st st) ⟨u, b, rfl, ?_, st _ _ hb⟩
  rw [upd_ne nFu.symm, upd_same]
theorem catRow {K : PySem.W.Frag} {H : Hp} {b c : Addr} {r1 r2 : List Int} (hb : RowAt H b r1) (hc : RowAt H c r2) (hl : r1.length + r2.length ≤ sizeLine) {Q3 : VK} (h : ∀ H' u, Same H H' → RowAt H' u (r1 ++ r2) → Q3 (.ref u) H') : rCatA K (.ref b) (.ref c) H Q3 := by
  refine ⟨b, c, r1.map V.int, r2.map V.int, rfl, rfl, SqT.of hb, SqT.of hc, by rw [List.length_map, List.length_map]; exact hl, fun h0 => ?_, fun h0 h1 => ?_, fun h0 h1 u hu => ?_⟩
  · refine h _ c (Same.refl _) ?_
    rw [List.map_eq_nil_iff.mp h0]
    exact hc
  · refine h _ b (Same.refl _) ?_
    rw [List.map_eq_nil_iff.mp h1, List.append_nil]
    exact hb
  · refine h _ u (same_upd hu) ?_
    unfold RowAt
    rw [upd_same, List.map_append]
theorem appP {α β : Type} {F : α → β → Prop} : ∀ {l l' : List α} {m m' : List β}, Paired F l m → Paired F l' m' → Paired F (l ++ l') (m ++ m')
  | _, _, _, _, .nil, h => h
  | _, _, _, _, .cons a t, h => .cons a (appP t h)
theorem match_eq (cols : List (Int × Int)) (M : Tly) (r : List Int) : matchB cols M r = M.any fun q => decide (0 < q.2) && agreeB cols r q.1 := by
  unfold matchB posL
  rw [List.any_filter]
  congr 1
  funext q
  rw [agree_pick]
section
variable {P : Program} {w : World} {K : PySem.W.Frag} {mg : Str → Option Value} {base : Heap} {C : Addr}
def spKept (K : PySem.W.Frag) : Sp := fun vs H Q _ => ∃ (n a b : Addr) (xs : List V) (v : V) (cols : List (Int × Int)) (D1 D2 : Tly), vs = [.ref n, .ref a, .ref b] ∧ H n = some (.tup xs) ∧ xs[3]? = some v ∧ Da K H v (ptD cols) ∧ PairsAt H a D1 ∧ PairsAt H b D2 ∧ WithOk cols D1 D2 ∧ D1.length ≤ 5000 ∧ D2.length ≤ 5000 ∧
  ∀ H' l, Same H H' → H l = none → PairsAt H' l (withoutL cols D1 D2) → Q (.ref l) H'
theorem d_law_kept (B : Bt mg) (T : Top K mg "_law_kept" s_law_kept ["node", "first", "second"]) (D_law_agree : Def P w K mg base "_law_agree" 1 ["pairs", "left", "right"] (spAgree K)) : Def P w K mg base "_law_kept" 2 ["node", "first", "second"] (spKept K) := by
  refine mk_def T sc_law_kept (by rintro _ _ _ _ ⟨_, _, _, _, _, _, _, _, rfl, _⟩; rfl) fun f cdv A outer s H vs Q E hr h => ?_
  obtain ⟨n, a, b, xs, v, cols, D1, D2, rfl, hn, h3, hd, ha, hb, ok, hl1, hl2, q⟩ := h
  refine ⟨_, (pss_cons (ps_set (i := 3) sc_law_kept.nd rfl (Or.inl rfl) (pe_lst pa_nil))
      (pss_cons (ps_for PassesOwn.never rfl (pi_list (pv 1)) (pg_tup rfl (pgs_cons (pg_name (i := 4) sc_law_kept.nd rfl (Or.inr rfl)) (pgs_cons (pg_name (i := 5) sc_law_kept.nd rfl (Or.inl rfl)) pgs_nil))) (pss_one (ps_if (pt_not (pt_val (pe_callB (cr_any rfl) (by rfl) B.m_any (by decide +kernel) (pa_cons (pe_lc (own := [("pair", 6)]) (g := (gName 6)) (tt := tYes) (te := (tAndV (tOp yGt (tOp (rIxT K) (tVar 6) (tC (.int 1))) (tC (.int 0))) (tCall (spAgree K) [] E0 (tCons (tOp (rIxT K) (tVar 0) (tC (.int 3))) (tCons (tVar 4) (tCons (tOp (rIxT K) (tVar 6) (tC (.int 0))) tNil)))))) rfl sc_law_kept.nd (pi_list (pv 2)) (blkOk_by (own := [("pair", 6)]) (N := N_law_kept) (sc := defScope s_law_kept) (by decide +kernel)) (fun _ _ _ _ _ => (pg_name (i := 6) sc_law_kept.nd rfl (Or.inl rfl))) (fun _ _ _ _ _ => pts_nil) (fun _ _ _ _ _ => (pe_and (pe_cmpR op_gt (pe_ix ix_tup (pv 6) pe_int (fun _ _ => rfl)) pe_int (nomark _)) (pe_one (pe_def D_law_agree (hr.mono (by first | decide | omega)) (by rfl) (pa_cons (pe_ix ix_tup (pv 0) pe_int (fun _ _ => rfl)) (pa_cons (pv 4) (pa_cons (pe_ix ix_tup (pv 6) pe_int (fun _ _ => rfl)) pa_nil)))))))) pa_nil)))) (pss_one (ps_expr (pe_bm PySem.F.plainAttrs_list PySem.F.slot_list_append PySem.F.type_list_append mt_append (pv 3) (pa_cons (pe_tup (pa_cons (pv 4) (pa_cons (pv 5) pa_nil))) pa_nil)))) pss_nil)))
      (pss_one (ps_ret (pv 3))))), ?_⟩
  refine ⟨by show 0 ≤ sizeLine; decide, fun F hF => ?_⟩
  have e0 := same_upd (o := .lst []) hF
  have eF : L2.upd H F (.lst []) F = some (.lst []) := upd_same
  obtain ⟨acc1, ha1, hx1⟩ := ha.same e0
  obtain ⟨acc2, hb1, hx2⟩ := hb.same e0
  have hn0 := e0 _ _ hn
  have hd0 := Da.same e0 _ _ hd
  have naF : a ≠ F := by obtain ⟨_, h, _⟩ := ha; exact ne_of_none h hF
  have nbF : b ≠ F := by obtain ⟨_, h, _⟩ := hb; exact ne_of_none h hF
  have la : acc1.length = D1.length := Paired.length hx1
  have lb : acc2.length = D2.length := Paired.length hx2
  generalize L2.upd H F (.lst []) = H0 at e0 eF ha1 hx1 hb1 hx2 hn0 hd0 ⊢
  refine ⟨.ref a, rfl, a, rfl, ⟨_, SqL.of ha1⟩, ?_⟩
  refine for_list (xs := acc1) (fun i σ H' => ∃ y4 y5 acc, σ = [some (.ref n), some (.ref a), some (.ref b), some (.ref F), y4, y5, none] ∧ SameB F H0 H' ∧ H' F = some (.lst acc) ∧ Paired (PairAt H') acc (withoutL cols (D1.take i) D2)) ⟨none, none, [], rfl, SameB.refl _ _, eF, .nil⟩ (fun i σ H' _ pv' => ?_) (fun i x σ H' hxi pv' => ?_) (fun σ H' pv' => ?_)
  · obtain ⟨_, _, _, _, e, _⟩ := pv'
    exact SqL.of (e _ _ naF ha1)
  · obtain ⟨y4, y5, acc, rfl, e, eF', hacc⟩ := pv'
    obtain ⟨p, hpi, hpx⟩ := DX.pget (flipP hx1) hxi
    have hpm := List.mem_of_getElem? hpi
    have st : ST K H0 H' := fun t us ht => e _ _ (fun z => by rw [z, eF] at ht; cases ht) ht
    obtain ⟨t, c, rfl, ht, hc⟩ := hpx.st st
    have hd' := Da.st st _ _ (imm_pt cols) hd0
    refine ⟨t, _, rfl, SqT.of ht, rfl, _, _, rfl, _, _, rfl, rfl, ?_⟩
    refine ⟨.ref b, rfl, b, rfl, ⟨_, SqL.of (e _ _ nbF hb1)⟩, fun Z hZ => ?_⟩
    have hb2 := e _ _ nbF hb1
    refine lc_val (walk_list (K := K) (xs := acc2)) hZ (by omega) (fun H1 e1 => SqL.of (e1 _ _ hb2)) ((D2.map fun q => decide (0 < q.2) && agreeB cols p.1 q.1).map V.bl) (by simp [lb]) (fun j x H1 H2 Q' hj e1 y k => ?_) (fun H1 e1 eZ => ?_)
    · obtain ⟨rfl, hxj⟩ := y
      obtain ⟨q2, hq2, hqx⟩ := DX.pget (flipP hx2) hxj
      have hqm := List.mem_of_getElem? hq2
      obtain ⟨t2, c2, rfl, ht2, hc2⟩ := (hqx.st st).same e1
      have kk : ∀ {z : Bool} {H3 : Hp}, Same H2 H3 → z = (decide (0 < q2.2) && agreeB cols p.1 q2.1) → Q' (.bl z) H3 := fun {z H3} e3 ez => k _ _ e3 (by rw [List.map_map, List.getElem?_map, hq2, ez]; rfl)
      refine ⟨rfl, .ref t2, rfl, t2, _, _, .int q2.2, rfl, rfl, SqT.of ht2, atI_nat (j := 1) rfl, _, _, rfl, rfl, _, rfl, ?_⟩
      by_cases hpos : (0 : Int) < q2.2
      · rw [decide_eq_true hpos]
        refine iteT ⟨.ref n, rfl, n, _, _, v, rfl, rfl, SqT.of (e1 _ _ (st _ _ hn0)), atI_nat (j := 3) h3, .ref c, rfl, .ref t2, rfl, t2, _, _, .ref c2, rfl, rfl, SqT.of ht2, atI_nat (j := 0) rfl, v, c, c2, cols, p.1, q2.1, rfl, Da.same e1 _ _ hd', e1 _ _ hc, hc2, ok.len, ok.l p hpm, ok.r q2 hqm, fun H3 e3 => kk e3 (by rw [decide_eq_true hpos]; rfl)⟩
      · rw [decide_eq_false hpos]
        exact iteF (kk (Same.refl _) (by rw [decide_eq_false hpos]; rfl))
    · refine ⟨Z, D2.map fun q => decide (0 < q.2) && agreeB cols p.1 q.1, rfl, SqL.of eZ, ?_⟩
      rw [show (D2.map fun q => decide (0 < q.2) && agreeB cols p.1 q.1).any id = matchB cols D2 p.1 by rw [match_eq]; simp]
      have e2 : SameB F H0 H1 := e.trans e1.b
      have eF1 := e1 _ _ eF'
      have hacc1 : Paired (PairAt H1) acc (withoutL cols (D1.take i) D2) := Paired.mapP hacc fun v p h => h.same e1
      have ht1 : withoutL cols (D1.take (i + 1)) D2 = withoutL cols (D1.take i) D2 ++ (if matchB cols D2 p.1 then [] else [p]) := by
        rw [List.take_add_one, hpi, Option.toList_some, withoutL, List.filter_append]
        cases hh : matchB cols D2 p.1 <;> simp [hh, withoutL]
      cases hh : matchB cols D2 p.1 with
      | true =>
        refine ⟨_, rfl, iteF ⟨_, _, acc, rfl, e2, eF1, ?_⟩⟩
        rw [ht1, hh]
        simpa using hacc1
      | false =>
        refine ⟨_, rfl, iteT ?_⟩
        refine ⟨.ref F, rfl, .inl ⟨rfl, _, SqL.of eF1⟩, .ref c, rfl, .int p.2, rfl, by show 2 ≤ sizeLine; decide, fun u hu => ?_⟩
        have nFu : F ≠ u := ne_of_none eF1 hu
        have eFu : L2.upd H1 u (.tup [.ref c, .int p.2]) F = some (.lst acc) := by rw [upd_ne nFu]; exact eF1
        have lacc : acc.length < sizeLine := by
          rw [Paired.length hacc1]
          exact Nat.lt_of_le_of_lt (Nat.le_trans (List.length_filter_le _ _) (Nat.le_trans (List.take_sublist _ _).length_le hl1)) (by decide)
        refine ⟨F, _, _, rfl, rfl, eFu, lacc, _, _, acc ++ [.ref u], rfl, (e2.trans (Same.b (same_upd hu))).trans SameB.upd, upd_same, ?_⟩
        rw [ht1, hh]
        exact PairsAt.push eF1 hacc1 hu (e1 _ _ hc)
  · obtain ⟨y4, y5, acc, rfl, e, eF', hacc⟩ := pv'
    rw [la, List.take_length] at hacc
    exact ⟨.ref F, rfl, q H' F (fun t u ht => e _ _ (ne_of_none ht hF) (e0 _ _ ht)) hF ⟨acc, eF', hacc⟩⟩
end
end K18

namespace K18
open PySem PySem.Spec PyProof.Rows L2 RW9 Tl
theorem lt_app {x y : Int} : ∀ {a b : List Int}, a.length = b.length → a ≠ b → ¬ b < a → ¬ (b ++ [y]) < (a ++ [x])
  | [], [], _, h, _ => absurd rfl h
  | [], _ :: _, h, _, _ => nomatch h
  | _ :: _, [], h, _, _ => nomatch h
  | u :: a, v :: b, hl, hn, hlt => by
    rw [List.cons_append, List.cons_append, List.cons_lt_cons_iff]
    rw [List.cons_lt_cons_iff] at hlt
    intro h
    rcases h with h | ⟨rfl, h⟩
    · exact hlt (.inl h)
    · exact lt_app (a := a) (b := b) (by simpa using hl) (fun e => hn (by rw [e])) (fun e => hlt (.inr ⟨rfl, e⟩)) h
theorem rel_snoc (s : Srt) (L : Tly) (p : List Int × Int) : relL s (L ++ [p]) = relL s L ++ relL s [p] := by
  unfold relL
  split
  · exact List.filter_append ..
  · rfl
/-- what _law_grouped has found: M the rows that count -/
structure Fnd (H : Hp) (F : Addr) (s : Srt) (cols : List Int) (M T : Tly) : Prop where
  at' : H F = some (.dT (rowD T))
  nd : (keys T).Nodup
  ks : ∀ r, r ∈ keys T ↔ r ∈ M.map fun p => pickL cols p.1
  val : ∀ r ∈ keys T, Tl.cnt T r = valG s (inG cols r M)
  len : T.length ≤ M.length
theorem inG_nil {cols r : List Int} {M : Tly} (h : r ∉ M.map fun p => pickL cols p.1) : inG cols r M = [] := by
  refine List.filter_eq_nil_iff.mpr fun p hp => ?_
  intro z
  exact h (List.mem_map.mpr ⟨p, hp, of_decide_eq_true z⟩)
theorem Fnd.put {H H' : Hp} {F : Addr} {s : Srt} {cols : List Int} {M T : Tly} (h : Fnd H F s cols M T) {p : List Int × Int} {v : Int} (hv : v = valG s (inG cols (pickL cols p.1) M ++ [p])) (hF : H' F = some (.dT (rowD (Tl.put T (pickL cols p.1) v)))) : Fnd H' F s cols (M ++ [p]) (Tl.put T (pickL cols p.1) v) := by
  refine ⟨hF, put_nodup h.nd, fun r => ?_, fun r hr => ?_, by
    rw [List.length_append]
    exact Nat.le_trans put_len (Nat.add_le_add_right h.len 1)⟩
  · rw [put_keys, List.map_append, List.mem_append]
    split
    · next e =>
      rw [h.ks]
      refine ⟨.inl, fun z => z.elim id fun z => ?_⟩
      rw [List.mem_singleton.mp z]
      exact (h.ks _).mp e
    · rw [List.mem_append, h.ks]
      exact Iff.rfl
  · rw [put_cnt h.nd, inG_snoc]
    by_cases e : r = pickL cols p.1
    · rw [if_pos e, if_pos e.symm, e]
      exact hv
    · rw [if_neg e, if_neg fun z => e z.symm]
      refine h.val r ?_
      rw [put_keys] at hr
      split at hr
      · exact hr
      · exact (List.mem_append.mp hr).elim id fun z => absurd (List.mem_singleton.mp z) e
/-- the sums: what is there and a row more -/
theorem Fnd.get {H : Hp} {F : Addr} {s : Srt} {cols : List Int} {M T : Tly} (h : Fnd H F s cols M T) (hk : s.k < 2) (r : List Int) : Tl.cnt T r = valG s (inG cols r M) := by
  by_cases e : r ∈ keys T
  · exact h.val r e
  · rw [cnt_out e, inG_nil fun z => e ((h.ks r).mpr z)]
    unfold valG
    split
    · rfl
    · split
      · rfl
      · omega
theorem valG_cnt {c : Int} (G : Tly) (p : List Int × Int) : valG ⟨0, c⟩ (G ++ [p]) = valG ⟨0, c⟩ G + p.2 := by
  show ((G ++ [p]).map (·.2)).sum = (G.map (·.2)).sum + p.2
  simp
theorem valG_sum {c : Int} (G : Tly) (p : List Int × Int) : valG ⟨1, c⟩ (G ++ [p]) = valG ⟨1, c⟩ G + p.2 * colV c p.1 := by
  show ((G ++ [p]).map fun p => p.2 * colV c p.1).sum = (G.map fun p => p.2 * colV c p.1).sum + p.2 * colV c p.1
  simp
theorem valG_min {c : Int} (G : Tly) (p : List Int × Int) : valG ⟨2, c⟩ (G ++ [p]) = if G = [] then colV c p.1 else if colV c p.1 < valG ⟨2, c⟩ G then colV c p.1 else valG ⟨2, c⟩ G := by
  show lsMin ((G ++ [p]).map fun p => colV c p.1) = if G = [] then colV c p.1 else if colV c p.1 < lsMin (G.map fun p => colV c p.1) then colV c p.1 else lsMin (G.map fun p => colV c p.1)
  by_cases e : G = []
  · subst e
    rfl
  · rw [if_neg e]
    obtain ⟨h1, h2⟩ := lsMin_spec (l := G.map fun p => colV c p.1) (by simpa using e)
    refine (lsMin_eq ?_ fun y hy => ?_).symm
    · rw [List.map_append]
      split
      · exact List.mem_append_right _ (List.mem_singleton.mpr rfl)
      · exact List.mem_append_left _ h1
    · rw [List.map_append] at hy
      rcases List.mem_append.mp hy with hy | hy
      · have := h2 y hy
        split <;> omega
      · rw [show y = colV c p.1 from List.mem_singleton.mp hy]
        split <;> omega
theorem valG_max {c : Int} (G : Tly) (p : List Int × Int) : valG ⟨3, c⟩ (G ++ [p]) = if G = [] then colV c p.1 else if colV c p.1 > valG ⟨3, c⟩ G then colV c p.1 else valG ⟨3, c⟩ G := by
  show lsMax ((G ++ [p]).map fun p => colV c p.1) = if G = [] then colV c p.1 else if colV c p.1 > lsMax (G.map fun p => colV c p.1) then colV c p.1 else lsMax (G.map fun p => colV c p.1)
  by_cases e : G = []
  · subst e
    rfl
  · rw [if_neg e]
    obtain ⟨h1, h2⟩ := lsMax_spec (l := G.map fun p => colV c p.1) (by simpa using e)
    refine (lsMax_eq ?_ fun y hy => ?_).symm
    · rw [List.map_append]
      split
      · exact List.mem_append_right _ (List.mem_singleton.mpr rfl)
      · exact List.mem_append_left _ h1
    · rw [List.map_append] at hy
      rcases List.mem_append.mp hy with hy | hy
      · have := h2 y hy
        split <;> omega
      · rw [show y = colV c p.1 from List.mem_singleton.mp hy]
        split <;> omega
section
variable {P : Program} {w : World} {K : PySem.W.Frag} {mg : Str → Option Value} {base : Heap} {C : Addr}
def spGrouped (K : PySem.W.Frag) : Sp := fun vs H Q _ => ∃ (n a : Addr) (v0 v1 v2 v3 : V) (s : Srt) (cols : List Int) (D1 : Tly), vs = [.ref n, .ref a] ∧ H n = some (.tup [v0, v1, v2, v3]) ∧ Da K H v2 (mo cols) ∧ Da K H v3 (srtD s) ∧ PairsAt H a D1 ∧ GrpOk s cols D1 ∧ D1.length ≤ 5000 ∧
  ∀ H' l D, Same H H' → H l = none → PairsAt H' l D → Fin D → SortL D → (∀ k, Tl.cnt D k = Tl.cnt (groupL s cols D1) k) → (∀ p ∈ D, p.1 ∈ keys (groupL s cols D1)) → Q (.ref l) H'
theorem d_law_grouped (B : Bt mg) (T : Top K mg "_law_grouped" s_law_grouped ["node", "rows"]) : Def P w K mg base "_law_grouped" 2 ["node", "rows"] (spGrouped K) := by
  refine mk_def T sc_law_grouped (by rintro _ _ _ _ ⟨_, _, _, _, _, _, _, _, _, rfl, _⟩; rfl) fun f cdv A outer s0 H vs Q E hr h => ?_
  obtain ⟨n, a, v0, v1, v2, v3, s, cols, D1, rfl, hn, hd2, hd3, ha, ok, hl1, q⟩ := h
  obtain ⟨kt, rfl, hkt⟩ := Mo.trk hd2
  obtain ⟨st, rfl, hst⟩ := Da.srtI hd3
  clear hd2 hd3
  refine ⟨_, (pss_cons (ps_set (i := 2) sc_law_grouped.nd rfl (Or.inr rfl) (pe_dnewT))
      (pss_cons (ps_set (i := 3) sc_law_grouped.nd rfl (Or.inl rfl) (pe_ix ix_tup (pv 0) pe_int (fun _ _ => rfl)))
      (pss_cons (ps_for PassesOwn.never rfl (pi_list (pv 1)) (pg_tup rfl (pgs_cons (pg_name (i := 4) sc_law_grouped.nd rfl (Or.inr rfl)) (pgs_cons (pg_name (i := 5) sc_law_grouped.nd rfl (Or.inl rfl)) pgs_nil))) (pss_cons (ps_set (i := 6) sc_law_grouped.nd rfl (Or.inl rfl) (pe_callTy call_tuple_of (by rfl) B.m_tuple (by decide +kernel) (pa_cons (pe_lc (own := [("column", 7)]) (g := (gName 7)) (tt := tYes) (te := (tOp (rIxT K) (tVar 4) (tVar 7))) rfl sc_law_grouped.nd (pi_tup (pe_ix ix_tup (pv 0) pe_int (fun _ _ => rfl))) (blkOk_by (own := [("column", 7)]) (N := N_law_grouped) (sc := defScope s_law_grouped) (by decide +kernel)) (fun _ _ _ _ _ => (pg_name (i := 7) sc_law_grouped.nd rfl (Or.inl rfl))) (fun _ _ _ _ _ => pts_nil) (fun _ _ _ _ _ => (pe_ix ix_tup (pv 4) (pv 7) (fun _ _ => rfl)))) pa_nil)))
      (pss_one (ps_if (pt_cmpR op_eq (pe_ix ix_tup (pv 3) pe_int (fun _ _ => rfl)) pe_str (nomark _)) (pss_one (ps_dput (hu_of hr) (pv 2) (pv 6) (pe_op op_add (pe_dget2 (hu_of hr) (pv 2) (pv 6) pe_int ⟨by rfl, by rfl, by rfl, by rfl⟩) (pv 5)) rfl)) (pss_one (ps_if (pt_cmpR op_eq (pe_ix ix_tup (pv 3) pe_int (fun _ _ => rfl)) pe_str (nomark _)) (pss_one (ps_dput (hu_of hr) (pv 2) (pv 6) (pe_op op_add (pe_dget2 (hu_of hr) (pv 2) (pv 6) pe_int ⟨by rfl, by rfl, by rfl, by rfl⟩) (pe_op op_mulW (pv 5) (pe_ix ix_tup (pv 4) (pe_ix ix_tup (pv 3) pe_int (fun _ _ => rfl)) (fun _ _ => rfl)))) rfl)) (pss_one (ps_if (pw_and (pt_cmpR op_gt (pv 5) pe_int (nomark _)) (pw_and1 (pt_cmpR op_eq (pe_ix ix_tup (pv 3) pe_int (fun _ _ => rfl)) pe_str (nomark _)))).pt (pss_one (ps_dput (hu_of hr) (pv 2) (pv 6) (pe_callB (call_min2 rfl) (by rfl) B.m_min (by decide +kernel) (pa_cons (pe_dget2 (hu_of hr) (pv 2) (pv 6) (pe_ix ix_tup (pv 4) (pe_ix ix_tup (pv 3) pe_int (fun _ _ => rfl)) (fun _ _ => rfl)) ⟨by rfl, by rfl, by rfl, by rfl⟩) (pa_cons (pe_ix ix_tup (pv 4) (pe_ix ix_tup (pv 3) pe_int (fun _ _ => rfl)) (fun _ _ => rfl)) pa_nil))) rfl)) (pss_one (ps_if (pt_cmpR op_gt (pv 5) pe_int (nomark _)) (pss_one (ps_dput (hu_of hr) (pv 2) (pv 6) (pe_callB (call_max2 rfl) (by rfl) B.m_max (by decide +kernel) (pa_cons (pe_dget2 (hu_of hr) (pv 2) (pv 6) (pe_ix ix_tup (pv 4) (pe_ix ix_tup (pv 3) pe_int (fun _ _ => rfl)) (fun _ _ => rfl)) ⟨by rfl, by rfl, by rfl, by rfl⟩) (pa_cons (pe_ix ix_tup (pv 4) (pe_ix ix_tup (pv 3) pe_int (fun _ _ => rfl)) (fun _ _ => rfl)) pa_nil))) rfl)) pss_nil))))))))))
      (pss_one (ps_ret (pe_lc (own := [("word", 6)]) (g := (gName 6)) (tt := tYes) (te := (tTup (tCons (tOp (rCatA K) (tVar 6) (tTup (tCons (tDGet (tVar 2) (tVar 6)) tNil))) (tCons (tC (.int 1)) tNil)))) rfl sc_law_grouped.nd (pi_list (pe_callB (cr_sortedKeysR rfl (hu8 hr)) (by rfl) B.m_sorted (by decide +kernel) (pa_cons (pv 2) pa_nil))) (blkOk_by (own := [("word", 6)]) (N := N_law_grouped) (sc := defScope s_law_grouped) (by decide +kernel)) (fun _ _ _ _ _ => (pg_name (i := 6) sc_law_grouped.nd rfl (Or.inl rfl))) (fun _ _ _ _ _ => pts_nil) (fun _ _ _ _ _ => (pe_tup (pa_cons (pe_op op_catA (pv 6) (pe_tup (pa_cons (pe_dget (hu_of hr) (pv 2) (pv 6) (fun _ _ => rfl)) pa_nil))) (pa_cons pe_int pa_nil)))))))))), ?_⟩
  intro F hF
  have e0 := same_upd (o := .dT []) hF
  have hF0 := upd_same (H := H) (a := F) (o := .dT [])
  have ntF : ∀ {t us}, H t = some (.tup us) → t ≠ F := fun h => ne_of_none h hF
  obtain ⟨acc1, ha1, hx1⟩ := ha.same e0
  have naF : a ≠ F := by obtain ⟨_, h, _⟩ := ha; exact ne_of_none h hF
  have hn0 := e0 _ _ hn
  have hkt0 := e0 _ _ hkt
  have hst0 := e0 _ _ hst
  have la : acc1.length = D1.length := Paired.length hx1
  generalize L2.upd H F (.dT []) = H0 at e0 hF0 ha1 hx1 hn0 hkt0 hst0 ⊢
  refine ⟨.ref n, rfl, n, _, _, .ref st, rfl, rfl, SqT.of hn0, atI_nat (j := 3) rfl, ?_⟩
  refine ⟨.ref a, rfl, a, rfl, ⟨_, SqL.of ha1⟩, ?_⟩
  refine for_list (xs := acc1) (fun i σ H' => ∃ y4 y5 y6 T, σ = [some (.ref n), some (.ref a), some (.ref F), some (.ref st), y4, y5, y6, none] ∧ SameB F H0 H' ∧ Fnd H' F s cols (relL s (D1.take i)) T) ⟨none, none, none, [], rfl, SameB.refl _ _, hF0, List.nodup_nil, (fun r => by
      have : relL s (D1.take 0) = [] := by
        unfold relL
        split <;> rfl
      rw [this]
      exact Iff.rfl), (fun r hr => nomatch hr), Nat.zero_le _⟩ (fun i σ H' _ pv' => ?_) (fun i x σ H' hxi pv' => ?_) (fun σ H' pv' => ?_)
  · obtain ⟨_, _, _, _, _, e, _⟩ := pv'
    exact SqL.of (e _ _ naF ha1)
  · obtain ⟨y4, y5, y6, T, rfl, e, fn⟩ := pv'
    obtain ⟨p, hpi, hpx⟩ := DX.pget (flipP hx1) hxi
    have hpm := List.mem_of_getElem? hpi
    have st' : ST K H0 H' := fun t us ht => e _ _ (fun z => by rw [z, hF0] at ht; cases ht) ht
    obtain ⟨t, c, rfl, ht, hc⟩ := hpx.st st'
    refine ⟨t, _, rfl, SqT.of ht, rfl, _, _, rfl, _, _, rfl, rfl, ?_⟩
    refine ⟨.ref n, rfl, n, _, _, .ref kt, rfl, rfl, SqT.of (st' _ _ hn0), atI_nat (j := 2) rfl, kt, rfl, ⟨_, SqT.of (st' _ _ hkt0)⟩, fun Z hZ => ?_⟩
    have hkt1 := st' _ _ hkt0
    refine lc_val (walk_tup (K := K) (xs := cols.map V.int)) hZ (by rw [List.length_map]; have := ok.len; omega) (fun H1 e1 => e1.seqT (SqT.of hkt1)) ((pickL cols p.1).map V.int) (by simp [pickL]) (fun j x H1 H2 Q' hj e1 y k => ?_) (fun H1 e1 eZ => ?_)
    · obtain ⟨rfl, hxj⟩ := y
      rw [List.getElem?_map] at hxj
      obtain ⟨col, hcol, rfl⟩ := Option.map_eq_some_iff.mp hxj
      obtain ⟨c0, c1⟩ := ok.ok p hpm col (List.mem_of_getElem? hcol)
      refine ⟨rfl, .ref c, rfl, .int col, rfl, c, _, _, _, rfl, rfl, SqT.of (e1 _ _ hc), row_at c0 c1, k _ _ (Same.refl _) ?_⟩
      rw [pickL, List.map_map, List.getElem?_map, hcol]
      rfl
    refine ⟨Z, _, rfl, .inl ⟨SqL.of eZ, fun wd hwd => ?_⟩⟩
    have e2 := e1.trans (same_upd (o := .tup ((pickL cols p.1).map V.int)) hwd)
    have hw : RowAt (L2.upd H1 wd (.tup ((pickL cols p.1).map V.int))) wd (pickL cols p.1) := upd_same
    generalize L2.upd H1 wd (.tup ((pickL cols p.1).map V.int)) = H2 at e2 hw ⊢
    have hF2 := e2 _ _ fn.at'
    have hst2 : SrtAt H2 st s := e2 _ _ (st' _ _ hst0)
    have hc2 : RowAt H2 c p.1 := e2 _ _ hc
    have e02 : SameB F H0 H2 := e.trans e2.b
    have lt : T.length < sizeLine := by
      refine Nat.lt_of_le_of_lt (Nat.le_trans fn.len (Nat.le_trans ?_ hl1)) (by decide)
      refine Nat.le_trans ?_ (List.take_sublist i D1).length_le
      unfold relL
      split
      · exact List.length_filter_le _ _
      · exact Nat.le_refl _
    have ht1 : relL s (D1.take (i + 1)) = relL s (D1.take i) ++ relL s [p] := by rw [List.take_add_one, hpi, Option.toList_some, rel_snoc]
    rw [ht1]
    generalize relL s (D1.take i) = M at fn
    have hk := ok.srt.k
    have hcol := fun h => ok.srt.col h p hpm
    have hmul := fun h => ok.srt.mul h p hpm
    have fin : ∀ (v : Int), v = valG s (inG cols (pickL cols p.1) M ++ [p]) → relL s [p] = [p] → ∃ y4 y5 y6 T', [some (V.ref n), some (.ref a), some (.ref F), some (.ref st), some (.ref c), some (.int p.2), some (.ref wd), none] = [some (V.ref n), some (.ref a), some (.ref F), some (.ref st), y4, y5, y6, none] ∧ SameB F H0 (L2.upd H2 F (.dT (rowD (Tl.put T (pickL cols p.1) v)))) ∧ Fnd (L2.upd H2 F (.dT (rowD (Tl.put T (pickL cols p.1) v)))) F s cols (M ++ relL s [p]) T' := fun v hv hrel => by
      rw [hrel]
      exact ⟨_, _, _, Tl.put T (pickL cols p.1) v, rfl, e02.trans SameB.upd, fn.put hv upd_same⟩
    have same : relL s [p] = [] → ∃ y4 y5 y6 T', [some (V.ref n), some (.ref a), some (.ref F), some (.ref st), some (.ref c), some (.int p.2), some (.ref wd), none] = [some (V.ref n), some (.ref a), some (.ref F), some (.ref st), y4, y5, y6, none] ∧ SameB F H0 H2 ∧ Fnd H2 F s cols (M ++ relL s [p]) T' := fun hrel => by
      rw [hrel, List.append_nil]
      exact ⟨_, _, _, T, rfl, e02, hF2, fn.nd, fn.ks, fn.val, fn.len⟩
    have ho : DGet H2 F (.ref wd) (if pickL cols p.1 ∈ keys T then some (.int (Tl.cnt T (pickL cols p.1))) else none) := .inr ⟨_, rk (pickL cols p.1), wd, .inl hF2, rfl, by rw [rk_kV]; exact hw, by
      rw [val_row, find_cnt fn.nd]
      split <;> rfl⟩
    have eo : (if pickL cols p.1 ∈ keys T then some (V.int (Tl.cnt T (pickL cols p.1))) else none).getD (.int 0) = .int (Tl.cnt T (pickL cols p.1)) := by
      split
      · rfl
      · next e => rw [cnt_out e]; rfl
    have nonE : pickL cols p.1 ∈ keys T → inG cols (pickL cols p.1) M ≠ [] := fun hin => by
      obtain ⟨x, hx, ex⟩ := List.mem_map.mp ((fn.ks _).mp hin)
      exact List.ne_nil_of_mem (List.mem_filter.mpr ⟨hx, decide_eq_true ex⟩)
    obtain ⟨k, c3⟩ := s
    have h4 : k = 0 ∨ k = 1 ∨ k = 2 ∨ k = 3 := by
      have : k ≤ 3 := hk
      omega
    rcases h4 with rfl | rfl | rfl | rfl
    · refine ⟨.ref st, rfl, st, _, _, .str "count", rfl, rfl, SqT.of hst2, atI_nat (j := 0) rfl, rfl, _, rfl, iteY rfl ?_⟩
      refine ⟨.ref F, rfl, F, rfl, .inr ⟨_, .inl hF2⟩, .ref wd, rfl, _, ho, .int p.2, rfl, _, _, eo, rfl, .ref F, rfl, .ref wd, rfl, F, _, rfl, dput_row hF2 hw lt, ?_⟩
      exact fin _ (by rw [valG_cnt, fn.get (by show 0 < 2; decide)]) rfl
    · refine ⟨.ref st, rfl, st, _, _, .str "sum", rfl, rfl, SqT.of hst2, atI_nat (j := 0) rfl, rfl, _, rfl, iteN (strNe (by decide +kernel)) ?_⟩
      refine ⟨.ref st, rfl, st, _, _, .str "sum", rfl, rfl, SqT.of hst2, atI_nat (j := 0) rfl, rfl, _, rfl, iteY rfl ?_⟩
      obtain ⟨c0, c1⟩ := hcol (by show (1 : Nat) ≠ 0; decide)
      refine ⟨.ref F, rfl, F, rfl, .inr ⟨_, .inl hF2⟩, .ref wd, rfl, _, ho, .int p.2, rfl, .ref c, rfl, .ref st, rfl, st, _, _, .int c3, rfl, rfl, SqT.of hst2, atI_nat (j := 1) rfl, c, _, _, _, rfl, rfl, SqT.of hc2, row_at c0 c1, _, _, rfl, rfl, hmul rfl, _, _, eo, rfl, .ref F, rfl, .ref wd, rfl, F, _, rfl, dput_row hF2 hw lt, ?_⟩
      exact fin _ (by rw [valG_sum, fn.get (by show 1 < 2; decide)]) rfl
    · refine ⟨.ref st, rfl, st, _, _, .str "least", rfl, rfl, SqT.of hst2, atI_nat (j := 0) rfl, rfl, _, rfl, iteN (strNe (by decide +kernel)) ?_⟩
      refine ⟨.ref st, rfl, st, _, _, .str "least", rfl, rfl, SqT.of hst2, atI_nat (j := 0) rfl, rfl, _, rfl, iteN (strNe (by decide +kernel)) ?_⟩
      obtain ⟨c0, c1⟩ := hcol (by show (2 : Nat) ≠ 0; decide)
      refine ⟨.int p.2, rfl, _, _, rfl, rfl, _, rfl, ?_⟩
      by_cases hpos : (0 : Int) < p.2
      · rw [decide_eq_true hpos]
        refine iteT ⟨.ref st, rfl, st, _, _, .str "least", rfl, rfl, SqT.of hst2, atI_nat (j := 0) rfl, rfl, _, rfl, iteY rfl ?_⟩
        have hrel : relL ⟨2, c3⟩ [p] = [p] := by simp [relL, posL, hpos]
        by_cases hin : pickL cols p.1 ∈ keys T
        · rw [if_pos hin] at ho
          refine ⟨.ref F, rfl, F, rfl, .inr ⟨_, .inl hF2⟩, .ref wd, rfl, .ref c, rfl, .ref st, rfl, st, _, _, .int c3, rfl, rfl, SqT.of hst2, atI_nat (j := 1) rfl, c, _, _, _, rfl, rfl, SqT.of hc2, row_at c0 c1, _, ho, .ref c, rfl, .ref st, rfl, st, _, _, .int c3, rfl, rfl, SqT.of hst2, atI_nat (j := 1) rfl, c, _, _, _, rfl, rfl, SqT.of hc2, row_at c0 c1, _, _, rfl, .ref F, rfl, .ref wd, rfl, F, _, rfl, dput_row hF2 hw lt, ?_⟩
          refine fin _ ?_ hrel
          rw [valG_min, if_neg (nonE hin), ← fn.val _ hin]
        · rw [if_neg hin] at ho
          refine ⟨.ref F, rfl, F, rfl, .inr ⟨_, .inl hF2⟩, .ref wd, rfl, .ref c, rfl, .ref st, rfl, st, _, _, .int c3, rfl, rfl, SqT.of hst2, atI_nat (j := 1) rfl, c, _, _, _, rfl, rfl, SqT.of hc2, row_at c0 c1, _, ho, .ref c, rfl, .ref st, rfl, st, _, _, .int c3, rfl, rfl, SqT.of hst2, atI_nat (j := 1) rfl, c, _, _, _, rfl, rfl, SqT.of hc2, row_at c0 c1, _, _, rfl, .ref F, rfl, .ref wd, rfl, F, _, rfl, dput_row hF2 hw lt, ?_⟩
          refine fin _ ?_ hrel
          rw [valG_min, if_pos (inG_nil fun z => hin ((fn.ks _).mpr z))]
          split <;> rfl
      · rw [decide_eq_false hpos]
        refine iteF ?_
        refine ⟨.int p.2, rfl, _, _, rfl, rfl, _, rfl, ?_⟩
        rw [decide_eq_false hpos]
        exact iteF (same (by simp [relL, posL, hpos]))
    · refine ⟨.ref st, rfl, st, _, _, .str "greatest", rfl, rfl, SqT.of hst2, atI_nat (j := 0) rfl, rfl, _, rfl, iteN (strNe (by decide +kernel)) ?_⟩
      refine ⟨.ref st, rfl, st, _, _, .str "greatest", rfl, rfl, SqT.of hst2, atI_nat (j := 0) rfl, rfl, _, rfl, iteN (strNe (by decide +kernel)) ?_⟩
      obtain ⟨c0, c1⟩ := hcol (by show (3 : Nat) ≠ 0; decide)
      refine ⟨.int p.2, rfl, _, _, rfl, rfl, _, rfl, ?_⟩
      by_cases hpos : (0 : Int) < p.2
      · rw [decide_eq_true hpos]
        refine iteT ⟨.ref st, rfl, st, _, _, .str "greatest", rfl, rfl, SqT.of hst2, atI_nat (j := 0) rfl, rfl, _, rfl, iteN (strNe (by decide +kernel)) ?_⟩
        refine ⟨.int p.2, rfl, _, _, rfl, rfl, _, rfl, ?_⟩
        rw [decide_eq_true hpos]
        refine iteT ?_
        have hrel : relL ⟨3, c3⟩ [p] = [p] := by simp [relL, posL, hpos]
        by_cases hin : pickL cols p.1 ∈ keys T
        · rw [if_pos hin] at ho
          refine ⟨.ref F, rfl, F, rfl, .inr ⟨_, .inl hF2⟩, .ref wd, rfl, .ref c, rfl, .ref st, rfl, st, _, _, .int c3, rfl, rfl, SqT.of hst2, atI_nat (j := 1) rfl, c, _, _, _, rfl, rfl, SqT.of hc2, row_at c0 c1, _, ho, .ref c, rfl, .ref st, rfl, st, _, _, .int c3, rfl, rfl, SqT.of hst2, atI_nat (j := 1) rfl, c, _, _, _, rfl, rfl, SqT.of hc2, row_at c0 c1, _, _, rfl, .ref F, rfl, .ref wd, rfl, F, _, rfl, dput_row hF2 hw lt, ?_⟩
          refine fin _ ?_ hrel
          rw [valG_max, if_neg (nonE hin), ← fn.val _ hin]
        · rw [if_neg hin] at ho
          refine ⟨.ref F, rfl, F, rfl, .inr ⟨_, .inl hF2⟩, .ref wd, rfl, .ref c, rfl, .ref st, rfl, st, _, _, .int c3, rfl, rfl, SqT.of hst2, atI_nat (j := 1) rfl, c, _, _, _, rfl, rfl, SqT.of hc2, row_at c0 c1, _, ho, .ref c, rfl, .ref st, rfl, st, _, _, .int c3, rfl, rfl, SqT.of hst2, atI_nat (j := 1) rfl, c, _, _, _, rfl, rfl, SqT.of hc2, row_at c0 c1, _, _, rfl, .ref F, rfl, .ref wd, rfl, F, _, rfl, dput_row hF2 hw lt, ?_⟩
          refine fin _ ?_ hrel
          rw [valG_max, if_pos (inG_nil fun z => hin ((fn.ks _).mpr z))]
          split <;> rfl
      · rw [decide_eq_false hpos]
        refine iteF ?_
        refine ⟨.int p.2, rfl, _, _, rfl, rfl, _, rfl, ?_⟩
        rw [decide_eq_false hpos]
        exact iteF (same (by simp [relL, posL, hpos]))
  · obtain ⟨y4, y5, y6, T, rfl, e, fn⟩ := pv'
    rw [la, List.take_length] at fn
    have wT : ∀ p ∈ T, p.1.length = cols.length := fun p hp => by
      obtain ⟨x, _, ex⟩ := List.mem_map.mp ((fn.ks p.1).mp (List.mem_map.mpr ⟨p, hp, rfl⟩))
      rw [← ex]
      simp [pickL]
    refine ⟨.ref F, rfl, F, _, keys T, rfl, .inl fn.at', by rw [List.map_map, List.map_map]; rfl, oneW_nil wT fn.nd, fun p0 ts Ks hp0 pm nd so pr => ?_⟩
    have e1 : Same H' (L2.upd H' p0 (.lst (ts.map V.ref))) := same_upd hp0
    have eA : Same H (L2.upd H' p0 (.lst (ts.map V.ref))) := fun t u ht => e1 _ _ (e _ _ (fun z => by rw [z, hF] at ht; cases ht) (e0 _ _ ht))
    have hp1 : L2.upd H' p0 (.lst (ts.map V.ref)) p0 = some (.lst (ts.map V.ref)) := upd_same
    have hF1 : L2.upd H' p0 (.lst (ts.map V.ref)) F = some (.dT (rowD T)) := e1 _ _ fn.at'
    have pr1 : Paired (fun (t : Addr) (r : List Int) => RowAt (L2.upd H' p0 (.lst (ts.map V.ref))) t r) ts Ks := Paired.mapP pr fun t r h => e1 _ _ h
    generalize L2.upd H' p0 (.lst (ts.map V.ref)) = H1 at eA hp1 hF1 pr1 ⊢
    refine ⟨p0, rfl, ⟨_, SqL.of hp1⟩, fun D hD => ?_⟩
    have lK : ts.length = Ks.length := Paired.length pr1
    have lM : (relL s D1).length ≤ 5000 := by
      unfold relL
      split
      · exact Nat.le_trans (List.length_filter_le _ _) hl1
      · exact hl1
    have lKT : Ks.length ≤ 5000 := by
      rw [pm.length_eq, List.length_map]
      exact Nat.le_trans fn.len lM
    have q2 := q
    unfold groupL at q2
    generalize relL s D1 = M at fn lM q2
    have hKs : ∀ k ∈ Ks, k ∈ keys T ∧ k.length = cols.length := fun k hk => by
      have h1 := pm.mem_iff.mp hk
      obtain ⟨x, hx, ex⟩ := List.mem_map.mp h1
      exact ⟨h1, by rw [← ex]; exact wT x hx⟩
    refine lc_dat (K := K) (walk_list (K := K) (xs := ts.map V.ref)) hD (by rw [List.length_map]; omega) (fun H2 e2 => SqL.of (e2 _ _ hp1)) ((Ks.map (grpRow s cols M)).map pairD) (by simp [lK]) (imm_pairs _) (fun i x H2 H3 Q' hi e2 y kk => ?_) (fun H2 acc e2 eD dD => ?_)
    · obtain ⟨rfl, hxi⟩ := y
      rw [List.getElem?_map] at hxi
      obtain ⟨t, ht, rfl⟩ := Option.map_eq_some_iff.mp hxi
      obtain ⟨k, hk, hkr⟩ := DX.pget (flipP pr1) ht
      obtain ⟨hkT, hkl⟩ := hKs k (List.mem_of_getElem? hk)
      have hg : DGet H3 F (.ref t) (some (.int (Tl.cnt T k))) := dget_row_in (.inl (e2 _ _ hF1)) fn.nd (e2 _ _ hkr) hkT
      refine ⟨rfl, .ref t, rfl, .ref F, rfl, .ref t, rfl, F, _, rfl, hg, by show 1 ≤ sizeLine; decide, fun u hu => ?_⟩
      have e3 := same_upd (o := .tup [V.int (Tl.cnt T k)]) hu
      have hu3 : RowAt (L2.upd H3 u (.tup [V.int (Tl.cnt T k)])) u [Tl.cnt T k] := upd_same
      have hk3 : RowAt (L2.upd H3 u (.tup [V.int (Tl.cnt T k)])) t k := e3 _ _ (e2 _ _ hkr)
      generalize L2.upd H3 u (.tup [V.int (Tl.cnt T k)]) = H4 at e3 hu3 hk3 ⊢
      have := ok.len
      refine catRow hk3 hu3 (by rw [hkl]; exact Nat.le_trans (Nat.add_le_add_right ok.len 1) (by decide)) fun H5 z e5 hz => ?_
      refine ⟨by show 2 ≤ sizeLine; decide, fun g hg => ?_⟩
      refine kk _ _ (pairD (grpRow s cols M k)) ((e3.trans e5).trans (same_upd hg)) ?_ ?_
      · rw [List.getElem?_map, List.getElem?_map, hk]
        rfl
      · refine da_pair (b := z) upd_same ?_
        unfold RowAt
        rw [upd_ne (ne_of_none hz hg)]
        show H5 z = some (.tup ((k ++ [valG s (inG cols k M)]).map V.int))
        rw [← fn.val k hkT]
        exact hz
    · have F' : Fin (Ks.map (grpRow s cols M)) := fin_grp s cols M nd
      have hperm : Ks.Perm (ded (M.map fun p => pickL cols p.1)) := by
        refine (List.perm_ext_iff_of_nodup nd (nd_ded _)).mpr fun k => ?_
        rw [mem_ded, ← fn.ks k, pm.mem_iff]
      have hp2 := hperm.map (grpRow s cols M)
      refine q2 H2 D (Ks.map (grpRow s cols M)) (eA.trans e2) (eA.new hD) ⟨acc, eD, da_pairs dD⟩ F' ?_ (fun k => Tl.cnt_perm hp2 k) fun p hp => List.mem_map.mpr ⟨p, hp2.mem_iff.mp hp, rfl⟩
      rw [SortL, List.pairwise_map]
      have so2 : Ks.Pairwise (fun p q => (ltR q p = false ∧ p ≠ q) ∧ p ∈ Ks ∧ q ∈ Ks) := by
        have h1 := so.and nd
        exact h1.imp_of_mem fun {p q} hp hq h => ⟨h, hp, hq⟩
      refine so2.imp fun {p q} h => ?_
      obtain ⟨⟨h1, h2⟩, hp, hq⟩ := h
      refine decide_eq_false (lt_app ((hKs p hp).2.trans (hKs q hq).2.symm) h2 (of_decide_eq_false h1))
end
end K18

namespace K18
open PySem PySem.Spec PyProof.Rows L2 RW9 Tl
def roomN (ρ : List Int → Int) (w : List Int) (v : Int) : List Int → Int := fun x => if x = w then ρ x - v else ρ x
/-- the law's walk: every row, with what it keeps -/
def topV (cols : List Int) : (List Int → Int) → Tly → Tly
  | _, [] => []
  | ρ, p :: l => (p.1, min (ρ (pickL cols p.1)) (max p.2 0)) :: topV cols (roomN ρ (pickL cols p.1) (min (ρ (pickL cols p.1)) (max p.2 0))) l
theorem keys_topV (cols : List Int) : ∀ (ρ : List Int → Int) (l : Tly), keys (topV cols ρ l) = keys l
  | _, [] => rfl
  | m, p :: l => by
    show p.1 :: keys (topV cols _ l) = p.1 :: keys l
    rw [keys_topV]
theorem mem_put {T : Tly} {k x : List Int} {v : Int} : x ∈ keys (Tl.put T k v) ↔ x = k ∨ x ∈ keys T := by
  rw [put_keys]
  split
  · next h => exact ⟨.inr, fun z => z.elim (fun e => by rw [e]; exact h) id⟩
  · rw [List.mem_append]
    exact ⟨fun z => z.elim .inr fun z => .inl (List.mem_singleton.mp z), fun z => z.elim (fun e => .inr (List.mem_singleton.mpr e)) .inl⟩
theorem roomN_pos {ρ : List Int → Int} {w : List Int} {x : Int} (h : ∀ w, 0 ≤ ρ w) : ∀ u, 0 ≤ roomN ρ w (min (ρ w) x) u := fun u => by
  unfold roomN
  split
  · next e =>
    rw [e]
    have := Int.min_le_left (ρ w) x
    omega
  · exact h u
theorem cnt_topV (cols r : List Int) : ∀ (ρ : List Int → Int) (L : Tly), (∀ w, 0 ≤ ρ w) → Tl.cnt (topV cols ρ L) r = Tl.cnt (topW cols ρ (posL L)) r
  | _, [], _ => rfl
  | ρ, p :: L, h => by
    show (if p.1 = r then min (ρ (pickL cols p.1)) (max p.2 0) else 0) + Tl.cnt (topV cols (roomN ρ (pickL cols p.1) (min (ρ (pickL cols p.1)) (max p.2 0))) L) r = _
    rw [cnt_topV cols r _ L (roomN_pos h)]
    by_cases hp : 0 < p.2
    · rw [show posL (p :: L) = p :: posL L from List.filter_cons_of_pos (decide_eq_true hp)]
      rw [Int.max_eq_left (by omega), Int.min_comm]
      rfl
    · rw [show posL (p :: L) = posL L from List.filter_cons_of_neg (by simp [hp])]
      have e0 : min (ρ (pickL cols p.1)) (max p.2 0) = 0 := by
        rw [Int.max_eq_right (by omega)]
        exact Int.min_eq_right (h _)
      rw [e0]
      have : roomN ρ (pickL cols p.1) 0 = ρ := by
        funext x
        unfold roomN
        split
        · exact Int.sub_zero _
        · rfl
      rw [this]
      split <;> omega
section
variable {P : Program} {w : World} {K : PySem.W.Frag} {mg : Str → Option Value} {base : Heap} {C : Addr}
def spTopped (K : PySem.W.Frag) : Sp := fun vs H Q _ => ∃ (n a : Addr) (v0 v1 v2 : V) (m : Int) (cols : List Int) (D1 : Tly), vs = [.ref n, .ref a] ∧ H n = some (.tup [v0, v1, v2, .int m]) ∧ Da K H v2 (mo cols) ∧ PairsAt H a D1 ∧ TopOk cols m D1 ∧ D1.length ≤ 5000 ∧ OneW D1 ∧
  ∀ H' l D, Same H H' → H l = none → PairsAt H' l D → Fin D → SortL D → (∀ k, Tl.cnt D k = Tl.cnt (topL cols m (posL D1)) k) → (∀ p ∈ D, p.1 ∈ keys (topL cols m (posL D1))) → Q (.ref l) H'
theorem d_law_topped (B : Bt mg) (T : Top K mg "_law_topped" s_law_topped ["node", "rows"]) (D_law_added : Def P w K mg base "_law_added" 1 ["pairs"] spAdded) : Def P w K mg base "_law_topped" 2 ["node", "rows"] (spTopped K) := by
  refine mk_def T sc_law_topped (by rintro _ _ _ _ ⟨_, _, _, _, _, _, _, _, rfl, _⟩; rfl) fun f cdv A outer s0 H vs Q E hr h => ?_
  obtain ⟨n, a, v0, v1, v2, m, cols, D1, rfl, hn, hd2, ha, ok, hl1, ⟨wd1, hw1⟩, q⟩ := h
  obtain ⟨kt, rfl, hkt⟩ := Mo.trk hd2
  clear hd2
  refine ⟨_, (pss_cons (ps_set (i := 2) sc_law_topped.nd rfl (Or.inl rfl) (pe_dnewT))
      (pss_cons (ps_set (i := 3) sc_law_topped.nd rfl (Or.inl rfl) (pe_lst pa_nil))
      (pss_cons (ps_for PassesOwn.never rfl (pi_list (pv 1)) (pg_tup rfl (pgs_cons (pg_name (i := 4) sc_law_topped.nd rfl (Or.inr rfl)) (pgs_cons (pg_name (i := 5) sc_law_topped.nd rfl (Or.inl rfl)) pgs_nil))) (pss_cons (ps_set (i := 6) sc_law_topped.nd rfl (Or.inl rfl) (pe_callTy call_tuple_of (by rfl) B.m_tuple (by decide +kernel) (pa_cons (pe_lc (own := [("column", 7)]) (g := (gName 7)) (tt := tYes) (te := (tOp (rIxT K) (tVar 4) (tVar 7))) rfl sc_law_topped.nd (pi_tup (pe_ix ix_tup (pv 0) pe_int (fun _ _ => rfl))) (blkOk_by (own := [("column", 7)]) (N := N_law_topped) (sc := defScope s_law_topped) (by decide +kernel)) (fun _ _ _ _ _ => (pg_name (i := 7) sc_law_topped.nd rfl (Or.inl rfl))) (fun _ _ _ _ _ => pts_nil) (fun _ _ _ _ _ => (pe_ix ix_tup (pv 4) (pv 7) (fun _ _ => rfl)))) pa_nil)))
      (pss_cons (ps_set (i := 8) sc_law_topped.nd rfl (Or.inl rfl) (pe_dget2 (hu_of hr) (pv 2) (pv 6) (pe_ix ix_tup (pv 0) pe_int (fun _ _ => rfl)) ⟨by rfl, by rfl, by rfl, by rfl⟩))
      (pss_cons (ps_set (i := 9) sc_law_topped.nd rfl (Or.inl rfl) (pe_callB (call_min2 rfl) (by rfl) B.m_min (by decide +kernel) (pa_cons (pv 8) (pa_cons (pe_callB (call_max2 rfl) (by rfl) B.m_max (by decide +kernel) (pa_cons (pv 5) (pa_cons pe_int pa_nil))) pa_nil))))
      (pss_cons (ps_dput (hu_of hr) (pv 2) (pv 6) (pe_op op_sub (pv 8) (pv 9)) rfl)
      (pss_one (ps_expr (pe_bm PySem.F.plainAttrs_list PySem.F.slot_list_append PySem.F.type_list_append mt_append (pv 3) (pa_cons (pe_tup (pa_cons (pv 4) (pa_cons (pv 9) pa_nil))) pa_nil)))))))))
      (pss_one (ps_ret (pe_def D_law_added (hr.mono (by first | decide | omega)) (by rfl) (pa_cons (pv 3) pa_nil))))))), ?_⟩
  intro R hR
  have e0 := same_upd (o := .dT []) hR
  have hR0 := upd_same (H := H) (a := R) (o := .dT [])
  have ha0 := ha.same e0
  have hn0 := e0 _ _ hn
  have hkt0 := e0 _ _ hkt
  have naR : a ≠ R := by obtain ⟨_, h, _⟩ := ha; exact ne_of_none h hR
  generalize L2.upd H R (.dT []) = H0 at e0 hR0 ha0 hn0 hkt0 ⊢
  refine ⟨by show 0 ≤ sizeLine; decide, fun F hF => ?_⟩
  have nRF : R ≠ F := ne_of_none hR0 hF
  have e1 := same_upd (o := .lst []) hF
  have hF1 := upd_same (H := H0) (a := F) (o := .lst [])
  have hR1 := e1 _ _ hR0
  obtain ⟨acc1, ha1, hx1⟩ := ha0.same e1
  have naF : a ≠ F := by obtain ⟨_, h, _⟩ := ha0; exact ne_of_none h hF
  have hn1 := e1 _ _ hn0
  have hkt1 := e1 _ _ hkt0
  have la : acc1.length = D1.length := Paired.length hx1
  have hFH : H F = none := e0.new hF
  have e01 := e0.trans e1
  clear ha0 hn0 hkt0 hR0
  generalize L2.upd H0 F (.lst []) = H1 at e01 hF1 hR1 ha1 hx1 hn1 hkt1 ⊢
  refine ⟨.ref a, rfl, a, rfl, ⟨_, SqL.of ha1⟩, ?_⟩
  have hpos := ok.pos
  refine for_list (xs := acc1) (fun i σ H' => ∃ y4 y5 y6 y8 y9 T ρ don acc, σ = [some (.ref n), some (.ref a), some (.ref R), some (.ref F), y4, y5, y6, none, y8, y9] ∧ (∀ b o, b ≠ R → b ≠ F → H1 b = some o → H' b = some o) ∧ H' R = some (.dT (rowD T)) ∧ (keys T).Nodup ∧ T.length ≤ i ∧ (∀ u, (if u ∈ keys T then Tl.cnt T u else m) = ρ u) ∧ (∀ u, 0 ≤ ρ u) ∧ H' F = some (.lst acc) ∧ Paired (PairAt H') acc don ∧ don.length = i ∧ topV cols (fun _ => m) D1 = don ++ topV cols ρ (D1.drop i))
    ⟨none, none, none, none, none, [], fun _ => m, [], [], rfl, (fun _ _ _ _ h => h), hR1, List.nodup_nil, Nat.zero_le _, (fun u => rfl), (fun u => by show 0 ≤ m; omega), hF1, .nil, rfl, rfl⟩ (fun i σ H' _ pv' => ?_) (fun i x σ H' hxi pv' => ?_) (fun σ H' pv' => ?_)
  · obtain ⟨_, _, _, _, _, _, _, _, _, _, e, _⟩ := pv'
    exact SqL.of (e _ _ naR naF ha1)
  · obtain ⟨y4, y5, y6, y8, y9, T, ρ, don, acc, rfl, e, hRt, ndT, lT, hρ, ρ0, hFa, hacc, ld, hdon⟩ := pv'
    obtain ⟨p, hpi, hpx⟩ := DX.pget (flipP hx1) hxi
    have hpm := List.mem_of_getElem? hpi
    have hi : i < D1.length := (List.getElem?_eq_some_iff.mp hpi).1
    have st' : ST K H1 H' := fun t us ht => e _ _ (fun z => by rw [z, hR1] at ht; cases ht) (fun z => by rw [z, hF1] at ht; cases ht) ht
    obtain ⟨t, c, rfl, ht, hc⟩ := hpx.st st'
    refine ⟨t, _, rfl, SqT.of ht, rfl, _, _, rfl, _, _, rfl, rfl, ?_⟩
    have hkt2 := st' _ _ hkt1
    have hn2 := st' _ _ hn1
    refine ⟨.ref n, rfl, n, _, _, .ref kt, rfl, rfl, SqT.of hn2, atI_nat (j := 2) rfl, kt, rfl, ⟨_, SqT.of hkt2⟩, fun Z hZ => ?_⟩
    refine lc_val (walk_tup (K := K) (xs := cols.map V.int)) hZ (by rw [List.length_map]; have := ok.len; omega) (fun H1 e1 => e1.seqT (SqT.of hkt2)) ((pickL cols p.1).map V.int) (by simp [pickL]) (fun j x H1 H2 Q' hj e1 y k => ?_) (fun H2 e2 eZ => ?_)
    · obtain ⟨rfl, hxj⟩ := y
      rw [List.getElem?_map] at hxj
      obtain ⟨col, hcol, rfl⟩ := Option.map_eq_some_iff.mp hxj
      obtain ⟨c0, c1⟩ := ok.ok p hpm col (List.mem_of_getElem? hcol)
      refine ⟨rfl, .ref c, rfl, .int col, rfl, c, _, _, _, rfl, rfl, SqT.of (e1 _ _ hc), row_at c0 c1, k _ _ (Same.refl _) ?_⟩
      rw [pickL, List.map_map, List.getElem?_map, hcol]
      rfl
    refine ⟨Z, _, rfl, .inl ⟨SqL.of eZ, fun wd hwd => ?_⟩⟩
    have e3 := e2.trans (same_upd (o := .tup ((pickL cols p.1).map V.int)) hwd)
    have hw : RowAt (L2.upd H2 wd (.tup ((pickL cols p.1).map V.int))) wd (pickL cols p.1) := upd_same
    generalize L2.upd H2 wd (.tup ((pickL cols p.1).map V.int)) = H3 at e3 hw ⊢
    have hR3 := e3 _ _ hRt
    have hF3 := e3 _ _ hFa
    have hc3 : RowAt H3 c p.1 := e3 _ _ hc
    have hn3 := e3 _ _ hn2
    have hacc3 : Paired (PairAt H3) acc don := Paired.mapP hacc fun v p h => PairAt.same h e3
    have e13 : ∀ b o, b ≠ R → b ≠ F → H1 b = some o → H3 b = some o := fun b o n1 n2 h => e3 _ _ (e _ _ n1 n2 h)
    have hg : DGet H3 R (.ref wd) (if pickL cols p.1 ∈ keys T then some (.int (Tl.cnt T (pickL cols p.1))) else none) := .inr ⟨_, rk (pickL cols p.1), wd, .inl hR3, rfl, by rw [rk_kV]; exact hw, by
      rw [val_row, find_cnt ndT]
      split <;> rfl⟩
    have eg : (if pickL cols p.1 ∈ keys T then some (V.int (Tl.cnt T (pickL cols p.1))) else none).getD (.int m) = .int (ρ (pickL cols p.1)) := by
      rw [← hρ]
      split <;> rfl
    have hdr : D1.drop i = p :: D1.drop (i + 1) := by
      obtain ⟨hj, hpe⟩ := List.getElem?_eq_some_iff.mp hpi
      rw [List.drop_eq_getElem_cons hj, hpe]
    refine ⟨.ref R, rfl, R, rfl, .inr ⟨_, .inl hR3⟩, .ref wd, rfl, .ref n, rfl, n, _, _, .int m, rfl, rfl, SqT.of hn3, atI_nat (j := 3) rfl, _, hg, ?_⟩
    rw [eg]
    rw [hdr] at hdon
    have hdon2 : topV cols (fun _ => m) D1 = (don ++ [(p.1, min (ρ (pickL cols p.1)) (max p.2 0))]) ++ topV cols (roomN ρ (pickL cols p.1) (min (ρ (pickL cols p.1)) (max p.2 0))) (D1.drop (i + 1)) := by
      rw [hdon, List.append_assoc]
      rfl
    have hmin : (if (if (0 : Int) > p.2 then 0 else p.2) < ρ (pickL cols p.1) then (if (0 : Int) > p.2 then 0 else p.2) else ρ (pickL cols p.1)) = min (ρ (pickL cols p.1)) (max p.2 0) := by
      have h1 : (if (0 : Int) > p.2 then 0 else p.2) = max p.2 0 := by
        split
        · rw [Int.max_eq_right (by omega)]
        · rw [Int.max_eq_left (by omega)]
      rw [h1]
      split
      · rw [Int.min_eq_right (by omega)]
      · rw [Int.min_eq_left (by omega)]
    refine ⟨.int (ρ (pickL cols p.1)), rfl, .int p.2, rfl, _, _, rfl, _, _, rfl, ?_⟩
    rw [hmin]
    have hρ2 := roomN_pos (w := pickL cols p.1) (x := max p.2 0) ρ0
    generalize min (ρ (pickL cols p.1)) (max p.2 0) = v at hdon2 hρ2
    have lt : T.length < sizeLine := Nat.lt_of_le_of_lt (Nat.le_trans lT (Nat.le_trans (Nat.le_of_lt hi) hl1)) (by decide)
    refine ⟨.int (ρ (pickL cols p.1)), rfl, .int v, rfl, _, _, rfl, rfl, .ref R, rfl, .ref wd, rfl, R, _, rfl, dput_row hR3 hw lt, ?_⟩
    have e4 : SameB R H3 (L2.upd H3 R (.dT (rowD (Tl.put T (pickL cols p.1) (ρ (pickL cols p.1) - v))))) := SameB.upd
    have hR4 := upd_same (H := H3) (a := R) (o := .dT (rowD (Tl.put T (pickL cols p.1) (ρ (pickL cols p.1) - v))))
    have st4 : ∀ t us, H3 t = some (.tup us) → L2.upd H3 R (.dT (rowD (Tl.put T (pickL cols p.1) (ρ (pickL cols p.1) - v)))) t = some (.tup us) := fun t us ht => by
      rw [upd_ne (ne_of ht hR3 (fun z => nomatch z))]
      exact ht
    generalize L2.upd H3 R (.dT (rowD (Tl.put T (pickL cols p.1) (ρ (pickL cols p.1) - v)))) = H4 at e4 hR4 st4 ⊢
    have hF4 := e4 _ _ nRF.symm hF3
    have hacc4 : Paired (PairAt H4) acc don := Paired.mapP hacc3 fun v p h => PairAt.st h st4
    refine ⟨.ref F, rfl, .inl ⟨rfl, _, SqL.of hF4⟩, .ref c, rfl, .int v, rfl, by show 2 ≤ sizeLine; decide, fun u hu => ?_⟩
    have nFu : F ≠ u := ne_of_none hF4 hu
    have nRu : R ≠ u := ne_of_none hR4 hu
    have eFu : L2.upd H4 u (.tup [.ref c, .int v]) F = some (.lst acc) := by rw [upd_ne nFu]; exact hF4
    have lacc : acc.length < sizeLine := by
      rw [Paired.length hacc4, ld]
      exact Nat.lt_of_le_of_lt (Nat.le_trans (Nat.le_of_lt hi) hl1) (by decide)
    refine ⟨F, _, _, rfl, rfl, eFu, lacc, _, _, _, _, _, Tl.put T (pickL cols p.1) (ρ (pickL cols p.1) - v), roomN ρ (pickL cols p.1) v, don ++ [(p.1, v)], acc ++ [.ref u], rfl, fun b o n1 n2 h => ?_, ?_, put_nodup ndT, Nat.le_trans put_len (Nat.add_le_add_right lT 1), fun x => ?_, hρ2, upd_same, PairsAt.push (p := (p.1, v)) hF4 hacc4 hu (st4 _ _ hc3), by rw [List.length_append, ld]; rfl, hdon2⟩
    · have h3 := e4 _ _ n1 (e13 _ _ n1 n2 h)
      rw [upd_ne n2, upd_ne (ne_of_none h3 hu)]
      exact h3
    · rw [upd_ne nRF, upd_ne nRu]
      exact hR4
    · have hm := mem_put (T := T) (k := pickL cols p.1) (v := ρ (pickL cols p.1) - v) (x := x)
      rw [put_cnt ndT]
      unfold roomN
      by_cases ex : x = pickL cols p.1
      · rw [if_pos ex, if_pos (hm.mpr (.inl ex)), if_pos ex, ex]
      · rw [if_neg ex, if_neg ex, ← hρ x]
        by_cases hx : x ∈ keys T
        · rw [if_pos hx, if_pos (hm.mpr (.inr hx))]
        · rw [if_neg hx, if_neg fun z => (hm.mp z).elim ex hx]
  · obtain ⟨y4, y5, y6, y8, y9, T, ρ, don, acc, rfl, e, hRt, ndT, lT, hρ, ρ0, hFa, hacc, ld, hdon⟩ := pv'
    rw [la, List.drop_length] at hdon
    have hdon' : don = topV cols (fun _ => m) D1 := by rw [hdon]; exact (List.append_nil _).symm
    have e02 : Same H H' := fun b o ho => e _ _ (ne_of_none ho hR) (ne_of_none ho hFH) (e01 _ _ ho)
    have hc := fun r => cnt_topV cols r (fun _ => m) D1 (fun _ => by omega)
    refine ⟨.ref F, rfl, F, don, rfl, ⟨acc, hFa, hacc⟩, by rw [ld, la]; exact hl1, ⟨wd1, fun p hp => ?_⟩, fun H2 l D s2 hl hD fD sD cD kD => q H2 l D (e02.trans s2) (e02.new hl) hD fD sD (fun k => by rw [cD, hdon', hc]; rfl) fun p hp => cnt_mem ?_⟩
    · have hk : p.1 ∈ keys don := List.mem_map.mpr ⟨p, hp, rfl⟩
      rw [hdon', keys_topV] at hk
      obtain ⟨x, hx, ex⟩ := List.mem_map.mp hk
      rw [← ex]
      exact hw1 x hx
    · have h1 := (fD.mem (p := p)).mp hp
      rw [cD, hdon', hc] at h1
      show Tl.cnt (topW cols (fun _ => m) (posL D1)) p.1 ≠ 0
      rw [h1.1]
      exact h1.2
end
end K18

namespace K18
open PySem PySem.Spec PyProof.Rows L2 RW9 Tl
section
variable {P : Program} {w : World} {K : PySem.W.Frag} {mg : Str → Option Value} {base : Heap} {C : Addr}
def spDue (K : PySem.W.Frag) : Sp := fun vs H Q _ => ∃ (n a b : Addr) (xs : List V) (Ls : List Tly) (D1 D2 R : Tly), vs = [.ref n, .ref a, .ref b] ∧ H n = some (.tup xs) ∧ PairsAt H a D1 ∧ PairsAt H b D2 ∧ (Ls = [D1] ∨ Ls = [D1, D2]) ∧ Part K H xs Ls R ∧ R.length ≤ 5000 ∧ D1.length ≤ 5000 ∧ D2.length ≤ 5000 ∧ OneW R ∧ Fin D1 ∧ SortL D1 ∧ OneW D1 ∧
  ∀ H' l D, Same H H' → H l = none → PairsAt H' l D → Fin D → SortL D → (∀ k, Tl.cnt D k = Tl.cnt R k) → (∀ p ∈ D, p.1 ∈ keys R) → Q (.ref l) H'
theorem d_law_due (B : Bt mg) (T : Top K mg "_law_due" s_law_due ["node", "first", "second"]) (D_law_test : Def P w K mg base "_law_test" 2 ["test", "row"] (spTest K)) (D_law_value : Def P w K mg base "_law_value" 1 ["term", "row"] (spValue K)) (D_law_agree : Def P w K mg base "_law_agree" 1 ["pairs", "left", "right"] (spAgree K)) (D_law_added : Def P w K mg base "_law_added" 1 ["pairs"] spAdded) (D_law_kept : Def P w K mg base "_law_kept" 2 ["node", "first", "second"] (spKept K)) (D_law_grouped : Def P w K mg base "_law_grouped" 2 ["node", "rows"] (spGrouped K)) (D_law_topped : Def P w K mg base "_law_topped" 2 ["node", "rows"] (spTopped K)) : Def P w K mg base "_law_due" 3 ["node", "first", "second"] (spDue K) := by
  refine mk_def T sc_law_due (by rintro _ _ _ _ ⟨_, _, _, _, _, _, _, _, rfl, _⟩; rfl) fun f cdv A outer s H vs Q E hr h => ?_
  obtain ⟨n, a, b, xs, Ls, D1, D2, R, rfl, hn, ha, hb, hLs, hp, hR, hl1, hl2, hw, fD1, sD1, wD1, q⟩ := h
  refine ⟨_, (pss_cons (ps_if (pt_cmpR op_eq (pe_ix ix_tup (pv 0) pe_int (fun _ _ => rfl)) pe_str (nomark _)) (pss_one (ps_ret (pe_lc (own := [("pair", 3)]) (g := (gName 3)) (tt := (tTest (tOp yGt (tOp (rIxT K) (tVar 3) (tC (.int 1))) (tC (.int 0))))) (te := (tTup (tCons (tOp (rIxT K) (tVar 3) (tC (.int 0))) (tCons (tC (.int 1)) tNil)))) rfl sc_law_due.nd (pi_list (pv 1)) (blkOk_by (own := [("pair", 3)]) (N := N_law_due) (sc := defScope s_law_due) (by decide +kernel)) (fun _ _ _ _ _ => (pg_name (i := 3) sc_law_due.nd rfl (Or.inl rfl))) (fun _ _ _ _ _ => (pts_one (pt_cmpR op_gt (pe_ix ix_tup (pv 3) pe_int (fun _ _ => rfl)) pe_int (nomark _)))) (fun _ _ _ _ _ => (pe_tup (pa_cons (pe_ix ix_tup (pv 3) pe_int (fun _ _ => rfl)) (pa_cons pe_int pa_nil))))))) pss_nil)
      (pss_cons (ps_if (pt_cmpR op_eq (pe_ix ix_tup (pv 0) pe_int (fun _ _ => rfl)) pe_str (nomark _)) (pss_one (ps_ret (pe_def D_law_kept (hr.mono (by first | decide | omega)) (by rfl) (pa_cons (pv 0) (pa_cons (pv 1) (pa_cons (pv 2) pa_nil)))))) pss_nil)
      (pss_cons (ps_if (pt_cmpR op_eq (pe_ix ix_tup (pv 0) pe_int (fun _ _ => rfl)) pe_str (nomark _)) (pss_one (ps_ret (pe_def D_law_grouped (hr.mono (by first | decide | omega)) (by rfl) (pa_cons (pv 0) (pa_cons (pv 1) pa_nil))))) pss_nil)
      (pss_cons (ps_if (pt_cmpR op_eq (pe_ix ix_tup (pv 0) pe_int (fun _ _ => rfl)) pe_str (nomark _)) (pss_one (ps_ret (pe_def D_law_topped (hr.mono (by first | decide | omega)) (by rfl) (pa_cons (pv 0) (pa_cons (pv 1) pa_nil))))) pss_nil)
      (pss_cons (ps_set (i := 4) sc_law_due.nd rfl (Or.inl rfl) (pe_lst pa_nil))
      (Evl.pss_cut (ps_if (pt_cmpR op_eq (pe_ix ix_tup (pv 0) pe_int (fun _ _ => rfl)) pe_str (nomark _)) (pss_one (ps_for PassesOwn.never rfl (pi_list (pv 1)) (pg_tup rfl (pgs_cons (pg_name (i := 5) sc_law_due.nd rfl (Or.inr rfl)) (pgs_cons (pg_name (i := 6) sc_law_due.nd rfl (Or.inl rfl)) pgs_nil))) (pss_one (ps_if (pt_val (pe_callB (cr_all rfl) (by rfl) B.m_all (by decide +kernel) (pa_cons (pe_lc (own := [("test", 7)]) (g := (gName 7)) (tt := tYes) (te := (tCall (spTest K) [] E0 (tCons (tVar 7) (tCons (tVar 5) tNil)))) rfl sc_law_due.nd (pi_tup (pe_ix ix_tup (pv 0) pe_int (fun _ _ => rfl))) (blkOk_by (own := [("test", 7)]) (N := N_law_due) (sc := defScope s_law_due) (by decide +kernel)) (fun _ _ _ _ _ => (pg_name (i := 7) sc_law_due.nd rfl (Or.inl rfl))) (fun _ _ _ _ _ => pts_nil) (fun _ _ _ _ _ => (pe_def D_law_test (hr.mono (by first | decide | omega)) (by rfl) (pa_cons (pv 7) (pa_cons (pv 5) pa_nil))))) pa_nil))) (pss_one (ps_expr (pe_bm PySem.F.plainAttrs_list PySem.F.slot_list_append PySem.F.type_list_append mt_append (pv 4) (pa_cons (pe_tup (pa_cons (pv 5) (pa_cons (pv 6) pa_nil))) pa_nil)))) pss_nil)))) (pss_one (ps_if (pt_cmpR op_eq (pe_ix ix_tup (pv 0) pe_int (fun _ _ => rfl)) pe_str (nomark _)) (pss_one (ps_for PassesOwn.never rfl (pi_list (pv 1)) (pg_tup rfl (pgs_cons (pg_name (i := 5) sc_law_due.nd rfl (Or.inr rfl)) (pgs_cons (pg_name (i := 6) sc_law_due.nd rfl (Or.inl rfl)) pgs_nil))) (pss_one (ps_expr (pe_bm PySem.F.plainAttrs_list PySem.F.slot_list_append PySem.F.type_list_append mt_append (pv 4) (pa_cons (pe_tup (pa_cons (pe_callTy call_tuple_of (by rfl) B.m_tuple (by decide +kernel) (pa_cons (pe_lc (own := [("term", 8)]) (g := (gName 8)) (tt := tYes) (te := (tCall (spValue K) [] E0 (tCons (tVar 8) (tCons (tVar 5) tNil)))) rfl sc_law_due.nd (pi_tup (pe_ix ix_tup (pv 0) pe_int (fun _ _ => rfl))) (blkOk_by (own := [("term", 8)]) (N := N_law_due) (sc := defScope s_law_due) (by decide +kernel)) (fun _ _ _ _ _ => (pg_name (i := 8) sc_law_due.nd rfl (Or.inl rfl))) (fun _ _ _ _ _ => pts_nil) (fun _ _ _ _ _ => (pe_def D_law_value (hr.mono (by first | decide | omega)) (by rfl) (pa_cons (pv 8) (pa_cons (pv 5) pa_nil))))) pa_nil)) (pa_cons (pv 6) pa_nil))) pa_nil)))))) (pss_one (ps_if (pt_cmpR op_eq (pe_ix ix_tup (pv 0) pe_int (fun _ _ => rfl)) pe_str (nomark _)) (pss_one (ps_for PassesOwn.never rfl (pi_list (pv 1)) (pg_tup rfl (pgs_cons (pg_name (i := 9) sc_law_due.nd rfl (Or.inl rfl)) (pgs_cons (pg_name (i := 10) sc_law_due.nd rfl (Or.inl rfl)) pgs_nil))) (pss_one (ps_for PassesOwn.never rfl (pi_list (pv 2)) (pg_tup rfl (pgs_cons (pg_name (i := 11) sc_law_due.nd rfl (Or.inl rfl)) (pgs_cons (pg_name (i := 12) sc_law_due.nd rfl (Or.inl rfl)) pgs_nil))) (pss_one (ps_if (pt_val (pe_def D_law_agree (hr.mono (by first | decide | omega)) (by rfl) (pa_cons (pe_ix ix_tup (pv 0) pe_int (fun _ _ => rfl)) (pa_cons (pv 9) (pa_cons (pv 11) pa_nil))))) (pss_one (ps_expr (pe_bm PySem.F.plainAttrs_list PySem.F.slot_list_append PySem.F.type_list_append mt_append (pv 4) (pa_cons (pe_tup (pa_cons (pe_op op_catA (pv 9) (pv 11)) (pa_cons (pe_op op_mulW (pv 10) (pv 12)) pa_nil))) pa_nil)))) pss_nil)))))) (pss_one (ps_if (pt_cmpR op_eq (pe_ix ix_tup (pv 0) pe_int (fun _ _ => rfl)) pe_str (nomark _)) (pss_one (ps_set (i := 4) sc_law_due.nd rfl (Or.inl rfl) (pe_op op_cat (pv 1) (pv 2)))) (pss_one (ps_set (i := 4) sc_law_due.nd rfl (Or.inl rfl) (pe_op op_cat (pv 1) (pe_lc (own := [("pair", 3)]) (g := (gName 3)) (tt := tYes) (te := (tTup (tCons (tOp (rIxT K) (tVar 3) (tC (.int 0))) (tCons (tUn yNeg (tOp (rIxT K) (tVar 3) (tC (.int 1)))) tNil)))) rfl sc_law_due.nd (pi_list (pv 2)) (blkOk_by (own := [("pair", 3)]) (N := N_law_due) (sc := defScope s_law_due) (by decide +kernel)) (fun _ _ _ _ _ => (pg_name (i := 3) sc_law_due.nd rfl (Or.inl rfl))) (fun _ _ _ _ _ => pts_nil) (fun _ _ _ _ _ => (pe_tup (pa_cons (pe_ix ix_tup (pv 3) pe_int (fun _ _ => rfl)) (pa_cons (pe_un un_neg (pe_ix ix_tup (pv 3) pe_int (fun _ _ => rfl))) pa_nil)))))))))))))))
      (pss_one (ps_ret (pe_def D_law_added (hr.mono (by first | decide | omega)) (by rfl) (pa_cons (pv 4) pa_nil)))))))))), ?_⟩
  by_cases hold : ∃ z : Str, xs[0]? = some (.str z) ∧ ¬ z = "distinct" ∧ ¬ z = "without" ∧ ¬ z = "group" ∧ ¬ z = "top"
  case neg =>
    cases hp with
    | choose h0 h2 hd hf hll ok => exact absurd ⟨_, h0, by decide +kernel, by decide +kernel, by decide +kernel, by decide +kernel⟩ hold
    | map h0 h2 hd hll ok => exact absurd ⟨_, h0, by decide +kernel, by decide +kernel, by decide +kernel, by decide +kernel⟩ hold
    | join h0 h3 hd ok => exact absurd ⟨_, h0, by decide +kernel, by decide +kernel, by decide +kernel, by decide +kernel⟩ hold
    | plus h0 hn' => exact absurd ⟨_, h0, by decide +kernel, by decide +kernel, by decide +kernel, by decide +kernel⟩ hold
    | less h0 hn' => exact absurd ⟨_, h0, by decide +kernel, by decide +kernel, by decide +kernel, by decide +kernel⟩ hold
    | @distinct L h0 =>
      have eL : D1 = L := by
        rcases hLs with h | h
        · exact (List.cons.inj h).1.symm
        · exact absurd (List.cons.inj h).2 (by simp)
      subst eL
      refine ⟨.ref n, rfl, n, _, _, _, rfl, rfl, SqT.of hn, atI_nat (j := 0) h0, rfl, _, rfl, iteY rfl ?_⟩
      obtain ⟨acc1, ha1, hx1⟩ := ha
      have la : acc1.length = D1.length := Paired.length hx1
      refine ⟨.ref a, rfl, a, rfl, ⟨_, SqL.of ha1⟩, fun D hD => ?_⟩
      refine lc_it (walk_list (K := K) (xs := acc1)) (fun i H2 => Same H H2 ∧ ∃ acc, H2 D = some (.lst acc) ∧ Paired (PairAt H2) acc (distinctL (D1.take i))) ⟨same_upd hD, [], upd_same, .nil⟩ (fun i H2 _ p => SqL.of (p.1 _ _ ha1)) (fun i x H2 H3 hi pv y => ?_) (fun H2 pv => ?_)
      · obtain ⟨e, acc, eD, hacc⟩ := pv
        obtain ⟨rfl, hxi⟩ := y
        obtain ⟨p, hpi, hpx⟩ := DX.pget (flipP hx1) hxi
        obtain ⟨t, c, rfl, ht, hc⟩ := hpx.same e
        have ht1 : distinctL (D1.take (i + 1)) = distinctL (D1.take i) ++ distinctL [p] := by
          rw [List.take_add_one, hpi, Option.toList_some, distinctL, posL, List.filter_append, List.map_append]
          rfl
        refine ⟨rfl, .ref t, rfl, t, _, _, .int p.2, rfl, rfl, SqT.of ht, atI_nat (j := 1) rfl, _, _, rfl, rfl, _, rfl, ?_⟩
        by_cases hpos : (0 : Int) < p.2
        · rw [decide_eq_true hpos]
          refine iteT ⟨.ref t, rfl, t, _, _, .ref c, rfl, rfl, SqT.of ht, atI_nat (j := 0) rfl, by show 2 ≤ sizeLine; decide, fun u hu => ?_⟩
          have nDu : D ≠ u := ne_of_none eD hu
          refine ⟨acc, by rw [upd_ne nDu]; exact eD, ?_, (e.trans (same_upd hu)).mut hD, acc ++ [.ref u], upd_same, ?_⟩
          · rw [Paired.length hacc, distinctL, List.length_map]
            exact Nat.lt_of_le_of_lt (Nat.le_trans (List.length_filter_le _ _) (Nat.le_trans (List.take_sublist _ _).length_le hl1)) (by decide)
          · rw [ht1, show distinctL [p] = [(p.1, 1)] by simp [distinctL, posL, hpos]]
            exact PairsAt.push (p := (p.1, 1)) eD hacc hu hc
        · rw [decide_eq_false hpos]
          refine iteF ⟨e, acc, eD, ?_⟩
          rw [ht1, show distinctL [p] = [] by simp [distinctL, posL, hpos], List.append_nil]
          exact hacc
      · obtain ⟨e, acc, eD, hacc⟩ := pv
        rw [la, List.take_length] at hacc
        refine q H2 D (distinctL D1) e hD ⟨acc, eD, hacc⟩ ⟨by rw [keys_distinct]; exact nd_pos fD1.nd, fun p hp => ?_⟩ ?_ (fun _ => rfl) fun p hp => List.mem_map.mpr ⟨p, hp, rfl⟩
        · obtain ⟨r, _, rfl⟩ := List.mem_map.mp hp
          show (1 : Int) ≠ 0
          decide
        · rw [SortL, distinctL, List.pairwise_map]
          exact List.Pairwise.sublist List.filter_sublist sD1
    | @without v cols L M h0 h3 hd hf ok =>
      obtain ⟨rfl, rfl⟩ : D1 = L ∧ D2 = M := by
        rcases hLs with h | h
        · exact absurd (List.cons.inj h).2 (by simp)
        · exact ⟨(List.cons.inj h).1.symm, (List.cons.inj (List.cons.inj h).2).1.symm⟩
      refine ⟨.ref n, rfl, n, _, _, _, rfl, rfl, SqT.of hn, atI_nat (j := 0) h0, rfl, _, rfl, iteN (strNe (by decide +kernel)) ?_⟩
      refine ⟨.ref n, rfl, n, _, _, _, rfl, rfl, SqT.of hn, atI_nat (j := 0) h0, rfl, _, rfl, iteY rfl ?_⟩
      refine ⟨.ref n, rfl, .ref a, rfl, .ref b, rfl, n, a, b, xs, v, cols, D1, D2, rfl, hn, h3, hd, ha, hb, ok, hl1, hl2, fun H2 l e hl hD => ?_⟩
      exact q H2 l _ e hl hD ⟨fD1.nd.sublist (List.filter_sublist.map _), fun p hp => fD1.nz p (List.mem_filter.mp hp).1⟩ (List.Pairwise.sublist List.filter_sublist sD1) (fun _ => rfl) fun p hp => List.mem_map.mpr ⟨p, hp, rfl⟩
    | @group v1 v2 v3 cols s' L hx h2 h3 ok =>
      have eL : D1 = L := by
        rcases hLs with h | h
        · exact (List.cons.inj h).1.symm
        · exact absurd (List.cons.inj h).2 (by simp)
      subst eL
      subst hx
      refine ⟨.ref n, rfl, n, _, _, .str "group", rfl, rfl, SqT.of hn, atI_nat (j := 0) rfl, rfl, _, rfl, iteN (strNe (by decide +kernel)) ?_⟩
      refine ⟨.ref n, rfl, n, _, _, .str "group", rfl, rfl, SqT.of hn, atI_nat (j := 0) rfl, rfl, _, rfl, iteN (strNe (by decide +kernel)) ?_⟩
      refine ⟨.ref n, rfl, n, _, _, .str "group", rfl, rfl, SqT.of hn, atI_nat (j := 0) rfl, rfl, _, rfl, iteY rfl ?_⟩
      exact ⟨.ref n, rfl, .ref a, rfl, n, a, _, _, _, _, s', cols, D1, rfl, hn, h2, h3, ha, ok, hl1, fun H2 l D e hl hD fD sD cD kD => q H2 l D e hl hD fD sD cD kD⟩
    | @top v1 v2 m cols L S hx h2 ok hS sS =>
      have eL : D1 = L := by
        rcases hLs with h | h
        · exact (List.cons.inj h).1.symm
        · exact absurd (List.cons.inj h).2 (by simp)
      subst eL
      subst hx
      obtain rfl : posL D1 = S := sort_one hS.symm ((fin_pos fD1.nd).of_perm hS.symm) (List.Pairwise.sublist List.filter_sublist sD1) sS
      refine ⟨.ref n, rfl, n, _, _, .str "top", rfl, rfl, SqT.of hn, atI_nat (j := 0) rfl, rfl, _, rfl, iteN (strNe (by decide +kernel)) ?_⟩
      refine ⟨.ref n, rfl, n, _, _, .str "top", rfl, rfl, SqT.of hn, atI_nat (j := 0) rfl, rfl, _, rfl, iteN (strNe (by decide +kernel)) ?_⟩
      refine ⟨.ref n, rfl, n, _, _, .str "top", rfl, rfl, SqT.of hn, atI_nat (j := 0) rfl, rfl, _, rfl, iteN (strNe (by decide +kernel)) ?_⟩
      refine ⟨.ref n, rfl, n, _, _, .str "top", rfl, rfl, SqT.of hn, atI_nat (j := 0) rfl, rfl, _, rfl, iteY rfl ?_⟩
      exact ⟨.ref n, rfl, .ref a, rfl, n, a, _, _, _, m, cols, D1, rfl, hn, h2, ha, ok, hl1, wD1, fun H2 l D e hl hD fD sD cD kD => q H2 l D e hl hD fD sD cD kD⟩
  obtain ⟨z, hz, n1, n2, n3, n4⟩ := hold
  refine ⟨.ref n, rfl, n, _, _, _, rfl, rfl, SqT.of hn, atI_nat (j := 0) hz, rfl, _, rfl, iteN (strNe n1) ?_⟩
  refine ⟨.ref n, rfl, n, _, _, _, rfl, rfl, SqT.of hn, atI_nat (j := 0) hz, rfl, _, rfl, iteN (strNe n2) ?_⟩
  refine ⟨.ref n, rfl, n, _, _, _, rfl, rfl, SqT.of hn, atI_nat (j := 0) hz, rfl, _, rfl, iteN (strNe n3) ?_⟩
  refine ⟨.ref n, rfl, n, _, _, _, rfl, rfl, SqT.of hn, atI_nat (j := 0) hz, rfl, _, rfl, iteN (strNe n4) ?_⟩
  refine ⟨by show 0 ≤ sizeLine; decide, fun F hF => ?_⟩
  have e0 := same_upd (o := .lst []) hF
  have eF : L2.upd H F (.lst []) F = some (.lst []) := upd_same
  refine ⟨fun σ' H' => ∃ (F' : Addr) (y4 y5 y6 y7 y8 y9 y10 y11 y12 : Option V), σ' = [some (.ref n), some (.ref a), some (.ref b), y4, some (.ref F'), y5, y6, y7, y8, y9, y10, y11, y12] ∧ Same H H' ∧ H F' = none ∧ PairsAt H' F' R, ?_, ?_⟩
  · obtain ⟨acc1, ha1, hx1⟩ := ha.same e0
    obtain ⟨acc2, hb1, hx2⟩ := hb.same e0
    have hn0 := e0 _ _ hn
    have nF : ∀ {c : Addr} {o : HO}, H c = some o → c ≠ F := fun h => ne_of_none h hF
    have naF : a ≠ F := by obtain ⟨_, h, _⟩ := ha; exact nF h
    have nbF : b ≠ F := by obtain ⟨_, h, _⟩ := hb; exact nF h
    have hp0 := hp.same e0
    cases hp0 with
    | @choose v l L h0 h2 hd hf hll ok =>
      have eL : D1 = L := by
        rcases hLs with h | h
        · exact (List.cons.inj h).1.symm
        · exact absurd (List.cons.inj h).2 (by simp)
      subst eL
      refine ⟨.ref n, rfl, n, _, _, _, rfl, rfl, SqT.of hn0, atI_nat (j := 0) h0, rfl, _, rfl, iteY rfl ?_⟩
      refine ⟨.ref a, rfl, a, rfl, ⟨_, SqL.of ha1⟩, ?_⟩
      have la : acc1.length = D1.length := Paired.length hx1
      refine for_list (xs := acc1) (fun i σ H' => ∃ y4 y5 acc, σ = [some (.ref n), some (.ref a), some (.ref b), none, some (.ref F), y4, y5, none, none, none, none, none, none] ∧ SameB F (L2.upd H F (.lst [])) H' ∧ H' F = some (.lst acc) ∧ Paired (PairAt H') acc (chooseL l (D1.take i))) ⟨none, none, [], rfl, SameB.refl _ _, eF, .nil⟩ (fun i σ H' _ pv' => ?_) (fun i x σ H' hxi pv' => ?_) (fun σ H' pv' => ?_)
      · obtain ⟨_, _, _, _, e, _⟩ := pv'
        exact SqL.of (e _ _ naF ha1)
      · obtain ⟨y4, y5, acc, rfl, e, eF', hacc⟩ := pv'
        obtain ⟨p, hpi, hpx⟩ := DX.pget (flipP hx1) hxi
        have st : ST K (L2.upd H F (.lst [])) H' := fun t us ht => e _ _ (fun z => by rw [z, eF] at ht; cases ht) ht
        obtain ⟨t, c, rfl, ht, hc⟩ := hpx.st st
        obtain ⟨nv, ys, rfl, hnv, hy⟩ := Da.tstsI (Da.st st _ _ (imm_tsts l) hd)
        have lY : ys.length = l.length := by rw [hy.length, List.length_map]
        refine ⟨t, _, rfl, SqT.of ht, rfl, _, _, rfl, _, _, rfl, rfl, ?_⟩
        refine ⟨.ref n, rfl, n, _, _, .ref nv, rfl, rfl, SqT.of (st _ _ hn0), atI_nat (j := 2) h2, nv, rfl, ⟨_, SqT.of hnv⟩, fun Z hZ => ?_⟩
        refine lc_val (walk_tup (K := K)) hZ (by omega) (fun H1 e => e.seqT (SqT.of hnv)) ((l.map fun x => tstB x p.1).map V.bl) (by simp [lY]) (fun j x H1 H2 Q' hj e1 y k => ?_) (fun H1 e1 eZ => ?_)
        · obtain ⟨rfl, hxj⟩ := y
          obtain ⟨d, hd2, hdx⟩ := hy.get hxj
          obtain ⟨t0, ht0, rfl⟩ := at_map hd2
          refine ⟨rfl, x, rfl, .ref c, rfl, x, .ref c, t0, p.1, rfl, Da.same e1 _ _ hdx, Mo.of (e1 _ _ hc), ok p (List.mem_of_getElem? hpi) t0 (List.mem_of_getElem? ht0), fun H3 s3 => k _ _ s3 ?_⟩
          rw [List.map_map, List.getElem?_map, ht0]
          rfl
        · refine ⟨Z, l.map fun x => tstB x p.1, rfl, SqL.of eZ, ?_⟩
          have e2 : SameB F (L2.upd H F (.lst [])) H1 := e.trans e1.b
          have eF1 := e1 _ _ eF'
          have hacc1 : Paired (PairAt H1) acc (chooseL l (D1.take i)) := Paired.mapP hacc fun v p h => h.same e1
          rw [show (l.map fun x => tstB x p.1).all id = holdsB l p.1 by simp [holdsB]]
          have ht1 : chooseL l (D1.take (i + 1)) = chooseL l (D1.take i) ++ (if holdsB l p.1 then [p] else []) := by
            rw [List.take_add_one, hpi, Option.toList_some, chooseL, List.filter_append]
            cases hh : holdsB l p.1 <;> simp [hh, chooseL]
          cases hh : holdsB l p.1 with
          | false =>
            refine ⟨_, rfl, iteF ⟨_, _, acc, rfl, e2, eF1, ?_⟩⟩
            rw [ht1, hh]
            simpa using hacc1
          | true =>
            refine ⟨_, rfl, iteT ?_⟩
            refine ⟨.ref F, rfl, .inl ⟨rfl, _, SqL.of eF1⟩, .ref c, rfl, .int p.2, rfl, by show 2 ≤ sizeLine; decide, fun u hu => ?_⟩
            have nFu : F ≠ u := ne_of_none eF1 hu
            have eFu : L2.upd H1 u (.tup [.ref c, .int p.2]) F = some (.lst acc) := by rw [upd_ne nFu]; exact eF1
            have lacc : acc.length < sizeLine := by
              rw [Paired.length hacc1]
              exact Nat.lt_of_le_of_lt (Nat.le_trans (List.length_filter_le _ _) (Nat.le_trans (List.take_sublist _ _).length_le hl1)) (by decide)
            refine ⟨F, _, _, rfl, rfl, eFu, lacc, _, _, acc ++ [.ref u], rfl, (e2.trans (Same.b (same_upd hu))).trans SameB.upd, upd_same, ?_⟩
            rw [ht1, hh]
            exact PairsAt.push eF1 hacc1 hu (e1 _ _ hc)
      · obtain ⟨y4, y5, acc, rfl, e, eF', hacc⟩ := pv'
        rw [la, List.take_length] at hacc
        exact ⟨F, _, _, _, _, _, _, _, _, _, rfl, fun t u ht => e _ _ (nF ht) (e0 _ _ ht), hF, acc, eF', hacc⟩
    | @map v ts L h0 h2 hd hll ok =>
      have eL : D1 = L := by
        rcases hLs with h | h
        · exact (List.cons.inj h).1.symm
        · exact absurd (List.cons.inj h).2 (by simp)
      subst eL
      refine ⟨.ref n, rfl, n, _, _, _, rfl, rfl, SqT.of hn0, atI_nat (j := 0) h0, rfl, _, rfl, iteN (strNe (by decide +kernel)) ?_⟩
      refine ⟨.ref n, rfl, n, _, _, _, rfl, rfl, SqT.of hn0, atI_nat (j := 0) h0, rfl, _, rfl, iteY rfl ?_⟩
      refine ⟨.ref a, rfl, a, rfl, ⟨_, SqL.of ha1⟩, ?_⟩
      have la : acc1.length = D1.length := Paired.length hx1
      refine for_list (xs := acc1) (fun i σ H' => ∃ y4 y5 acc, σ = [some (.ref n), some (.ref a), some (.ref b), none, some (.ref F), y4, y5, none, none, none, none, none, none] ∧ SameB F (L2.upd H F (.lst [])) H' ∧ H' F = some (.lst acc) ∧ Paired (PairAt H') acc (mapL ts (D1.take i))) ⟨none, none, [], rfl, SameB.refl _ _, eF, .nil⟩ (fun i σ H' _ pv' => ?_) (fun i x σ H' hxi pv' => ?_) (fun σ H' pv' => ?_)
      · obtain ⟨_, _, _, _, e, _⟩ := pv'
        exact SqL.of (e _ _ naF ha1)
      · obtain ⟨y4, y5, acc, rfl, e, eF', hacc⟩ := pv'
        obtain ⟨p, hpi, hpx⟩ := DX.pget (flipP hx1) hxi
        have st : ST K (L2.upd H F (.lst [])) H' := fun t us ht => e _ _ (fun z => by rw [z, eF] at ht; cases ht) ht
        obtain ⟨t, c, rfl, ht, hc⟩ := hpx.st st
        obtain ⟨nv, ys, rfl, hnv, hy⟩ := Da.tsI (Da.st st _ _ (imm_tms ts) hd)
        have lY : ys.length = ts.length := by rw [hy.length, List.length_map]
        refine ⟨t, _, rfl, SqT.of ht, rfl, _, _, rfl, _, _, rfl, rfl, ?_⟩
        refine ⟨.ref F, rfl, .inl ⟨rfl, _, SqL.of eF'⟩, ?_⟩
        refine ⟨.ref n, rfl, n, _, _, .ref nv, rfl, rfl, SqT.of (st _ _ hn0), atI_nat (j := 2) h2, nv, rfl, ⟨_, SqT.of hnv⟩, fun Z hZ => ?_⟩
        refine lc_val (walk_tup (K := K)) hZ (by omega) (fun H1 e => e.seqT (SqT.of hnv)) ((midT ts p.1).map V.int) (by simp [lY, midT]) (fun j x H1 H2 Q' hj e1 y k => ?_) (fun H1 e1 eZ => ?_)
        · obtain ⟨rfl, hxj⟩ := y
          obtain ⟨d, hd2, hdx⟩ := hy.get hxj
          obtain ⟨t0, ht0, rfl⟩ := at_map hd2
          refine ⟨rfl, x, rfl, .ref c, rfl, x, .ref c, t0, p.1, rfl, Da.same e1 _ _ hdx, Mo.of (e1 _ _ hc), ok p (List.mem_of_getElem? hpi) t0 (List.mem_of_getElem? ht0), fun H3 s3 => k _ _ s3 ?_⟩
          rw [midT, List.map_map, List.getElem?_map, ht0]
          rfl
        · refine ⟨Z, _, rfl, .inl ⟨SqL.of eZ, fun g hg => ?_⟩⟩
          have e2 := e1.trans (same_upd (o := .tup ((midT ts p.1).map V.int)) hg)
          have hgr : RowAt (L2.upd H1 g (.tup ((midT ts p.1).map V.int))) g (midT ts p.1) := upd_same
          generalize L2.upd H1 g (.tup ((midT ts p.1).map V.int)) = H2 at e2 hgr ⊢
          have eF2 := e2 _ _ eF'
          have hacc2 : Paired (PairAt H2) acc (mapL ts (D1.take i)) := Paired.mapP hacc fun v p h => h.same e2
          have ht1 : mapL ts (D1.take (i + 1)) = mapL ts (D1.take i) ++ [(midT ts p.1, p.2)] := by
            rw [List.take_add_one, hpi, Option.toList_some, mapL, List.map_append]
            rfl
          refine ⟨.int p.2, rfl, by show 2 ≤ sizeLine; decide, fun u hu => ?_⟩
          have nFu : F ≠ u := ne_of_none eF2 hu
          have eFu : L2.upd H2 u (.tup [.ref g, .int p.2]) F = some (.lst acc) := by rw [upd_ne nFu]; exact eF2
          have lacc : acc.length < sizeLine := by
            rw [Paired.length hacc2, mapL, List.length_map]
            exact Nat.lt_of_le_of_lt (Nat.le_trans (List.take_sublist _ _).length_le hl1) (by decide)
          refine ⟨F, _, _, rfl, rfl, eFu, lacc, _, _, acc ++ [.ref u], rfl, ((e.trans e2.b).trans (Same.b (same_upd hu))).trans SameB.upd, upd_same, ?_⟩
          rw [ht1]
          exact PairsAt.push (p := (midT ts p.1, p.2)) eF2 hacc2 hu hgr
      · obtain ⟨y4, y5, acc, rfl, e, eF', hacc⟩ := pv'
        rw [la, List.take_length] at hacc
        exact ⟨F, _, _, _, _, _, _, _, _, _, rfl, fun t u ht => e _ _ (nF ht) (e0 _ _ ht), hF, acc, eF', hacc⟩
    | @join v cols L M h0 h3 hd ok =>
      obtain ⟨rfl, rfl⟩ : D1 = L ∧ D2 = M := by
        rcases hLs with h | h
        · exact absurd (List.cons.inj h).2 (by simp)
        · exact ⟨(List.cons.inj h).1.symm, (List.cons.inj (List.cons.inj h).2).1.symm⟩
      refine ⟨.ref n, rfl, n, _, _, _, rfl, rfl, SqT.of hn0, atI_nat (j := 0) h0, rfl, _, rfl, iteN (strNe (by decide +kernel)) ?_⟩
      refine ⟨.ref n, rfl, n, _, _, _, rfl, rfl, SqT.of hn0, atI_nat (j := 0) h0, rfl, _, rfl, iteN (strNe (by decide +kernel)) ?_⟩
      refine ⟨.ref n, rfl, n, _, _, _, rfl, rfl, SqT.of hn0, atI_nat (j := 0) h0, rfl, _, rfl, iteY rfl ?_⟩
      refine ⟨.ref a, rfl, a, rfl, ⟨_, SqL.of ha1⟩, ?_⟩
      have la : acc1.length = D1.length := Paired.length hx1
      have lb : acc2.length = D2.length := Paired.length hx2
      refine for_list (xs := acc1) (fun i σ H' => ∃ y8 y9 y10 y11 acc, σ = [some (.ref n), some (.ref a), some (.ref b), none, some (.ref F), none, none, none, none, y8, y9, y10, y11] ∧ SameB F (L2.upd H F (.lst [])) H' ∧ H' F = some (.lst acc) ∧ Paired (PairAt H') acc (joinL cols (D1.take i) D2)) ⟨none, none, none, none, [], rfl, SameB.refl _ _, eF, .nil⟩ (fun i σ H' _ pv' => ?_) (fun i x σ H' hxi pv' => ?_) (fun σ H' pv' => ?_)
      · obtain ⟨_, _, _, _, _, _, e, _⟩ := pv'
        exact SqL.of (e _ _ naF ha1)
      · obtain ⟨y8, y9, y10, y11, acc, rfl, e, eF', hacc⟩ := pv'
        obtain ⟨p, hpi, hpx⟩ := DX.pget (flipP hx1) hxi
        have hpm := List.mem_of_getElem? hpi
        have stt : ∀ {H'' : Hp}, SameB F (L2.upd H F (.lst [])) H'' → ∀ t us, L2.upd H F (.lst []) t = some (.tup us) → H'' t = some (.tup us) := fun e2 t us ht => e2 _ _ (fun z => by rw [z, eF] at ht; cases ht) ht
        obtain ⟨t, c, rfl, ht, hc⟩ := id hpx
        have ht' := stt e _ _ ht
        refine ⟨t, _, rfl, SqT.of ht', rfl, _, _, rfl, _, _, rfl, rfl, ?_⟩
        refine ⟨.ref b, rfl, b, rfl, ⟨_, SqL.of (e _ _ nbF hb1)⟩, ?_⟩
        have ht1 : joinL cols (D1.take (i + 1)) D2 = joinL cols (D1.take i) D2 ++ (inG (cols.map (·.2)) (pickL (cols.map (·.1)) p.1) D2).map fun q => (p.1 ++ q.1, p.2 * q.2) := by
          rw [List.take_add_one, hpi, Option.toList_some, joinL, List.map_append, List.flatten_append]
          simp [joinL]
        have full : ∀ j, (joinL cols (D1.take i) D2 ++ (inG (cols.map (·.2)) (pickL (cols.map (·.1)) p.1) (D2.take j)).map fun q => (p.1 ++ q.1, p.2 * q.2)).length ≤ 5000 := fun j => by
          have h1 := join_len cols (D1.take i) D2
          have h2 : (inG (cols.map (·.2)) (pickL (cols.map (·.1)) p.1) (D2.take j)).length ≤ D2.length := Nat.le_trans (List.length_filter_le _ _) (List.take_sublist _ _).length_le
          have h3 : (D1.take i).length + 1 ≤ D1.length := by
            rw [List.length_take]
            have := (List.getElem?_eq_some_iff.mp hpi).1
            omega
          have h4 : ((D1.take i).length + 1) * D2.length ≤ D1.length * D2.length := Nat.mul_le_mul_right _ h3
          rw [Nat.succ_mul] at h4
          rw [List.length_append, List.length_map]
          have := ok.few
          omega
        refine for_list (xs := acc2) (fun j σ H' => ∃ y10 y11 acc, σ = [some (.ref n), some (.ref a), some (.ref b), none, some (.ref F), none, none, none, none, some (.ref c), some (.int p.2), y10, y11] ∧ SameB F (L2.upd H F (.lst [])) H' ∧ H' F = some (.lst acc) ∧ Paired (PairAt H') acc (joinL cols (D1.take i) D2 ++ (inG (cols.map (·.2)) (pickL (cols.map (·.1)) p.1) (D2.take j)).map fun q => (p.1 ++ q.1, p.2 * q.2))) ⟨y10, y11, acc, rfl, e, eF', by simpa [inG] using hacc⟩ (fun j σ H' _ pv' => ?_) (fun j x σ H' hxj pv' => ?_) (fun σ H' pv' => ?_)
        · obtain ⟨_, _, _, _, e, _⟩ := pv'
          exact SqL.of (e _ _ nbF hb1)
        · obtain ⟨y10, y11, acc, rfl, e, eF', hacc⟩ := pv'
          obtain ⟨q2, hq2, hqx⟩ := DX.pget (flipP hx2) hxj
          have hqm := List.mem_of_getElem? hq2
          obtain ⟨t2, c2, rfl, ht2, hc2⟩ := hqx.st (stt e)
          have hc' : RowAt H' c p.1 := stt e _ _ hc
          have hd' : Da K H' v (ptD cols) := Da.st (stt e) _ _ (imm_pt cols) hd
          refine ⟨t2, _, rfl, SqT.of ht2, rfl, _, _, rfl, _, _, rfl, rfl, ?_⟩
          refine ⟨.ref n, rfl, n, _, _, v, rfl, rfl, SqT.of (stt e _ _ hn0), atI_nat (j := 3) h3, .ref c, rfl, .ref c2, rfl, v, c, c2, cols, p.1, q2.1, rfl, hd', hc', hc2, ok.len, ok.l p hpm, ok.r q2 hqm, fun H1 e1 => ⟨_, rfl, ?_⟩⟩
          have e2 : SameB F (L2.upd H F (.lst [])) H1 := e.trans e1.b
          have eF1 := e1 _ _ eF'
          have hacc1 := Paired.mapP hacc fun v p h => PairAt.same h e1
          have hj1 : inG (cols.map (·.2)) (pickL (cols.map (·.1)) p.1) (D2.take (j + 1)) = inG (cols.map (·.2)) (pickL (cols.map (·.1)) p.1) (D2.take j) ++ (if agreeB cols p.1 q2.1 then [q2] else []) := by
            rw [List.take_add_one, hq2, Option.toList_some, inG_snoc, agree_pick]
            by_cases z : pickL (cols.map (·.2)) q2.1 = pickL (cols.map (·.1)) p.1
            · simp [z]
            · simp [z]
          cases hh : agreeB cols p.1 q2.1 with
          | false =>
            refine iteF ⟨_, _, acc, rfl, e2, eF1, ?_⟩
            rw [hj1, hh]
            simpa using hacc1
          | true =>
            refine iteT ?_
            refine ⟨.ref F, rfl, .inl ⟨rfl, _, SqL.of eF1⟩, .ref c, rfl, .ref c2, rfl, catRow (e1 _ _ hc') (e1 _ _ hc2) (Nat.le_trans (ok.wid p hpm q2 hqm) (by decide)) fun H2 g s2 hg => ?_⟩
            have eF2 := s2 _ _ eF1
            have hacc2 := Paired.mapP hacc1 fun v p h => PairAt.same h s2
            refine ⟨.int p.2, rfl, .int q2.2, rfl, _, _, rfl, rfl, ok.mul p hpm q2 hqm, by show 2 ≤ sizeLine; decide, fun u hu => ?_⟩
            have nFu : F ≠ u := ne_of_none eF2 hu
            have eFu : L2.upd H2 u (.tup [.ref g, .int (p.2 * q2.2)]) F = some (.lst acc) := by rw [upd_ne nFu]; exact eF2
            have lacc : acc.length < sizeLine := by
              rw [Paired.length hacc2]
              exact Nat.lt_of_le_of_lt (full j) (by decide)
            refine ⟨F, _, _, rfl, rfl, eFu, lacc, _, _, acc ++ [.ref u], rfl, ((e2.trans s2.b).trans (Same.b (same_upd hu))).trans SameB.upd, upd_same, ?_⟩
            rw [hj1, hh, if_pos rfl, List.map_append, ← List.append_assoc]
            exact PairsAt.push (p := (p.1 ++ q2.1, p.2 * q2.2)) eF2 hacc2 hu hg
        · obtain ⟨y10, y11, acc, rfl, e, eF', hacc⟩ := pv'
          rw [lb, List.take_length, ← ht1] at hacc
          exact ⟨_, _, _, _, acc, rfl, e, eF', hacc⟩
      · obtain ⟨y8, y9, y10, y11, acc, rfl, e, eF', hacc⟩ := pv'
        rw [la, List.take_length] at hacc
        exact ⟨F, _, _, _, _, _, _, _, _, _, rfl, fun t u ht => e _ _ (nF ht) (e0 _ _ ht), hF, acc, eF', hacc⟩
    | @plus L M h0 hn' =>
      obtain ⟨rfl, rfl⟩ : D1 = L ∧ D2 = M := by
        rcases hLs with h | h
        · exact absurd (List.cons.inj h).2 (by simp)
        · exact ⟨(List.cons.inj h).1.symm, (List.cons.inj (List.cons.inj h).2).1.symm⟩
      refine ⟨.ref n, rfl, n, _, _, _, rfl, rfl, SqT.of hn0, atI_nat (j := 0) h0, rfl, _, rfl, iteN (strNe (by decide +kernel)) ?_⟩
      refine ⟨.ref n, rfl, n, _, _, _, rfl, rfl, SqT.of hn0, atI_nat (j := 0) h0, rfl, _, rfl, iteN (strNe (by decide +kernel)) ?_⟩
      refine ⟨.ref n, rfl, n, _, _, _, rfl, rfl, SqT.of hn0, atI_nat (j := 0) h0, rfl, _, rfl, iteN (strNe (by decide +kernel)) ?_⟩
      refine ⟨.ref n, rfl, n, _, _, _, rfl, rfl, SqT.of hn0, atI_nat (j := 0) h0, rfl, _, rfl, iteY rfl ?_⟩
      have la : acc1.length = D1.length := Paired.length hx1
      have lb : acc2.length = D2.length := Paired.length hx2
      refine ⟨.ref a, rfl, .ref b, rfl, a, b, acc1, acc2, rfl, rfl, ha1, hb1, ?_, fun z hz => ?_⟩
      · rw [la, lb]
        exact Nat.le_trans hn' (by decide)
      · have e1 := same_upd (o := .lst (acc1 ++ acc2)) hz
        exact ⟨z, _, _, _, _, _, _, _, _, _, rfl, e0.trans e1, e0.new hz, acc1 ++ acc2, upd_same, appP (Paired.mapP hx1 fun v p h => h.same e1) (Paired.mapP hx2 fun v p h => h.same e1)⟩
    | @less L M h0 hn' =>
      obtain ⟨rfl, rfl⟩ : D1 = L ∧ D2 = M := by
        rcases hLs with h | h
        · exact absurd (List.cons.inj h).2 (by simp)
        · exact ⟨(List.cons.inj h).1.symm, (List.cons.inj (List.cons.inj h).2).1.symm⟩
      refine ⟨.ref n, rfl, n, _, _, _, rfl, rfl, SqT.of hn0, atI_nat (j := 0) h0, rfl, _, rfl, iteN (strNe (by decide +kernel)) ?_⟩
      refine ⟨.ref n, rfl, n, _, _, _, rfl, rfl, SqT.of hn0, atI_nat (j := 0) h0, rfl, _, rfl, iteN (strNe (by decide +kernel)) ?_⟩
      refine ⟨.ref n, rfl, n, _, _, _, rfl, rfl, SqT.of hn0, atI_nat (j := 0) h0, rfl, _, rfl, iteN (strNe (by decide +kernel)) ?_⟩
      refine ⟨.ref n, rfl, n, _, _, _, rfl, rfl, SqT.of hn0, atI_nat (j := 0) h0, rfl, _, rfl, iteN (strNe (by decide +kernel)) ?_⟩
      have la : acc1.length = D1.length := Paired.length hx1
      have lb : acc2.length = D2.length := Paired.length hx2
      refine ⟨.ref a, rfl, .ref b, rfl, b, rfl, ⟨_, SqL.of hb1⟩, fun Z hZ => ?_⟩
      refine lc_dat (K := K) (walk_list (K := K)) hZ (by omega) (fun H1 e => SqL.of (e _ _ hb1)) ((D2.map fun p => (p.1, -p.2)).map pairD) (by simp [lb]) (imm_pairs _) (fun i x H1 H2 Q' hi e y k => ?_) (fun H1 acc3 e1 eZ hacc => ?_)
      · obtain ⟨rfl, hxi⟩ := y
        obtain ⟨p, hpi, hpx⟩ := DX.pget (flipP hx2) hxi
        obtain ⟨t, c, rfl, ht, hc⟩ := hpx.same e
        refine ⟨rfl, .ref t, rfl, t, _, _, .ref c, rfl, rfl, SqT.of ht, atI_nat (j := 0) rfl, .ref t, rfl, t, _, _, .int p.2, rfl, rfl, SqT.of ht, atI_nat (j := 1) rfl, p.2, rfl, by show 2 ≤ sizeLine; decide, fun u hu => ?_⟩
        refine k _ _ (pairD (p.1, -p.2)) (same_upd hu) ?_ (da_pair upd_same ?_)
        · rw [List.map_map, List.getElem?_map, hpi]
          rfl
        · unfold RowAt
          rw [upd_ne (ne_of_none hc hu)]
          exact hc
      · have hn3 : acc3.length = D2.length := by rw [hacc.length, List.length_map, List.length_map]
        refine ⟨a, Z, acc1, acc3, rfl, rfl, e1 _ _ ha1, eZ, ?_, fun z hz => ?_⟩
        · rw [la, hn3]
          exact Nat.le_trans hn' (by decide)
        · have e2 := same_upd (o := .lst (acc1 ++ acc3)) hz
          have e3 := (e0.trans e1).trans e2
          exact ⟨z, _, _, _, _, _, _, _, _, _, rfl, e3, (e0.trans e1).new hz, acc1 ++ acc3, upd_same, appP (Paired.mapP hx1 fun v p h => h.same (e1.trans e2)) (Paired.mapP (da_pairs hacc) fun v p h => h.same e2)⟩
    | distinct h0 =>
      rw [h0] at hz
      exact absurd (V.str.inj (Option.some.inj hz)).symm n1
    | without h0 h3 hd hf ok =>
      rw [h0] at hz
      exact absurd (V.str.inj (Option.some.inj hz)).symm n2
    | group hx h2 h3 ok =>
      rw [hx] at hz
      exact absurd (V.str.inj (Option.some.inj hz)).symm n3
    | top hx h2 ok hS sS =>
      rw [hx] at hz
      exact absurd (V.str.inj (Option.some.inj hz)).symm n4
  · rintro σ' H' ⟨F', y4, y5, y6, y7, y8, y9, y10, y11, y12, rfl, e, hF', hpa⟩
    refine ⟨.ref F', rfl, F', R, rfl, hpa, hR, hw, fun H2 l D s2 hl hD fD sD cD kD => ?_⟩
    exact q H2 l D (e.trans s2) (e.new hl) hD fD sD cD kD
end
end K18

namespace K18
open PySem PySem.Spec PyProof.Rows L2 RW9 Tl
section
variable {P : Program} {w : World} {K : PySem.W.Frag} {mg : Str → Option Value} {base : Heap} {C : Addr}
/-- the purse that numbers are drawn from -/
def PurseAt (H : Hp) (p : Addr) : Prop := ∃ a b c : Int, H p = some (.lst [.int a, .int b, .int c]) ∧ 0 ≤ a ∧ 0 ≤ b ∧ 0 ≤ c
theorem PurseAt.same {H H' : Hp} {p : Addr} (h : PurseAt H p) (e : Same H H') : PurseAt H' p := by
  obtain ⟨a, b, c, h, r⟩ := h
  exact ⟨a, b, c, e _ _ h, r⟩
theorem PurseAt.st {H H' : Hp} {p : Addr} (h : PurseAt H p) (e : SameB p H H') : ST K H H' := by
  obtain ⟨a, b, c, h, _⟩ := h
  exact e.st h True.intro
def spDraw : Sp := fun vs H Q _ => ∃ (p : Addr) (n : Int), vs = [.ref p, .int n] ∧ PurseAt H p ∧ 0 < n ∧ n ≤ 1000000000000000000000000000000 ∧ ∀ H' r, SameB p H H' → PurseAt H' p → 0 ≤ r → r < n → Q (.int r) H'
theorem d_law_draw (B : Bt mg) (T : Top K mg "_law_draw" s_law_draw ["purse", "many"]) : Def P w K mg base "_law_draw" 1 ["purse", "many"] spDraw := by
  refine mk_def T sc_law_draw (by rintro _ _ _ _ ⟨p, n, rfl, _⟩; rfl) fun f cdv A outer s H vs Q E hr h => ?_
  obtain ⟨p, n, rfl, ⟨pa, pb, pc, ep, h1, h2, h3⟩, hn, hn2, q⟩ := h
  have hdiv : CDivW pa n := wide_div (b := 110) hn (by omega) (by decide) (by decide)
  refine ⟨_, (pss_cons (ps_if (pt_cmpR op_gt (pe_ix ix_list (pv 0) pe_int (fun _ _ => rfl)) pe_int (nomark _)) (pss_cons (ps_set (i := 2) sc_law_draw.nd rfl (Or.inl rfl) (pe_op op_mod (pe_callTy call_int1 (by rfl) B.m_int (by decide +kernel) (pa_cons (pe_ix ix_list (pv 0) pe_int (fun _ _ => rfl)) pa_nil)) (pv 1)))
      (pss_cons (ps_asg (pe_op op_fdivW (pe_ix ix_list (pv 0) pe_int (fun _ _ => rfl)) (pv 1)) (pg_sub (pv 0) pe_int set_list))
      (pss_one (ps_ret (pv 2))))) pss_nil)
      (pss_cons (ps_asg (pe_op op_mod (pe_callTy call_int1 (by rfl) B.m_int (by decide +kernel) (pa_cons (pe_op op_add (pe_op op_mul (pe_ix ix_list (pv 0) pe_int (fun _ _ => rfl)) pe_int) pe_int) pa_nil)) pe_int) (pg_sub (pv 0) pe_int set_list))
      (pss_cons (ps_asg (pe_op op_mod (pe_callTy call_int1 (by rfl) B.m_int (by decide +kernel) (pa_cons (pe_op op_add (pe_op op_mul (pe_ix ix_list (pv 0) pe_int (fun _ _ => rfl)) pe_int) pe_int) pa_nil)) pe_int) (pg_sub (pv 0) pe_int set_list))
      (pss_one (ps_ret (pe_op op_mod (pe_callTy call_int1 (by rfl) B.m_int (by decide +kernel) (pa_cons (pe_op op_add (pe_op op_fdivW (pe_ix ix_list (pv 0) pe_int (fun _ _ => rfl)) pe_int) (pe_op op_fdivW (pe_ix ix_list (pv 0) pe_int (fun _ _ => rfl)) pe_int)) pa_nil)) (pv 1))))))), ?_⟩
  refine ⟨.ref p, rfl, p, _, 0, .int pa, rfl, rfl, SqL.of ep, atI_nat (j := 0) rfl, _, _, rfl, rfl, _, rfl, ite2 (fun z => ?_) (fun z => ?_)⟩
  · refine ⟨.ref p, rfl, p, _, 0, .int pa, rfl, rfl, SqL.of ep, atI_nat (j := 0) rfl, .inl ⟨_, rfl, .int n, rfl, _, _, rfl, rfl, hn, ?_⟩⟩
    refine ⟨.ref p, rfl, p, _, 0, .int pa, rfl, rfl, SqL.of ep, atI_nat (j := 0) rfl, .int n, rfl, _, _, rfl, rfl, hdiv, .ref p, rfl, p, _, 0, 0, rfl, rfl, ep, rfl, ?_⟩
    refine ⟨_, rfl, q _ _ SameB.upd ⟨_, pb, pc, upd_same, Int.ediv_nonneg h1 (Int.le_of_lt hn), h2, h3⟩ (Int.emod_nonneg _ (by omega)) (Int.emod_lt_of_pos _ hn)⟩
  · refine ⟨.ref p, rfl, p, _, 1, .int pb, rfl, rfl, SqL.of ep, atI_nat (j := 1) rfl, _, _, rfl, rfl, .inr ⟨by decide, by decide⟩, _, _, rfl, rfl, .inl ⟨_, rfl, _, _, rfl, rfl, (by show (0:Int) < _; decide), .ref p, rfl, p, _, 1, 1, rfl, rfl, ep, rfl, ?_⟩⟩
    have e1 : ∀ x : Int, L2.upd H p (.lst ([V.int pa, .int pb, .int pc].set 1 (.int x))) p = some (.lst [.int pa, .int x, .int pc]) := fun _ => upd_same
    refine ⟨.ref p, rfl, p, _, 2, .int pc, rfl, rfl, SqL.of (e1 _), atI_nat (j := 2) rfl, _, _, rfl, rfl, .inr ⟨by decide, by decide⟩, _, _, rfl, rfl, .inl ⟨_, rfl, _, _, rfl, rfl, (by show (0:Int) < _; decide), .ref p, rfl, p, _, 2, 2, rfl, rfl, e1 _, rfl, ?_⟩⟩
    rw [upd_upd]
    have n1 := Int.emod_nonneg (pb * 48271 + 11) (show (2147483629 : Int) ≠ 0 by decide)
    have n2 := Int.emod_lt_of_pos (pb * 48271 + 11) (show (0 : Int) < 2147483629 by decide)
    have n3 := Int.emod_nonneg (pc * 40692 + 7) (show (2147483549 : Int) ≠ 0 by decide)
    have n4 := Int.emod_lt_of_pos (pc * 40692 + 7) (show (0 : Int) < 2147483549 by decide)
    have e2 : L2.upd H p (.lst ([V.int pa, .int ((pb * 48271 + 11) % 2147483629), .int pc].set 2 (.int ((pc * 40692 + 7) % 2147483549)))) p = some (.lst [.int pa, .int ((pb * 48271 + 11) % 2147483629), .int ((pc * 40692 + 7) % 2147483549)]) := upd_same
    refine ⟨.ref p, rfl, p, _, 1, _, rfl, rfl, SqL.of e2, atI_nat (j := 1) rfl, _, _, rfl, rfl, ⟨by decide, by decide⟩, .ref p, rfl, p, _, 2, _, rfl, rfl, SqL.of e2, atI_nat (j := 2) rfl, _, _, rfl, rfl, ⟨by decide, by decide⟩, _, _, rfl, rfl, .inl ⟨_, rfl, .int n, rfl, _, _, rfl, rfl, hn, ?_⟩⟩
    exact q _ _ SameB.upd ⟨pa, _, _, e2, h1, n1, n3⟩ (Int.emod_nonneg _ (by omega)) (Int.emod_lt_of_pos _ hn)
/-- a number of at most 31 digits -/
def Small (i : Int) : Prop := i.natAbs < 10 ^ 31
def spNumber : Sp := fun vs H Q _ => ∃ p : Addr, vs = [.ref p] ∧ PurseAt H p ∧ ∀ H' r, SameB p H H' → PurseAt H' p → Small r → Q (.int r) H'
def Tiny (i : Int) : Prop := i.natAbs < 10 ^ 30
theorem Tiny.small {i : Int} (h : Tiny i) : Small i := by
  unfold Tiny at h
  unfold Small
  omega
theorem Tiny.next {i : Int} (h : Tiny i) : Small (i + 1) := by
  unfold Tiny at h
  unfold Small
  omega
def spNumberT : Sp := fun vs H Q _ => ∃ p : Addr, vs = [.ref p] ∧ PurseAt H p ∧ ∀ H' r, SameB p H H' → PurseAt H' p → Tiny r → Q (.int r) H'
theorem Def_imp {x : Str} {k : Nat} {ps : List Str} {sp sp' : Sp} (D : Def P w K mg base x k ps sp) (h : ∀ vs H Q E, sp' vs H Q E → sp vs H Q E) : Def P w K mg base x k ps sp' := by
  obtain ⟨f, fd, F, r⟩ := D
  exact ⟨f, fd, F.imp h, r⟩
theorem small_mul {a b : Int} (ha : Small a) (hb : Small b) : CMulW a b := by
  have e : (10 : Nat) ^ 31 ≤ 2 ^ 140 := by decide
  exact wide_mul (a := 140) (b := 140) (Nat.lt_of_lt_of_le ha e) (Nat.lt_of_lt_of_le hb e) (by decide) (by decide) (by decide)
theorem lit_at {j : Int} (h0 : 0 ≤ j) (h1 : j < 8) : ∃ r : Int, atI [V.int (-2), .int (-1), .int 0, .int 0, .int 1, .int 1, .int 2, .int 3] j = some (.int r) ∧ Tiny r := by
  obtain ⟨n, rfl⟩ := Int.eq_ofNat_of_zero_le h0
  have hn : n < 8 := by omega
  match n, hn with
  | 0, _ => exact ⟨-2, atI_nat (j := 0) rfl, by unfold Tiny; decide⟩
  | 1, _ => exact ⟨-1, atI_nat (j := 1) rfl, by unfold Tiny; decide⟩
  | 2, _ => exact ⟨0, atI_nat (j := 2) rfl, by unfold Tiny; decide⟩
  | 3, _ => exact ⟨0, atI_nat (j := 3) rfl, by unfold Tiny; decide⟩
  | 4, _ => exact ⟨1, atI_nat (j := 4) rfl, by unfold Tiny; decide⟩
  | 5, _ => exact ⟨1, atI_nat (j := 5) rfl, by unfold Tiny; decide⟩
  | 6, _ => exact ⟨2, atI_nat (j := 6) rfl, by unfold Tiny; decide⟩
  | 7, _ => exact ⟨3, atI_nat (j := 7) rfl, by unfold Tiny; decide⟩
theorem d_law_number (B : Bt mg) (T : Top K mg "_law_number" s_law_number ["purse"]) (D_law_draw : Def P w K mg base "_law_draw" 1 ["purse", "many"] spDraw) : Def P w K mg base "_law_number" 2 ["purse"] spNumberT := by
  refine mk_def T sc_law_number (by rintro _ _ _ _ ⟨p, rfl, _⟩; rfl) fun f cdv A outer s H vs Q E hr h => ?_
  obtain ⟨p, rfl, hp, q⟩ := h
  refine ⟨_, (pss_cons (ps_set (i := 1) sc_law_number.nd rfl (Or.inl rfl) (pe_def D_law_draw (hr.mono (by first | decide | omega)) (by rfl) (pa_cons (pv 0) (pa_cons pe_int pa_nil))))
      (pss_cons (ps_if (pt_cmpR op_lt (pv 1) pe_int (nomark _)) (pss_one (ps_ret (pe_ix ix_tup (pe_tup (pa_cons (pe_un un_neg pe_int) (pa_cons (pe_un un_neg pe_int) (pa_cons pe_int (pa_cons pe_int (pa_cons pe_int (pa_cons pe_int (pa_cons pe_int (pa_cons pe_int pa_nil))))))))) (pe_op op_mod (pe_callTy call_int1 (by rfl) B.m_int (by decide +kernel) (pa_cons (pv 1) pa_nil)) pe_int) (fun _ _ => rfl)))) pss_nil)
      (pss_cons (ps_if (pt_cmpR op_eq (pv 1) pe_int (nomark _)) (pss_cons (ps_set (i := 2) sc_law_number.nd rfl (Or.inl rfl) (pe_op op_sub pe_int (pe_op op_mulW pe_int (pe_def D_law_draw (hr.mono (by first | decide | omega)) (by rfl) (pa_cons (pv 0) (pa_cons pe_int pa_nil))))))
      (pss_cons (ps_set (i := 3) sc_law_number.nd rfl (Or.inl rfl) (pe_def D_law_draw (hr.mono (by first | decide | omega)) (by rfl) (pa_cons (pv 0) (pa_cons pe_int pa_nil))))
      (pss_one (ps_ret (pe_op op_mulW (pv 2) (pe_op op_add (pe_op op_mulW (pv 3) (pe_op op_pow pe_int pe_int)) (pe_def D_law_draw (hr.mono (by first | decide | omega)) (by rfl) (pa_cons (pv 0) (pa_cons (pe_op op_pow pe_int pe_int) pa_nil))))))))) pss_nil)
      (pss_one (ps_ret (pe_op op_sub (pe_def D_law_draw (hr.mono (by first | decide | omega)) (by rfl) (pa_cons (pv 0) (pa_cons pe_int pa_nil))) pe_int)))))), ?_⟩
  have h27 : (10 : Int) ^ (27 : Int).toNat = 1000000000000000000000000000 := by decide
  refine ⟨.ref p, rfl, p, _, rfl, hp, by decide, by decide, fun H1 way s1 p1 w0 w1 => ?_⟩
  refine ⟨.int way, rfl, _, _, rfl, rfl, _, rfl, ite2 (fun z => ?_) (fun z => ?_)⟩
  · obtain ⟨r, hat, hs⟩ := lit_at (Int.emod_nonneg way (show (8 : Int) ≠ 0 by decide)) (Int.emod_lt_of_pos way (by decide))
    refine ⟨2, rfl, 1, rfl, by show 8 ≤ sizeLine; decide, fun t ht => ?_⟩
    have e := same_upd (o := .tup [V.int (-2), .int (-1), .int 0, .int 0, .int 1, .int 1, .int 2, .int 3]) ht
    exact ⟨.int way, rfl, .inl ⟨_, rfl, _, _, rfl, rfl, (by show (0:Int) < 8; decide), t, _, _, .int r, rfl, rfl, SqT.of upd_same, hat, q _ r (s1.trans (Same.b e)) (p1.same e) hs⟩⟩
  refine ⟨.int way, rfl, rfl, _, rfl, ?_⟩
  rw [show decide (V.int way = V.int 30) = decide (way = 30) by simp]
  refine ite2 (fun z2 => ?_) (fun z2 => ?_)
  · refine ⟨.ref p, rfl, p, _, rfl, p1, by decide, by decide, fun H2 sg s2 p2 g0 g1 => ?_⟩
    refine ⟨_, _, rfl, rfl, small_mul (by unfold Small; decide) (by unfold Small; omega), _, _, rfl, rfl, ?_⟩
    refine ⟨.ref p, rfl, p, _, rfl, p2, by decide, by decide, fun H3 hd s3 p3 d0 d1 => ?_⟩
    refine ⟨.int (1 - 2 * sg), rfl, .int hd, rfl, _, _, rfl, rfl, ⟨by decide, by decide, by decide⟩, _, _, rfl, rfl, small_mul (by unfold Small; omega) (by unfold Small; rw [h27]; decide), ?_⟩
    refine ⟨.ref p, rfl, _, _, rfl, rfl, ⟨by decide, by decide, by decide⟩, p, _, rfl, p3, by rw [h27]; decide, by rw [h27]; decide, fun H4 lo s4 p4 l0 l1 => ?_⟩
    rw [h27] at l1
    have hb2 : (hd * 1000000000000000000000000000 + lo).natAbs < 10 ^ 30 := by omega
    have hb : (hd * 1000000000000000000000000000 + lo).natAbs < 10 ^ 31 := by omega
    refine ⟨_, _, rfl, rfl, _, _, rfl, rfl, ?_, ?_⟩
    · rw [h27]
      exact small_mul (by unfold Small; omega) hb
    · rw [h27]
      refine q H4 _ (((s1.trans s2).trans s3).trans s4) p4 ?_
      unfold Tiny
      have : sg = 0 ∨ sg = 1 := by omega
      rcases this with rfl | rfl
      · omega
      · omega
  · refine ⟨.ref p, rfl, p, _, rfl, p1, by decide, by decide, fun H2 r s2 p2 r0 r1 => ?_⟩
    exact ⟨_, _, rfl, rfl, q H2 _ (s1.trans s2) p2 (by unfold Tiny; omega)⟩
theorem d_law_numberS (D : Def P w K mg base "_law_number" 2 ["purse"] spNumberT) : Def P w K mg base "_law_number" 2 ["purse"] spNumber := Def_imp D fun vs H Q E h => by
  obtain ⟨p, e, hp, q⟩ := h
  exact ⟨p, e, hp, fun H' r s p' hr => q H' r s p' hr.small⟩
end
end K18

namespace K18
open PySem PySem.Spec PyProof.Rows L2 RW9 Tl
theorem PurseAt.upd {H : Hp} {p q : Addr} {o : HO} (h : PurseAt H p) (n : p ≠ q) : PurseAt (L2.upd H q o) p := by
  obtain ⟨a, b, c, h, r⟩ := h
  exact ⟨a, b, c, by rw [upd_ne n]; exact h, r⟩
theorem PurseAt.ne {H : Hp} {p q : Addr} (h : PurseAt H p) (n : H q = none) : p ≠ q := by
  obtain ⟨a, b, c, h, r⟩ := h
  exact ne_of_none h n
theorem PurseAt.newB {H H' : Hp} {p F : Addr} (h : PurseAt H' p) (e : SameB p H H') (hF : H' F = none) : H F = none := by
  have npF := h.ne hF
  cases h : H F with
  | none => rfl
  | some o =>
    rw [e _ _ npF.symm h] at hF
    cases hF
theorem lit_count {j : Int} (h0 : 0 ≤ j) (h1 : j < 8) : ∃ r : Int, atI [V.int (-2), .int (-1), .int 0, .int 1, .int 1, .int 2, .int 3, .int 7] j = some (.int r) ∧ Tiny r := by
  obtain ⟨n, rfl⟩ := Int.eq_ofNat_of_zero_le h0
  have hn : n < 8 := by omega
  match n, hn with
  | 0, _ => exact ⟨-2, atI_nat (j := 0) rfl, by unfold Tiny; decide⟩
  | 1, _ => exact ⟨-1, atI_nat (j := 1) rfl, by unfold Tiny; decide⟩
  | 2, _ => exact ⟨0, atI_nat (j := 2) rfl, by unfold Tiny; decide⟩
  | 3, _ => exact ⟨1, atI_nat (j := 3) rfl, by unfold Tiny; decide⟩
  | 4, _ => exact ⟨1, atI_nat (j := 4) rfl, by unfold Tiny; decide⟩
  | 5, _ => exact ⟨2, atI_nat (j := 5) rfl, by unfold Tiny; decide⟩
  | 6, _ => exact ⟨3, atI_nat (j := 6) rfl, by unfold Tiny; decide⟩
  | 7, _ => exact ⟨7, atI_nat (j := 7) rfl, by unfold Tiny; decide⟩
section
variable {P : Program} {w : World} {K : PySem.W.Frag} {mg : Str → Option Value} {base : Heap} {C : Addr}
def RowOk (n : Nat) (r : List Int) : Prop := r.length = n ∧ ∀ x ∈ r, Small x
def RowT (n : Nat) (r : List Int) : Prop := r.length = n ∧ ∀ x ∈ r, Tiny x
theorem RowT.ok {n : Nat} {r : List Int} (h : RowT n r) : RowOk n r := ⟨h.1, fun x hx => (h.2 x hx).small⟩
def spCount : Sp := fun vs H Q _ => ∃ (p : Addr) (b : Bool), vs = [.ref p, .bl b] ∧ PurseAt H p ∧ ∀ H' r, SameB p H H' → PurseAt H' p → Tiny r → Q (.int r) H'
theorem d_law_count (B : Bt mg) (T : Top K mg "_law_count" s_law_count ["purse", "small"]) (D_law_draw : Def P w K mg base "_law_draw" 1 ["purse", "many"] spDraw) (D_law_number : Def P w K mg base "_law_number" 2 ["purse"] spNumberT) : Def P w K mg base "_law_count" 3 ["purse", "small"] spCount := by
  refine mk_def T sc_law_count (by rintro _ _ _ _ ⟨_, _, rfl, _⟩; rfl) fun f cdv A outer s H vs Q E hr h => ?_
  obtain ⟨p, b, rfl, hp, q⟩ := h
  refine ⟨_, (pss_cons (ps_if (pt_val (pv 1)) (pss_one (ps_ret (pe_ix ix_tup (pe_tup (pa_cons (pe_un un_neg pe_int) (pa_cons (pe_un un_neg pe_int) (pa_cons pe_int (pa_cons pe_int (pa_cons pe_int (pa_cons pe_int (pa_cons pe_int (pa_cons pe_int pa_nil))))))))) (pe_def D_law_draw (hr.mono (by first | decide | omega)) (by rfl) (pa_cons (pv 0) (pa_cons pe_int pa_nil))) (fun _ _ => rfl)))) pss_nil)
      (pss_one (ps_ret (pe_def D_law_number (hr.mono (by first | decide | omega)) (by rfl) (pa_cons (pv 0) pa_nil))))), ?_⟩
  cases b with
  | true =>
    refine ⟨.bl true, rfl, true, rfl, iteT ?_⟩
    refine ⟨2, rfl, 1, rfl, by show 8 ≤ sizeLine; decide, fun t ht => ?_⟩
    have e := same_upd (o := .tup [V.int (-2), .int (-1), .int 0, .int 1, .int 1, .int 2, .int 3, .int 7]) ht
    refine ⟨.ref p, rfl, p, _, rfl, hp.same e, by decide, by decide, fun H2 d s2 p2 d0 d1 => ?_⟩
    obtain ⟨r, hat, hs⟩ := lit_count d0 d1
    exact ⟨t, _, _, .int r, rfl, rfl, SqT.of ((hp.same e).st (K := K) s2 _ _ upd_same), hat, q _ r (e.b.trans s2) p2 hs⟩
  | false => exact ⟨.bl false, rfl, false, rfl, iteF ⟨.ref p, rfl, p, rfl, hp, fun H1 r s1 p1 hr1 => q H1 r s1 p1 hr1⟩⟩
end
end K18

namespace K18
open PySem PySem.Spec PyProof.Rows L2 RW9 Tl
section
variable {P : Program} {w : World} {K : PySem.W.Frag} {mg : Str → Option Value} {base : Heap} {C : Addr}
def spLPairs : Sp := fun vs H Q _ => ∃ (p : Addr) (n most : Nat) (sm : Bool), vs = [.ref p, .int n, .int most, .bl sm] ∧ PurseAt H p ∧ n ≤ 100 ∧ most ≤ 100 ∧ ∀ H' l ps, SameB p H H' → PurseAt H' p → H l = none → PairsAt H' l ps → ps.length ≤ most + 6 → (∀ q ∈ ps, RowOk n q.1 ∧ Small q.2) → Q (.ref l) H'
theorem d_law_pairs (B : Bt mg) (T : Top K mg "_law_pairs" s_law_pairs ["purse", "width", "most", "small"]) (D_law_draw : Def P w K mg base "_law_draw" 1 ["purse", "many"] spDraw) (D_law_number : Def P w K mg base "_law_number" 2 ["purse"] spNumberT) (D_law_count : Def P w K mg base "_law_count" 3 ["purse", "small"] spCount) : Def P w K mg base "_law_pairs" 4 ["purse", "width", "most", "small"] spLPairs := by
  refine mk_def T sc_law_pairs (by rintro _ _ _ _ ⟨_, _, _, _, rfl, _⟩; rfl) fun f cdv A outer s H vs Q E hr h => ?_
  obtain ⟨p, n, most, sm, rfl, hp, hn, hm, q⟩ := h
  refine ⟨_, (pss_cons (ps_set (i := 4) sc_law_pairs.nd rfl (Or.inl rfl) (pe_def D_law_draw (hr.mono (by first | decide | omega)) (by rfl) (pa_cons (pv 0) (pa_cons pe_int pa_nil))))
      (Evl.pss_cut (ps_if (pt_cmpR op_eq (pe_def D_law_draw (hr.mono (by first | decide | omega)) (by rfl) (pa_cons (pv 0) (pa_cons pe_int pa_nil))) pe_int (nomark _)) (pss_one (ps_set (i := 4) sc_law_pairs.nd rfl (Or.inl rfl) (pv 2))) pss_nil)
      (pss_cons (ps_set (i := 5) sc_law_pairs.nd rfl (Or.inl rfl) (pe_lst pa_nil))
      (pss_cons (ps_for PassesOwn.never rfl (pi_range1 (by rfl) B.m_range (pa_cons (pv 4) pa_nil)) (pg_name (i := 6) sc_law_pairs.nd rfl (Or.inl rfl)) (pss_cons (ps_set (i := 7) sc_law_pairs.nd rfl (Or.inl rfl) (pe_callTy call_tuple_of (by rfl) B.m_tuple (by decide +kernel) (pa_cons (pe_lc (own := [("column", 8)]) (g := (gName 8)) (tt := tYes) (te := (tCall spNumberT [] E0 (tCons (tVar 0) tNil))) rfl sc_law_pairs.nd (pi_range1 (by rfl) B.m_range (pa_cons (pv 1) pa_nil)) (blkOk_by (own := [("column", 8)]) (N := N_law_pairs) (sc := defScope s_law_pairs) (by decide +kernel)) (fun _ _ _ _ _ => (pg_name (i := 8) sc_law_pairs.nd rfl (Or.inl rfl))) (fun _ _ _ _ _ => pts_nil) (fun _ _ _ _ _ => (pe_def D_law_number (hr.mono (by first | decide | omega)) (by rfl) (pa_cons (pv 0) pa_nil)))) pa_nil)))
      (Evl.pss_cut (ps_if (pw_and (pt_cmpR op_gt (pv 6) pe_int (nomark _)) (pw_and1 (pt_cmpR op_eq (pe_def D_law_draw (hr.mono (by first | decide | omega)) (by rfl) (pa_cons (pv 0) (pa_cons pe_int pa_nil))) pe_int (nomark _)))).pt (pss_one (ps_set (i := 7) sc_law_pairs.nd rfl (Or.inl rfl) (pe_ix ix_tup (pe_ix ix_list (pv 5) (pe_def D_law_draw (hr.mono (by first | decide | omega)) (by rfl) (pa_cons (pv 0) (pa_cons (pv 6) pa_nil))) (fun _ _ => rfl)) pe_int (fun _ _ => rfl)))) pss_nil)
      (pss_one (ps_expr (pe_bm PySem.F.plainAttrs_list PySem.F.slot_list_append PySem.F.type_list_append mt_append (pv 5) (pa_cons (pe_tup (pa_cons (pv 7) (pa_cons (pe_def D_law_count (hr.mono (by first | decide | omega)) (by rfl) (pa_cons (pv 0) (pa_cons (pv 3) pa_nil))) pa_nil))) pa_nil)))))))
      (Evl.pss_cut (ps_if (pw_and (pt_cmpR op_gt (pv 4) pe_int (nomark _)) (pw_and1 (pt_cmpR op_eq (pe_def D_law_draw (hr.mono (by first | decide | omega)) (by rfl) (pa_cons (pv 0) (pa_cons pe_int pa_nil))) pe_int (nomark _)))).pt (pss_cons (ps_asg (pe_ix ix_list (pv 5) (pe_def D_law_draw (hr.mono (by first | decide | omega)) (by rfl) (pa_cons (pv 0) (pa_cons (pv 4) pa_nil))) (fun _ _ => rfl)) (pg_tup rfl (pgs_cons (pg_name (i := 7) sc_law_pairs.nd rfl (Or.inl rfl)) (pgs_cons (pg_name (i := 9) sc_law_pairs.nd rfl (Or.inl rfl)) pgs_nil))))
      (Evl.pss_cut (ps_if (pw_and (pt_cmpR op_gt (pv 1) pe_int (nomark _)) (pw_and1 (pt_cmpR op_eq (pe_def D_law_draw (hr.mono (by first | decide | omega)) (by rfl) (pa_cons (pv 0) (pa_cons pe_int pa_nil))) pe_int (nomark _)))).pt (pss_one (ps_set (i := 7) sc_law_pairs.nd rfl (Or.inl rfl) (pe_op op_catA (pe_slice sl_tupA (pv 7) po_none (po_some (pe_op op_sub (pv 1) pe_int))) (pe_tup (pa_cons (pe_op op_add (pe_ix ix_tup (pv 7) (pe_op op_sub (pv 1) pe_int) (fun _ _ => rfl)) pe_int) pa_nil))))) pss_nil)
      (pss_one (ps_expr (pe_bm PySem.F.plainAttrs_list PySem.F.slot_list_append PySem.F.type_list_append mt_append (pv 5) (pa_cons (pe_tup (pa_cons (pv 7) (pa_cons (pe_un un_neg (pv 9)) pa_nil))) pa_nil)))))) pss_nil)
      (pss_one (ps_ret (pv 5)))))))), ?_⟩
  refine ⟨.ref p, rfl, p, _, rfl, hp, by decide, by decide, fun H1 sz s1 p1 z0 z1 => ?_⟩
  refine ⟨fun σ' H' => ∃ size : Nat, σ' = [some (.ref p), some (.int n), some (.int most), some (.bl sm), some (.int size), none, none, none, none, none] ∧ size ≤ most + 5 ∧ SameB p H H' ∧ PurseAt H' p, ?_, ?_⟩
  · refine ⟨.ref p, rfl, p, _, rfl, p1, by decide, by decide, fun H2 d s2 p2 d0 d1 => ⟨rfl, _, rfl, ite2 (fun _ => ?_) (fun _ => ?_)⟩⟩
    · exact ⟨.int most, rfl, most, rfl, by omega, s1.trans s2, p2⟩
    · obtain ⟨k, rfl⟩ := Int.eq_ofNat_of_zero_le z0
      exact ⟨k, rfl, by omega, s1.trans s2, p2⟩
  rintro σ' H2 ⟨size, rfl, hsz, s2, p2⟩
  refine ⟨by show 0 ≤ sizeLine; decide, fun F hF => ?_⟩
  have npF : p ≠ F := p2.ne hF
  have hF0 : H F = none := by
    cases h : H F with
    | none => rfl
    | some o =>
      rw [s2 _ _ npF.symm h] at hF
      cases hF
  refine ⟨.int size, rfl, size, rfl, by omega, by omega, ?_⟩
  refine for_range (lo := 0) (n := size) (fun i σ H' => ∃ y5 y6 acc ps, σ = [some (.ref p), some (.int n), some (.int most), some (.bl sm), some (.int size), some (.ref F), y5, y6, none, none] ∧ (∀ b o, b ≠ p → b ≠ F → H b = some o → H' b = some o) ∧ PurseAt H' p ∧ H' F = some (.lst acc) ∧ Paired (PairAt H') acc ps ∧ ps.length = i ∧ (∀ q ∈ ps, RowT n q.1 ∧ Tiny q.2))
    ⟨none, none, [], [], rfl, fun b o n1 n2 ho => by rw [upd_ne n2]; exact s2 _ _ n1 ho, p2.upd npF, upd_same, .nil, rfl, fun q hq => nomatch hq⟩ (fun i σ H' hi pv' => ?_) (fun σ H' pv' => ?_)
  · obtain ⟨y5, y6, acc, ps, rfl, e, pu, eF, hacc, hl, hok⟩ := pv'
    have npF' : p ≠ F := npF
    refine ⟨.int n, rfl, n, rfl, by omega, by omega, fun D hD => ?_⟩
    have npD : p ≠ D := pu.ne hD
    have nFD : F ≠ D := ne_of_none eF hD
    refine lc_range (lo := 0) (n := n) (fun j H2 => ∃ r : List Int, r.length = j ∧ (∀ x ∈ r, Tiny x) ∧ H2 D = some (.lst (r.map V.int)) ∧ (∀ b o, b ≠ p → H' b = some o → H2 b = some o) ∧ PurseAt H2 p) ⟨[], rfl, (fun x hx => nomatch hx), upd_same, (fun b o _ ho => by rw [upd_ne (ne_of_none ho hD)]; exact ho), pu.upd npD⟩ (fun j H2 hj pv => ?_) (fun H2 pv => ?_)
    · obtain ⟨r, hr1, hr2, eD, e2, pu2⟩ := pv
      refine ⟨rfl, .ref p, rfl, p, rfl, pu2, fun H3 x s3 p3 hx => ⟨_, s3 _ _ npD.symm eD, ?_, r ++ [x], by simp [hr1], ?_, by rw [upd_same, List.map_append]; rfl, fun b o nb ho => ?_, p3.upd npD⟩⟩
      · rw [List.length_map, hr1]
        exact Nat.lt_of_lt_of_le hj (Nat.le_trans hn (by decide))
      · intro y hy
        rcases List.mem_append.mp hy with hy | hy
        · exact hr2 y hy
        · rw [List.mem_singleton.mp hy]
          exact hx
      · rw [upd_ne (ne_of_none ho hD)]
        exact s3 _ _ nb (e2 _ _ nb ho)
    · obtain ⟨r, hr1, hr2, eD, e2, pu2⟩ := pv
      refine ⟨D, _, rfl, .inl ⟨SqL.of eD, fun t ht => ?_⟩⟩
      have e3 : ∀ b o, b ≠ p → H' b = some o → L2.upd H2 t (.tup (r.map V.int)) b = some o := fun b o nb ho => by
        have := e2 _ _ nb ho
        rw [upd_ne (ne_of_none this ht)]
        exact this
      have pu3 := pu2.upd (o := .tup (r.map V.int)) (pu2.ne ht)
      have hrt : RowAt (L2.upd H2 t (.tup (r.map V.int))) t r := upd_same
      generalize L2.upd H2 t (.tup (r.map V.int)) = H3 at e3 pu3 hrt ⊢
      have tupS : ∀ t us, H' t = some (.tup us) → H3 t = some (.tup us) := fun t us h => e3 _ _ (fun z => by
        obtain ⟨a, b, c, h2, _⟩ := pu
        rw [z, h2] at h
        cases h) h
      have acc3 : Paired (PairAt H3) acc ps := Paired.mapP hacc fun v q h => h.st tupS
      refine ⟨fun σ' H4 => ∃ (t : Addr) (r : List Int), σ' = [some (.ref p), some (.int n), some (.int most), some (.bl sm), some (.int size), some (.ref F), some (.int (0 + (i : Int))), some (.ref t), none, none] ∧ RowAt H4 t r ∧ RowT n r ∧ (∀ b o, b ≠ p → H' b = some o → H4 b = some o) ∧ PurseAt H4 p ∧ Paired (PairAt H4) acc ps, ?_, ?_⟩
      · have done : ∀ H4, SameB p H3 H4 → PurseAt H4 p → ∃ (t' : Addr) (r' : List Int), [some (.ref p), some (V.int n), some (.int most), some (.bl sm), some (.int size), some (.ref F), some (.int (0 + (i : Int))), some (.ref t), none, none] = [some (.ref p), some (.int n), some (.int most), some (.bl sm), some (.int size), some (.ref F), some (.int (0 + (i : Int))), some (.ref t'), none, none] ∧ RowAt H4 t' r' ∧ RowT n r' ∧ (∀ b o, b ≠ p → H' b = some o → H4 b = some o) ∧ PurseAt H4 p ∧ Paired (PairAt H4) acc ps := fun H4 s4 p4 =>
          ⟨t, r, rfl, pu3.st (K := K) s4 _ _ hrt, ⟨hr1, hr2⟩, fun b o nb ho => s4 _ _ nb (e3 _ _ nb ho), p4, Paired.mapP acc3 fun v q h => h.st (pu3.st (K := K) s4)⟩
        refine ⟨.int (0 + (i : Int)), rfl, _, _, rfl, rfl, _, rfl, ite2 (fun z => ?_) (fun z => iteF (done _ (SameB.refl _ _) pu3))⟩
        have hi0 : (0 : Int) < 0 + (i : Int) := of_decide_eq_true z
        refine ⟨.ref p, rfl, p, _, rfl, pu3, by decide, by decide, fun H4 d s4 p4 d0 d1 => ⟨rfl, _, rfl, ite2 (fun z2 => ?_) (fun z2 => done _ s4 p4)⟩⟩
        refine ⟨.ref F, rfl, .ref p, rfl, .int (0 + (i : Int)), rfl, p, _, rfl, p4, hi0, by omega, fun H5 d5 s5 p5 g0 g1 => ?_⟩
        have s45 := s4.trans s5
        have eF5 : H5 F = some (.lst acc) := s45 _ _ npF.symm (e3 _ _ npF.symm eF)
        have acc5 : Paired (PairAt H5) acc ps := Paired.mapP acc3 fun v q h => h.st (pu3.st (K := K) s45)
        obtain ⟨k, rfl⟩ := Int.eq_ofNat_of_zero_le g0
        have hk : k < ps.length := by omega
        obtain ⟨v5, hv5, t5, b5, rfl, h5, h6⟩ := DX.pget acc5 (List.getElem?_eq_getElem hk)
        refine ⟨F, _, _, .ref t5, rfl, rfl, SqL.of eF5, atI_nat hv5, t5, _, _, .ref b5, rfl, rfl, SqT.of h5, atI_nat (j := 0) rfl, b5, _, rfl, h6, (hok _ (List.getElem_mem hk)).1, fun b o nb ho => s45 _ _ nb (e3 _ _ nb ho), p5, acc5⟩
      · rintro σ' H4 ⟨t, r, rfl, hrt, hro, e4, p4, acc4⟩
        have eF4 : H4 F = some (.lst acc) := e4 _ _ npF.symm eF
        refine ⟨.ref F, rfl, .inl ⟨rfl, _, SqL.of eF4⟩, .ref t, rfl, .ref p, rfl, .bl sm, rfl, p, sm, rfl, p4, fun H5 c s5 p5 hc => ?_⟩
        have eF5 := s5 _ _ npF.symm eF4
        have acc5 : Paired (PairAt H5) acc ps := Paired.mapP acc4 fun v q h => h.st (p4.st (K := K) s5)
        have hrt5 : RowAt H5 t r := p4.st (K := K) s5 _ _ hrt
        refine ⟨by show 2 ≤ sizeLine; decide, fun u hu => ?_⟩
        have nFu : F ≠ u := ne_of_none eF5 hu
        have eFu : L2.upd H5 u (.tup [.ref t, .int c]) F = some (.lst acc) := by rw [upd_ne nFu]; exact eF5
        refine ⟨F, _, _, rfl, rfl, eFu, ?_, _, _, acc ++ [.ref u], ps ++ [(r, c)], rfl, fun b o n1 n2 ho => ?_, (p5.upd (p5.ne hu)).upd npF, upd_same, PairsAt.push (p := (r, c)) eF5 acc5 hu hrt5, by simp [hl], fun z hz => ?_⟩
        · rw [Paired.length hacc, hl]
          exact Nat.lt_of_lt_of_le hi (Nat.le_trans (show size ≤ 105 by omega) (by decide))
        · rw [upd_ne n2]
          have := s5 _ _ n1 (e4 _ _ n1 (e _ _ n1 n2 ho))
          rw [upd_ne (ne_of_none this hu)]
          exact this
        · rcases List.mem_append.mp hz with hz | hz
          · exact hok z hz
          · rw [List.mem_singleton.mp hz]
            exact ⟨hro, hc⟩
  · obtain ⟨y5, y6, acc, ps, rfl, e, pu, eF, hacc, hl, hok⟩ := pv'
    have hok2 : ∀ q ∈ ps, RowOk n q.1 ∧ Small q.2 := fun q hq => ⟨(hok q hq).1.ok, (hok q hq).2.small⟩
    refine ⟨fun σ' H4 => ∃ (y6 y7 y9 : Option V) (ps : Tly), σ' = [some (.ref p), some (.int n), some (.int most), some (.bl sm), some (.int size), some (.ref F), y6, y7, none, y9] ∧ (∀ b o, b ≠ p → H b = some o → H4 b = some o) ∧ PurseAt H4 p ∧ PairsAt H4 F ps ∧ ps.length ≤ size + 1 ∧ ∀ q ∈ ps, RowOk n q.1 ∧ Small q.2, ?_, ?_⟩
    · have eH : ∀ b o, b ≠ p → H b = some o → H' b = some o := fun b o nb ho => e _ _ nb (ne_of_none ho hF0) ho
      have done : ∀ H4, SameB p H' H4 → PurseAt H4 p → ∃ (z6 z7 z9 : Option V) (ps : Tly), [some (.ref p), some (V.int n), some (.int most), some (.bl sm), some (.int size), some (.ref F), y5, y6, none, none] = [some (.ref p), some (.int n), some (.int most), some (.bl sm), some (.int size), some (.ref F), z6, z7, none, z9] ∧ (∀ b o, b ≠ p → H b = some o → H4 b = some o) ∧ PurseAt H4 p ∧ PairsAt H4 F ps ∧ ps.length ≤ size + 1 ∧ ∀ q ∈ ps, RowOk n q.1 ∧ Small q.2 := fun H4 s4 p4 =>
        ⟨y5, y6, none, ps, rfl, fun b o nb ho => s4 _ _ nb (eH b o nb ho), p4, ⟨acc, s4 _ _ npF.symm eF, Paired.mapP hacc fun v q h => h.st (pu.st (K := K) s4)⟩, by omega, hok2⟩
      refine ⟨.int size, rfl, _, _, rfl, rfl, _, rfl, ite2 (fun z => ?_) (fun z => iteF (done _ (SameB.refl _ _) pu))⟩
      have hs0 : (0 : Int) < size := of_decide_eq_true z
      refine ⟨.ref p, rfl, p, _, rfl, pu, by decide, by decide, fun H4 d s4 p4 d0 d1 => ⟨rfl, _, rfl, ite2 (fun z2 => ?_) (fun z2 => done _ s4 p4)⟩⟩
      refine ⟨.ref F, rfl, .ref p, rfl, .int size, rfl, p, _, rfl, p4, hs0, by omega, fun H5 d5 s5 p5 g0 g1 => ?_⟩
      have s45 := s4.trans s5
      have eF5 : H5 F = some (.lst acc) := s45 _ _ npF.symm eF
      have acc5 : Paired (PairAt H5) acc ps := Paired.mapP hacc fun v q h => h.st (pu.st (K := K) s45)
      obtain ⟨k, rfl⟩ := Int.eq_ofNat_of_zero_le g0
      have hk : k < ps.length := by omega
      have hkt := hok _ (List.getElem_mem hk)
      obtain ⟨v5, hv5, t5, b5, rfl, h5, h6⟩ := DX.pget acc5 (List.getElem?_eq_getElem hk)
      generalize ps[k] = pk at hkt h5 h6
      obtain ⟨r, c⟩ := pk
      obtain ⟨⟨hrn, hrt⟩, hct⟩ := hkt
      have hrn : r.length = n := hrn
      have hct : Tiny c := hct
      have h5 : H5 t5 = some (.tup [.ref b5, .int c]) := h5
      have h6 : RowAt H5 b5 r := h6
      have hrt : ∀ x ∈ r, Tiny x := hrt
      refine ⟨F, _, _, .ref t5, rfl, rfl, SqL.of eF5, atI_nat hv5, t5, _, rfl, SqT.of h5, rfl, _, _, rfl, _, _, rfl, rfl, ?_⟩
      have e5 : ∀ b o, b ≠ p → H b = some o → H5 b = some o := fun b o nb ho => s45 _ _ nb (eH b o nb ho)
      refine ⟨fun σ' H6 => ∃ (t : Addr) (r2 : List Int), σ' = [some (.ref p), some (.int n), some (.int most), some (.bl sm), some (.int size), some (.ref F), y5, some (.ref t), none, some (.int c)] ∧ RowAt H6 t r2 ∧ RowOk n r2 ∧ SameB p H5 H6 ∧ PurseAt H6 p, ?_, ?_⟩
      · refine ⟨.int n, rfl, _, _, rfl, rfl, _, rfl, ite2 (fun z3 => ?_) (fun z3 => iteF ⟨b5, r, rfl, h6, ⟨hrn, fun x hx => (hrt x hx).small⟩, SameB.refl _ _, p5⟩)⟩
        have hn0 : (0 : Int) < n := of_decide_eq_true z3
        refine ⟨.ref p, rfl, p, _, rfl, p5, by decide, by decide, fun H6 d6 s6 p6 d60 d61 => ⟨rfl, _, rfl, ite2 (fun z4 => ?_) (fun z4 => ⟨b5, r, rfl, p5.st (K := K) s6 _ _ h6, ⟨hrn, fun x hx => (hrt x hx).small⟩, s6, p6⟩)⟩⟩
        have h66 : RowAt H6 b5 r := p5.st (K := K) s6 _ _ h6
        have hn1 : ((n : Int) - 1) = ((n - 1 : Nat) : Int) := by omega
        refine ⟨.ref b5, rfl, .int n, rfl, _, _, rfl, rfl, ?_⟩
        have hlr : (r.map V.int).length = n := by rw [List.length_map, hrn]
        refine ⟨(n : Int) - 1, rfl, b5, _, rfl, SqT.of h66, fun hwh => ?_, fun _ t6 ht6 => ?_⟩
        · rw [hn1, HT.sIx_nat, hlr] at hwh
          exfalso
          have := hwh.2
          omega
        have hcut : cutV (r.map V.int) none (some ((n : Int) - 1)) = (r.take (n - 1)).map V.int := by
          unfold cutV
          show ((r.map V.int).drop 0).take (HT.sIx _ _ (some ((n : Int) - 1)) - 0) = _
          rw [hn1, HT.sIx_nat, List.drop_zero, Nat.sub_zero, hlr, List.map_take, Nat.min_eq_left (by omega)]
        rw [hcut]
        have e7 := same_upd (o := .tup ((r.take (n - 1)).map V.int)) ht6
        have ht7 : RowAt (L2.upd H6 t6 (.tup ((r.take (n - 1)).map V.int))) t6 (r.take (n - 1)) := upd_same
        have hb7 := e7 _ _ h66
        have p7 := p6.same e7
        generalize L2.upd H6 t6 (.tup ((r.take (n - 1)).map V.int)) = H7 at e7 ht7 hb7 p7 ⊢
        refine ⟨.ref b5, rfl, .int n, rfl, _, _, rfl, rfl, b5, _, _, _, rfl, rfl, SqT.of hb7, row_at (by omega) (by rw [hrn]; omega), _, _, rfl, rfl, by show 1 ≤ sizeLine; decide, fun u hu => ?_⟩
        show rCatA _ (V.ref t6) (V.ref u) (L2.upd H7 u (.tup [V.int (r.getD ((n : Int) - 1).toNat 0 + 1)])) _
        have e8 := same_upd (o := .tup [V.int (r.getD ((n : Int) - 1).toNat 0 + 1)]) hu
        have hu8 : RowAt (L2.upd H7 u (.tup [V.int (r.getD ((n : Int) - 1).toNat 0 + 1)])) u [r.getD ((n : Int) - 1).toNat 0 + 1] := upd_same
        have ht8 := e8 _ _ ht7
        have p8 := p7.same e8
        have hval : Small (r.getD ((n : Int) - 1).toNat 0 + 1) := by
          refine Tiny.next (hrt _ ?_)
          have hlt : ((n : Int) - 1).toNat < r.length := by omega
          rw [List.getD_eq_getElem?_getD, List.getElem?_eq_getElem hlt]
          exact List.getElem_mem hlt
        generalize r.getD ((n : Int) - 1).toNat 0 + 1 = x at e8 hu8 ht8 p8 hval ⊢
        generalize L2.upd H7 u (.tup [V.int x]) = H8 at e8 hu8 ht8 p8 ⊢
        have hl1 : (r.take (n - 1)).length = n - 1 := by rw [List.length_take]; omega
        refine catRow ht8 hu8 (by rw [hl1]; exact Nat.le_trans (show n - 1 + 1 ≤ 101 by omega) (by decide)) fun H9 z s9 hz => ?_
        refine ⟨z, r.take (n - 1) ++ [x], rfl, hz, ⟨by rw [List.length_append, hl1]; show n - 1 + 1 = n; omega, fun y hy => ?_⟩, s6.trans ((e7.trans e8).trans s9).b, p8.same s9⟩
        rcases List.mem_append.mp hy with hy | hy
        · exact (hrt y (List.mem_of_mem_take hy)).small
        · rw [List.mem_singleton.mp hy]
          exact hval
      · rintro σ' H6 ⟨t, r2, rfl, ht, hr2, s6, p6⟩
        have eF6 := s6 _ _ npF.symm eF5
        have acc6 : Paired (PairAt H6) acc ps := Paired.mapP acc5 fun v q h => h.st (p5.st (K := K) s6)
        refine ⟨.ref F, rfl, .inl ⟨rfl, _, SqL.of eF6⟩, .ref t, rfl, .int c, rfl, c, rfl, by show 2 ≤ sizeLine; decide, fun u hu => ?_⟩
        have nFu : F ≠ u := ne_of_none eF6 hu
        have eFu : L2.upd H6 u (.tup [.ref t, .int (-c)]) F = some (.lst acc) := by rw [upd_ne nFu]; exact eF6
        refine ⟨F, _, _, rfl, rfl, eFu, ?_, _, _, _, ps ++ [(r2, -c)], rfl, fun b o nb ho => ?_, (p6.upd (p6.ne hu)).upd npF, ⟨acc ++ [.ref u], upd_same, PairsAt.push (p := (r2, -c)) eF6 acc6 hu ht⟩, by rw [List.length_append]; show ps.length + 1 ≤ size + 1; omega, fun z hz => ?_⟩
        · rw [Paired.length acc6, hl]
          exact Nat.lt_of_le_of_lt (show size ≤ 105 by omega) (by decide)
        · rw [upd_ne (ne_of_none ho hF0), upd_ne (ne_of_none (s6 _ _ nb (e5 _ _ nb ho)) hu)]
          exact s6 _ _ nb (e5 _ _ nb ho)
        · rcases List.mem_append.mp hz with hz | hz
          · exact hok2 z hz
          · rw [List.mem_singleton.mp hz]
            refine ⟨hr2, ?_⟩
            unfold Small
            unfold Tiny at hct
            show (-c).natAbs < _
            rw [Int.natAbs_neg]
            omega
    · rintro σ' H4 ⟨y6, y7, y9, ps, rfl, e4, p4, hps, hl4, hok4⟩
      exact ⟨.ref F, rfl, q H4 F ps e4 p4 hF0 hps (by omega) hok4⟩
end
end K18

namespace K18
open PySem PySem.Spec PyProof.Rows L2 RW9 Tl
/-- a drawn term over n columns -/
structure TmOk (n : Nat) (t : Tm) : Prop where
  con : Small t.1
  len : t.2.length ≤ 100
  col : ∀ q ∈ t.2, 0 ≤ q.1 ∧ q.1 < n ∧ Small q.2
section
variable {P : Program} {w : World} {K : PySem.W.Frag} {mg : Str → Option Value} {base : Heap} {C : Addr}
def spLTerm (K : PySem.W.Frag) : Sp := fun vs H Q _ => ∃ (p : Addr) (n : Nat), vs = [.ref p, .int n] ∧ PurseAt H p ∧ n ≤ 100 ∧ ∀ H' v t, SameB p H H' → PurseAt H' p → Da K H' v (tmD t) → TmOk n t → Q v H'
theorem d_law_term (B : Bt mg) (T : Top K mg "_law_term" s_law_term ["purse", "width"]) (D_law_draw : Def P w K mg base "_law_draw" 1 ["purse", "many"] spDraw) (D_law_number : Def P w K mg base "_law_number" 2 ["purse"] spNumber) : Def P w K mg base "_law_term" 3 ["purse", "width"] (spLTerm K) := by
  refine mk_def T sc_law_term (by rintro _ _ _ _ ⟨_, _, rfl, _⟩; rfl) fun f cdv A outer s H vs Q E hr h => ?_
  obtain ⟨p, n, rfl, hp, hn, q⟩ := h
  refine ⟨_, (pss_cons (ps_set (i := 2) sc_law_term.nd rfl (Or.inl rfl) (pe_def D_law_draw (hr.mono (by first | decide | omega)) (by rfl) (pa_cons (pv 0) (pa_cons pe_int pa_nil))))
      (pss_cons (ps_if (pw_and (pt_cmpR op_eq (pv 2) pe_int (nomark _)) (pw_and1 (pt_cmpR op_gt (pv 1) pe_int (nomark _)))).pt (pss_one (ps_ret (pe_tup (pa_cons pe_int (pa_cons (pe_tup (pa_cons (pe_tup (pa_cons (pe_def D_law_draw (hr.mono (by first | decide | omega)) (by rfl) (pa_cons (pv 0) (pa_cons (pv 1) pa_nil))) (pa_cons pe_int pa_nil))) pa_nil)) pa_nil))))) pss_nil)
      (pss_cons (ps_set (i := 3) sc_law_term.nd rfl (Or.inl rfl) (pe_def D_law_number (hr.mono (by first | decide | omega)) (by rfl) (pa_cons (pv 0) pa_nil)))
      (pss_cons (ps_set (i := 4) sc_law_term.nd rfl (Or.inl rfl) (pe_lst pa_nil))
      (pss_cons (ps_for PassesOwn.never rfl (pi_range1 (by rfl) B.m_range (pa_cons (pv 1) pa_nil)) (pg_name (i := 5) sc_law_term.nd rfl (Or.inl rfl)) (pss_cons (ps_set (i := 6) sc_law_term.nd rfl (Or.inl rfl) (pe_def D_law_number (hr.mono (by first | decide | omega)) (by rfl) (pa_cons (pv 0) pa_nil)))
      (pss_cons (ps_set (i := 7) sc_law_term.nd rfl (Or.inl rfl) (pe_def D_law_draw (hr.mono (by first | decide | omega)) (by rfl) (pa_cons (pv 0) (pa_cons pe_int pa_nil))))
      (pss_one (ps_if (pw_and (pt_cmpR op_gt (pv 2) pe_int (nomark _)) (pw_and (pt_cmpR op_eq (pv 7) pe_int (nomark _)) (pw_and1 (pt_cmpR op_ne (pv 6) pe_int (nomark _))))).pt (pss_one (ps_expr (pe_bm PySem.F.plainAttrs_list PySem.F.slot_list_append PySem.F.type_list_append mt_append (pv 4) (pa_cons (pe_tup (pa_cons (pv 5) (pa_cons (pv 6) pa_nil))) pa_nil)))) pss_nil)))))
      (pss_one (ps_ret (pe_tup (pa_cons (pv 3) (pa_cons (pe_callTy call_tuple_of (by rfl) B.m_tuple (by decide +kernel) (pa_cons (pv 4) pa_nil)) pa_nil)))))))))), ?_⟩
  refine ⟨.ref p, rfl, p, _, rfl, hp, by decide, by decide, fun H1 way s1 p1 w0 w1 => ?_⟩
  have sm0 : Small 0 := by unfold Small; decide
  have sm1 : Small 1 := by unfold Small; decide
  refine ⟨.int way, rfl, rfl, _, rfl, ite2 (fun z => ⟨.int n, rfl, _, _, rfl, rfl, _, rfl, ite2 (fun z2 => ?_) (fun z2 => ?_)⟩) (fun z => iteF ?_)⟩
  · have h0 : (0 : Int) < n := of_decide_eq_true z2
    refine ⟨.ref p, rfl, .int n, rfl, p, n, rfl, p1, h0, by omega, fun H2 d s2 p2 d0 d1 => ?_⟩
    refine ⟨by show 2 ≤ sizeLine; decide, fun t1 ht1 => ⟨by show 1 ≤ sizeLine; decide, fun t2 ht2 => ⟨by show 2 ≤ sizeLine; decide, fun t3 ht3 => ?_⟩⟩⟩
    have e1 := same_upd (o := .tup [V.int d, .int 1]) ht1
    have e2 := same_upd (o := .tup [V.ref t1]) ht2
    have e3 := same_upd (o := .tup [V.int 0, .ref t2]) ht3
    have dt1 : Da K (L2.upd H2 t1 (.tup [V.int d, .int 1])) (.ref t1) (prD (d, 1)) := da_pr upd_same
    have dt2 : Da K (L2.upd (L2.upd H2 t1 (.tup [V.int d, .int 1])) t2 (.tup [V.ref t1])) (.ref t2) (ptD [(d, 1)]) := .tup upd_same (.cons (Da.same e2 _ _ dt1) .nil)
    have dt3 : Da K (L2.upd (L2.upd (L2.upd H2 t1 (.tup [V.int d, .int 1])) t2 (.tup [V.ref t1])) t3 (.tup [V.int 0, .ref t2])) (.ref t3) (tmD (0, [(d, 1)])) := da_tm upd_same (Da.same e3 _ _ dt2)
    refine q _ _ (0, [(d, 1)]) ((s1.trans s2).trans ((e1.trans e2).trans e3).b) (p2.same ((e1.trans e2).trans e3)) dt3 ⟨sm0, by show 1 ≤ 100; decide, fun x hx => ?_⟩
    rw [List.mem_singleton.mp hx]
    exact ⟨d0, d1, sm1⟩
  all_goals (
    refine ⟨.ref p, rfl, p, rfl, p1, fun H2 con s2 p2 hcon => ?_⟩
    refine ⟨by show 0 ≤ sizeLine; decide, fun F hF => ?_⟩
    have npF : p ≠ F := p2.ne hF
    have hF0 : H F = none := by
      cases h : H F with
      | none => rfl
      | some o =>
        rw [s2 _ _ npF.symm (s1 _ _ npF.symm h)] at hF
        cases hF
    refine ⟨.int n, rfl, n, rfl, by omega, by omega, ?_⟩
    refine for_range (lo := 0) (n := n) (fun i σ H' => ∃ (y5 y6 y7 : Option V) (acc : List V) (l : List (Int × Int)), σ = [some (.ref p), some (.int n), some (.int way), some (.int con), some (.ref F), y5, y6, y7] ∧ (∀ b o, b ≠ p → b ≠ F → H b = some o → H' b = some o) ∧ PurseAt H' p ∧ H' F = some (.lst acc) ∧ DaAll K H' acc (l.map prD) ∧ l.length ≤ i ∧ (∀ q ∈ l, 0 ≤ q.1 ∧ q.1 < (n : Int) ∧ Small q.2))
      ⟨none, none, none, [], [], rfl, fun b o n1 n2 ho => by rw [upd_ne n2]; exact s2 _ _ n1 (s1 _ _ n1 ho), p2.upd npF, upd_same, .nil, Nat.le_refl _, (fun q hq => nomatch hq)⟩ (fun i σ H' hi pv' => ?_) (fun σ H' pv' => ?_)
    · obtain ⟨y5, y6, y7, acc, l, rfl, e, pu, eF, hacc, hl, hok⟩ := pv'
      refine ⟨.ref p, rfl, p, rfl, pu, fun H3 fac s3 p3 hfac => ?_⟩
      refine ⟨.ref p, rfl, p, _, rfl, p3, by decide, by decide, fun H4 ask s4 p4 a0 a1 => ?_⟩
      have s34 := s3.trans s4
      have e4 : ∀ b o, b ≠ p → b ≠ F → H b = some o → H4 b = some o := fun b o n1 n2 ho => s34 _ _ n1 (e _ _ n1 n2 ho)
      have eF4 := s34 _ _ npF.symm eF
      have acc4 : DaAll K H4 acc (l.map prD) := Da.stAll (pu.st s34) _ _ (imm_prs l) hacc
      have done : ∃ (y5 y6 y7 : Option V) (acc : List V) (l : List (Int × Int)), [some (.ref p), some (V.int n), some (.int way), some (.int con), some (.ref F), some (.int (0 + (i : Int))), some (.int fac), some (.int ask)] = [some (.ref p), some (.int n), some (.int way), some (.int con), some (.ref F), y5, y6, y7] ∧ (∀ b o, b ≠ p → b ≠ F → H b = some o → H4 b = some o) ∧ PurseAt H4 p ∧ H4 F = some (.lst acc) ∧ DaAll K H4 acc (l.map prD) ∧ l.length ≤ i + 1 ∧ (∀ q ∈ l, 0 ≤ q.1 ∧ q.1 < (n : Int) ∧ Small q.2) := ⟨_, _, _, acc, l, rfl, e4, p4, eF4, acc4, by omega, hok⟩
      refine ⟨.int way, rfl, _, _, rfl, rfl, _, rfl, ite2 (fun _ => ?_) (fun _ => iteF done)⟩
      refine ⟨.int ask, rfl, rfl, _, rfl, ite2 (fun _ => ?_) (fun _ => iteF done)⟩
      refine ⟨.int fac, rfl, rfl, _, rfl, ite2 (fun _ => ?_) (fun _ => done)⟩
      refine ⟨.ref F, rfl, .inl ⟨rfl, _, SqL.of eF4⟩, .int (0 + (i : Int)), rfl, .int fac, rfl, by show 2 ≤ sizeLine; decide, fun u hu => ?_⟩
      have nFu : F ≠ u := ne_of_none eF4 hu
      have eFu : L2.upd H4 u (.tup [V.int (0 + (i : Int)), .int fac]) F = some (.lst acc) := by rw [upd_ne nFu]; exact eF4
      have st5 : ST K (L2.upd H4 u (.tup [V.int (0 + (i : Int)), .int fac])) (L2.upd (L2.upd H4 u (.tup [V.int (0 + (i : Int)), .int fac])) F (.lst (acc ++ [.ref u]))) := st_upd eFu True.intro
      have lacc : acc.length = l.length := by rw [hacc.length, List.length_map]
      refine ⟨F, _, _, rfl, rfl, eFu, Nat.lt_of_le_of_lt (show acc.length ≤ 100 by omega) (by decide), _, _, _, acc ++ [.ref u], l ++ [(0 + (i : Int), fac)], rfl, fun b o n1 n2 ho => ?_, (p4.upd (p4.ne hu)).upd npF, upd_same, ?_, by simp; omega, fun z hz => ?_⟩
      · rw [upd_ne n2]
        have := e4 _ _ n1 n2 ho
        rw [upd_ne (ne_of_none this hu)]
        exact this
      · rw [List.map_append]
        exact DaAll.snoc (Da.st st5 _ _ (imm_pr _) (da_pr upd_same)) (Da.stAll st5 _ _ (imm_prs l) (Da.sameAll (same_upd hu) _ _ acc4))
      · rcases List.mem_append.mp hz with hz | hz
        · exact hok z hz
        · rw [List.mem_singleton.mp hz]
          exact ⟨by show (0 : Int) ≤ 0 + (i : Int); omega, by show 0 + (i : Int) < n; omega, hfac⟩
    · obtain ⟨y5, y6, y7, acc, l, rfl, e, pu, eF, hacc, hl, hok⟩ := pv'
      refine ⟨.int con, rfl, .ref F, rfl, F, acc, rfl, .inl ⟨SqL.of eF, fun t1 ht1 => ?_⟩⟩
      refine ⟨by show 2 ≤ sizeLine; decide, fun t2 ht2 => ?_⟩
      have e1 := same_upd (o := .tup acc) ht1
      have e2 := same_upd (o := .tup [V.int con, .ref t1]) ht2
      have d1 : Da K (L2.upd H' t1 (.tup acc)) (.ref t1) (ptD l) := .tup upd_same (Da.sameAll e1 _ _ hacc)
      refine q _ _ (con, l) (fun b o nb ho => (e1.trans e2) _ _ (e _ _ nb (ne_of_none ho hF0) ho)) (pu.same (e1.trans e2)) (da_tm upd_same (Da.same e2 _ _ d1)) ⟨hcon, by show l.length ≤ 100; omega, hok⟩)
end
end K18

namespace K18
open PySem PySem.Spec PyProof.Rows L2 RW9 Tl
theorem lit6 {a b c d e f : Nat} (h : a ≤ 3 ∧ b ≤ 3 ∧ c ≤ 3 ∧ d ≤ 3 ∧ e ≤ 3 ∧ f ≤ 3) {j : Int} (h0 : 0 ≤ j) (h1 : j < 6) : ∃ m : Nat, atI [V.int a, .int b, .int c, .int d, .int e, .int f] j = some (.int m) ∧ m ≤ 3 := by
  obtain ⟨n, rfl⟩ := Int.eq_ofNat_of_zero_le h0
  have hn : n < 6 := by omega
  obtain ⟨ha, hb, hc, hd, he, hf⟩ := h
  match n, hn with
  | 0, _ => exact ⟨a, atI_nat (j := 0) rfl, ha⟩
  | 1, _ => exact ⟨b, atI_nat (j := 1) rfl, hb⟩
  | 2, _ => exact ⟨c, atI_nat (j := 2) rfl, hc⟩
  | 3, _ => exact ⟨d, atI_nat (j := 3) rfl, hd⟩
  | 4, _ => exact ⟨e, atI_nat (j := 4) rfl, he⟩
  | 5, _ => exact ⟨f, atI_nat (j := 5) rfl, hf⟩
section
variable {P : Program} {w : World} {K : PySem.W.Frag} {mg : Str → Option Value} {base : Heap} {C : Addr}
def spLTerms (K : PySem.W.Frag) : Sp := fun vs H Q _ => ∃ (p : Addr) (n : Nat), vs = [.ref p, .int n] ∧ PurseAt H p ∧ n ≤ 100 ∧ ∀ H' v ts, SameB p H H' → PurseAt H' p → Da K H' v (tsD ts) → ts.length ≤ 3 → (∀ t ∈ ts, TmOk n t) → Q v H'
theorem d_law_terms (B : Bt mg) (T : Top K mg "_law_terms" s_law_terms ["purse", "width"]) (D_law_draw : Def P w K mg base "_law_draw" 1 ["purse", "many"] spDraw) (D_law_term : Def P w K mg base "_law_term" 3 ["purse", "width"] (spLTerm K)) : Def P w K mg base "_law_terms" 4 ["purse", "width"] (spLTerms K) := by
  refine mk_def T sc_law_terms (by rintro _ _ _ _ ⟨_, _, rfl, _⟩; rfl) fun f cdv A outer s H vs Q E hr h => ?_
  obtain ⟨p, n, rfl, hp, hn, q⟩ := h
  refine ⟨_, (pss_one (ps_ret (pe_callTy call_tuple_of (by rfl) B.m_tuple (by decide +kernel) (pa_cons (pe_lc (own := [("at", 2)]) (g := (gName 2)) (tt := tYes) (te := (tCall (spLTerm K) [] E0 (tCons (tVar 0) (tCons (tVar 1) tNil)))) rfl sc_law_terms.nd (pi_range1 (by rfl) B.m_range (pa_cons (pe_ix ix_tup (pe_tup (pa_cons pe_int (pa_cons pe_int (pa_cons pe_int (pa_cons pe_int (pa_cons pe_int (pa_cons pe_int pa_nil))))))) (pe_def D_law_draw (hr.mono (by first | decide | omega)) (by rfl) (pa_cons (pv 0) (pa_cons pe_int pa_nil))) (fun _ _ => rfl)) pa_nil)) (blkOk_by (own := [("at", 2)]) (N := N_law_terms) (sc := defScope s_law_terms) (by decide +kernel)) (fun _ _ _ _ _ => (pg_name (i := 2) sc_law_terms.nd rfl (Or.inl rfl))) (fun _ _ _ _ _ => pts_nil) (fun _ _ _ _ _ => (pe_def D_law_term (hr.mono (by first | decide | omega)) (by rfl) (pa_cons (pv 0) (pa_cons (pv 1) pa_nil))))) pa_nil)))), ?_⟩
  refine ⟨by show 6 ≤ sizeLine; decide, fun t ht => ?_⟩
  have e0 := same_upd (o := .tup [V.int 0, .int 1, .int 1, .int 2, .int 2, .int 3]) ht
  refine ⟨.ref p, rfl, p, _, rfl, hp.same e0, by decide, by decide, fun H1 d s1 p1 d0 d1 => ?_⟩
  obtain ⟨m, hat, hm⟩ := lit6 (a := 0) (b := 1) (c := 1) (d := 2) (e := 2) (f := 3) (by decide) d0 d1
  have ht1 : H1 t = some (.tup [V.int 0, .int 1, .int 1, .int 2, .int 2, .int 3]) := (hp.same e0).st (K := K) s1 _ _ upd_same
  refine ⟨t, _, _, .int m, rfl, rfl, SqT.of ht1, hat, m, rfl, by omega, by omega, fun D hD => ?_⟩
  have npD : p ≠ D := p1.ne hD
  refine lc_range (lo := 0) (n := m) (fun j H2 => ∃ (acc : List V) (ts : List Tm), ts.length = j ∧ (∀ t ∈ ts, TmOk n t) ∧ H2 D = some (.lst acc) ∧ DaAll K H2 acc (ts.map tmD) ∧ (∀ b o, b ≠ p → H1 b = some o → H2 b = some o) ∧ PurseAt H2 p) ⟨[], [], rfl, (fun x hx => nomatch hx), upd_same, .nil, (fun b o _ ho => by rw [upd_ne (ne_of_none ho hD)]; exact ho), p1.upd npD⟩ (fun j H2 hj pv => ?_) (fun H2 pv => ?_)
  · obtain ⟨acc, ts, hl, hok, eD, hacc, e2, pu⟩ := pv
    refine ⟨rfl, .ref p, rfl, .int n, rfl, p, n, rfl, pu, hn, fun H3 v x s3 p3 hv hx => ?_⟩
    have eD3 := s3 _ _ npD.symm eD
    have st : ST K H3 (L2.upd H3 D (.lst (acc ++ [v]))) := st_upd eD3 True.intro
    have la : acc.length = ts.length := by rw [hacc.length, List.length_map]
    refine ⟨acc, eD3, Nat.lt_of_le_of_lt (show acc.length ≤ 3 by omega) (by decide), acc ++ [v], ts ++ [x], by simp [hl], fun y hy => ?_, upd_same, ?_, fun b o nb ho => ?_, p3.upd npD⟩
    · rcases List.mem_append.mp hy with hy | hy
      · exact hok y hy
      · rw [List.mem_singleton.mp hy]
        exact hx
    · rw [List.map_append]
      exact DaAll.snoc (Da.st st _ _ (imm_tm x) hv) (Da.stAll st _ _ (imm_tms ts) (Da.stAll (pu.st s3) _ _ (imm_tms ts) hacc))
    · rw [upd_ne (ne_of_none ho hD)]
      exact s3 _ _ nb (e2 _ _ nb ho)
  · obtain ⟨acc, ts, hl, hok, eD, hacc, e2, pu⟩ := pv
    refine ⟨D, acc, rfl, .inl ⟨SqL.of eD, fun t1 ht1 => ?_⟩⟩
    have e3 := same_upd (o := .tup acc) ht1
    exact q _ _ ts (fun b o nb ho => e3 _ _ (e2 _ _ nb (s1 _ _ nb (e0 _ _ ho)))) (pu.same e3) (.tup upd_same (Da.sameAll e3 _ _ hacc)) (by omega) hok
structure TsOk (n : Nat) (x : Tst) : Prop where
  l : TmOk n x.l
  k : x.k < 4
  r : TmOk n x.r
theorem op_at {j : Int} (h0 : 0 ≤ j) (h1 : j < 4) : ∃ k : Nat, atI [V.str "=", .str "!=", .str "<", .str "<="] j = some (.str (opS k)) ∧ k < 4 := by
  obtain ⟨n, rfl⟩ := Int.eq_ofNat_of_zero_le h0
  have hn : n < 4 := by omega
  match n, hn with
  | 0, _ => exact ⟨0, atI_nat (j := 0) rfl, by decide⟩
  | 1, _ => exact ⟨1, atI_nat (j := 1) rfl, by decide⟩
  | 2, _ => exact ⟨2, atI_nat (j := 2) rfl, by decide⟩
  | 3, _ => exact ⟨3, atI_nat (j := 3) rfl, by decide⟩
def spLTests (K : PySem.W.Frag) : Sp := fun vs H Q _ => ∃ (p : Addr) (n : Nat), vs = [.ref p, .int n] ∧ PurseAt H p ∧ n ≤ 100 ∧ ∀ H' v ts, SameB p H H' → PurseAt H' p → Da K H' v (tstsD ts) → ts.length ≤ 3 → (∀ t ∈ ts, TsOk n t) → Q v H'
theorem d_law_tests (B : Bt mg) (T : Top K mg "_law_tests" s_law_tests ["purse", "width"]) (D_law_draw : Def P w K mg base "_law_draw" 1 ["purse", "many"] spDraw) (D_law_term : Def P w K mg base "_law_term" 3 ["purse", "width"] (spLTerm K)) : Def P w K mg base "_law_tests" 4 ["purse", "width"] (spLTests K) := by
  refine mk_def T sc_law_tests (by rintro _ _ _ _ ⟨_, _, rfl, _⟩; rfl) fun f cdv A outer s H vs Q E hr h => ?_
  obtain ⟨p, n, rfl, hp, hn, q⟩ := h
  refine ⟨_, (pss_cons (ps_set (i := 2) sc_law_tests.nd rfl (Or.inl rfl) (pe_lst pa_nil))
      (pss_cons (ps_for PassesOwn.never rfl (pi_range1 (by rfl) B.m_range (pa_cons (pe_ix ix_tup (pe_tup (pa_cons pe_int (pa_cons pe_int (pa_cons pe_int (pa_cons pe_int (pa_cons pe_int (pa_cons pe_int pa_nil))))))) (pe_def D_law_draw (hr.mono (by first | decide | omega)) (by rfl) (pa_cons (pv 0) (pa_cons pe_int pa_nil))) (fun _ _ => rfl)) pa_nil)) (pg_name (i := 3) sc_law_tests.nd rfl (Or.inl rfl)) (pss_cons (ps_set (i := 4) sc_law_tests.nd rfl (Or.inl rfl) (pe_def D_law_term (hr.mono (by first | decide | omega)) (by rfl) (pa_cons (pv 0) (pa_cons (pv 1) pa_nil))))
      (pss_cons (ps_set (i := 5) sc_law_tests.nd rfl (Or.inl rfl) (pe_ix ix_tup (pe_tup (pa_cons pe_str (pa_cons pe_str (pa_cons pe_str (pa_cons pe_str pa_nil))))) (pe_def D_law_draw (hr.mono (by first | decide | omega)) (by rfl) (pa_cons (pv 0) (pa_cons pe_int pa_nil))) (fun _ _ => rfl)))
      (pss_one (ps_expr (pe_bm PySem.F.plainAttrs_list PySem.F.slot_list_append PySem.F.type_list_append mt_append (pv 2) (pa_cons (pe_tup (pa_cons (pv 4) (pa_cons (pv 5) (pa_cons (pe_def D_law_term (hr.mono (by first | decide | omega)) (by rfl) (pa_cons (pv 0) (pa_cons (pv 1) pa_nil))) pa_nil)))) pa_nil)))))))
      (pss_one (ps_ret (pe_callTy call_tuple_of (by rfl) B.m_tuple (by decide +kernel) (pa_cons (pv 2) pa_nil)))))), ?_⟩
  refine ⟨by show 0 ≤ sizeLine; decide, fun F hF => ?_⟩
  have npF := hp.ne hF
  have eF0 := same_upd (o := .lst []) hF
  have fF : L2.upd H F (.lst []) F = some (.lst []) := upd_same
  have pF := hp.upd (o := .lst []) npF
  generalize L2.upd H F (.lst []) = H0 at eF0 fF pF ⊢
  refine ⟨by show 6 ≤ sizeLine; decide, fun t ht => ?_⟩
  have e0 := same_upd (o := .tup [V.int 0, .int 1, .int 1, .int 1, .int 2, .int 3]) ht
  refine ⟨.ref p, rfl, p, _, rfl, pF.same e0, by decide, by decide, fun H1 d s1 p1 d0 d1 => ?_⟩
  obtain ⟨m, hat, hm⟩ := lit6 (a := 0) (b := 1) (c := 1) (d := 1) (e := 2) (f := 3) (by decide) d0 d1
  have ht1 : H1 t = some (.tup [V.int 0, .int 1, .int 1, .int 1, .int 2, .int 3]) := (pF.same e0).st (K := K) s1 _ _ upd_same
  have fF1 : H1 F = some (.lst []) := s1 _ _ npF.symm (e0 _ _ fF)
  refine ⟨t, _, _, .int m, rfl, rfl, SqT.of ht1, hat, m, rfl, by omega, by omega, ?_⟩
  refine for_range (lo := 0) (n := m) (fun i σ H' => ∃ (y3 y4 y5 : Option V) (acc : List V) (ts : List Tst), σ = [some (.ref p), some (.int n), some (.ref F), y3, y4, y5] ∧ ts.length = i ∧ (∀ t ∈ ts, TsOk n t) ∧ H' F = some (.lst acc) ∧ DaAll K H' acc (ts.map tstD) ∧ (∀ b o, b ≠ p → b ≠ F → H b = some o → H' b = some o) ∧ PurseAt H' p)
    ⟨none, none, none, [], [], rfl, rfl, (fun x hx => nomatch hx), fF1, .nil, (fun b o n1 n2 ho => s1 _ _ n1 (e0 _ _ (eF0 _ _ ho))), p1⟩ (fun i σ H' hi pv' => ?_) (fun σ H' pv' => ?_)
  · obtain ⟨y3, y4, y5, acc, ts, rfl, hl, hok, eF, hacc, e, pu⟩ := pv'
    refine ⟨.ref p, rfl, .int n, rfl, p, n, rfl, pu, hn, fun H2 u1 x1 s2 p2 hd1 hx1 => ?_⟩
    refine ⟨by show 4 ≤ sizeLine; decide, fun t4 ht4 => ?_⟩
    have e4 := same_upd (o := .tup [V.str "=", .str "!=", .str "<", .str "<="]) ht4
    refine ⟨.ref p, rfl, p, _, rfl, p2.same e4, by decide, by decide, fun H3 d3 s3 p3 g0 g1 => ?_⟩
    obtain ⟨k, hk, hk4⟩ := op_at g0 g1
    have ht5 : H3 t4 = some (.tup [V.str "=", .str "!=", .str "<", .str "<="]) := (p2.same e4).st (K := K) s3 _ _ upd_same
    refine ⟨t4, _, _, .str (opS k), rfl, rfl, SqT.of ht5, hk, ?_⟩
    have s23 : SameB p H' H3 := (s2.trans e4.b).trans s3
    have st23 : ST K H' H3 := pu.st s23
    have st3 : ST K H2 H3 := p2.st (e4.b.trans s3)
    have eF3 := s23 _ _ npF.symm eF
    refine ⟨.ref F, rfl, .inl ⟨rfl, _, SqL.of eF3⟩, u1, rfl, .str (opS k), rfl, .ref p, rfl, .int n, rfl, p, n, rfl, p3, hn, fun H4 u2 x2 s4 p4 hd2 hx2 => ?_⟩
    refine ⟨by show 3 ≤ sizeLine; decide, fun u hu => ?_⟩
    have eF4 := s4 _ _ npF.symm eF3
    have nFu : F ≠ u := ne_of_none eF4 hu
    have eu := same_upd (o := .tup [u1, .str (opS k), u2]) hu
    have eFu := eu _ _ eF4
    have st4 : ST K H' H4 := st23.trans (p3.st s4)
    have st5 : ST K (L2.upd H4 u (.tup [u1, .str (opS k), u2])) (L2.upd (L2.upd H4 u (.tup [u1, .str (opS k), u2])) F (.lst (acc ++ [.ref u]))) := st_upd eFu True.intro
    have dx : Da K (L2.upd H4 u (.tup [u1, .str (opS k), u2])) (.ref u) (tstD ⟨x1, k, x2⟩) := .tup upd_same (.cons (Da.same eu _ _ (Da.st (st3.trans (p3.st s4)) _ _ (imm_tm x1) hd1)) (.cons (.str _) (.cons (Da.same eu _ _ hd2) .nil)))
    have la : acc.length = ts.length := by rw [hacc.length, List.length_map]
    refine ⟨F, _, _, rfl, rfl, eFu, Nat.lt_of_le_of_lt (show acc.length ≤ 3 by omega) (by decide), _, _, _, acc ++ [.ref u], ts ++ [⟨x1, k, x2⟩], rfl, by simp [hl], fun y hy => ?_, upd_same, ?_, fun b o n1 n2 ho => ?_, (p4.upd (p4.ne hu)).upd npF⟩
    · rcases List.mem_append.mp hy with hy | hy
      · exact hok y hy
      · rw [List.mem_singleton.mp hy]
        exact ⟨hx1, hk4, hx2⟩
    · rw [List.map_append]
      exact DaAll.snoc (Da.st st5 _ _ (imm_tst _) dx) (Da.stAll st5 _ _ (imm_tsts ts) (Da.sameAll eu _ _ (Da.stAll st4 _ _ (imm_tsts ts) hacc)))
    · rw [upd_ne n2]
      exact eu _ _ (s4 _ _ n1 (s23 _ _ n1 (e _ _ n1 n2 ho)))
  · obtain ⟨y3, y4, y5, acc, ts, rfl, hl, hok, eF, hacc, e, pu⟩ := pv'
    refine ⟨.ref F, rfl, F, acc, rfl, .inl ⟨SqL.of eF, fun t1 ht1 => ?_⟩⟩
    have e3 := same_upd (o := .tup acc) ht1
    exact q _ _ ts (fun b o nb ho => e3 _ _ (e _ _ nb (ne_of_none ho hF) ho)) (pu.same e3) (.tup upd_same (Da.sameAll e3 _ _ hacc)) (by omega) hok
end
end K18

namespace K18
open PySem PySem.Spec PyProof.Rows L2 RW9 Tl
section
variable {P : Program} {w : World} {K : PySem.W.Frag} {mg : Str → Option Value} {base : Heap} {C : Addr}
def ColsOk (l r : Nat) (cols : List (Int × Int)) : Prop := ∀ q ∈ cols, (0 ≤ q.1 ∧ q.1 < (l : Int)) ∧ 0 ≤ q.2 ∧ q.2 < (r : Int)
def spLCols (K : PySem.W.Frag) : Sp := fun vs H Q _ => ∃ (p : Addr) (l r : Nat), vs = [.ref p, .int l, .int r] ∧ PurseAt H p ∧ l ≤ 1000 ∧ r ≤ 1000 ∧ ∀ H' v cols, SameB p H H' → PurseAt H' p → Da K H' v (ptD cols) → cols.length ≤ 3 → ColsOk l r cols → Q v H'
theorem d_law_columns (B : Bt mg) (T : Top K mg "_law_columns" s_law_columns ["purse", "left", "right"]) (D_law_draw : Def P w K mg base "_law_draw" 1 ["purse", "many"] spDraw) : Def P w K mg base "_law_columns" 2 ["purse", "left", "right"] (spLCols K) := by
  refine mk_def T sc_law_columns (by rintro _ _ _ _ ⟨_, _, _, rfl, _⟩; rfl) fun f cdv A outer s H vs Q E hr h => ?_
  obtain ⟨p, l, r, rfl, hp, hl, hr2, q⟩ := h
  refine ⟨_, (pss_cons (ps_set (i := 3) sc_law_columns.nd rfl (Or.inl rfl) (pe_ix ix_tup (pe_tup (pa_cons pe_int (pa_cons pe_int (pa_cons pe_int (pa_cons pe_int (pa_cons pe_int (pa_cons pe_int pa_nil))))))) (pe_def D_law_draw (hr.mono (by first | decide | omega)) (by rfl) (pa_cons (pv 0) (pa_cons pe_int pa_nil))) (fun _ _ => rfl)))
      (pss_cons (ps_if (pw_or (pt_cmpR op_eq (pv 1) pe_int (nomark _)) (pw_or1 (pt_cmpR op_eq (pv 2) pe_int (nomark _)))).pt (pss_one (ps_ret (pe_tup pa_nil))) pss_nil)
      (pss_one (ps_ret (pe_callTy call_tuple_of (by rfl) B.m_tuple (by decide +kernel) (pa_cons (pe_lc (own := [("at", 4)]) (g := (gName 4)) (tt := tYes) (te := (tTup (tCons (tCall spDraw [] E0 (tCons (tVar 0) (tCons (tVar 1) tNil))) (tCons (tCall spDraw [] E0 (tCons (tVar 0) (tCons (tVar 2) tNil))) tNil)))) rfl sc_law_columns.nd (pi_range1 (by rfl) B.m_range (pa_cons (pv 3) pa_nil)) (blkOk_by (own := [("at", 4)]) (N := N_law_columns) (sc := defScope s_law_columns) (by decide +kernel)) (fun _ _ _ _ _ => (pg_name (i := 4) sc_law_columns.nd rfl (Or.inl rfl))) (fun _ _ _ _ _ => pts_nil) (fun _ _ _ _ _ => (pe_tup (pa_cons (pe_def D_law_draw (hr.mono (by first | decide | omega)) (by rfl) (pa_cons (pv 0) (pa_cons (pv 1) pa_nil))) (pa_cons (pe_def D_law_draw (hr.mono (by first | decide | omega)) (by rfl) (pa_cons (pv 0) (pa_cons (pv 2) pa_nil))) pa_nil))))) pa_nil)))))), ?_⟩
  refine ⟨by show 6 ≤ sizeLine; decide, fun t ht => ?_⟩
  have e0 := same_upd (o := .tup [V.int 0, .int 1, .int 1, .int 1, .int 2, .int 3]) ht
  refine ⟨.ref p, rfl, p, _, rfl, hp.same e0, by decide, by decide, fun H1 d s1 p1 d0 d1 => ?_⟩
  obtain ⟨m, hat, hm⟩ := lit6 (a := 0) (b := 1) (c := 1) (d := 1) (e := 2) (f := 3) (by decide) d0 d1
  have ht1 : H1 t = some (.tup [V.int 0, .int 1, .int 1, .int 1, .int 2, .int 3]) := (hp.same e0).st (K := K) s1 _ _ upd_same
  have s01 : SameB p H H1 := e0.b.trans s1
  refine ⟨t, _, _, .int m, rfl, rfl, SqT.of ht1, hat, ?_⟩
  have none' : ∀ (Q2 : VK), (∀ H' v cols, SameB p H H' → PurseAt H' p → Da K H' v (ptD cols) → cols.length ≤ 3 → ColsOk l r cols → Q2 v H') → ∀ u, H1 u = none → Q2 (.ref u) (L2.upd H1 u (.tup [])) := fun Q2 h u hu => h _ _ [] (s01.trans (same_upd hu).b) (p1.same (same_upd hu)) (.tup upd_same .nil) (by decide) (fun q hq => nomatch hq)
  refine ⟨.int l, rfl, rfl, _, rfl, ?_⟩
  rw [show decide (V.int (l : Int) = V.int 0) = decide ((l : Int) = 0) by simp]
  refine ite2 (fun z => iteT ⟨by show 0 ≤ sizeLine; decide, fun u hu => none' Q q u hu⟩) (fun z => ⟨.int r, rfl, rfl, _, rfl, ?_⟩)
  rw [show decide (V.int (r : Int) = V.int 0) = decide ((r : Int) = 0) by simp]
  refine ite2 (fun z2 => ⟨by show 0 ≤ sizeLine; decide, fun u hu => none' Q q u hu⟩) (fun z2 => ?_)
  have l0 : (0 : Int) < l := by
    have : ¬ (l : Int) = 0 := fun y => z (decide_eq_true y)
    omega
  have r0 : (0 : Int) < r := by
    have : ¬ (r : Int) = 0 := fun y => z2 (decide_eq_true y)
    omega
  refine ⟨.int m, rfl, m, rfl, by omega, by omega, fun D hD => ?_⟩
  have npD : p ≠ D := p1.ne hD
  refine lc_range (lo := 0) (n := m) (fun j H2 => ∃ (acc : List V) (cs : List (Int × Int)), cs.length = j ∧ ColsOk l r cs ∧ H2 D = some (.lst acc) ∧ DaAll K H2 acc (cs.map prD) ∧ (∀ b o, b ≠ p → H1 b = some o → H2 b = some o) ∧ PurseAt H2 p) ⟨[], [], rfl, (fun x hx => nomatch hx), upd_same, .nil, (fun b o _ ho => by rw [upd_ne (ne_of_none ho hD)]; exact ho), p1.upd npD⟩ (fun j H2 hj pv => ?_) (fun H2 pv => ?_)
  · obtain ⟨acc, cs, hlc, hok, eD, hacc, e2, pu⟩ := pv
    refine ⟨rfl, .ref p, rfl, .int l, rfl, p, l, rfl, pu, l0, by omega, fun H3 x s3 p3 x0 x1 => ?_⟩
    refine ⟨.ref p, rfl, .int r, rfl, p, r, rfl, p3, r0, by omega, fun H4 y s4 p4 y0 y1 => ?_⟩
    refine ⟨by show 2 ≤ sizeLine; decide, fun u hu => ?_⟩
    have s34 := s3.trans s4
    have eD4 := s34 _ _ npD.symm eD
    have eu := same_upd (o := .tup [V.int x, .int y]) hu
    have eDu := eu _ _ eD4
    have st : ST K (L2.upd H4 u (.tup [V.int x, .int y])) (L2.upd (L2.upd H4 u (.tup [V.int x, .int y])) D (.lst (acc ++ [.ref u]))) := st_upd eDu True.intro
    have la : acc.length = cs.length := by rw [hacc.length, List.length_map]
    refine ⟨acc, eDu, Nat.lt_of_le_of_lt (show acc.length ≤ 3 by omega) (by decide), acc ++ [.ref u], cs ++ [(x, y)], by simp [hlc], fun z hz => ?_, upd_same, ?_, fun b o nb ho => ?_, (p4.upd (p4.ne hu)).upd npD⟩
    · rcases List.mem_append.mp hz with hz | hz
      · exact hok z hz
      · rw [List.mem_singleton.mp hz]
        exact ⟨⟨x0, x1⟩, y0, y1⟩
    · rw [List.map_append]
      exact DaAll.snoc (Da.st st _ _ (imm_pr _) (da_pr upd_same)) (Da.stAll st _ _ (imm_prs cs) (Da.sameAll eu _ _ (Da.stAll (pu.st s34) _ _ (imm_prs cs) hacc)))
    · rw [upd_ne (ne_of_none ho hD)]
      exact eu _ _ (s34 _ _ nb (e2 _ _ nb ho))
  · obtain ⟨acc, cs, hlc, hok, eD, hacc, e2, pu⟩ := pv
    refine ⟨D, acc, rfl, .inl ⟨SqL.of eD, fun t1 ht1 => ?_⟩⟩
    have e3 := same_upd (o := .tup acc) ht1
    exact q _ _ cs (fun b o nb ho => e3 _ _ (e2 _ _ nb (s01 _ _ nb ho))) (pu.same e3) (.tup upd_same (Da.sameAll e3 _ _ hacc)) (by omega) hok
end
end K18

namespace K18
open PySem PySem.Spec PyProof.Rows L2 RW9 Tl
theorem cutV_map {α : Type} (f : α → V) (l : List α) (lo hi : Option Int) : ∃ m : List α, cutV (l.map f) lo hi = m.map f := by
  refine ⟨(l.drop (HT.sIx (l.map f).length 0 lo)).take (HT.sIx (l.map f).length (l.map f).length hi - HT.sIx (l.map f).length 0 lo), ?_⟩
  unfold cutV
  rw [← List.map_drop, ← List.map_take]
theorem seqL_same {K : PySem.W.Frag} {H H' : Hp} {a : Addr} {xs : List V} (e : Same H H') (h : SqL K H a xs) : SqL K H' a xs := by
  rcases h with (h | ⟨o, h⟩) | h
  · exact .inl (.inl (e _ _ h))
  · exact .inl (.inr ⟨o, e _ _ h⟩)
  · exact .inr h
section
variable {P : Program} {w : World} {K : PySem.W.Frag} {mg : Str → Option Value} {base : Heap} {C : Addr}
theorem d_law_integer (B : Bt mg) (T : Top K mg "_law_integer" s_law_integer ["value"]) : Def P w K mg base "_law_integer" 1 ["value"] spIsNumber := by
  refine mk_def T sc_law_integer (by rintro _ _ _ _ ⟨i, rfl, _⟩; rfl) fun f cdv A outer s H vs Q E hr h => ?_
  obtain ⟨i, rfl, q⟩ := h
  refine ⟨_, (pss_one (ps_ret (pe_and (pe_callB call_isi (by rfl) B.m_isinstance (by decide +kernel) (pa_cons (pv 0) (pa_cons (pe_bltn (v := .ty "int") (by rfl) B.m_int (by decide +kernel) rfl) pa_nil))) (pe_one (pe_not (pe_callB call_isi (by rfl) B.m_isinstance (by decide +kernel) (pa_cons (pv 0) (pa_cons (pe_bltn (v := .ty "bool") (by rfl) B.m_bool (by decide +kernel) rfl) pa_nil)))))))), ?_⟩
  refine ⟨.int i, rfl, _, _, .type "int", .type "int", true, rfl, .ty _, .base (.int i), kit_ty (by decide +kernel), _, rfl, ?_⟩
  refine ⟨.int i, rfl, _, _, .type "int", .type "bool", false, rfl, .ty _, .base (.int i), kit_ty (by decide +kernel), _, rfl, ?_⟩
  exact q H (Same.refl _)
def spPurse (K : PySem.W.Frag) : Sp := fun vs H Q _ => ∃ (a : Addr) (ns : List Int) (k : Nat), vs = [.ref a, .int k] ∧ SqL K H a (ns.map V.int) ∧ k ≤ 100 ∧ ∀ H' p, Same H H' → H p = none → PurseAt H' p → Q (.ref p) H'
theorem d_law_purse (B : Bt mg) (T : Top K mg "_law_purse" s_law_purse ["script", "k"]) : Def P w K mg base "_law_purse" 1 ["script", "k"] (spPurse K) := by
  refine mk_def T sc_law_purse (by rintro _ _ _ _ ⟨_, _, _, rfl, _⟩; rfl) fun f cdv A outer s H vs Q E hr h => ?_
  obtain ⟨a, ns, k, rfl, ha, hk, q⟩ := h
  refine ⟨_, (pss_cons (ps_set (i := 2) sc_law_purse.nd rfl (Or.inl rfl) (pe_op op_add (pe_op op_add (pe_op op_mod (pe_callTy call_int1 (by rfl) B.m_int (by decide +kernel) (pa_cons (pe_callB (cr_sum rfl) (by rfl) B.m_sum (by decide +kernel) (pa_cons (pe_slice sl_list (pv 0) po_none (po_some pe_int)) pa_nil)) pa_nil)) pe_int) (pe_op op_mul pe_int (pv 1))) pe_int))
      (Evl.pss_cut (ps_if (pt_cmpR op_lt (pv 1) (pe_callB call_len_seq (by rfl) B.m_len PySem.boot_len (pa_cons (pv 0) pa_nil)) (nomark _)) (pss_one (ps_set (i := 2) sc_law_purse.nd rfl (Or.inl rfl) (pe_ix ix_list (pv 0) (pv 1) (fun _ _ => rfl)))) pss_nil)
      (pss_cons (ps_if (pt_cmpR op_ge (pv 2) (pe_op op_pow pe_int pe_int) (nomark _)) (pss_one (ps_ret (pe_lst (pa_cons (pv 2) (pa_cons (pe_op op_add (pe_op op_mul pe_int (pv 1)) pe_int) (pa_cons (pe_op op_add (pv 1) pe_int) pa_nil)))))) pss_nil)
      (pss_cons (ps_set (i := 2) sc_law_purse.nd rfl (Or.inl rfl) (pe_op op_add (pe_op op_mul pe_int (pe_callB call_abs (by rfl) B.m_abs (by decide +kernel) (pa_cons (pv 2) pa_nil))) (pe_callTy call_int1 (by rfl) B.m_int (by decide +kernel) (pa_cons (pe_cmpR op_lt (pv 2) pe_int (nomark _)) pa_nil))))
      (pss_cons (ps_set (i := 3) sc_law_purse.nd rfl (Or.inl rfl) (pe_op op_mod (pe_callTy call_int1 (by rfl) B.m_int (by decide +kernel) (pa_cons (pe_op op_add (pe_op op_add (pe_op op_mul (pv 2) pe_int) (pe_op op_mul (pv 1) pe_int)) pe_int) pa_nil)) pe_int))
      (pss_cons (ps_set (i := 4) sc_law_purse.nd rfl (Or.inl rfl) (pe_op op_mod (pe_callTy call_int1 (by rfl) B.m_int (by decide +kernel) (pa_cons (pe_op op_add (pe_op op_add (pe_op op_mul (pv 2) pe_int) (pe_op op_mul (pv 1) pe_int)) pe_int) pa_nil)) pe_int))
      (pss_one (ps_ret (pe_lst (pa_cons pe_int (pa_cons (pv 3) (pa_cons (pv 4) pa_nil)))))))))))), ?_⟩
  obtain ⟨ms, hms⟩ := cutV_map V.int ns none (some 2)
  refine ⟨.ref a, rfl, 2, rfl, a, _, rfl, ha, fun p hp => ?_⟩
  rw [hms]
  have e0 := same_upd (o := .lst (ms.map V.int)) hp
  have fin : ∀ H' r, Same H H' → H' r = none → ∀ x y z : Int, 0 ≤ x → 0 ≤ y → 0 ≤ z → Q (.ref r) (L2.upd H' r (.lst [.int x, .int y, .int z])) := fun H' r e hr x y z hx hy hz =>
    q _ r (e.trans (same_upd hr)) (e.new hr) ⟨x, y, z, upd_same, hx, hy, hz⟩
  refine ⟨p, ms, rfl, SqL.of upd_same, .inl ⟨_, rfl, _, _, rfl, rfl, (by show (0:Int) < _; decide), .int k, rfl, _, _, rfl, rfl, .inl ⟨by decide, by decide⟩, _, _, rfl, rfl, _, _, rfl, rfl, ?_⟩⟩
  generalize L2.upd H p (.lst (ms.map V.int)) = H1 at e0 ⊢
  have ha1 : SqL K H1 a (ns.map V.int) := seqL_same e0 ha
  refine ⟨fun σ' H' => ∃ c : Int, σ' = [some (.ref a), some (.int k), some (.int c), none, none] ∧ H' = H1, ?_, ?_⟩
  · refine ⟨.int k, rfl, .ref a, rfl, a, _, rfl, .inl ha1, _, _, rfl, rfl, _, rfl, ite2 (fun z => ?_) (fun z => ⟨_, rfl, rfl⟩)⟩
    have hk2 : k < ns.length := by
      have := of_decide_eq_true z
      rw [List.length_map] at this
      omega
    refine ⟨.ref a, rfl, .int k, rfl, a, _, _, .int ns[k], rfl, rfl, ha1, atI_nat (by rw [List.getElem?_map, List.getElem?_eq_getElem hk2]; rfl), _, rfl, rfl⟩
  rintro σ' H' ⟨c, rfl, rfl⟩
  refine ⟨.int c, rfl, _, _, rfl, rfl, ⟨by decide, by decide, by decide⟩, _, _, rfl, rfl, _, rfl, ite2 (fun z => ?_) (fun z => ?_)⟩
  · have hc : (1000000000000000000 : Int) ≤ c := of_decide_eq_true z
    refine ⟨.int c, rfl, .int k, rfl, _, _, rfl, rfl, .inl ⟨by decide, by decide⟩, _, _, rfl, rfl, .int k, rfl, _, _, rfl, rfl, by show 3 ≤ sizeLine; decide, fun r hr => fin _ _ e0 hr _ _ _ (by omega) (by omega) (by omega)⟩
  refine ⟨.int c, rfl, _, rfl, _, _, rfl, rfl, .inl ⟨by decide, by decide⟩, .int c, rfl, _, _, rfl, rfl, .inr ⟨_, rfl, _, _, rfl, rfl, ?_⟩⟩
  refine ⟨_, rfl, _, _, rfl, rfl, .inr ⟨by decide, by decide⟩, .int k, rfl, _, _, rfl, rfl, .inr ⟨by decide, by decide⟩, _, _, rfl, rfl, _, _, rfl, rfl, .inl ⟨_, rfl, _, _, rfl, rfl, (by show (0:Int) < _; decide), ?_⟩⟩
  refine ⟨_, rfl, _, _, rfl, rfl, .inr ⟨by decide, by decide⟩, .int k, rfl, _, _, rfl, rfl, .inr ⟨by decide, by decide⟩, _, _, rfl, rfl, _, _, rfl, rfl, .inl ⟨_, rfl, _, _, rfl, rfl, (by show (0:Int) < _; decide), ?_⟩⟩
  exact ⟨_, rfl, _, rfl, by show 3 ≤ sizeLine; decide, fun r hr => fin _ _ e0 hr _ _ _ (by decide) (Int.emod_nonneg _ (by decide)) (Int.emod_nonneg _ (by decide))⟩
end
end K18

namespace K18
open PySem PySem.Spec PyProof.Rows L2 RW9 Tl
theorem glue_len (ys : List Str) : (Txt.join (Str.ofString "") ys).length = (ys.map (·.length)).sum := by
  rw [show Txt.join (Str.ofString "") ys = Str.join (Str.ofString "") ys from TL.join_eq _ _]
  induction ys with
  | nil => rfl
  | cons x r ih =>
    cases r with
    | nil => simp [Str.join]
    | cons y r =>
      rw [List.map_cons, List.sum_cons, ← ih]
      show (x ++ Str.ofString "" ++ Str.join (Str.ofString "") (y :: r)).length = _
      rw [strLen_append, strLen_append]
      have : (Str.ofString "").length = 0 := rfl
      omega
/-- each sign is one of Unicode's -/
def okS (x : Str) : Bool := x.cps.toList.all (· < 0x110000)
theorem ok_cat (x y : Str) : okS (x ++ y) = (okS x && okS y) := by
  unfold okS
  rw [show (x ++ y).cps = x.cps ++ y.cps from rfl, Array.toList_append, List.all_append]
theorem ok_glue (ys : List Str) (h : ∀ y ∈ ys, okS y = true) : okS (Txt.join (Str.ofString "") ys) = true := by
  rw [show Txt.join (Str.ofString "") ys = Str.join (Str.ofString "") ys from TL.join_eq _ _]
  induction ys with
  | nil => rfl
  | cons x r ih =>
    cases r with
    | nil => exact h x (List.mem_cons_self ..)
    | cons y r =>
      show okS (x ++ Str.ofString "" ++ Str.join (Str.ofString "") (y :: r)) = true
      rw [ok_cat, ok_cat, h x (List.mem_cons_self ..), ih fun z hz => h z (List.mem_cons_of_mem _ hz)]
      rfl
/-- one of the seven names is none of the two that are taken -/
theorem free_name (x : Str) (hx : okS x = true) (names : List Str) (hn : names.length ≤ 2) : ∃ n, (([x, "q", "edge", "zz'", "wide", "up", "far'"] : List Str).filter fun y => decide (y ∉ names))[0]? = some n ∧ n ∉ names ∧ okS n = true := by
  have h : ∃ n, (([x, "q", "edge", "zz'", "wide", "up", "far'"] : List Str).filter fun y => decide (y ∉ names))[0]? = some n := by
    have : ∃ y ∈ ([x, "q", "edge", "zz'", "wide", "up", "far'"] : List Str), y ∉ names := by
      by_cases h1 : ("q" : Str) ∈ names
      · by_cases h2 : ("edge" : Str) ∈ names
        · by_cases h3 : ("zz'" : Str) ∈ names
          · exfalso
            match names, hn with
            | [], _ => cases h1
            | [u], _ => exact absurd ((List.mem_singleton.mp h1).trans (List.mem_singleton.mp h2).symm) (by decide)
            | [u, v], _ =>
              simp only [List.mem_cons, List.not_mem_nil, or_false] at h1 h2 h3
              rcases h1 with h1 | h1 <;> rcases h2 with h2 | h2 <;> rcases h3 with h3 | h3 <;> first | exact absurd (h1.trans h2.symm) (by decide) | exact absurd (h1.trans h3.symm) (by decide) | exact absurd (h2.trans h3.symm) (by decide)
          · exact ⟨_, by simp, h3⟩
        · exact ⟨_, by simp, h2⟩
      · exact ⟨_, by simp, h1⟩
    obtain ⟨y, hy, hny⟩ := this
    have hm : y ∈ (([x, "q", "edge", "zz'", "wide", "up", "far'"] : List Str).filter fun y => decide (y ∉ names)) := List.mem_filter.mpr ⟨hy, decide_eq_true hny⟩
    generalize (([x, "q", "edge", "zz'", "wide", "up", "far'"] : List Str).filter fun y => decide (y ∉ names)) = l at hm ⊢
    cases l with
    | nil => cases hm
    | cons z l => exact ⟨z, rfl⟩
  obtain ⟨n, e⟩ := h
  have hm := List.mem_filter.mp (List.mem_of_getElem? e)
  refine ⟨n, e, of_decide_eq_true hm.2, ?_⟩
  rcases List.mem_cons.mp hm.1 with rfl | h
  · exact hx
  · have : ∀ z ∈ (["q", "edge", "zz'", "wide", "up", "far'"] : List Str), okS z = true := by decide
    exact this n h
theorem inV_strs (z : Str) (l : List Str) : inV (.str z) (l.map V.str) = decide (z ∈ l) := by
  unfold inV
  induction l with
  | nil => rfl
  | cons y l ih =>
    rw [List.map_cons, List.any_cons, ih]
    by_cases h : z = y
    · subst h
      simp [eqV]
    · have : eqV (.str y) (.str z) = false := by simp [eqV]; exact fun e => h e.symm
      rw [this]
      simp [h]
theorem filt_range (l : List Str) (g : Str → Bool) : ((List.range l.length).filter fun i => g (l.getD i "")).map (fun i => V.str (l.getD i "")) = (l.filter g).map V.str := by
  have h : (List.range l.length).map (fun i => l.getD i "") = l := by
    refine List.ext_getElem? fun i => ?_
    rw [List.getElem?_map]
    by_cases h : i < l.length
    · rw [List.getElem?_range h, List.getElem?_eq_getElem h]
      simp [h]
    · rw [List.getElem?_eq_none (by simp; omega), List.getElem?_eq_none (by omega)]
      rfl
  have e : ∀ m : List Nat, (m.filter fun i => g (l.getD i "")).map (fun i => V.str (l.getD i "")) = ((m.map fun i => l.getD i "").filter g).map V.str := fun m => by
    rw [List.filter_map, List.map_map]
    rfl
  rw [e, h]
section
variable {P : Program} {w : World} {K : PySem.W.Frag} {mg : Str → Option Value} {base : Heap} {C : Addr}
def spName : Sp := fun vs H Q _ => ∃ (p tk : Addr) (names : List Str), vs = [.ref p, .ref tk] ∧ PurseAt H p ∧ H tk = some (.lst (names.map V.str)) ∧ names.length ≤ 2 ∧ ∀ H' n, SameB p H H' → PurseAt H' p → n ∉ names → okS n = true → Q (.str n) H'
theorem d_law_name (B : Bt mg) (T : Top K mg "_law_name" s_law_name ["purse", "taken"]) (D_law_draw : Def P w K mg base "_law_draw" 1 ["purse", "many"] spDraw) : Def P w K mg base "_law_name" 2 ["purse", "taken"] spName := by
  refine mk_def T sc_law_name (by rintro _ _ _ _ ⟨_, _, _, rfl, _⟩; rfl) fun f cdv A outer s H vs Q E hr h => ?_
  obtain ⟨p, tk, names, rfl, hp, ht, hn, q⟩ := h
  refine ⟨_, (pss_cons (ps_set (i := 2) sc_law_name.nd rfl (Or.inl rfl) (pe_tup (pa_cons pe_str (pa_cons pe_str (pa_cons pe_str (pa_cons pe_str (pa_cons pe_str (pa_cons pe_str (pa_cons pe_str (pa_cons pe_str (pa_cons pe_str (pa_cons pe_str pa_nil))))))))))))
      (pss_cons (ps_set (i := 3) sc_law_name.nd rfl (Or.inr rfl) pe_str)
      (pss_cons (ps_set (i := 4) sc_law_name.nd rfl (Or.inl rfl) (pe_bm PySem.F.plainAttrs_str PySem.F.slot_str_join PySem.F.type_str_join mt_join pe_str (pa_cons (pe_lc (own := [("at", 5)]) (g := (gName 5)) (tt := tYes) (te := (tOp rIxS (tVar 3) (tCall spDraw [] E0 (tCons (tVar 0) (tCons (tC (.int 26)) tNil))))) rfl sc_law_name.nd (pi_range1 (by rfl) B.m_range (pa_cons (pe_op op_add pe_int (pe_def D_law_draw (hr.mono (by first | decide | omega)) (by rfl) (pa_cons (pv 0) (pa_cons pe_int pa_nil)))) pa_nil)) (blkOk_by (own := [("at", 5)]) (N := N_law_name) (sc := defScope s_law_name) (by decide +kernel)) (fun _ _ _ _ _ => (pg_name (i := 5) sc_law_name.nd rfl (Or.inl rfl))) (fun _ _ _ _ _ => pts_nil) (fun _ _ _ _ _ => (pe_ix ix_str (pv 3) (pe_def D_law_draw (hr.mono (by first | decide | omega)) (by rfl) (pa_cons (pv 0) (pa_cons pe_int pa_nil))) (fun _ _ => rfl)))) pa_nil)))
      (pss_cons (ps_set (i := 6) sc_law_name.nd rfl (Or.inl rfl) (pe_def D_law_draw (hr.mono (by first | decide | omega)) (by rfl) (pa_cons (pv 0) (pa_cons pe_int pa_nil))))
      (Evl.pss_cut (ps_if (pt_cmpR op_eq (pv 6) pe_int (nomark _)) (pss_one (ps_set (i := 4) sc_law_name.nd rfl (Or.inl rfl) (pe_ix ix_tup (pv 2) (pe_def D_law_draw (hr.mono (by first | decide | omega)) (by rfl) (pa_cons (pv 0) (pa_cons pe_int pa_nil))) (fun _ _ => rfl)))) pss_nil)
      (Evl.pss_cut (ps_if (pw_or (pt_cmpR op_lt (pv 6) pe_int (nomark _)) (pw_or1 (pt_cmpR op_in_seq (pv 4) (pv 2) rfl))).pt (pss_one (ps_set (i := 4) sc_law_name.nd rfl (Or.inl rfl) (pe_op op_add_str (pv 4) pe_str))) pss_nil)
      (pss_one (ps_ret (pe_ix ix_list (pe_lc (own := [("one", 7)]) (g := (gName 7)) (tt := (tTest (tOp (rIn K true) (tVar 7) (tVar 1)))) (te := (tVar 7)) rfl sc_law_name.nd (pi_tup (pe_tup (pa_cons (pv 4) (pa_cons pe_str (pa_cons pe_str (pa_cons pe_str (pa_cons pe_str (pa_cons pe_str (pa_cons pe_str pa_nil))))))))) (blkOk_by (own := [("one", 7)]) (N := N_law_name) (sc := defScope s_law_name) (by decide +kernel)) (fun _ _ _ _ _ => (pg_name (i := 7) sc_law_name.nd rfl (Or.inl rfl))) (fun _ _ _ _ _ => (pts_one (pt_cmpR op_notIn_seq (pv 7) (pv 1) rfl))) (fun _ _ _ _ _ => (pv 7))) pe_int (fun _ _ => rfl)))))))))), ?_⟩
  have ntp : tk ≠ p := by
    obtain ⟨a, b, c, h2, _⟩ := id hp
    exact ne_of ht h2 (by intro z; injection z with z; have := congrArg List.length z; simp at this; omega)
  refine ⟨by show 10 ≤ sizeLine; decide, fun t ht1 => ?_⟩
  have e0 := same_upd (o := .tup [V.str "choose", .str "map", .str "join", .str "plus", .str "less", .str "distinct", .str "without", .str "group", .str "top", .str "loop"]) ht1
  have hw := upd_same (H := H) (a := t) (o := .tup [V.str "choose", .str "map", .str "join", .str "plus", .str "less", .str "distinct", .str "without", .str "group", .str "top", .str "loop"])
  generalize L2.upd H t _ = H0 at e0 hw ⊢
  refine ⟨rfl, .ref p, rfl, p, _, rfl, hp.same e0, by decide, by decide, fun H1 d s1 p1 d0 d1 => ?_⟩
  have s01 : SameB p H H1 := e0.b.trans s1
  have hw1 := (hp.same e0).st (K := K) s1 _ _ hw
  refine ⟨_, _, rfl, rfl, 1 + d, rfl, by omega, by omega, fun D hD => ?_⟩
  have npD : p ≠ D := p1.ne hD
  refine lc_it (walk_range (lo := 0) (n := (1 + d).toNat)) (fun i H' => PurseAt H' p ∧ (∀ b o, b ≠ p → H1 b = some o → H' b = some o) ∧ ∃ ys : List Str, H' D = some (.lst (ys.map V.str)) ∧ ys.length = i ∧ (ys.map (·.length)).sum = i ∧ ∀ y ∈ ys, okS y = true) ⟨p1.upd npD, fun b o nb ho => by rw [upd_ne (ne_of_none ho hD)]; exact ho, [], upd_same, rfl, rfl, (fun y hy => nomatch hy)⟩ (fun _ _ _ _ => True.intro) (fun i x H4 H5 hi pv y => ?_) (fun H4 pv => ?_)
  · obtain ⟨rfl, rfl⟩ := y
    obtain ⟨p4, e4, ys, eD, hl, hs, hok⟩ := pv
    refine ⟨rfl, .str "abcdefghijklmnopqrstuvwxyz", rfl, .ref p, rfl, p, _, rfl, p4, by decide, by decide, fun H6 c s6 p6 c0 c1 => ?_⟩
    obtain ⟨m, rfl⟩ := Int.eq_ofNat_of_zero_le c0
    have hm : m < ((Str.ofString "abcdefghijklmnopqrstuvwxyz").cps.toList).length := by
      have : ((Str.ofString "abcdefghijklmnopqrstuvwxyz").cps.toList).length = 26 := by decide
      omega
    refine ⟨_, _, _, rfl, rfl, by decide, atI_nat (List.getElem?_eq_getElem hm), ys.map V.str, s6 _ _ npD.symm eD, ?_, p6.upd npD, fun b o nb ho => ?_, ys ++ [_], by rw [upd_same, List.map_append]; rfl, by simp [hl], ?_, fun y hy => ?_⟩
    · rw [List.length_map, hl]
      exact Nat.lt_of_lt_of_le hi (Nat.le_trans (show (1 + d).toNat ≤ 8 by omega) (by decide))
    · rw [upd_ne (ne_of_none ho hD)]
      exact s6 _ _ nb (e4 _ _ nb ho)
    · rw [List.map_append, List.sum_append, hs]
      rfl
    · rcases List.mem_append.mp hy with hy | hy
      · exact hok y hy
      · rw [List.mem_singleton.mp hy]
        have hall : ∀ c ∈ (Str.ofString "abcdefghijklmnopqrstuvwxyz").cps.toList, okS ⟨#[c]⟩ = true := by decide
        exact hall _ (List.getElem_mem hm)
  obtain ⟨p4, e4, ys, eD, hl, hs, hok⟩ := pv
  have s04 : SameB p H H4 := fun b o nb ho => e4 _ _ nb (s01 _ _ nb ho)
  have hw4 : H4 t = _ := e4 _ _ (fun z => by
    obtain ⟨a, b, c, h2, _⟩ := p1
    rw [← z, hw1] at h2
    cases h2) hw1
  refine ⟨_, D, ys, rfl, rfl, .inl (SqL.of eD), ?_, ?_⟩
  · rw [hs, hl]
    have : (Str.ofString "").length = 0 := rfl
    rw [this]
    omega
  have hx : (Txt.join (Str.ofString "") ys).length ≤ 8 := by
    rw [glue_len, hs]
    omega
  have hxo := ok_glue ys hok
  generalize Txt.join (Str.ofString "") ys = x at hx hxo ⊢
  refine ⟨.ref p, rfl, p, _, rfl, p4, by decide, by decide, fun H5 way s5 p5 w0 w1 => ?_⟩
  have hw5 := p4.st (K := K) s5 _ _ hw4
  have s05 := s04.trans s5
  refine ⟨fun σ' H' => ∃ (x : Str), σ' = [some (.ref p), some (.ref tk), some (.ref t), some (.str "abcdefghijklmnopqrstuvwxyz"), some (.str x), none, some (.int way), none] ∧ x.length ≤ 8 ∧ okS x = true ∧ SameB p H H' ∧ PurseAt H' p ∧ H' t = some (.tup [V.str "choose", .str "map", .str "join", .str "plus", .str "less", .str "distinct", .str "without", .str "group", .str "top", .str "loop"]), ?_, ?_⟩
  · refine ⟨.int way, rfl, rfl, _, rfl, ite2 (fun z => ?_) (fun z => ⟨x, rfl, hx, hxo, s05, p5, hw5⟩)⟩
    refine ⟨.ref t, rfl, .ref p, rfl, p, _, rfl, p5, by decide, by decide, fun H6 c s6 p6 c0 c1 => ?_⟩
    have hw6 := p5.st (K := K) s6 _ _ hw5
    have : ∃ wd : Str, atI [V.str "choose", .str "map", .str "join", .str "plus", .str "less", .str "distinct", .str "without", .str "group", .str "top", .str "loop"] c = some (.str wd) ∧ wd.length ≤ 8 ∧ okS wd = true := by
      obtain ⟨n, rfl⟩ := Int.eq_ofNat_of_zero_le c0
      have hn : n < 10 := by omega
      match n, hn with
      | 0, _ => exact ⟨"choose", atI_nat (j := 0) rfl, by decide, by decide⟩
      | 1, _ => exact ⟨"map", atI_nat (j := 1) rfl, by decide, by decide⟩
      | 2, _ => exact ⟨"join", atI_nat (j := 2) rfl, by decide, by decide⟩
      | 3, _ => exact ⟨"plus", atI_nat (j := 3) rfl, by decide, by decide⟩
      | 4, _ => exact ⟨"less", atI_nat (j := 4) rfl, by decide, by decide⟩
      | 5, _ => exact ⟨"distinct", atI_nat (j := 5) rfl, by decide, by decide⟩
      | 6, _ => exact ⟨"without", atI_nat (j := 6) rfl, by decide, by decide⟩
      | 7, _ => exact ⟨"group", atI_nat (j := 7) rfl, by decide, by decide⟩
      | 8, _ => exact ⟨"top", atI_nat (j := 8) rfl, by decide, by decide⟩
      | 9, _ => exact ⟨"loop", atI_nat (j := 9) rfl, by decide, by decide⟩
    obtain ⟨wd, hat, hwd, hwo⟩ := this
    exact ⟨t, _, _, .str wd, rfl, rfl, SqT.of hw6, hat, wd, rfl, hwd, hwo, s05.trans s6, p6, hw6⟩
  rintro σ' H6 ⟨x, rfl, hx, hxo, s06, p6, hw6⟩
  refine ⟨fun σ' H' => ∃ (x : Str), σ' = [some (.ref p), some (.ref tk), some (.ref t), some (.str "abcdefghijklmnopqrstuvwxyz"), some (.str x), none, some (.int way), none] ∧ okS x = true ∧ H' = H6, ?_, ?_⟩
  · have add : ∃ x' : Str, [some (V.ref p), some (.ref tk), some (.ref t), some (.str "abcdefghijklmnopqrstuvwxyz"), some (.str (x ++ Str.ofString "'")), none, some (.int way), none] = [some (.ref p), some (.ref tk), some (.ref t), some (.str "abcdefghijklmnopqrstuvwxyz"), some (.str x'), none, some (.int way), none] ∧ okS x' = true ∧ H6 = H6 := ⟨_, rfl, by rw [ok_cat, hxo]; rfl, rfl⟩
    have sz : x.length + (Str.ofString "'").length ≤ sizeLine := Nat.le_trans (Nat.add_le_add_right hx _) (by decide)
    refine ⟨.int way, rfl, _, _, rfl, rfl, _, rfl, ite2 (fun z => iteT ⟨.str x, rfl, _, _, rfl, rfl, sz, add⟩) (fun z => ⟨.str x, rfl, .ref t, rfl, t, _, rfl, .inr (SqT.of hw6), rfl, rfl, _, rfl, ite2 (fun z2 => ⟨.str x, rfl, _, _, rfl, rfl, sz, add⟩) (fun z2 => ⟨x, rfl, hxo, rfl⟩)⟩)⟩
  rintro σ' H7 ⟨x, rfl, hxo, rfl⟩
  refine ⟨.str x, rfl, by show 7 ≤ sizeLine; decide, fun u hu => ⟨u, rfl, ⟨_, SqT.of upd_same⟩, fun D2 hD2 => ?_⟩⟩
  have eu := same_upd (o := .tup [V.str x, .str "q", .str "edge", .str "zz'", .str "wide", .str "up", .str "far'"]) hu
  have hu7 : L2.upd H7 u (.tup [V.str x, .str "q", .str "edge", .str "zz'", .str "wide", .str "up", .str "far'"]) u = some (.tup (([x, "q", "edge", "zz'", "wide", "up", "far'"] : List Str).map V.str)) := upd_same
  generalize L2.upd H7 u (.tup [V.str x, .str "q", .str "edge", .str "zz'", .str "wide", .str "up", .str "far'"]) = H8 at hD2 eu hu7 ⊢
  obtain ⟨n, hn0, hnn, hno⟩ := free_name x hxo names hn
  have h7 : ([x, "q", "edge", "zz'", "wide", "up", "far'"] : List Str).length = 7 := rfl
  generalize ([x, "q", "edge", "zz'", "wide", "up", "far'"] : List Str) = l at hu7 hn0 h7 ⊢
  have p8 : PurseAt H8 p := p6.same eu
  have s08 : SameB p H H8 := s06.trans eu.b
  have ht8 : H8 tk = some (.lst (names.map V.str)) := s08 _ _ ntp ht
  refine lc_val_if (walk_tup (K := K)) hD2 (by rw [List.length_map]; omega) (fun H1 e1 => SqT.of (e1 _ _ hu7)) (fun i => decide (l.getD i "" ∉ names)) (fun i => V.str (l.getD i "")) (fun i x H1 H2 Q' R' hi e1 y kt kf => ?_) (fun H9 e9 eD => ?_)
  · obtain ⟨rfl, hxi⟩ := y
    rw [List.getElem?_map] at hxi
    obtain ⟨z, hz, rfl⟩ := Option.map_eq_some_iff.mp hxi
    have hg : l.getD i "" = z := by rw [List.getD_eq_getElem?_getD, hz]; rfl
    refine ⟨rfl, .str z, rfl, .ref tk, rfl, tk, _, rfl, .inl (SqL.of (e1 _ _ ht8)), rfl, ?_, _, rfl, ?_⟩
    · simp [flatV]
    · rw [if_pos rfl, inV_strs]
      refine ite2 (fun b => ?_) (fun b => kf _ ?_ (Same.refl _))
      · refine ⟨.str z, rfl, ?_⟩
        have := kt _ (by rw [hg]; simpa using b) (Same.refl _)
        rw [hg] at this
        exact this
      · rw [hg]
        simpa using b
  · refine ⟨_, _, _, _, rfl, rfl, SqL.of eD, atI_nat (j := 0) ?_, q H9 n (s08.trans e9.b) (p8.same e9) hnn hno⟩
    rw [List.length_map, filt_range l fun y => decide (y ∉ names), List.getElem?_map, hn0]
    rfl
end
end K18

namespace K18
open PySem PySem.Spec PyProof.Rows L2 RW9 Tl
def KeysOk (l : Nat) (cols : List Int) : Prop := ∀ c ∈ cols, 0 ≤ c ∧ c < l
structure SortOk (l : Nat) (s : Srt) : Prop where
  k : s.k ≤ 3
  c : s.k ≠ 0 → 0 ≤ s.c ∧ s.c < l
section
variable {P : Program} {w : World} {K : PySem.W.Frag} {mg : Str → Option Value} {base : Heap} {C : Addr}
def spKeys (K : PySem.W.Frag) : Sp := fun vs H Q _ => ∃ (p : Addr) (l : Nat), vs = [.ref p, .int l] ∧ PurseAt H p ∧ l ≤ 100 ∧ ∀ H' v cols, SameB p H H' → PurseAt H' p → Da K H' v (mo cols) → cols.length ≤ 3 → KeysOk l cols → Q v H'
theorem d_law_keys (B : Bt mg) (T : Top K mg "_law_keys" s_law_keys ["purse", "width"]) (D_law_draw : Def P w K mg base "_law_draw" 1 ["purse", "many"] spDraw) : Def P w K mg base "_law_keys" 2 ["purse", "width"] (spKeys K) := by
  refine mk_def T sc_law_keys (by rintro _ _ _ _ ⟨_, _, rfl, _⟩; rfl) fun f cdv A outer s H vs Q E hr h => ?_
  obtain ⟨p, l, rfl, hp, hl, q⟩ := h
  refine ⟨_, (pss_cons (ps_set (i := 2) sc_law_keys.nd rfl (Or.inl rfl) (pe_ix ix_tup (pe_tup (pa_cons pe_int (pa_cons pe_int (pa_cons pe_int (pa_cons pe_int (pa_cons pe_int pa_nil)))))) (pe_def D_law_draw (hr.mono (by first | decide | omega)) (by rfl) (pa_cons (pv 0) (pa_cons pe_int pa_nil))) (fun _ _ => rfl)))
      (pss_cons (ps_if (pt_cmpR op_eq (pv 1) pe_int (nomark _)) (pss_one (ps_ret (pe_tup pa_nil))) pss_nil)
      (pss_one (ps_ret (pe_callTy call_tuple_of (by rfl) B.m_tuple (by decide +kernel) (pa_cons (pe_lc (own := [("at", 3)]) (g := (gName 3)) (tt := tYes) (te := (tCall spDraw [] E0 (tCons (tVar 0) (tCons (tVar 1) tNil)))) rfl sc_law_keys.nd (pi_range1 (by rfl) B.m_range (pa_cons (pv 2) pa_nil)) (blkOk_by (own := [("at", 3)]) (N := N_law_keys) (sc := defScope s_law_keys) (by decide +kernel)) (fun _ _ _ _ _ => (pg_name (i := 3) sc_law_keys.nd rfl (Or.inl rfl))) (fun _ _ _ _ _ => pts_nil) (fun _ _ _ _ _ => (pe_def D_law_draw (hr.mono (by first | decide | omega)) (by rfl) (pa_cons (pv 0) (pa_cons (pv 1) pa_nil))))) pa_nil)))))), ?_⟩
  refine ⟨by show 5 ≤ sizeLine; decide, fun t ht => ?_⟩
  have e0 := same_upd (o := .tup [V.int 0, .int 1, .int 1, .int 2, .int 3]) ht
  refine ⟨.ref p, rfl, p, _, rfl, hp.same e0, by decide, by decide, fun H1 d s1 p1 d0 d1 => ?_⟩
  have ht1 : H1 t = some (.tup [V.int 0, .int 1, .int 1, .int 2, .int 3]) := (hp.same e0).st (K := K) s1 _ _ upd_same
  have s01 : SameB p H H1 := e0.b.trans s1
  obtain ⟨m, hat, hm⟩ : ∃ m : Nat, atI [V.int 0, .int 1, .int 1, .int 2, .int 3] d = some (.int m) ∧ m ≤ 3 := by
    obtain ⟨n, rfl⟩ := Int.eq_ofNat_of_zero_le d0
    have hn : n < 5 := by omega
    match n, hn with
    | 0, _ => exact ⟨0, atI_nat (j := 0) rfl, by decide⟩
    | 1, _ => exact ⟨1, atI_nat (j := 1) rfl, by decide⟩
    | 2, _ => exact ⟨1, atI_nat (j := 2) rfl, by decide⟩
    | 3, _ => exact ⟨2, atI_nat (j := 3) rfl, by decide⟩
    | 4, _ => exact ⟨3, atI_nat (j := 4) rfl, by decide⟩
  refine ⟨t, _, _, .int m, rfl, rfl, SqT.of ht1, hat, ?_⟩
  refine ⟨.int l, rfl, rfl, _, rfl, ?_⟩
  rw [show decide (V.int (l : Int) = V.int 0) = decide ((l : Int) = 0) by simp]
  refine ite2 (fun z => ⟨by show 0 ≤ sizeLine; decide, fun u hu => q _ _ [] (s01.trans (same_upd hu).b) (p1.same (same_upd hu)) (Mo.of (m := []) upd_same) (by decide) (fun q hq => nomatch hq)⟩) (fun z => ?_)
  have l0 : (0 : Int) < l := by
    have : ¬ (l : Int) = 0 := fun y => z (decide_eq_true y)
    omega
  refine ⟨.int m, rfl, m, rfl, by omega, by omega, fun D hD => ?_⟩
  have npD : p ≠ D := p1.ne hD
  refine lc_range (lo := 0) (n := m) (fun j H2 => ∃ r : List Int, r.length = j ∧ KeysOk l r ∧ H2 D = some (.lst (r.map V.int)) ∧ (∀ b o, b ≠ p → H1 b = some o → H2 b = some o) ∧ PurseAt H2 p) ⟨[], rfl, (fun x hx => nomatch hx), upd_same, (fun b o _ ho => by rw [upd_ne (ne_of_none ho hD)]; exact ho), p1.upd npD⟩ (fun j H2 hj pv => ?_) (fun H2 pv => ?_)
  · obtain ⟨r, hr1, hr2, eD, e2, pu2⟩ := pv
    refine ⟨rfl, .ref p, rfl, .int l, rfl, p, l, rfl, pu2, l0, by omega, fun H3 x s3 p3 x0 x1 => ⟨_, s3 _ _ npD.symm eD, ?_, r ++ [x], by simp [hr1], ?_, by rw [upd_same, List.map_append]; rfl, fun b o nb ho => ?_, p3.upd npD⟩⟩
    · rw [List.length_map, hr1]
      exact Nat.lt_of_lt_of_le hj (Nat.le_trans hm (by decide))
    · intro y hy
      rcases List.mem_append.mp hy with hy | hy
      · exact hr2 y hy
      · rw [List.mem_singleton.mp hy]
        exact ⟨x0, x1⟩
    · rw [upd_ne (ne_of_none ho hD)]
      exact s3 _ _ nb (e2 _ _ nb ho)
  · obtain ⟨r, hr1, hr2, eD, e2, pu2⟩ := pv
    refine ⟨D, _, rfl, .inl ⟨SqL.of eD, fun t1 ht1 => ?_⟩⟩
    have e3 := same_upd (o := .tup (r.map V.int)) ht1
    exact q _ _ r (fun b o nb ho => e3 _ _ (e2 _ _ nb (s01 _ _ nb ho))) (pu2.same e3) (Mo.of upd_same) (by omega) hr2
def spSort (K : PySem.W.Frag) : Sp := fun vs H Q _ => ∃ (p : Addr) (l : Nat), vs = [.ref p, .int l] ∧ PurseAt H p ∧ l ≤ 100 ∧ ∀ H' v so, SameB p H H' → PurseAt H' p → Da K H' v (srtD so) → SortOk l so → Q v H'
theorem d_law_sort (B : Bt mg) (T : Top K mg "_law_sort" s_law_sort ["purse", "width"]) (D_law_draw : Def P w K mg base "_law_draw" 1 ["purse", "many"] spDraw) : Def P w K mg base "_law_sort" 2 ["purse", "width"] (spSort K) := by
  refine mk_def T sc_law_sort (by rintro _ _ _ _ ⟨_, _, rfl, _⟩; rfl) fun f cdv A outer s H vs Q E hr h => ?_
  obtain ⟨p, l, rfl, hp, hl, q⟩ := h
  refine ⟨_, (pss_cons (ps_set (i := 2) sc_law_sort.nd rfl (Or.inl rfl) (pe_def D_law_draw (hr.mono (by first | decide | omega)) (by rfl) (pa_cons (pv 0) (pa_cons pe_int pa_nil))))
      (pss_cons (ps_if (pw_or (pt_cmpR op_eq (pv 2) pe_int (nomark _)) (pw_or1 (pt_cmpR op_eq (pv 1) pe_int (nomark _)))).pt (pss_one (ps_ret (pe_tup (pa_cons pe_str pa_nil)))) pss_nil)
      (pss_one (ps_ret (pe_tup (pa_cons (pe_ix ix_tup (pe_tup (pa_cons pe_str (pa_cons pe_str (pa_cons pe_str pa_nil)))) (pe_op op_sub (pe_callTy call_int1 (by rfl) B.m_int (by decide +kernel) (pa_cons (pv 2) pa_nil)) pe_int) (fun _ _ => rfl)) (pa_cons (pe_def D_law_draw (hr.mono (by first | decide | omega)) (by rfl) (pa_cons (pv 0) (pa_cons (pv 1) pa_nil))) pa_nil))))))), ?_⟩
  refine ⟨.ref p, rfl, p, _, rfl, hp, by decide, by decide, fun H1 d s1 p1 d0 d1 => ?_⟩
  have cnt : ∀ u, H1 u = none → Q (.ref u) (L2.upd H1 u (.tup [.str "count"])) := fun u hu => q _ _ ⟨0, 0⟩ (s1.trans (same_upd hu).b) (p1.same (same_upd hu)) (.tup upd_same (.cons (.str _) .nil)) ⟨by decide, fun z => absurd rfl z⟩
  refine ⟨.int d, rfl, rfl, _, rfl, ?_⟩
  rw [show decide (V.int d = V.int 0) = decide (d = 0) by simp]
  refine ite2 (fun z => iteT ⟨by show 1 ≤ sizeLine; decide, cnt⟩) (fun z => ⟨.int l, rfl, rfl, _, rfl, ?_⟩)
  rw [show decide (V.int (l : Int) = V.int 0) = decide ((l : Int) = 0) by simp]
  refine ite2 (fun z2 => ⟨by show 1 ≤ sizeLine; decide, cnt⟩) (fun z2 => ?_)
  have l0 : (0 : Int) < l := by
    have : ¬ (l : Int) = 0 := fun y => z2 (decide_eq_true y)
    omega
  have hd0 : 1 ≤ d := by
    have : ¬ d = 0 := fun y => z (decide_eq_true y)
    omega
  refine ⟨by show 3 ≤ sizeLine; decide, fun t ht => ?_⟩
  have e0 := same_upd (o := .tup [V.str "sum", .str "least", .str "greatest"]) ht
  have ht1 := upd_same (H := H1) (a := t) (o := .tup [V.str "sum", .str "least", .str "greatest"])
  have p2 := p1.same e0
  have s2 := s1.trans e0.b
  generalize L2.upd H1 t _ = H2 at e0 ht1 p2 s2 ⊢
  obtain ⟨k, hat, hk1, hk3⟩ : ∃ k : Nat, atI [V.str "sum", .str "least", .str "greatest"] (d - 1) = some (.str (srtW k)) ∧ 1 ≤ k ∧ k ≤ 3 := by
    have : d = 1 ∨ d = 2 ∨ d = 3 := by omega
    rcases this with rfl | rfl | rfl
    · exact ⟨1, atI_nat (j := 0) rfl, by decide, by decide⟩
    · exact ⟨2, atI_nat (j := 1) rfl, by decide, by decide⟩
    · exact ⟨3, atI_nat (j := 2) rfl, by decide, by decide⟩
  refine ⟨.int d, rfl, .inl ⟨_, rfl, _, _, rfl, rfl, t, _, _, _, rfl, rfl, SqT.of ht1, hat, ?_⟩⟩
  refine ⟨.ref p, rfl, .int l, rfl, p, l, rfl, p2, l0, by omega, fun H3 x s3 p3 x0 x1 => ?_⟩
  refine ⟨by show 2 ≤ sizeLine; decide, fun u hu => ?_⟩
  refine q _ _ ⟨k, x⟩ ((s2.trans s3).trans (same_upd hu).b) (p3.same (same_upd hu)) ?_ ⟨hk3, fun _ => ⟨x0, x1⟩⟩
  unfold srtD
  rw [if_neg (show ¬ k = 0 by omega)]
  exact .tup upd_same (.cons (.str _) (.cons (.int _) .nil))
def spMany : Sp := fun vs H Q _ => ∃ p : Addr, vs = [.ref p] ∧ PurseAt H p ∧ ∀ H' m, SameB p H H' → PurseAt H' p → 1 ≤ m → m.natAbs < 10 ^ 31 → Q (.int m) H'
theorem d_law_many (B : Bt mg) (T : Top K mg "_law_many" s_law_many ["purse"]) (D_law_draw : Def P w K mg base "_law_draw" 1 ["purse", "many"] spDraw) : Def P w K mg base "_law_many" 2 ["purse"] spMany := by
  refine mk_def T sc_law_many (by rintro _ _ _ _ ⟨_, rfl, _⟩; rfl) fun f cdv A outer s H vs Q E hr h => ?_
  obtain ⟨p, rfl, hp, q⟩ := h
  refine ⟨_, (pss_cons (ps_set (i := 1) sc_law_many.nd rfl (Or.inl rfl) (pe_def D_law_draw (hr.mono (by first | decide | omega)) (by rfl) (pa_cons (pv 0) (pa_cons pe_int pa_nil))))
      (pss_cons (ps_if (pt_cmpR op_eq (pv 1) pe_int (nomark _)) (pss_one (ps_ret (pe_op op_add pe_int (pe_def D_law_draw (hr.mono (by first | decide | omega)) (by rfl) (pa_cons (pv 0) (pa_cons pe_int pa_nil)))))) pss_nil)
      (pss_cons (ps_if (pt_cmpR op_eq (pv 1) pe_int (nomark _)) (pss_one (ps_ret (pe_op op_add (pe_op op_pow pe_int pe_int) (pe_def D_law_draw (hr.mono (by first | decide | omega)) (by rfl) (pa_cons (pv 0) (pa_cons pe_int pa_nil)))))) pss_nil)
      (pss_one (ps_ret (pe_ix ix_tup (pe_tup (pa_cons pe_int (pa_cons pe_int (pa_cons pe_int (pa_cons pe_int (pa_cons pe_int (pa_cons pe_int pa_nil))))))) (pe_op op_mod (pe_callTy call_int1 (by rfl) B.m_int (by decide +kernel) (pa_cons (pv 1) pa_nil)) pe_int) (fun _ _ => rfl))))))), ?_⟩
  refine ⟨.ref p, rfl, p, _, rfl, hp, by decide, by decide, fun H1 d s1 p1 d0 d1 => ?_⟩
  refine ⟨.int d, rfl, rfl, _, rfl, ?_⟩
  rw [show decide (V.int d = V.int 6) = decide (d = 6) by simp]
  refine ite2 (fun z => ?_) (fun z => ?_)
  · exact ⟨.ref p, rfl, p, _, rfl, p1, by decide, by decide, fun H2 x s2 p2 x0 x1 => ⟨_, _, rfl, rfl, q _ _ (s1.trans s2) p2 (by omega) (by omega)⟩⟩
  refine ⟨.int d, rfl, rfl, _, rfl, ?_⟩
  rw [show decide (V.int d = V.int 7) = decide (d = 7) by simp]
  have h30 : (10 : Int) ^ (30 : Int).toNat = 1000000000000000000000000000000 := by decide
  refine ite2 (fun z => ?_) (fun z => ?_)
  · refine ⟨_, _, rfl, rfl, ⟨by decide, by decide, by decide⟩, .ref p, rfl, p, _, rfl, p1, by decide, by decide, fun H2 x s2 p2 x0 x1 => ⟨_, _, rfl, rfl, ?_⟩⟩
    rw [h30]
    exact q _ _ (s1.trans s2) p2 (by omega) (by omega)
  · refine ⟨by show 6 ≤ sizeLine; decide, fun t ht => ?_⟩
    have e := same_upd (o := .tup [V.int 1, .int 1, .int 2, .int 2, .int 3, .int 5]) ht
    have n0 := Int.emod_nonneg d (show (6 : Int) ≠ 0 by decide)
    have n1 := Int.emod_lt_of_pos d (show (0 : Int) < 6 by decide)
    obtain ⟨m, hat, hm1, hm2⟩ : ∃ m : Int, atI [V.int 1, .int 1, .int 2, .int 2, .int 3, .int 5] (d % 6) = some (.int m) ∧ 1 ≤ m ∧ m.natAbs < 10 ^ 31 := by
      generalize d % 6 = x at n0 n1
      obtain ⟨n, rfl⟩ := Int.eq_ofNat_of_zero_le n0
      have hn : n < 6 := by omega
      match n, hn with
      | 0, _ => exact ⟨1, atI_nat (j := 0) rfl, by decide, by decide⟩
      | 1, _ => exact ⟨1, atI_nat (j := 1) rfl, by decide, by decide⟩
      | 2, _ => exact ⟨2, atI_nat (j := 2) rfl, by decide, by decide⟩
      | 3, _ => exact ⟨2, atI_nat (j := 3) rfl, by decide, by decide⟩
      | 4, _ => exact ⟨3, atI_nat (j := 4) rfl, by decide, by decide⟩
      | 5, _ => exact ⟨5, atI_nat (j := 5) rfl, by decide, by decide⟩
    exact ⟨.int d, rfl, .inl ⟨_, rfl, _, _, rfl, rfl, (by show (0:Int) < 6; decide), t, _, _, .int m, rfl, rfl, SqT.of upd_same, hat, q _ m (s1.trans e.b) (p1.same e) hm1 hm2⟩⟩
end
end K18

namespace K18
open PySem PySem.Spec PyProof.Rows L2 RW9 Tl
/-- what a node does, apart from its sub-plans -/
inductive Nd where
  | choose (l : List Tst)
  | map (ts : List Tm)
  | join (cols : List (Int × Int))
  | plus
  | less
  | distinct
  | without (cols : List (Int × Int))
  | group (cols : List Int) (s : Srt)
  | top (cols : List Int) (m : Int)
/-- the node xs is this one -/
inductive NdAt (K : PySem.W.Frag) (H : Hp) (xs : List V) : Nd → Prop
  | choose {v : V} {l : List Tst} (h0 : xs[0]? = some (.str "choose")) (h2 : xs[2]? = some v) (hd : Da K H v (tstsD l)) : NdAt K H xs (.choose l)
  | map {v : V} {ts : List Tm} (h0 : xs[0]? = some (.str "map")) (h2 : xs[2]? = some v) (hd : Da K H v (tsD ts)) : NdAt K H xs (.map ts)
  | join {v : V} {cols : List (Int × Int)} (h0 : xs[0]? = some (.str "join")) (h3 : xs[3]? = some v) (hd : Da K H v (ptD cols)) : NdAt K H xs (.join cols)
  | plus (h0 : xs[0]? = some (.str "plus")) : NdAt K H xs .plus
  | less (h0 : xs[0]? = some (.str "less")) : NdAt K H xs .less
  | distinct {v1 : V} (hx : xs = [.str "distinct", v1]) : NdAt K H xs .distinct
  | without {v1 v2 v : V} {cols : List (Int × Int)} (hx : xs = [.str "without", v1, v2, v]) (hd : Da K H v (ptD cols)) : NdAt K H xs (.without cols)
  | group {v1 v2 v3 : V} {cols : List Int} {s : Srt} (hx : xs = [.str "group", v1, v2, v3]) (h2 : Da K H v2 (mo cols)) (h3 : Da K H v3 (srtD s)) : NdAt K H xs (.group cols s)
  | top {v1 v2 : V} {cols : List Int} {m : Int} (hx : xs = [.str "top", v1, v2, .int m]) (h2 : Da K H v2 (mo cols)) : NdAt K H xs (.top cols m)
/-- a node that was drawn over rows of these widths -/
inductive NdOk (l r : Nat) : Nd → Prop
  | choose {ts : List Tst} (hl : ts.length ≤ 3) (ok : ∀ x ∈ ts, TsOk l x) : NdOk l r (.choose ts)
  | map {ts : List Tm} (hl : ts.length ≤ 100) (ok : ∀ x ∈ ts, TmOk l x) : NdOk l r (.map ts)
  | join {cols : List (Int × Int)} (hl : cols.length ≤ 3) (ok : ColsOk l r cols) : NdOk l r (.join cols)
  | plus : NdOk l r .plus
  | less : NdOk l r .less
  | distinct : NdOk l r .distinct
  | without {cols : List (Int × Int)} (hl : cols.length ≤ 3) (ok : ColsOk l r cols) : NdOk l r (.without cols)
  | group {cols : List Int} {s : Srt} (hl : cols.length ≤ 3) (ok : KeysOk l cols) (so : SortOk l s) : NdOk l r (.group cols s)
  | top {cols : List Int} {m : Int} (hl : cols.length ≤ 3) (ok : KeysOk l cols) (hm : 1 ≤ m) : NdOk l r (.top cols m)
def kindS : Nat → Str
  | 0 => "distinct"
  | 1 => "without"
  | 2 => "group"
  | _ => "top"
def kindN : Nd → Nat
  | .distinct => 0
  | .without _ => 1
  | .group _ _ => 2
  | .top _ _ => 3
  | _ => 9
section
variable {P : Program} {w : World} {K : PySem.W.Frag} {mg : Str → Option Value} {base : Heap} {C : Addr}
def spSub : Sp := fun vs H Q _ => ∃ p : Addr, vs = [.ref p] ∧ PurseAt H p ∧ ∀ H' v, SameB p H H' → PurseAt H' p → Q v H'
theorem d_law_sub (B : Bt mg) (T : Top K mg "_law_sub" s_law_sub ["purse"]) (D_law_draw : Def P w K mg base "_law_draw" 1 ["purse", "many"] spDraw) : Def P w K mg base "_law_sub" 2 ["purse"] spSub := by
  refine mk_def T sc_law_sub (by rintro _ _ _ _ ⟨_, rfl, _⟩; rfl) fun f cdv A outer s H vs Q E hr h => ?_
  obtain ⟨p, rfl, hp, q⟩ := h
  refine ⟨_, (pss_cons (ps_set (i := 1) sc_law_sub.nd rfl (Or.inl rfl) (pe_tup (pa_cons pe_str (pa_cons (pe_ix ix_tup (pe_tup (pa_cons pe_str (pa_cons pe_str (pa_cons pe_str (pa_cons pe_str (pa_cons pe_str pa_nil)))))) (pe_def D_law_draw (hr.mono (by first | decide | omega)) (by rfl) (pa_cons (pv 0) (pa_cons pe_int pa_nil))) (fun _ _ => rfl)) pa_nil))))
      (pss_cons (ps_set (i := 2) sc_law_sub.nd rfl (Or.inl rfl) (pe_def D_law_draw (hr.mono (by first | decide | omega)) (by rfl) (pa_cons (pv 0) (pa_cons pe_int pa_nil))))
      (pss_cons (ps_if (pt_cmpR op_eq (pv 2) pe_int (nomark _)) (pss_one (ps_ret (pe_tup (pa_cons pe_str (pa_cons (pv 1) pa_nil))))) pss_nil)
      (pss_cons (ps_if (pt_cmpR op_eq (pv 2) pe_int (nomark _)) (pss_one (ps_ret (pe_tup (pa_cons pe_str (pa_cons (pv 1) (pa_cons (pv 1) pa_nil)))))) pss_nil)
      (pss_cons (ps_if (pt_cmpR op_eq (pv 2) pe_int (nomark _)) (pss_one (ps_ret (pe_tup (pa_cons pe_str (pa_cons (pv 1) (pa_cons (pe_tup (pa_cons (pe_tup (pa_cons (pe_tup (pa_cons pe_int (pa_cons (pe_tup pa_nil) pa_nil))) (pa_cons pe_str (pa_cons (pe_tup (pa_cons pe_int (pa_cons (pe_tup pa_nil) pa_nil))) pa_nil)))) pa_nil)) pa_nil)))))) pss_nil)
      (pss_cons (ps_if (pt_cmpR op_eq (pv 2) pe_int (nomark _)) (pss_one (ps_ret (pe_tup (pa_cons pe_str (pa_cons (pv 1) (pa_cons (pe_tup pa_nil) (pa_cons pe_int pa_nil))))))) pss_nil)
      (pss_one (ps_ret (pv 1))))))))), ?_⟩
  refine ⟨by show 5 ≤ sizeLine; decide, fun t ht => ?_⟩
  have e0 := same_upd (o := .tup [V.str "a", .str "edge", .str "top'", .str "zz", .str "b'"]) ht
  refine ⟨.ref p, rfl, p, _, rfl, hp.same e0, by decide, by decide, fun H1 d s1 p1 d0 d1 => ?_⟩
  have ht1 := (hp.same e0).st (K := K) s1 _ _ upd_same
  have : ∃ z : Str, atI [V.str "a", .str "edge", .str "top'", .str "zz", .str "b'"] d = some (.str z) := by
    obtain ⟨n, rfl⟩ := Int.eq_ofNat_of_zero_le d0
    have hn : n < 5 := by omega
    match n, hn with
    | 0, _ => exact ⟨_, atI_nat (j := 0) rfl⟩
    | 1, _ => exact ⟨_, atI_nat (j := 1) rfl⟩
    | 2, _ => exact ⟨_, atI_nat (j := 2) rfl⟩
    | 3, _ => exact ⟨_, atI_nat (j := 3) rfl⟩
    | 4, _ => exact ⟨_, atI_nat (j := 4) rfl⟩
  obtain ⟨z, hz⟩ := this
  refine ⟨t, _, _, _, rfl, rfl, SqT.of ht1, hz, by show 2 ≤ sizeLine; decide, fun u hu => ?_⟩
  have e1 := same_upd (o := .tup [V.str "table", .str z]) hu
  refine ⟨.ref p, rfl, p, _, rfl, p1.same e1, by decide, by decide, fun H2 way s2 p2 w0 w1 => ?_⟩
  have s02 : SameB p H H2 := ((e0.b.trans s1).trans e1.b).trans s2
  have mk : ∀ (H3 : Hp) (xs : List V), Same H2 H3 → ∀ b, H3 b = none → Q (.ref b) (L2.upd H3 b (.tup xs)) := fun H3 xs e b hb =>
    q _ _ (s02.trans (e.trans (same_upd hb)).b) ((p2.same e).same (same_upd hb))
  refine ⟨.int way, rfl, rfl, _, rfl, ite2 (fun _ => ?_) (fun _ => ?_)⟩
  · exact ⟨.ref u, rfl, by show 2 ≤ sizeLine; decide, fun b hb => mk _ _ (Same.refl _) b hb⟩
  refine ⟨.int way, rfl, rfl, _, rfl, ite2 (fun _ => ?_) (fun _ => ?_)⟩
  · exact ⟨.ref u, rfl, .ref u, rfl, by show 3 ≤ sizeLine; decide, fun b hb => mk _ _ (Same.refl _) b hb⟩
  refine ⟨.int way, rfl, rfl, _, rfl, ite2 (fun _ => ?_) (fun _ => ?_)⟩
  · refine ⟨.ref u, rfl, by show 0 ≤ sizeLine; decide, fun b1 h1 => ⟨by show 2 ≤ sizeLine; decide, fun b2 h2 => ⟨by show 0 ≤ sizeLine; decide, fun b3 h3 => ⟨by show 2 ≤ sizeLine; decide, fun b4 h4 => ⟨by show 3 ≤ sizeLine; decide, fun b5 h5 => ⟨by show 1 ≤ sizeLine; decide, fun b6 h6 => ⟨by show 3 ≤ sizeLine; decide, fun b hb => ?_⟩⟩⟩⟩⟩⟩⟩
    exact mk _ _ ((((((same_upd h1).trans (same_upd h2)).trans (same_upd h3)).trans (same_upd h4)).trans (same_upd h5)).trans (same_upd h6)) b hb
  refine ⟨.int way, rfl, rfl, _, rfl, ite2 (fun _ => ?_) (fun _ => ?_)⟩
  · exact ⟨.ref u, rfl, by show 0 ≤ sizeLine; decide, fun b1 h1 => ⟨by show 4 ≤ sizeLine; decide, fun b hb => mk _ _ (same_upd h1) b hb⟩⟩
  · exact ⟨.ref u, rfl, q _ _ s02 p2⟩
def spNode (K : PySem.W.Frag) : Sp := fun vs H Q _ => ∃ (p : Addr) (v1 v2 : V) (k l r : Nat), vs = [.ref p, .str (kindS k), v1, v2, .int l, .int r] ∧ k < 4 ∧ PurseAt H p ∧ l ≤ 100 ∧ r ≤ 100 ∧ ∀ H' n xs nd, SameB p H H' → PurseAt H' p → H' n = some (.tup xs) → xs[1]? = some v1 → (k = 1 → xs[2]? = some v2) → NdAt K H' xs nd → NdOk l r nd → kindN nd = k → Q (.ref n) H'
theorem d_law_node (B : Bt mg) (T : Top K mg "_law_node" s_law_node ["purse", "kind", "first", "second", "left", "right"]) (D_law_columns : Def P w K mg base "_law_columns" 2 ["purse", "left", "right"] (spLCols K)) (D_law_keys : Def P w K mg base "_law_keys" 2 ["purse", "width"] (spKeys K)) (D_law_sort : Def P w K mg base "_law_sort" 2 ["purse", "width"] (spSort K)) (D_law_many : Def P w K mg base "_law_many" 2 ["purse"] spMany) : Def P w K mg base "_law_node" 3 ["purse", "kind", "first", "second", "left", "right"] (spNode K) := by
  refine mk_def T sc_law_node (by rintro _ _ _ _ ⟨_, _, _, _, _, _, rfl, _⟩; rfl) fun f cdv A outer s H vs Q E hr h => ?_
  obtain ⟨p, v1, v2, k, l, r, rfl, hk, hp, hl, hr2, q⟩ := h
  refine ⟨_, (pss_cons (ps_if (pt_cmpR op_eq (pv 1) pe_str (nomark _)) (pss_one (ps_ret (pe_tup (pa_cons (pv 1) (pa_cons (pv 2) pa_nil))))) pss_nil)
      (pss_cons (ps_if (pt_cmpR op_eq (pv 1) pe_str (nomark _)) (pss_one (ps_ret (pe_tup (pa_cons (pv 1) (pa_cons (pv 2) (pa_cons (pv 3) (pa_cons (pe_def D_law_columns (hr.mono (by first | decide | omega)) (by rfl) (pa_cons (pv 0) (pa_cons (pv 4) (pa_cons (pv 5) pa_nil)))) pa_nil))))))) pss_nil)
      (pss_cons (ps_set (i := 6) sc_law_node.nd rfl (Or.inl rfl) (pe_def D_law_keys (hr.mono (by first | decide | omega)) (by rfl) (pa_cons (pv 0) (pa_cons (pv 4) pa_nil))))
      (pss_cons (ps_if (pt_cmpR op_eq (pv 1) pe_str (nomark _)) (pss_one (ps_ret (pe_tup (pa_cons (pv 1) (pa_cons (pv 2) (pa_cons (pv 6) (pa_cons (pe_def D_law_sort (hr.mono (by first | decide | omega)) (by rfl) (pa_cons (pv 0) (pa_cons (pv 4) pa_nil))) pa_nil))))))) pss_nil)
      (pss_one (ps_ret (pe_tup (pa_cons (pv 1) (pa_cons (pv 2) (pa_cons (pv 6) (pa_cons (pe_def D_law_many (hr.mono (by first | decide | omega)) (by rfl) (pa_cons (pv 0) pa_nil)) pa_nil))))))))))), ?_⟩
  have h4 : k = 0 ∨ k = 1 ∨ k = 2 ∨ k = 3 := by omega
  rcases h4 with rfl | rfl | rfl | rfl
  · refine ⟨.str "distinct", rfl, rfl, _, rfl, iteY rfl ?_⟩
    refine ⟨.str "distinct", rfl, v1, rfl, by show 2 ≤ sizeLine; decide, fun b hb => ?_⟩
    exact q _ b _ .distinct (same_upd hb).b (hp.same (same_upd hb)) upd_same rfl (fun z => nomatch z) (.distinct rfl) .distinct rfl
  · refine ⟨.str "without", rfl, rfl, _, rfl, iteN (strNe (by decide +kernel)) ?_⟩
    refine ⟨.str "without", rfl, rfl, _, rfl, iteY rfl ?_⟩
    refine ⟨.str "without", rfl, v1, rfl, v2, rfl, .ref p, rfl, .int l, rfl, .int r, rfl, p, l, r, rfl, hp, by omega, by omega, fun H3 v cols s3 p3 hd h3 hok => ⟨by show 4 ≤ sizeLine; decide, fun b hb => ?_⟩⟩
    exact q _ b _ (.without cols) (s3.trans (same_upd hb).b) (p3.same (same_upd hb)) upd_same rfl (fun _ => rfl) (.without rfl (Da.same (same_upd hb) _ _ hd)) (.without h3 hok) rfl
  · refine ⟨.str "group", rfl, rfl, _, rfl, iteN (strNe (by decide +kernel)) ?_⟩
    refine ⟨.str "group", rfl, rfl, _, rfl, iteN (strNe (by decide +kernel)) ?_⟩
    refine ⟨.ref p, rfl, .int l, rfl, p, l, rfl, hp, hl, fun H1 vk cols s1 p1 hdk hlk hok => ?_⟩
    refine ⟨.str "group", rfl, rfl, _, rfl, iteY rfl ?_⟩
    refine ⟨.str "group", rfl, v1, rfl, vk, rfl, .ref p, rfl, .int l, rfl, p, l, rfl, p1, hl, fun H2 vz so s2 p2 hds hso => ⟨by show 4 ≤ sizeLine; decide, fun b hb => ?_⟩⟩
    exact q _ b _ (.group cols so) ((s1.trans s2).trans (same_upd hb).b) (p2.same (same_upd hb)) upd_same rfl (fun z => nomatch z) (.group rfl (Da.same (same_upd hb) _ _ (Da.st (p1.st s2) _ _ (imm_mo cols) hdk)) (Da.same (same_upd hb) _ _ hds)) (.group hlk hok hso) rfl
  · refine ⟨.str "top", rfl, rfl, _, rfl, iteN (strNe (by decide +kernel)) ?_⟩
    refine ⟨.str "top", rfl, rfl, _, rfl, iteN (strNe (by decide +kernel)) ?_⟩
    refine ⟨.ref p, rfl, .int l, rfl, p, l, rfl, hp, hl, fun H1 vk cols s1 p1 hdk hlk hok => ?_⟩
    refine ⟨.str "top", rfl, rfl, _, rfl, iteN (strNe (by decide +kernel)) ?_⟩
    refine ⟨.str "top", rfl, v1, rfl, vk, rfl, .ref p, rfl, p, rfl, p1, fun H2 m s2 p2 hm1 _ => ⟨by show 4 ≤ sizeLine; decide, fun b hb => ?_⟩⟩
    exact q _ b _ (.top cols m) ((s1.trans s2).trans (same_upd hb).b) (p2.same (same_upd hb)) upd_same rfl (fun z => nomatch z) (.top rfl (Da.same (same_upd hb) _ _ (Da.st (p1.st s2) _ _ (imm_mo cols) hdk))) (.top hlk hok hm1) rfl
end
end K18

namespace K18
open PySem PySem.Spec PyProof.Rows L2 RW9 Tl
/-! ### how great things get -/
def absS (L : Tly) : Nat := (L.map fun p => p.2.natAbs).sum
structure Lim (w N B S : Nat) (L : Tly) : Prop where
  wid : ∀ p ∈ L, p.1.length = w
  len : L.length ≤ N
  val : ∀ p ∈ L, ∀ x ∈ p.1, x.natAbs < 2 ^ B
  sum : absS L < 2 ^ S
theorem pow_le {a b : Nat} (h : a ≤ b) : (2 : Nat) ^ a ≤ 2 ^ b := Nat.pow_le_pow_right (by decide) h
theorem Lim.mono {w N B S N' B' S' : Nat} {L : Tly} (h : Lim w N B S L) (h1 : N ≤ N') (h2 : B ≤ B') (h3 : S ≤ S') : Lim w N' B' S' L :=
  ⟨h.wid, Nat.le_trans h.len h1, fun p hp x hx => Nat.lt_of_lt_of_le (h.val p hp x hx) (pow_le h2), Nat.lt_of_lt_of_le h.sum (pow_le h3)⟩
theorem abs_cons (p : List Int × Int) (L : Tly) : absS (p :: L) = p.2.natAbs + absS L := by simp [absS]
theorem abs_append (L M : Tly) : absS (L ++ M) = absS L + absS M := by simp [absS]
theorem abs_mem {L : Tly} {p : List Int × Int} (h : p ∈ L) : p.2.natAbs ≤ absS L := by
  induction L with
  | nil => cases h
  | cons q L ih =>
    rw [abs_cons]
    rcases List.mem_cons.mp h with rfl | h
    · omega
    · have := ih h
      omega
theorem abs_filter (f : List Int × Int → Bool) (L : Tly) : absS (L.filter f) ≤ absS L := by
  induction L with
  | nil => exact Nat.le_refl _
  | cons q L ih =>
    rw [abs_cons, List.filter_cons]
    split
    · rw [abs_cons]
      omega
    · omega
theorem abs_perm {L M : Tly} (h : L.Perm M) : absS L = absS M := (h.map fun p : List Int × Int => p.2.natAbs).sum_nat
theorem Lim.perm {w N B S : Nat} {L M : Tly} (h : Lim w N B S L) (p : M.Perm L) : Lim w N B S M :=
  ⟨fun q hq => h.wid q (p.mem_iff.mp hq), by rw [p.length_eq]; exact h.len, fun q hq => h.val q (p.mem_iff.mp hq), by rw [abs_perm p]; exact h.sum⟩
/-- the sum of the counts of one row is no greater -/
theorem cnt_abs (L : Tly) (k : List Int) : (Tl.cnt L k).natAbs ≤ absS (L.filter fun p => decide (p.1 = k)) := by
  induction L with
  | nil => exact Nat.le_refl _
  | cons q L ih =>
    show ((if q.1 = k then q.2 else 0) + Tl.cnt L k).natAbs ≤ _
    rw [List.filter_cons]
    by_cases h : q.1 = k
    · rw [if_pos h, if_pos (decide_eq_true h), abs_cons]
      have := Int.natAbs_add_le q.2 (Tl.cnt L k)
      omega
    · rw [if_neg h, if_neg (by simp [h])]
      simpa using ih
theorem abs_split (L : Tly) (f : List Int × Int → Bool) : absS (L.filter f) + absS (L.filter fun p => !f p) = absS L := by
  induction L with
  | nil => rfl
  | cons q L ih =>
    rw [List.filter_cons, List.filter_cons, abs_cons]
    cases f q
    · simp only [Bool.false_eq_true, if_false, Bool.not_false, if_true, abs_cons]
      omega
    · simp only [Bool.not_true, Bool.false_eq_true, if_false, if_true, abs_cons]
      omega
theorem cnt_other (L : Tly) {a k : List Int} (h : k ≠ a) : Tl.cnt (L.filter fun q => !decide (q.1 = a)) k = Tl.cnt L k := by
  induction L with
  | nil => rfl
  | cons r L ih =>
    by_cases e : r.1 = a
    · rw [List.filter_cons_of_neg (by simp [e]), ih]
      show _ = (if r.1 = k then r.2 else 0) + Tl.cnt L k
      rw [if_neg (by rw [e]; exact fun z => h z.symm), Int.zero_add]
    · rw [List.filter_cons_of_pos (by simp [e])]
      show (if r.1 = k then r.2 else 0) + Tl.cnt _ k = (if r.1 = k then r.2 else 0) + Tl.cnt L k
      rw [ih]
/-- a tally of a list is no greater than the list -/
theorem fin_abs : ∀ (T L : Tly), (keys T).Nodup → (∀ p ∈ T, p.2 = Tl.cnt L p.1) → absS T ≤ absS L
  | [], L, _, _ => Nat.zero_le _
  | p :: T, L, nd, h => by
    rw [abs_cons]
    have nd' := List.nodup_cons.mp nd
    have h1 := cnt_abs L p.1
    rw [← h p (List.mem_cons_self ..)] at h1
    have h2 := fin_abs T (L.filter fun q => !decide (q.1 = p.1)) nd'.2 fun q hq => by
      rw [h q (List.mem_cons_of_mem _ hq), cnt_other L (a := p.1) fun e => nd'.1 (List.mem_map.mpr ⟨q, hq, e⟩)]
    have h3 := abs_split L fun q => decide (q.1 = p.1)
    omega
theorem nodup_le {α : Type} [DecidableEq α] : ∀ (l m : List α), l.Nodup → (∀ x ∈ l, x ∈ m) → l.length ≤ m.length
  | [], m, _, _ => Nat.zero_le _
  | a :: l, m, nd, h => by
    have nd' := List.nodup_cons.mp nd
    have ha := h a (List.mem_cons_self ..)
    have := nodup_le l (m.erase a) nd'.2 fun x hx => (List.mem_erase_of_ne (fun (e : x = a) => nd'.1 (by rw [← e]; exact hx))).mpr (h x (List.mem_cons_of_mem _ hx))
    rw [List.length_erase_of_mem ha] at this
    have := List.length_pos_of_mem ha
    simp only [List.length_cons]
    omega
theorem fin_len {T L : Tly} (nd : (keys T).Nodup) (h : ∀ p ∈ T, p.1 ∈ keys L) : T.length ≤ L.length := by
  have := nodup_le (keys T) (keys L) nd fun k hk => by
    obtain ⟨p, hp, rfl⟩ := List.mem_map.mp hk
    exact h p hp
  simpa using this
/-- what a tally of a list keeps -/
theorem Lim.fin {w N B S : Nat} {T L : Tly} (h : Lim w N B S L) (F : Fin T) (hc : ∀ k, Tl.cnt T k = Tl.cnt L k) (hk : ∀ p ∈ T, p.1 ∈ keys L) : Lim w N B S T where
  wid p hp := by
    obtain ⟨q, hq, e⟩ := List.mem_map.mp (hk p hp)
    rw [← e]
    exact h.wid q hq
  len := Nat.le_trans (fin_len F.nd hk) h.len
  val p hp x hx := by
    obtain ⟨q, hq, e⟩ := List.mem_map.mp (hk p hp)
    rw [← e] at hx
    exact h.val q hq x hx
  sum := Nat.lt_of_le_of_lt (fin_abs T L F.nd fun p hp => by rw [← hc, cnt_in F.nd hp]) h.sum
end K18

namespace K18
open PySem PySem.Spec PyProof.Rows L2 RW9 Tl
theorem small2 {x : Int} (h : Small x) : x.natAbs < 2 ^ 103 := Nat.lt_of_lt_of_le h (by decide)
theorem getD_lt {row : List Int} {B : Nat} (h : ∀ x ∈ row, x.natAbs < 2 ^ B) (i : Nat) : (row.getD i 0).natAbs < 2 ^ B := by
  rw [List.getD_eq_getElem?_getD]
  cases e : row[i]? with
  | none => exact Nat.two_pow_pos B
  | some x => exact h x (List.mem_of_getElem? e)
theorem VOk.of {n B : Nat} {t : Tm} {row : List Int} (ok : TmOk n t) (hl : row.length = n) (hv : ∀ x ∈ row, x.natAbs < 2 ^ B) (hB : 0 < B) (hB2 : B ≤ 500000) : VOk t row where
  len := Nat.le_trans ok.len (by decide)
  col q hq := by
    have := ok.col q hq
    rw [hl]
    exact ⟨this.1, this.2.1⟩
  mul q hq := wide_mul (small2 (ok.col q hq).2.2) (getD_lt hv _) (by decide) hB (by omega)
theorem valP_lt {B : Nat} {row : List Int} (hv : ∀ x ∈ row, x.natAbs < 2 ^ B) : ∀ (l : List (Int × Int)), (∀ q ∈ l, Small q.2) → (valP l row).natAbs ≤ l.length * (2 ^ 103 * 2 ^ B)
  | [], _ => by simp [valP]
  | q :: l, h => by
    have h1 := valP_lt hv l fun x hx => h x (List.mem_cons_of_mem _ hx)
    have h2 := small2 (h q (List.mem_cons_self ..))
    have h3 := getD_lt hv q.1.toNat
    have e : valP (q :: l) row = q.2 * row.getD q.1.toNat 0 + valP l row := by simp [valP]
    have h4 := Int.natAbs_add_le (q.2 * row.getD q.1.toNat 0) (valP l row)
    have h5 : (q.2 * row.getD q.1.toNat 0).natAbs ≤ 2 ^ 103 * 2 ^ B := by
      rw [Int.natAbs_mul]
      exact Nat.mul_le_mul (Nat.le_of_lt h2) (Nat.le_of_lt h3)
    rw [e, List.length_cons, Nat.succ_mul]
    omega
theorem valT_lt {n B : Nat} {t : Tm} {row : List Int} (ok : TmOk n t) (hv : ∀ x ∈ row, x.natAbs < 2 ^ B) : (valT t row).natAbs < 2 ^ (B + 111) := by
  have h1 := valP_lt hv t.2 fun q hq => (ok.col q hq).2.2
  have h2 := small2 ok.con
  have h3 := Int.natAbs_add_le t.1 (valP t.2 row)
  have h4 : t.2.length * (2 ^ 103 * 2 ^ B) ≤ 100 * (2 ^ 103 * 2 ^ B) := Nat.mul_le_mul_right _ ok.len
  have h5 : 2 ^ (B + 111) = 256 * (2 ^ 103 * 2 ^ B) := by
    rw [Nat.pow_add, show (2 : Nat) ^ 111 = 256 * 2 ^ 103 by decide]
    generalize (2 : Nat) ^ 103 = x
    generalize 2 ^ B = y
    rw [Nat.mul_comm y, Nat.mul_assoc]
  have h6 : 2 ^ 103 * 1 ≤ 2 ^ 103 * 2 ^ B := Nat.mul_le_mul_left _ (Nat.two_pow_pos B)
  have h7 : (valT t row).natAbs ≤ t.1.natAbs + (valP t.2 row).natAbs := h3
  rw [h5]
  omega
/-! ### rows sorted -/
def srtT (L : Tly) : Tly := L.mergeSort fun p q => !ltR q.1 p.1
theorem srtT_perm (L : Tly) : (srtT L).Perm L := List.mergeSort_perm ..
theorem srtT_sort (L : Tly) : SortL (srtT L) := by
  have h := List.pairwise_mergeSort (le := fun (p q : List Int × Int) => !ltR q.1 p.1) (fun a b c h1 h2 => ?_) (fun a b => ?_) L
  · exact h.imp fun {p q} h => by simpa using h
  · unfold ltR at h1 h2 ⊢
    simp only [Bool.not_eq_true', decide_eq_false_iff_not] at h1 h2 ⊢
    exact List.le_trans h1 h2
  · unfold ltR
    simp only [Bool.or_eq_true, Bool.not_eq_true', decide_eq_false_iff_not]
    exact List.le_total a.1 b.1
theorem abs_count {l : List (List Int)} {f : List Int → List Int × Int} (h : ∀ k, (f k).2 = 1) : absS (l.map f) = l.length := by
  induction l with
  | nil => rfl
  | cons k l ih =>
    rw [List.map_cons, abs_cons, ih, h, List.length_cons]
    show 1 + l.length = l.length + 1
    omega
theorem abs_distinct (L : Tly) : absS (distinctL L) = (posL L).length := by
  unfold distinctL
  generalize posL L = M
  induction M with
  | nil => rfl
  | cons p M ih =>
    rw [List.map_cons, abs_cons, ih, List.length_cons]
    show 1 + M.length = M.length + 1
    omega
theorem abs_sum (G : Tly) : (G.map fun p : List Int × Int => p.2).sum.natAbs ≤ absS G := by
  induction G with
  | nil => exact Nat.le_refl _
  | cons p G ih =>
    rw [List.map_cons, List.sum_cons, abs_cons]
    have := Int.natAbs_add_le p.2 (G.map fun p : List Int × Int => p.2).sum
    omega
theorem abs_mul {B : Nat} {c : Int} : ∀ (G : Tly), (∀ p ∈ G, ∀ x ∈ p.1, x.natAbs < 2 ^ B) → (G.map fun p => p.2 * colV c p.1).sum.natAbs ≤ absS G * 2 ^ B
  | [], _ => by simp [absS]
  | p :: G, h => by
    have ih := abs_mul (c := c) G fun q hq => h q (List.mem_cons_of_mem _ hq)
    rw [List.map_cons, List.sum_cons, abs_cons, Nat.add_mul]
    have h1 := Int.natAbs_add_le (p.2 * colV c p.1) (G.map fun p => p.2 * colV c p.1).sum
    have h2 : (p.2 * colV c p.1).natAbs ≤ p.2.natAbs * 2 ^ B := by
      rw [Int.natAbs_mul]
      exact Nat.mul_le_mul_left _ (Nat.le_of_lt (getD_lt (h p (List.mem_cons_self ..)) _))
    omega
theorem valG_lt {B S : Nat} {s : Srt} {G : Tly} (h : ∀ p ∈ G, ∀ x ∈ p.1, x.natAbs < 2 ^ B) (hS : absS G < 2 ^ S) : (valG s G).natAbs < 2 ^ (B + S) := by
  have b1 : (2 : Nat) ^ B ≤ 2 ^ (B + S) := pow_le (by omega)
  have b2 : (2 : Nat) ^ S ≤ 2 ^ (B + S) := pow_le (by omega)
  have p0 := Nat.two_pow_pos (B + S)
  have ls : ∀ {l : List Int} {f : List Int → Int}, (f l = 0 ∨ f l ∈ l) → (∀ x ∈ l, x.natAbs < 2 ^ B) → (f l).natAbs < 2 ^ (B + S) := fun {l f} h1 h2 => by
    rcases h1 with h1 | h1
    · rw [h1]
      exact p0
    · have := h2 _ h1
      omega
  have cv : ∀ x ∈ G.map (fun p => colV s.c p.1), x.natAbs < 2 ^ B := fun x hx => by
    obtain ⟨p, hp, rfl⟩ := List.mem_map.mp hx
    exact getD_lt (h p hp) _
  unfold valG
  split
  · have := abs_sum G
    omega
  · split
    · have := abs_mul (c := s.c) G h
      rw [Nat.pow_add, Nat.mul_comm]
      exact Nat.lt_of_le_of_lt this (Nat.mul_lt_mul_of_pos_right hS (Nat.two_pow_pos B))
    · split
      · refine ls (f := lsMin) ?_ cv
        by_cases e : (G.map fun p => colV s.c p.1) = []
        · rw [e]
          exact .inl rfl
        · exact .inr (lsMin_spec e).1
      · refine ls (f := lsMax) ?_ cv
        by_cases e : (G.map fun p => colV s.c p.1) = []
        · rw [e]
          exact .inl rfl
        · exact .inr (lsMax_spec e).1
theorem abs_topW (cols : List Int) : ∀ (room : List Int → Int) (S : Tly), (∀ w, 0 ≤ room w) → (∀ p ∈ S, 0 < p.2) → absS (topW cols room S) ≤ absS S
  | _, [], _, _ => Nat.le_refl _
  | room, p :: S, h, hp => by
    have h0 := hp p (List.mem_cons_self ..)
    have hr := h (pickL cols p.1)
    have hm1 := Int.min_le_left p.2 (room (pickL cols p.1))
    have hm0 : 0 ≤ min p.2 (room (pickL cols p.1)) := Int.le_min.mpr ⟨by omega, hr⟩
    have hm2 := Int.min_le_right p.2 (room (pickL cols p.1))
    show absS ((p.1, min p.2 (room (pickL cols p.1))) :: topW cols _ S) ≤ _
    rw [abs_cons, abs_cons]
    have ih := abs_topW cols (fun x => if x = pickL cols p.1 then room x - min p.2 (room (pickL cols p.1)) else room x) S (fun w => by
      show 0 ≤ if w = pickL cols p.1 then _ else _
      split
      · next e =>
        rw [e]
        omega
      · exact h w) fun q hq => hp q (List.mem_cons_of_mem _ hq)
    show (min p.2 (room (pickL cols p.1))).natAbs + _ ≤ _
    omega
theorem abs_posL (L : Tly) : absS (posL L) ≤ absS L := abs_filter _ _
/-! ### what a node makes -/
def rOf : Nd → Tly → Tly → Tly
  | .choose l, L, _ => chooseL l L
  | .map ts, L, _ => mapL ts L
  | .join cols, L, M => joinL cols L M
  | .plus, L, M => L ++ M
  | .less, L, M => lessL L M
  | .distinct, L, _ => distinctL L
  | .without cols, L, M => withoutL cols L M
  | .group cols s, L, _ => groupL s cols L
  | .top cols m, L, _ => topL cols m (srtT (posL L))
def lsOf : Nd → Tly → Tly → List Tly
  | .choose _, L, _ => [L]
  | .map _, L, _ => [L]
  | .distinct, L, _ => [L]
  | .group _ _, L, _ => [L]
  | .top _ _, L, _ => [L]
  | _, L, M => [L, M]
def wOf : Nd → Nat → Nat → Nat
  | .choose _, l, _ => l
  | .map ts, _, _ => ts.length
  | .join _, l, r => l + r
  | .group cols _, _, _ => cols.length + 1
  | _, l, _ => l
/-- plus and less want equal widths -/
def Fits : Nd → Nat → Nat → Prop
  | .plus, l, r => l = r
  | .less, l, r => l = r
  | _, _, _ => True
theorem abs_join (cols : List (Int × Int)) (L M : Tly) : absS (joinL cols L M) ≤ absS L * absS M := by
  unfold joinL
  induction L with
  | nil => simp [absS]
  | cons p L ih =>
    rw [List.map_cons, List.flatten_cons, abs_append, abs_cons, Nat.add_mul]
    have h1 : absS ((inG (cols.map (·.2)) (pickL (cols.map (·.1)) p.1) M).map fun q => (p.1 ++ q.1, p.2 * q.2)) ≤ p.2.natAbs * absS M := by
      refine Nat.le_trans (m := p.2.natAbs * absS (inG (cols.map (·.2)) (pickL (cols.map (·.1)) p.1) M)) ?_ (Nat.mul_le_mul_left _ (abs_filter _ _))
      generalize inG (cols.map (·.2)) (pickL (cols.map (·.1)) p.1) M = G
      induction G with
      | nil => simp [absS]
      | cons q G ih =>
        rw [List.map_cons, abs_cons, abs_cons, Nat.mul_add, Int.natAbs_mul]
        omega
    omega
theorem join_mem {cols : List (Int × Int)} {L M : Tly} {p : List Int × Int} (h : p ∈ joinL cols L M) : ∃ a ∈ L, ∃ b ∈ M, p = (a.1 ++ b.1, a.2 * b.2) := by
  unfold joinL at h
  obtain ⟨l, hl, hp⟩ := List.mem_flatten.mp h
  obtain ⟨a, ha, rfl⟩ := List.mem_map.mp hl
  obtain ⟨b, hb, rfl⟩ := List.mem_map.mp hp
  exact ⟨a, ha, b, (List.mem_filter.mp hb).1, rfl⟩
theorem abs_neg (M : Tly) : absS (M.map fun p => (p.1, -p.2)) = absS M := by
  induction M with
  | nil => rfl
  | cons p M ih =>
    rw [List.map_cons, abs_cons, abs_cons, ih, Int.natAbs_neg]
theorem lim_of {l r N1 N2 B S1 S2 : Nat} {nd : Nd} {L M : Tly} (ok : NdOk l r nd) (ft : Fits nd l r) (hL : Lim l N1 B S1 L) (hM : Lim r N2 B S2 M) (hN : N1 ≤ 5000) : Lim (wOf nd l r) (N1 * N2 + N1 + N2) (B + S1 + 111) (S1 + S2 + 13) (rOf nd L M) := by
  have hS : 2 ^ S1 + 2 ^ S2 ≤ 2 ^ (S1 + S2 + 13) := by
    have h1 : (2 : Nat) ^ S1 ≤ 2 ^ (S1 + S2) := pow_le (by omega)
    have h2 : (2 : Nat) ^ S2 ≤ 2 ^ (S1 + S2) := pow_le (by omega)
    have h3 : (2 : Nat) ^ (S1 + S2 + 1) ≤ 2 ^ (S1 + S2 + 13) := pow_le (by omega)
    rw [Nat.pow_succ] at h3
    omega
  have h13 : 5000 < (2 : Nat) ^ (S1 + S2 + 13) := Nat.lt_of_lt_of_le (by decide : 5000 < 2 ^ 13) (pow_le (by omega))
  have hS1 : (2 : Nat) ^ S1 ≤ 2 ^ (S1 + S2 + 13) := pow_le (by omega)
  have hB : (2 : Nat) ^ B ≤ 2 ^ (B + S1 + 111) := pow_le (by omega)
  have sL := hL.sum
  have sM := hM.sum
  have nL := hL.len
  have nM := hM.len
  have plusLim : ∀ M' : Tly, absS M' = absS M → M'.length = M.length → (∀ p ∈ M', ∃ q ∈ M, p.1 = q.1) → l = r → Lim l (N1 * N2 + N1 + N2) (B + S1 + 111) (S1 + S2 + 13) (L ++ M') := fun M' e1 e2 e3 e4 => by
    refine ⟨fun p hp => ?_, by rw [List.length_append]; omega, fun p hp x hx => ?_, by rw [abs_append]; omega⟩
    · rcases List.mem_append.mp hp with hp | hp
      · exact hL.wid p hp
      · obtain ⟨q, hq, e⟩ := e3 p hp
        rw [e, e4]
        exact hM.wid q hq
    · rcases List.mem_append.mp hp with hp | hp
      · exact Nat.lt_of_lt_of_le (hL.val p hp x hx) hB
      · obtain ⟨q, hq, e⟩ := e3 p hp
        rw [e] at hx
        exact Nat.lt_of_lt_of_le (hM.val q hq x hx) hB
  cases ok with
  | @choose ts hl hok =>
    refine ⟨fun p hp => hL.wid p (List.mem_filter.mp hp).1, ?_, fun p hp x hx => Nat.lt_of_lt_of_le (hL.val p (List.mem_filter.mp hp).1 x hx) hB, ?_⟩
    · have : (chooseL ts L).length ≤ L.length := List.length_filter_le _ _
      show (chooseL ts L).length ≤ _
      omega
    · have : absS (chooseL ts L) ≤ absS L := abs_filter _ _
      show absS (chooseL ts L) < _
      omega
  | @map ts hl hok =>
    have e : absS (mapL ts L) = absS L := by
      unfold mapL absS
      rw [List.map_map]
      rfl
    refine ⟨fun p hp => ?_, by show (mapL ts L).length ≤ _; unfold mapL; rw [List.length_map]; omega, fun p hp x hx => ?_, by show absS (mapL ts L) < _; omega⟩
    · obtain ⟨q, hq, rfl⟩ := List.mem_map.mp hp
      show (midT ts q.1).length = ts.length
      unfold midT
      rw [List.length_map]
    · obtain ⟨q, hq, rfl⟩ := List.mem_map.mp hp
      obtain ⟨t, ht, rfl⟩ := List.mem_map.mp hx
      exact Nat.lt_of_lt_of_le (valT_lt (hok t ht) (hL.val q hq)) (pow_le (by omega))
  | @join cols hl hok =>
    refine ⟨fun p hp => ?_, ?_, fun p hp x hx => ?_, ?_⟩
    · obtain ⟨a, ha, b, hb, rfl⟩ := join_mem hp
      show (a.1 ++ b.1).length = l + r
      rw [List.length_append, hL.wid a ha, hM.wid b hb]
    · have h1 := join_len cols L M
      have h2 := Nat.mul_le_mul nL nM
      show (joinL cols L M).length ≤ _
      omega
    · obtain ⟨a, ha, b, hb, rfl⟩ := join_mem hp
      rcases List.mem_append.mp hx with hx | hx
      · exact Nat.lt_of_lt_of_le (hL.val a ha x hx) hB
      · exact Nat.lt_of_lt_of_le (hM.val b hb x hx) hB
    · have h1 := abs_join cols L M
      have h2 : absS L * absS M ≤ 2 ^ S1 * 2 ^ S2 := Nat.mul_le_mul (Nat.le_of_lt sL) (Nat.le_of_lt sM)
      show absS (joinL cols L M) < _
      rw [Nat.pow_add, Nat.pow_add]
      have h3 : 0 < 2 ^ S1 * 2 ^ S2 := Nat.mul_pos (Nat.two_pow_pos _) (Nat.two_pow_pos _)
      have h4 : (2 : Nat) ^ 13 = 8192 := by decide
      rw [h4]
      omega
  | plus => exact plusLim M rfl rfl (fun p hp => ⟨p, hp, rfl⟩) ft
  | less => exact plusLim _ (abs_neg M) (List.length_map _) (fun p hp => by
      obtain ⟨q, hq, rfl⟩ := List.mem_map.mp hp
      exact ⟨q, hq, rfl⟩) ft
  | distinct =>
    have hn : (posL L).length ≤ L.length := List.length_filter_le _ _
    refine ⟨fun p hp => ?_, ?_, fun p hp x hx => ?_, ?_⟩
    · obtain ⟨q, hq, rfl⟩ := List.mem_map.mp hp
      exact hL.wid q (List.mem_filter.mp hq).1
    · show (distinctL L).length ≤ _
      unfold distinctL
      rw [List.length_map]
      omega
    · obtain ⟨q, hq, rfl⟩ := List.mem_map.mp hp
      exact Nat.lt_of_lt_of_le (hL.val q (List.mem_filter.mp hq).1 x hx) hB
    · show absS (distinctL L) < _
      rw [abs_distinct]
      omega
  | @without cols hl hok =>
    refine ⟨fun p hp => hL.wid p (List.mem_filter.mp hp).1, ?_, fun p hp x hx => Nat.lt_of_lt_of_le (hL.val p (List.mem_filter.mp hp).1 x hx) hB, ?_⟩
    · have : (withoutL cols L M).length ≤ L.length := List.length_filter_le _ _
      show (withoutL cols L M).length ≤ _
      omega
    · have : absS (withoutL cols L M) ≤ absS L := abs_filter _ _
      show absS (withoutL cols L M) < _
      omega
  | @group cols s hl hok hso =>
    have hlen : (groupL s cols L).length ≤ L.length := by
      unfold groupL
      rw [List.length_map]
      refine Nat.le_trans (len_ded _) ?_
      rw [List.length_map]
      unfold relL
      split
      · exact List.length_filter_le _ _
      · exact Nat.le_refl _
    have sub : ∀ k (p : List Int × Int), p ∈ inG cols k (relL s L) → p ∈ L := fun k p hp => rel_sub p (List.mem_filter.mp hp).1
    have absG : ∀ k, absS (inG cols k (relL s L)) < 2 ^ S1 := fun k => by
      refine Nat.lt_of_le_of_lt (Nat.le_trans (abs_filter _ _) ?_) sL
      unfold relL
      split
      · exact abs_posL L
      · exact Nat.le_refl _
    refine ⟨fun p hp => ?_, by show (groupL s cols L).length ≤ _; omega, fun p hp x hx => ?_, ?_⟩
    · obtain ⟨k, hk, rfl⟩ := List.mem_map.mp hp
      obtain ⟨q, _, rfl⟩ := List.mem_map.mp (mem_ded.mp hk)
      show (pickL cols q.1 ++ [_]).length = cols.length + 1
      simp [pickL]
    · obtain ⟨k, hk, rfl⟩ := List.mem_map.mp hp
      obtain ⟨q, hq, rfl⟩ := List.mem_map.mp (mem_ded.mp hk)
      rcases List.mem_append.mp hx with hx | hx
      · obtain ⟨c, _, rfl⟩ := List.mem_map.mp hx
        exact Nat.lt_of_lt_of_le (getD_lt (hL.val q (rel_sub q hq)) _) hB
      · rw [List.mem_singleton.mp hx]
        exact Nat.lt_of_lt_of_le (valG_lt (fun p hp => hL.val p (sub _ p hp)) (absG _)) (pow_le (by omega))
    · have e : absS (groupL s cols L) = (groupL s cols L).length := by
        unfold groupL
        rw [abs_count fun _ => rfl, List.length_map]
      show absS (groupL s cols L) < _
      omega
  | @top cols m hl hok hm =>
    have hk : ∀ p ∈ topL cols m (srtT (posL L)), ∃ q ∈ L, q.1 = p.1 := fun p hp => by
      have : p.1 ∈ keys (topL cols m (srtT (posL L))) := List.mem_map.mpr ⟨p, hp, rfl⟩
      rw [topL, keys_topW] at this
      obtain ⟨q, hq, e⟩ := List.mem_map.mp this
      exact ⟨q, (List.mem_filter.mp ((srtT_perm _).mem_iff.mp hq)).1, e⟩
    refine ⟨fun p hp => ?_, ?_, fun p hp x hx => ?_, ?_⟩
    · obtain ⟨q, hq, e⟩ := hk p hp
      rw [← e]
      exact hL.wid q hq
    · have h1 := congrArg List.length (keys_topW cols (fun _ => m) (srtT (posL L)))
      rw [List.length_map, List.length_map, (srtT_perm _).length_eq] at h1
      have h2 : (posL L).length ≤ L.length := List.length_filter_le _ _
      show (topL cols m (srtT (posL L))).length ≤ _
      unfold topL
      omega
    · obtain ⟨q, hq, e⟩ := hk p hp
      rw [← e] at hx
      exact Nat.lt_of_lt_of_le (hL.val q hq x hx) hB
    · have h1 := abs_topW cols (fun _ => m) (srtT (posL L)) (fun _ => by omega) fun p hp => of_decide_eq_true (List.mem_filter.mp ((srtT_perm _).mem_iff.mp hp)).2
      rw [abs_perm (srtT_perm _)] at h1
      have h2 := abs_posL L
      show absS (topL cols m (srtT (posL L))) < _
      unfold topL
      omega
theorem part_of {K : PySem.W.Frag} {H : Hp} {xs : List V} {l r N1 N2 B S1 S2 : Nat} {nd : Nd} {L M : Tly} (at' : NdAt K H xs nd) (ok : NdOk l r nd) (hL : Lim l N1 B S1 L) (hM : Lim r N2 B S2 M) (F : Fin L) (hB : 0 < B) (hB2 : B ≤ 500000) (hS1 : 0 < S1) (hS2 : 0 < S2) (hS : S1 + S2 ≤ 1000000) (hN : N1 * N2 + N1 + N2 ≤ 5000) (hw : l + r ≤ 1000) (hSB : S1 + B ≤ 1000000) :
    Part K H xs (lsOf nd L M) (rOf nd L M) := by
  have nL := hL.len
  have nM := hM.len
  cases at' with
  | choose h0 h2 hd =>
    cases ok with
    | choose hl hok => exact .choose h0 h2 hd F (by omega) fun p hp x hx => ⟨VOk.of (hok x hx).l (hL.wid p hp) (hL.val p hp) hB hB2, (hok x hx).k, VOk.of (hok x hx).r (hL.wid p hp) (hL.val p hp) hB hB2⟩
  | map h0 h2 hd =>
    cases ok with
    | map hl hok => exact .map h0 h2 hd (by omega) fun p hp x hx => VOk.of (hok x hx) (hL.wid p hp) (hL.val p hp) hB hB2
  | @join v cols h0 h3 hd =>
    cases ok with
    | join hl hok =>
      refine .join h0 h3 hd ⟨by omega, fun p hp c hc => ?_, fun p hp c hc => ?_, fun p hp q hq => ?_, ?_, fun p hp q hq => ?_⟩
      · obtain ⟨x, hx, rfl⟩ := List.mem_map.mp hc
        rw [hL.wid p hp]
        exact (hok x hx).1
      · obtain ⟨x, hx, rfl⟩ := List.mem_map.mp hc
        rw [hM.wid p hp]
        exact (hok x hx).2
      · exact wide_mul (Nat.lt_of_le_of_lt (abs_mem hp) hL.sum) (Nat.lt_of_le_of_lt (abs_mem hq) hM.sum) hS1 hS2 hS
      · have := Nat.mul_le_mul nL nM
        omega
      · rw [hL.wid p hp, hM.wid q hq]
        exact hw
  | plus h0 => exact .plus h0 (by omega)
  | less h0 => exact .less h0 (by omega)
  | distinct hx =>
    subst hx
    exact .distinct rfl
  | without hx hd =>
    subst hx
    cases ok with
    | without hl hok =>
      refine .without rfl rfl hd F ⟨by omega, fun p hp c hc => ?_, fun p hp c hc => ?_⟩
      · obtain ⟨x, hx, rfl⟩ := List.mem_map.mp hc
        rw [hL.wid p hp]
        exact (hok x hx).1
      · obtain ⟨x, hx, rfl⟩ := List.mem_map.mp hc
        rw [hM.wid p hp]
        exact (hok x hx).2
  | group hx h2 h3 =>
    cases ok with
    | group hl hok hso =>
      refine .group hx h2 h3 ⟨by omega, fun p hp c hc => ?_, ⟨hso.k, fun e p hp => ?_, fun e p hp => ?_⟩⟩
      · rw [hL.wid p hp]
        exact hok c hc
      · rw [hL.wid p hp]
        exact hso.c e
      · exact wide_mul (Nat.lt_of_le_of_lt (abs_mem hp) hL.sum) (getD_lt (hL.val p hp) _) hS1 hB hSB
  | top hx h2 =>
    cases ok with
    | top hl hok hm =>
      refine .top hx h2 ⟨by omega, fun p hp c hc => ?_, hm, fun h2' hin => ?_⟩ (srtT_perm _) (srtT_sort _)
      · rw [hL.wid p hp]
        exact hok c hc
      · exact oneW_nil (n := l) hL.wid F.nd h2' hin
/-! ### the order of the tallies matters not -/
theorem sum_perm {l m : List Int} (h : l.Perm m) : l.sum = m.sum := by
  induction h with
  | nil => rfl
  | cons x _ ih => simp [ih]
  | swap x y l =>
    simp only [List.sum_cons]
    omega
  | trans _ _ h1 h2 => exact h1.trans h2
theorem ls_perm {l m : List Int} (h : l.Perm m) : lsMin l = lsMin m ∧ lsMax l = lsMax m := by
  by_cases e : l = []
  · subst e
    rw [h.symm.eq_nil]
    exact ⟨rfl, rfl⟩
  · obtain ⟨a1, a2⟩ := lsMin_spec e
    obtain ⟨b1, b2⟩ := lsMax_spec e
    exact ⟨lsMin_eq (h.mem_iff.mp a1) fun y hy => a2 y (h.mem_iff.mpr hy), lsMax_eq (h.mem_iff.mp b1) fun y hy => b2 y (h.mem_iff.mpr hy)⟩
theorem valG_perm {s : Srt} {G G' : Tly} (h : G.Perm G') : valG s G = valG s G' := by
  unfold valG
  rw [sum_perm (h.map (·.2)), sum_perm (h.map fun p => p.2 * colV s.c p.1), (ls_perm (h.map fun p => colV s.c p.1)).1, (ls_perm (h.map fun p => colV s.c p.1)).2]
theorem rOf_cnt {nd : Nd} {L L' M M' : Tly} (h : L.Perm L') (g : M.Perm M') (F : Fin L) (k : List Int) : Tl.cnt (rOf nd L M) k = Tl.cnt (rOf nd L' M') k := by
  cases nd with
  | choose l => exact cnt_perm (h.filter _) k
  | map ts => exact cnt_perm (h.map _) k
  | join cols =>
    refine cnt_perm ?_ k
    show (joinL cols L M).Perm (joinL cols L' M')
    unfold joinL
    refine List.Perm.trans (h.map _).flatten ?_
    clear h
    induction L' with
    | nil => exact .refl _
    | cons p L' ih =>
      rw [List.map_cons, List.map_cons, List.flatten_cons, List.flatten_cons]
      exact ((g.filter _).map _).append ih
  | plus => exact cnt_perm (h.append g) k
  | less => exact cnt_perm (h.append (g.map _)) k
  | distinct => exact cnt_perm ((h.filter _).map _) k
  | without cols =>
    refine cnt_perm ?_ k
    have e : ∀ r, matchB cols M r = matchB cols M' r := fun r => by
      unfold matchB
      rw [Bool.eq_iff_iff, List.any_eq_true, List.any_eq_true]
      have gp : (posL M).Perm (posL M') := g.filter _
      exact ⟨fun ⟨q, hq, z⟩ => ⟨q, gp.mem_iff.mp hq, z⟩, fun ⟨q, hq, z⟩ => ⟨q, gp.mem_iff.mpr hq, z⟩⟩
    show (withoutL cols L M).Perm (withoutL cols L' M')
    unfold withoutL
    rw [show (fun p : List Int × Int => !matchB cols M p.1) = fun p => !matchB cols M' p.1 from funext fun p => by rw [e]]
    exact h.filter _
  | group cols s =>
    refine cnt_perm ?_ k
    have hr : (relL s L).Perm (relL s L') := by
      unfold relL
      split
      · exact h.filter _
      · exact h
    show (groupL s cols L).Perm (groupL s cols L')
    unfold groupL
    generalize relL s L = A at hr
    generalize relL s L' = B at hr
    rw [show grpRow s cols A = grpRow s cols B from funext fun k => by
      unfold grpRow
      rw [valG_perm (hr.filter _)]]
    refine List.Perm.map _ ((List.perm_ext_iff_of_nodup (nd_ded _) (nd_ded _)).mpr fun k => ?_)
    rw [mem_ded, mem_ded]
    exact (hr.map fun p => pickL cols p.1).mem_iff
  | top cols m =>
    have e : srtT (posL L) = srtT (posL L') := by
      have hp : (posL L).Perm (posL L') := h.filter _
      refine sort_one (((srtT_perm _).trans hp).trans (srtT_perm _).symm) (((fin_pos F.nd).of_perm hp).of_perm (srtT_perm _).symm) (srtT_sort _) (srtT_sort _)
    show Tl.cnt (topL cols m (srtT (posL L))) k = Tl.cnt (topL cols m (srtT (posL L'))) k
    rw [e]
end K18

namespace K18
open PySem PySem.Spec PyProof.Rows L2 RW9 Tl
theorem meq_rc {X : Cx} {C : Addr} {k : Nat} {ps : List Str} {R : Addr → Addr → Hp → Prop} (D : MethD X.prog X.w X.K X.mg X.base C "__eq__" k ps (L2.spEq R)) : RcG X k (DIns C R) := by
  obtain ⟨f, fd, M, F, bd, _⟩ := D
  exact rcG_ins F M.at_ M.fn bd pass0
theorem eqvAll_ints : ∀ ns : List Int, PyData.eqvAll (ns.map PyData.int) (ns.map PyData.int) = true
  | [] => rfl
  | n :: ns => by
    show ((n == n) && PyData.eqvAll (ns.map PyData.int) (ns.map PyData.int)) = _
    rw [eqvAll_ints ns]
    simp
theorem can_ints : ∀ ns : List Int, PyData.canLayAll0 (ns.map PyData.int) = true
  | [] => rfl
  | n :: ns => can_ints ns
theorem depth_ints : ∀ ns : List Int, PyData.depthAll (ns.map PyData.int) = 0
  | [] => rfl
  | n :: ns => by
    show max 0 (PyData.depthAll (ns.map PyData.int)) = 0
    rw [depth_ints ns]
    rfl
theorem shaped_mo (m : List Int) : SeqAt.shaped (mo m) = true := by
  unfold SeqAt.shaped
  rw [show PyData.canLay0 (mo m) = true from can_ints m, Bool.true_and]
  refine decide_eq_true ?_
  show PyData.depthAll (m.map PyData.int) + 1 ≤ 64
  rw [depth_ints]
  decide
theorem iteD {c A B : Prop} [Decidable c] (hc : c) (h : B) : if (!decide c) = true then A else B := by
  rw [decide_eq_true hc]
  exact h
section
variable {P : Program} {w : World} {K : PySem.W.Frag} {mg : Str → Option Value} {base : Heap} {C : Addr}
def spTells (K : PySem.W.Frag) (C : Addr) : Sp := fun vs H Q _ => ∃ (p dx c a : Addr) (L D : Tly), vs = [.ref p, .ref a] ∧ BagR K C H p dx c L ∧ PairsAt H a D ∧ Fin D ∧ SortL D ∧ L.Perm D ∧ D.length ≤ 5000 ∧ (∀ q ∈ D, q.1.length ≤ 100) ∧ ∀ H', Same H H' → Q (.bl true) H'
theorem d_law_tells (B : Bt mg) (X : TxB K C) (TI : TxI K C) (mC : mg "Bag" = some (.ref C)) (T : Top K mg "_law_tells" s_law_tells ["told", "due"]) (D_law_integer : Def P w K mg base "_law_integer" 1 ["value"] spIsNumber) (Mpairs : MethD P w K mg base C "pairs" 1 ["self"] (spPairs K C)) (Meq : MethD P w K mg base C "__eq__" 1 ["self", "other"] (L2.spEq (EqR K C))) (MkBag : MakeI P w K mg base C "Bag" 4 ["self", "pairs"] (spInit K C)) : Def P w K mg base "_law_tells" 6 ["told", "due"] (spTells K C) := by
  have Cl := X.cl
  refine mk_def T sc_law_tells (by rintro _ _ _ _ ⟨_, _, _, _, _, _, rfl, _⟩; rfl) fun f cdv A outer s H vs Q E hr h => ?_
  obtain ⟨p, dx, c, a, L, D, rfl, hb, hD, F, sD, pm, hl, hw, q⟩ := h
  refine ⟨_, (pss_cons (ps_if (pt_not (pt_val (pe_callB call_isi (by rfl) B.m_isinstance (by decide +kernel) (pa_cons (pv 0) (pa_cons (pe_glob (v := .ref C) (by rfl) mC rfl) pa_nil))))) (pss_one (ps_ret pe_bl)) pss_nil)
      (pss_cons (ps_set (i := 2) sc_law_tells.nd rfl (Or.inl rfl) (pe_methM0 (pv 0) Cl Mpairs (hr.mono (by first | decide | omega))))
      (pss_cons (ps_if (pw_or (pt_not (pt_val (pe_callB call_isi (by rfl) B.m_isinstance (by decide +kernel) (pa_cons (pv 2) (pa_cons (pe_bltn (v := .ty "list") (by rfl) B.m_list (by decide +kernel) rfl) pa_nil))))) (pw_or1 (pt_cmpR op_ne (pe_callB call_len_seq (by rfl) B.m_len PySem.boot_len (pa_cons (pv 2) pa_nil)) (pe_callB call_len_seq (by rfl) B.m_len PySem.boot_len (pa_cons (pv 1) pa_nil)) (nomark _)))).pt (pss_one (ps_ret pe_bl)) pss_nil)
      (pss_cons (ps_set (i := 3) sc_law_tells.nd rfl (Or.inl rfl) pe_bl)
      (pss_cons (ps_for PassesOwn.never rfl (RZ.pi_zipA (by rfl) B.m_zip (pa_cons (pv 2) (pa_cons (pv 1) pa_nil))) (pg_tup rfl (pgs_cons (pg_name (i := 4) sc_law_tells.nd rfl (Or.inl rfl)) (pgs_cons (pg_name (i := 5) sc_law_tells.nd rfl (Or.inl rfl)) pgs_nil))) (pss_cons (ps_if (pw_or (pt_not (pt_val (pe_callB call_isi (by rfl) B.m_isinstance (by decide +kernel) (pa_cons (pv 4) (pa_cons (pe_bltn (v := .ty "tuple") (by rfl) B.m_tuple (by decide +kernel) rfl) pa_nil))))) (pw_or (pt_cmpR op_ne (pe_callB call_len_seq (by rfl) B.m_len PySem.boot_len (pa_cons (pv 4) pa_nil)) pe_int (nomark _)) (pw_or1 (pt_not (pt_val (pe_callB call_isi (by rfl) B.m_isinstance (by decide +kernel) (pa_cons (pe_ix ix_tup (pv 4) pe_int (fun _ _ => rfl)) (pa_cons (pe_bltn (v := .ty "tuple") (by rfl) B.m_tuple (by decide +kernel) rfl) pa_nil)))))))).pt (pss_one (ps_ret pe_bl)) pss_nil)
      (pss_cons (ps_if (pw_or (pt_not (pt_val (pe_def D_law_integer (hr.mono (by first | decide | omega)) (by rfl) (pa_cons (pe_ix ix_tup (pv 4) pe_int (fun _ _ => rfl)) pa_nil)))) (pw_or1 (pt_not (pt_val (pe_callB (cr_all rfl) (by rfl) B.m_all (by decide +kernel) (pa_cons (pe_lc (own := [("value", 6)]) (g := (gName 6)) (tt := tYes) (te := (tCall spIsNumber [] E0 (tCons (tVar 6) tNil))) rfl sc_law_tells.nd (pi_tup (pe_ix ix_tup (pv 4) pe_int (fun _ _ => rfl))) (blkOk_by (own := [("value", 6)]) (N := N_law_tells) (sc := defScope s_law_tells) (by decide +kernel)) (fun _ _ _ _ _ => (pg_name (i := 6) sc_law_tells.nd rfl (Or.inl rfl))) (fun _ _ _ _ _ => pts_nil) (fun _ _ _ _ _ => (pe_def D_law_integer (hr.mono (by first | decide | omega)) (by rfl) (pa_cons (pv 6) pa_nil)))) pa_nil)))))).pt (pss_one (ps_ret pe_bl)) pss_nil)
      (pss_cons (ps_if (pw_or (pt_cmpR (op_neD (hu64 hr)) (pe_ix ix_tup (pv 4) pe_int (fun _ _ => rfl)) (pe_ix ix_tup (pv 5) pe_int (fun _ _ => rfl)) (nomark _)) (pw_or1 (pt_cmpR op_ne (pe_ix ix_tup (pv 4) pe_int (fun _ _ => rfl)) (pe_ix ix_tup (pv 5) pe_int (fun _ _ => rfl)) (nomark _)))).pt (pss_one (ps_ret pe_bl)) pss_nil)
      (pss_one (ps_for PassesOwn.never rfl (pi_tup (pe_op op_catA (pe_ix ix_tup (pv 5) pe_int (fun _ _ => rfl)) (pe_tup (pa_cons (pe_ix ix_tup (pv 5) pe_int (fun _ _ => rfl)) pa_nil)))) (pg_name (i := 6) sc_law_tells.nd rfl (Or.inl rfl)) (pss_one (ps_set (i := 3) sc_law_tells.nd rfl (Or.inl rfl) (pe_and (pv 3) (pe_one (pe_cmpR op_lt (pe_callB call_abs (by rfl) B.m_abs (by decide +kernel) (pa_cons (pv 6) pa_nil)) (pe_op op_pow pe_int pe_int) (nomark _))))))))))))
      (pss_one (ps_ret (pe_or (pe_not (pv 3)) (pe_one (pe_cmpR (L2.op_eqG (meq_rc Meq) (hr.mono (by first | decide | omega))) (pv 0) (pe_makeI MkBag (hr.mono (by first | decide | omega)) (by rfl) (pa_cons (pe_callTy call_list_of (by rfl) B.m_list (by decide +kernel) (pa_cons (pv 1) pa_nil)) pa_nil)) (nomark _))))))))))), ?_⟩
  refine ⟨.ref p, rfl, _, _, .ref C, .ref C, true, rfl, .own _, .base (.ins hb.ins X.cl TI.ha TI.hn TI.htk TI.hm), kit_self, _, rfl, iteF ?_⟩
  refine ⟨.ref p, rfl, p, dx, _, rfl, hb.ins, by rfl, p, dx, c, L, rfl, hb, fun H1 r M e1 hM pM sM => ?_⟩
  obtain rfl : M = D := sort_one (pM.trans pm) F sM sD
  obtain ⟨acc, hr1, hacc⟩ := hM.get
  obtain ⟨bcc, ha1, hbcc⟩ := (hD.same e1).get
  refine ⟨.ref r, rfl, _, _, .type "list", .type "list", true, rfl, .ty _, .base (.lst hr1), kit_ty (by decide +kernel), _, rfl, ?_⟩
  have la : acc.length = M.length := Paired.length hacc
  have lb : bcc.length = M.length := Paired.length hbcc
  refine ⟨.ref r, rfl, r, _, rfl, .inl (SqL.of hr1), .ref a, rfl, a, _, rfl, .inl (SqL.of ha1), rfl, _, rfl, iteD (by rw [la, lb]) ?_⟩
  refine ⟨.ref r, rfl, .ref a, rfl, r, a, _, _, rfl, .inl ⟨SqL.of hr1, SqL.of ha1, ?_⟩⟩
  refine for_it (walk_zip (xs := acc) (ys := bcc) (n := M.length) (by rw [la, lb]; omega)) (fun i σ' H' => ∃ (b : Bool) (y4 y5 y6 : Option V), σ' = [some (.ref p), some (.ref a), some (.ref r), some (.bl b), y4, y5, y6] ∧ Same H1 H') ⟨true, none, none, none, rfl, Same.refl _⟩ (fun i σ' H' _ pv => ?_) (fun i x σ' H2 H3 hi pv y => ?_) (fun σ' H2 pv => ?_)
  · obtain ⟨_, _, _, _, _, e⟩ := pv
    exact ⟨SqL.of (e _ _ hr1), SqL.of (e _ _ ha1)⟩
  · obtain ⟨b, y4, y5, y6, rfl, e2⟩ := pv
    obtain ⟨t, x1, x2, rfl, ht, rfl, hx1, hx2⟩ := y
    obtain ⟨m, hm, hm1⟩ := DX.pget (flipP hacc) hx1
    obtain ⟨m', hm', hm2⟩ := DX.pget (flipP hbcc) hx2
    obtain rfl : m = m' := Option.some.inj (hm.symm.trans hm')
    have e3 := e2.trans (same_upd (o := .tup [x1, x2]) ht)
    have ht3 : L2.upd H2 t (.tup [x1, x2]) t = some (.tup [x1, x2]) := upd_same
    generalize L2.upd H2 t (.tup [x1, x2]) = H3 at e3 ht3 ⊢
    obtain ⟨t1, b1, rfl, ht1, hb1⟩ := hm1.same e3
    obtain ⟨t2, b2, rfl, ht2, hb2⟩ := hm2.same e3
    have hml : m.1.length ≤ 100 := hw m (List.mem_of_getElem? hm)
    refine ⟨t, _, rfl, SqT.of ht3, rfl, _, _, rfl, _, _, rfl, rfl, ?_⟩
    refine ⟨.ref t1, rfl, _, _, .type "tuple", .type "tuple", true, rfl, .ty _, .base (.tup ht1), kit_ty (by decide +kernel), _, rfl, iteF ?_⟩
    refine ⟨.ref t1, rfl, t1, _, rfl, .inr (SqT.of ht1), rfl, _, rfl, iteF ?_⟩
    refine ⟨.ref t1, rfl, t1, _, _, .ref b1, rfl, rfl, SqT.of ht1, atI_nat (j := 0) rfl, _, _, .type "tuple", .type "tuple", true, rfl, .ty _, .base (.tup hb1), kit_ty (by decide +kernel), _, rfl, iteF ?_⟩
    refine ⟨.ref t1, rfl, t1, _, _, .int m.2, rfl, rfl, SqT.of ht1, atI_nat (j := 1) rfl, m.2, rfl, fun H4 e4 => ⟨true, rfl, iteF ?_⟩⟩
    have e14 := e3.trans e4
    refine ⟨.ref t1, rfl, t1, _, _, .ref b1, rfl, rfl, SqT.of (e4 _ _ ht1), atI_nat (j := 0) rfl, b1, rfl, ⟨_, SqT.of (e4 _ _ hb1)⟩, fun D1 hD1 => ?_⟩
    refine lc_val (walk_tup (K := K)) hD1 (by rw [List.length_map]; omega) (fun H5 e5 => e5.seqT (SqT.of (e4 _ _ hb1))) (List.replicate m.1.length (V.bl true)) (by simp) (fun j z H5 H6 Q' hj e5 y k => ?_) (fun H5 e5 eD => ?_)
    · obtain ⟨rfl, hy⟩ := y
      rw [List.getElem?_map] at hy
      obtain ⟨c2, hc2, rfl⟩ := Option.map_eq_some_iff.mp hy
      rw [List.length_map] at hj
      exact ⟨rfl, .int c2, rfl, c2, rfl, fun H7 e7 => k _ _ e7 (by simp [hj])⟩
    refine ⟨D1, List.replicate m.1.length true, rfl, SqL.of (by rw [eD, List.map_replicate]), ?_⟩
    rw [show (List.replicate m.1.length true).all id = true by simp]
    refine ⟨true, rfl, iteF ?_⟩
    have e45 := e4.trans e5
    have e15 := e14.trans e5
    refine ⟨.ref t1, rfl, t1, _, _, .ref b1, rfl, rfl, SqT.of (e45 _ _ ht1), atI_nat (j := 0) rfl, .ref t2, rfl, t2, _, _, .ref b2, rfl, rfl, SqT.of (e45 _ _ ht2), atI_nat (j := 0) rfl, mo m.1, mo m.1, Da.dp _ _ (Mo.of (e45 _ _ hb1)), Da.dp _ _ (Mo.of (e45 _ _ hb2)), shaped_mo _, shaped_mo _, _, rfl, ?_⟩
    rw [show PyData.eqv (mo m.1) (mo m.1) = true from eqvAll_ints m.1]
    refine iteF ?_
    refine ⟨.ref t1, rfl, t1, _, _, .int m.2, rfl, rfl, SqT.of (e45 _ _ ht1), atI_nat (j := 1) rfl, .ref t2, rfl, t2, _, _, .int m.2, rfl, rfl, SqT.of (e45 _ _ ht2), atI_nat (j := 1) rfl, rfl, _, rfl, iteD rfl ?_⟩
    refine ⟨.ref t2, rfl, t2, _, _, .ref b2, rfl, rfl, SqT.of (e45 _ _ ht2), atI_nat (j := 0) rfl, .ref t2, rfl, t2, _, _, .int m.2, rfl, rfl, SqT.of (e45 _ _ ht2), atI_nat (j := 1) rfl, by show 1 ≤ sizeLine; decide, fun u hu => ?_⟩
    have e6 := same_upd (o := .tup [V.int m.2]) hu
    have hu6 : RowAt (L2.upd H5 u (.tup [V.int m.2])) u [m.2] := upd_same
    generalize L2.upd H5 u (.tup [V.int m.2]) = H6 at e6 hu6 ⊢
    refine catRow (e6 _ _ (e45 _ _ hb2)) hu6 (Nat.le_trans (show m.1.length + 1 ≤ 101 by omega) (by decide)) fun H7 u2 e7 hu2 => ?_
    have e17 := (e15.trans e6).trans e7
    refine ⟨u2, rfl, ⟨_, SqT.of hu2⟩, ?_⟩
    refine for_it (walk_tup (K := K) (xs := (m.1 ++ [m.2]).map V.int)) (fun i σ' H' => ∃ (b : Bool) (y6 : Option V), σ' = [some (.ref p), some (.ref a), some (.ref r), some (.bl b), some (.ref t1), some (.ref t2), y6] ∧ H' = H7) ⟨b, y6, rfl, rfl⟩ (fun i σ' H' _ pv => ?_) (fun i x σ' H8 H9 hi pv y => ?_) (fun σ' H8 pv => ?_)
    · obtain ⟨_, _, _, rfl⟩ := pv
      exact SqT.of hu2
    · obtain ⟨b', y6', rfl, rfl⟩ := pv
      obtain ⟨rfl, hy⟩ := y
      rw [List.getElem?_map] at hy
      obtain ⟨z, hz, rfl⟩ := Option.map_eq_some_iff.mp hy
      refine ⟨.bl b', rfl, b', rfl, ?_⟩
      cases b' with
      | false => exact ⟨false, _, rfl, rfl⟩
      | true => exact ⟨.int z, rfl, z, rfl, _, _, rfl, rfl, ⟨by decide, by decide, by decide⟩, _, _, rfl, rfl, _, _, rfl, rfl⟩
    · obtain ⟨b', y6', rfl, rfl⟩ := pv
      exact ⟨b', _, _, _, rfl, e17⟩
  · obtain ⟨b, y4, y5, y6, rfl, e2⟩ := pv
    have e02 := e1.trans e2
    refine ⟨.bl b, rfl, b, rfl, _, rfl, ?_⟩
    cases b with
    | false => exact q _ e02
    | true =>
      refine ⟨.ref p, rfl, .ref a, rfl, a, _, rfl, .inl (SqL.of (e2 _ _ ha1)), fun l hl0 => ?_⟩
      have e3 := same_upd (o := .lst bcc) hl0
      have hl3 : PairsAt (L2.upd H2 l (.lst bcc)) l M := ⟨bcc, upd_same, Paired.mapP hbcc fun v q h => (h.same e2).same e3⟩
      generalize L2.upd H2 l (.lst bcc) = H3 at e3 hl3 ⊢
      intro x dx2 hx hdx ne
      have e4 : Same H3 (L2.upd (L2.upd H3 dx2 (.own x)) x (.ins C dx2 [])) := (same_upd hdx).mut hx
      refine ⟨x, dx2, l, M, rfl, upd_same, .inl (hl3.same e4), hl, hw, fun H5 c2 T2 e5 hc2 hb2 hT1 hT2 => ⟨rfl, ?_⟩⟩
      have e35 : Same H3 H5 := fun b o ho => e5 _ _ (ne_of_none ho hx) (e4 _ _ ho)
      have hbp : BagR K C H5 p dx c L := (hb.same (e02.trans (e3.trans e35)))
      refine ⟨⟨p, x, _, _, _, _, rfl, rfl, hbp.ins, hb2.ins, dx, c, dx2, c2, L, T2, hbp, hb2, pm.trans (F.perm hb2.fin fun k => (hT1 k).symm)⟩, fun H6 e6 => q H6 (e02.trans ((e3.trans e35).trans e6))⟩
end
end K18

namespace K18
open PySem PySem.Spec PyProof.Rows L2 RW9 Tl
theorem PairsAt.sb {H H' : Hp} {a p : Addr} {ps : Tly} (h : PairsAt H a ps) (hp : PurseAt H p) (n : a ≠ p) (e : SameB p H H') : PairsAt H' a ps := by
  obtain ⟨acc, h1, h2⟩ := h
  have st : ∀ t us, H t = some (.tup us) → H' t = some (.tup us) := fun t us ht => e _ _ (fun z => by
    obtain ⟨x, y, v, h3, _⟩ := hp
    rw [z, h3] at ht
    cases ht) ht
  exact ⟨acc, e _ _ n h1, Paired.mapP h2 fun v q h => h.st st⟩
theorem NdAt.same {K : PySem.W.Frag} {H H' : Hp} {xs : List V} {nd : Nd} (h : NdAt K H xs nd) (e : Same H H') : NdAt K H' xs nd := by
  cases h with
  | choose h0 h2 hd => exact .choose h0 h2 (Da.same e _ _ hd)
  | map h0 h2 hd => exact .map h0 h2 (Da.same e _ _ hd)
  | join h0 h3 hd => exact .join h0 h3 (Da.same e _ _ hd)
  | plus h0 => exact .plus h0
  | less h0 => exact .less h0
  | distinct hx => exact .distinct hx
  | without hx hd => exact .without hx (Da.same e _ _ hd)
  | group hx h2 h3 => exact .group hx (Da.same e _ _ h2) (Da.same e _ _ h3)
  | top hx h2 => exact .top hx (Da.same e _ _ h2)
theorem revP {α β : Type} {F : α → β → Prop} : ∀ {l : List α} {m : List β}, Paired F l m → Paired F l.reverse m.reverse
  | _, _, .nil => .nil
  | _, _, .cons h t => by
    rw [List.reverse_cons, List.reverse_cons]
    exact appP (revP t) (.cons h .nil)
theorem lsOf_two (nd : Nd) (L M : Tly) : lsOf nd L M = [L] ∨ lsOf nd L M = [L, M] := by
  cases nd with
  | choose _ => exact .inl rfl
  | map _ => exact .inl rfl
  | join _ => exact .inr rfl
  | plus => exact .inr rfl
  | less => exact .inr rfl
  | distinct => exact .inl rfl
  | without _ => exact .inr rfl
  | group _ _ => exact .inl rfl
  | top _ _ => exact .inl rfl
theorem wOf_le {l r : Nat} {nd : Nd} (ok : NdOk l r nd) (hl : l ≤ 50) (hr : r ≤ 50) : wOf nd l r ≤ 100 := by
  cases ok with
  | choose _ _ => show l ≤ 100; omega
  | map h _ => exact h
  | join _ _ => show l + r ≤ 100; omega
  | plus => show l ≤ 100; omega
  | less => show l ≤ 100; omega
  | distinct => show l ≤ 100; omega
  | without _ _ => show l ≤ 100; omega
  | @group cols _ h _ _ => show cols.length + 1 ≤ 100; omega
  | top _ _ _ => show l ≤ 100; omega
theorem lim_drawn {n N : Nat} {ps : Tly} (h : ∀ q ∈ ps, RowOk n q.1 ∧ Small q.2) (hl : ps.length ≤ N) (hN : N ≤ 127) : Lim n N 103 110 ps where
  wid p hp := (h p hp).1.1
  len := hl
  val p hp x hx := small2 ((h p hp).1.2 x hx)
  sum := by
    have : absS ps ≤ ps.length * 2 ^ 103 := by
      clear hl
      induction ps with
      | nil => exact Nat.zero_le _
      | cons p ps ih =>
        rw [abs_cons, List.length_cons, Nat.succ_mul]
        have h1 := small2 (h p (List.mem_cons_self ..)).2
        have h2 := ih fun q hq => h q (List.mem_cons_of_mem _ hq)
        omega
    have h2 : ps.length * 2 ^ 103 ≤ 127 * 2 ^ 103 := Nat.mul_le_mul_right _ (Nat.le_trans hl hN)
    exact Nat.lt_of_le_of_lt (Nat.le_trans this h2) (by decide)
theorem oneW_drawn {n : Nat} {ps : Tly} (h : ∀ q ∈ ps, RowOk n q.1 ∧ Small q.2) : OneW ps := ⟨n, fun p hp => (h p hp).1.1⟩
theorem lit8 {j : Int} (h0 : 0 ≤ j) (h1 : j < 8) : ∃ r : Nat, atI [V.int 0, .int 1, .int 1, .int 2, .int 2, .int 3, .int 3, .int 5] j = some (.int r) ∧ r ≤ 5 := by
  obtain ⟨n, rfl⟩ := Int.eq_ofNat_of_zero_le h0
  have hn : n < 8 := by omega
  match n, hn with
  | 0, _ => exact ⟨0, atI_nat (j := 0) rfl, by decide⟩
  | 1, _ => exact ⟨1, atI_nat (j := 1) rfl, by decide⟩
  | 2, _ => exact ⟨1, atI_nat (j := 2) rfl, by decide⟩
  | 3, _ => exact ⟨2, atI_nat (j := 3) rfl, by decide⟩
  | 4, _ => exact ⟨2, atI_nat (j := 4) rfl, by decide⟩
  | 5, _ => exact ⟨3, atI_nat (j := 5) rfl, by decide⟩
  | 6, _ => exact ⟨3, atI_nat (j := 6) rfl, by decide⟩
  | 7, _ => exact ⟨5, atI_nat (j := 7) rfl, by decide⟩
section
variable {P : Program} {w : World} {K : PySem.W.Frag} {mg : Str → Option Value} {base : Heap} {C : Addr}
def spNodeHolds : Sp := fun vs H Q _ => ∃ (p : Addr) (k : Nat), vs = [.ref p, .str (kindS k)] ∧ k < 4 ∧ PurseAt H p ∧ ∀ H', SameB p H H' → PurseAt H' p → Q (.bl true) H'
theorem d_law_node_holds (B : Bt mg) (X : TxB K C) (T : Top K mg "_law_node_holds" s_law_node_holds ["purse", "kind"]) (D_law_draw : Def P w K mg base "_law_draw" 1 ["purse", "many"] spDraw) (D_law_pairs : Def P w K mg base "_law_pairs" 4 ["purse", "width", "most", "small"] spLPairs) (D_law_node : Def P w K mg base "_law_node" 3 ["purse", "kind", "first", "second", "left", "right"] (spNode K)) (D_law_sub : Def P w K mg base "_law_sub" 2 ["purse"] spSub) (MkBag : MakeI P w K mg base C "Bag" 4 ["self", "pairs"] (spInit K C)) (Dworked : DefR P w K mg base "worked" 7 (spWorked K C)) (D_law_added : Def P w K mg base "_law_added" 1 ["pairs"] spAdded) (D_law_due : Def P w K mg base "_law_due" 3 ["node", "first", "second"] (spDue K)) (D_law_tells : Def P w K mg base "_law_tells" 6 ["told", "due"] (spTells K C)) : Def P w K mg base "_law_node_holds" 9 ["purse", "kind"] spNodeHolds := by
  refine mk_def T sc_law_node_holds (by rintro _ _ _ _ ⟨_, _, rfl, _⟩; rfl) fun f cdv A outer s H vs Q E hr h => ?_
  obtain ⟨p, k, rfl, hk, hp, q⟩ := h
  refine ⟨_, (pss_cons (ps_set (i := 2) sc_law_node_holds.nd rfl (Or.inl rfl) (pe_tup (pa_cons pe_int (pa_cons pe_int (pa_cons pe_int (pa_cons pe_int (pa_cons pe_int (pa_cons pe_int (pa_cons pe_int (pa_cons pe_int pa_nil))))))))))
      (pss_cons (ps_set (i := 3) sc_law_node_holds.nd rfl (Or.inl rfl) (pe_ix ix_tup (pv 2) (pe_def D_law_draw (hr.mono (by first | decide | omega)) (by rfl) (pa_cons (pv 0) (pa_cons pe_int pa_nil))) (fun _ _ => rfl)))
      (pss_cons (ps_set (i := 4) sc_law_node_holds.nd rfl (Or.inl rfl) (pv 3))
      (pss_cons (ps_set (i := 5) sc_law_node_holds.nd rfl (Or.inl rfl) (pe_cmpR op_eq (pe_def D_law_draw (hr.mono (by first | decide | omega)) (by rfl) (pa_cons (pv 0) (pa_cons pe_int pa_nil))) pe_int (nomark _)))
      (Evl.pss_cut (ps_if (pw_and (pt_cmpR op_eq (pv 1) pe_str (nomark _)) (pw_and1 (pt_not (pt_val (pv 5))))).pt (pss_one (ps_set (i := 4) sc_law_node_holds.nd rfl (Or.inl rfl) (pe_ix ix_tup (pv 2) (pe_def D_law_draw (hr.mono (by first | decide | omega)) (by rfl) (pa_cons (pv 0) (pa_cons pe_int pa_nil))) (fun _ _ => rfl)))) pss_nil)
      (pss_cons (ps_set (i := 6) sc_law_node_holds.nd rfl (Or.inl rfl) (pe_def D_law_pairs (hr.mono (by first | decide | omega)) (by rfl) (pa_cons (pv 0) (pa_cons (pv 3) (pa_cons pe_int (pa_cons pe_bl pa_nil))))))
      (pss_cons (ps_set (i := 7) sc_law_node_holds.nd rfl (Or.inl rfl) (pv 6))
      (Evl.pss_cut (ps_if (pt_not (pt_val (pv 5))) (pss_one (ps_set (i := 7) sc_law_node_holds.nd rfl (Or.inl rfl) (pe_def D_law_pairs (hr.mono (by first | decide | omega)) (by rfl) (pa_cons (pv 0) (pa_cons (pv 4) (pa_cons pe_int (pa_cons pe_bl pa_nil))))))) pss_nil)
      (pss_cons (ps_set (i := 8) sc_law_node_holds.nd rfl (Or.inl rfl) (pe_def D_law_node (hr.mono (by first | decide | omega)) (by rfl) (pa_cons (pv 0) (pa_cons (pv 1) (pa_cons (pe_def D_law_sub (hr.mono (by first | decide | omega)) (by rfl) (pa_cons (pv 0) pa_nil)) (pa_cons (pe_def D_law_sub (hr.mono (by first | decide | omega)) (by rfl) (pa_cons (pv 0) pa_nil)) (pa_cons (pv 3) (pa_cons (pv 4) pa_nil))))))))
      (pss_cons (ps_set (i := 9) sc_law_node_holds.nd rfl (Or.inl rfl) (pe_makeI MkBag (hr.mono (by first | decide | omega)) (by rfl) (pa_cons (pe_callTy call_list_of (by rfl) B.m_list (by decide +kernel) (pa_cons (pv 6) pa_nil)) pa_nil)))
      (pss_cons (ps_set (i := 10) sc_law_node_holds.nd rfl (Or.inl rfl) (pv 9))
      (Evl.pss_cut (ps_if (pt_not (pt_val (pv 5))) (pss_one (ps_set (i := 10) sc_law_node_holds.nd rfl (Or.inl rfl) (pe_makeI MkBag (hr.mono (by first | decide | omega)) (by rfl) (pa_cons (pe_revL (pv 7)) pa_nil)))) pss_nil)
      (Evl.pss_cut (ps_if (pt_cmpR op_eq (pv 1) pe_str (nomark _)) (pss_one (ps_set (i := 11) sc_law_node_holds.nd rfl (Or.inl rfl) (pe_defR Dworked (hr.mono (by first | decide | omega)) (by rfl) (pa_cons (pv 8) (pa_cons (pv 9) (pa_cons (pv 10) pa_nil)))))) (pss_one (ps_set (i := 11) sc_law_node_holds.nd rfl (Or.inl rfl) (pe_defR Dworked (hr.mono (by first | decide | omega)) (by rfl) (pa_cons (pv 8) (pa_cons (pv 9) pa_nil))))))
      (pss_cons (ps_set (i := 6) sc_law_node_holds.nd rfl (Or.inl rfl) (pe_def D_law_added (hr.mono (by first | decide | omega)) (by rfl) (pa_cons (pv 6) pa_nil)))
      (pss_cons (ps_set (i := 7) sc_law_node_holds.nd rfl (Or.inl rfl) (pe_def D_law_added (hr.mono (by first | decide | omega)) (by rfl) (pa_cons (pv 7) pa_nil)))
      (pss_cons (ps_set (i := 12) sc_law_node_holds.nd rfl (Or.inl rfl) (pe_def D_law_due (hr.mono (by first | decide | omega)) (by rfl) (pa_cons (pv 8) (pa_cons (pv 6) (pa_cons (pv 7) pa_nil)))))
      (pss_one (ps_ret (pe_and (pe_def D_law_tells (hr.mono (by first | decide | omega)) (by rfl) (pa_cons (pv 11) (pa_cons (pv 12) pa_nil))) (pe_and (pe_def D_law_tells (hr.mono (by first | decide | omega)) (by rfl) (pa_cons (pv 9) (pa_cons (pv 6) pa_nil))) (pe_one (pe_def D_law_tells (hr.mono (by first | decide | omega)) (by rfl) (pa_cons (pv 10) (pa_cons (pv 7) pa_nil)))))))))))))))))))))))), ?_⟩
  refine ⟨by show 8 ≤ sizeLine; decide, fun t ht => ?_⟩
  have e0 := same_upd (o := .tup [V.int 0, .int 1, .int 1, .int 2, .int 2, .int 3, .int 3, .int 5]) ht
  have hw := upd_same (H := H) (a := t) (o := .tup [V.int 0, .int 1, .int 1, .int 2, .int 2, .int 3, .int 3, .int 5])
  generalize L2.upd H t _ = H0 at e0 hw ⊢
  have p0 := hp.same e0
  refine ⟨.ref t, rfl, .ref p, rfl, p, _, rfl, p0, by decide, by decide, fun H1 d s1 p1 d0 d1 => ?_⟩
  obtain ⟨lw, hlw, lw5⟩ := lit8 d0 d1
  have hw1 := p0.st (K := K) s1 _ _ hw
  refine ⟨t, _, _, .int lw, rfl, rfl, SqT.of hw1, hlw, ?_⟩
  refine ⟨.int lw, rfl, .ref p, rfl, p, _, rfl, p1, by decide, by decide, fun H2 d2 s2 p2 g0 g1 => ⟨rfl, ?_⟩⟩
  rw [show decide (V.int d2 = V.int 3) = decide (d2 = 3) by simp]
  generalize decide (d2 = 3) = sb
  have hw2 := p1.st (K := K) s2 _ _ hw1
  have s02 : SameB p H H2 := (e0.b.trans s1).trans s2
  refine ⟨fun σ' H' => ∃ rw' : Nat, σ' = [some (.ref p), some (.str (kindS k)), some (.ref t), some (.int lw), some (.int rw'), some (.bl sb), none, none, none, none, none, none, none] ∧ rw' ≤ 5 ∧ (sb = true → rw' = lw) ∧ (k ≠ 1 → rw' = lw) ∧ SameB p H H' ∧ PurseAt H' p, ?_, ?_⟩
  · have done : ∃ rw' : Nat, [some (V.ref p), some (.str (kindS k)), some (.ref t), some (.int lw), some (.int lw), some (.bl sb), none, none, none, none, none, none, none] = [some (.ref p), some (.str (kindS k)), some (.ref t), some (.int lw), some (.int rw'), some (.bl sb), none, none, none, none, none, none, none] ∧ rw' ≤ 5 ∧ (sb = true → rw' = lw) ∧ (k ≠ 1 → rw' = lw) ∧ SameB p H H2 ∧ PurseAt H2 p := ⟨lw, rfl, lw5, fun _ => rfl, fun _ => rfl, s02, p2⟩
    refine ⟨.str (kindS k), rfl, rfl, _, rfl, ite2 (fun z => ?_) (fun z => iteF done)⟩
    have hk2 : k = 1 := by
      have := of_decide_eq_true z
      match k, hk with
      | 0, _ => exact absurd this (by decide)
      | 1, _ => rfl
      | 2, _ => exact absurd this (by decide)
      | 3, _ => exact absurd this (by decide)
    refine ⟨.bl sb, rfl, sb, rfl, ?_⟩
    cases sb with
    | true => exact done
    | false =>
      refine ⟨.ref t, rfl, .ref p, rfl, p, _, rfl, p2, by decide, by decide, fun H3 d3 s3 p3 f0 f1 => ?_⟩
      obtain ⟨rw', hrw, rw5⟩ := lit8 f0 f1
      exact ⟨t, _, _, .int rw', rfl, rfl, SqT.of (p2.st (K := K) s3 _ _ hw2), hrw, rw', rfl, rw5, (fun z => nomatch z), fun z => absurd hk2 z, s02.trans s3, p3⟩
  rintro σ' H3 ⟨rw', rfl, rw5, hsb, hk2, s03, p3⟩
  clear hw2 hw1 hw s02 p2
  refine ⟨.ref p, rfl, .int lw, rfl, p, lw, 30, false, rfl, p3, by omega, by decide, fun H4 l1 ps1 s4 p4 n1 h1 len1 ok1 => ?_⟩
  have ne1 : l1 ≠ p := (p3.ne n1).symm
  have s04 := s03.trans s4
  refine ⟨.ref l1, rfl, ?_⟩
  refine ⟨fun σ' H' => ∃ (l2 : Addr) (ps2 : Tly), σ' = [some (.ref p), some (.str (kindS k)), some (.ref t), some (.int lw), some (.int rw'), some (.bl sb), some (.ref l1), some (.ref l2), none, none, none, none, none] ∧ l2 ≠ p ∧ PairsAt H' l1 ps1 ∧ PairsAt H' l2 ps2 ∧ ps2.length ≤ 36 ∧ (∀ q ∈ ps2, RowOk rw' q.1 ∧ Small q.2) ∧ (sb = true → ps2 = ps1) ∧ SameB p H H' ∧ PurseAt H' p, ?_, ?_⟩
  · refine ⟨.bl sb, rfl, sb, rfl, ?_⟩
    cases sb with
    | true =>
      obtain rfl := hsb rfl
      exact ⟨l1, ps1, rfl, ne1, h1, h1, len1, ok1, fun _ => rfl, s04, p4⟩
    | false =>
      refine ⟨.ref p, rfl, .int rw', rfl, p, rw', 12, false, rfl, p4, by omega, by decide, fun H5 l2 ps2 s5 p5 n2 h2 len2 ok2 => ?_⟩
      exact ⟨l2, ps2, rfl, (p4.ne n2).symm, h1.sb p4 ne1 s5, h2, by omega, ok2, (fun z => nomatch z), s04.trans s5, p5⟩
  rintro σ' H5 ⟨l2, ps2, rfl, ne2, h1, h2, len2, ok2, hps, s05, p5⟩
  refine ⟨.ref p, rfl, .str (kindS k), rfl, .ref p, rfl, p, rfl, p5, fun Ha v1 sa pa => ⟨.ref p, rfl, p, rfl, pa, fun Hb v2 sb' pb => ⟨.int lw, rfl, .int rw', rfl, p, v1, v2, k, lw, rw', rfl, hk, pb, by omega, by omega, fun H6 n xs nd sc p6 hn _ _ hnd hok hkn => ?_⟩⟩⟩
  have s6 := (sa.trans sb').trans sc
  have h1 := h1.sb p5 ne1 s6
  have h2 := h2.sb p5 ne2 s6
  have s06 := s05.trans s6
  obtain ⟨acc1, ha1, hx1⟩ := id h1
  refine ⟨.ref l1, rfl, l1, _, rfl, .inl (SqL.of ha1), fun l hl => ?_⟩
  have e1 := same_upd (o := .lst acc1) hl
  have hl1 : PairsAt (L2.upd H6 l (.lst acc1)) l ps1 := ⟨acc1, upd_same, Paired.mapP hx1 fun v q h => h.same e1⟩
  generalize L2.upd H6 l (.lst acc1) = H7 at e1 hl1 ⊢
  intro x dx hx hdx ne
  have e2 : Same H7 (L2.upd (L2.upd H7 dx (.own x)) x (.ins C dx [])) := (same_upd hdx).mut hx
  refine ⟨x, dx, l, ps1, rfl, upd_same, .inl (hl1.same e2), by omega, fun q hq => by rw [(ok1 q hq).1.1]; omega, fun H8 c1 T1 e3 hc1 b1 t1 k1 => ⟨rfl, ?_⟩⟩
  have e78 : Same H7 H8 := fun b o ho => e3 _ _ (ne_of_none ho hx) (e2 _ _ ho)
  have e68 : Same H6 H8 := e1.trans e78
  clear e1 e2 e3 hl1 hc1 hx hdx ne e78 hl ha1 hx1
  refine ⟨.ref x, rfl, ?_⟩
  refine ⟨fun σ' H' => ∃ (o dx2 c2 : Addr) (T2 : Tly), σ' = [some (.ref p), some (.str (kindS k)), some (.ref t), some (.int lw), some (.int rw'), some (.bl sb), some (.ref l1), some (.ref l2), some (.ref n), some (.ref x), some (.ref o), none, none] ∧ Same H6 H' ∧ BagR K C H' x dx c1 T1 ∧ BagR K C H' o dx2 c2 T2 ∧ (∀ k, Tl.cnt T2 k = Tl.cnt ps2 k) ∧ (∀ q ∈ T2, q.1 ∈ keys ps2), ?_, ?_⟩
  · refine ⟨.bl sb, rfl, sb, rfl, ?_⟩
    cases sb with
    | true =>
      obtain rfl := hps rfl
      exact ⟨x, dx, c1, T1, rfl, e68, b1, b1, t1, k1⟩
    | false =>
      obtain ⟨acc2, ha2, hx2⟩ := id (h2.same e68)
      refine ⟨.ref l2, rfl, l2, _, rfl, SqL.of ha2, fun l' hl' => ?_⟩
      have e1 := same_upd (o := .lst acc2.reverse) hl'
      have hl2 : PairsAt (L2.upd H8 l' (.lst acc2.reverse)) l' ps2.reverse := ⟨acc2.reverse, upd_same, revP (Paired.mapP hx2 fun v q h => h.same e1)⟩
      generalize L2.upd H8 l' (.lst acc2.reverse) = H9 at e1 hl2 ⊢
      intro x2 dx2 hx2 hdx2 ne2
      have e2 : Same H9 (L2.upd (L2.upd H9 dx2 (.own x2)) x2 (.ins C dx2 [])) := (same_upd hdx2).mut hx2
      refine ⟨x2, dx2, l', ps2.reverse, rfl, upd_same, .inl (hl2.same e2), by rw [List.length_reverse]; omega, fun q hq => by rw [(ok2 q (List.mem_reverse.mp hq)).1.1]; omega, fun H10 c2 T2 e3 hc2 b2 t2 k2 => ⟨rfl, ?_⟩⟩
      have e910 : Same H9 H10 := fun b o ho => e3 _ _ (ne_of_none ho hx2) (e2 _ _ ho)
      refine ⟨x2, dx2, c2, T2, rfl, e68.trans (e1.trans e910), b1.same (e1.trans e910), b2, fun k => (t2 k).trans (cnt_perm ps2.reverse_perm k), fun q hq => ?_⟩
      obtain ⟨r, hr', er⟩ := List.mem_map.mp (k2 q hq)
      exact List.mem_map.mpr ⟨r, List.mem_reverse.mp hr', er⟩
  rintro σ' H9 ⟨o, dx2, c2, T2, rfl, e9, b1, b2, t2, k2⟩
  clear hps hsb
  -- how great they are
  have L1 : Lim lw 36 103 110 ps1 := lim_drawn ok1 len1 (by decide)
  have L2' : Lim rw' 36 103 110 ps2 := lim_drawn ok2 len2 (by decide)
  have LT1 := L1.fin b1.fin t1 k1
  have LT2 := L2'.fin b2.fin t2 k2
  have ft : Fits nd lw rw' := by
    cases nd with
    | plus => exact absurd hk (by rw [← hkn]; decide)
    | less => exact absurd hk (by rw [← hkn]; decide)
    | choose _ => trivial
    | map _ => trivial
    | join _ => trivial
    | distinct => trivial
    | without _ => trivial
    | group _ _ => trivial
    | top _ _ => trivial
  have part := part_of (hnd.same e9) hok LT1 LT2 b1.fin (by decide) (by decide) (by decide) (by decide) (by decide) (by decide) (by omega) (by decide)
  have hcut : ∀ (H10 : Hp), Same H9 H10 → (k ≠ 1 → BagsAt K C H10 [.ref x] (lsOf nd T1 T2)) ∧ (k = 1 → BagsAt K C H10 [.ref x, .ref o] (lsOf nd T1 T2)) := fun H10 e => by
    subst hkn
    have y1 : ∃ p dx c, V.ref x = .ref p ∧ BagR K C H10 p dx c T1 := ⟨x, dx, c1, rfl, b1.same e⟩
    have y2 : ∃ p dx c, V.ref o = .ref p ∧ BagR K C H10 p dx c T2 := ⟨o, dx2, c2, rfl, b2.same e⟩
    cases nd with
    | plus => exact absurd hk (by decide)
    | less => exact absurd hk (by decide)
    | choose _ => exact absurd hk (by show ¬ (9 : Nat) < 4; decide)
    | map _ => exact absurd hk (by show ¬ (9 : Nat) < 4; decide)
    | join _ => exact absurd hk (by show ¬ (9 : Nat) < 4; decide)
    | distinct => exact ⟨fun _ => .cons y1 .nil, (fun z => nomatch z)⟩
    | without _ => exact ⟨fun z => absurd rfl z, fun _ => .cons y1 (.cons y2 .nil)⟩
    | group _ _ => exact ⟨fun _ => .cons y1 .nil, (fun z => nomatch z)⟩
    | top _ _ => exact ⟨fun _ => .cons y1 .nil, (fun z => nomatch z)⟩
  have hls : (lsOf nd T1 T2).length ≤ 100 := by
    rcases lsOf_two nd T1 T2 with e | e <;> rw [e] <;> simp
  refine ⟨fun σ' H' => ∃ (tl dx3 c3 : Addr) (T : Tly), σ' = [some (.ref p), some (.str (kindS k)), some (.ref t), some (.int lw), some (.int rw'), some (.bl sb), some (.ref l1), some (.ref l2), some (.ref n), some (.ref x), some (.ref o), some (.ref tl), none] ∧ Same H9 H' ∧ BagR K C H' tl dx3 c3 T ∧ (∀ k, Tl.cnt T k = Tl.cnt (rOf nd T1 T2) k), ?_, ?_⟩
  · obtain ⟨y1, y2⟩ := hcut H9 (Same.refl _)
    have hn10 := e9 _ _ hn
    refine ⟨.str (kindS k), rfl, rfl, _, rfl, ite2 (fun z => ?_) (fun z => ?_)⟩
    · have hk1 : k = 1 := by
        have := of_decide_eq_true z
        match k, hk with
        | 0, _ => exact absurd this (by decide)
        | 1, _ => rfl
        | 2, _ => exact absurd this (by decide)
        | 3, _ => exact absurd this (by decide)
      exact ⟨.ref n, rfl, .ref x, rfl, .ref o, rfl, n, xs, [.ref x, .ref o], _, _, rfl, hn10, part, y2 hk1, hls, fun H11 tl dx3 c3 T e hnone hb hc _ => ⟨tl, dx3, c3, T, rfl, e, hb, hc⟩⟩
    · have hk1 : k ≠ 1 := fun e => z (by rw [e]; exact decide_eq_true rfl)
      exact ⟨.ref n, rfl, .ref x, rfl, n, xs, [.ref x], _, _, rfl, hn10, part, y1 hk1, hls, fun H11 tl dx3 c3 T e hnone hb hc _ => ⟨tl, dx3, c3, T, rfl, e, hb, hc⟩⟩
  rintro σ' H10 ⟨tl, dx3, c3, T, rfl, e10, bT, hT⟩
  have e610 := e9.trans e10
  refine ⟨.ref l1, rfl, l1, ps1, rfl, h1.same e610, by omega, oneW_drawn ok1, fun H11 f1 D1 e11 _ hf1 F1 S1 cD1 kD1 => ?_⟩
  refine ⟨.ref l2, rfl, l2, ps2, rfl, h2.same (e610.trans e11), by omega, oneW_drawn ok2, fun H12 f2 D2 e12 _ hf2 F2 S2 cD2 kD2 => ?_⟩
  have LD1 := L1.fin F1 cD1 kD1
  have LD2 := L2'.fin F2 cD2 kD2
  have e612 := (e610.trans e11).trans e12
  have partD := part_of (hnd.same e612) hok LD1 LD2 F1 (by decide) (by decide) (by decide) (by decide) (by decide) (by decide) (by omega) (by decide)
  have LR := lim_of hok ft LD1 LD2 (by decide)
  have p1D : T1.Perm D1 := b1.fin.perm F1 fun k => (t1 k).trans (cD1 k).symm
  have p2D : T2.Perm D2 := b2.fin.perm F2 fun k => (t2 k).trans (cD2 k).symm
  refine ⟨.ref n, rfl, .ref f1, rfl, .ref f2, rfl, n, f1, f2, xs, lsOf nd D1 D2, D1, D2, _, rfl, e612 _ _ hn, hf1.same e12, hf2, lsOf_two _ _ _, partD, Nat.le_trans LR.len (by decide), Nat.le_trans LD1.len (by decide), Nat.le_trans LD2.len (by decide), ⟨_, LR.wid⟩, F1, S1, ⟨_, LD1.wid⟩, fun H13 fd D e13 _ hfd F S cD kD => ?_⟩
  have LD := LR.fin F cD kD
  have w100 := wOf_le hok (show lw ≤ 50 by omega) (show rw' ≤ 50 by omega)
  have e1013 := (e11.trans e12).trans e13
  refine ⟨.ref tl, rfl, .ref fd, rfl, tl, dx3, c3, fd, T, D, rfl, bT.same e1013, hfd, F, S, bT.fin.perm F fun k => ((hT k).trans (rOf_cnt p1D p2D b1.fin k)).trans (cD k).symm, Nat.le_trans LD.len (by decide), fun q hq => by rw [LD.wid q hq]; exact w100, fun H14 e14 => ⟨true, rfl, iteT ?_⟩⟩
  refine ⟨.ref x, rfl, .ref f1, rfl, x, dx, c1, f1, T1, D1, rfl, b1.same (e10.trans (e1013.trans e14)), hf1.same ((e12.trans e13).trans e14), F1, S1, p1D, Nat.le_trans LD1.len (by decide), fun q hq => by rw [LD1.wid q hq]; omega, fun H15 e15 => ⟨true, rfl, iteT ?_⟩⟩
  refine ⟨.ref o, rfl, .ref f2, rfl, o, dx2, c2, f2, T2, D2, rfl, b2.same ((e10.trans (e1013.trans e14)).trans e15), hf2.same ((e13.trans e14).trans e15), F2, S2, p2D, Nat.le_trans LD2.len (by decide), fun q hq => by rw [LD2.wid q hq]; omega, fun H16 e16 => ?_⟩
  have e616 : Same H6 H16 := (((e612.trans e13).trans e14).trans e15).trans e16
  exact q H16 (s06.trans e616.b) (p6.same e616)
end
end K18

namespace K18
open PySem PySem.Spec PyProof.Rows L2 RW9 Tl
/-! ### plans -/
inductive Pl where
  | tab (x : Str)
  | choose (l : List Tst) (p : Pl)
  | map (ts : List Tm) (p : Pl)
  | join (cols : List (Int × Int)) (p q : Pl)
  | plus (p q : Pl)
  | less (p q : Pl)
  | distinct (p : Pl)
  | without (cols : List (Int × Int)) (p q : Pl)
  | group (cols : List Int) (s : Srt) (p : Pl)
  | top (cols : List Int) (m : Int) (p : Pl)
def plD : Pl → PyData
  | .tab x => .tuple [.str "table", .str x]
  | .choose l p => .tuple [.str "choose", plD p, tstsD l]
  | .map ts p => .tuple [.str "map", plD p, tsD ts]
  | .join cols p q => .tuple [.str "join", plD p, plD q, ptD cols]
  | .plus p q => .tuple [.str "plus", plD p, plD q]
  | .less p q => .tuple [.str "less", plD p, plD q]
  | .distinct p => .tuple [.str "distinct", plD p]
  | .without cols p q => .tuple [.str "without", plD p, plD q, ptD cols]
  | .group cols s p => .tuple [.str "group", plD p, mo cols, srtD s]
  | .top cols m p => .tuple [.str "top", plD p, mo cols, .int m]
theorem imm_srt (s : Srt) : imm (srtD s) = true := by
  unfold srtD
  split <;> rfl
theorem imm_ts (ts : List Tm) : imm (tsD ts) = true := imm_tms ts
theorem imm_tts (l : List Tst) : imm (tstsD l) = true := imm_tsts l
theorem imm_pl : ∀ p : Pl, imm (plD p) = true
  | .tab x => rfl
  | .choose l p => by
    show (true && (imm (plD p) && (imm (tstsD l) && true))) = true
    rw [imm_pl p, imm_tts]
    rfl
  | .map ts p => by
    show (true && (imm (plD p) && (imm (tsD ts) && true))) = true
    rw [imm_pl p, imm_ts]
    rfl
  | .join cols p q => by
    show (true && (imm (plD p) && (imm (plD q) && (imm (ptD cols) && true)))) = true
    rw [imm_pl p, imm_pl q, imm_pt]
    rfl
  | .plus p q => by
    show (true && (imm (plD p) && (imm (plD q) && true))) = true
    rw [imm_pl p, imm_pl q]
    rfl
  | .less p q => by
    show (true && (imm (plD p) && (imm (plD q) && true))) = true
    rw [imm_pl p, imm_pl q]
    rfl
  | .distinct p => by
    show (true && (imm (plD p) && true)) = true
    rw [imm_pl p]
    rfl
  | .without cols p q => by
    show (true && (imm (plD p) && (imm (plD q) && (imm (ptD cols) && true)))) = true
    rw [imm_pl p, imm_pl q, imm_pt]
    rfl
  | .group cols s p => by
    show (true && (imm (plD p) && (imm (mo cols) && (imm (srtD s) && true)))) = true
    rw [imm_pl p, imm_mo, imm_srt]
    rfl
  | .top cols m p => by
    show (true && (imm (plD p) && (imm (mo cols) && (true && true)))) = true
    rw [imm_pl p, imm_mo]
    rfl
def deepP : Pl → Nat
  | .tab _ => 1
  | .choose _ p => deepP p + 1
  | .map _ p => deepP p + 1
  | .join _ p q => max (deepP p) (deepP q) + 1
  | .plus p q => max (deepP p) (deepP q) + 1
  | .less p q => max (deepP p) (deepP q) + 1
  | .distinct p => deepP p + 1
  | .without _ p q => max (deepP p) (deepP q) + 1
  | .group _ _ p => deepP p + 1
  | .top _ _ p => deepP p + 1
def namesP : Pl → List Str
  | .tab x => [x]
  | .choose _ p => namesP p
  | .map _ p => namesP p
  | .join _ p q => namesP p ++ namesP q
  | .plus p q => namesP p ++ namesP q
  | .less p q => namesP p ++ namesP q
  | .distinct p => namesP p
  | .without _ p q => namesP p ++ namesP q
  | .group _ _ p => namesP p
  | .top _ _ p => namesP p
def widP (W : Str → Nat) : Pl → Nat
  | .tab x => W x
  | .choose _ p => widP W p
  | .map ts _ => ts.length
  | .join _ p q => widP W p + widP W q
  | .plus p _ => widP W p
  | .less p _ => widP W p
  | .distinct p => widP W p
  | .without _ p _ => widP W p
  | .group cols _ _ => cols.length + 1
  | .top _ _ p => widP W p
def bin (a b : Nat) : Nat := a * b + a + b
def manyP : Pl → Nat
  | .tab _ => 4
  | .choose _ p => manyP p
  | .map _ p => manyP p
  | .join _ p q => bin (manyP p) (manyP q)
  | .plus p q => bin (manyP p) (manyP q)
  | .less p q => bin (manyP p) (manyP q)
  | .distinct p => manyP p
  | .without _ p q => manyP p + manyP q
  | .group _ _ p => manyP p
  | .top _ _ p => manyP p
def sumP : Pl → Nat
  | .tab _ => 110
  | .choose _ p => sumP p + 13
  | .map _ p => sumP p + 13
  | .join _ p q => sumP p + sumP q + 13
  | .plus p q => sumP p + sumP q + 13
  | .less p q => sumP p + sumP q + 13
  | .distinct p => sumP p + 13
  | .without _ p q => sumP p + sumP q + 13
  | .group _ _ p => sumP p + 13
  | .top _ _ p => sumP p + 13
def bitsP : Pl → Nat
  | .tab _ => 103
  | .choose _ p => bitsP p + sumP p + 111
  | .map _ p => bitsP p + sumP p + 111
  | .join _ p q => max (bitsP p) (bitsP q) + sumP p + 111
  | .plus p q => max (bitsP p) (bitsP q) + sumP p + 111
  | .less p q => max (bitsP p) (bitsP q) + sumP p + 111
  | .distinct p => bitsP p + sumP p + 111
  | .without _ p q => max (bitsP p) (bitsP q) + sumP p + 111
  | .group _ _ p => bitsP p + sumP p + 111
  | .top _ _ p => bitsP p + sumP p + 111
/-- the greatest width within -/
def gwidW (W : Str → Nat) : Pl → Nat
  | .tab x => W x
  | .choose _ p => gwidW W p
  | .map ts p => max ts.length (gwidW W p)
  | .join cols p q => max (widP W p + widP W q) (max (gwidW W p) (gwidW W q))
  | .plus p q => max (gwidW W p) (gwidW W q)
  | .less p q => max (gwidW W p) (gwidW W q)
  | .distinct p => gwidW W p
  | .without _ p q => max (gwidW W p) (gwidW W q)
  | .group cols _ p => max (cols.length + 1) (gwidW W p)
  | .top _ _ p => gwidW W p
theorem wid_top (W : Str → Nat) : ∀ p : Pl, widP W p ≤ gwidW W p
  | .tab x => Nat.le_refl _
  | .choose _ p => wid_top W p
  | .map ts p => Nat.le_max_left ..
  | .join cols p q => Nat.le_max_left ..
  | .plus p q => Nat.le_trans (wid_top W p) (Nat.le_max_left ..)
  | .less p q => Nat.le_trans (wid_top W p) (Nat.le_max_left ..)
  | .distinct p => wid_top W p
  | .without _ p q => Nat.le_trans (wid_top W p) (Nat.le_max_left ..)
  | .group _ _ p => Nat.le_max_left ..
  | .top _ _ p => wid_top W p
/-- a plan that fits the widths of its tables -/
def OkP (W : Str → Nat) : Pl → Prop
  | .tab _ => True
  | .choose l p => OkP W p ∧ NdOk (widP W p) 0 (.choose l)
  | .map ts p => OkP W p ∧ NdOk (widP W p) 0 (.map ts)
  | .join cols p q => OkP W p ∧ OkP W q ∧ NdOk (widP W p) (widP W q) (.join cols)
  | .plus p q => OkP W p ∧ OkP W q ∧ widP W p = widP W q
  | .less p q => OkP W p ∧ OkP W q ∧ widP W p = widP W q
  | .distinct p => OkP W p ∧ NdOk (widP W p) 0 .distinct
  | .without cols p q => OkP W p ∧ OkP W q ∧ NdOk (widP W p) (widP W q) (.without cols)
  | .group cols s p => OkP W p ∧ NdOk (widP W p) 0 (.group cols s)
  | .top cols m p => OkP W p ∧ NdOk (widP W p) 0 (.top cols m)
/-- .. and is not too great -/
structure FitP (W : Str → Nat) (p : Pl) : Prop where
  ok : OkP W p
  many : manyP p ≤ 4000
  bits : bitsP p ≤ 400000
  sum : sumP p ≤ 500000
  wid : gwidW W p ≤ 400
theorem many_pos : ∀ p : Pl, 0 < manyP p
  | .tab x => by simp [manyP, namesP, bitsP, sumP]
  | .choose _ p => many_pos p
  | .map _ p => many_pos p
  | .join _ p q => by have := many_pos p; show 0 < _ * _ + _ + _; omega
  | .plus p q => by have := many_pos p; show 0 < _ * _ + _ + _; omega
  | .less p q => by have := many_pos p; show 0 < _ * _ + _ + _; omega
  | .distinct p => many_pos p
  | .without _ p q => by have := many_pos p; show 0 < manyP p + manyP q; omega
  | .group _ _ p => many_pos p
  | .top _ _ p => many_pos p
theorem names_many : ∀ p : Pl, (namesP p).length ≤ manyP p
  | .tab x => by simp [manyP, namesP, bitsP, sumP]
  | .choose _ p => names_many p
  | .map _ p => names_many p
  | .join _ p q => by have h1 := names_many p; have h2 := names_many q; show (namesP p ++ namesP q).length ≤ _ * _ + _ + _; rw [List.length_append]; omega
  | .plus p q => by have h1 := names_many p; have h2 := names_many q; show (namesP p ++ namesP q).length ≤ _ * _ + _ + _; rw [List.length_append]; omega
  | .less p q => by have h1 := names_many p; have h2 := names_many q; show (namesP p ++ namesP q).length ≤ _ * _ + _ + _; rw [List.length_append]; omega
  | .distinct p => names_many p
  | .without _ p q => by have h1 := names_many p; have h2 := names_many q; show (namesP p ++ namesP q).length ≤ manyP p + manyP q; rw [List.length_append]; omega
  | .group _ _ p => names_many p
  | .top _ _ p => names_many p
theorem bits_pos : ∀ p : Pl, 0 < bitsP p
  | .tab x => by simp [manyP, namesP, bitsP, sumP]
  | .choose _ p => by show 0 < _ + 111; omega
  | .map _ p => by show 0 < _ + 111; omega
  | .join _ p q => by show 0 < _ + 111; omega
  | .plus p q => by show 0 < _ + 111; omega
  | .less p q => by show 0 < _ + 111; omega
  | .distinct p => by show 0 < _ + 111; omega
  | .without _ p q => by show 0 < _ + 111; omega
  | .group _ _ p => by show 0 < _ + 111; omega
  | .top _ _ p => by show 0 < _ + 111; omega
theorem sum_pos : ∀ p : Pl, 0 < sumP p
  | .tab x => by simp [manyP, namesP, bitsP, sumP]
  | .choose _ p => by show 0 < _ + 13; omega
  | .map _ p => by show 0 < _ + 13; omega
  | .join _ p q => by show 0 < _ + _ + 13; omega
  | .plus p q => by show 0 < _ + _ + 13; omega
  | .less p q => by show 0 < _ + _ + 13; omega
  | .distinct p => by show 0 < _ + 13; omega
  | .without _ p q => by show 0 < _ + _ + 13; omega
  | .group _ _ p => by show 0 < _ + 13; omega
  | .top _ _ p => by show 0 < _ + 13; omega
section
variable {W : Str → Nat}
theorem bin_l {a b : Nat} (hb : 0 < b) : a ≤ bin a b := by unfold bin; omega
theorem bin_r {a b : Nat} (ha : 0 < a) : b ≤ bin a b := by unfold bin; omega
theorem FitP.choose {l : List Tst} {p : Pl} (h : FitP W (.choose l p)) : FitP W p ∧ NdOk (widP W p) 0 (.choose l) := by
  have h2 : bitsP p + sumP p + 111 ≤ 400000 := h.bits
  have h3 : sumP p + 13 ≤ 500000 := h.sum
  exact ⟨⟨h.ok.1, h.many, by omega, by omega, h.wid⟩, h.ok.2⟩
theorem FitP.map {ts : List Tm} {p : Pl} (h : FitP W (.map ts p)) : FitP W p ∧ NdOk (widP W p) 0 (.map ts) := by
  have h2 : bitsP p + sumP p + 111 ≤ 400000 := h.bits
  have h3 : sumP p + 13 ≤ 500000 := h.sum
  exact ⟨⟨h.ok.1, h.many, by omega, by omega, Nat.le_trans (Nat.le_max_right ..) h.wid⟩, h.ok.2⟩
theorem FitP.distinct {p : Pl} (h : FitP W (.distinct p)) : FitP W p ∧ NdOk (widP W p) 0 (.distinct) := by
  have h2 : bitsP p + sumP p + 111 ≤ 400000 := h.bits
  have h3 : sumP p + 13 ≤ 500000 := h.sum
  exact ⟨⟨h.ok.1, h.many, by omega, by omega, h.wid⟩, h.ok.2⟩
theorem FitP.group {cols : List Int} {s : Srt} {p : Pl} (h : FitP W (.group cols s p)) : FitP W p ∧ NdOk (widP W p) 0 (.group cols s) := by
  have h2 : bitsP p + sumP p + 111 ≤ 400000 := h.bits
  have h3 : sumP p + 13 ≤ 500000 := h.sum
  exact ⟨⟨h.ok.1, h.many, by omega, by omega, Nat.le_trans (Nat.le_max_right ..) h.wid⟩, h.ok.2⟩
theorem FitP.top {cols : List Int} {m : Int} {p : Pl} (h : FitP W (.top cols m p)) : FitP W p ∧ NdOk (widP W p) 0 (.top cols m) := by
  have h2 : bitsP p + sumP p + 111 ≤ 400000 := h.bits
  have h3 : sumP p + 13 ≤ 500000 := h.sum
  exact ⟨⟨h.ok.1, h.many, by omega, by omega, h.wid⟩, h.ok.2⟩
theorem FitP.join {cols : List (Int × Int)} {p q : Pl} (h : FitP W (.join cols p q)) : FitP W p ∧ FitP W q ∧ NdOk (widP W p) (widP W q) (.join cols) := by
  have h1 : bin (manyP p) (manyP q) ≤ 4000 := h.many
  have h2 : max (bitsP p) (bitsP q) + sumP p + 111 ≤ 400000 := h.bits
  have h3 : sumP p + sumP q + 13 ≤ 500000 := h.sum
  have h4 : max (widP W p + widP W q) (max (gwidW W p) (gwidW W q)) ≤ 400 := h.wid
  have g1 := bin_l (a := manyP p) (many_pos q)
  have g2 := bin_r (b := manyP q) (many_pos p)
  exact ⟨⟨h.ok.1, by omega, by omega, by omega, by omega⟩, ⟨h.ok.2.1, by omega, by omega, by omega, by omega⟩, h.ok.2.2⟩
theorem FitP.plus {p q : Pl} (h : FitP W (.plus p q)) : FitP W p ∧ FitP W q ∧ widP W p = widP W q := by
  have h1 : bin (manyP p) (manyP q) ≤ 4000 := h.many
  have h2 : max (bitsP p) (bitsP q) + sumP p + 111 ≤ 400000 := h.bits
  have h3 : sumP p + sumP q + 13 ≤ 500000 := h.sum
  have h4 : max (gwidW W p) (gwidW W q) ≤ 400 := h.wid
  have g1 := bin_l (a := manyP p) (many_pos q)
  have g2 := bin_r (b := manyP q) (many_pos p)
  exact ⟨⟨h.ok.1, by omega, by omega, by omega, by omega⟩, ⟨h.ok.2.1, by omega, by omega, by omega, by omega⟩, h.ok.2.2⟩
theorem FitP.without {cols : List (Int × Int)} {p q : Pl} (h : FitP W (.without cols p q)) : FitP W p ∧ FitP W q ∧ NdOk (widP W p) (widP W q) (.without cols) := by
  have h1 : manyP p + manyP q ≤ 4000 := h.many
  have h2 : max (bitsP p) (bitsP q) + sumP p + 111 ≤ 400000 := h.bits
  have h3 : sumP p + sumP q + 13 ≤ 500000 := h.sum
  have h4 : max (gwidW W p) (gwidW W q) ≤ 400 := h.wid
  exact ⟨⟨h.ok.1, by omega, by omega, by omega, by omega⟩, ⟨h.ok.2.1, by omega, by omega, by omega, by omega⟩, h.ok.2.2⟩
theorem FitP.less {p q : Pl} (h : FitP W (.less p q)) : FitP W p ∧ FitP W q ∧ widP W p = widP W q := FitP.plus (p := p) (q := q) ⟨h.ok, h.many, h.bits, h.sum, h.wid⟩
end
/-! ### what a plan makes, of tallies -/
theorem nf_ex (R : Tly) : ∃ T : Tly, Fin T ∧ (∀ k, Tl.cnt T k = Tl.cnt R k) ∧ ∀ p ∈ T, p.1 ∈ keys R := by
  induction R with
  | nil => exact ⟨[], ⟨List.Pairwise.nil, fun p hp => nomatch hp⟩, fun _ => rfl, fun p hp => nomatch hp⟩
  | cons p R ih =>
    obtain ⟨T, F, c, k⟩ := ih
    refine ⟨nzL (Tl.put T p.1 (Tl.cnt T p.1 + p.2)), fin_nz (put_nodup F.nd), fun j => ?_, fun q hq => ?_⟩
    · rw [cnt_nz, put_cnt F.nd]
      show _ = (if p.1 = j then p.2 else 0) + Tl.cnt R j
      by_cases h : j = p.1
      · subst h
        rw [if_pos rfl, if_pos rfl, c]
        omega
      · rw [if_neg h, if_neg (fun e => h e.symm), c]
        omega
    · rcases put_mem (List.mem_filter.mp hq).1 with h | h
      · exact List.mem_map.mpr ⟨p, List.mem_cons_self .., h.symm⟩
      · obtain ⟨r, hr, e⟩ := List.mem_map.mp h
        rw [← e]
        exact List.mem_cons_of_mem _ (k r hr)
noncomputable def nf (R : Tly) : Tly := (nf_ex R).choose
theorem nf_fin (R : Tly) : Fin (nf R) := (nf_ex R).choose_spec.1
theorem nf_cnt (R : Tly) (k : List Int) : Tl.cnt (nf R) k = Tl.cnt R k := (nf_ex R).choose_spec.2.1 k
theorem nf_keys (R : Tly) : ∀ p ∈ nf R, p.1 ∈ keys R := (nf_ex R).choose_spec.2.2
noncomputable def evP (env : Str → Tly) : Pl → Tly
  | .tab x => env x
  | .choose l p => nf (rOf (.choose l) (evP env p) [])
  | .map ts p => nf (rOf (.map ts) (evP env p) [])
  | .join cols p q => nf (rOf (.join cols) (evP env p) (evP env q))
  | .plus p q => nf (rOf .plus (evP env p) (evP env q))
  | .less p q => nf (rOf .less (evP env p) (evP env q))
  | .distinct p => nf (rOf .distinct (evP env p) [])
  | .without cols p q => nf (rOf (.without cols) (evP env p) (evP env q))
  | .group cols s p => nf (rOf (.group cols s) (evP env p) [])
  | .top cols m p => nf (rOf (.top cols m) (evP env p) [])
/-- the tables: few rows of their width -/
structure EnvOk (W : Str → Nat) (env : Str → Tly) : Prop where
  lim : ∀ x, Lim (W x) 4 103 110 (env x)
  fin : ∀ x, Fin (env x)
theorem lim_nil (w B S : Nat) : Lim w 0 B S [] := ⟨(fun p hp => nomatch hp), Nat.le_refl _, (fun p hp => nomatch hp), Nat.two_pow_pos S⟩
theorem lim_un {l N B S : Nat} {nd : Nd} {L : Tly} (ok : NdOk l 0 nd) (ft : Fits nd l 0) (hL : Lim l N B S L) (hN : N ≤ 5000) : Lim (wOf nd l 0) N (B + S + 111) (S + 13) (rOf nd L []) :=
  (lim_of ok ft hL (lim_nil 0 B 0) hN).mono (by omega) (Nat.le_refl _) (by omega)
theorem lim_bin {l r N1 N2 B1 B2 S1 S2 : Nat} {nd : Nd} {L M : Tly} (ok : NdOk l r nd) (ft : Fits nd l r) (hL : Lim l N1 B1 S1 L) (hM : Lim r N2 B2 S2 M) (hN : N1 ≤ 5000) : Lim (wOf nd l r) (bin N1 N2) (max B1 B2 + S1 + 111) (S1 + S2 + 13) (rOf nd L M) :=
  lim_of ok ft (hL.mono (Nat.le_refl _) (Nat.le_max_left ..) (Nat.le_refl _)) (hM.mono (Nat.le_refl _) (Nat.le_max_right ..) (Nat.le_refl _)) hN
theorem lim_wo {l N1 N2 B1 B2 S1 S2 : Nat} {cols : List (Int × Int)} {L M : Tly} (h : Lim l N1 B1 S1 L) : Lim l (N1 + N2) (max B1 B2 + S1 + 111) (S1 + S2 + 13) (rOf (.without cols) L M) := by
  have h1 : Lim l N1 B1 S1 (withoutL cols L M) := ⟨fun p hp => h.wid p (List.mem_filter.mp hp).1, Nat.le_trans (List.length_filter_le _ _) h.len, fun p hp => h.val p (List.mem_filter.mp hp).1, Nat.lt_of_le_of_lt (abs_filter _ _) h.sum⟩
  exact h1.mono (by omega) (by omega) (by omega)
theorem lim_nf {w N B S : Nat} {R : Tly} (h : Lim w N B S R) : Lim w N B S (nf R) := h.fin (nf_fin R) (nf_cnt R) (nf_keys R)
theorem ev_lim {W : Str → Nat} {env : Str → Tly} (E : EnvOk W env) : ∀ p : Pl, OkP W p → manyP p ≤ 4000 → Lim (widP W p) (manyP p) (bitsP p) (sumP p) (evP env p)
  | .tab x, _, _ => E.lim x
  | .choose l p, h, hm => lim_nf (lim_un h.2 trivial (ev_lim E p h.1 hm) (Nat.le_trans hm (by decide)))
  | .map ts p, h, hm => lim_nf (lim_un h.2 trivial (ev_lim E p h.1 hm) (Nat.le_trans hm (by decide)))
  | .distinct p, h, hm => lim_nf (lim_un h.2 trivial (ev_lim E p h.1 hm) (Nat.le_trans hm (by decide)))
  | .group cols s p, h, hm => lim_nf (lim_un h.2 trivial (ev_lim E p h.1 hm) (Nat.le_trans hm (by decide)))
  | .top cols m p, h, hm => lim_nf (lim_un h.2 trivial (ev_lim E p h.1 hm) (Nat.le_trans hm (by decide)))
  | .join cols p q, h, hm => lim_nf (lim_bin h.2.2 trivial (ev_lim E p h.1 (Nat.le_trans (bin_l (many_pos q)) hm)) (ev_lim E q h.2.1 (Nat.le_trans (bin_r (many_pos p)) hm)) (Nat.le_trans (Nat.le_trans (bin_l (many_pos q)) hm) (by decide)))
  | .without cols p q, h, hm => lim_nf (lim_wo (ev_lim E p h.1 (Nat.le_trans (Nat.le_add_right _ _) hm)))
  | .plus p q, h, hm => lim_nf (lim_bin (nd := .plus) .plus h.2.2 (ev_lim E p h.1 (Nat.le_trans (bin_l (many_pos q)) hm)) (ev_lim E q h.2.1 (Nat.le_trans (bin_r (many_pos p)) hm)) (Nat.le_trans (Nat.le_trans (bin_l (many_pos q)) hm) (by decide)))
  | .less p q, h, hm => lim_nf (lim_bin (nd := .less) .less h.2.2 (ev_lim E p h.1 (Nat.le_trans (bin_l (many_pos q)) hm)) (ev_lim E q h.2.1 (Nat.le_trans (bin_r (many_pos p)) hm)) (Nat.le_trans (Nat.le_trans (bin_l (many_pos q)) hm) (by decide)))
theorem ev_fin {W : Str → Nat} {env : Str → Tly} (E : EnvOk W env) : ∀ p : Pl, Fin (evP env p)
  | .tab x => E.fin x
  | .choose l p => nf_fin _
  | .map ts p => nf_fin _
  | .join cols p q => nf_fin _
  | .plus p q => nf_fin _
  | .less p q => nf_fin _
  | .distinct p => nf_fin _
  | .without _ p q => nf_fin _
  | .group _ _ p => nf_fin _
  | .top _ _ p => nf_fin _
/-- any tally of what the node makes of the same tallies is the plan's -/
theorem ev_perm {nd : Nd} {L L' M M' T : Tly} (h : L.Perm L') (g : M.Perm M') (FL : Fin L) (F : Fin T) (c : ∀ k, Tl.cnt T k = Tl.cnt (rOf nd L M) k) : T.Perm (nf (rOf nd L' M')) :=
  F.perm (nf_fin _) fun k => by rw [c, nf_cnt, rOf_cnt h g FL k]
end K18

namespace K18
open PySem PySem.Spec PyProof.Rows L2 RW9 Tl
def onesW : List Str := ["choose", "map", "distinct", "group", "top"]
def twosW : List Str := ["join", "plus", "less", "without"]
/-- the sub-plans that stand in the node xs -/
inductive SubAt (xs : List V) : List V → Prop
  | one {w : Str} {v : V} (hw : w ∈ onesW) (h0 : xs[0]? = some (.str w)) (h1 : xs[1]? = some v) : SubAt xs [v]
  | two {w : Str} {v u : V} (hw : w ∈ twosW) (h0 : xs[0]? = some (.str w)) (h1 : xs[1]? = some v) (h2 : xs[2]? = some u) : SubAt xs [v, u]
theorem ones_ne : ∀ w ∈ onesW, w ≠ "table" ∧ w ≠ "loop" := by decide
theorem twos_ne : ∀ w ∈ twosW, w ≠ "table" ∧ w ≠ "loop" := by decide
theorem SubAt.word {xs us : List V} (h : SubAt xs us) : ∃ w : Str, xs[0]? = some (.str w) ∧ w ≠ "table" ∧ w ≠ "loop" := by
  cases h with
  | one hw h0 h1 => exact ⟨_, h0, ones_ne _ hw⟩
  | two hw h0 h1 h2 => exact ⟨_, h0, twos_ne _ hw⟩
def subsP : Pl → List Pl
  | .tab _ => []
  | .choose _ p => [p]
  | .map _ p => [p]
  | .join _ p q => [p, q]
  | .plus p q => [p, q]
  | .less p q => [p, q]
  | .distinct p => [p]
  | .without _ p q => [p, q]
  | .group _ _ p => [p]
  | .top _ _ p => [p]
def ndP : Pl → Nd
  | .tab _ => .plus
  | .choose l _ => .choose l
  | .map ts _ => .map ts
  | .join cols _ _ => .join cols
  | .plus _ _ => .plus
  | .less _ _ => .less
  | .distinct _ => .distinct
  | .without cols _ _ => .without cols
  | .group cols s _ => .group cols s
  | .top cols m _ => .top cols m
def isTab : Pl → Bool
  | .tab _ => true
  | _ => false
/-- a plan that is no table -/
structure PlAt (K : PySem.W.Frag) (H : Hp) (a : Addr) (p : Pl) (xs us : List V) : Prop where
  at' : H a = some (.tup xs)
  sub : SubAt xs us
  subs : Paired (fun u q => Da K H u (plD q)) us (subsP p)
  nd : NdAt K H xs (ndP p)
theorem Da.tabI {K : PySem.W.Frag} {H : Hp} {v : V} {x : Str} (h : Da K H v (plD (.tab x))) : ∃ a, v = .ref a ∧ H a = some (.tup [.str "table", .str x]) := by
  cases h with
  | @tup a xs ds hs ha =>
    cases ha with
    | cons h1 h2 =>
      cases h2 with
      | cons h2 h3 =>
        cases h3
        cases h1
        cases h2
        exact ⟨a, rfl, hs⟩
theorem Da.plI {K : PySem.W.Frag} {H : Hp} {v : V} {p : Pl} (h : Da K H v (plD p)) (hn : isTab p = false) : ∃ a xs us, v = .ref a ∧ PlAt K H a p xs us := by
  cases p with
  | tab x => cases hn
  | choose l p =>
    cases h with
    | @tup a xs ds hs ha =>
      cases ha with
      | cons h1 h2 =>
        cases h2 with
        | cons h2 h3 =>
          cases h3 with
          | cons h3 h4 =>
            cases h4
            cases h1
            exact ⟨a, _, _, rfl, hs, .one (by decide) rfl rfl, .cons h2 .nil, .choose rfl rfl h3⟩
  | map ts p =>
    cases h with
    | @tup a xs ds hs ha =>
      cases ha with
      | cons h1 h2 =>
        cases h2 with
        | cons h2 h3 =>
          cases h3 with
          | cons h3 h4 =>
            cases h4
            cases h1
            exact ⟨a, _, _, rfl, hs, .one (by decide) rfl rfl, .cons h2 .nil, .map rfl rfl h3⟩
  | join cols p q =>
    cases h with
    | @tup a xs ds hs ha =>
      cases ha with
      | cons h1 h2 =>
        cases h2 with
        | cons h2 h3 =>
          cases h3 with
          | cons h3 h4 =>
            cases h4 with
            | cons h4 h5 =>
              cases h5
              cases h1
              exact ⟨a, _, _, rfl, hs, .two (by decide) rfl rfl rfl, .cons h2 (.cons h3 .nil), .join rfl rfl h4⟩
  | plus p q =>
    cases h with
    | @tup a xs ds hs ha =>
      cases ha with
      | cons h1 h2 =>
        cases h2 with
        | cons h2 h3 =>
          cases h3 with
          | cons h3 h4 =>
            cases h4
            cases h1
            exact ⟨a, _, _, rfl, hs, .two (by decide) rfl rfl rfl, .cons h2 (.cons h3 .nil), .plus rfl⟩
  | less p q =>
    cases h with
    | @tup a xs ds hs ha =>
      cases ha with
      | cons h1 h2 =>
        cases h2 with
        | cons h2 h3 =>
          cases h3 with
          | cons h3 h4 =>
            cases h4
            cases h1
            exact ⟨a, _, _, rfl, hs, .two (by decide) rfl rfl rfl, .cons h2 (.cons h3 .nil), .less rfl⟩
  | distinct p =>
    cases h with
    | @tup a xs ds hs ha =>
      cases ha with
      | cons h1 h2 =>
        cases h2 with
        | cons h2 h3 =>
          cases h3
          cases h1
          exact ⟨a, _, _, rfl, hs, .one (by decide) rfl rfl, .cons h2 .nil, .distinct rfl⟩
  | without cols p q =>
    cases h with
    | @tup a xs ds hs ha =>
      cases ha with
      | cons h1 h2 =>
        cases h2 with
        | cons h2 h3 =>
          cases h3 with
          | cons h3 h4 =>
            cases h4 with
            | cons h4 h5 =>
              cases h5
              cases h1
              exact ⟨a, _, _, rfl, hs, .two (by decide) rfl rfl rfl, .cons h2 (.cons h3 .nil), .without rfl h4⟩
  | group cols s p =>
    cases h with
    | @tup a xs ds hs ha =>
      cases ha with
      | cons h1 h2 =>
        cases h2 with
        | cons h2 h3 =>
          cases h3 with
          | cons h3 h4 =>
            cases h4 with
            | cons h4 h5 =>
              cases h5
              cases h1
              exact ⟨a, _, _, rfl, hs, .one (by decide) rfl rfl, .cons h2 .nil, .group rfl h3 h4⟩
  | top cols m p =>
    cases h with
    | @tup a xs ds hs ha =>
      cases ha with
      | cons h1 h2 =>
        cases h2 with
        | cons h2 h3 =>
          cases h3 with
          | cons h3 h4 =>
            cases h4 with
            | cons h4 h5 =>
              cases h5
              cases h1
              cases h4
              exact ⟨a, _, _, rfl, hs, .one (by decide) rfl rfl, .cons h2 .nil, .top rfl h3⟩
theorem PlAt.same {K : PySem.W.Frag} {H H' : Hp} {a : Addr} {p : Pl} {xs us : List V} (h : PlAt K H a p xs us) (e : Same H H') : PlAt K H' a p xs us :=
  ⟨e _ _ h.at', h.sub, Paired.mapP h.subs fun u q d => Da.same e _ _ d, h.nd.same e⟩
theorem names_subs {p : Pl} (h : isTab p = false) : namesP p = ((subsP p).map namesP).flatten := by
  cases p with
  | tab x => cases h
  | choose l p => exact (List.append_nil _).symm
  | map ts p => exact (List.append_nil _).symm
  | join cols p q => simp [namesP, subsP]
  | plus p q => simp [namesP, subsP]
  | less p q => simp [namesP, subsP]
  | distinct p => exact (List.append_nil _).symm
  | without cols p q => simp [namesP, subsP]
  | group cols s p => exact (List.append_nil _).symm
  | top cols m p => exact (List.append_nil _).symm
theorem deep_subs {p q : Pl} (h : q ∈ subsP p) : deepP q < deepP p := by
  cases p with
  | tab x => cases h
  | choose l p =>
    rw [List.mem_singleton.mp h]
    show _ < _ + 1
    omega
  | map ts p =>
    rw [List.mem_singleton.mp h]
    show _ < _ + 1
    omega
  | join cols p1 p2 =>
    have : q = p1 ∨ q = p2 := by simpa [subsP] using h
    rcases this with rfl | rfl <;> show _ < max _ _ + 1 <;> omega
  | plus p1 p2 =>
    have : q = p1 ∨ q = p2 := by simpa [subsP] using h
    rcases this with rfl | rfl <;> show _ < max _ _ + 1 <;> omega
  | less p1 p2 =>
    have : q = p1 ∨ q = p2 := by simpa [subsP] using h
    rcases this with rfl | rfl <;> show _ < max _ _ + 1 <;> omega
  | distinct p =>
    rw [List.mem_singleton.mp h]
    show _ < _ + 1
    omega
  | without cols p1 p2 =>
    have : q = p1 ∨ q = p2 := by simpa [subsP] using h
    rcases this with rfl | rfl <;> show _ < max _ _ + 1 <;> omega
  | group cols s p =>
    rw [List.mem_singleton.mp h]
    show _ < _ + 1
    omega
  | top cols m p =>
    rw [List.mem_singleton.mp h]
    show _ < _ + 1
    omega
theorem deep_pos : ∀ p : Pl, 0 < deepP p
  | .tab _ => Nat.one_pos
  | .choose _ _ => Nat.succ_pos _
  | .map _ _ => Nat.succ_pos _
  | .join _ _ _ => Nat.succ_pos _
  | .plus _ _ => Nat.succ_pos _
  | .less _ _ => Nat.succ_pos _
  | .distinct _ => Nat.succ_pos _
  | .without _ _ _ => Nat.succ_pos _
  | .group _ _ _ => Nat.succ_pos _
  | .top _ _ _ => Nat.succ_pos _
section
variable {P : Program} {w : World} {K : PySem.W.Frag} {mg : Str → Option Value} {base : Heap} {C W_SUBPLANS : Addr}
/-- the module's dict of the places of sub-plans, as far as it is asked -/
structure SubW (K : PySem.W.Frag) (w : World) (W : Addr) : Prop where
  one : ∀ x : Str, x ∈ onesW → ∃ t, KDct K w W x (.ref t) ∧ ∀ H, SqT K H t [.int 1]
  two : ∀ x : Str, x ∈ twosW → ∃ t, KDct K w W x (.ref t) ∧ ∀ H, SqT K H t [.int 1, .int 2]
def spSubplans : Sp := fun vs H Q _ => ∃ (n : Addr) (xs us : List V), vs = [.ref n] ∧ H n = some (.tup xs) ∧ SubAt xs us ∧ ∀ H' l, Same H H' → H l = none → H' l = some (.lst us) → Q (.ref l) H'
theorem d_subplans (B : Bt mg) (T : Top K mg "subplans" ssubplans ["node"]) (mW_SUBPLANS : mg "SUBPLANS" = some (.ref W_SUBPLANS)) (S : SubW K w W_SUBPLANS) : Def P w K mg base "subplans" 1 ["node"] spSubplans := by
  refine mk_def T scsubplans (by rintro _ _ _ _ ⟨_, _, _, rfl, _⟩; rfl) fun f cdv A outer s H vs Q E hr h => ?_
  obtain ⟨n, xs, us, rfl, hn, hs, q⟩ := h
  refine ⟨_, (pss_one (ps_ret (pe_lc (own := [("place", 1)]) (g := (gName 1)) (tt := tYes) (te := (tOp (rIxT K) (tVar 0) (tVar 1))) rfl scsubplans.nd (pi_tup (pe_ix ix_kdict (pe_glob (v := .ref W_SUBPLANS) (by rfl) mW_SUBPLANS rfl) (pe_ix ix_tup (pv 0) pe_int (fun _ _ => rfl)) (fun _ _ => rfl))) (blkOk_by (own := [("place", 1)]) (N := Nsubplans) (sc := defScope ssubplans) (by decide +kernel)) (fun _ _ _ _ _ => (pg_name (i := 1) scsubplans.nd rfl (Or.inl rfl))) (fun _ _ _ _ _ => pts_nil) (fun _ _ _ _ _ => (pe_ix ix_tup (pv 0) (pv 1) (fun _ _ => rfl)))))), ?_⟩
  have hk : ∃ (wd : Str) (t : Addr) (ix : List Int), xs[0]? = some (.str wd) ∧ KDct K w W_SUBPLANS wd (.ref t) ∧ (∀ H, SqT K H t (ix.map V.int)) ∧ ix.length = us.length ∧ us.length ≤ 2 ∧ ∀ (j : Nat) (i : Int), ix[j]? = some i → ∃ v, us[j]? = some v ∧ atI xs i = some v := by
    cases hs with
    | one hw h0 h1 =>
      obtain ⟨t, k, ht⟩ := S.one _ hw
      refine ⟨_, t, [1], h0, k, ht, rfl, by simp, fun j i hj => ?_⟩
      match j, hj with
      | 0, hj =>
        cases hj
        exact ⟨_, rfl, atI_nat (j := 1) h1⟩
    | two hw h0 h1 h2 =>
      obtain ⟨t, k, ht⟩ := S.two _ hw
      refine ⟨_, t, [1, 2], h0, k, ht, rfl, by simp, fun j i hj => ?_⟩
      match j, hj with
      | 0, hj =>
        cases hj
        exact ⟨_, rfl, atI_nat (j := 1) h1⟩
      | 1, hj =>
        cases hj
        exact ⟨_, rfl, atI_nat (j := 2) h2⟩
  obtain ⟨wd, t, ix, h0, k, ht, hl, h2, hat⟩ := hk
  refine ⟨.ref n, rfl, n, _, _, .str wd, rfl, rfl, SqT.of hn, atI_nat (j := 0) h0, W_SUBPLANS, wd, .ref t, rfl, rfl, k, t, rfl, ⟨_, ht H⟩, fun D hD => ?_⟩
  refine lc_val (walk_tup (K := K)) hD (by rw [List.length_map]; omega) (fun H1 e1 => ht H1) us (by rw [List.length_map, hl]) (fun j x H1 H2 Q' hj e1 y k' => ?_) (fun H1 e1 eD => ?_)
  · obtain ⟨rfl, hy⟩ := y
    rw [List.getElem?_map] at hy
    obtain ⟨i, hi, rfl⟩ := Option.map_eq_some_iff.mp hy
    obtain ⟨v, hv, ha⟩ := hat j i hi
    exact ⟨rfl, .ref n, rfl, .int i, rfl, n, _, _, v, rfl, rfl, SqT.of (e1 _ _ hn), ha, k' _ _ (Same.refl _) hv⟩
  · exact q H1 D e1 hD eD
end
end K18

namespace K18
open PySem PySem.Spec PyProof.Rows L2 RW9 Tl
theorem catAny {K : PySem.W.Frag} {H : Hp} {a b : Addr} {xs ys : List V} (ha : SqT K H a xs) (hb : SqT K H b ys) (hl : xs.length + ys.length ≤ sizeLine) {Q3 : VK} (h : ∀ H' u, Same H H' → SqT K H' u (xs ++ ys) → Q3 (.ref u) H') : rCatA K (.ref a) (.ref b) H Q3 := by
  refine ⟨a, b, xs, ys, rfl, rfl, ha, hb, hl, fun h0 => ?_, fun h0 h1 => ?_, fun h0 h1 u hu => ?_⟩
  · subst h0
    exact h _ b (Same.refl _) hb
  · subst h1
    refine h _ a (Same.refl _) ?_
    rw [List.append_nil]
    exact ha
  · exact h _ u (same_upd hu) (SqT.of upd_same)
def PartAt (H : Hp) (v : V) (x : Str) : Prop := ∃ t u z, v = .ref t ∧ H t = some (.tup [u, .str x, z])
theorem PartAt.same {H H' : Hp} {v : V} {x : Str} (h : PartAt H v x) (e : Same H H') : PartAt H' v x := by
  obtain ⟨t, u, z, rfl, h⟩ := h
  exact ⟨t, u, z, rfl, e _ _ h⟩
theorem scX_it {wd : World} {J : It} {n : Nat} {G : Hp → Prop} {Y : Nat → Hp → V → Hp → Prop} (w : Walk J n G Y) {g : TG} {tt : TT} {te : TE} {vs : List Nat} {σ : L2.St} {H1 : Hp} {D : Addr} {Qd : Hp → Prop} (Pv : Nat → Hp → Prop) (h0 : Pv 0 (L2.upd H1 D (SetXO wd D []))) (hG : ∀ i H, i ≤ n → Pv i H → G H)
    (hs : ∀ i x H H', i < n → Pv i H → Y i H x H' → g x (wipe σ vs) H' fun σ2 H2 => wipe σ2 vs = wipe σ vs ∧ tt σ2 H2 fun b H3 =>
      if b = true then te σ2 H3 fun y H4 => ∃ (x : Str) (L : List Str), y = .str x ∧ H4 D = some (SetXO wd D L) ∧ L.length + 1 < scanBound ∧ Pv (i + 1) (L2.upd H4 D (SetXO wd D (if x ∈ L then L else x :: L))) else Pv (i + 1) H3) (hd : ∀ H, Pv n H → Qd H) :
    ∃ W : Nat → Nat → Hp → Prop, (∃ m, W 0 m (L2.upd H1 D (SetXO wd D []))) ∧ ∀ i m H, W i m H →
      (J.stop i H ∧ Qd H) ∨ (J.go i H ∧ ∃ Nx : Hp → Prop, (∀ H', Nx H' → ∃ m', m' < m ∧ W (i + 1) m' H') ∧ ∀ x H', J.yld i H x H' → g x (wipe σ vs) H' fun σ2 H2 => wipe σ2 vs = wipe σ vs ∧ tt σ2 H2 fun b H3 =>
        if b = true then te σ2 H3 fun y H4 => ∃ (x : Str) (L : List Str), y = .str x ∧ H4 D = some (SetXO wd D L) ∧ L.length + 1 < scanBound ∧ Nx (L2.upd H4 D (SetXO wd D (if x ∈ L then L else x :: L))) else Nx H3) := by
  refine ⟨fun i m H' => (m + i = n) ∧ Pv i H', ⟨n, rfl, h0⟩, fun i m H' hW => ?_⟩
  have hle : i ≤ n := by omega
  have hgo := hG i H' hle hW.2
  rcases Nat.lt_or_ge i n with lt | ge
  · refine .inr ⟨w.goes i H' lt hgo, Pv (i + 1), fun H2 hp => ⟨m - 1, by omega, by omega, hp⟩, fun x H2 hy => ?_⟩
    exact hs i x H' H2 lt hW.2 (w.yields i H' x H2 lt hgo hy)
  · obtain rfl : i = n := by omega
    exact .inl ⟨w.stops H' hgo, hd H' hW.2⟩
theorem many_subs {p q : Pl} (h : q ∈ subsP p) : manyP q ≤ manyP p := by
  cases p with
  | tab x => cases h
  | choose l p =>
    rw [List.mem_singleton.mp h]
    exact Nat.le_refl _
  | map ts p =>
    rw [List.mem_singleton.mp h]
    exact Nat.le_refl _
  | join cols p1 p2 =>
    have : q = p1 ∨ q = p2 := by simpa [subsP] using h
    rcases this with rfl | rfl
    · exact bin_l (many_pos _)
    · exact bin_r (many_pos _)
  | plus p1 p2 =>
    have : q = p1 ∨ q = p2 := by simpa [subsP] using h
    rcases this with rfl | rfl
    · exact bin_l (many_pos _)
    · exact bin_r (many_pos _)
  | less p1 p2 =>
    have : q = p1 ∨ q = p2 := by simpa [subsP] using h
    rcases this with rfl | rfl
    · exact bin_l (many_pos _)
    · exact bin_r (many_pos _)
  | distinct p =>
    rw [List.mem_singleton.mp h]
    exact Nat.le_refl _
  | without cols p1 p2 =>
    have : q = p1 ∨ q = p2 := by simpa [subsP] using h
    rcases this with rfl | rfl
    · exact Nat.le_add_right _ _
    · exact Nat.le_add_left _ _
  | group cols s p =>
    rw [List.mem_singleton.mp h]
    exact Nat.le_refl _
  | top cols m p =>
    rw [List.mem_singleton.mp h]
    exact Nat.le_refl _
section
variable {P : Program} {w : World} {K : PySem.W.Frag} {mg : Str → Option Value} {base : Heap} {C : Addr}
def spFree (K : PySem.W.Frag) (n : Nat) : Sp := fun vs H Q _ => ∃ (v : V) (pa lo : Addr) (ps : List V) (p : Pl), vs = [v, .ref pa, .ref lo] ∧ Da K H v (plD p) ∧ deepP p ≤ n ∧ manyP p ≤ 5000 ∧ SqT K H pa ps ∧ ps.length + n ≤ 1000 ∧ H lo = some (.tup []) ∧ ∀ H' l acc, Same H H' → H l = none → H' l = some (.lst acc) → Paired (PartAt H') acc (namesP p) → Q (.ref l) H'
theorem d_free_parts (B : Bt mg) (T : Top K mg "free_parts" sfree_parts ["node", "path", "loops"]) (Dsubplans : Def P w K mg base "subplans" 1 ["node"] spSubplans) : ∀ n : Nat, Def P w K mg base "free_parts" (n + 1) ["node", "path", "loops"] (spFree K n)
  | 0 => mk_def T scfree_parts (by rintro _ _ _ _ ⟨_, _, _, _, _, rfl, _⟩; rfl) fun f cdv A outer s H vs Q E hr h => by
    obtain ⟨_, _, _, _, p, _, _, h, _⟩ := h
    have := deep_pos p
    omega
  | n + 1 => by
    have Dfree_parts := d_free_parts B T Dsubplans n
    refine mk_def T scfree_parts (by rintro _ _ _ _ ⟨_, _, _, _, _, rfl, _⟩; rfl) fun f cdv A outer s H vs Q E hr h => ?_
    obtain ⟨v, pa, lo, ps, p, rfl, hd, hn, hm, hpa, hps, hlo, q⟩ := h
    refine ⟨_, (pss_cons (ps_if (pt_cmpR op_eq (pe_ix ix_tup (pv 0) pe_int (fun _ _ => rfl)) pe_str (nomark _)) (pss_cons (ps_set (i := 3) scfree_parts.nd rfl (Or.inl rfl) (pe_cmpR op_in_seq (pe_ix ix_tup (pv 0) pe_int (fun _ _ => rfl)) (pe_lc (own := [("_", 4), ("name", 5)]) (g := (gTup K 2 (gCons (gName 4) (gCons (gName 5) gNil)))) (tt := tYes) (te := (tVar 5)) rfl scfree_parts.nd (pi_tup (pv 2)) (blkOk_by (own := [("_", 4), ("name", 5)]) (N := Nfree_parts) (sc := defScope sfree_parts) (by decide +kernel)) (fun _ _ _ _ _ => (pg_tup rfl (pgs_cons (pg_name (i := 4) scfree_parts.nd rfl (Or.inl rfl)) (pgs_cons (pg_name (i := 5) scfree_parts.nd rfl (Or.inl rfl)) pgs_nil)))) (fun _ _ _ _ _ => pts_nil) (fun _ _ _ _ _ => (pv 5))) rfl))
      (pss_one (ps_ret (pe_ifExp (pt_val (pv 3)) (pe_lst pa_nil) (pe_lst (pa_cons (pe_tup (pa_cons (pv 1) (pa_cons (pe_ix ix_tup (pv 0) pe_int (fun _ _ => rfl)) (pa_cons (pv 2) pa_nil)))) pa_nil)))))) pss_nil)
      (pss_cons (ps_set (i := 6) scfree_parts.nd rfl (Or.inl rfl) (pe_lst pa_nil))
      (pss_cons (ps_for PassesOwn.never rfl (pi_enum (by rfl) B.m_enumerate (pa_cons (pe_def Dsubplans (hr.mono (by first | decide | omega)) (by rfl) (pa_cons (pv 0) pa_nil)) pa_nil)) (pg_tup rfl (pgs_cons (pg_name (i := 7) scfree_parts.nd rfl (Or.inl rfl)) (pgs_cons (pg_name (i := 8) scfree_parts.nd rfl (Or.inl rfl)) pgs_nil))) (pss_cons (ps_set (i := 9) scfree_parts.nd rfl (Or.inl rfl) (pe_and (pe_cmpR op_eq (pe_ix ix_tup (pv 0) pe_int (fun _ _ => rfl)) pe_str (nomark _)) (pe_one (pe_cmpR op_eq (pv 7) pe_int (nomark _)))))
      (pss_cons (ps_set (i := 10) scfree_parts.nd rfl (Or.inl rfl) (pe_ifExp (pt_val (pv 9)) (pe_op op_catA (pv 2) (pe_tup (pa_cons (pe_tup (pa_cons (pv 1) (pa_cons (pe_ix ix_tup (pv 0) pe_int (fun _ _ => rfl)) pa_nil))) pa_nil))) (pv 2)))
      (pss_one (ps_expr (pe_bm PySem.F.plainAttrs_list PySem.F.slot_list_extend PySem.F.type_list_extend mt_extend (pv 6) (pa_cons (pe_def Dfree_parts (hr.mono (by first | decide | omega)) (by rfl) (pa_cons (pv 8) (pa_cons (pe_op op_catA (pv 1) (pe_tup (pa_cons (pv 7) pa_nil))) (pa_cons (pv 10) pa_nil)))) pa_nil)))))))
      (pss_one (ps_ret (pv 6)))))), ?_⟩
    cases hp : isTab p with
    | true =>
      cases p with
      | tab x =>
        obtain ⟨a, rfl, ha⟩ := Da.tabI hd
        refine ⟨.ref a, rfl, a, _, _, .str "table", rfl, rfl, SqT.of ha, atI_nat (j := 0) rfl, rfl, _, rfl, iteT ?_⟩
        refine ⟨.ref a, rfl, a, _, _, .str x, rfl, rfl, SqT.of ha, atI_nat (j := 1) rfl, .ref lo, rfl, lo, rfl, ⟨_, SqT.of hlo⟩, fun D hD => ?_⟩
        refine lc_val (walk_tup (K := K) (xs := [])) hD (by decide) (fun H1 e1 => SqT.of (e1 _ _ hlo)) [] rfl (fun j z H1 H2 Q' hj e1 y k => absurd hj (Nat.not_lt_zero _)) (fun H1 e1 eD => ?_)
        refine ⟨D, [], rfl, .inl (SqL.of eD), rfl, rfl, ?_⟩
        refine ⟨.bl false, rfl, false, rfl, ?_⟩
        refine ⟨.ref pa, rfl, .ref a, rfl, a, _, _, .str x, rfl, rfl, SqT.of (e1 _ _ ha), atI_nat (j := 1) rfl, .ref lo, rfl, by show 3 ≤ sizeLine; decide, fun t ht => ⟨by show 1 ≤ sizeLine; decide, fun l hl => ?_⟩⟩
        have e2 := same_upd (o := .tup [V.ref pa, .str x, .ref lo]) ht
        exact q _ l _ ((e1.trans e2).trans (same_upd hl)) ((e1.trans e2).new hl) upd_same (.cons ⟨t, _, _, rfl, (same_upd hl) _ _ upd_same⟩ .nil)
      | choose _ _ => cases hp
      | map _ _ => cases hp
      | join _ _ _ => cases hp
      | plus _ _ => cases hp
      | less _ _ => cases hp
      | distinct _ => cases hp
      | without _ _ _ => cases hp
      | group _ _ _ => cases hp
      | top _ _ _ => cases hp
    | false =>
      obtain ⟨a, xs, us, rfl, pl⟩ := Da.plI hd hp
      obtain ⟨wd, h0, hw1, hw2⟩ := pl.sub.word
      have hlen : us.length = (subsP p).length := Paired.length pl.subs
      refine ⟨.ref a, rfl, a, _, _, .str wd, rfl, rfl, SqT.of pl.at', atI_nat (j := 0) h0, rfl, _, rfl, iteN (strNe hw1) ?_⟩
      refine ⟨by show 0 ≤ sizeLine; decide, fun F hF => ?_⟩
      have eF := same_upd (o := .lst []) hF
      refine ⟨.ref a, rfl, a, xs, us, rfl, eF _ _ pl.at', pl.sub, fun H1 l e1 hl hls => ⟨l, us, rfl, SqL.of hls, ?_⟩⟩
      have e01 : Same H H1 := eF.trans e1
      have hF1 : H1 F = some (.lst []) := e1 _ _ upd_same
      refine for_it (walk_enum (K := K) (xs := us)) (fun i σ' H' => ∃ (y7 y8 y9 y10 : Option V) (acc : List V), σ' = [some (.ref a), some (.ref pa), some (.ref lo), none, none, none, some (.ref F), y7, y8, y9, y10] ∧ (∀ b o, b ≠ F → H1 b = some o → H' b = some o) ∧ H' F = some (.lst acc) ∧ Paired (PartAt H') acc (((subsP p).take i).map namesP).flatten) ⟨none, none, none, none, [], rfl, fun _ _ _ h => h, hF1, .nil⟩ (fun i σ' H' _ pv => ?_) (fun i x σ' H2 H3 hi pv y => ?_) (fun σ' H2 pv => ?_)
      · obtain ⟨_, _, _, _, _, _, e, _⟩ := pv
        exact SqL.of (e _ _ (ne_of_none (upd_same) hl).symm hls)
      · obtain ⟨y7, y8, y9, y10, acc, rfl, e, hF2, hacc⟩ := pv
        obtain ⟨t, x1, x2, rfl, ht, rfl, hx1, hx2⟩ := y
        cases hx1
        obtain ⟨p', hp', hdp⟩ := DX.pget (flipP pl.subs) hx2
        have hmem : p' ∈ subsP p := List.mem_of_getElem? hp'
        have neF : ∀ {b o}, H b = some o → b ≠ F := fun h => ne_of_none h hF
        have e2 : Same H H2 := fun b o ho => e _ _ (neF ho) (e01 _ _ ho)
        have e3 := same_upd (o := .tup [V.int (i : Nat), x2]) ht
        have ht3 : L2.upd H2 t (.tup [V.int (i : Nat), x2]) t = some (.tup [V.int (i : Nat), x2]) := upd_same
        have hF3 := e3 _ _ hF2
        have hacc3 := Paired.mapP hacc fun v q h => PartAt.same h e3
        have e03 := e2.trans e3
        have e13 : ∀ b o, b ≠ F → H1 b = some o → L2.upd H2 t (.tup [V.int (i : Nat), x2]) b = some o := fun b o n ho => e3 _ _ (e _ _ n ho)
        generalize L2.upd H2 t (.tup [V.int (i : Nat), x2]) = H3 at e3 ht3 hF3 hacc3 e03 e13 ⊢
        refine ⟨t, _, rfl, SqT.of ht3, rfl, _, _, rfl, _, _, rfl, rfl, ?_⟩
        refine ⟨.ref a, rfl, a, _, _, .str wd, rfl, rfl, SqT.of (e03 _ _ pl.at'), atI_nat (j := 0) h0, rfl, _, rfl, iteN (strNe hw2) ?_⟩
        refine ⟨.bl false, rfl, false, rfl, .ref lo, rfl, ?_⟩
        refine ⟨.ref F, rfl, .inl ⟨rfl, _, SqL.of hF3⟩, x2, rfl, .ref pa, rfl, .int (i : Nat), rfl, by show 1 ≤ sizeLine; decide, fun u hu => ?_⟩
        have e4 := same_upd (o := .tup [V.int (i : Nat)]) hu
        refine catAny (e4.seqT (e03.seqT hpa)) (SqT.of upd_same) (Nat.le_trans (show ps.length + 1 ≤ 1001 by omega) (by decide)) fun H5 pa' e5 hpa' => ?_
        have e35 := e4.trans e5
        have e05 := e03.trans e35
        refine ⟨.ref lo, rfl, x2, pa', lo, ps ++ [.int (i : Nat)], p', rfl, Da.same e05 _ _ hdp, ?_, ?_, hpa', ?_, e05 _ _ hlo, fun H6 l6 acc6 e6 hl6 hls6 hacc6 => ?_⟩
        · have := deep_subs hmem
          omega
        · exact Nat.le_trans (many_subs hmem) hm
        · rw [List.length_append]
          show ps.length + 1 + n ≤ 1000
          omega
        have hF6 := e6 _ _ (e35 _ _ hF3)
        have e36 := e35.trans e6
        have st6 : ∀ b o, b ≠ F → H6 b = some o → L2.upd H6 F (.lst (acc ++ acc6)) b = some o := fun b o n ho => by rw [upd_ne n]; exact ho
        have st7 : ∀ v x, PartAt H6 v x → PartAt (L2.upd H6 F (.lst (acc ++ acc6))) v x := fun v x h => by
          obtain ⟨t, u, z, rfl, h⟩ := h
          exact ⟨t, u, z, rfl, st6 _ _ (fun z => by rw [z, hF6] at h; cases h) h⟩
        have hall : Paired (PartAt (L2.upd H6 F (.lst (acc ++ acc6)))) (acc ++ acc6) (((subsP p).take (i + 1)).map namesP).flatten := by
          rw [List.take_add_one, hp', Option.toList_some, List.map_append, List.flatten_append]
          refine appP (Paired.mapP (Paired.mapP hacc3 fun v q h => PartAt.same h e36) st7) ?_
          simp only [List.map_cons, List.map_nil, List.flatten_cons, List.flatten_nil, List.append_nil]
          exact Paired.mapP hacc6 st7
        refine ⟨F, l6, acc, acc6, rfl, rfl, hF6, hls6, ?_, _, _, _, _, acc ++ acc6, rfl, fun b o nb ho => st6 _ _ nb (e36 _ _ (e13 _ _ nb ho)), upd_same, hall⟩
        have h1 := Paired.length hacc
        have h2 := Paired.length hacc6
        have h3 := names_many p'
        have h4 := many_subs hmem
        have h5 : (((subsP p).take i).map namesP).flatten.length ≤ (namesP p).length := by
          have e : (((subsP p).take i ++ (subsP p).drop i).map namesP).flatten.length = (namesP p).length := by rw [List.take_append_drop, ← names_subs hp]
          rw [List.map_append, List.flatten_append, List.length_append] at e
          omega
        have h6 := names_many p
        exact Nat.le_trans (show acc.length + acc6.length ≤ 10000 by omega) (by decide)
      · obtain ⟨y7, y8, y9, y10, acc, rfl, e, hF2, hacc⟩ := pv
        have neF : ∀ {b o}, H b = some o → b ≠ F := fun h => ne_of_none h hF
        rw [hlen, List.take_length, ← names_subs hp] at hacc
        exact ⟨.ref F, rfl, q _ F acc (fun b o ho => e _ _ (neF ho) (e01 _ _ ho)) hF hF2 hacc⟩
def spTablesOf (K : PySem.W.Frag) (n : Nat) : Sp := fun vs H Q _ => ∃ (v : V) (p : Pl), vs = [v] ∧ Da K H v (plD p) ∧ deepP p ≤ n ∧ manyP p ≤ 4000 ∧ ∀ (H' : Hp) (l : Addr) (M : List Str), Same H H' → H l = none → H' l = some (.lst (M.map V.str)) → M.Nodup → (∀ x : Str, x ∈ M ↔ x ∈ namesP p) → Q (.ref l) H'
theorem d_tables_of (B : Bt mg) (T : Top K mg "tables_of" stables_of ["plan"]) (n : Nat) (hn : n ≤ 900) (Dfree_parts : Def P w K mg base "free_parts" (n + 1) ["node", "path", "loops"] (spFree K n)) : Def P w K mg base "tables_of" (n + 2) ["plan"] (spTablesOf K n) := by
  refine mk_def T sctables_of (by rintro _ _ _ _ ⟨_, _, rfl, _⟩; rfl) fun f cdv A outer s H vs Q E hr h => ?_
  obtain ⟨v, p, rfl, hd, hdp, hm, q⟩ := h
  refine ⟨_, (pss_one (ps_ret (pe_callB (cr_sortedX rfl (hu8 hr)) (by rfl) B.m_sorted (by decide +kernel) (pa_cons (pe_scX (own := [("part", 1)]) (g := (gName 1)) (tt := tYes) (te := (tOp (rIxT K) (tVar 1) (tC (.int 1)))) rfl sctables_of.nd (pi_list (pe_def Dfree_parts (hr.mono (by first | decide | omega)) (by rfl) (pa_cons (pv 0) (pa_cons (pe_tup pa_nil) (pa_cons (pe_tup pa_nil) pa_nil))))) (blkOk_by (own := [("part", 1)]) (N := Ntables_of) (sc := defScope stables_of) (by decide +kernel)) (fun _ _ _ _ _ => (pg_name (i := 1) sctables_of.nd rfl (Or.inl rfl))) (fun _ _ _ _ _ => pts_nil) (fun _ _ _ _ _ => (pe_ix ix_tup (pv 1) pe_int (fun _ _ => rfl)))) pa_nil)))), ?_⟩
  refine ⟨v, rfl, by show 0 ≤ sizeLine; decide, fun t1 h1 => ⟨by show 0 ≤ sizeLine; decide, fun t2 h2 => ?_⟩⟩
  have e1 := same_upd (o := .tup []) h1
  have e2 := same_upd (o := .tup []) h2
  have e02 := e1.trans e2
  refine ⟨v, t1, t2, [], p, rfl, Da.same e02 _ _ hd, hdp, by omega, SqT.of (e2 _ _ upd_same), by show 0 + n ≤ 1000; omega, upd_same, fun H3 l acc e3 hl hls hacc => ?_⟩
  have e03 := e02.trans e3
  have hnm := names_many p
  have hla := Paired.length hacc
  refine ⟨l, rfl, ⟨_, SqL.of hls⟩, fun D hD => ?_⟩
  refine scX_it (walk_list (K := K) (xs := acc)) (fun i H' => (∀ b o, b ≠ D → H3 b = some o → H' b = some o) ∧ ∃ L : List Str, H' D = some (SetXO w D L) ∧ L.length ≤ i ∧ L.Nodup ∧ ∀ x : Str, x ∈ L ↔ x ∈ (namesP p).take i)
    ⟨fun b o n ho => by rw [upd_ne n]; exact ho, [], upd_same, Nat.le_refl _, List.nodup_nil, fun x => by simp⟩ (fun i H' _ pv => SqL.of (pv.1 _ _ (ne_of_none hls hD) hls)) (fun i x H4 H5 hi pv y => ?_) (fun H4 pv => ?_)
  · obtain ⟨rfl, hxi⟩ := y
    obtain ⟨e4, L, hL, hl4, nd, hin⟩ := pv
    obtain ⟨nm, hnm', hpt⟩ := DX.pget (flipP hacc) hxi
    obtain ⟨t, u, z, rfl, ht⟩ := hpt
    refine ⟨rfl, .ref t, rfl, t, _, _, .str nm, rfl, rfl, SqT.of (e4 _ _ (ne_of_none ht hD) ht), atI_nat (j := 1) rfl, nm, L, rfl, hL, ?_, fun b o n ho => ?_, _, upd_same, ?_, ?_, fun y => ?_⟩
    · exact Nat.lt_of_le_of_lt (show L.length + 1 ≤ 4001 by omega) (by decide)
    · rw [upd_ne n]
      exact e4 _ _ n ho
    · split
      · omega
      · simp only [List.length_cons]
        omega
    · split
      · exact nd
      · rename_i hno
        exact List.nodup_cons.mpr ⟨hno, nd⟩
    · rw [List.take_add_one, hnm', Option.toList_some, List.mem_append, ← hin, List.mem_singleton]
      split
      · rename_i hy
        exact ⟨.inl, fun h => h.elim id fun e => e ▸ hy⟩
      · rw [List.mem_cons]
        exact or_comm
  · obtain ⟨e4, L, hL, hl4, nd, hin⟩ := pv
    refine ⟨D, L, rfl, hL, fun l2 M hl2 pm ndM => ?_⟩
    have e34 : Same H3 (L2.upd H4 l2 (.lst (M.map V.str))) := fun b o ho => (same_upd hl2) _ _ (e4 _ _ (ne_of_none ho hD) ho)
    refine q _ l2 M (e03.trans e34) ?_ upd_same ndM fun x => ?_
    · cases h : H l2 with
      | none => rfl
      | some o =>
        have := e4 _ _ (ne_of_none (e03 _ _ h) hD) (e03 _ _ h)
        rw [this] at hl2
        cases hl2
    · rw [pm.mem_iff, hin, hla, List.take_length]
end
end K18

namespace K18
open PySem PySem.Spec PyProof.Rows L2 RW9 Tl
theorem un_part {K : PySem.W.Frag} {H : Hp} {xs : List V} {l N B S : Nat} {nd : Nd} {L L' : Tly} (hnd : NdAt K H xs nd) (ok : NdOk l 0 nd) (ft : Fits nd l 0) (hL : Lim l N B S L) (F : Fin L) (pm : L.Perm L') (hB : 0 < B) (hB2 : B ≤ 400000) (hS : 0 < S) (hS2 : S ≤ 500000) (hN : N ≤ 4000) (hw : l ≤ 400) :
    Part K H xs (lsOf nd L []) (rOf nd L []) ∧ Lim (wOf nd l 0) N (B + S + 111) (S + 13) (rOf nd L []) ∧ ∀ T : Tly, Fin T → (∀ k, Tl.cnt T k = Tl.cnt (rOf nd L []) k) → T.Perm (nf (rOf nd L' [])) :=
  ⟨part_of hnd ok hL (lim_nil 0 B 1) F hB (by omega) hS (by decide) (by omega) (by omega) (by omega) (by omega), lim_un ok ft hL (by omega), fun T FT c => ev_perm pm (.refl _) F FT c⟩
theorem bin_part {K : PySem.W.Frag} {H : Hp} {xs : List V} {l r N1 N2 B1 B2 S1 S2 : Nat} {nd : Nd} {L M L' M' : Tly} (hnd : NdAt K H xs nd) (ok : NdOk l r nd) (ft : Fits nd l r) (hL : Lim l N1 B1 S1 L) (hM : Lim r N2 B2 S2 M) (F : Fin L) (pm : L.Perm L') (pn : M.Perm M') (hB : max B1 B2 + S1 + 111 ≤ 400000) (hB0 : 0 < B1) (hS1 : 0 < S1) (hS2 : 0 < S2) (hS : S1 + S2 + 13 ≤ 500000) (hN : bin N1 N2 ≤ 4000) (hl : l ≤ 400) (hr : r ≤ 400) (hN1 : N1 ≤ 5000) :
    Part K H xs (lsOf nd L M) (rOf nd L M) ∧ Lim (wOf nd l r) (bin N1 N2) (max B1 B2 + S1 + 111) (S1 + S2 + 13) (rOf nd L M) ∧ ∀ T : Tly, Fin T → (∀ k, Tl.cnt T k = Tl.cnt (rOf nd L M) k) → T.Perm (nf (rOf nd L' M')) :=
  ⟨part_of hnd ok (hL.mono (Nat.le_refl _) (Nat.le_max_left B1 B2) (Nat.le_refl _)) (hM.mono (Nat.le_refl _) (Nat.le_max_right B1 B2) (Nat.le_refl _)) F (by omega) (by omega) hS1 hS2 (by omega) (Nat.le_trans hN (by decide)) (by omega) (by omega), lim_bin ok ft hL hM hN1, fun T FT c => ev_perm pm pn F FT c⟩
theorem wo_part {K : PySem.W.Frag} {H : Hp} {xs : List V} {l r N1 N2 B1 B2 S1 S2 : Nat} {cols : List (Int × Int)} {L M L' M' : Tly} (hnd : NdAt K H xs (.without cols)) (ok : NdOk l r (.without cols)) (hL : Lim l N1 B1 S1 L) (hM : Lim r N2 B2 S2 M) (F : Fin L) (pm : L.Perm L') (pn : M.Perm M') :
    Part K H xs (lsOf (.without cols) L M) (rOf (.without cols) L M) ∧ Lim l (N1 + N2) (max B1 B2 + S1 + 111) (S1 + S2 + 13) (rOf (.without cols) L M) ∧ ∀ T : Tly, Fin T → (∀ k, Tl.cnt T k = Tl.cnt (rOf (.without cols) L M) k) → T.Perm (nf (rOf (.without cols) L' M')) := by
  refine ⟨?_, lim_wo hL, fun T FT c => ev_perm pm pn F FT c⟩
  cases hnd with
  | without hx hd =>
    subst hx
    cases ok with
    | without hl hok =>
      refine .without rfl rfl hd F ⟨by omega, fun p hp c hc => ?_, fun p hp c hc => ?_⟩
      · obtain ⟨x, hx, rfl⟩ := List.mem_map.mp hc
        rw [hL.wid p hp]
        exact (hok x hx).1
      · obtain ⟨x, hx, rfl⟩ := List.mem_map.mp hc
        rw [hM.wid p hp]
        exact (hok x hx).2
/-- the tallies of the sub-plans make the plan's -/
theorem pl_part {K : PySem.W.Frag} {H : Hp} {W : Str → Nat} {env : Str → Tly} {a : Addr} {p : Pl} {xs us : List V} {Ts : List Tly} (E : EnvOk W env) (fp : FitP W p) (pl : PlAt K H a p xs us) (h : Paired (fun T q => Fin T ∧ T.Perm (evP env q)) Ts (subsP p)) :
    ∃ R : Tly, Part K H xs Ts R ∧ R.length ≤ 4000 ∧ OneW R ∧ Lim (widP W p) (manyP p) (bitsP p) (sumP p) R ∧ ∀ T : Tly, Fin T → (∀ k, Tl.cnt T k = Tl.cnt R k) → T.Perm (evP env p) := by
  have nd := pl.nd
  have key : ∀ R : Tly, Part K H xs Ts R → Lim (widP W p) (manyP p) (bitsP p) (sumP p) R → (∀ T : Tly, Fin T → (∀ k, Tl.cnt T k = Tl.cnt R k) → T.Perm (evP env p)) → ∃ R : Tly, Part K H xs Ts R ∧ R.length ≤ 4000 ∧ OneW R ∧ Lim (widP W p) (manyP p) (bitsP p) (sumP p) R ∧ ∀ T : Tly, Fin T → (∀ k, Tl.cnt T k = Tl.cnt R k) → T.Perm (evP env p) :=
    fun R h1 h2 h3 => ⟨R, h1, Nat.le_trans h2.len fp.many, ⟨_, h2.wid⟩, h2, h3⟩
  have lim : ∀ {q : Pl} {T : Tly}, FitP W q → T.Perm (evP env q) → Lim (widP W q) (manyP q) (bitsP q) (sumP q) T := fun f pm => (ev_lim E _ f.ok f.many).perm pm
  cases p with
  | tab x => cases h; cases pl.sub with
    | one hw h0 h1 => cases pl.subs
    | two hw h0 h1 h2 => cases pl.subs
  | choose l p =>
    cases h with
    | cons h t =>
      cases t
      obtain ⟨f1, ok⟩ := fp.choose
      obtain ⟨r1, r2, r3⟩ := un_part nd ok trivial (lim f1 h.2) h.1 h.2 (bits_pos p) f1.bits (sum_pos p) f1.sum f1.many (Nat.le_trans (wid_top W p) f1.wid)
      exact key _ r1 r2 r3
  | map ts p =>
    cases h with
    | cons h t =>
      cases t
      obtain ⟨f1, ok⟩ := fp.map
      obtain ⟨r1, r2, r3⟩ := un_part nd ok trivial (lim f1 h.2) h.1 h.2 (bits_pos p) f1.bits (sum_pos p) f1.sum f1.many (Nat.le_trans (wid_top W p) f1.wid)
      exact key _ r1 r2 r3
  | join cols p q =>
    cases h with
    | cons h t =>
      cases t with
      | cons g t =>
        cases t
        obtain ⟨f1, f2, ok⟩ := fp.join
        obtain ⟨r1, r2, r3⟩ := bin_part nd ok trivial (lim f1 h.2) (lim f2 g.2) h.1 h.2 g.2 fp.bits (bits_pos p) (sum_pos p) (sum_pos q) fp.sum fp.many (Nat.le_trans (wid_top W p) f1.wid) (Nat.le_trans (wid_top W q) f2.wid) (Nat.le_trans f1.many (by decide))
        exact key _ r1 r2 r3
  | plus p q =>
    cases h with
    | cons h t =>
      cases t with
      | cons g t =>
        cases t
        obtain ⟨f1, f2, ok⟩ := fp.plus
        obtain ⟨r1, r2, r3⟩ := bin_part nd .plus ok (lim f1 h.2) (lim f2 g.2) h.1 h.2 g.2 fp.bits (bits_pos p) (sum_pos p) (sum_pos q) fp.sum fp.many (Nat.le_trans (wid_top W p) f1.wid) (Nat.le_trans (wid_top W q) f2.wid) (Nat.le_trans f1.many (by decide))
        exact key _ r1 r2 r3
  | less p q =>
    cases h with
    | cons h t =>
      cases t with
      | cons g t =>
        cases t
        obtain ⟨f1, f2, ok⟩ := fp.less
        obtain ⟨r1, r2, r3⟩ := bin_part nd .less ok (lim f1 h.2) (lim f2 g.2) h.1 h.2 g.2 fp.bits (bits_pos p) (sum_pos p) (sum_pos q) fp.sum fp.many (Nat.le_trans (wid_top W p) f1.wid) (Nat.le_trans (wid_top W q) f2.wid) (Nat.le_trans f1.many (by decide))
        exact key _ r1 r2 r3
  | distinct p =>
    cases h with
    | cons h t =>
      cases t
      obtain ⟨f1, ok⟩ := fp.distinct
      obtain ⟨r1, r2, r3⟩ := un_part nd ok trivial (lim f1 h.2) h.1 h.2 (bits_pos p) f1.bits (sum_pos p) f1.sum f1.many (Nat.le_trans (wid_top W p) f1.wid)
      exact key _ r1 r2 r3
  | group cols s p =>
    cases h with
    | cons h t =>
      cases t
      obtain ⟨f1, ok⟩ := fp.group
      obtain ⟨r1, r2, r3⟩ := un_part nd ok trivial (lim f1 h.2) h.1 h.2 (bits_pos p) f1.bits (sum_pos p) f1.sum f1.many (Nat.le_trans (wid_top W p) f1.wid)
      exact key _ r1 r2 r3
  | top cols m p =>
    cases h with
    | cons h t =>
      cases t
      obtain ⟨f1, ok⟩ := fp.top
      obtain ⟨r1, r2, r3⟩ := un_part nd ok trivial (lim f1 h.2) h.1 h.2 (bits_pos p) f1.bits (sum_pos p) f1.sum f1.many (Nat.le_trans (wid_top W p) f1.wid)
      exact key _ r1 r2 r3
  | without cols p q =>
    cases h with
    | cons h t =>
      cases t with
      | cons g t =>
        cases t
        obtain ⟨f1, f2, ok⟩ := fp.without
        obtain ⟨r1, r2, r3⟩ := wo_part nd ok (lim f1 h.2) (lim f2 g.2) h.1 h.2 g.2
        exact key _ r1 r2 r3
end K18

namespace K18
open PySem PySem.Spec PyProof.Rows L2 RW9 Tl
theorem fit_subs {W : Str → Nat} {p q : Pl} (f : FitP W p) (h : q ∈ subsP p) : FitP W q := by
  cases p with
  | tab x => cases h
  | choose l p =>
    rw [List.mem_singleton.mp h]
    exact f.choose.1
  | map ts p =>
    rw [List.mem_singleton.mp h]
    exact f.map.1
  | join cols p1 p2 =>
    have : q = p1 ∨ q = p2 := by simpa [subsP] using h
    rcases this with rfl | rfl
    · exact f.join.1
    · exact f.join.2.1
  | plus p1 p2 =>
    have : q = p1 ∨ q = p2 := by simpa [subsP] using h
    rcases this with rfl | rfl
    · exact f.plus.1
    · exact f.plus.2.1
  | less p1 p2 =>
    have : q = p1 ∨ q = p2 := by simpa [subsP] using h
    rcases this with rfl | rfl
    · exact f.less.1
    · exact f.less.2.1
  | distinct p =>
    rw [List.mem_singleton.mp h]
    exact f.distinct.1
  | without cols p1 p2 =>
    have : q = p1 ∨ q = p2 := by simpa [subsP] using h
    rcases this with rfl | rfl
    · exact f.without.1
    · exact f.without.2.1
  | group cols s p =>
    rw [List.mem_singleton.mp h]
    exact f.group.1
  | top cols m p =>
    rw [List.mem_singleton.mp h]
    exact f.top.1
theorem name_subs {p q : Pl} {x : Str} (h : q ∈ subsP p) (hx : x ∈ namesP q) : x ∈ namesP p := by
  cases hp : isTab p with
  | true =>
    cases p with
    | tab x => cases h
    | choose _ _ => cases hp
    | map _ _ => cases hp
    | join _ _ _ => cases hp
    | plus _ _ => cases hp
    | less _ _ => cases hp
    | distinct _ => cases hp
    | without _ _ _ => cases hp
    | group _ _ _ => cases hp
    | top _ _ _ => cases hp
  | false =>
    rw [names_subs hp]
    exact List.mem_flatten.mpr ⟨_, List.mem_map.mpr ⟨q, h, rfl⟩, hx⟩
theorem subs_two (p : Pl) : (subsP p).length ≤ 2 := by cases p <;> simp [subsP]
/-- the table x of the dict of tallies -/
def DicT (H : Hp) (kvs : List (L2.Key × V)) (env : Str → Tly) (x : Str) : Prop :=
  (∃ a T, valV kvs (.inr x) = some (.ref a) ∧ TalAt H a T ∧ Fin T ∧ T.Perm (env x)) ∨ (valV kvs (.inr x) = none ∧ env x = [])
theorem DicT.same {H H' : Hp} {kvs : List (L2.Key × V)} {env : Str → Tly} {x : Str} (h : DicT H kvs env x) (e : Same H H') : DicT H' kvs env x :=
  h.imp (fun ⟨a, T, h1, h2, h3⟩ => ⟨a, T, h1, h2.same e, h3⟩) id
section
variable {P : Program} {w : World} {K : PySem.W.Frag} {mg : Str → Option Value} {base : Heap} {C : Addr}
def spSettled (K : PySem.W.Frag) (n : Nat) : Sp := fun vs H Q _ => ∃ (v : V) (tb : Addr) (p : Pl) (W : Str → Nat) (env : Str → Tly) (kvs : List (L2.Key × V)), vs = [v, .ref tb] ∧ Da K H v (plD p) ∧ deepP p ≤ n ∧ FitP W p ∧ EnvOk W env ∧ H tb = some (.dK kvs) ∧ (∀ x ∈ namesP p, DicT H kvs env x) ∧ ∀ H' b T, Same H H' → TalAt H' b T → Fin T → T.Perm (evP env p) → Q (.ref b) H'
theorem d_settled (B : Bt mg) (T : Top K mg "settled" ssettled ["plan", "tables"]) (Dsubplans : Def P w K mg base "subplans" 1 ["node"] spSubplans) (Dwork : Def P w K mg base "work" 4 ["node", "tallies"] (spWork K)) : ∀ n : Nat, Def P w K mg base "settled" (n + 5) ["plan", "tables"] (spSettled K n)
  | 0 => mk_def T scsettled (by rintro _ _ _ _ ⟨_, _, _, _, _, _, rfl, _⟩; rfl) fun f cdv A outer s H vs Q E hr h => by
    obtain ⟨_, _, p, _, _, _, _, _, h, _⟩ := h
    have := deep_pos p
    omega
  | n + 1 => by
    have Dsettled := d_settled B T Dsubplans Dwork n
    refine mk_def T scsettled (by rintro _ _ _ _ ⟨_, _, _, _, _, _, rfl, _⟩; rfl) fun f cdv A outer s H vs Q E hr h => ?_
    obtain ⟨v, tb, p, W, env, kvs, rfl, hd, hn, fp, Ek, htb, hx, q⟩ := h
    refine ⟨_, (pss_cons (ps_if (pt_cmpR op_eq (pe_ix ix_tup (pv 0) pe_int (fun _ _ => rfl)) pe_str (nomark _)) (pss_one (ps_ret (pe_dget2 (hu_of hr) (pv 1) (pe_ix ix_tup (pv 0) pe_int (fun _ _ => rfl)) (pe_dnewT) ⟨by rfl, by rfl, by rfl, by rfl⟩))) pss_nil)
      (pss_cons (ps_if (pt_cmpR op_eq (pe_ix ix_tup (pv 0) pe_int (fun _ _ => rfl)) pe_str (nomark _)) (pss_one ps_never) pss_nil)
      (pss_one (ps_ret (pe_def Dwork (hr.mono (by first | decide | omega)) (by rfl) (pa_cons (pv 0) (pa_cons (pe_lc (own := [("sub", 2)]) (g := (gName 2)) (tt := tYes) (te := (tCall (spSettled K n) [] E0 (tCons (tVar 2) (tCons (tVar 1) tNil)))) rfl scsettled.nd (pi_list (pe_def Dsubplans (hr.mono (by first | decide | omega)) (by rfl) (pa_cons (pv 0) pa_nil))) (blkOk_by (own := [("sub", 2)]) (N := Nsettled) (sc := defScope ssettled) (by decide +kernel)) (fun _ _ _ _ _ => (pg_name (i := 2) scsettled.nd rfl (Or.inl rfl))) (fun _ _ _ _ _ => pts_nil) (fun _ _ _ _ _ => (pe_def Dsettled (hr.mono (by first | decide | omega)) (by rfl) (pa_cons (pv 2) (pa_cons (pv 1) pa_nil))))) pa_nil))))))), ?_⟩
    cases hp : isTab p with
    | true =>
      cases p with
      | tab x =>
        obtain ⟨a, rfl, ha⟩ := Da.tabI hd
        refine ⟨.ref a, rfl, a, _, _, .str "table", rfl, rfl, SqT.of ha, atI_nat (j := 0) rfl, rfl, _, rfl, iteT ?_⟩
        refine ⟨.ref tb, rfl, tb, rfl, .inl ⟨kvs, .inl htb⟩, .ref a, rfl, a, _, _, .str x, rfl, rfl, SqT.of ha, atI_nat (j := 1) rfl, fun M hM => ?_⟩
        have e1 := same_upd (o := .dT []) hM
        refine ⟨_, DGet.k (k := Sum.inr x) (e1 _ _ htb), ?_⟩
        rcases hx x (List.mem_singleton.mpr rfl) with ⟨b, Tl', h1, h2, h3, h4⟩ | ⟨h1, h2⟩
        · rw [h1]
          exact q _ b Tl' e1 (h2.same e1) h3 h4
        · rw [h1]
          refine q _ M [] e1 ⟨upd_same, List.Pairwise.nil, by decide⟩ ⟨List.Pairwise.nil, fun p hp => nomatch hp⟩ ?_
          show List.Perm [] (env x)
          rw [h2]
      | choose _ _ => cases hp
      | map _ _ => cases hp
      | join _ _ _ => cases hp
      | plus _ _ => cases hp
      | less _ _ => cases hp
      | distinct _ => cases hp
      | without _ _ _ => cases hp
      | group _ _ _ => cases hp
      | top _ _ _ => cases hp
    | false =>
      obtain ⟨a, xs, us, rfl, pl⟩ := Da.plI hd hp
      obtain ⟨wd, h0, hw1, hw2⟩ := pl.sub.word
      have hlen : us.length = (subsP p).length := Paired.length pl.subs
      refine ⟨.ref a, rfl, a, _, _, .str wd, rfl, rfl, SqT.of pl.at', atI_nat (j := 0) h0, rfl, _, rfl, iteN (strNe hw1) ?_⟩
      refine ⟨.ref a, rfl, a, _, _, .str wd, rfl, rfl, SqT.of pl.at', atI_nat (j := 0) h0, rfl, _, rfl, iteN (strNe hw2) ?_⟩
      refine ⟨.ref a, rfl, .ref a, rfl, a, xs, us, rfl, pl.at', pl.sub, fun H1 l e1 hl hls => ⟨l, rfl, ⟨_, SqL.of hls⟩, fun D hD => ?_⟩⟩
      refine lc_it (walk_list (K := K) (xs := us)) (fun i H' => (∀ b o, b ≠ D → H1 b = some o → H' b = some o) ∧ ∃ (acc : List V) (Ts : List Tly), H' D = some (.lst acc) ∧ TalsAt H' acc Ts ∧ Paired (fun T q => Fin T ∧ T.Perm (evP env q)) Ts ((subsP p).take i))
        ⟨fun b o n ho => by rw [upd_ne n]; exact ho, [], [], upd_same, .nil, .nil⟩ (fun i H' _ pv => SqL.of (pv.1 _ _ (ne_of_none hls hD) hls)) (fun i x H4 H5 hi pv y => ?_) (fun H4 pv => ?_)
      · obtain ⟨rfl, hxi⟩ := y
        obtain ⟨e4, acc, Ts, hacc, ta, tp⟩ := pv
        obtain ⟨q', hq', hdq⟩ := DX.pget (flipP pl.subs) hxi
        have hmem : q' ∈ subsP p := List.mem_of_getElem? hq'
        have e04 : Same H H5 := fun b o ho => e4 _ _ (ne_of_none (e1 _ _ ho) hD) (e1 _ _ ho)
        refine ⟨rfl, x, rfl, .ref tb, rfl, x, tb, q', W, env, kvs, rfl, Da.same e04 _ _ hdq, ?_, fit_subs fp hmem, Ek, e04 _ _ htb, fun y hy => (hx y (name_subs hmem hy)).same e04, fun H6 b T6 e6 hT hF hP => ?_⟩
        · have := deep_subs hmem
          omega
        have hacc6 := e6 _ _ hacc
        have la : acc.length ≤ 2 := by
          have h1 := Paired.length ta
          have h2 := Paired.length tp
          have h3 := subs_two p
          rw [List.length_take] at h2
          omega
        have keep : ∀ b L, TalAt H6 b L → TalAt (L2.upd H6 D (.lst (acc ++ [.ref b]))) b L := fun b L h => ⟨by rw [upd_ne (ne_of h.at' hacc6 (fun z => nomatch z))]; exact h.at', h.nd, h.len⟩
        have keep' : ∀ c b L, TalAt H6 b L → TalAt (L2.upd H6 D (.lst (acc ++ [V.ref c]))) b L := fun c b L h => ⟨by rw [upd_ne (ne_of h.at' hacc6 (fun z => nomatch z))]; exact h.at', h.nd, h.len⟩
        refine ⟨acc, hacc6, Nat.lt_of_le_of_lt la (by decide), fun c o n ho => by rw [upd_ne n]; exact e6 _ _ (e4 _ _ n ho), acc ++ [.ref b], Ts ++ [T6], upd_same, ?_, ?_⟩
        · exact appP (Paired.mapP ta fun v L ⟨c, hc, ht⟩ => ⟨c, hc, keep' _ _ _ (ht.same e6)⟩) (.cons ⟨b, rfl, keep' _ _ _ hT⟩ .nil)
        · rw [List.take_add_one, hq', Option.toList_some]
          exact appP tp (.cons ⟨hF, hP⟩ .nil)
      · obtain ⟨e4, acc, Ts, hacc, ta, tp⟩ := pv
        rw [hlen, List.take_length] at tp
        have e04 : Same H H4 := fun b o ho => e4 _ _ (ne_of_none (e1 _ _ ho) hD) (e1 _ _ ho)
        obtain ⟨R, part, _, _, _, hR⟩ := pl_part Ek fp (pl.same e04) tp
        exact ⟨a, D, xs, acc, Ts, R, rfl, e04 _ _ pl.at', hacc, part, ta, fun H5 b T5 e5 hb hT hF hc _ => q H5 b T5 (e04.trans e5) hT hF (hR T5 hF hc)⟩
end
end K18

namespace K18
open PySem PySem.Spec PyProof.Rows L2 RW9 Tl
theorem dcK_it {J : It} {n : Nat} {G : Hp → Prop} {Y : Nat → Hp → V → Hp → Prop} (w : Walk J n G Y) {g : TG} {tt : TT} {tk tv : TE} {vs : List Nat} {σ : L2.St} {H1 : Hp} {D : Addr} {Qd : Hp → Prop} (Pv : Nat → Hp → Prop) (h0 : Pv 0 (L2.upd H1 D (.dK []))) (hG : ∀ i H, i ≤ n → Pv i H → G H)
    (hs : ∀ i x Ha Hb, i < n → Pv i Ha → Y i Ha x Hb → g x (wipe σ vs) Hb fun σ2 H2 => wipe σ2 vs = wipe σ vs ∧ tt σ2 H2 fun b H3 =>
      if b = true then tk σ2 H3 fun y H4 => tv σ2 H4 fun z H5 => ∃ kvs k, y = kV k ∧ H5 D = some (.dK kvs) ∧ kvs.length < sizeLine ∧ Pv (i + 1) (L2.upd H5 D (.dK (putK kvs k z))) else Pv (i + 1) H3) (hd : ∀ H, Pv n H → Qd H) :
    ∃ W : Nat → Nat → Hp → Prop, (∃ m, W 0 m (L2.upd H1 D (.dK []))) ∧ ∀ i m Ha, W i m Ha →
      (J.stop i Ha ∧ Qd Ha) ∨ (J.go i Ha ∧ ∃ Nx : Hp → Prop, (∀ Hb, Nx Hb → ∃ m', m' < m ∧ W (i + 1) m' Hb) ∧ ∀ x Hb, J.yld i Ha x Hb → g x (wipe σ vs) Hb fun σ2 H2 => wipe σ2 vs = wipe σ vs ∧ tt σ2 H2 fun b H3 =>
        if b = true then tk σ2 H3 fun y H4 => tv σ2 H4 fun z H5 => ∃ kvs k, y = kV k ∧ H5 D = some (.dK kvs) ∧ kvs.length < sizeLine ∧ Nx (L2.upd H5 D (.dK (putK kvs k z))) else Nx H3) := by
  refine ⟨fun i m Ha => (m + i = n) ∧ Pv i Ha, ⟨n, rfl, h0⟩, fun i m Ha hW => ?_⟩
  have hle : i ≤ n := by omega
  have hgo := hG i Ha hle hW.2
  rcases Nat.lt_or_ge i n with lt | ge
  · refine .inr ⟨w.goes i Ha lt hgo, Pv (i + 1), fun H2 hp => ⟨m - 1, by omega, by omega, hp⟩, fun x H2 hy => ?_⟩
    exact hs i x Ha H2 lt hW.2 (w.yields i Ha x H2 lt hgo hy)
  · obtain rfl : i = n := by omega
    exact .inl ⟨w.stops Ha hgo, hd Ha hW.2⟩
section
variable {P : Program} {w : World} {K : PySem.W.Frag} {mg : Str → Option Value} {base : Heap} {C : Addr}
/-- the table x of the dict of bags -/
def DicB (K : PySem.W.Frag) (C : Addr) (H : Hp) (kvs : List (L2.Key × V)) (env : Str → Tly) (x : Str) : Prop :=
  (∃ p dx c T, valV kvs (.inr x) = some (.ref p) ∧ BagR K C H p dx c T ∧ T.Perm (env x)) ∨ (valV kvs (.inr x) = none ∧ env x = [])
theorem DicB.same {H H' : Hp} {kvs : List (L2.Key × V)} {env : Str → Tly} {x : Str} (h : DicB K C H kvs env x) (e : Same H H') : DicB K C H' kvs env x :=
  h.imp (fun ⟨p, dx, c, T, h1, h2, h3⟩ => ⟨p, dx, c, T, h1, h2.same e, h3⟩) id
def spTalliesOf (K : PySem.W.Frag) (C : Addr) (n : Nat) : Sp := fun vs H Q _ => ∃ (v : V) (tb : Addr) (p : Pl) (env : Str → Tly) (kvs : List (L2.Key × V)), vs = [v, .ref tb] ∧ Da K H v (plD p) ∧ deepP p ≤ n ∧ manyP p ≤ 4000 ∧ H tb = some (.dK kvs) ∧ (∀ x ∈ namesP p, DicB K C H kvs env x) ∧ ∀ (H' : Hp) (d : Addr) (kvs' : List (L2.Key × V)), Same H H' → H' d = some (.dK kvs') → (∀ x ∈ namesP p, DicT H' kvs' env x) → Q (.ref d) H'
theorem d_tallies_of (B : Bt mg) (T : Top K mg "tallies_of" stallies_of ["plan", "tables"]) (n : Nat) (Dtables_of : Def P w K mg base "tables_of" (n + 2) ["plan"] (spTablesOf K n)) (Dtally_in : Def P w K mg base "tally_in" 1 ["bag"] (spTallyIn K C)) : Def P w K mg base "tallies_of" (n + 3) ["plan", "tables"] (spTalliesOf K C n) := by
  refine mk_def T sctallies_of (by rintro _ _ _ _ ⟨_, _, _, _, _, rfl, _⟩; rfl) fun f cdv A outer s H vs Q E hr h => ?_
  obtain ⟨v, tb, p, env, kvs, rfl, hd, hn, hm, htb, hx, q⟩ := h
  refine ⟨_, (pss_one (ps_ret (pe_dc (own := [("name", 2)]) (g := (gName 2)) (tt := (tB (tDIn (tVar 2) (tVar 1)))) (tk := (tVar 2)) (tv := (tCall (spTallyIn K C) [] E0 (tCons (tDGet (tVar 1) (tVar 2)) tNil))) rfl sctallies_of.nd (pi_list (pe_def Dtables_of (hr.mono (by first | decide | omega)) (by rfl) (pa_cons (pv 0) pa_nil))) (blkOk_by (own := [("name", 2)]) (N := Ntallies_of) (sc := defScope stallies_of) (by decide +kernel)) (fun _ _ _ _ _ => (pg_name (i := 2) sctallies_of.nd rfl (Or.inl rfl))) (fun _ _ _ _ _ => (pts_one (pt_cmp (pc_din (hu_of hr) (pv 2) (pv 1))))) (fun _ _ _ _ _ => (pv 2)) (fun _ _ _ _ _ => (pe_def Dtally_in (hr.mono (by first | decide | omega)) (by rfl) (pa_cons (pe_dget (hu_of hr) (pv 1) (pv 2) (fun _ _ => rfl)) pa_nil)))))), ?_⟩
  refine ⟨v, rfl, v, p, rfl, hd, hn, hm, fun H1 l M e1 hl hls ndM hM => ?_⟩
  refine ⟨l, rfl, ⟨_, SqL.of hls⟩, fun D hD => ?_⟩
  have hlen : M.length ≤ 4000 := Nat.le_trans (nodup_le M (namesP p) ndM fun x hx => (hM x).mp hx) (Nat.le_trans (names_many p) hm)
  refine dcK_it (walk_list (K := K) (xs := M.map V.str)) (fun i H' => (∀ b o, b ≠ D → H1 b = some o → H' b = some o) ∧ ∃ kv : List (L2.Key × V), H' D = some (.dK kv) ∧ kv.length ≤ i ∧ (∀ x ∈ M.take i, DicT H' kv env x) ∧ ∀ x : Str, x ∉ M.take i → valV kv (.inr x) = none)
    ⟨fun b o n ho => by rw [upd_ne n]; exact ho, [], upd_same, Nat.le_refl _, (fun x hx => by simp at hx), fun x _ => rfl⟩ (fun i H' _ pv => SqL.of (pv.1 _ _ (ne_of_none hls hD) hls)) (fun i x H4 H5 hi pv y => ?_) (fun H4 pv => ?_)
  · obtain ⟨rfl, hxi⟩ := y
    rw [List.getElem?_map] at hxi
    obtain ⟨x, hxM, rfl⟩ := Option.map_eq_some_iff.mp hxi
    obtain ⟨e4, kv, hkv, hkl, hin, hout⟩ := pv
    have hi' : i < M.length := by rw [List.length_map] at hi; exact hi
    have e04 : Same H H5 := fun b o ho => e4 _ _ (ne_of_none (e1 _ _ ho) hD) (e1 _ _ ho)
    have hxp : x ∈ namesP p := (hM x).mp (List.mem_of_getElem? hxM)
    have htk : M.take (i + 1) = M.take i ++ [x] := by rw [List.take_add_one, hxM, Option.toList_some]
    have hnew : x ∉ M.take i := fun hmem => by
      have nd := ndM.sublist (List.take_sublist (i + 1) M)
      rw [htk] at nd
      exact (List.nodup_append.mp nd).2.2 x hmem x (List.mem_singleton.mpr rfl) rfl
    refine ⟨rfl, .str x, rfl, .ref tb, rfl, tb, _, rfl, DGet.k (k := Sum.inr x) (e04 _ _ htb), _, rfl, ?_⟩
    rcases hx x hxp with ⟨b, dx, c, T1, h1, h2, h3⟩ | ⟨h1, h2⟩
    · rw [h1]
      refine iteT ⟨.str x, rfl, .ref tb, rfl, .str x, rfl, tb, .ref b, rfl, ?_, b, dx, c, T1, rfl, h2.same e04, fun H6 b6 e6 hb6 ht6 => ?_⟩
      · rw [← h1]
        exact DGet.k (k := Sum.inr x) (e04 _ _ htb)
      have hkv6 := e6 _ _ hkv
      have keep : ∀ z a T, TalAt H6 a T → TalAt (L2.upd H6 D (.dK (putK kv (.inr x) z))) a T := fun z a T h => ⟨by rw [upd_ne (ne_of h.at' hkv6 (fun z => nomatch z))]; exact h.at', h.nd, h.len⟩
      refine ⟨kv, .inr x, rfl, hkv6, Nat.lt_of_le_of_lt (show kv.length ≤ 4000 by omega) (by decide), fun b o n ho => by rw [upd_ne n]; exact e6 _ _ (e4 _ _ n ho), _, upd_same, Nat.le_trans (length_putK ..) (by omega), fun y hy => ?_, fun y hy => ?_⟩
      · rw [htk] at hy
        unfold DicT
        rw [valV_put]
        by_cases hyx : y = x
        · subst hyx
          exact .inl ⟨b6, T1, if_pos rfl, keep _ _ _ ht6, h2.fin, h3⟩
        · rw [if_neg fun z => hyx (Sum.inr.inj z)]
          have hy' : y ∈ M.take i := (List.mem_append.mp hy).resolve_right fun z => hyx (List.mem_singleton.mp z)
          exact (hin y hy').imp (fun ⟨a, T, g1, g2, g3⟩ => ⟨a, T, g1, keep _ _ _ (g2.same e6), g3⟩) id
      · rw [htk] at hy
        rw [valV_put, if_neg fun z => hy (List.mem_append.mpr (.inr (List.mem_singleton.mpr (Sum.inr.inj z))))]
        exact hout y fun z => hy (List.mem_append.mpr (.inl z))
    · rw [h1]
      refine iteF ⟨e4, kv, hkv, by omega, fun y hy => ?_, fun y hy => ?_⟩
      · rw [htk] at hy
        rcases List.mem_append.mp hy with hy | hy
        · exact hin y hy
        · obtain rfl := List.mem_singleton.mp hy
          exact .inr ⟨hout y hnew, h2⟩
      · rw [htk] at hy
        exact hout y fun z => hy (List.mem_append.mpr (.inl z))
  · obtain ⟨e4, kv, hkv, hkl, hin, hout⟩ := pv
    have e04 : Same H H4 := fun b o ho => e4 _ _ (ne_of_none (e1 _ _ ho) hD) (e1 _ _ ho)
    refine q H4 D kv e04 hkv fun x hxp => hin x ?_
    rw [List.length_map, List.take_length]
    exact (hM x).mpr hxp
def spAnswer (K : PySem.W.Frag) (C : Addr) (n : Nat) : Sp := fun vs H Q _ => ∃ (v : V) (tb : Addr) (p : Pl) (W : Str → Nat) (env : Str → Tly) (kvs : List (L2.Key × V)), vs = [v, .ref tb] ∧ Da K H v (plD p) ∧ deepP p ≤ n ∧ FitP W p ∧ EnvOk W env ∧ H tb = some (.dK kvs) ∧ (∀ x ∈ namesP p, DicB K C H kvs env x) ∧ ∀ H' b dx c T, Same H H' → BagR K C H' b dx c T → T.Perm (evP env p) → Q (.ref b) H'
theorem d_answer (B : Bt mg) (T : Top K mg "answer" sanswer ["plan", "tables"]) (n : Nat) (Dsettled : Def P w K mg base "settled" (n + 5) ["plan", "tables"] (spSettled K n)) (Dtallies_of : Def P w K mg base "tallies_of" (n + 3) ["plan", "tables"] (spTalliesOf K C n)) (Dbag_of_tally : Def P w K mg base "bag_of_tally" 6 ["counts"] (spBagOf K C)) : Def P w K mg base "answer" (n + 7) ["plan", "tables"] (spAnswer K C n) := by
  refine mk_def T scanswer (by rintro _ _ _ _ ⟨_, _, _, _, _, _, rfl, _⟩; rfl) fun f cdv A outer s H vs Q E hr h => ?_
  obtain ⟨v, tb, p, W, env, kvs, rfl, hd, hn, fp, Ek, htb, hx, q⟩ := h
  refine ⟨_, (pss_one (ps_ret (pe_def Dbag_of_tally (hr.mono (by first | decide | omega)) (by rfl) (pa_cons (pe_def Dsettled (hr.mono (by first | decide | omega)) (by rfl) (pa_cons (pv 0) (pa_cons (pe_def Dtallies_of (hr.mono (by first | decide | omega)) (by rfl) (pa_cons (pv 0) (pa_cons (pv 1) pa_nil))) pa_nil))) pa_nil)))), ?_⟩
  refine ⟨v, rfl, v, rfl, .ref tb, rfl, v, tb, p, env, kvs, rfl, hd, hn, fp.many, htb, hx, fun H1 d kv e1 hd1 hx1 => ?_⟩
  refine ⟨v, d, p, W, env, kv, rfl, Da.same e1 _ _ hd, hn, fp, Ek, hd1, hx1, fun H2 b T2 e2 ht hF hP => ?_⟩
  refine ⟨b, T2, rfl, ht, hF, fun H3 x dx e3 hx hb => q H3 x dx b T2 ((e1.trans e2).trans e3) hb hP⟩
end
end K18

namespace K18
open PySem PySem.Spec PyProof.Rows L2 RW9 Tl
/-- the table x of the dict of lists -/
def DicL (H : Hp) (kvs : List (L2.Key × V)) (env : Str → Tly) (x : Str) : Prop :=
  (∃ a D, valV kvs (.inr x) = some (.ref a) ∧ PairsAt H a D ∧ Fin D ∧ SortL D ∧ D.Perm (env x)) ∨ (valV kvs (.inr x) = none ∧ env x = [])
theorem DicL.same {H H' : Hp} {kvs : List (L2.Key × V)} {env : Str → Tly} {x : Str} (h : DicL H kvs env x) (e : Same H H') : DicL H' kvs env x :=
  h.imp (fun ⟨a, D, h1, h2, h3⟩ => ⟨a, D, h1, h2.same e, h3⟩) id
theorem ones_in : ∀ w ∈ onesW, inV (.str w) [V.str "join", .str "plus", .str "less", .str "without"] = false := by decide
theorem twos_in : ∀ w ∈ twosW, inV (.str w) [V.str "join", .str "plus", .str "less", .str "without"] = true := by decide
theorem fin_nil : Fin ([] : Tly) := ⟨List.Pairwise.nil, fun p hp => nomatch hp⟩
section
variable {P : Program} {w : World} {K : PySem.W.Frag} {mg : Str → Option Value} {base : Heap} {C : Addr}
def spFromN (K : PySem.W.Frag) (n : Nat) : Sp := fun vs H Q _ => ∃ (v : V) (tb : Addr) (p : Pl) (W : Str → Nat) (env : Str → Tly) (kvs : List (L2.Key × V)), vs = [v, .ref tb] ∧ Da K H v (plD p) ∧ deepP p ≤ n ∧ FitP W p ∧ EnvOk W env ∧ H tb = some (.dK kvs) ∧ (∀ x ∈ namesP p, DicL H kvs env x) ∧ ∀ H' l D, Same H H' → PairsAt H' l D → Fin D → SortL D → D.Perm (evP env p) → Q (.ref l) H'
theorem d_law_from_nothing (B : Bt mg) (T : Top K mg "_law_from_nothing" s_law_from_nothing ["plan", "lists"]) (D_law_due : Def P w K mg base "_law_due" 3 ["node", "first", "second"] (spDue K)) : ∀ n : Nat, Def P w K mg base "_law_from_nothing" (n + 4) ["plan", "lists"] (spFromN K n)
  | 0 => mk_def T sc_law_from_nothing (by rintro _ _ _ _ ⟨_, _, _, _, _, _, rfl, _⟩; rfl) fun f cdv A outer s H vs Q E hr h => by
    obtain ⟨_, _, p, _, _, _, _, _, h, _⟩ := h
    have := deep_pos p
    omega
  | n + 1 => by
    have D_law_from_nothing := d_law_from_nothing B T D_law_due n
    refine mk_def T sc_law_from_nothing (by rintro _ _ _ _ ⟨_, _, _, _, _, _, rfl, _⟩; rfl) fun f cdv A outer s H vs Q E hr h => ?_
    obtain ⟨v, tb, p, W, env, kvs, rfl, hd, hn, fp, Ek, htb, hx, q⟩ := h
    refine ⟨_, (pss_cons (ps_if (pt_cmpR op_eq (pe_ix ix_tup (pv 0) pe_int (fun _ _ => rfl)) pe_str (nomark _)) (pss_one (ps_ret (pe_dget2 (hu_of hr) (pv 1) (pe_ix ix_tup (pv 0) pe_int (fun _ _ => rfl)) (pe_lst pa_nil) ⟨by rfl, by rfl, by rfl, by rfl⟩))) pss_nil)
      (pss_cons (ps_set (i := 2) sc_law_from_nothing.nd rfl (Or.inl rfl) (pe_def D_law_from_nothing (hr.mono (by first | decide | omega)) (by rfl) (pa_cons (pe_ix ix_tup (pv 0) pe_int (fun _ _ => rfl)) (pa_cons (pv 1) pa_nil))))
      (pss_cons (ps_set (i := 3) sc_law_from_nothing.nd rfl (Or.inl rfl) (pe_lst pa_nil))
      (Evl.pss_cut (ps_if (pt_cmpR op_in_seq (pe_ix ix_tup (pv 0) pe_int (fun _ _ => rfl)) (pe_tup (pa_cons pe_str (pa_cons pe_str (pa_cons pe_str (pa_cons pe_str pa_nil))))) rfl) (pss_one (ps_set (i := 3) sc_law_from_nothing.nd rfl (Or.inl rfl) (pe_def D_law_from_nothing (hr.mono (by first | decide | omega)) (by rfl) (pa_cons (pe_ix ix_tup (pv 0) pe_int (fun _ _ => rfl)) (pa_cons (pv 1) pa_nil))))) pss_nil)
      (pss_one (ps_ret (pe_def D_law_due (hr.mono (by first | decide | omega)) (by rfl) (pa_cons (pv 0) (pa_cons (pv 2) (pa_cons (pv 3) pa_nil)))))))))), ?_⟩
    cases hp : isTab p with
    | true =>
      cases p with
      | tab x =>
        obtain ⟨a, rfl, ha⟩ := Da.tabI hd
        refine ⟨.ref a, rfl, a, _, _, .str "table", rfl, rfl, SqT.of ha, atI_nat (j := 0) rfl, rfl, _, rfl, iteT ?_⟩
        refine ⟨.ref tb, rfl, tb, rfl, .inl ⟨kvs, .inl htb⟩, .ref a, rfl, a, _, _, .str x, rfl, rfl, SqT.of ha, atI_nat (j := 1) rfl, by show 0 ≤ sizeLine; decide, fun M hM => ?_⟩
        have e1 := same_upd (o := .lst []) hM
        refine ⟨_, DGet.k (k := Sum.inr x) (e1 _ _ htb), ?_⟩
        rcases hx x (List.mem_singleton.mpr rfl) with ⟨b, D, h1, h2, h3, h4, h5⟩ | ⟨h1, h2⟩
        · rw [h1]
          exact q _ b D e1 (h2.same e1) h3 h4 h5
        · rw [h1]
          refine q _ M [] e1 ⟨[], upd_same, .nil⟩ fin_nil List.Pairwise.nil ?_
          show List.Perm [] (env x)
          rw [h2]
      | choose _ _ => cases hp
      | map _ _ => cases hp
      | join _ _ _ => cases hp
      | plus _ _ => cases hp
      | less _ _ => cases hp
      | distinct _ => cases hp
      | without _ _ _ => cases hp
      | group _ _ _ => cases hp
      | top _ _ _ => cases hp
    | false =>
      obtain ⟨a, xs, us, rfl, pl⟩ := Da.plI hd hp
      have sub := pl.sub
      have subs := pl.subs
      have hmem : ∀ q' ∈ subsP p, deepP q' ≤ n ∧ FitP W q' ∧ ∀ H', Same H H' → ∀ x ∈ namesP q', DicL H' kvs env x := fun q' hq => by
        have := deep_subs hq
        exact ⟨by omega, fit_subs fp hq, fun H' e x hx' => (hx x (name_subs hq hx')).same e⟩
      obtain ⟨wd, h0, hw1, hw2⟩ := sub.word
      refine ⟨.ref a, rfl, a, _, _, .str wd, rfl, rfl, SqT.of pl.at', atI_nat (j := 0) h0, rfl, _, rfl, iteN (strNe hw1) ?_⟩
      generalize hqs : subsP p = qs at subs hmem
      have h1 : ∃ v1 q1, xs[1]? = some v1 ∧ Da K H v1 (plD q1) ∧ q1 ∈ qs ∧ ((qs = [q1] ∧ inV (.str wd) [V.str "join", .str "plus", .str "less", .str "without"] = false) ∨ ∃ v2 q2, xs[2]? = some v2 ∧ Da K H v2 (plD q2) ∧ qs = [q1, q2] ∧ inV (.str wd) [V.str "join", .str "plus", .str "less", .str "without"] = true) := by
        cases sub with
        | one hw g0 g1 =>
          cases subs with
          | cons s1 t =>
            cases t
            obtain rfl := V.str.inj (Option.some.inj (h0.symm.trans g0))
            exact ⟨_, _, g1, s1, List.mem_cons_self .., .inl ⟨rfl, ones_in _ hw⟩⟩
        | two hw g0 g1 g2 =>
          cases subs with
          | cons s1 t =>
            cases t with
            | cons s2 t =>
              cases t
              obtain rfl := V.str.inj (Option.some.inj (h0.symm.trans g0))
              exact ⟨_, _, g1, s1, List.mem_cons_self .., .inr ⟨_, _, g2, s2, rfl, twos_in _ hw⟩⟩
      obtain ⟨v1, q1, hx1, hd1, hq1, hcase⟩ := h1
      obtain ⟨m1, f1, n1⟩ := hmem q1 hq1
      refine ⟨.ref a, rfl, a, _, _, v1, rfl, rfl, SqT.of pl.at', atI_nat (j := 1) hx1, .ref tb, rfl, v1, tb, q1, W, env, kvs, rfl, hd1, m1, f1, Ek, htb, n1 H (Same.refl _), fun H1 l1 D1 e1 hl1 F1 S1 P1 => ?_⟩
      refine ⟨by show 0 ≤ sizeLine; decide, fun M hM => ?_⟩
      have e2 := same_upd (o := .lst []) hM
      have hM2 : PairsAt (L2.upd H1 M (.lst [])) M [] := ⟨[], upd_same, .nil⟩
      have e02 := e1.trans e2
      have hl12 := hl1.same e2
      have LD1 : D1.length ≤ 4000 := by
        rw [P1.length_eq]
        exact Nat.le_trans (ev_lim Ek q1 f1.ok f1.many).len f1.many
      generalize L2.upd H1 M (.lst []) = H2 at e2 hM2 e02 hl12 ⊢
      refine ⟨fun σ' H' => ∃ (b : Addr) (D2 : Tly) (Ts : List Tly), σ' = [some (.ref a), some (.ref tb), some (.ref l1), some (.ref b)] ∧ Same H2 H' ∧ PairsAt H' b D2 ∧ D2.length ≤ 4000 ∧ (Ts = [D1] ∨ Ts = [D1, D2]) ∧ Paired (fun T q => Fin T ∧ T.Perm (evP env q)) Ts qs, ?_, ?_⟩
      · refine ⟨.ref a, rfl, a, _, _, .str wd, rfl, rfl, SqT.of (e02 _ _ pl.at'), atI_nat (j := 0) h0, by show 4 ≤ sizeLine; decide, fun u hu => ⟨u, _, rfl, .inr (SqT.of upd_same), rfl, rfl, _, rfl, ?_⟩⟩
        have eu := same_upd (o := .tup [V.str "join", .str "plus", .str "less", .str "without"]) hu
        generalize L2.upd H2 u (.tup [V.str "join", .str "plus", .str "less", .str "without"]) = H3 at eu ⊢
        show if inV (.str wd) [V.str "join", .str "plus", .str "less", .str "without"] = true then _ else _
        rcases hcase with ⟨rfl, hin⟩ | ⟨v2, q2, hx2, hd2, rfl, hin⟩
        · rw [hin]
          exact iteF ⟨M, [], [D1], rfl, eu, hM2.same eu, Nat.zero_le _, .inl rfl, .cons ⟨F1, P1⟩ .nil⟩
        · rw [hin]
          obtain ⟨m2, f2, n2⟩ := hmem q2 (List.mem_cons_of_mem _ (List.mem_cons_self ..))
          have e03 := e02.trans eu
          refine iteT ⟨.ref a, rfl, a, _, _, v2, rfl, rfl, SqT.of (e03 _ _ pl.at'), atI_nat (j := 2) hx2, .ref tb, rfl, v2, tb, q2, W, env, kvs, rfl, Da.same e03 _ _ hd2, m2, f2, Ek, e03 _ _ htb, n2 _ e03, fun H4 l2 D2 e4 hl2 F2 S2 P2 => ?_⟩
          refine ⟨l2, D2, [D1, D2], rfl, eu.trans e4, hl2, ?_, .inr rfl, .cons ⟨F1, P1⟩ (.cons ⟨F2, P2⟩ .nil)⟩
          rw [P2.length_eq]
          exact Nat.le_trans (ev_lim Ek q2 f2.ok f2.many).len f2.many
      rintro σ' H4 ⟨b, D2, Ts, rfl, e4, hb, LD2, hTs, hpair⟩
      have e04 := e02.trans e4
      rw [← hqs] at hpair
      obtain ⟨R, part, Rl, Rw, RL, hR⟩ := pl_part Ek fp (pl.same e04) hpair
      exact ⟨.ref a, rfl, .ref l1, rfl, .ref b, rfl, a, l1, b, xs, Ts, D1, D2, R, rfl, e04 _ _ pl.at', hl12.same e4, hb, hTs, part, by omega, by omega, by omega, Rw, F1, S1, ⟨_, ((ev_lim Ek q1 f1.ok f1.many).perm P1).wid⟩, fun H5 l D e5 _ hl F S c _ => q H5 l D (e04.trans e5) hl F S (hR D F c)⟩
end
end K18

namespace K18
open PySem PySem.Spec PyProof.Rows L2 RW9 Tl
/-- a plan and its width, in a list -/
def PtAt (K : PySem.W.Frag) (H : Hp) (a : Addr) (p : Pl) (w : Nat) : Prop := ∃ v, H a = some (.lst [v, .int w]) ∧ Da K H v (plD p)
theorem PtAt.same {K : PySem.W.Frag} {H H' : Hp} {a : Addr} {p : Pl} {w : Nat} (h : PtAt K H a p w) (e : Same H H') : PtAt K H' a p w := by
  obtain ⟨v, h1, h2⟩ := h
  exact ⟨v, e _ _ h1, Da.same e _ _ h2⟩
theorem PtAt.ne {K : PySem.W.Frag} {H : Hp} {a q : Addr} {p : Pl} {w : Nat} (h : PtAt K H a p w) (hp : PurseAt H q) : a ≠ q := by
  obtain ⟨v, h1, _⟩ := h
  obtain ⟨x, y, z, h2, _⟩ := hp
  exact ne_of h1 h2 (fun e => nomatch e)
theorem PtAt.sb {K : PySem.W.Frag} {H H' : Hp} {a q : Addr} {p : Pl} {w : Nat} (h : PtAt K H a p w) (hp : PurseAt H q) (e : SameB q H H') : PtAt K H' a p w := by
  have ne := h.ne hp
  obtain ⟨v, h1, h2⟩ := h
  exact ⟨v, e _ _ ne h1, Da.st (hp.st e) _ _ (imm_pl p) h2⟩
/-- a plan as it is drawn: within these bounds -/
structure Dr (W : Str → Nat) (ns : List Str) (dep many bits sum : Nat) (p : Pl) (w : Nat) : Prop where
  ok : OkP W p
  names : ∀ x ∈ namesP p, x ∈ ns
  dep : deepP p ≤ dep
  many : manyP p ≤ many
  bits : bitsP p ≤ bits
  sum : sumP p ≤ sum
  top : gwidW W p ≤ 100
  wid : widP W p = w
  few : w ≤ 6
section
variable {W : Str → Nat} {ns : List Str} {dep many bits sum dep' many' bits' sum' w l r : Nat} {p q : Pl}
theorem Dr.mono (h : Dr W ns dep many bits sum p w) (h1 : dep ≤ dep') (h2 : many ≤ many') (h3 : bits ≤ bits') (h4 : sum ≤ sum') : Dr W ns dep' many' bits' sum' p w :=
  ⟨h.ok, h.names, Nat.le_trans h.dep h1, Nat.le_trans h.many h2, Nat.le_trans h.bits h3, Nat.le_trans h.sum h4, h.top, h.wid, h.few⟩
theorem Dr.choose (h : Dr W ns dep many bits sum p w) {ts : List Tst} (hl : ts.length ≤ 3) (ok : ∀ x ∈ ts, TsOk w x) : Dr W ns (dep + 1) many (bits + sum + 111) (sum + 13) (.choose ts p) w := by
  have h1 := h.bits
  have h2 := h.sum
  exact ⟨⟨h.ok, .choose hl (by rw [h.wid]; exact ok)⟩, h.names, Nat.succ_le_succ h.dep, h.many, by show bitsP p + sumP p + 111 ≤ _; omega, by show sumP p + 13 ≤ _; omega, h.top, h.wid, h.few⟩
theorem Dr.map (h : Dr W ns dep many bits sum p w) {ts : List Tm} (hl : ts.length ≤ 6) (ok : ∀ x ∈ ts, TmOk w x) : Dr W ns (dep + 1) many (bits + sum + 111) (sum + 13) (.map ts p) ts.length := by
  have h1 := h.bits
  have h2 := h.sum
  exact ⟨⟨h.ok, .map (by omega) (by rw [h.wid]; exact ok)⟩, h.names, Nat.succ_le_succ h.dep, h.many, by show bitsP p + sumP p + 111 ≤ _; omega, by show sumP p + 13 ≤ _; omega, Nat.max_le.mpr ⟨by omega, h.top⟩, rfl, hl⟩
theorem Dr.distinct (h : Dr W ns dep many bits sum p w) : Dr W ns (dep + 1) many (bits + sum + 111) (sum + 13) (.distinct p) w := by
  have h1 := h.bits
  have h2 := h.sum
  exact ⟨⟨h.ok, .distinct⟩, h.names, Nat.succ_le_succ h.dep, h.many, by show bitsP p + sumP p + 111 ≤ _; omega, by show sumP p + 13 ≤ _; omega, h.top, h.wid, h.few⟩
theorem Dr.group (h : Dr W ns dep many bits sum p w) {cols : List Int} {so : Srt} (hl : cols.length ≤ 3) (ok : KeysOk w cols) (hs : SortOk w so) : Dr W ns (dep + 1) many (bits + sum + 111) (sum + 13) (.group cols so p) (cols.length + 1) := by
  have h1 := h.bits
  have h2 := h.sum
  exact ⟨⟨h.ok, .group hl (by rw [h.wid]; exact ok) (by rw [h.wid]; exact hs)⟩, h.names, Nat.succ_le_succ h.dep, h.many, by show bitsP p + sumP p + 111 ≤ _; omega, by show sumP p + 13 ≤ _; omega, Nat.max_le.mpr ⟨by omega, h.top⟩, rfl, by omega⟩
theorem Dr.topp (h : Dr W ns dep many bits sum p w) {cols : List Int} {m : Int} (hl : cols.length ≤ 3) (ok : KeysOk w cols) (hm : 1 ≤ m) : Dr W ns (dep + 1) many (bits + sum + 111) (sum + 13) (.top cols m p) w := by
  have h1 := h.bits
  have h2 := h.sum
  exact ⟨⟨h.ok, .top hl (by rw [h.wid]; exact ok) hm⟩, h.names, Nat.succ_le_succ h.dep, h.many, by show bitsP p + sumP p + 111 ≤ _; omega, by show sumP p + 13 ≤ _; omega, h.top, h.wid, h.few⟩
theorem bin_mono {a b c d : Nat} (h1 : a ≤ c) (h2 : b ≤ d) : bin a b ≤ bin c d := by
  have := Nat.mul_le_mul h1 h2
  unfold bin
  omega
theorem names_app {a b : List Str} (h : ∀ x ∈ a, x ∈ ns) (g : ∀ x ∈ b, x ∈ ns) : ∀ x ∈ a ++ b, x ∈ ns := fun x hx => (List.mem_append.mp hx).elim (h x) (g x)
theorem Dr.join (h : Dr W ns dep many bits sum p l) (g : Dr W ns dep many bits sum q r) {cols : List (Int × Int)} (hl : cols.length ≤ 3) (ok : ColsOk l r cols) (few : l + r ≤ 6) : Dr W ns (dep + 1) (bin many many) (bits + sum + 111) (sum + sum + 13) (.join cols p q) (l + r) := by
  have h1 := h.dep
  have g1 := g.dep
  have h2 := h.bits
  have g2 := g.bits
  have h3 := h.sum
  have g3 := g.sum
  have h4 := h.top
  have g4 := g.top
  refine ⟨⟨h.ok, g.ok, .join hl (by rw [h.wid, g.wid]; exact ok)⟩, names_app h.names g.names, ?_, bin_mono h.many g.many, ?_, ?_, ?_, ?_, few⟩
  · show max (deepP p) (deepP q) + 1 ≤ dep + 1
    omega
  · show max (bitsP p) (bitsP q) + sumP p + 111 ≤ bits + sum + 111
    omega
  · show sumP p + sumP q + 13 ≤ sum + sum + 13
    omega
  · show max (widP W p + widP W q) (max (gwidW W p) (gwidW W q)) ≤ 100
    rw [h.wid, g.wid]
    omega
  · show widP W p + widP W q = l + r
    rw [h.wid, g.wid]
theorem Dr.without (h : Dr W ns dep many bits sum p l) (g : Dr W ns dep many' bits sum q r) {cols : List (Int × Int)} (hl : cols.length ≤ 3) (ok : ColsOk l r cols) : Dr W ns (dep + 1) (many + many') (bits + sum + 111) (sum + sum + 13) (.without cols p q) l := by
  have h1 := h.dep
  have g1 := g.dep
  have h2 := h.bits
  have g2 := g.bits
  have h3 := h.sum
  have g3 := g.sum
  have h4 := h.top
  have g4 := g.top
  refine ⟨⟨h.ok, g.ok, .without hl (by rw [h.wid, g.wid]; exact ok)⟩, names_app h.names g.names, ?_, Nat.add_le_add h.many g.many, ?_, ?_, ?_, h.wid, h.few⟩
  · show max (deepP p) (deepP q) + 1 ≤ dep + 1
    omega
  · show max (bitsP p) (bitsP q) + sumP p + 111 ≤ bits + sum + 111
    omega
  · show sumP p + sumP q + 13 ≤ sum + sum + 13
    omega
  · show max (gwidW W p) (gwidW W q) ≤ 100
    omega
theorem Dr.plus (h : Dr W ns dep many bits sum p l) (g : Dr W ns dep many bits sum q l) : Dr W ns (dep + 1) (bin many many) (bits + sum + 111) (sum + sum + 13) (.plus p q) l ∧ Dr W ns (dep + 1) (bin many many) (bits + sum + 111) (sum + sum + 13) (.less p q) l := by
  have h1 := h.dep
  have g1 := g.dep
  have h2 := h.bits
  have g2 := g.bits
  have h3 := h.sum
  have g3 := g.sum
  have h4 := h.top
  have g4 := g.top
  have a1 : max (deepP p) (deepP q) + 1 ≤ dep + 1 := by omega
  have a2 : max (bitsP p) (bitsP q) + sumP p + 111 ≤ bits + sum + 111 := by omega
  have a3 : sumP p + sumP q + 13 ≤ sum + sum + 13 := by omega
  have a4 : max (gwidW W p) (gwidW W q) ≤ 100 := by omega
  have a5 : OkP W p ∧ OkP W q ∧ widP W p = widP W q := ⟨h.ok, g.ok, h.wid.trans g.wid.symm⟩
  exact ⟨⟨a5, names_app h.names g.names, a1, bin_mono h.many g.many, a2, a3, a4, h.wid, h.few⟩, ⟨a5, names_app h.names g.names, a1, bin_mono h.many g.many, a2, a3, a4, h.wid, h.few⟩⟩
end
section
variable {P : Program} {w : World} {K : PySem.W.Frag} {mg : Str → Option Value} {base : Heap} {C : Addr}
def spNarrow (K : PySem.W.Frag) : Sp := fun vs H Q _ => ∃ (p a : Addr) (pl : Pl) (w : Nat) (W : Str → Nat) (ns : List Str) (dep many bits sum : Nat), vs = [.ref p, .ref a] ∧ PurseAt H p ∧ PtAt K H a pl w ∧ Dr W ns dep many bits sum pl w ∧ ∀ H' b pl' w', SameB p H H' → PurseAt H' p → PtAt K H' b pl' w' → Dr W ns (dep + 1) many (bits + sum + 111) (sum + 13) pl' w' → w' ≤ 3 → Q (.ref b) H'
theorem d_law_narrow (B : Bt mg) (T : Top K mg "_law_narrow" s_law_narrow ["purse", "part"]) (D_law_term : Def P w K mg base "_law_term" 3 ["purse", "width"] (spLTerm K)) : Def P w K mg base "_law_narrow" 4 ["purse", "part"] (spNarrow K) := by
  refine mk_def T sc_law_narrow (by rintro _ _ _ _ ⟨_, _, _, _, _, _, _, _, _, _, rfl, _⟩; rfl) fun f cdv A outer s H vs Q E hr h => ?_
  obtain ⟨p, a, pl, wd, W, ns, dep, many, bits, sum, rfl, hp, hpt, hd, q⟩ := h
  refine ⟨_, (pss_cons (ps_if (pt_cmpR op_lt (pe_ix ix_list (pv 1) pe_int (fun _ _ => rfl)) pe_int (nomark _)) (pss_one (ps_ret (pv 1))) pss_nil)
      (pss_one (ps_ret (pe_lst (pa_cons (pe_tup (pa_cons pe_str (pa_cons (pe_ix ix_list (pv 1) pe_int (fun _ _ => rfl)) (pa_cons (pe_callTy call_tuple_of (by rfl) B.m_tuple (by decide +kernel) (pa_cons (pe_lc (own := [("at", 2)]) (g := (gName 2)) (tt := tYes) (te := (tCall (spLTerm K) [] E0 (tCons (tVar 0) (tCons (tOp (rIxL K) (tVar 1) (tC (.int 1))) tNil)))) rfl sc_law_narrow.nd (pi_range1 (by rfl) B.m_range (pa_cons pe_int pa_nil)) (blkOk_by (own := [("at", 2)]) (N := N_law_narrow) (sc := defScope s_law_narrow) (by decide +kernel)) (fun _ _ _ _ _ => (pg_name (i := 2) sc_law_narrow.nd rfl (Or.inl rfl))) (fun _ _ _ _ _ => pts_nil) (fun _ _ _ _ _ => (pe_def D_law_term (hr.mono (by first | decide | omega)) (by rfl) (pa_cons (pv 0) (pa_cons (pe_ix ix_list (pv 1) pe_int (fun _ _ => rfl)) pa_nil))))) pa_nil)) pa_nil)))) (pa_cons pe_int pa_nil)))))), ?_⟩
  obtain ⟨v, ha, hv⟩ := id hpt
  have hfew := hd.few
  refine ⟨.ref a, rfl, a, _, _, .int wd, rfl, rfl, SqL.of ha, atI_nat (j := 1) rfl, _, _, rfl, rfl, _, rfl, ite2 (fun z => ?_) (fun z => ?_)⟩
  · have : (wd : Int) < 4 := of_decide_eq_true z
    exact ⟨.ref a, rfl, q H a pl wd (SameB.refl _ _) hp hpt (hd.mono (by omega) (Nat.le_refl _) (by omega) (by omega)) (by omega)⟩
  refine ⟨.ref a, rfl, a, _, _, v, rfl, rfl, SqL.of ha, atI_nat (j := 0) rfl, 3, rfl, by decide, by decide, fun D hD => ?_⟩
  have npD : p ≠ D := hp.ne hD
  refine lc_range (lo := 0) (n := 3) (fun j H2 => ∃ (acc : List V) (ts : List Tm), ts.length = j ∧ (∀ t ∈ ts, TmOk wd t) ∧ H2 D = some (.lst acc) ∧ DaAll K H2 acc (ts.map tmD) ∧ (∀ b o, b ≠ p → H b = some o → H2 b = some o) ∧ PurseAt H2 p) ⟨[], [], rfl, (fun x hx => nomatch hx), upd_same, .nil, (fun b o _ ho => by rw [upd_ne (ne_of_none ho hD)]; exact ho), hp.upd npD⟩ (fun j H2 hj pv => ?_) (fun H2 pv => ?_)
  · obtain ⟨acc, ts, hl, hok, eD, hacc, e2, pu⟩ := pv
    refine ⟨rfl, .ref p, rfl, .ref a, rfl, a, _, _, .int wd, rfl, rfl, SqL.of (e2 _ _ (hpt.ne hp) ha), atI_nat (j := 1) rfl, p, wd, rfl, pu, by omega, fun H3 v x s3 p3 hv hx => ?_⟩
    have eD3 := s3 _ _ npD.symm eD
    have st : ST K H3 (L2.upd H3 D (.lst (acc ++ [v]))) := st_upd eD3 True.intro
    have la : acc.length = ts.length := by rw [hacc.length, List.length_map]
    refine ⟨acc, eD3, Nat.lt_of_le_of_lt (show acc.length ≤ 3 by omega) (by decide), acc ++ [v], ts ++ [x], by simp [hl], fun y hy => ?_, upd_same, ?_, fun b o nb ho => ?_, p3.upd npD⟩
    · rcases List.mem_append.mp hy with hy | hy
      · exact hok y hy
      · rw [List.mem_singleton.mp hy]
        exact hx
    · rw [List.map_append]
      exact DaAll.snoc (Da.st st _ _ (imm_tm x) hv) (Da.stAll st _ _ (imm_tms ts) (Da.stAll (pu.st s3) _ _ (imm_tms ts) hacc))
    · rw [upd_ne (ne_of_none ho hD)]
      exact s3 _ _ nb (e2 _ _ nb ho)
  · obtain ⟨acc, ts, hl, hok, eD, hacc, e2, pu⟩ := pv
    refine ⟨D, acc, rfl, .inl ⟨SqL.of eD, fun t1 ht1 => ⟨by show 3 ≤ sizeLine; decide, fun t2 ht2 => ⟨by show 2 ≤ sizeLine; decide, fun b hb => ?_⟩⟩⟩⟩
    have s2 : SameB p H H2 := e2
    have e3 := same_upd (o := .tup acc) ht1
    have d3 : Da K (L2.upd H2 t1 (.tup acc)) (.ref t1) (tsD ts) := .tup upd_same (Da.sameAll e3 _ _ hacc)
    have v3 := Da.same e3 _ _ (Da.st (hp.st s2) _ _ (imm_pl pl) hv)
    have e4 := same_upd (o := .tup [V.str "map", v, .ref t1]) ht2
    have d4 : Da K (L2.upd (L2.upd H2 t1 (.tup acc)) t2 (.tup [V.str "map", v, .ref t1])) (.ref t2) (plD (.map ts pl)) := .tup upd_same (.cons (.str _) (.cons (Da.same e4 _ _ v3) (.cons (Da.same e4 _ _ d3) .nil)))
    have e5 := same_upd (o := .lst [V.ref t2, .int 3]) hb
    have hdr := hd.map (by omega) hok
    rw [hl] at hdr
    exact q _ b (.map ts pl) 3 (s2.trans ((e3.trans e4).trans e5).b) (pu.same ((e3.trans e4).trans e5)) ⟨.ref t2, upd_same, Da.same e5 _ _ d4⟩ hdr (by decide)
end
end K18

namespace K18
open PySem PySem.Spec PyProof.Rows L2 RW9 Tl
section
variable {P : Program} {w : World} {K : PySem.W.Frag} {mg : Str → Option Value} {base : Heap} {C : Addr}
def spOne (K : PySem.W.Frag) : Sp := fun vs H Q _ => ∃ (p a : Addr) (k : Nat) (pl : Pl) (w : Nat) (W : Str → Nat) (ns : List Str) (dep many bits sum : Nat), vs = [.ref p, .str (kindS k), .ref a] ∧ k < 4 ∧ k ≠ 1 ∧ PurseAt H p ∧ PtAt K H a pl w ∧ Dr W ns dep many bits sum pl w ∧ ∀ H' b pl' w', SameB p H H' → PurseAt H' p → PtAt K H' b pl' w' → Dr W ns (dep + 1) many (bits + sum + 111) (sum + 13) pl' w' → Q (.ref b) H'
theorem d_law_one (B : Bt mg) (T : Top K mg "_law_one" s_law_one ["purse", "kind", "part"]) (D_law_node : Def P w K mg base "_law_node" 3 ["purse", "kind", "first", "second", "left", "right"] (spNode K)) : Def P w K mg base "_law_one" 4 ["purse", "kind", "part"] (spOne K) := by
  refine mk_def T sc_law_one (by rintro _ _ _ _ ⟨_, _, _, _, _, _, _, _, _, _, _, rfl, _⟩; rfl) fun f cdv A outer s H vs Q E hr h => ?_
  obtain ⟨p, a, k, pl, wd, W, ns, dep, many, bits, sum, rfl, hk, hk1, hp, hpt, hd, q⟩ := h
  refine ⟨_, (pss_cons (ps_set (i := 3) sc_law_one.nd rfl (Or.inl rfl) (pe_lst (pa_cons (pe_tup (pa_cons pe_str (pa_cons pe_str pa_nil))) (pa_cons (pe_tup (pa_cons pe_str (pa_cons pe_str pa_nil))) pa_nil))))
      (pss_cons (ps_set (i := 4) sc_law_one.nd rfl (Or.inl rfl) (pe_def D_law_node (hr.mono (by first | decide | omega)) (by rfl) (pa_cons (pv 0) (pa_cons (pv 1) (pa_cons (pe_ix ix_list (pv 2) pe_int (fun _ _ => rfl)) (pa_cons (pe_ix ix_list (pv 3) pe_int (fun _ _ => rfl)) (pa_cons (pe_ix ix_list (pv 2) pe_int (fun _ _ => rfl)) (pa_cons pe_int pa_nil))))))))
      (pss_cons (ps_if (pt_cmpR op_eq (pv 1) pe_str (nomark _)) (pss_one (ps_ret (pe_lst (pa_cons (pv 4) (pa_cons (pe_op op_add (pe_callB call_len_seq (by rfl) B.m_len PySem.boot_len (pa_cons (pe_ix ix_tup (pv 4) pe_int (fun _ _ => rfl)) pa_nil)) pe_int) pa_nil))))) pss_nil)
      (pss_one (ps_ret (pe_lst (pa_cons (pv 4) (pa_cons (pe_ix ix_list (pv 2) pe_int (fun _ _ => rfl)) pa_nil)))))))), ?_⟩
  refine ⟨by show 2 ≤ sizeLine; decide, fun t1 ht1 => ⟨by show 2 ≤ sizeLine; decide, fun t2 ht2 => ⟨by show 2 ≤ sizeLine; decide, fun L hL => ?_⟩⟩⟩
  have e0 := ((same_upd (o := .tup [V.str "table", .str "a"]) ht1).trans (same_upd (o := .tup [V.str "table", .str "a"]) ht2)).trans (same_upd (o := .lst [V.ref t1, .ref t2]) hL)
  have hL1 := upd_same (H := L2.upd (L2.upd H t1 (.tup [V.str "table", .str "a"])) t2 (.tup [V.str "table", .str "a"])) (a := L) (o := .lst [V.ref t1, .ref t2])
  have p0 := hp.same e0
  have hpt0 := hpt.same e0
  generalize L2.upd (L2.upd (L2.upd H t1 (.tup [V.str "table", .str "a"])) t2 (.tup [V.str "table", .str "a"])) L (.lst [V.ref t1, .ref t2]) = H0 at e0 hL1 p0 hpt0 ⊢
  obtain ⟨v, ha, hv⟩ := id hpt0
  have hfew := hd.few
  refine ⟨.ref p, rfl, .str (kindS k), rfl, .ref a, rfl, a, _, _, v, rfl, rfl, SqL.of ha, atI_nat (j := 0) rfl, .ref L, rfl, L, _, _, .ref t1, rfl, rfl, SqL.of hL1, atI_nat (j := 0) rfl, .ref a, rfl, a, _, _, .int wd, rfl, rfl, SqL.of ha, atI_nat (j := 1) rfl, p, v, .ref t1, k, wd, 0, rfl, hk, p0, by omega, by decide, fun H1 n xs nd s1 p1 hn hx1 _ hnd hok hkn => ?_⟩
  have hpt1 := hpt0.sb p0 s1
  have hv1 := Da.st (p0.st s1) _ _ (imm_pl pl) hv
  obtain ⟨v', ha1, _⟩ := id hpt1
  have s01 := e0.b.trans s1
  have done : ∀ pl', Da K H1 (.ref n) (plD pl') → Dr W ns (dep + 1) many (bits + sum + 111) (sum + 13) pl' wd → ∀ b, H1 b = none → Q (.ref b) (L2.upd H1 b (.lst [.ref n, .int wd])) := fun pl' hd' dr b hb =>
    q _ b pl' wd (s01.trans (same_upd hb).b) (p1.same (same_upd hb)) ⟨_, upd_same, Da.same (same_upd hb) _ _ hd'⟩ dr
  cases hnd with
  | choose _ _ _ => exact absurd hk (by rw [← hkn]; show ¬ (9 : Nat) < 4; decide)
  | map _ _ _ => exact absurd hk (by rw [← hkn]; show ¬ (9 : Nat) < 4; decide)
  | join _ _ _ => exact absurd hk (by rw [← hkn]; show ¬ (9 : Nat) < 4; decide)
  | plus _ => exact absurd hk (by rw [← hkn]; decide)
  | less _ => exact absurd hk (by rw [← hkn]; decide)
  | without _ _ => exact absurd hkn.symm hk1
  | distinct hx =>
    subst hx
    obtain rfl : _ = v := Option.some.inj hx1
    subst hkn
    refine ⟨.str "distinct", rfl, rfl, _, rfl, iteN (strNe (by decide +kernel)) ?_⟩
    exact ⟨.ref n, rfl, .ref a, rfl, a, _, _, .int wd, rfl, rfl, SqL.of ha1, atI_nat (j := 1) rfl, by show 2 ≤ sizeLine; decide, done (.distinct pl) (.tup hn (.cons (.str _) (.cons hv1 .nil))) hd.distinct⟩
  | @group v1 v2 v3 cols so hx h2 h3 =>
    subst hx
    obtain rfl : v1 = v := Option.some.inj hx1
    subst hkn
    cases hok with
    | group hl hko hso =>
      obtain ⟨kt, rfl, hkt⟩ := Mo.trk h2
      refine ⟨.str "group", rfl, rfl, _, rfl, iteY rfl ?_⟩
      refine ⟨.ref n, rfl, .ref n, rfl, n, _, _, .ref kt, rfl, rfl, SqT.of hn, atI_nat (j := 2) rfl, kt, _, rfl, .inr (SqT.of hkt), _, _, rfl, rfl, by show 2 ≤ sizeLine; decide, fun b hb => ?_⟩
      have e1 := same_upd (o := .lst [V.ref n, .int (((cols.map V.int).length : Int) + 1)]) hb
      refine q _ b (.group cols so pl) (cols.length + 1) (s01.trans e1.b) (p1.same e1) ⟨.ref n, ?_, Da.same e1 _ _ (.tup hn (.cons (.str _) (.cons hv1 (.cons h2 (.cons h3 .nil)))))⟩ (hd.group hl hko hso)
      rw [upd_same, List.length_map]
      rfl
  | @top v1 v2 cols m hx h2 =>
    subst hx
    obtain rfl : v1 = v := Option.some.inj hx1
    subst hkn
    cases hok with
    | top hl hko hm =>
      refine ⟨.str "top", rfl, rfl, _, rfl, iteN (strNe (by decide +kernel)) ?_⟩
      exact ⟨.ref n, rfl, .ref a, rfl, a, _, _, .int wd, rfl, rfl, SqL.of ha1, atI_nat (j := 1) rfl, by show 2 ≤ sizeLine; decide, done (.top cols m pl) (.tup hn (.cons (.str _) (.cons hv1 (.cons h2 (.cons (.int _) .nil))))) (hd.topp hl hko hm)⟩
end
end K18

namespace K18
open PySem PySem.Spec PyProof.Rows L2 RW9 Tl
def dpD (d : Nat) : Nat := 1 + 2 * d
def mnD : Nat → Nat
  | 0 => 4
  | d + 1 => bin (mnD d) (mnD d)
def smD : Nat → Nat
  | 0 => 110
  | d + 1 => (smD d + 13) + (smD d + 13) + 13
def btD : Nat → Nat
  | 0 => 103
  | d + 1 => btD d + smD d + 111 + (smD d + 13) + 111
theorem bt_103 : ∀ d, 103 ≤ btD d
  | 0 => by decide
  | d + 1 => by
    have := bt_103 d
    show 103 ≤ btD d + smD d + 111 + (smD d + 13) + 111
    omega
theorem mn_four : ∀ d, 4 ≤ mnD d
  | 0 => by decide
  | d + 1 => by
    have := mn_four d
    show 4 ≤ _ * _ + _ + _
    omega
theorem sm_110 : ∀ d, 110 ≤ smD d
  | 0 => by decide
  | d + 1 => by
    have := sm_110 d
    show 110 ≤ (smD d + 13) + (smD d + 13) + 13
    omega
/-- the names and the widths of the tables, in two lists -/
structure TabsAt (H : Hp) (nm wd : Addr) (ns : List Str) (ws : List Nat) (W : Str → Nat) : Prop where
  n : H nm = some (.lst (ns.map V.str))
  w : H wd = some (.lst (ws.map fun k : Nat => V.int k))
  l : ns.length = 3
  l2 : ws.length = 3
  at' : ∀ (i : Nat) (x : Str) (k : Nat), ns[i]? = some x → ws[i]? = some k → W x = k
  few : ∀ k ∈ ws, k ≤ 3
theorem TabsAt.sb {H H' : Hp} {nm wd p : Addr} {ns : List Str} {ws : List Nat} {W : Str → Nat} (h : TabsAt H nm wd ns ws W) (n1 : nm ≠ p) (n2 : wd ≠ p) (e : SameB p H H') : TabsAt H' nm wd ns ws W := ⟨e _ _ n1 h.n, e _ _ n2 h.w, h.l, h.l2, h.at', h.few⟩
section
variable {P : Program} {w : World} {K : PySem.W.Frag} {mg : Str → Option Value} {base : Heap} {C : Addr}
def spPlan (K : PySem.W.Frag) (n : Nat) : Sp := fun vs H Q _ => ∃ (p nm wd : Addr) (d : Nat) (ns : List Str) (ws : List Nat) (W : Str → Nat), vs = [.ref p, .int d, .ref nm, .ref wd] ∧ PurseAt H p ∧ TabsAt H nm wd ns ws W ∧ nm ≠ p ∧ wd ≠ p ∧ d < n ∧ ∀ H' b pl w, SameB p H H' → PurseAt H' p → PtAt K H' b pl w → Dr W ns (dpD d) (mnD d) (btD d) (smD d) pl w → Q (.ref b) H'
theorem d_law_plan (B : Bt mg) (T : Top K mg "_law_plan" s_law_plan ["purse", "deep", "names", "widths"]) (D_law_draw : Def P w K mg base "_law_draw" 1 ["purse", "many"] spDraw) (D_law_term : Def P w K mg base "_law_term" 3 ["purse", "width"] (spLTerm K)) (D_law_tests : Def P w K mg base "_law_tests" 4 ["purse", "width"] (spLTests K)) (D_law_terms : Def P w K mg base "_law_terms" 4 ["purse", "width"] (spLTerms K)) (D_law_columns : Def P w K mg base "_law_columns" 2 ["purse", "left", "right"] (spLCols K)) (D_law_narrow : Def P w K mg base "_law_narrow" 4 ["purse", "part"] (spNarrow K)) (D_law_one : Def P w K mg base "_law_one" 4 ["purse", "kind", "part"] (spOne K)) : ∀ n : Nat, Def P w K mg base "_law_plan" (n + 5) ["purse", "deep", "names", "widths"] (spPlan K n)
  | 0 => mk_def T sc_law_plan (by rintro _ _ _ _ ⟨_, _, _, _, _, _, _, rfl, _⟩; rfl) fun f cdv A outer s H vs Q E hr h => by
    obtain ⟨_, _, _, _, _, _, _, _, _, _, _, _, h, _⟩ := h
    omega
  | n + 1 => by
    have D_law_plan := d_law_plan B T D_law_draw D_law_term D_law_tests D_law_terms D_law_columns D_law_narrow D_law_one n
    refine mk_def T sc_law_plan (by rintro _ _ _ _ ⟨_, _, _, _, _, _, _, rfl, _⟩; rfl) fun f cdv A outer s H vs Q E hr h => ?_
    obtain ⟨p, nm, wd, d, ns, ws, W, rfl, hp, ht, n1, n2, hd, q⟩ := h
    refine ⟨_, (pss_cons (ps_set (i := 4) sc_law_plan.nd rfl (Or.inl rfl) (pe_def D_law_draw (hr.mono (by first | decide | omega)) (by rfl) (pa_cons (pv 0) (pa_cons (pe_op op_add pe_int (pe_callTy call_int1 (by rfl) B.m_int (by decide +kernel) (pa_cons (pe_cmpR op_lt (pv 1) pe_int (nomark _)) pa_nil))) pa_nil))))
      (pss_cons (ps_if (pw_or (pt_cmpR op_eq (pv 1) pe_int (nomark _)) (pw_or1 (pt_cmpR op_eq (pv 4) pe_int (nomark _)))).pt (pss_cons (ps_set (i := 5) sc_law_plan.nd rfl (Or.inl rfl) (pe_def D_law_draw (hr.mono (by first | decide | omega)) (by rfl) (pa_cons (pv 0) (pa_cons (pe_callB call_len_seq (by rfl) B.m_len PySem.boot_len (pa_cons (pv 2) pa_nil)) pa_nil))))
      (pss_one (ps_ret (pe_lst (pa_cons (pe_tup (pa_cons pe_str (pa_cons (pe_ix ix_list (pv 2) (pv 5) (fun _ _ => rfl)) pa_nil))) (pa_cons (pe_ix ix_list (pv 3) (pv 5) (fun _ _ => rfl)) pa_nil)))))) pss_nil)
      (pss_cons (ps_set (i := 6) sc_law_plan.nd rfl (Or.inl rfl) (pe_def D_law_plan (hr.mono (by first | decide | omega)) (by rfl) (pa_cons (pv 0) (pa_cons (pe_op op_sub (pv 1) pe_int) (pa_cons (pv 2) (pa_cons (pv 3) pa_nil))))))
      (pss_cons (ps_if (pt_cmpR op_lt (pv 4) pe_int (nomark _)) (pss_one (ps_ret (pe_def D_law_one (hr.mono (by first | decide | omega)) (by rfl) (pa_cons (pv 0) (pa_cons (pe_ix ix_tup (pe_tup (pa_cons pe_str (pa_cons pe_str (pa_cons pe_str pa_nil)))) (pe_callTy call_int1 (by rfl) B.m_int (by decide +kernel) (pa_cons (pv 4) pa_nil)) (fun _ _ => rfl)) (pa_cons (pv 6) pa_nil)))))) pss_nil)
      (pss_cons (ps_if (pt_cmpR op_eq (pv 4) pe_int (nomark _)) (pss_one (ps_ret (pe_lst (pa_cons (pe_tup (pa_cons pe_str (pa_cons (pe_ix ix_list (pv 6) pe_int (fun _ _ => rfl)) (pa_cons (pe_def D_law_tests (hr.mono (by first | decide | omega)) (by rfl) (pa_cons (pv 0) (pa_cons (pe_ix ix_list (pv 6) pe_int (fun _ _ => rfl)) pa_nil))) pa_nil)))) (pa_cons (pe_ix ix_list (pv 6) pe_int (fun _ _ => rfl)) pa_nil))))) pss_nil)
      (pss_cons (ps_if (pt_cmpR op_eq (pv 4) pe_int (nomark _)) (pss_cons (ps_set (i := 7) sc_law_plan.nd rfl (Or.inl rfl) (pe_def D_law_terms (hr.mono (by first | decide | omega)) (by rfl) (pa_cons (pv 0) (pa_cons (pe_ix ix_list (pv 6) pe_int (fun _ _ => rfl)) pa_nil))))
      (pss_one (ps_ret (pe_lst (pa_cons (pe_tup (pa_cons pe_str (pa_cons (pe_ix ix_list (pv 6) pe_int (fun _ _ => rfl)) (pa_cons (pv 7) pa_nil)))) (pa_cons (pe_callB call_len_seq (by rfl) B.m_len PySem.boot_len (pa_cons (pv 7) pa_nil)) pa_nil)))))) pss_nil)
      (pss_cons (ps_set (i := 8) sc_law_plan.nd rfl (Or.inr rfl) (pe_def D_law_plan (hr.mono (by first | decide | omega)) (by rfl) (pa_cons (pv 0) (pa_cons (pe_op op_sub (pv 1) pe_int) (pa_cons (pv 2) (pa_cons (pv 3) pa_nil))))))
      (pss_cons (ps_if (pt_cmpR op_lt (pv 4) pe_int (nomark _)) (pss_cons (ps_set (i := 6) sc_law_plan.nd rfl (Or.inl rfl) (pe_def D_law_narrow (hr.mono (by first | decide | omega)) (by rfl) (pa_cons (pv 0) (pa_cons (pv 6) pa_nil))))
      (pss_cons (ps_set (i := 8) sc_law_plan.nd rfl (Or.inr rfl) (pe_def D_law_narrow (hr.mono (by first | decide | omega)) (by rfl) (pa_cons (pv 0) (pa_cons (pv 8) pa_nil))))
      (pss_cons (ps_set (i := 9) sc_law_plan.nd rfl (Or.inl rfl) (pe_def D_law_columns (hr.mono (by first | decide | omega)) (by rfl) (pa_cons (pv 0) (pa_cons (pe_ix ix_list (pv 6) pe_int (fun _ _ => rfl)) (pa_cons (pe_ix ix_list (pv 8) pe_int (fun _ _ => rfl)) pa_nil)))))
      (pss_cons (ps_set (i := 10) sc_law_plan.nd rfl (Or.inl rfl) (pe_op op_add (pe_ix ix_list (pv 6) pe_int (fun _ _ => rfl)) (pe_op op_mul (pe_ix ix_list (pv 8) pe_int (fun _ _ => rfl)) (pe_callTy call_int1 (by rfl) B.m_int (by decide +kernel) (pa_cons (pe_cmpR op_eq (pv 4) pe_int (nomark _)) pa_nil)))))
      (pss_one (ps_ret (pe_lst (pa_cons (pe_tup (pa_cons (pe_ix ix_tup (pe_tup (pa_cons pe_str (pa_cons pe_str pa_nil))) (pe_op op_sub (pe_callTy call_int1 (by rfl) B.m_int (by decide +kernel) (pa_cons (pv 4) pa_nil)) pe_int) (fun _ _ => rfl)) (pa_cons (pe_ix ix_list (pv 6) pe_int (fun _ _ => rfl)) (pa_cons (pe_ix ix_list (pv 8) pe_int (fun _ _ => rfl)) (pa_cons (pv 9) pa_nil))))) (pa_cons (pv 10) pa_nil))))))))) pss_nil)
      (Evl.pss_cut (ps_if (pt_cmpR op_ne (pe_ix ix_list (pv 6) pe_int (fun _ _ => rfl)) (pe_ix ix_list (pv 8) pe_int (fun _ _ => rfl)) (nomark _)) (pss_cons (ps_set (i := 7) sc_law_plan.nd rfl (Or.inl rfl) (pe_callTy call_tuple_of (by rfl) B.m_tuple (by decide +kernel) (pa_cons (pe_lc (own := [("at", 5)]) (g := (gName 5)) (tt := tYes) (te := (tCall (spLTerm K) [] E0 (tCons (tVar 0) (tCons (tOp (rIxL K) (tVar 8) (tC (.int 1))) tNil)))) rfl sc_law_plan.nd (pi_range1 (by rfl) B.m_range (pa_cons (pe_ix ix_list (pv 6) pe_int (fun _ _ => rfl)) pa_nil)) (blkOk_by (own := [("at", 5)]) (N := N_law_plan) (sc := defScope s_law_plan) (by decide +kernel)) (fun _ _ _ _ _ => (pg_name (i := 5) sc_law_plan.nd rfl (Or.inl rfl))) (fun _ _ _ _ _ => pts_nil) (fun _ _ _ _ _ => (pe_def D_law_term (hr.mono (by first | decide | omega)) (by rfl) (pa_cons (pv 0) (pa_cons (pe_ix ix_list (pv 8) pe_int (fun _ _ => rfl)) pa_nil))))) pa_nil)))
      (pss_one (ps_set (i := 8) sc_law_plan.nd rfl (Or.inr rfl) (pe_lst (pa_cons (pe_tup (pa_cons pe_str (pa_cons (pe_ix ix_list (pv 8) pe_int (fun _ _ => rfl)) (pa_cons (pv 7) pa_nil)))) (pa_cons (pe_ix ix_list (pv 6) pe_int (fun _ _ => rfl)) pa_nil)))))) pss_nil)
      (pss_one (ps_ret (pe_lst (pa_cons (pe_tup (pa_cons (pe_ix ix_tup (pe_tup (pa_cons pe_str (pa_cons pe_str pa_nil))) (pe_op op_sub (pe_callTy call_int1 (by rfl) B.m_int (by decide +kernel) (pa_cons (pv 4) pa_nil)) pe_int) (fun _ _ => rfl)) (pa_cons (pe_ix ix_list (pv 6) pe_int (fun _ _ => rfl)) (pa_cons (pe_ix ix_list (pv 8) pe_int (fun _ _ => rfl)) pa_nil)))) (pa_cons (pe_ix ix_list (pv 6) pe_int (fun _ _ => rfl)) pa_nil)))))))))))))), ?_⟩
    refine ⟨.ref p, rfl, .int d, rfl, _, _, rfl, rfl, .inr ⟨_, rfl, _, _, rfl, rfl, p, _, rfl, hp, ?_, ?_, fun H1 way s1 p1 w0 w1 => ?_⟩⟩
    · split <;> omega
    · split <;> omega
    have t1 := ht.sb n1 n2 s1
    refine ⟨.int d, rfl, rfl, _, rfl, ite2 (fun z => iteT ?tab1) (fun z => ⟨.int way, rfl, rfl, _, rfl, ite2 (fun z2 => ?tab2) (fun z2 => ?rest)⟩)⟩
    case rest =>
      obtain ⟨d', rfl⟩ : ∃ d', d = d' + 1 := by
        cases d with
        | zero => exact absurd (by simp) z
        | succ d' => exact ⟨d', rfl⟩
      have hsub : ((d' + 1 : Nat) : Int) - 1 = (d' : Int) := by omega
      have hdp : dpD d' + 2 = dpD (d' + 1) := by unfold dpD; omega
      have hbt : btD d' + smD d' + 111 + (smD d' + 13) + 111 = btD (d' + 1) := rfl
      have hsm : (smD d' + 13) + (smD d' + 13) + 13 = smD (d' + 1) := rfl
      have hmn : bin (mnD d') (mnD d') = mnD (d' + 1) := rfl
      have hm4 := mn_four d'
      have hmn2 : mnD d' ≤ mnD (d' + 1) := by rw [← hmn]; unfold bin; omega
      refine ⟨.ref p, rfl, .int (d' + 1 : Nat), rfl, _, _, rfl, rfl, .ref nm, rfl, .ref wd, rfl, p, nm, wd, d', ns, ws, W, (by show [V.ref p, V.int (((d' + 1 : Nat) : Int) - 1), .ref nm, .ref wd] = _; rw [hsub]), p1, t1, n1, n2, by omega, fun H2 la pl lw s2 p2 hla dl => ?_⟩
      have s02 := s1.trans s2
      obtain ⟨v, hla1, hv⟩ := id hla
      have lw6 := dl.few
      refine ⟨.int way, rfl, _, _, rfl, rfl, _, rfl, ite2 (fun z1 => ?_) (fun z1 => ?_)⟩
      · -- one sub-plan: distinct, group, top
        have hw3 : way < 3 := of_decide_eq_true z1
        refine ⟨.ref p, rfl, by show 3 ≤ sizeLine; decide, fun t0 ht0 => ?_⟩
        have e0 := same_upd (o := .tup [V.str "distinct", .str "group", .str "top"]) ht0
        obtain ⟨k, hk4, hk1, hat⟩ : ∃ k : Nat, k < 4 ∧ k ≠ 1 ∧ atI [V.str "distinct", .str "group", .str "top"] way = some (.str (kindS k)) := by
          have : way = 0 ∨ way = 1 ∨ way = 2 := by omega
          rcases this with rfl | rfl | rfl
          · exact ⟨0, by decide, by decide, atI_nat (j := 0) rfl⟩
          · exact ⟨2, by decide, by decide, atI_nat (j := 1) rfl⟩
          · exact ⟨3, by decide, by decide, atI_nat (j := 2) rfl⟩
        refine ⟨.int way, rfl, .inl ⟨_, rfl, t0, _, _, _, rfl, rfl, SqT.of upd_same, hat, .ref la, rfl, p, la, k, pl, lw, W, ns, _, _, _, _, rfl, hk4, hk1, p2.same e0, hla.same e0, dl, fun H3 b pl' w' s3 p3 hb dr => ?_⟩⟩
        exact q _ b pl' w' (s02.trans (e0.b.trans s3)) p3 hb (dr.mono (by omega) hmn2 (by omega) (by omega))
      refine ⟨.int way, rfl, rfl, _, rfl, ite2 (fun z3 => ?_) (fun z3 => ?_)⟩
      · -- choose
        refine ⟨.ref la, rfl, la, _, _, v, rfl, rfl, SqL.of hla1, atI_nat (j := 0) rfl, .ref p, rfl, .ref la, rfl, la, _, _, .int lw, rfl, rfl, SqL.of hla1, atI_nat (j := 1) rfl, p, lw, rfl, p2, by omega, fun H3 v2 ts s3 p3 hts l3 ok3 => ⟨by show 3 ≤ sizeLine; decide, fun t ht0 => ?_⟩⟩
        have e1 := same_upd (o := .tup [V.str "choose", v, v2]) ht0
        have hla3 := (hla.sb p2 s3).same e1
        have d1 : Da K (L2.upd H3 t (.tup [V.str "choose", v, v2])) (.ref t) (plD (.choose ts pl)) := .tup upd_same (.cons (.str _) (.cons (Da.same e1 _ _ (Da.st (p2.st s3) _ _ (imm_pl pl) hv)) (.cons (Da.same e1 _ _ hts) .nil)))
        have p4 := p3.same e1
        generalize L2.upd H3 t (.tup [V.str "choose", v, v2]) = H4 at e1 hla3 d1 p4 ⊢
        obtain ⟨v', hla4, _⟩ := hla3
        refine ⟨.ref la, rfl, la, _, _, .int lw, rfl, rfl, SqL.of hla4, atI_nat (j := 1) rfl, by show 2 ≤ sizeLine; decide, fun b hb => ?_⟩
        have e2 := same_upd (o := .lst [V.ref t, .int lw]) hb
        exact q _ b (.choose ts pl) lw (s02.trans (s3.trans (e1.trans e2).b)) (p4.same e2) ⟨_, upd_same, Da.same e2 _ _ d1⟩ ((dl.choose l3 ok3).mono (by omega) hmn2 (by omega) (by omega))
      refine ⟨.int way, rfl, rfl, _, rfl, ite2 (fun z4 => ?_) (fun z4 => ?_)⟩
      · -- map
        refine ⟨.ref p, rfl, .ref la, rfl, la, _, _, .int lw, rfl, rfl, SqL.of hla1, atI_nat (j := 1) rfl, p, lw, rfl, p2, by omega, fun H3 v2 ts s3 p3 hts l3 ok3 => ?_⟩
        obtain ⟨v', hla3, hv3⟩ := hla.sb p2 s3
        obtain ⟨ta, txs, rfl, hta, htx⟩ := Da.tsI hts
        have htl : txs.length = ts.length := by rw [htx.length, List.length_map]
        refine ⟨.ref la, rfl, la, _, _, v', rfl, rfl, SqL.of hla3, atI_nat (j := 0) rfl, .ref ta, rfl, by show 3 ≤ sizeLine; decide, fun t ht0 => ?_⟩
        have e1 := same_upd (o := .tup [V.str "map", v', .ref ta]) ht0
        have d1 : Da K (L2.upd H3 t (.tup [V.str "map", v', .ref ta])) (.ref t) (plD (.map ts pl)) := .tup upd_same (.cons (.str _) (.cons (Da.same e1 _ _ hv3) (.cons (Da.same e1 _ _ hts) .nil)))
        refine ⟨.ref ta, rfl, ta, txs, rfl, .inr (SqT.of (e1 _ _ hta)), by show 2 ≤ sizeLine; decide, fun b hb => ?_⟩
        have e2 := same_upd (o := .lst [V.ref t, .int txs.length]) hb
        refine q _ b (.map ts pl) ts.length (s02.trans (s3.trans (e1.trans e2).b)) (p3.same (e1.trans e2)) ⟨_, by rw [upd_same, htl], Da.same e2 _ _ d1⟩ ((dl.map (by omega) ok3).mono (by omega) hmn2 (by omega) (by omega))
      -- two sub-plans
      have t2 := t1.sb n1 n2 s2
      refine ⟨.ref p, rfl, .int (d' + 1 : Nat), rfl, _, _, rfl, rfl, .ref nm, rfl, .ref wd, rfl, p, nm, wd, d', ns, ws, W, (by show [V.ref p, V.int (((d' + 1 : Nat) : Int) - 1), .ref nm, .ref wd] = _; rw [hsub]), p2, t2, n1, n2, by omega, fun H3 ra pr rw' s3 p3 hra dr => ?_⟩
      have hla := hla.sb p2 s3
      have s03 := s02.trans s3
      have rw6 := dr.few
      refine ⟨.int way, rfl, _, _, rfl, rfl, _, rfl, ite2 (fun z5 => ?_) (fun z5 => ?_)⟩
      · -- join
        refine ⟨.ref p, rfl, .ref la, rfl, p, la, pl, lw, W, ns, _, _, _, _, rfl, p3, hla, dl, fun H4 la2 pl2 lw2 s4 p4 hla2 dl2 lw3 => ?_⟩
        refine ⟨.ref p, rfl, .ref ra, rfl, p, ra, pr, rw', W, ns, _, _, _, _, rfl, p4, hra.sb p3 s4, dr, fun H5 ra2 pr2 rw2 s5 p5 hra2 dr2 rw3 => ?_⟩
        have hla5 := hla2.sb p4 s5
        obtain ⟨v1, hl5, hv1⟩ := id hla5
        obtain ⟨v2, hr5, hv2⟩ := id hra2
        refine ⟨.ref p, rfl, .ref la2, rfl, la2, _, _, .int lw2, rfl, rfl, SqL.of hl5, atI_nat (j := 1) rfl, .ref ra2, rfl, ra2, _, _, .int rw2, rfl, rfl, SqL.of hr5, atI_nat (j := 1) rfl, p, lw2, rw2, rfl, p5, by omega, by omega, fun H6 vc cols s6 p6 hc lc okc => ?_⟩
        obtain ⟨v1', hl6, hv6⟩ := hla5.sb p5 s6
        obtain ⟨v2', hr6, hv7⟩ := hra2.sb p5 s6
        have a0 : ¬ way < 3 := fun e => z1 (decide_eq_true e)
        have a3 : ¬ way = 3 := fun e => z3 (decide_eq_true (by rw [e]))
        have a4 : ¬ way = 4 := fun e => z4 (decide_eq_true (by rw [e]))
        have a7 : way < 7 := of_decide_eq_true z5
        have hway : way = 5 ∨ way = 6 := by omega
        refine ⟨.ref la2, rfl, la2, _, _, .int lw2, rfl, rfl, SqL.of hl6, atI_nat (j := 1) rfl, .ref ra2, rfl, ra2, _, _, .int rw2, rfl, rfl, SqL.of hr6, atI_nat (j := 1) rfl, .int way, rfl, rfl, .inr ⟨_, rfl, _, _, rfl, rfl, .inr ⟨?_, ?_⟩, _, _, rfl, rfl, ?_⟩⟩
        · split <;> decide
        · split <;> decide
        refine ⟨by show 2 ≤ sizeLine; decide, fun t0 ht0 => ?_⟩
        have e0 := same_upd (o := .tup [V.str "without", .str "join"]) ht0
        have ht00 := upd_same (H := H6) (a := t0) (o := .tup [V.str "without", .str "join"])
        have hl7 := e0 _ _ hl6
        have hr7 := e0 _ _ hr6
        have hv6 := Da.same e0 _ _ hv6
        have hv7 := Da.same e0 _ _ hv7
        have hc := Da.same e0 _ _ hc
        generalize L2.upd H6 t0 (.tup [V.str "without", .str "join"]) = H7 at e0 ht00 hl7 hr7 hv6 hv7 hc ⊢
        rcases hway with rfl | rfl
        · refine ⟨.int 5, rfl, .inl ⟨_, rfl, _, _, rfl, rfl, t0, _, _, .str "without", rfl, rfl, SqT.of ht00, atI_nat (j := 0) rfl, ?_⟩⟩
          refine ⟨.ref la2, rfl, la2, _, _, v1', rfl, rfl, SqL.of hl7, atI_nat (j := 0) rfl, .ref ra2, rfl, ra2, _, _, v2', rfl, rfl, SqL.of hr7, atI_nat (j := 0) rfl, vc, rfl, by show 4 ≤ sizeLine; decide, fun t ht0 => ?_⟩
          have e1 := same_upd (o := .tup [V.str "without", v1', v2', vc]) ht0
          have d1 : Da K (L2.upd H7 t (.tup [V.str "without", v1', v2', vc])) (.ref t) (plD (.without cols pl2 pr2)) := .tup upd_same (.cons (.str _) (.cons (Da.same e1 _ _ hv6) (.cons (Da.same e1 _ _ hv7) (.cons (Da.same e1 _ _ hc) .nil))))
          refine ⟨_, rfl, by show 2 ≤ sizeLine; decide, fun b hb => ?_⟩
          have e2 := fun o => same_upd (o := .lst [V.ref t, o]) hb
          refine q _ b (.without cols pl2 pr2) lw2 (s03.trans (s4.trans (s5.trans (s6.trans ((e0.trans e1).trans (e2 _)).b)))) (p6.same ((e0.trans e1).trans (e2 _))) ⟨_, ?_, Da.same (e2 _) _ _ d1⟩ ((dl2.without dr2 lc okc).mono (by omega) (by rw [← hmn]; unfold bin; omega) (by omega) (by omega))
          rw [upd_same]
          simp
        · refine ⟨.int 6, rfl, .inl ⟨_, rfl, _, _, rfl, rfl, t0, _, _, .str "join", rfl, rfl, SqT.of ht00, atI_nat (j := 1) rfl, ?_⟩⟩
          refine ⟨.ref la2, rfl, la2, _, _, v1', rfl, rfl, SqL.of hl7, atI_nat (j := 0) rfl, .ref ra2, rfl, ra2, _, _, v2', rfl, rfl, SqL.of hr7, atI_nat (j := 0) rfl, vc, rfl, by show 4 ≤ sizeLine; decide, fun t ht0 => ?_⟩
          have e1 := same_upd (o := .tup [V.str "join", v1', v2', vc]) ht0
          have d1 : Da K (L2.upd H7 t (.tup [V.str "join", v1', v2', vc])) (.ref t) (plD (.join cols pl2 pr2)) := .tup upd_same (.cons (.str _) (.cons (Da.same e1 _ _ hv6) (.cons (Da.same e1 _ _ hv7) (.cons (Da.same e1 _ _ hc) .nil))))
          refine ⟨_, rfl, by show 2 ≤ sizeLine; decide, fun b hb => ?_⟩
          have e2 := fun o => same_upd (o := .lst [V.ref t, o]) hb
          refine q _ b (.join cols pl2 pr2) (lw2 + rw2) (s03.trans (s4.trans (s5.trans (s6.trans ((e0.trans e1).trans (e2 _)).b)))) (p6.same ((e0.trans e1).trans (e2 _))) ⟨_, ?_, Da.same (e2 _) _ _ d1⟩ ((dl2.join dr2 lc okc (by omega)).mono (by omega) (Nat.le_of_eq hmn) (by omega) (by omega))
          rw [upd_same]
          simp
      -- plus, less
      obtain ⟨v, hla3, hv3⟩ := id hla
      obtain ⟨v2, hra3, hv23⟩ := id hra
      refine ⟨fun σ' H' => ∃ (y5 y7 : Option V) (ra2 : Addr) (pr2 : Pl), σ' = [some (.ref p), some (.int (d' + 1 : Nat)), some (.ref nm), some (.ref wd), some (.int way), y5, some (.ref la), y7, some (.ref ra2), none, none] ∧ PtAt K H' ra2 pr2 lw ∧ Dr W ns (dpD d' + 1) (mnD d') (btD d' + smD d' + 111) (smD d' + 13) pr2 lw ∧ SameB p H3 H' ∧ PurseAt H' p, ?_, ?_⟩
      · refine ⟨.ref la, rfl, la, _, _, .int lw, rfl, rfl, SqL.of hla3, atI_nat (j := 1) rfl, .ref ra, rfl, ra, _, _, .int rw', rfl, rfl, SqL.of hra3, atI_nat (j := 1) rfl, rfl, _, rfl, ?_⟩
        by_cases hlr : lw = rw'
        · subst hlr
          exact iteD rfl ⟨_, _, ra, pr, rfl, hra, dr.mono (by omega) (Nat.le_refl _) (by omega) (by omega), SameB.refl _ _, p3⟩
        · rw [show (!decide (V.int (lw : Int) = V.int (rw' : Int))) = true by simp; omega]
          refine iteT ⟨.ref la, rfl, la, _, _, .int lw, rfl, rfl, SqL.of hla3, atI_nat (j := 1) rfl, lw, rfl, by omega, by omega, fun D hD => ?_⟩
          have npD : p ≠ D := p3.ne hD
          refine lc_range (lo := 0) (n := lw) (fun j H2 => ∃ (acc : List V) (ts : List Tm), ts.length = j ∧ (∀ t ∈ ts, TmOk rw' t) ∧ H2 D = some (.lst acc) ∧ DaAll K H2 acc (ts.map tmD) ∧ (∀ b o, b ≠ p → H3 b = some o → H2 b = some o) ∧ PurseAt H2 p) ⟨[], [], rfl, (fun x hx => nomatch hx), upd_same, .nil, (fun b o _ ho => by rw [upd_ne (ne_of_none ho hD)]; exact ho), p3.upd npD⟩ (fun j H4 hj pv => ?_) (fun H4 pv => ?_)
          · obtain ⟨acc, ts, hl, hok, eD, hacc, e2, pu⟩ := pv
            refine ⟨rfl, .ref p, rfl, .ref ra, rfl, ra, _, _, .int rw', rfl, rfl, SqL.of (e2 _ _ (hra.ne p3) hra3), atI_nat (j := 1) rfl, p, rw', rfl, pu, by omega, fun H5 v x s5 p5 hv hx => ?_⟩
            have eD5 := s5 _ _ npD.symm eD
            have st : ST K H5 (L2.upd H5 D (.lst (acc ++ [v]))) := st_upd eD5 True.intro
            have la : acc.length = ts.length := by rw [hacc.length, List.length_map]
            refine ⟨acc, eD5, Nat.lt_of_le_of_lt (show acc.length ≤ 6 by omega) (by decide), acc ++ [v], ts ++ [x], by simp [hl], fun y hy => ?_, upd_same, ?_, fun b o nb ho => ?_, p5.upd npD⟩
            · rcases List.mem_append.mp hy with hy | hy
              · exact hok y hy
              · rw [List.mem_singleton.mp hy]
                exact hx
            · rw [List.map_append]
              exact DaAll.snoc (Da.st st _ _ (imm_tm x) hv) (Da.stAll st _ _ (imm_tms ts) (Da.stAll (pu.st s5) _ _ (imm_tms ts) hacc))
            · rw [upd_ne (ne_of_none ho hD)]
              exact s5 _ _ nb (e2 _ _ nb ho)
          · obtain ⟨acc, ts, hl, hok, eD, hacc, e2, pu⟩ := pv
            refine ⟨D, acc, rfl, .inl ⟨SqL.of eD, fun t1 ht1 => ?_⟩⟩
            have s4 : SameB p H3 H4 := e2
            have e3 := same_upd (o := .tup acc) ht1
            have d3 : Da K (L2.upd H4 t1 (.tup acc)) (.ref t1) (tsD ts) := .tup upd_same (Da.sameAll e3 _ _ hacc)
            have v3 := Da.same e3 _ _ (Da.st (p3.st s4) _ _ (imm_pl pr) hv23)
            refine ⟨.ref ra, rfl, ra, _, _, v2, rfl, rfl, SqL.of (e3 _ _ (e2 _ _ (hra.ne p3) hra3)), atI_nat (j := 0) rfl, .ref t1, rfl, by show 3 ≤ sizeLine; decide, fun t2 ht2 => ?_⟩
            have e4 := same_upd (o := .tup [V.str "map", v2, .ref t1]) ht2
            have d4 : Da K (L2.upd (L2.upd H4 t1 (.tup acc)) t2 (.tup [V.str "map", v2, .ref t1])) (.ref t2) (plD (.map ts pr)) := .tup upd_same (.cons (.str _) (.cons (Da.same e4 _ _ v3) (.cons (Da.same e4 _ _ d3) .nil)))
            refine ⟨.ref la, rfl, la, _, _, .int lw, rfl, rfl, SqL.of (e4 _ _ (e3 _ _ (e2 _ _ (hla.ne p3) hla3))), atI_nat (j := 1) rfl, by show 2 ≤ sizeLine; decide, fun b hb => ?_⟩
            have e5 := same_upd (o := .lst [V.ref t2, .int lw]) hb
            have hdr := dr.map (by omega) hok
            rw [hl] at hdr
            exact ⟨_, _, b, .map ts pr, rfl, ⟨.ref t2, upd_same, Da.same e5 _ _ d4⟩, hdr, s4.trans ((e3.trans e4).trans e5).b, pu.same ((e3.trans e4).trans e5)⟩
      rintro σ' H4 ⟨y5, y7, ra2, pr2, rfl, hra2, dr2, s4, p4⟩
      obtain ⟨vl, hl4, hvl⟩ := hla.sb p3 s4
      obtain ⟨vr, hr4, hvr⟩ := id hra2
      have dl2 : Dr W ns (dpD d' + 1) (mnD d') (btD d' + smD d' + 111) (smD d' + 13) pl lw := dl.mono (by omega) (Nat.le_refl _) (by omega) (by omega)
      obtain ⟨dplus, dless⟩ := dl2.plus dr2
      have hway : way = 7 ∨ way = 8 := by
        have a2 : ¬ way < 7 := fun e => z5 (decide_eq_true e)
        have a5 : ¬ way = 9 := fun e => z2 (decide_eq_true (by rw [e]))
        have : way < 10 := by
          split at w1 <;> omega
        omega
      refine ⟨by show 2 ≤ sizeLine; decide, fun t0 ht0 => ?_⟩
      have e0 := same_upd (o := .tup [V.str "plus", .str "less"]) ht0
      have hat : ∃ kd : Str, atI [V.str "plus", .str "less"] (way - 7) = some (.str kd) ∧ ∃ pl3 : Pl, Dr W ns (dpD d' + 1 + 1) (bin (mnD d') (mnD d')) (btD d' + smD d' + 111 + (smD d' + 13) + 111) (smD d' + 13 + (smD d' + 13) + 13) pl3 lw ∧ plD pl3 = .tuple [.str kd, plD pl, plD pr2] := by
        rcases hway with rfl | rfl
        · exact ⟨"plus", atI_nat (j := 0) rfl, _, dplus, rfl⟩
        · exact ⟨"less", atI_nat (j := 1) rfl, _, dless, rfl⟩
      obtain ⟨kd, hkd, pl3, hd3, hpl3⟩ := hat
      refine ⟨.int way, rfl, .inl ⟨_, rfl, _, _, rfl, rfl, t0, _, _, .str kd, rfl, rfl, SqT.of upd_same, hkd, ?_⟩⟩
      refine ⟨.ref la, rfl, la, _, _, vl, rfl, rfl, SqL.of (e0 _ _ hl4), atI_nat (j := 0) rfl, .ref ra2, rfl, ra2, _, _, vr, rfl, rfl, SqL.of (e0 _ _ hr4), atI_nat (j := 0) rfl, by show 3 ≤ sizeLine; decide, fun t ht0 => ?_⟩
      have e1 := same_upd (o := .tup [V.str kd, vl, vr]) ht0
      have e01 := e0.trans e1
      have d1 : Da K (L2.upd (L2.upd H4 t0 (.tup [V.str "plus", .str "less"])) t (.tup [V.str kd, vl, vr])) (.ref t) (plD pl3) := by
        rw [hpl3]
        exact .tup upd_same (.cons (.str _) (.cons (Da.same e01 _ _ hvl) (.cons (Da.same e01 _ _ hvr) .nil)))
      refine ⟨.ref la, rfl, la, _, _, .int lw, rfl, rfl, SqL.of (e01 _ _ hl4), atI_nat (j := 1) rfl, by show 2 ≤ sizeLine; decide, fun b hb => ?_⟩
      have e2 := same_upd (o := .lst [V.ref t, .int lw]) hb
      exact q _ b pl3 lw (s03.trans (s4.trans (e01.trans e2).b)) (p4.same (e01.trans e2)) ⟨_, upd_same, Da.same e2 _ _ d1⟩ (hd3.mono (by omega) (Nat.le_of_eq hmn) (by omega) (by omega))
    all_goals (
      refine ⟨.ref p, rfl, .ref nm, rfl, nm, _, rfl, .inl (SqL.of t1.n), p, _, rfl, p1, by rw [List.length_map, t1.l]; decide, by rw [List.length_map, t1.l]; decide, fun H2 i s2 p2 i0 i1 => ?_⟩
      rw [List.length_map, t1.l] at i1
      have t2 := t1.sb n1 n2 s2
      obtain ⟨j, rfl⟩ := Int.eq_ofNat_of_zero_le i0
      have hj1 : j < ns.length := by rw [t1.l]; omega
      have hj2 : j < ws.length := by rw [t1.l2]; omega
      have hW := t1.at' j ns[j] ws[j] (List.getElem?_eq_getElem hj1) (List.getElem?_eq_getElem hj2)
      have hk3 := t1.few ws[j] (List.getElem_mem hj2)
      have hin : ns[j] ∈ ns := List.getElem_mem hj1
      have hat1 : atI (ns.map V.str) (j : Int) = some (.str ns[j]) := atI_nat (by rw [List.getElem?_map, List.getElem?_eq_getElem hj1]; rfl)
      have hat2 : atI (ws.map fun k : Nat => V.int k) (j : Int) = some (.int ws[j]) := atI_nat (by rw [List.getElem?_map, List.getElem?_eq_getElem hj2]; rfl)
      generalize ns[j] = x at hW hin hat1 ⊢
      generalize ws[j] = k at hW hk3 hat2 ⊢
      refine ⟨.ref nm, rfl, .int (j : Nat), rfl, nm, _, _, .str x, rfl, rfl, SqL.of t2.n, hat1, by show 2 ≤ sizeLine; decide, fun t ht0 => ?_⟩
      have e1 := same_upd (o := .tup [V.str "table", .str x]) ht0
      refine ⟨.ref wd, rfl, .int (j : Nat), rfl, wd, _, _, .int k, rfl, rfl, SqL.of (e1 _ _ t2.w), hat2, by show 2 ≤ sizeLine; decide, fun b hb => ?_⟩
      have e2 := same_upd (o := .lst [V.ref t, .int k]) hb
      have d1 : Da K (L2.upd H2 t (.tup [V.str "table", .str x])) (.ref t) (plD (.tab x)) := .tup upd_same (.cons (.str _) (.cons (.str _) .nil))
      refine q _ b (.tab x) k (s1.trans (s2.trans (e1.trans e2).b)) (p2.same (e1.trans e2)) ⟨_, upd_same, Da.same e2 _ _ d1⟩ ⟨trivial, fun y hy => by rw [List.mem_singleton.mp hy]; exact hin, ?_, mn_four d, ?_, sm_110 d, ?_, hW, by omega⟩
      · show 1 ≤ 1 + 2 * d
        omega
      · exact bt_103 d
      · show W x ≤ 100
        omega)
end
end K18

namespace K18
open PySem PySem.Spec PyProof.Rows L2 RW9 Tl
/-! ### the tables of a plan, as they are drawn -/
def Plain : HO → Prop
  | .lst _ => True
  | .dK _ => True
  | _ => False
section
variable {K : PySem.W.Frag} {C : Addr} {H H' : Hp} {F a p dx c : Addr} {o : HO} {ps L : Tly}
theorem TalAt.mv (h : TalAt H c L) (e : SameB F H H') (hF : H F = some o) (ho : Plain o) : TalAt H' c L :=
  ⟨e _ _ (fun z => by have := h.at'; rw [z, hF] at this; cases this; cases ho) h.at', h.nd, h.len⟩
theorem BagR.mv (h : BagR K C H p dx c L) (e : SameB F H H') (hF : H F = some o) (ho : Plain o) : BagR K C H' p dx c L :=
  ⟨e _ _ (fun z => by have := h.ins; rw [z, hF] at this; cases this; cases ho) h.ins, h.tal.mv e hF ho, h.fin⟩
theorem PairsAt.mv (h : PairsAt H a ps) (e : SameB F H H') (hF : H F = some o) (ho : Plain o) (n : a ≠ F) : PairsAt H' a ps := by
  obtain ⟨acc, h1, h2⟩ := h
  have st : ∀ t us, H t = some (.tup us) → H' t = some (.tup us) := fun t us ht => e _ _ (fun z => by
    rw [z, hF] at ht
    cases ht
    cases ho) ht
  exact ⟨acc, e _ _ n h1, Paired.mapP h2 fun v q h => h.st st⟩
theorem PairsAt.neK {kvs : List (L2.Key × V)} (h : PairsAt H a ps) (hF : H F = some (.dK kvs)) : a ≠ F := by
  obtain ⟨acc, h1, _⟩ := h
  exact ne_of h1 hF (fun z => nomatch z)
theorem PairsAt.neL {vs : List V} (h : PairsAt H a ps) (hF : H F = some (.lst vs)) (hv : vs ≠ []) (hr : ∀ v ∈ vs, ∀ t, v ≠ .ref t) : a ≠ F := by
  rintro rfl
  obtain ⟨acc, h1, h2⟩ := h
  obtain rfl : acc = vs := by
    rw [h1] at hF
    cases hF
    rfl
  cases h2 with
  | nil => exact hv rfl
  | cons h t =>
    obtain ⟨t, b, rfl, _⟩ := h
    exact hr _ (List.mem_cons_self ..) t rfl
theorem PairsAt.neP {q : Addr} (h : PairsAt H a ps) (hp : PurseAt H q) : a ≠ q := by
  obtain ⟨x, y, z, h2, _⟩ := hp
  exact h.neL h2 (by simp) (fun v hv t e => by
    subst e
    simp at hv)
theorem keys_in {kvs : List (L2.Key × V)} {k : L2.Key} {v : V} (h : k ∈ kvs.map (·.1)) : (putK kvs k v).map (·.1) = kvs.map (·.1) := by
  have ha : (kvs.any fun kv => decide (kv.1 = k)) = true := by
    obtain ⟨q, hq, e⟩ := List.mem_map.mp h
    exact List.any_eq_true.mpr ⟨q, hq, decide_eq_true e⟩
  unfold putK
  rw [if_pos ha, List.map_map]
  refine List.map_congr_left fun q _ => ?_
  show (if q.1 = k then (q.1, v) else q).1 = q.1
  split <;> rfl
theorem keys_new {kvs : List (L2.Key × V)} {k : L2.Key} {v : V} (h : k ∉ kvs.map (·.1)) : (putK kvs k v).map (·.1) = kvs.map (·.1) ++ [k] := by
  have ha : ¬ (kvs.any fun kv => decide (kv.1 = k)) = true := fun z => by
    obtain ⟨q, hq, e⟩ := List.any_eq_true.mp z
    exact h (List.mem_map.mpr ⟨q, hq, of_decide_eq_true e⟩)
  unfold putK
  rw [if_neg ha, List.map_append]
  rfl
theorem val_none {kvs : List (L2.Key × V)} {k : L2.Key} : valV kvs k = none ↔ k ∉ kvs.map (·.1) := by
  have h := valV_any k kvs
  constructor
  · intro e hm
    obtain ⟨q, hq, e2⟩ := List.mem_map.mp hm
    rw [List.any_eq_true.mpr ⟨q, hq, decide_eq_true e2⟩, e] at h
    cases h
  · intro hm
    cases e : valV kvs k with
    | none => rfl
    | some x =>
      rw [e] at h
      obtain ⟨q, hq, e2⟩ := List.any_eq_true.mp h
      exact absurd (List.mem_map.mpr ⟨q, hq, of_decide_eq_true e2⟩) hm
/-- the dicts of lists and of bags, over the names that are drawn -/
structure Tc (K : PySem.W.Frag) (C : Addr) (H : Hp) (D1 D2 : Addr) (ns : List Str) (ws : List Nat) (kl kb : List (L2.Key × V)) (ks : List Str) (env : Str → Tly) (W : Str → Nat) : Prop where
  l : H D1 = some (.dK kl)
  b : H D2 = some (.dK kb)
  len : ns.length = ws.length
  few : ∀ k ∈ ws, k ≤ 3
  at' : ∀ (j : Nat) (x : Str) (k : Nat), ns[j]? = some x → ws[j]? = some k → W x = k
  E : EnvOk W env
  dl : ∀ x ∈ ns, DicL H kl env x
  db : ∀ x ∈ ns, DicB K C H kb env x
  kl : kl.map (·.1) = ks.map Sum.inr
  kb : kb.map (·.1) = ks.map Sum.inr
  nd : ks.Nodup
  ksn : ∀ x ∈ ks, x ∈ ns
  out : ∀ x, x ∉ ns → env x = []
variable {D1 D2 : Addr} {ns : List Str} {ws : List Nat} {kl kb : List (L2.Key × V)} {ks : List Str} {env : Str → Tly} {W : Str → Nat}
theorem Tc.mv (t : Tc K C H D1 D2 ns ws kl kb ks env W) (e : SameB F H H') (hF : H F = some o) (ho : Plain o) (n1 : D1 ≠ F) (n2 : D2 ≠ F) (hl : ∀ x ∈ ns, ∀ a D, PairsAt H a D → a ≠ F) : Tc K C H' D1 D2 ns ws kl kb ks env W :=
  ⟨e _ _ n1 t.l, e _ _ n2 t.b, t.len, t.few, t.at', t.E, fun x hx => (t.dl x hx).imp (fun ⟨a, D, h1, h2, h3⟩ => ⟨a, D, h1, h2.mv e hF ho (hl x hx a D h2), h3⟩) id,
    fun x hx => (t.db x hx).imp (fun ⟨p, dx, c, T, h1, h2, h3⟩ => ⟨p, dx, c, T, h1, h2.mv e hF ho, h3⟩) id, t.kl, t.kb, t.nd, t.ksn, t.out⟩
theorem Tc.same (t : Tc K C H D1 D2 ns ws kl kb ks env W) (e : Same H H') : Tc K C H' D1 D2 ns ws kl kb ks env W :=
  ⟨e _ _ t.l, e _ _ t.b, t.len, t.few, t.at', t.E, fun x hx => (t.dl x hx).same e, fun x hx => (t.db x hx).same e, t.kl, t.kb, t.nd, t.ksn, t.out⟩
theorem Tc.sb {q : Addr} (t : Tc K C H D1 D2 ns ws kl kb ks env W) (hp : PurseAt H q) (e : SameB q H H') : Tc K C H' D1 D2 ns ws kl kb ks env W := by
  have hp' := hp
  obtain ⟨x, y, z, h2, _⟩ := hp
  exact t.mv e h2 trivial (ne_of t.l h2 (fun z => nomatch z)) (ne_of t.b h2 (fun z => nomatch z)) fun x _ a D h => h.neP hp'
/-- the dict's entry is there exactly for the keys -/
theorem Tc.valL (t : Tc K C H D1 D2 ns ws kl kb ks env W) (x : Str) : valV kl (.inr x) = none ↔ x ∉ ks := by
  rw [val_none, t.kl]
  simp
theorem Tc.valB (t : Tc K C H D1 D2 ns ws kl kb ks env W) (x : Str) : valV kb (.inr x) = none ↔ x ∉ ks := by
  rw [val_none, t.kb]
  simp
theorem Tc.getL (t : Tc K C H D1 D2 ns ws kl kb ks env W) {x : Str} (hx : x ∈ ks) : ∃ a D, valV kl (.inr x) = some (.ref a) ∧ PairsAt H a D ∧ Fin D ∧ SortL D ∧ D.Perm (env x) :=
  (t.dl x (t.ksn x hx)).resolve_right fun z => ((t.valL x).mp z.1) hx
theorem Tc.getB (t : Tc K C H D1 D2 ns ws kl kb ks env W) {x : Str} (hx : x ∈ ks) : ∃ p dx c T, valV kb (.inr x) = some (.ref p) ∧ BagR K C H p dx c T ∧ T.Perm (env x) :=
  (t.db x (t.ksn x hx)).resolve_right fun z => ((t.valB x).mp z.1) hx
theorem Tc.lenL (t : Tc K C H D1 D2 ns ws kl kb ks env W) : kl.length ≤ ns.length ∧ kb.length ≤ ns.length := by
  have h := nodup_le ks ns t.nd t.ksn
  have h1 := congrArg List.length t.kl
  have h2 := congrArg List.length t.kb
  simp at h1 h2
  omega
/-- one name more -/
theorem Tc.more (t : Tc K C H D1 D2 ns ws kl kb ks env W) {x : Str} {k : Nat} (hx : x ∉ ns) (hk : k ≤ 3) : Tc K C H D1 D2 (ns ++ [x]) (ws ++ [k]) kl kb ks env (fun y => if y = x then k else W y) := by
  have hks : x ∉ ks := fun h => hx (t.ksn x h)
  refine ⟨t.l, t.b, by rw [List.length_append, List.length_append, t.len]; rfl, fun j hj => ?_, fun j y i h1 h2 => ?_, ⟨fun y => ?_, t.E.fin⟩, fun y hy => ?_, fun y hy => ?_, t.kl, t.kb, t.nd, fun y hy => List.mem_append.mpr (.inl (t.ksn y hy)), fun y hy => t.out y fun z => hy (List.mem_append.mpr (.inl z))⟩
  · rcases List.mem_append.mp hj with h | h
    · exact t.few j h
    · rw [List.mem_singleton.mp h]
      exact hk
  · by_cases hj : j < ns.length
    · rw [List.getElem?_append_left hj] at h1
      rw [List.getElem?_append_left (by rw [← t.len]; exact hj)] at h2
      have hyx : y ≠ x := fun e => hx (e ▸ List.mem_of_getElem? h1)
      show (if y = x then k else W y) = i
      rw [if_neg hyx]
      exact t.at' j y i h1 h2
    · rw [List.getElem?_append_right (by omega)] at h1
      rw [List.getElem?_append_right (by rw [← t.len]; omega)] at h2
      have e1 : j - ns.length = 0 := by
        rcases Nat.eq_zero_or_pos (j - ns.length) with h | h
        · exact h
        · rw [List.getElem?_eq_none (by simp; omega)] at h1
          cases h1
      rw [e1] at h1
      rw [← t.len, e1] at h2
      cases h1
      cases h2
      exact if_pos rfl
  · show Lim (if y = x then k else W y) 4 103 110 (env y)
    by_cases e : y = x
    · rw [if_pos e, e, t.out x hx]
      exact (lim_nil k 103 110).mono (by decide) (Nat.le_refl _) (Nat.le_refl _)
    · rw [if_neg e]
      exact t.E.lim y
  · rcases List.mem_append.mp hy with h | h
    · exact t.dl y h
    · rw [List.mem_singleton.mp h]
      exact .inr ⟨(t.valL x).mpr hks, t.out x hx⟩
  · rcases List.mem_append.mp hy with h | h
    · exact t.db y h
    · rw [List.mem_singleton.mp h]
      exact .inr ⟨(t.valB x).mpr hks, t.out x hx⟩
/-- both dicts get an entry -/
theorem Tc.put (t : Tc K C H D1 D2 ns ws kl kb ks env W) {x : Str} {l q dq cq : Addr} {D T R : Tly} (hx : x ∈ ns) (h1 : PairsAt H' l D) (h2 : Fin D) (h3 : SortL D) (h4 : D.Perm R) (h5 : BagR K C H' q dq cq T) (h6 : T.Perm R) (hR : Fin R) (lR : Lim (W x) 4 103 110 R) (ne : D1 ≠ D2)
    (e : ∀ b o, b ≠ D1 → b ≠ D2 → H b = some o → H' b = some o) (g1 : H' D1 = some (.dK (putK kl (.inr x) (.ref l)))) (g2 : H' D2 = some (.dK (putK kb (.inr x) (.ref q)))) :
    ∃ ks', Tc K C H' D1 D2 ns ws (putK kl (.inr x) (.ref l)) (putK kb (.inr x) (.ref q)) ks' (fun y => if y = x then R else env y) W := by
  have mvT : ∀ t us, H t = some (.tup us) → H' t = some (.tup us) := fun b us hb => e _ _ (ne_of hb t.l (fun z => nomatch z)) (ne_of hb t.b (fun z => nomatch z)) hb
  have mvP : ∀ a D, PairsAt H a D → PairsAt H' a D := fun a D ⟨acc, z1, z2⟩ => ⟨acc, e _ _ (ne_of z1 t.l (fun z => nomatch z)) (ne_of z1 t.b (fun z => nomatch z)) z1, Paired.mapP z2 fun v q h => h.st mvT⟩
  have mvB : ∀ p dx c T, BagR K C H p dx c T → BagR K C H' p dx c T := fun p dx c T h => ⟨e _ _ (ne_of h.ins t.l (fun z => nomatch z)) (ne_of h.ins t.b (fun z => nomatch z)) h.ins, ⟨e _ _ (ne_of h.tal.at' t.l (fun z => nomatch z)) (ne_of h.tal.at' t.b (fun z => nomatch z)) h.tal.at', h.tal.nd, h.tal.len⟩, h.fin⟩
  have hmem : ∀ y : Str, (Sum.inr y : L2.Key) ∈ ks.map Sum.inr ↔ y ∈ ks := fun y => by simp
  refine ⟨if x ∈ ks then ks else ks ++ [x], g1, g2, t.len, t.few, t.at', ⟨fun y => ?_, fun y => ?_⟩, fun y hy => ?_, fun y hy => ?_, ?_, ?_, ?_, fun y hy => ?_, fun y hy => ?_⟩
  · show Lim (W y) 4 103 110 (if y = x then R else env y)
    by_cases e : y = x
    · rw [if_pos e, e]
      exact lR
    · rw [if_neg e]
      exact t.E.lim y
  · show Fin (if y = x then R else env y)
    by_cases e : y = x
    · rw [if_pos e]
      exact hR
    · rw [if_neg e]
      exact t.E.fin y
  · unfold DicL
    rw [valV_put]
    by_cases e : y = x
    · subst e
      dsimp only
      rw [if_pos rfl, if_pos rfl]
      exact .inl ⟨l, D, rfl, h1, h2, h3, h4⟩
    · dsimp only
      rw [if_neg fun z => e (Sum.inr.inj z), if_neg e]
      exact (t.dl y hy).imp (fun ⟨a, D, z1, z2, z3⟩ => ⟨a, D, z1, mvP _ _ z2, z3⟩) id
  · unfold DicB
    rw [valV_put]
    by_cases e : y = x
    · subst e
      dsimp only
      rw [if_pos rfl, if_pos rfl]
      exact .inl ⟨q, dq, cq, T, rfl, h5, h6⟩
    · dsimp only
      rw [if_neg fun z => e (Sum.inr.inj z), if_neg e]
      exact (t.db y hy).imp (fun ⟨p, dx, c, T, z1, z2, z3⟩ => ⟨p, dx, c, T, z1, mvB _ _ _ _ z2, z3⟩) id
  · by_cases h : x ∈ ks
    · rw [keys_in (by rw [t.kl]; exact (hmem x).mpr h), t.kl, if_pos h]
    · rw [keys_new (by rw [t.kl]; exact fun z => h ((hmem x).mp z)), t.kl, if_neg h, List.map_append]
      rfl
  · by_cases h : x ∈ ks
    · rw [keys_in (by rw [t.kb]; exact (hmem x).mpr h), t.kb, if_pos h]
    · rw [keys_new (by rw [t.kb]; exact fun z => h ((hmem x).mp z)), t.kb, if_neg h, List.map_append]
      rfl
  · split
    · exact t.nd
    · rename_i h
      rw [List.nodup_append]
      exact ⟨t.nd, by simp, fun a ha b hb e => h (by rw [← List.mem_singleton.mp hb, ← e]; exact ha)⟩
  · split at hy
    · exact t.ksn y hy
    · rcases List.mem_append.mp hy with h | h
      · exact t.ksn y h
      · rw [List.mem_singleton.mp h]
        exact hx
  · show (if y = x then R else env y) = []
    rw [if_neg fun e => hy (by rw [e]; exact hx)]
    exact t.out y hy
end
end K18

namespace K18
open PySem PySem.Spec PyProof.Rows L2 RW9 Tl
theorem cut_take {α : Type} (l : List α) (f : α → V) : ∃ k, k ≤ 4 ∧ cutV (l.map f) none (some 4) = (l.take k).map f := by
  refine ⟨min 4 l.length, Nat.min_le_left _ _, ?_⟩
  unfold cutV
  show ((l.map f).drop 0).take (HT.sIx _ _ (some ((4 : Nat) : Int)) - 0) = _
  rw [HT.sIx_nat, List.drop_zero, Nat.sub_zero, List.length_map, List.map_take]
theorem cutV_take (l : List V) : ∃ k, k ≤ 4 ∧ cutV l none (some 4) = l.take k := by
  obtain ⟨k, h, e⟩ := cut_take l id
  rw [List.map_id, List.map_id] at e
  exact ⟨k, h, e⟩
theorem takeP {α β : Type} {F : α → β → Prop} : ∀ {l : List α} {m : List β} (k : Nat), Paired F l m → Paired F (l.take k) (m.take k)
  | _, _, 0, _ => .nil
  | _, _, _ + 1, .nil => .nil
  | _, _, k + 1, .cons h t => .cons h (takeP k t)
theorem val_mapS (f : Str → V) (y : Str) : ∀ l : List Str, valV (l.map fun x => ((Sum.inr x : L2.Key), f x)) (.inr y) = if y ∈ l then some (f y) else none
  | [] => rfl
  | x :: l => by
    rw [List.map_cons]
    by_cases e : x = y
    · subst e
      rw [valV_pos (p := ((Sum.inr x : L2.Key), f x)) rfl, if_pos (List.mem_cons_self ..)]
    · rw [valV_neg (p := ((Sum.inr x : L2.Key), f x)) (fun z => e (Sum.inr.inj z)), val_mapS f y l]
      by_cases h : y ∈ l
      · rw [if_pos h, if_pos (List.mem_cons_of_mem _ h)]
      · rw [if_neg h, if_neg (fun z => (List.mem_cons.mp z).elim (fun z => e z.symm) h)]
theorem can_strs : ∀ l : List Str, (∀ x ∈ l, okS x = true) → PyData.canLayAll0 (l.map PyData.str) = true
  | [], _ => rfl
  | x :: l, h => by
    show (x.cps.all (· < 0x110000) && PyData.canLayAll0 (l.map PyData.str)) = true
    have hx : x.cps.toList.all (· < 0x110000) = true := h x (List.mem_cons_self ..)
    rw [Array.all_toList] at hx
    rw [hx, can_strs l fun y hy => h y (List.mem_cons_of_mem _ hy)]
    rfl
theorem depth_strs : ∀ l : List Str, PyData.depthAll (l.map PyData.str) = 0
  | [] => rfl
  | n :: l => by
    show max 0 (PyData.depthAll (l.map PyData.str)) = 0
    rw [depth_strs l]
    rfl
theorem shaped_strs (l : List Str) (h : ∀ x ∈ l, okS x = true) : SeqAt.shaped (.list (l.map PyData.str)) = true := by
  unfold SeqAt.shaped
  rw [show PyData.canLay0 (.list (l.map PyData.str)) = true from can_strs l h, Bool.true_and]
  refine decide_eq_true ?_
  show PyData.depthAll (l.map PyData.str) + 1 ≤ 64
  rw [depth_strs]
  decide
theorem eqv_strs : ∀ l : List Str, PyData.eqvAll (l.map PyData.str) (l.map PyData.str) = true
  | [] => rfl
  | n :: l => by
    show ((n == n) && PyData.eqvAll (l.map PyData.str) (l.map PyData.str)) = _
    rw [eqv_strs l]
    simp
theorem da_strs {K : PySem.W.Frag} {H : Hp} : ∀ l : List Str, DaAll K H (l.map V.str) (l.map PyData.str)
  | [] => .nil
  | x :: l => .cons (.str x) (da_strs l)
section
variable {P : Program} {w : World} {K : PySem.W.Frag} {mg : Str → Option Value} {base : Heap} {C : Addr}
def clampC (z : Int) : Int := if (if z > -2 then z else -2) < 3 then (if z > -2 then z else -2) else 3
theorem small_clamp (z : Int) : Small (clampC z) := by
  unfold clampC Small
  split
  · split <;> omega
  · decide
def clampP (q : List Int × Int) : List Int × Int := (q.1, clampC q.2)
def outB : Nat → Nat
  | 0 => 1311
  | 1 => 1979
  | _ => 3217
def outS : Nat → Nat
  | 0 => 557
  | 1 => 1127
  | _ => 2267
def Old2 (p q : Addr) (H H' : Hp) : Prop := ∀ b o, b ≠ p → b ≠ q → H b = some o → H' b = some o
def spPlanHolds : Sp := fun vs H Q _ => ∃ p sp : Addr, vs = [.ref p, .ref sp] ∧ PurseAt H p ∧ PurseAt H sp ∧ p ≠ sp ∧ ∀ H', Old2 p sp H H' → Q (.bl true) H'
theorem d_law_plan_holds (B : Bt mg) (X : TxB K C) (T : Top K mg "_law_plan_holds" s_law_plan_holds ["purse", "spare"]) (D_law_draw : Def P w K mg base "_law_draw" 1 ["purse", "many"] spDraw) (D_law_pairs : Def P w K mg base "_law_pairs" 4 ["purse", "width", "most", "small"] spLPairs) (D_law_name : Def P w K mg base "_law_name" 2 ["purse", "taken"] spName) (MkBag : MakeI P w K mg base C "Bag" 4 ["self", "pairs"] (spInit K C)) (D_law_added : Def P w K mg base "_law_added" 1 ["pairs"] spAdded) (D_law_tells : Def P w K mg base "_law_tells" 6 ["told", "due"] (spTells K C))
    (D_law_plan : Def P w K mg base "_law_plan" 8 ["purse", "deep", "names", "widths"] (spPlan K 3)) (D_law_one : Def P w K mg base "_law_one" 4 ["purse", "kind", "part"] (spOne K)) (D_law_columns : Def P w K mg base "_law_columns" 2 ["purse", "left", "right"] (spLCols K)) (D_law_from_nothing : Def P w K mg base "_law_from_nothing" 11 ["plan", "lists"] (spFromN K 7)) (Danswer : Def P w K mg base "answer" 14 ["plan", "tables"] (spAnswer K C 7)) : Def P w K mg base "_law_plan_holds" 15 ["purse", "spare"] spPlanHolds := by
  refine mk_def T sc_law_plan_holds (by rintro _ _ _ _ ⟨_, _, rfl, _⟩; rfl) fun f cdv A outer s H vs Q E hr h => ?_
  obtain ⟨p, sp, rfl, hp, hs, nps, q⟩ := h
  refine ⟨_, (pss_cons (ps_set (i := 2) sc_law_plan_holds.nd rfl (Or.inl rfl) (pe_lst pa_nil))
      (pss_cons (ps_set (i := 3) sc_law_plan_holds.nd rfl (Or.inl rfl) (pe_lst pa_nil))
      (pss_cons (ps_set (i := 4) sc_law_plan_holds.nd rfl (Or.inr rfl) (pe_dnewK))
      (pss_cons (ps_set (i := 5) sc_law_plan_holds.nd rfl (Or.inr rfl) (pe_dnewK))
      (pss_cons (ps_for PassesOwn.never rfl (pi_range1 (by rfl) B.m_range (pa_cons pe_int pa_nil)) (pg_name (i := 6) sc_law_plan_holds.nd rfl (Or.inl rfl)) (pss_cons (ps_expr (pe_bm PySem.F.plainAttrs_list PySem.F.slot_list_append PySem.F.type_list_append mt_append (pv 2) (pa_cons (pe_def D_law_name (hr.mono (by first | decide | omega)) (by rfl) (pa_cons (pv 0) (pa_cons (pv 2) pa_nil))) pa_nil)))
      (pss_cons (ps_expr (pe_bm PySem.F.plainAttrs_list PySem.F.slot_list_append PySem.F.type_list_append mt_append (pv 3) (pa_cons (pe_ix ix_tup (pe_tup (pa_cons pe_int (pa_cons pe_int (pa_cons pe_int (pa_cons pe_int (pa_cons pe_int (pa_cons pe_int pa_nil))))))) (pe_def D_law_draw (hr.mono (by first | decide | omega)) (by rfl) (pa_cons (pv 0) (pa_cons pe_int pa_nil))) (fun _ _ => rfl)) pa_nil)))
      (pss_cons (ps_setLc (i := 7) (own := [("pair", 8)]) (g := (gName 8)) (tt := tYes) (te := (tTup (tCons (tOp (rIxT K) (tVar 8) (tC (.int 0))) (tCons (tCB yMin (tCons (tC (.int 3)) (tCons (tCB yMax (tCons (tUn yNeg (tC (.int 2))) (tCons (tOp (rIxT K) (tVar 8) (tC (.int 1))) tNil))) tNil))) tNil)))) rfl sc_law_plan_holds.nd rfl rfl (sw_true rfl rfl rfl (by decide +kernel)) (pi_list (pe_slice sl_list (pe_def D_law_pairs (hr.mono (by first | decide | omega)) (by rfl) (pa_cons (pv 0) (pa_cons (pe_ix ix_list (pv 3) (pv 6) (fun _ _ => rfl)) (pa_cons pe_int (pa_cons pe_bl pa_nil))))) po_none (po_some pe_int))) (blkOk_by (own := [("pair", 8)]) (N := N_law_plan_holds) (sc := defScope s_law_plan_holds) (by decide +kernel)) (fun _ _ _ _ _ => (pg_name (i := 8) sc_law_plan_holds.nd rfl (Or.inl rfl))) (fun _ _ _ _ _ => pts_nil) (fun _ _ _ _ _ => (pe_tup (pa_cons (pe_ix ix_tup (pv 8) pe_int (fun _ _ => rfl)) (pa_cons (pe_callB (call_min2 rfl) (by rfl) B.m_min (by decide +kernel) (pa_cons pe_int (pa_cons (pe_callB (call_max2 rfl) (by rfl) B.m_max (by decide +kernel) (pa_cons (pe_un un_neg pe_int) (pa_cons (pe_ix ix_tup (pv 8) pe_int (fun _ _ => rfl)) pa_nil))) pa_nil))) pa_nil)))))
      (pss_one (ps_if (pt_cmpR op_gt (pe_def D_law_draw (hr.mono (by first | decide | omega)) (by rfl) (pa_cons (pv 0) (pa_cons pe_int pa_nil))) pe_int (nomark _)) (pss_cons (ps_dput (hu_of hr) (pv 4) (pe_ix ix_list (pv 2) (pv 6) (fun _ _ => rfl)) (pe_def D_law_added (hr.mono (by first | decide | omega)) (by rfl) (pa_cons (pv 7) pa_nil)) rfl)
      (pss_one (ps_dput (hu_of hr) (pv 5) (pe_ix ix_list (pv 2) (pv 6) (fun _ _ => rfl)) (pe_makeI MkBag (hr.mono (by first | decide | omega)) (by rfl) (pa_cons (pv 7) pa_nil)) rfl))) pss_nil))))))
      (pss_cons (ps_set (i := 9) sc_law_plan_holds.nd rfl (Or.inl rfl) (pe_def D_law_plan (hr.mono (by first | decide | omega)) (by rfl) (pa_cons (pv 1) (pa_cons pe_int (pa_cons (pv 2) (pa_cons (pv 3) pa_nil))))))
      (pss_cons (ps_for PassesOwn.never rfl (pi_range1 (by rfl) B.m_range (pa_cons (pe_def D_law_draw (hr.mono (by first | decide | omega)) (by rfl) (pa_cons (pv 1) (pa_cons pe_int pa_nil))) pa_nil)) (pg_name (i := 6) sc_law_plan_holds.nd rfl (Or.inl rfl)) (pss_cons (ps_set (i := 10) sc_law_plan_holds.nd rfl (Or.inl rfl) (pe_def D_law_draw (hr.mono (by first | decide | omega)) (by rfl) (pa_cons (pv 1) (pa_cons pe_int pa_nil))))
      (pss_one (ps_if (pt_cmpR op_lt (pv 10) pe_int (nomark _)) (pss_one (ps_set (i := 9) sc_law_plan_holds.nd rfl (Or.inl rfl) (pe_def D_law_one (hr.mono (by first | decide | omega)) (by rfl) (pa_cons (pv 1) (pa_cons (pe_ix ix_tup (pe_tup (pa_cons pe_str (pa_cons pe_str (pa_cons pe_str pa_nil)))) (pe_callTy call_int1 (by rfl) B.m_int (by decide +kernel) (pa_cons (pv 10) pa_nil)) (fun _ _ => rfl)) (pa_cons (pv 9) pa_nil)))))) (pss_cons (ps_set (i := 11) sc_law_plan_holds.nd rfl (Or.inl rfl) (pe_def D_law_draw (hr.mono (by first | decide | omega)) (by rfl) (pa_cons (pv 1) (pa_cons pe_int pa_nil))))
      (pss_cons (ps_set (i := 12) sc_law_plan_holds.nd rfl (Or.inl rfl) (pe_lst (pa_cons (pe_tup (pa_cons pe_str (pa_cons (pe_ix ix_list (pv 2) (pv 11) (fun _ _ => rfl)) pa_nil))) (pa_cons (pe_ix ix_list (pv 3) (pv 11) (fun _ _ => rfl)) pa_nil))))
      (pss_cons (ps_set (i := 7) sc_law_plan_holds.nd rfl (Or.inl rfl) (pe_def D_law_columns (hr.mono (by first | decide | omega)) (by rfl) (pa_cons (pv 1) (pa_cons (pe_ix ix_list (pv 9) pe_int (fun _ _ => rfl)) (pa_cons (pe_ix ix_list (pv 12) pe_int (fun _ _ => rfl)) pa_nil)))))
      (pss_one (ps_set (i := 9) sc_law_plan_holds.nd rfl (Or.inl rfl) (pe_lst (pa_cons (pe_tup (pa_cons pe_str (pa_cons (pe_ix ix_list (pv 9) pe_int (fun _ _ => rfl)) (pa_cons (pe_ix ix_list (pv 12) pe_int (fun _ _ => rfl)) (pa_cons (pv 7) pa_nil))))) (pa_cons (pe_ix ix_list (pv 9) pe_int (fun _ _ => rfl)) pa_nil))))))))))))
      (pss_cons (ps_set (i := 13) sc_law_plan_holds.nd rfl (Or.inl rfl) (pe_callTy (call_list_dK rfl) (by rfl) B.m_list (by decide +kernel) (pa_cons (pv 5) pa_nil)))
      (pss_cons (ps_set (i := 14) sc_law_plan_holds.nd rfl (Or.inl rfl) (pe_def Danswer (hr.mono (by first | decide | omega)) (by rfl) (pa_cons (pe_ix ix_list (pv 9) pe_int (fun _ _ => rfl)) (pa_cons (pv 5) pa_nil))))
      (pss_cons (ps_if (pw_or (pt_not (pt_val (pe_def D_law_tells (hr.mono (by first | decide | omega)) (by rfl) (pa_cons (pv 14) (pa_cons (pe_def D_law_from_nothing (hr.mono (by first | decide | omega)) (by rfl) (pa_cons (pe_ix ix_list (pv 9) pe_int (fun _ _ => rfl)) (pa_cons (pv 4) pa_nil))) pa_nil))))) (pw_or1 (pt_cmpR (op_neD (hu64 hr)) (pe_callTy (call_list_dK rfl) (by rfl) B.m_list (by decide +kernel) (pa_cons (pv 5) pa_nil)) (pv 13) (nomark _)))).pt (pss_one (ps_ret pe_bl)) pss_nil)
      (pss_one (ps_ret (pe_callB (cr_all rfl) (by rfl) B.m_all (by decide +kernel) (pa_cons (pe_lc (own := [("name", 15)]) (g := (gName 15)) (tt := tYes) (te := (tCall (spTells K C) [] E0 (tCons (tDGet (tVar 5) (tVar 15)) (tCons (tDGet (tVar 4) (tVar 15)) tNil)))) rfl sc_law_plan_holds.nd (pi_list (pv 13)) (blkOk_by (own := [("name", 15)]) (N := N_law_plan_holds) (sc := defScope s_law_plan_holds) (by decide +kernel)) (fun _ _ _ _ _ => (pg_name (i := 15) sc_law_plan_holds.nd rfl (Or.inl rfl))) (fun _ _ _ _ _ => pts_nil) (fun _ _ _ _ _ => (pe_def D_law_tells (hr.mono (by first | decide | omega)) (by rfl) (pa_cons (pe_dget (hu_of hr) (pv 5) (pv 15) (fun _ _ => rfl)) (pa_cons (pe_dget (hu_of hr) (pv 4) (pv 15) (fun _ _ => rfl)) pa_nil))))) pa_nil)))))))))))))), ?_⟩
  refine ⟨by show 0 ≤ sizeLine; decide, fun F1 hF1 => ?_⟩
  have np1 := hp.ne hF1
  have ns1 := hs.ne hF1
  have e1 := same_upd (o := .lst []) hF1
  have g1 : L2.upd H F1 (.lst []) F1 = some (.lst []) := upd_same
  have p1 := hp.same e1
  have s1 := hs.same e1
  generalize L2.upd H F1 (.lst []) = H1 at e1 g1 p1 s1 ⊢
  refine ⟨by show 0 ≤ sizeLine; decide, fun F2 hF2 => ?_⟩
  have np2 := p1.ne hF2
  have ns2 := s1.ne hF2
  have n12 : F1 ≠ F2 := ne_of_none g1 hF2
  have e2 := same_upd (o := .lst []) hF2
  have g12 := e2 _ _ g1
  have g2 : L2.upd H1 F2 (.lst []) F2 = some (.lst []) := upd_same
  have p2 := p1.same e2
  have s2 := s1.same e2
  have e02 := e1.trans e2
  have hF2' : H F2 = none := e1.new hF2
  generalize L2.upd H1 F2 (.lst []) = H2 at e2 g12 g2 p2 s2 e02 ⊢
  intro D1 hD1
  have e3 := same_upd (o := .dK []) hD1
  have g3 : L2.upd H2 D1 (.dK []) D1 = some (.dK []) := upd_same
  have g13 := e3 _ _ g12
  have g23 := e3 _ _ g2
  have p3 := p2.same e3
  have s3 := s2.same e3
  have e03 := e02.trans e3
  have hD1' : H D1 = none := e02.new hD1
  generalize L2.upd H2 D1 (.dK []) = H3 at e3 g3 g13 g23 p3 s3 e03 ⊢
  intro D2 hD2
  have nD : D1 ≠ D2 := ne_of_none g3 hD2
  have e4 := same_upd (o := .dK []) hD2
  have g4 : L2.upd H3 D2 (.dK []) D2 = some (.dK []) := upd_same
  have g14 := e4 _ _ g13
  have g24 := e4 _ _ g23
  have g34 := e4 _ _ g3
  have p4 := p3.same e4
  have s4 := s3.same e4
  have e04 := e03.trans e4
  have hD2' : H D2 = none := e03.new hD2
  generalize L2.upd H3 D2 (.dK []) = H4 at e4 g4 g14 g24 g34 p4 s4 e04 ⊢
  have t4 : Tc K C H4 D1 D2 [] [] [] [] [] (fun _ => []) (fun _ => 0) := ⟨g34, g4, rfl, (fun k hk => nomatch hk), (fun j x k h => nomatch h), ⟨fun _ => (lim_nil 0 103 110).mono (by decide) (Nat.le_refl _) (Nat.le_refl _), fun _ => fin_nil⟩, (fun x hx => nomatch hx), (fun x hx => nomatch hx), rfl, rfl, List.nodup_nil, (fun x hx => nomatch hx), fun _ _ => rfl⟩
  clear e1 e2 e3 e4 g1 g12 g2 g3 g13 g23 p1 p2 p3 s1 s2 s3 e02 e03 hF2 hD1 hD2
  refine ⟨3, rfl, by decide, by decide, ?_⟩
  refine for_range (lo := 0) (n := 3) (fun i σ' H' => ∃ (y6 y7 : Option V) (ns : List Str) (ws : List Nat) (kl kb : List (L2.Key × V)) (ks : List Str) (env : Str → Tly) (W : Str → Nat), σ' = [some (.ref p), some (.ref sp), some (.ref F1), some (.ref F2), some (.ref D1), some (.ref D2), y6, y7, none, none, none, none, none, none, none, none] ∧ Tc K C H' D1 D2 ns ws kl kb ks env W ∧ H' F1 = some (.lst (ns.map V.str)) ∧ H' F2 = some (.lst (ws.map fun k : Nat => V.int k)) ∧ ns.length = i ∧ (∀ x ∈ ns, okS x = true) ∧ PurseAt H' p ∧ PurseAt H' sp ∧ Old2 p sp H H')
    ⟨none, none, [], [], [], [], [], _, _, rfl, t4, g14, g24, rfl, (fun x hx => nomatch hx), p4, s4, fun b o _ _ ho => e04 _ _ ho⟩ (fun i σ' H5 hi pv => ?_) (fun σ' H5 pv => ?_)
  · obtain ⟨y6, y7, ns, ws, kl, kb, ks, env, W, rfl, t5, f1, f2, hl, hso, p5, s5, o5⟩ := pv
    have hl2 : ws.length = i := by rw [← t5.len, hl]
    -- lists of pairs are neither of the two lists
    have nF1 : ∀ x ∈ ns, ∀ (H' : Hp) a D, H' F1 = some (.lst (ns.map V.str)) → PairsAt H' a D → a ≠ F1 := fun x hx H' a D h1 h2 => h2.neL h1 (by simp; exact List.ne_nil_of_mem hx) (fun v hv t e => by
      obtain ⟨y, _, rfl⟩ := List.mem_map.mp hv
      cases e)
    have nF2 : ∀ x ∈ ns, ∀ (H' : Hp) a D, H' F2 = some (.lst (ws.map fun k : Nat => V.int k)) → PairsAt H' a D → a ≠ F2 := fun x hx H' a D h1 h2 => h2.neL h1 (by
        have : 0 < ns.length := List.length_pos_of_mem hx
        intro z
        have := congrArg List.length z
        simp at this
        rw [this] at hl2
        simp at hl2
        omega) (fun v hv t e => by
      obtain ⟨y, _, rfl⟩ := List.mem_map.mp hv
      cases e)
    refine ⟨.ref F1, rfl, .inl ⟨rfl, _, SqL.of f1⟩, .ref p, rfl, .ref F1, rfl, p, F1, ns, rfl, p5, f1, by omega, fun H6 x s6 p6 hx hxo => ?_⟩
    have f16 := s6 _ _ np1.symm f1
    have f26 := s6 _ _ np2.symm f2
    have t6 := t5.sb p5 s6
    have sp6 : PurseAt H6 sp := by
      obtain ⟨u1, u2, u3, u4, u5⟩ := s5
      exact ⟨u1, u2, u3, s6 _ _ nps.symm u4, u5⟩
    refine ⟨F1, _, _, rfl, rfl, f16, by rw [List.length_map]; exact Nat.lt_of_le_of_lt (show ns.length ≤ 3 by omega) (by decide), ?_⟩
    have b7 : SameB F1 H6 (L2.upd H6 F1 (.lst (ns.map V.str ++ [.str x]))) := SameB.upd
    have f17 : L2.upd H6 F1 (.lst (ns.map V.str ++ [.str x])) F1 = some (.lst ((ns ++ [x]).map V.str)) := by rw [upd_same, List.map_append]; rfl
    have f27 := b7 _ _ n12.symm f26
    have p7 := p6.upd (o := .lst (ns.map V.str ++ [.str x])) np1
    have sp7 := sp6.upd (o := .lst (ns.map V.str ++ [.str x])) ns1
    have t7 := t6.mv b7 f16 trivial (ne_of t6.l f16 (fun z => nomatch z)) (ne_of t6.b f16 (fun z => nomatch z)) fun x hx a D h => nF1 x hx _ _ _ f16 h
    have o7 : Old2 p sp H (L2.upd H6 F1 (.lst (ns.map V.str ++ [.str x]))) := fun b o nb1 nb2 ho => b7 _ _ (ne_of_none ho hF1) (s6 _ _ nb1 (o5 _ _ nb1 nb2 ho))
    generalize L2.upd H6 F1 (.lst (ns.map V.str ++ [.str x])) = H7 at b7 f17 f27 p7 sp7 t7 o7 ⊢
    refine ⟨.ref F2, rfl, .inl ⟨rfl, _, SqL.of f27⟩, by show 6 ≤ sizeLine; decide, fun t ht => ?_⟩
    have e8 := same_upd (o := .tup [V.int 0, .int 1, .int 1, .int 2, .int 2, .int 3]) ht
    have ht8 := upd_same (H := H7) (a := t) (o := .tup [V.int 0, .int 1, .int 1, .int 2, .int 2, .int 3])
    have t8 := t7.same e8
    have p8 := p7.same e8
    have sp8 := sp7.same e8
    have f18 := e8 _ _ f17
    have f28 := e8 _ _ f27
    have o8 : Old2 p sp H _ := fun b o nb1 nb2 ho => e8 _ _ (o7 _ _ nb1 nb2 ho)
    generalize L2.upd H7 t _ = H8 at e8 ht8 t8 p8 sp8 f18 f28 o8 ⊢
    refine ⟨.ref p, rfl, p, _, rfl, p8, by decide, by decide, fun H9 d s9 p9 d0 d1 => ?_⟩
    obtain ⟨k, hat, hk⟩ := lit6 (a := 0) (b := 1) (c := 1) (d := 2) (e := 2) (f := 3) (by decide) d0 d1
    have t9 := t8.sb p8 s9
    have f19 := s9 _ _ np1.symm f18
    have f29 := s9 _ _ np2.symm f28
    have sp9 : PurseAt H9 sp := by
      obtain ⟨u1, u2, u3, u4, u5⟩ := sp8
      exact ⟨u1, u2, u3, s9 _ _ nps.symm u4, u5⟩
    have o9 : Old2 p sp H H9 := fun b o nb1 nb2 ho => s9 _ _ nb1 (o8 _ _ nb1 nb2 ho)
    refine ⟨t, _, _, .int k, rfl, rfl, SqT.of (p8.st (K := K) s9 _ _ ht8), hat, F2, _, _, rfl, rfl, f29, by rw [List.length_map]; exact Nat.lt_of_le_of_lt (show ws.length ≤ 3 by omega) (by decide), ?_⟩
    have b10 : SameB F2 H9 (L2.upd H9 F2 (.lst (ws.map (fun k : Nat => V.int k) ++ [.int k]))) := SameB.upd
    have f210 : L2.upd H9 F2 (.lst (ws.map (fun k : Nat => V.int k) ++ [.int k])) F2 = some (.lst ((ws ++ [k]).map fun k : Nat => V.int k)) := by rw [upd_same, List.map_append]; rfl
    have f110 := b10 _ _ n12 f19
    have p10 := p9.upd (o := .lst (ws.map (fun k : Nat => V.int k) ++ [.int k])) np2
    have sp10 := sp9.upd (o := .lst (ws.map (fun k : Nat => V.int k) ++ [.int k])) ns2
    have t10 := (t9.mv b10 f29 trivial (ne_of t9.l f29 (fun z => nomatch z)) (ne_of t9.b f29 (fun z => nomatch z)) fun x hx a D h => nF2 x hx _ _ _ f29 h).more hx hk
    have o10 : Old2 p sp H (L2.upd H9 F2 (.lst (ws.map (fun k : Nat => V.int k) ++ [.int k]))) := fun b o nb1 nb2 ho => b10 _ _ (ne_of_none ho hF2') (o9 _ _ nb1 nb2 ho)
    generalize L2.upd H9 F2 (.lst (ws.map (fun k : Nat => V.int k) ++ [.int k])) = H10 at b10 f210 f110 p10 sp10 t10 o10 ⊢
    have hns : (ns ++ [x])[i]? = some x := by rw [List.getElem?_append_right (by omega), hl, Nat.sub_self]; rfl
    have hws : (ws ++ [k])[i]? = some k := by rw [List.getElem?_append_right (by omega), hl2, Nat.sub_self]; rfl
    have atn : atI ((ns ++ [x]).map V.str) (0 + (i : Int)) = some (.str x) := by
      rw [Int.zero_add]
      exact atI_nat (by rw [List.getElem?_map, hns]; rfl)
    have atw : atI ((ws ++ [k]).map fun k : Nat => V.int k) (0 + (i : Int)) = some (.int k) := by
      rw [Int.zero_add]
      exact atI_nat (by rw [List.getElem?_map, hws]; rfl)
    refine ⟨.ref p, rfl, .ref F2, rfl, .int (0 + (i : Int)), rfl, F2, _, _, .int k, rfl, rfl, SqL.of f210, atw, p, k, 4, true, rfl, p10, by omega, by decide, fun H11 l ps s11 p11 hl0 hps lps okps => ⟨4, rfl, ?_⟩⟩
    obtain ⟨acc, hacc, hpa⟩ := id hps
    refine ⟨l, acc, rfl, SqL.of hacc, fun l2 hl2' => ?_⟩
    obtain ⟨j, hj4, hcut⟩ := cutV_take acc
    rw [hcut]
    have e12 := same_upd (o := .lst (acc.take j)) hl2'
    have hps2 : PairsAt (L2.upd H11 l2 (.lst (acc.take j))) l2 (ps.take j) := ⟨acc.take j, upd_same, Paired.mapP (takeP j hpa) fun v q h => h.same e12⟩
    have ok2 : ∀ q ∈ ps.take j, RowOk k q.1 ∧ Small q.2 := fun q hq => okps q (List.mem_of_mem_take hq)
    have len2 : (ps.take j).length ≤ 4 := by rw [List.length_take]; omega
    have t12 := (t10.sb p10 s11).same e12
    have f112 := e12 _ _ (s11 _ _ np1.symm f110)
    have f212 := e12 _ _ (s11 _ _ np2.symm f210)
    have p12 := p11.same e12
    have sp12 : PurseAt H11 sp := by
      obtain ⟨u1, u2, u3, u4, u5⟩ := sp10
      exact ⟨u1, u2, u3, s11 _ _ nps.symm u4, u5⟩
    have sp12 := sp12.same e12
    have o12 : Old2 p sp H (L2.upd H11 l2 (.lst (acc.take j))) := fun b o nb1 nb2 ho => e12 _ _ (s11 _ _ nb1 (o10 _ _ nb1 nb2 ho))
    have hl20 : l2 ≠ p := (p11.ne hl2').symm
    generalize L2.upd H11 l2 (.lst (acc.take j)) = H12 at e12 hps2 t12 f112 f212 p12 sp12 o12 ⊢
    generalize ps.take j = ps2 at hps2 ok2 len2
    obtain ⟨acc2, hl2a, hx2⟩ := hps2
    have lacc2 : acc2.length = ps2.length := Paired.length hx2
    refine ⟨l2, rfl, ⟨_, SqL.of hl2a⟩, fun l3 hl3 => ?_⟩
    refine lc_dat (K := K) (walk_list (K := K) (xs := acc2)) hl3 (by omega) (fun Ha ea => SqL.of (ea _ _ hl2a)) ((ps2.map clampP).map pairD) (by simp [lacc2]) (imm_pairs _) (fun i' x' Ha Hb Q' hi' ea y kk => ?_) (fun Hc acc3 ec eD dD => ?_)
    · obtain ⟨rfl, hxi⟩ := y
      obtain ⟨q2, hq2, hqx⟩ := DX.pget (flipP hx2) hxi
      obtain ⟨t2, c2, rfl, ht2, hc2⟩ := hqx.same ea
      refine ⟨rfl, .ref t2, rfl, t2, _, _, .ref c2, rfl, rfl, SqT.of ht2, atI_nat (j := 0) rfl, 2, rfl, .ref t2, rfl, t2, _, _, .int q2.2, rfl, rfl, SqT.of ht2, atI_nat (j := 1) rfl, _, _, rfl, _, _, rfl, by show 2 ≤ sizeLine; decide, fun u hu => ?_⟩
      refine kk _ _ (pairD (clampP q2)) (same_upd hu) ?_ (da_pair upd_same ?_)
      · rw [List.getElem?_map, List.getElem?_map, hq2]
        rfl
      · unfold RowAt
        rw [upd_ne (ne_of_none hc2 hu)]
        exact hc2
    have t12 := t12.same ec
    have f112 := ec _ _ f112
    have f212 := ec _ _ f212
    have hl30 : l3 ≠ p := (p12.ne hl3).symm
    have p12 := p12.same ec
    have sp12 := sp12.same ec
    have o12 : Old2 p sp H Hc := fun b o nb1 nb2 ho => ec _ _ (o12 _ _ nb1 nb2 ho)
    have hps2 : PairsAt Hc l3 (ps2.map clampP) := ⟨acc3, eD, da_pairs dD⟩
    have ok2 : ∀ q ∈ ps2.map clampP, RowOk k q.1 ∧ Small q.2 := fun q hq => by
      obtain ⟨z, hz, rfl⟩ := List.mem_map.mp hq
      exact ⟨(ok2 z hz).1, small_clamp _⟩
    have len2 : (ps2.map clampP).length ≤ 4 := by rw [List.length_map]; exact len2
    generalize ps2.map clampP = ps2 at hps2 ok2 len2
    refine ⟨.ref p, rfl, p, _, rfl, p12, by decide, by decide, fun H13 way s13 p13 w0 w1 => ?_⟩
    have t13 := t12.sb p12 s13
    have f113 := s13 _ _ np1.symm f112
    have f213 := s13 _ _ np2.symm f212
    have hps3 := hps2.sb p12 hl30 s13
    have sp13 : PurseAt H13 sp := by
      obtain ⟨u1, u2, u3, u4, u5⟩ := sp12
      exact ⟨u1, u2, u3, s13 _ _ nps.symm u4, u5⟩
    have o13 : Old2 p sp H H13 := fun b o nb1 nb2 ho => s13 _ _ nb1 (o12 _ _ nb1 nb2 ho)
    have hxn : x ∈ ns ++ [x] := List.mem_append.mpr (.inr (List.mem_singleton.mpr rfl))
    have hso2 : ∀ y ∈ ns ++ [x], okS y = true := fun y hy => (List.mem_append.mp hy).elim (hso y) fun h => by rw [List.mem_singleton.mp h]; exact hxo
    have hl1' : (ns ++ [x]).length = i + 1 := by rw [List.length_append, hl]; rfl
    refine ⟨_, _, rfl, rfl, _, rfl, ite2 (fun z => ?_) (fun z => ⟨_, _, ns ++ [x], ws ++ [k], kl, kb, ks, env, _, rfl, t13, f113, f213, hl1', hso2, p13, sp13, o13⟩)⟩
    refine ⟨.ref l3, rfl, l3, ps2, rfl, hps3, by omega, oneW_drawn ok2, fun H14 fd D e14 hfd0 hfd FD SD cD kD => ?_⟩
    have t14 := t13.same e14
    have f114 := e14 _ _ f113
    have f214 := e14 _ _ f213
    refine ⟨.ref D1, rfl, .ref F1, rfl, .int (0 + (i : Int)), rfl, F1, _, _, .str x, rfl, rfl, SqL.of f114, atn, D1, _, rfl, DPut.k (k := Sum.inr x) t14.l ?_, ?_⟩
    · exact Nat.lt_of_le_of_lt (Nat.le_trans t14.lenL.1 (show (ns ++ [x]).length ≤ 4 by rw [List.length_append]; show ns.length + 1 ≤ 4; omega)) (by decide)
    have b15 : SameB D1 H14 (L2.upd H14 D1 (.dK (putK kl (.inr x) (.ref fd)))) := SameB.upd
    have g15 : L2.upd H14 D1 (.dK (putK kl (.inr x) (.ref fd))) D1 = some (.dK (putK kl (.inr x) (.ref fd))) := upd_same
    have hp15 : PairsAt (L2.upd H14 D1 (.dK (putK kl (.inr x) (.ref fd)))) l3 ps2 := (hps3.same e14).mv b15 t14.l trivial ((hps3.same e14).neK t14.l)
    have hfd15 := hfd.mv b15 t14.l trivial (hfd.neK t14.l)
    generalize L2.upd H14 D1 (.dK (putK kl (.inr x) (.ref fd))) = H15 at b15 g15 hp15 hfd15 ⊢
    refine ⟨.ref l3, rfl, fun q1 dx hq1 hdx ne => ?_⟩
    have e16 : Same H15 (L2.upd (L2.upd H15 dx (.own q1)) q1 (.ins C dx [])) := (same_upd hdx).mut hq1
    refine ⟨q1, dx, l3, ps2, rfl, upd_same, .inl (hp15.same e16), by omega, fun q hq => by rw [(ok2 q hq).1.1]; omega, fun H17 c T1 e17 hc hbag hT1 hT2 => ⟨rfl, ?_⟩⟩
    have e1517 : Same H15 H17 := fun b o ho => e17 _ _ (ne_of_none ho hq1) (e16 _ _ ho)
    have e1417 : ∀ b o, b ≠ D1 → H14 b = some o → H17 b = some o := fun b o nb ho => e1517 _ _ (b15 _ _ nb ho)
    have nFD1 : F1 ≠ D1 := ne_of f114 t14.l (fun z => nomatch z)
    have nFD2 : F2 ≠ D1 := ne_of f214 t14.l (fun z => nomatch z)
    have f117 := e1417 _ _ nFD1 f114
    have f217 := e1417 _ _ nFD2 f214
    have b17 := e1417 _ _ nD.symm t14.b
    refine ⟨.ref D2, rfl, .ref F1, rfl, .int (0 + (i : Int)), rfl, F1, _, _, .str x, rfl, rfl, SqL.of f117, atn, D2, _, rfl, DPut.k (k := Sum.inr x) b17 ?_, ?_⟩
    · exact Nat.lt_of_le_of_lt (Nat.le_trans t14.lenL.2 (show (ns ++ [x]).length ≤ 4 by rw [List.length_append]; show ns.length + 1 ≤ 4; omega)) (by decide)
    have b18 : SameB D2 H17 (L2.upd H17 D2 (.dK (putK kb (.inr x) (.ref q1)))) := SameB.upd
    have g28 : L2.upd H17 D2 (.dK (putK kb (.inr x) (.ref q1))) D2 = some (.dK (putK kb (.inr x) (.ref q1))) := upd_same
    have g18 := b18 _ _ nD (e1517 _ _ g15)
    have e18 : ∀ b o, b ≠ D1 → b ≠ D2 → H14 b = some o → L2.upd H17 D2 (.dK (putK kb (.inr x) (.ref q1))) b = some o := fun b o n1 n2 ho => b18 _ _ n2 (e1417 _ _ n1 ho)
    have nFE1 : F1 ≠ D2 := ne_of f114 t14.b (fun z => nomatch z)
    have nFE2 : F2 ≠ D2 := ne_of f214 t14.b (fun z => nomatch z)
    have hfd18 := (hfd15.same e1517).mv b18 b17 trivial ((hfd15.same e1517).neK b17)
    have hbag18 := hbag.mv b18 b17 trivial
    have purse18 : ∀ q2, PurseAt H14 q2 → PurseAt (L2.upd H17 D2 (.dK (putK kb (.inr x) (.ref q1)))) q2 := fun q2 ⟨u1, u2, u3, u4, u5⟩ => ⟨u1, u2, u3, e18 _ _ (ne_of u4 t14.l (fun z => nomatch z)) (ne_of u4 t14.b (fun z => nomatch z)) u4, u5⟩
    have o18 : Old2 p sp H (L2.upd H17 D2 (.dK (putK kb (.inr x) (.ref q1)))) := fun b o nb1 nb2 ho => e18 _ _ (ne_of_none ho hD1') (ne_of_none ho hD2') (e14 _ _ (o13 _ _ nb1 nb2 ho))
    have p18 := purse18 p (p13.same e14)
    have sp18 := purse18 sp (sp13.same e14)
    have f118 := e18 _ _ nFD1 nFE1 f114
    have f218 := e18 _ _ nFD2 nFE2 f214
    generalize L2.upd H17 D2 (.dK (putK kb (.inr x) (.ref q1))) = H18 at b18 g28 g18 e18 hfd18 hbag18 purse18 o18 p18 sp18 f118 f218 ⊢
    have LD : Lim k 4 103 110 D := (lim_drawn ok2 len2 (by decide)).fin FD cD kD
    obtain ⟨ks', t18⟩ := t14.put (R := D) hxn hfd18 FD SD (.refl _) hbag18 (hbag.fin.perm FD fun j => (hT1 j).trans (cD j).symm) FD (by show Lim (if x = x then k else W x) 4 103 110 D; rw [if_pos rfl]; exact LD) nD e18 g18 g28
    exact ⟨_, _, ns ++ [x], ws ++ [k], _, _, ks', _, _, rfl, t18, f118, f218, hl1', hso2, p18, sp18, o18⟩
  · obtain ⟨y6, y7, ns, ws, kl, kb, ks, env, W, rfl, t5, f1, f2, hl, hso, p5, s5, o5⟩ := pv
    clear t4 g4 g14 g24 g34 p4 s4 e04
    have hl2 : ws.length = 3 := by rw [← t5.len, hl]
    refine ⟨.ref sp, rfl, .ref F1, rfl, .ref F2, rfl, sp, F1, F2, 2, ns, ws, W, rfl, s5, ⟨f1, f2, hl, hl2, t5.at', t5.few⟩, ns1.symm, ns2.symm, by decide, fun H6 a0 pl0 w0 s6 sp6 hpt0 hdr0 => ?_⟩
    have t6 := t5.sb s5 s6
    have f16 := s6 _ _ ns1.symm f1
    have f26 := s6 _ _ ns2.symm f2
    have o6 : Old2 p sp H H6 := fun b o nb1 nb2 ho => s6 _ _ nb2 (o5 _ _ nb1 nb2 ho)
    refine ⟨.ref sp, rfl, sp, _, rfl, sp6, by decide, by decide, fun H7 m s7 sp7 m0 m1 => ?_⟩
    have t7 := t6.sb sp6 s7
    have f17 := s7 _ _ ns1.symm f16
    have f27 := s7 _ _ ns2.symm f26
    have hpt7 := hpt0.sb sp6 s7
    have o7 : Old2 p sp H H7 := fun b o nb1 nb2 ho => s7 _ _ nb2 (o6 _ _ nb1 nb2 ho)
    obtain ⟨m, rfl⟩ := Int.eq_ofNat_of_zero_le m0
    have hm : m < 3 := by omega
    refine ⟨m, rfl, by omega, by omega, ?_⟩
    clear s6 sp6 hpt0 t6 o6 f1 f2 p5 s5 o5 s7 f16 f26
    refine for_range (lo := 0) (n := m) (fun i σ' H' => ∃ (y6 y7 y10 y11 y12 : Option V) (a : Addr) (pl : Pl) (w : Nat), σ' = [some (.ref p), some (.ref sp), some (.ref F1), some (.ref F2), some (.ref D1), some (.ref D2), y6, y7, none, some (.ref a), y10, y11, y12, none, none, none] ∧ Tc K C H' D1 D2 ns ws kl kb ks env W ∧ H' F1 = some (.lst (ns.map V.str)) ∧ H' F2 = some (.lst (ws.map fun k : Nat => V.int k)) ∧ PurseAt H' sp ∧ PtAt K H' a pl w ∧ Dr W ns (5 + i) (624 + 4 * i) (outB i) (outS i) pl w ∧ Old2 p sp H H')
      ⟨y6, y7, none, none, none, a0, pl0, w0, rfl, t7, f17, f27, sp7, hpt7, hdr0, o7⟩ (fun i σ' H8 hi pv => ?_) (fun σ' H8 pv => ?_)
    · obtain ⟨y6, y7, y10, y11, y12, a, pl, w', rfl, t8, f18, f28, sp8, hpt, hdr, o8⟩ := pv
      have hi2 : i = 0 ∨ i = 1 := by omega
      have hB : outB i + outS i + 111 ≤ outB (i + 1) := by rcases hi2 with rfl | rfl <;> decide
      have hS : outS i + outS i + 13 ≤ outS (i + 1) := by rcases hi2 with rfl | rfl <;> decide
      have hS0 : 557 ≤ outS i := by rcases hi2 with rfl | rfl <;> decide
      have hB0 : 1311 ≤ outB i := by rcases hi2 with rfl | rfl <;> decide
      refine ⟨.ref sp, rfl, sp, _, rfl, sp8, by decide, by decide, fun H9 d s9 sp9 d0 d1 => ?_⟩
      have t9 := t8.sb sp8 s9
      have f19 := s9 _ _ ns1.symm f18
      have f29 := s9 _ _ ns2.symm f28
      have hpt9 := hpt.sb sp8 s9
      have o9 : Old2 p sp H H9 := fun b o nb1 nb2 ho => s9 _ _ nb2 (o8 _ _ nb1 nb2 ho)
      have w6 := hdr.few
      refine ⟨.int d, rfl, _, _, rfl, rfl, _, rfl, ite2 (fun z => ?_) (fun z => ?_)⟩
      · have hd3 : d < 3 := of_decide_eq_true z
        refine ⟨.ref sp, rfl, by show 3 ≤ sizeLine; decide, fun t0 ht0 => ?_⟩
        have e0 := same_upd (o := .tup [V.str "distinct", .str "group", .str "top"]) ht0
        obtain ⟨k, hk4, hk1, hat⟩ : ∃ k : Nat, k < 4 ∧ k ≠ 1 ∧ atI [V.str "distinct", .str "group", .str "top"] d = some (.str (kindS k)) := by
          have : d = 0 ∨ d = 1 ∨ d = 2 := by omega
          rcases this with rfl | rfl | rfl
          · exact ⟨0, by decide, by decide, atI_nat (j := 0) rfl⟩
          · exact ⟨2, by decide, by decide, atI_nat (j := 1) rfl⟩
          · exact ⟨3, by decide, by decide, atI_nat (j := 2) rfl⟩
        refine ⟨.int d, rfl, .inl ⟨_, rfl, t0, _, _, _, rfl, rfl, SqT.of upd_same, hat, .ref a, rfl, sp, a, k, pl, w', W, ns, _, _, _, _, rfl, hk4, hk1, sp9.same e0, hpt9.same e0, hdr, fun H10 b pl' w2 s10 sp10 hb dr => ?_⟩⟩
        exact ⟨_, _, _, _, _, b, pl', w2, rfl, (t9.same e0).sb (sp9.same e0) s10, s10 _ _ ns1.symm (e0 _ _ f19), s10 _ _ ns2.symm (e0 _ _ f29), sp10, hb, dr.mono (by omega) (by omega) hB (by omega), fun b o nb1 nb2 ho => s10 _ _ nb2 (e0 _ _ (o9 _ _ nb1 nb2 ho))⟩
      · refine ⟨.ref sp, rfl, sp, _, rfl, sp9, by decide, by decide, fun H10 jz s10 sp10 j0 j1 => ?_⟩
        have t10 := t9.sb sp9 s10
        have f110 := s10 _ _ ns1.symm f19
        have f210 := s10 _ _ ns2.symm f29
        have hpt10 := hpt9.sb sp9 s10
        obtain ⟨j, rfl⟩ := Int.eq_ofNat_of_zero_le j0
        have hj1 : j < ns.length := by rw [hl]; omega
        have hj2 : j < ws.length := by rw [hl2]; omega
        have hW := t10.at' j ns[j] ws[j] (List.getElem?_eq_getElem hj1) (List.getElem?_eq_getElem hj2)
        have hk3 := t10.few ws[j] (List.getElem_mem hj2)
        have hin : ns[j] ∈ ns := List.getElem_mem hj1
        have hat1 : atI (ns.map V.str) (j : Int) = some (.str ns[j]) := atI_nat (by rw [List.getElem?_map, List.getElem?_eq_getElem hj1]; rfl)
        have hat2 : atI (ws.map fun k : Nat => V.int k) (j : Int) = some (.int ws[j]) := atI_nat (by rw [List.getElem?_map, List.getElem?_eq_getElem hj2]; rfl)
        generalize ns[j] = x at hW hin hat1
        generalize ws[j] = k at hW hk3 hat2
        refine ⟨.ref F1, rfl, .int (j : Nat), rfl, F1, _, _, .str x, rfl, rfl, SqL.of f110, hat1, by show 2 ≤ sizeLine; decide, fun t ht0 => ?_⟩
        have e1 := same_upd (o := .tup [V.str "table", .str x]) ht0
        have d1 : Da K (L2.upd H10 t (.tup [V.str "table", .str x])) (.ref t) (plD (.tab x)) := .tup upd_same (.cons (.str _) (.cons (.str _) .nil))
        refine ⟨.ref F2, rfl, .int (j : Nat), rfl, F2, _, _, .int k, rfl, rfl, SqL.of (e1 _ _ f210), hat2, by show 2 ≤ sizeLine; decide, fun R hR => ?_⟩
        have e2 := e1.trans (same_upd (o := .lst [V.ref t, .int k]) hR)
        have hR11 : PtAt K (L2.upd (L2.upd H10 t (.tup [V.str "table", .str x])) R (.lst [V.ref t, .int k])) R (.tab x) k := ⟨.ref t, upd_same, Da.same (same_upd hR) _ _ d1⟩
        have drR : Dr W ns (5 + i) 4 (outB i) (outS i) (.tab x) k := ⟨trivial, fun y hy => by rw [List.mem_singleton.mp hy]; exact hin, by show 1 ≤ _; omega, Nat.le_refl 4, by show 103 ≤ _; omega, by show 110 ≤ _; omega, by show W x ≤ 100; omega, hW, by omega⟩
        have t11 := t10.same e2
        have f111 := e2 _ _ f110
        have f211 := e2 _ _ f210
        have hpt11 := hpt10.same e2
        have sp11 := sp10.same e2
        generalize L2.upd (L2.upd H10 t (.tup [V.str "table", .str x])) R (.lst [V.ref t, .int k]) = H11 at e2 hR11 t11 f111 f211 hpt11 sp11 ⊢
        obtain ⟨v1, ha11, _⟩ := id hpt11
        obtain ⟨v2, hr11, _⟩ := id hR11
        refine ⟨.ref sp, rfl, .ref a, rfl, a, _, _, .int w', rfl, rfl, SqL.of ha11, atI_nat (j := 1) rfl, .ref R, rfl, R, _, _, .int k, rfl, rfl, SqL.of hr11, atI_nat (j := 1) rfl, sp, w', k, rfl, sp11, by omega, by omega, fun H12 vc cols s12 sp12 hc lc okc => ?_⟩
        have t12 := t11.sb sp11 s12
        have f112 := s12 _ _ ns1.symm f111
        have f212 := s12 _ _ ns2.symm f211
        obtain ⟨v1', ha12, hv1⟩ := hpt11.sb sp11 s12
        obtain ⟨v2', hr12, hv2⟩ := hR11.sb sp11 s12
        refine ⟨.ref a, rfl, a, _, _, v1', rfl, rfl, SqL.of ha12, atI_nat (j := 0) rfl, .ref R, rfl, R, _, _, v2', rfl, rfl, SqL.of hr12, atI_nat (j := 0) rfl, vc, rfl, by show 4 ≤ sizeLine; decide, fun t2 ht2 => ?_⟩
        have e3 := same_upd (o := .tup [V.str "without", v1', v2', vc]) ht2
        have d3 : Da K (L2.upd H12 t2 (.tup [V.str "without", v1', v2', vc])) (.ref t2) (plD (.without cols pl (.tab x))) := .tup upd_same (.cons (.str _) (.cons (Da.same e3 _ _ hv1) (.cons (Da.same e3 _ _ hv2) (.cons (Da.same e3 _ _ hc) .nil))))
        refine ⟨.ref a, rfl, a, _, _, .int w', rfl, rfl, SqL.of (e3 _ _ ha12), atI_nat (j := 1) rfl, by show 2 ≤ sizeLine; decide, fun b hb => ?_⟩
        have e4 := e3.trans (same_upd (o := .lst [V.ref t2, .int w']) hb)
        exact ⟨_, _, _, _, _, b, .without cols pl (.tab x), w', rfl, t12.same e4, e4 _ _ f112, e4 _ _ f212, sp12.same e4, ⟨_, upd_same, Da.same (same_upd hb) _ _ d3⟩, (hdr.without drR lc okc).mono (by omega) (by omega) hB hS, fun b o nb1 nb2 ho => e4 _ _ (s12 _ _ nb2 (e2 _ _ (s10 _ _ nb2 (o9 _ _ nb1 nb2 ho))))⟩
    obtain ⟨y6, y7, y10, y11, y12, a, pl, w', rfl, t8, f18, f28, sp8, hpt, hdr, o8⟩ := pv
    have hm2 : m = 0 ∨ m = 1 ∨ m = 2 := by omega
    have hdr := hdr.mono (dep' := 7) (many' := 632) (bits' := 4000) (sum' := 3000) (by omega) (by omega) (by rcases hm2 with rfl | rfl | rfl <;> decide) (by rcases hm2 with rfl | rfl | rfl <;> decide)
    have fit : FitP W pl := ⟨hdr.ok, Nat.le_trans hdr.many (by decide), Nat.le_trans hdr.bits (by decide), Nat.le_trans hdr.sum (by decide), Nat.le_trans hdr.top (by decide)⟩
    have hdeep := hdr.dep
    have hnames := hdr.names
    have hwid := hdr.wid
    have hfew := hdr.few
    clear hdr hpt7 sp7 t7 o7 hdr0
    have hkb : kb.map (fun kv => kV kv.1) = ks.map V.str := by
      have := congrArg (List.map kV) t8.kb
      rw [List.map_map, List.map_map] at this
      exact this
    refine ⟨.ref D2, rfl, D2, kb, rfl, t8.b, fun o ho => ?_⟩
    rw [hkb]
    have e12 := same_upd (o := .lst (ks.map V.str)) ho
    have g12 : L2.upd H8 o (.lst (ks.map V.str)) o = some (.lst (ks.map V.str)) := upd_same
    have t12 := t8.same e12
    have hpt12 := hpt.same e12
    have o12 : Old2 p sp H (L2.upd H8 o (.lst (ks.map V.str))) := fun b o nb1 nb2 ho => e12 _ _ (o8 _ _ nb1 nb2 ho)
    generalize L2.upd H8 o (.lst (ks.map V.str)) = H12 at e12 g12 t12 hpt12 o12 ⊢
    obtain ⟨v, ha, hv⟩ := hpt12
    have hDicL : ∀ x ∈ namesP pl, DicL H12 kl env x := fun x hx => t12.dl x (hnames x hx)
    have hDicB : ∀ x ∈ namesP pl, DicB K C H12 kb env x := fun x hx => t12.db x (hnames x hx)
    have lev := ev_lim t12.E pl fit.ok fit.many
    have hlen : ∀ {D : Tly}, D.Perm (evP env pl) → D.length ≤ 5000 ∧ ∀ q ∈ D, q.1.length ≤ 100 := fun pm => by
      refine ⟨?_, fun q hq => ?_⟩
      · rw [pm.length_eq]
        exact Nat.le_trans lev.len (Nat.le_trans fit.many (by decide))
      · rw [lev.wid q (pm.mem_iff.mp hq), hwid]
        omega
    refine ⟨.ref a, rfl, a, _, _, v, rfl, rfl, SqL.of ha, atI_nat (j := 0) rfl, .ref D2, rfl, v, D2, pl, W, env, kb, rfl, hv, hdeep, fit, t12.E, t12.b, hDicB, fun H14 b1 dx1 c1 T1 e14 hb1 PT1 => ?_⟩
    refine ⟨.ref b1, rfl, .ref a, rfl, a, _, _, v, rfl, rfl, SqL.of (e14 _ _ ha), atI_nat (j := 0) rfl, .ref D1, rfl, v, D1, pl, W, env, kl, rfl, Da.same e14 _ _ hv, hdeep, fit, t12.E, e14 _ _ t12.l, fun x hx => (hDicL x hx).same e14, fun H15 ld D e15 hD FD SD PD => ?_⟩
    obtain ⟨hDl, hDw⟩ := hlen PD
    refine ⟨b1, dx1, c1, ld, T1, D, rfl, hb1.same e15, hD, FD, SD, PT1.trans PD.symm, hDl, hDw, fun H17 e17 => ⟨true, rfl, iteF ?_⟩⟩
    have e1217 := (e14.trans e15).trans e17
    have hsk : ∀ x ∈ ks, okS x = true := fun x hx => hso x (t12.ksn x hx)
    refine ⟨.ref D2, rfl, D2, kb, rfl, e1217 _ _ t12.b, fun o2 ho2 => ?_⟩
    rw [hkb]
    have e18 := same_upd (o := .lst (ks.map V.str)) ho2
    have d18 : Da K (L2.upd H17 o2 (.lst (ks.map V.str))) (.ref o2) (.list (ks.map PyData.str)) := .lst (SqL.of upd_same) (da_strs ks)
    generalize L2.upd H17 o2 (.lst (ks.map V.str)) = H18 at e18 d18 ⊢
    have e1220 := e1217.trans e18
    refine ⟨.ref o, rfl, _, _, Da.dp _ _ d18, Da.dp _ _ (.lst (SqL.of (e1220 _ _ g12)) (da_strs ks)), shaped_strs ks hsk, shaped_strs ks hsk, _, rfl, ?_⟩
    rw [show PyData.eqv (.list (ks.map PyData.str)) (.list (ks.map PyData.str)) = true from eqv_strs ks]
    refine iteF ?_
    -- the bags stay
    have hks3 : ks.length ≤ 3 := by
      have := nodup_le ks ns t12.nd t12.ksn
      omega
    have stay : ∀ (x : Str), x ∈ ks → ∀ Hx, Same H12 Hx → ∀ (Q2 : VK), (∀ H', Same Hx H' → Q2 (.bl true) H') → ∃ (q0 a0 : Addr), valV kb (.inr x) = some (.ref q0) ∧ valV kl (.inr x) = some (.ref a0) ∧ spTells K C [.ref q0, .ref a0] Hx Q2 E0 := fun x hx Hx ex Q2 q2 => by
      obtain ⟨q0, dx0, c0, T0, vq, hB0, PT0⟩ := t12.getB hx
      obtain ⟨a0, D0, va, hD0, FD0, SD0, PD0⟩ := t12.getL hx
      have le := t12.E.lim x
      refine ⟨q0, a0, vq, va, q0, dx0, c0, a0, T0, D0, rfl, hB0.same ex, hD0.same ex, FD0, SD0, PT0.trans PD0.symm, ?_, fun q hq => ?_, q2⟩
      · rw [PD0.length_eq]
        exact Nat.le_trans le.len (by decide)
      · rw [le.wid q (PD0.mem_iff.mp hq)]
        obtain ⟨j, hj⟩ := List.mem_iff_getElem?.mp (t12.ksn x hx)
        have hjn : j < ns.length := (List.getElem?_eq_some_iff.mp hj).1
        have hj2 : j < ws.length := by rw [← t12.len]; exact hjn
        have := t12.at' j x ws[j] hj (List.getElem?_eq_getElem hj2)
        have := t12.few ws[j] (List.getElem_mem hj2)
        omega
    refine ⟨.ref o, rfl, o, rfl, ⟨_, SqL.of (e1220 _ _ g12)⟩, fun S hS => ?_⟩
    refine lc_val (walk_list (K := K) (xs := ks.map V.str)) hS (by rw [List.length_map]; omega) (fun H1 e1 => SqL.of ((e1220.trans e1) _ _ g12)) (List.replicate ks.length (V.bl true)) (by simp) (fun j z Ha Hb Q' hj e1 y k => ?_) (fun H21 e21 eS => ?_)
    · obtain ⟨rfl, hy⟩ := y
      rw [List.getElem?_map] at hy
      obtain ⟨x, hx, rfl⟩ := Option.map_eq_some_iff.mp hy
      rw [List.length_map] at hj
      have e12a := e1220.trans e1
      obtain ⟨q0, a0, vq, va, hsp⟩ := stay x (List.mem_of_getElem? hx) _ e12a _ (fun H' e' => k _ H' e' (by simp [hj]))
      have gb : DGet Hb D2 (.str x) (some (.ref q0)) := by
        rw [← vq]
        exact DGet.k (k := Sum.inr x) (e12a _ _ t12.b)
      have gl : DGet Hb D1 (.str x) (some (.ref a0)) := by
        rw [← va]
        exact DGet.k (k := Sum.inr x) (e12a _ _ t12.l)
      exact ⟨rfl, .ref D2, rfl, .str x, rfl, D2, _, rfl, gb, .ref D1, rfl, .str x, rfl, D1, _, rfl, gl, hsp⟩
    have e1221 := e1220.trans e21
    refine ⟨S, List.replicate ks.length true, rfl, SqL.of (by rw [eS, List.map_replicate]), ?_⟩
    rw [show (List.replicate ks.length true).all id = true by simp]
    exact q H21 fun b o nb1 nb2 ho => (e1220.trans e21) _ _ (o12 _ _ nb1 nb2 ho)
end
end K18

namespace K18
open PySem PySem.Spec PyProof.Rows L2 RW9 Tl
theorem kind_at {j : Int} (h0 : 0 ≤ j) (h1 : j < 4) : ∃ k : Nat, atI [V.str "distinct", .str "without", .str "group", .str "top"] j = some (.str (kindS k)) ∧ k < 4 := by
  obtain ⟨n, rfl⟩ := Int.eq_ofNat_of_zero_le h0
  have hn : n < 4 := by omega
  match n, hn with
  | 0, _ => exact ⟨0, atI_nat (j := 0) rfl, by decide⟩
  | 1, _ => exact ⟨1, atI_nat (j := 1) rfl, by decide⟩
  | 2, _ => exact ⟨2, atI_nat (j := 2) rfl, by decide⟩
  | 3, _ => exact ⟨3, atI_nat (j := 3) rfl, by decide⟩
/-- what a call with a new purse leaves -/
theorem same_new {H1 H2 H3 : Hp} {p : Addr} (e : Same H1 H2) (hn : H1 p = none) (s : SameB p H2 H3) : Same H1 H3 := fun b o ho => s _ _ (ne_of_none ho hn) (e _ _ ho)
section
variable {P : Program} {w : World} {K : PySem.W.Frag} {mg : Str → Option Value} {base : Heap} {C : Addr}
def spLaw (K : PySem.W.Frag) : Sp := fun vs H Q _ => ∃ (a : Addr) (ns : List Int), vs = [.ref a] ∧ SqL K H a (ns.map V.int) ∧ ns.length ≤ 63 ∧ ∀ H', Q (.bl true) H'
theorem d_law (B : Bt mg) (T : Top K mg "law" slaw ["script"]) (D_law_purse : Def P w K mg base "_law_purse" 1 ["script", "k"] (spPurse K)) (D_law_draw : Def P w K mg base "_law_draw" 1 ["purse", "many"] spDraw) (D_law_node_holds : Def P w K mg base "_law_node_holds" 9 ["purse", "kind"] spNodeHolds) (D_law_plan_holds : Def P w K mg base "_law_plan_holds" 15 ["purse", "spare"] spPlanHolds) : Def P w K mg base "law" 16 ["script"] (spLaw K) := by
  refine mk_def T sclaw (by rintro _ _ _ _ ⟨_, _, rfl, _⟩; rfl) fun f cdv A outer s H vs Q E hr h => ?_
  obtain ⟨a, ns, rfl, ha, hn, q⟩ := h
  refine ⟨_, (pss_cons (ps_set (i := 1) sclaw.nd rfl (Or.inl rfl) (pe_tup (pa_cons pe_str (pa_cons pe_str (pa_cons pe_str (pa_cons pe_str pa_nil))))))
      (pss_cons (ps_for PassesOwn.never rfl (pi_range1 (by rfl) B.m_range (pa_cons pe_int pa_nil)) (pg_name (i := 2) sclaw.nd rfl (Or.inl rfl)) (pss_one (ps_if (pt_not (pt_val (pe_def D_law_node_holds (hr.mono (by first | decide | omega)) (by rfl) (pa_cons (pe_def D_law_purse (hr.mono (by first | decide | omega)) (by rfl) (pa_cons (pv 0) (pa_cons (pv 2) pa_nil))) (pa_cons (pe_ix ix_tup (pv 1) (pv 2) (fun _ _ => rfl)) pa_nil))))) (pss_one (ps_ret pe_bl)) pss_nil)))
      (pss_cons (ps_if (pt_not (pt_val (pe_def D_law_plan_holds (hr.mono (by first | decide | omega)) (by rfl) (pa_cons (pe_def D_law_purse (hr.mono (by first | decide | omega)) (by rfl) (pa_cons (pv 0) (pa_cons pe_int pa_nil))) (pa_cons (pe_def D_law_purse (hr.mono (by first | decide | omega)) (by rfl) (pa_cons (pv 0) (pa_cons pe_int pa_nil))) pa_nil))))) (pss_one (ps_ret pe_bl)) pss_nil)
      (pss_cons (ps_for PassesOwn.never rfl (pi_range2 (by rfl) B.m_range (pa_cons pe_int (pa_cons (pe_callB (call_min2 rfl) (by rfl) B.m_min (by decide +kernel) (pa_cons (pe_callB call_len_seq (by rfl) B.m_len PySem.boot_len (pa_cons (pv 0) pa_nil)) (pa_cons pe_int pa_nil))) pa_nil))) (pg_name (i := 2) sclaw.nd rfl (Or.inl rfl)) (pss_cons (ps_set (i := 3) sclaw.nd rfl (Or.inl rfl) (pe_def D_law_purse (hr.mono (by first | decide | omega)) (by rfl) (pa_cons (pv 0) (pa_cons (pv 2) pa_nil))))
      (pss_one (ps_if (pt_not (pt_val (pe_def D_law_node_holds (hr.mono (by first | decide | omega)) (by rfl) (pa_cons (pv 3) (pa_cons (pe_ix ix_tup (pv 1) (pe_def D_law_draw (hr.mono (by first | decide | omega)) (by rfl) (pa_cons (pv 3) (pa_cons pe_int pa_nil))) (fun _ _ => rfl)) pa_nil))))) (pss_one (ps_ret pe_bl)) pss_nil))))
      (pss_one (ps_ret pe_bl)))))), ?_⟩
  refine ⟨by show 4 ≤ sizeLine; decide, fun t ht => ?_⟩
  have e0 := same_upd (o := .tup [V.str "distinct", .str "without", .str "group", .str "top"]) ht
  have ht0 := upd_same (H := H) (a := t) (o := .tup [V.str "distinct", .str "without", .str "group", .str "top"])
  have ha0 := seqL_same e0 ha
  generalize L2.upd H t _ = H0 at e0 ht0 ha0 ⊢
  clear ha ht e0
  refine ⟨4, rfl, by decide, by decide, ?_⟩
  refine for_range (lo := 0) (n := 4) (fun i σ' H' => ∃ y2 : Option V, σ' = [some (.ref a), some (.ref t), y2, none] ∧ Same H0 H') ⟨none, rfl, Same.refl _⟩ (fun i σ' H1 hi pv => ?_) (fun σ' H1 pv => ?_)
  · obtain ⟨y2, rfl, e1⟩ := pv
    refine ⟨.ref a, rfl, .int (0 + (i : Int)), rfl, a, ns, i, by rw [Int.zero_add]; rfl, seqL_same e1 ha0, by omega, fun H2 p e2 hp0 hp => ?_⟩
    obtain ⟨k, hat, hk⟩ := kind_at (j := 0 + (i : Int)) (by omega) (by omega)
    refine ⟨.ref t, rfl, .int (0 + (i : Int)), rfl, t, _, _, _, rfl, rfl, SqT.of ((e1.trans e2) _ _ ht0), hat, p, k, rfl, hk, hp, fun H3 s3 p3 => ⟨true, rfl, iteF ?_⟩⟩
    exact ⟨_, rfl, e1.trans (same_new e2 hp0 s3)⟩
  obtain ⟨y2, rfl, e1⟩ := pv
  refine ⟨.ref a, rfl, a, ns, 4, rfl, seqL_same e1 ha0, by decide, fun H2 p e2 hp0 hp => ?_⟩
  refine ⟨.ref a, rfl, a, ns, 5, rfl, seqL_same (e1.trans e2) ha0, by decide, fun H3 sp e3 hs0 hs => ?_⟩
  refine ⟨p, sp, rfl, hp.same e3, hs, hp.ne hs0, fun H4 o4 => ⟨true, rfl, iteF ?_⟩⟩
  have e4 : Same H0 H4 := e1.trans fun b o ho => o4 _ _ (ne_of_none ho hp0) (ne_of_none (e2 _ _ ho) hs0) (e3 _ _ (e2 _ _ ho))
  refine ⟨.ref a, rfl, a, _, rfl, .inl (seqL_same e4 ha0), _, _, rfl, ?_⟩
  have hh : ∃ hi : Int, (if (24 : Int) < ((ns.map V.int).length : Int) then (24 : Int) else ((ns.map V.int).length : Int)) = hi ∧ 0 ≤ hi ∧ hi ≤ 24 := by
    refine ⟨_, rfl, ?_, ?_⟩ <;> split <;> omega
  obtain ⟨hi, ehi, h0, h24⟩ := hh
  rw [ehi]
  refine ⟨6, hi, rfl, ⟨by decide, by decide, by omega, by omega⟩, ?_⟩
  refine for_range (lo := 6) (n := (hi - 6).toNat) (fun i σ' H' => ∃ y2 y3 : Option V, σ' = [some (.ref a), some (.ref t), y2, y3] ∧ Same H0 H') ⟨_, _, rfl, e4⟩ (fun i σ' H5 hi' pv => ?_) (fun σ' H5 pv => ?_)
  · obtain ⟨y2, y3, rfl, e5⟩ := pv
    refine ⟨.ref a, rfl, .int (6 + (i : Int)), rfl, a, ns, 6 + i, (by show [V.ref a, V.int (6 + (i : Int))] = [V.ref a, V.int ((6 + i : Nat) : Int)]; rw [show ((6 + i : Nat) : Int) = 6 + (i : Int) by omega]), seqL_same e5 ha0, by omega, fun H6 p e6 hp0 hp => ?_⟩
    have t6 := (e5.trans e6) _ _ ht0
    refine ⟨.ref p, rfl, .ref t, rfl, .ref p, rfl, p, _, rfl, hp, by decide, by decide, fun H7 d s7 p7 d0 d1 => ?_⟩
    obtain ⟨k, hat, hk⟩ := kind_at d0 d1
    refine ⟨t, _, _, _, rfl, rfl, SqT.of (hp.st (K := K) s7 _ _ t6), hat, p, k, rfl, hk, p7, fun H8 s8 p8 => ⟨true, rfl, iteF ?_⟩⟩
    exact ⟨_, _, rfl, e5.trans (same_new e6 hp0 (s7.trans s8))⟩
  · obtain ⟨y2, y3, rfl, e5⟩ := pv
    exact q H5
end
end K18

namespace K18
open PySem PySem.Spec PyProof.Rows L2
section
theorem all_mk {l : PySem.W.OpenLaw} {w : World} {K : PySem.W.Frag} {h : Heap} {mg : Str → Option Value} {fa C f0 f1 f2 f3 f4 f5 f6 f7 f8 f9 f10 f11 f12 f13 f14 f15 f16 f17 f18 f19 f20 f21 f22 f23 f24 f25 f26 f27 f28 f29 f30 f31 f32 f33 f34 f35 f36 f37 f38 f39 f40 f41 f42 f43 f44 f45 f46 f47 f48 f49 f50 f51 f52 f53 f54 f55 f56 f57 f58 f59 f60 f61 f62 f63 f64 f65 f66 f67 f68 : Addr} (X : K.In h) (G : h.Ns mainGlobals mg) (hfa : mg "law" = some (.ref fa))
    {od0 an0 : Option Addr} {sl0 : Array (Option Value)} {oc0 kV0 dc0 pm0 cd0 ct0 : Value}
    {od1 an1 : Option Addr} {sl1 : Array (Option Value)} {oc1 kV1 dc1 pm1 cd1 ct1 : Value}
    {od2 an2 : Option Addr} {sl2 : Array (Option Value)} {oc2 kV2 dc2 pm2 cd2 ct2 : Value}
    {od3 an3 : Option Addr} {sl3 : Array (Option Value)} {oc3 kV3 dc3 pm3 cd3 ct3 : Value}
    {od4 an4 : Option Addr} {sl4 : Array (Option Value)} {oc4 kV4 dc4 pm4 cd4 ct4 : Value}
    {od5 an5 : Option Addr} {sl5 : Array (Option Value)} {oc5 kV5 dc5 pm5 cd5 ct5 : Value}
    {od6 an6 : Option Addr} {sl6 : Array (Option Value)} {oc6 kV6 dc6 pm6 cd6 ct6 : Value}
    {od7 an7 : Option Addr} {sl7 : Array (Option Value)} {oc7 kV7 dc7 pm7 cd7 ct7 : Value}
    {od8 an8 : Option Addr} {sl8 : Array (Option Value)} {oc8 kV8 dc8 pm8 cd8 ct8 : Value}
    {od9 an9 : Option Addr} {sl9 : Array (Option Value)} {oc9 kV9 dc9 pm9 cd9 ct9 : Value}
    {od10 an10 : Option Addr} {sl10 : Array (Option Value)} {oc10 kV10 dc10 pm10 cd10 ct10 : Value}
    {od11 an11 : Option Addr} {sl11 : Array (Option Value)} {oc11 kV11 dc11 pm11 cd11 ct11 : Value}
    {od12 an12 : Option Addr} {sl12 : Array (Option Value)} {oc12 kV12 dc12 pm12 cd12 ct12 : Value}
    {od13 an13 : Option Addr} {sl13 : Array (Option Value)} {oc13 kV13 dc13 pm13 cd13 ct13 : Value}
    {od14 an14 : Option Addr} {sl14 : Array (Option Value)} {oc14 kV14 dc14 pm14 cd14 ct14 : Value}
    {od15 an15 : Option Addr} {sl15 : Array (Option Value)} {oc15 kV15 dc15 pm15 cd15 ct15 : Value}
    {od16 an16 : Option Addr} {sl16 : Array (Option Value)} {oc16 kV16 dc16 pm16 cd16 ct16 : Value}
    {od17 an17 : Option Addr} {sl17 : Array (Option Value)} {oc17 kV17 dc17 pm17 cd17 ct17 : Value}
    {od18 an18 : Option Addr} {sl18 : Array (Option Value)} {oc18 kV18 dc18 pm18 cd18 ct18 : Value}
    {od19 an19 : Option Addr} {sl19 : Array (Option Value)} {oc19 kV19 dc19 pm19 cd19 ct19 : Value}
    {od20 an20 : Option Addr} {sl20 : Array (Option Value)} {oc20 kV20 dc20 pm20 cd20 ct20 : Value}
    {od21 an21 : Option Addr} {sl21 : Array (Option Value)} {oc21 kV21 dc21 pm21 cd21 ct21 : Value}
    {od22 an22 : Option Addr} {sl22 : Array (Option Value)} {oc22 kV22 dc22 pm22 cd22 ct22 : Value}
    {od23 an23 : Option Addr} {sl23 : Array (Option Value)} {oc23 kV23 dc23 pm23 cd23 ct23 : Value}
    {od24 an24 : Option Addr} {sl24 : Array (Option Value)} {oc24 kV24 dc24 pm24 cd24 ct24 : Value}
    {od25 an25 : Option Addr} {sl25 : Array (Option Value)} {oc25 kV25 dc25 pm25 cd25 ct25 : Value}
    {od26 an26 : Option Addr} {sl26 : Array (Option Value)} {oc26 kV26 dc26 pm26 cd26 ct26 : Value}
    {od27 an27 : Option Addr} {sl27 : Array (Option Value)} {oc27 kV27 dc27 pm27 cd27 ct27 : Value}
    {od28 an28 : Option Addr} {sl28 : Array (Option Value)} {oc28 kV28 dc28 pm28 cd28 ct28 : Value}
    {od29 an29 : Option Addr} {sl29 : Array (Option Value)} {oc29 kV29 dc29 pm29 cd29 ct29 : Value}
    {od30 an30 : Option Addr} {sl30 : Array (Option Value)} {oc30 kV30 dc30 pm30 cd30 ct30 : Value}
    {od31 an31 : Option Addr} {sl31 : Array (Option Value)} {oc31 kV31 dc31 pm31 cd31 ct31 : Value}
    {od32 an32 : Option Addr} {sl32 : Array (Option Value)} {oc32 kV32 dc32 pm32 cd32 ct32 : Value}
    {od33 an33 : Option Addr} {sl33 : Array (Option Value)} {oc33 kV33 dc33 pm33 cd33 ct33 : Value}
    {od34 an34 : Option Addr} {sl34 : Array (Option Value)} {oc34 kV34 dc34 pm34 cd34 ct34 : Value}
    {od35 an35 : Option Addr} {sl35 : Array (Option Value)} {oc35 kV35 dc35 pm35 cd35 ct35 : Value}
    {od36 an36 : Option Addr} {sl36 : Array (Option Value)} {oc36 kV36 dc36 pm36 cd36 ct36 : Value}
    {od37 an37 : Option Addr} {sl37 : Array (Option Value)} {oc37 kV37 dc37 pm37 cd37 ct37 : Value}
    {od38 an38 : Option Addr} {sl38 : Array (Option Value)} {oc38 kV38 dc38 pm38 cd38 ct38 : Value}
    {od39 an39 : Option Addr} {sl39 : Array (Option Value)} {oc39 kV39 dc39 pm39 cd39 ct39 : Value}
    {od40 an40 : Option Addr} {sl40 : Array (Option Value)} {oc40 kV40 dc40 pm40 cd40 ct40 : Value}
    {od41 an41 : Option Addr} {sl41 : Array (Option Value)} {oc41 kV41 dc41 pm41 cd41 ct41 : Value}
    {od42 an42 : Option Addr} {sl42 : Array (Option Value)} {oc42 kV42 dc42 pm42 cd42 ct42 : Value}
    {od43 an43 : Option Addr} {sl43 : Array (Option Value)} {oc43 kV43 dc43 pm43 cd43 ct43 : Value}
    {od44 an44 : Option Addr} {sl44 : Array (Option Value)} {oc44 kV44 dc44 pm44 cd44 ct44 : Value}
    {od45 an45 : Option Addr} {sl45 : Array (Option Value)} {oc45 kV45 dc45 pm45 cd45 ct45 : Value}
    {od46 an46 : Option Addr} {sl46 : Array (Option Value)} {oc46 kV46 dc46 pm46 cd46 ct46 : Value}
    {od47 an47 : Option Addr} {sl47 : Array (Option Value)} {oc47 kV47 dc47 pm47 cd47 ct47 : Value}
    {od48 an48 : Option Addr} {sl48 : Array (Option Value)} {oc48 kV48 dc48 pm48 cd48 ct48 : Value}
    {od49 an49 : Option Addr} {sl49 : Array (Option Value)} {oc49 kV49 dc49 pm49 cd49 ct49 : Value}
    {od50 an50 : Option Addr} {sl50 : Array (Option Value)} {oc50 kV50 dc50 pm50 cd50 ct50 : Value}
    {od51 an51 : Option Addr} {sl51 : Array (Option Value)} {oc51 kV51 dc51 pm51 cd51 ct51 : Value}
    {od52 an52 : Option Addr} {sl52 : Array (Option Value)} {oc52 kV52 dc52 pm52 cd52 ct52 : Value}
    {od53 an53 : Option Addr} {sl53 : Array (Option Value)} {oc53 kV53 dc53 pm53 cd53 ct53 : Value}
    {od54 an54 : Option Addr} {sl54 : Array (Option Value)} {oc54 kV54 dc54 pm54 cd54 ct54 : Value}
    {od55 an55 : Option Addr} {sl55 : Array (Option Value)} {oc55 kV55 dc55 pm55 cd55 ct55 : Value}
    {od56 an56 : Option Addr} {sl56 : Array (Option Value)} {oc56 kV56 dc56 pm56 cd56 ct56 : Value}
    {od57 an57 : Option Addr} {sl57 : Array (Option Value)} {oc57 kV57 dc57 pm57 cd57 ct57 : Value}
    {od58 an58 : Option Addr} {sl58 : Array (Option Value)} {oc58 kV58 dc58 pm58 cd58 ct58 : Value}
    {od59 an59 : Option Addr} {sl59 : Array (Option Value)} {oc59 kV59 dc59 pm59 cd59 ct59 : Value}
    {od60 an60 : Option Addr} {sl60 : Array (Option Value)} {oc60 kV60 dc60 pm60 cd60 ct60 : Value}
    {od61 an61 : Option Addr} {sl61 : Array (Option Value)} {oc61 kV61 dc61 pm61 cd61 ct61 : Value}
    {od62 an62 : Option Addr} {sl62 : Array (Option Value)} {oc62 kV62 dc62 pm62 cd62 ct62 : Value}
    {od63 an63 : Option Addr} {sl63 : Array (Option Value)} {oc63 kV63 dc63 pm63 cd63 ct63 : Value}
    {od64 an64 : Option Addr} {sl64 : Array (Option Value)} {oc64 kV64 dc64 pm64 cd64 ct64 : Value}
    {od65 an65 : Option Addr} {sl65 : Array (Option Value)} {oc65 kV65 dc65 pm65 cd65 ct65 : Value}
    {od66 an66 : Option Addr} {sl66 : Array (Option Value)} {oc66 kV66 dc66 pm66 cd66 ct66 : Value}
    {od67 an67 : Option Addr} {sl67 : Array (Option Value)} {oc67 kV67 dc67 pm67 cd67 ct67 : Value}
    {od68 an68 : Option Addr} {sl68 : Array (Option Value)} {oc68 kV68 dc68 pm68 cd68 ct68 : Value}
    (aC : PySem.W.nsIn K mainGlobals "Bag" = some (some (.ref C)))
    (a0 : PySem.W.nsIn K mainGlobals "is_number" = some (some (.ref f0))) (l0 : K.lookup f0 = some ⟨oc0, od0, .func (PySem.W.fnOf "is_number" "is_number" (defArgs sis_number) (defBody sis_number) (defScope sis_number) .none kV0 dc0 pm0 an0 cd0 ct0), sl0⟩) (c0 : PySem.W.codeIn K cd0 "is_number" = true) (k0 : PySem.W.keepIn K (.ref f0) = true)
    (a1 : PySem.W.nsIn K mainGlobals "without_zeros" = some (some (.ref f1))) (l1 : K.lookup f1 = some ⟨oc1, od1, .func (PySem.W.fnOf "without_zeros" "without_zeros" (defArgs swithout_zeros) (defBody swithout_zeros) (defScope swithout_zeros) .none kV1 dc1 pm1 an1 cd1 ct1), sl1⟩) (c1 : PySem.W.codeIn K cd1 "without_zeros" = true) (k1 : PySem.W.keepIn K (.ref f1) = true)
    (a2 : PySem.W.nsIn K mainGlobals "times" = some (some (.ref f2))) (l2 : K.lookup f2 = some ⟨oc2, od2, .func (PySem.W.fnOf "times" "times" (defArgs stimes) (defBody stimes) (defScope stimes) .none kV2 dc2 pm2 an2 cd2 ct2), sl2⟩) (c2 : PySem.W.codeIn K cd2 "times" = true) (k2 : PySem.W.keepIn K (.ref f2) = true)
    (a3 : PySem.W.nsIn K mainGlobals "plus" = some (some (.ref f3))) (l3 : K.lookup f3 = some ⟨oc3, od3, .func (PySem.W.fnOf "plus" "plus" (defArgs splus) (defBody splus) (defScope splus) .none kV3 dc3 pm3 an3 cd3 ct3), sl3⟩) (c3 : PySem.W.codeIn K cd3 "plus" = true) (k3 : PySem.W.keepIn K (.ref f3) = true)
    (a4 : PySem.W.nsIn K mainGlobals "tally_of" = some (some (.ref f4))) (l4 : K.lookup f4 = some ⟨oc4, od4, .func (PySem.W.fnOf "tally_of" "tally_of" (defArgs stally_of) (defBody stally_of) (defScope stally_of) .none kV4 dc4 pm4 an4 cd4 ct4), sl4⟩) (c4 : PySem.W.codeIn K cd4 "tally_of" = true) (k4 : PySem.W.keepIn K (.ref f4) = true)
    (a5 : PySem.W.nsIn K mainGlobals "is_row" = some (some (.ref f5))) (l5 : K.lookup f5 = some ⟨oc5, od5, .func (PySem.W.fnOf "is_row" "is_row" (defArgs sis_row) (defBody sis_row) (defScope sis_row) .none kV5 dc5 pm5 an5 cd5 ct5), sl5⟩) (c5 : PySem.W.codeIn K cd5 "is_row" = true) (k5 : PySem.W.keepIn K (.ref f5) = true)
    (a6 : PySem.W.nsIn K mainGlobals "check_counted" = some (some (.ref f6))) (l6 : K.lookup f6 = some ⟨oc6, od6, .func (PySem.W.fnOf "check_counted" "check_counted" (defArgs scheck_counted) (defBody scheck_counted) (defScope scheck_counted) .none kV6 dc6 pm6 an6 cd6 ct6), sl6⟩) (c6 : PySem.W.codeIn K cd6 "check_counted" = true) (k6 : PySem.W.keepIn K (.ref f6) = true)
    (a7 : PySem.W.nsIn K mainGlobals "bag_of_tally" = some (some (.ref f7))) (l7 : K.lookup f7 = some ⟨oc7, od7, .func (PySem.W.fnOf "bag_of_tally" "bag_of_tally" (defArgs sbag_of_tally) (defBody sbag_of_tally) (defScope sbag_of_tally) .none kV7 dc7 pm7 an7 cd7 ct7), sl7⟩) (c7 : PySem.W.codeIn K cd7 "bag_of_tally" = true) (k7 : PySem.W.keepIn K (.ref f7) = true)
    (a8 : PySem.W.nsIn K mainGlobals "tally_in" = some (some (.ref f8))) (l8 : K.lookup f8 = some ⟨oc8, od8, .func (PySem.W.fnOf "tally_in" "tally_in" (defArgs stally_in) (defBody stally_in) (defScope stally_in) .none kV8 dc8 pm8 an8 cd8 ct8), sl8⟩) (c8 : PySem.W.codeIn K cd8 "tally_in" = true) (k8 : PySem.W.keepIn K (.ref f8) = true)
    (a9 : PySem.W.nsIn K mainGlobals "subplans" = some (some (.ref f9))) (l9 : K.lookup f9 = some ⟨oc9, od9, .func (PySem.W.fnOf "subplans" "subplans" (defArgs ssubplans) (defBody ssubplans) (defScope ssubplans) .none kV9 dc9 pm9 an9 cd9 ct9), sl9⟩) (c9 : PySem.W.codeIn K cd9 "subplans" = true) (k9 : PySem.W.keepIn K (.ref f9) = true)
    (a10 : PySem.W.nsIn K mainGlobals "value_of" = some (some (.ref f10))) (l10 : K.lookup f10 = some ⟨oc10, od10, .func (PySem.W.fnOf "value_of" "value_of" (defArgs svalue_of) (defBody svalue_of) (defScope svalue_of) .none kV10 dc10 pm10 an10 cd10 ct10), sl10⟩) (c10 : PySem.W.codeIn K cd10 "value_of" = true) (k10 : PySem.W.keepIn K (.ref f10) = true)
    (a11 : PySem.W.nsIn K mainGlobals "values_of" = some (some (.ref f11))) (l11 : K.lookup f11 = some ⟨oc11, od11, .func (PySem.W.fnOf "values_of" "values_of" (defArgs svalues_of) (defBody svalues_of) (defScope svalues_of) .none kV11 dc11 pm11 an11 cd11 ct11), sl11⟩) (c11 : PySem.W.codeIn K cd11 "values_of" = true) (k11 : PySem.W.keepIn K (.ref f11) = true)
    (a12 : PySem.W.nsIn K mainGlobals "compares" = some (some (.ref f12))) (l12 : K.lookup f12 = some ⟨oc12, od12, .func (PySem.W.fnOf "compares" "compares" (defArgs scompares) (defBody scompares) (defScope scompares) .none kV12 dc12 pm12 an12 cd12 ct12), sl12⟩) (c12 : PySem.W.codeIn K cd12 "compares" = true) (k12 : PySem.W.keepIn K (.ref f12) = true)
    (a13 : PySem.W.nsIn K mainGlobals "holds" = some (some (.ref f13))) (l13 : K.lookup f13 = some ⟨oc13, od13, .func (PySem.W.fnOf "holds" "holds" (defArgs sholds) (defBody sholds) (defScope sholds) .none kV13 dc13 pm13 an13 cd13 ct13), sl13⟩) (c13 : PySem.W.codeIn K cd13 "holds" = true) (k13 : PySem.W.keepIn K (.ref f13) = true)
    (a14 : PySem.W.nsIn K mainGlobals "free_parts" = some (some (.ref f14))) (l14 : K.lookup f14 = some ⟨oc14, od14, .func (PySem.W.fnOf "free_parts" "free_parts" (defArgs sfree_parts) (defBody sfree_parts) (defScope sfree_parts) .none kV14 dc14 pm14 an14 cd14 ct14), sl14⟩) (c14 : PySem.W.codeIn K cd14 "free_parts" = true) (k14 : PySem.W.keepIn K (.ref f14) = true)
    (a15 : PySem.W.nsIn K mainGlobals "tables_of" = some (some (.ref f15))) (l15 : K.lookup f15 = some ⟨oc15, od15, .func (PySem.W.fnOf "tables_of" "tables_of" (defArgs stables_of) (defBody stables_of) (defScope stables_of) .none kV15 dc15 pm15 an15 cd15 ct15), sl15⟩) (c15 : PySem.W.codeIn K cd15 "tables_of" = true) (k15 : PySem.W.keepIn K (.ref f15) = true)
    (a16 : PySem.W.nsIn K mainGlobals "picked" = some (some (.ref f16))) (l16 : K.lookup f16 = some ⟨oc16, od16, .func (PySem.W.fnOf "picked" "picked" (defArgs spicked) (defBody spicked) (defScope spicked) .none kV16 dc16 pm16 an16 cd16 ct16), sl16⟩) (c16 : PySem.W.codeIn K cd16 "picked" = true) (k16 : PySem.W.keepIn K (.ref f16) = true)
    (a17 : PySem.W.nsIn K mainGlobals "by_values" = some (some (.ref f17))) (l17 : K.lookup f17 = some ⟨oc17, od17, .func (PySem.W.fnOf "by_values" "by_values" (defArgs sby_values) (defBody sby_values) (defScope sby_values) .none kV17 dc17 pm17 an17 cd17 ct17), sl17⟩) (c17 : PySem.W.codeIn K cd17 "by_values" = true) (k17 : PySem.W.keepIn K (.ref f17) = true)
    (a18 : PySem.W.nsIn K mainGlobals "positive" = some (some (.ref f18))) (l18 : K.lookup f18 = some ⟨oc18, od18, .func (PySem.W.fnOf "positive" "positive" (defArgs spositive) (defBody spositive) (defScope spositive) .none kV18 dc18 pm18 an18 cd18 ct18), sl18⟩) (c18 : PySem.W.codeIn K cd18 "positive" = true) (k18 : PySem.W.keepIn K (.ref f18) = true)
    (a19 : PySem.W.nsIn K mainGlobals "work_choose" = some (some (.ref f19))) (l19 : K.lookup f19 = some ⟨oc19, od19, .func (PySem.W.fnOf "work_choose" "work_choose" (defArgs swork_choose) (defBody swork_choose) (defScope swork_choose) .none kV19 dc19 pm19 an19 cd19 ct19), sl19⟩) (c19 : PySem.W.codeIn K cd19 "work_choose" = true) (k19 : PySem.W.keepIn K (.ref f19) = true)
    (a20 : PySem.W.nsIn K mainGlobals "work_map" = some (some (.ref f20))) (l20 : K.lookup f20 = some ⟨oc20, od20, .func (PySem.W.fnOf "work_map" "work_map" (defArgs swork_map) (defBody swork_map) (defScope swork_map) .none kV20 dc20 pm20 an20 cd20 ct20), sl20⟩) (c20 : PySem.W.codeIn K cd20 "work_map" = true) (k20 : PySem.W.keepIn K (.ref f20) = true)
    (a21 : PySem.W.nsIn K mainGlobals "work_join" = some (some (.ref f21))) (l21 : K.lookup f21 = some ⟨oc21, od21, .func (PySem.W.fnOf "work_join" "work_join" (defArgs swork_join) (defBody swork_join) (defScope swork_join) .none kV21 dc21 pm21 an21 cd21 ct21), sl21⟩) (c21 : PySem.W.codeIn K cd21 "work_join" = true) (k21 : PySem.W.keepIn K (.ref f21) = true)
    (a22 : PySem.W.nsIn K mainGlobals "work_plus" = some (some (.ref f22))) (l22 : K.lookup f22 = some ⟨oc22, od22, .func (PySem.W.fnOf "work_plus" "work_plus" (defArgs swork_plus) (defBody swork_plus) (defScope swork_plus) .none kV22 dc22 pm22 an22 cd22 ct22), sl22⟩) (c22 : PySem.W.codeIn K cd22 "work_plus" = true) (k22 : PySem.W.keepIn K (.ref f22) = true)
    (a23 : PySem.W.nsIn K mainGlobals "work_less" = some (some (.ref f23))) (l23 : K.lookup f23 = some ⟨oc23, od23, .func (PySem.W.fnOf "work_less" "work_less" (defArgs swork_less) (defBody swork_less) (defScope swork_less) .none kV23 dc23 pm23 an23 cd23 ct23), sl23⟩) (c23 : PySem.W.codeIn K cd23 "work_less" = true) (k23 : PySem.W.keepIn K (.ref f23) = true)
    (a24 : PySem.W.nsIn K mainGlobals "work_distinct" = some (some (.ref f24))) (l24 : K.lookup f24 = some ⟨oc24, od24, .func (PySem.W.fnOf "work_distinct" "work_distinct" (defArgs swork_distinct) (defBody swork_distinct) (defScope swork_distinct) .none kV24 dc24 pm24 an24 cd24 ct24), sl24⟩) (c24 : PySem.W.codeIn K cd24 "work_distinct" = true) (k24 : PySem.W.keepIn K (.ref f24) = true)
    (a25 : PySem.W.nsIn K mainGlobals "work_without" = some (some (.ref f25))) (l25 : K.lookup f25 = some ⟨oc25, od25, .func (PySem.W.fnOf "work_without" "work_without" (defArgs swork_without) (defBody swork_without) (defScope swork_without) .none kV25 dc25 pm25 an25 cd25 ct25), sl25⟩) (c25 : PySem.W.codeIn K cd25 "work_without" = true) (k25 : PySem.W.keepIn K (.ref f25) = true)
    (a26 : PySem.W.nsIn K mainGlobals "value_of_group" = some (some (.ref f26))) (l26 : K.lookup f26 = some ⟨oc26, od26, .func (PySem.W.fnOf "value_of_group" "value_of_group" (defArgs svalue_of_group) (defBody svalue_of_group) (defScope svalue_of_group) .none kV26 dc26 pm26 an26 cd26 ct26), sl26⟩) (c26 : PySem.W.codeIn K cd26 "value_of_group" = true) (k26 : PySem.W.keepIn K (.ref f26) = true)
    (a27 : PySem.W.nsIn K mainGlobals "work_group" = some (some (.ref f27))) (l27 : K.lookup f27 = some ⟨oc27, od27, .func (PySem.W.fnOf "work_group" "work_group" (defArgs swork_group) (defBody swork_group) (defScope swork_group) .none kV27 dc27 pm27 an27 cd27 ct27), sl27⟩) (c27 : PySem.W.codeIn K cd27 "work_group" = true) (k27 : PySem.W.keepIn K (.ref f27) = true)
    (a28 : PySem.W.nsIn K mainGlobals "work_top" = some (some (.ref f28))) (l28 : K.lookup f28 = some ⟨oc28, od28, .func (PySem.W.fnOf "work_top" "work_top" (defArgs swork_top) (defBody swork_top) (defScope swork_top) .none kV28 dc28 pm28 an28 cd28 ct28), sl28⟩) (c28 : PySem.W.codeIn K cd28 "work_top" = true) (k28 : PySem.W.keepIn K (.ref f28) = true)
    (a29 : PySem.W.nsIn K mainGlobals "work" = some (some (.ref f29))) (l29 : K.lookup f29 = some ⟨oc29, od29, .func (PySem.W.fnOf "work" "work" (defArgs swork) (defBody swork) (defScope swork) .none kV29 dc29 pm29 an29 cd29 ct29), sl29⟩) (c29 : PySem.W.codeIn K cd29 "work" = true) (k29 : PySem.W.keepIn K (.ref f29) = true)
    (a30 : PySem.W.nsIn K mainGlobals "settled" = some (some (.ref f30))) (l30 : K.lookup f30 = some ⟨oc30, od30, .func (PySem.W.fnOf "settled" "settled" (defArgs ssettled) (defBody ssettled) (defScope ssettled) .none kV30 dc30 pm30 an30 cd30 ct30), sl30⟩) (c30 : PySem.W.codeIn K cd30 "settled" = true) (k30 : PySem.W.keepIn K (.ref f30) = true)
    (a31 : PySem.W.nsIn K mainGlobals "worked" = some (some (.ref f31))) (l31 : K.lookup f31 = some ⟨oc31, od31, .func (PySem.W.fnOf "worked" "worked" (defArgs sworked) (defBody sworked) (defScope sworked) .none kV31 dc31 pm31 an31 cd31 ct31), sl31⟩) (c31 : PySem.W.codeIn K cd31 "worked" = true) (k31 : PySem.W.keepIn K (.ref f31) = true)
    (a32 : PySem.W.nsIn K mainGlobals "answer" = some (some (.ref f32))) (l32 : K.lookup f32 = some ⟨oc32, od32, .func (PySem.W.fnOf "answer" "answer" (defArgs sanswer) (defBody sanswer) (defScope sanswer) .none kV32 dc32 pm32 an32 cd32 ct32), sl32⟩) (c32 : PySem.W.codeIn K cd32 "answer" = true) (k32 : PySem.W.keepIn K (.ref f32) = true)
    (a33 : PySem.W.nsIn K mainGlobals "tallies_of" = some (some (.ref f33))) (l33 : K.lookup f33 = some ⟨oc33, od33, .func (PySem.W.fnOf "tallies_of" "tallies_of" (defArgs stallies_of) (defBody stallies_of) (defScope stallies_of) .none kV33 dc33 pm33 an33 cd33 ct33), sl33⟩) (c33 : PySem.W.codeIn K cd33 "tallies_of" = true) (k33 : PySem.W.keepIn K (.ref f33) = true)
    (a34 : PySem.W.nsIn K mainGlobals "_law_integer" = some (some (.ref f34))) (l34 : K.lookup f34 = some ⟨oc34, od34, .func (PySem.W.fnOf "_law_integer" "_law_integer" (defArgs s_law_integer) (defBody s_law_integer) (defScope s_law_integer) .none kV34 dc34 pm34 an34 cd34 ct34), sl34⟩) (c34 : PySem.W.codeIn K cd34 "_law_integer" = true) (k34 : PySem.W.keepIn K (.ref f34) = true)
    (a35 : PySem.W.nsIn K mainGlobals "_law_purse" = some (some (.ref f35))) (l35 : K.lookup f35 = some ⟨oc35, od35, .func (PySem.W.fnOf "_law_purse" "_law_purse" (defArgs s_law_purse) (defBody s_law_purse) (defScope s_law_purse) .none kV35 dc35 pm35 an35 cd35 ct35), sl35⟩) (c35 : PySem.W.codeIn K cd35 "_law_purse" = true) (k35 : PySem.W.keepIn K (.ref f35) = true)
    (a36 : PySem.W.nsIn K mainGlobals "_law_draw" = some (some (.ref f36))) (l36 : K.lookup f36 = some ⟨oc36, od36, .func (PySem.W.fnOf "_law_draw" "_law_draw" (defArgs s_law_draw) (defBody s_law_draw) (defScope s_law_draw) .none kV36 dc36 pm36 an36 cd36 ct36), sl36⟩) (c36 : PySem.W.codeIn K cd36 "_law_draw" = true) (k36 : PySem.W.keepIn K (.ref f36) = true)
    (a37 : PySem.W.nsIn K mainGlobals "_law_number" = some (some (.ref f37))) (l37 : K.lookup f37 = some ⟨oc37, od37, .func (PySem.W.fnOf "_law_number" "_law_number" (defArgs s_law_number) (defBody s_law_number) (defScope s_law_number) .none kV37 dc37 pm37 an37 cd37 ct37), sl37⟩) (c37 : PySem.W.codeIn K cd37 "_law_number" = true) (k37 : PySem.W.keepIn K (.ref f37) = true)
    (a38 : PySem.W.nsIn K mainGlobals "_law_count" = some (some (.ref f38))) (l38 : K.lookup f38 = some ⟨oc38, od38, .func (PySem.W.fnOf "_law_count" "_law_count" (defArgs s_law_count) (defBody s_law_count) (defScope s_law_count) .none kV38 dc38 pm38 an38 cd38 ct38), sl38⟩) (c38 : PySem.W.codeIn K cd38 "_law_count" = true) (k38 : PySem.W.keepIn K (.ref f38) = true)
    (a39 : PySem.W.nsIn K mainGlobals "_law_pairs" = some (some (.ref f39))) (l39 : K.lookup f39 = some ⟨oc39, od39, .func (PySem.W.fnOf "_law_pairs" "_law_pairs" (defArgs s_law_pairs) (defBody s_law_pairs) (defScope s_law_pairs) .none kV39 dc39 pm39 an39 cd39 ct39), sl39⟩) (c39 : PySem.W.codeIn K cd39 "_law_pairs" = true) (k39 : PySem.W.keepIn K (.ref f39) = true)
    (a40 : PySem.W.nsIn K mainGlobals "_law_term" = some (some (.ref f40))) (l40 : K.lookup f40 = some ⟨oc40, od40, .func (PySem.W.fnOf "_law_term" "_law_term" (defArgs s_law_term) (defBody s_law_term) (defScope s_law_term) .none kV40 dc40 pm40 an40 cd40 ct40), sl40⟩) (c40 : PySem.W.codeIn K cd40 "_law_term" = true) (k40 : PySem.W.keepIn K (.ref f40) = true)
    (a41 : PySem.W.nsIn K mainGlobals "_law_tests" = some (some (.ref f41))) (l41 : K.lookup f41 = some ⟨oc41, od41, .func (PySem.W.fnOf "_law_tests" "_law_tests" (defArgs s_law_tests) (defBody s_law_tests) (defScope s_law_tests) .none kV41 dc41 pm41 an41 cd41 ct41), sl41⟩) (c41 : PySem.W.codeIn K cd41 "_law_tests" = true) (k41 : PySem.W.keepIn K (.ref f41) = true)
    (a42 : PySem.W.nsIn K mainGlobals "_law_terms" = some (some (.ref f42))) (l42 : K.lookup f42 = some ⟨oc42, od42, .func (PySem.W.fnOf "_law_terms" "_law_terms" (defArgs s_law_terms) (defBody s_law_terms) (defScope s_law_terms) .none kV42 dc42 pm42 an42 cd42 ct42), sl42⟩) (c42 : PySem.W.codeIn K cd42 "_law_terms" = true) (k42 : PySem.W.keepIn K (.ref f42) = true)
    (a43 : PySem.W.nsIn K mainGlobals "_law_columns" = some (some (.ref f43))) (l43 : K.lookup f43 = some ⟨oc43, od43, .func (PySem.W.fnOf "_law_columns" "_law_columns" (defArgs s_law_columns) (defBody s_law_columns) (defScope s_law_columns) .none kV43 dc43 pm43 an43 cd43 ct43), sl43⟩) (c43 : PySem.W.codeIn K cd43 "_law_columns" = true) (k43 : PySem.W.keepIn K (.ref f43) = true)
    (a44 : PySem.W.nsIn K mainGlobals "_law_keys" = some (some (.ref f44))) (l44 : K.lookup f44 = some ⟨oc44, od44, .func (PySem.W.fnOf "_law_keys" "_law_keys" (defArgs s_law_keys) (defBody s_law_keys) (defScope s_law_keys) .none kV44 dc44 pm44 an44 cd44 ct44), sl44⟩) (c44 : PySem.W.codeIn K cd44 "_law_keys" = true) (k44 : PySem.W.keepIn K (.ref f44) = true)
    (a45 : PySem.W.nsIn K mainGlobals "_law_sort" = some (some (.ref f45))) (l45 : K.lookup f45 = some ⟨oc45, od45, .func (PySem.W.fnOf "_law_sort" "_law_sort" (defArgs s_law_sort) (defBody s_law_sort) (defScope s_law_sort) .none kV45 dc45 pm45 an45 cd45 ct45), sl45⟩) (c45 : PySem.W.codeIn K cd45 "_law_sort" = true) (k45 : PySem.W.keepIn K (.ref f45) = true)
    (a46 : PySem.W.nsIn K mainGlobals "_law_many" = some (some (.ref f46))) (l46 : K.lookup f46 = some ⟨oc46, od46, .func (PySem.W.fnOf "_law_many" "_law_many" (defArgs s_law_many) (defBody s_law_many) (defScope s_law_many) .none kV46 dc46 pm46 an46 cd46 ct46), sl46⟩) (c46 : PySem.W.codeIn K cd46 "_law_many" = true) (k46 : PySem.W.keepIn K (.ref f46) = true)
    (a47 : PySem.W.nsIn K mainGlobals "_law_name" = some (some (.ref f47))) (l47 : K.lookup f47 = some ⟨oc47, od47, .func (PySem.W.fnOf "_law_name" "_law_name" (defArgs s_law_name) (defBody s_law_name) (defScope s_law_name) .none kV47 dc47 pm47 an47 cd47 ct47), sl47⟩) (c47 : PySem.W.codeIn K cd47 "_law_name" = true) (k47 : PySem.W.keepIn K (.ref f47) = true)
    (a48 : PySem.W.nsIn K mainGlobals "_law_sub" = some (some (.ref f48))) (l48 : K.lookup f48 = some ⟨oc48, od48, .func (PySem.W.fnOf "_law_sub" "_law_sub" (defArgs s_law_sub) (defBody s_law_sub) (defScope s_law_sub) .none kV48 dc48 pm48 an48 cd48 ct48), sl48⟩) (c48 : PySem.W.codeIn K cd48 "_law_sub" = true) (k48 : PySem.W.keepIn K (.ref f48) = true)
    (a49 : PySem.W.nsIn K mainGlobals "_law_node" = some (some (.ref f49))) (l49 : K.lookup f49 = some ⟨oc49, od49, .func (PySem.W.fnOf "_law_node" "_law_node" (defArgs s_law_node) (defBody s_law_node) (defScope s_law_node) .none kV49 dc49 pm49 an49 cd49 ct49), sl49⟩) (c49 : PySem.W.codeIn K cd49 "_law_node" = true) (k49 : PySem.W.keepIn K (.ref f49) = true)
    (a50 : PySem.W.nsIn K mainGlobals "_law_value" = some (some (.ref f50))) (l50 : K.lookup f50 = some ⟨oc50, od50, .func (PySem.W.fnOf "_law_value" "_law_value" (defArgs s_law_value) (defBody s_law_value) (defScope s_law_value) .none kV50 dc50 pm50 an50 cd50 ct50), sl50⟩) (c50 : PySem.W.codeIn K cd50 "_law_value" = true) (k50 : PySem.W.keepIn K (.ref f50) = true)
    (a51 : PySem.W.nsIn K mainGlobals "_law_test" = some (some (.ref f51))) (l51 : K.lookup f51 = some ⟨oc51, od51, .func (PySem.W.fnOf "_law_test" "_law_test" (defArgs s_law_test) (defBody s_law_test) (defScope s_law_test) .none kV51 dc51 pm51 an51 cd51 ct51), sl51⟩) (c51 : PySem.W.codeIn K cd51 "_law_test" = true) (k51 : PySem.W.keepIn K (.ref f51) = true)
    (a52 : PySem.W.nsIn K mainGlobals "_law_added" = some (some (.ref f52))) (l52 : K.lookup f52 = some ⟨oc52, od52, .func (PySem.W.fnOf "_law_added" "_law_added" (defArgs s_law_added) (defBody s_law_added) (defScope s_law_added) .none kV52 dc52 pm52 an52 cd52 ct52), sl52⟩) (c52 : PySem.W.codeIn K cd52 "_law_added" = true) (k52 : PySem.W.keepIn K (.ref f52) = true)
    (a53 : PySem.W.nsIn K mainGlobals "_law_agree" = some (some (.ref f53))) (l53 : K.lookup f53 = some ⟨oc53, od53, .func (PySem.W.fnOf "_law_agree" "_law_agree" (defArgs s_law_agree) (defBody s_law_agree) (defScope s_law_agree) .none kV53 dc53 pm53 an53 cd53 ct53), sl53⟩) (c53 : PySem.W.codeIn K cd53 "_law_agree" = true) (k53 : PySem.W.keepIn K (.ref f53) = true)
    (a54 : PySem.W.nsIn K mainGlobals "_law_grouped" = some (some (.ref f54))) (l54 : K.lookup f54 = some ⟨oc54, od54, .func (PySem.W.fnOf "_law_grouped" "_law_grouped" (defArgs s_law_grouped) (defBody s_law_grouped) (defScope s_law_grouped) .none kV54 dc54 pm54 an54 cd54 ct54), sl54⟩) (c54 : PySem.W.codeIn K cd54 "_law_grouped" = true) (k54 : PySem.W.keepIn K (.ref f54) = true)
    (a55 : PySem.W.nsIn K mainGlobals "_law_topped" = some (some (.ref f55))) (l55 : K.lookup f55 = some ⟨oc55, od55, .func (PySem.W.fnOf "_law_topped" "_law_topped" (defArgs s_law_topped) (defBody s_law_topped) (defScope s_law_topped) .none kV55 dc55 pm55 an55 cd55 ct55), sl55⟩) (c55 : PySem.W.codeIn K cd55 "_law_topped" = true) (k55 : PySem.W.keepIn K (.ref f55) = true)
    (a56 : PySem.W.nsIn K mainGlobals "_law_kept" = some (some (.ref f56))) (l56 : K.lookup f56 = some ⟨oc56, od56, .func (PySem.W.fnOf "_law_kept" "_law_kept" (defArgs s_law_kept) (defBody s_law_kept) (defScope s_law_kept) .none kV56 dc56 pm56 an56 cd56 ct56), sl56⟩) (c56 : PySem.W.codeIn K cd56 "_law_kept" = true) (k56 : PySem.W.keepIn K (.ref f56) = true)
    (a57 : PySem.W.nsIn K mainGlobals "_law_due" = some (some (.ref f57))) (l57 : K.lookup f57 = some ⟨oc57, od57, .func (PySem.W.fnOf "_law_due" "_law_due" (defArgs s_law_due) (defBody s_law_due) (defScope s_law_due) .none kV57 dc57 pm57 an57 cd57 ct57), sl57⟩) (c57 : PySem.W.codeIn K cd57 "_law_due" = true) (k57 : PySem.W.keepIn K (.ref f57) = true)
    (a58 : PySem.W.nsIn K mainGlobals "_law_from_nothing" = some (some (.ref f58))) (l58 : K.lookup f58 = some ⟨oc58, od58, .func (PySem.W.fnOf "_law_from_nothing" "_law_from_nothing" (defArgs s_law_from_nothing) (defBody s_law_from_nothing) (defScope s_law_from_nothing) .none kV58 dc58 pm58 an58 cd58 ct58), sl58⟩) (c58 : PySem.W.codeIn K cd58 "_law_from_nothing" = true) (k58 : PySem.W.keepIn K (.ref f58) = true)
    (a59 : PySem.W.nsIn K mainGlobals "_law_tells" = some (some (.ref f59))) (l59 : K.lookup f59 = some ⟨oc59, od59, .func (PySem.W.fnOf "_law_tells" "_law_tells" (defArgs s_law_tells) (defBody s_law_tells) (defScope s_law_tells) .none kV59 dc59 pm59 an59 cd59 ct59), sl59⟩) (c59 : PySem.W.codeIn K cd59 "_law_tells" = true) (k59 : PySem.W.keepIn K (.ref f59) = true)
    (a60 : PySem.W.nsIn K mainGlobals "_law_node_holds" = some (some (.ref f60))) (l60 : K.lookup f60 = some ⟨oc60, od60, .func (PySem.W.fnOf "_law_node_holds" "_law_node_holds" (defArgs s_law_node_holds) (defBody s_law_node_holds) (defScope s_law_node_holds) .none kV60 dc60 pm60 an60 cd60 ct60), sl60⟩) (c60 : PySem.W.codeIn K cd60 "_law_node_holds" = true) (k60 : PySem.W.keepIn K (.ref f60) = true)
    (a61 : PySem.W.nsIn K mainGlobals "_law_narrow" = some (some (.ref f61))) (l61 : K.lookup f61 = some ⟨oc61, od61, .func (PySem.W.fnOf "_law_narrow" "_law_narrow" (defArgs s_law_narrow) (defBody s_law_narrow) (defScope s_law_narrow) .none kV61 dc61 pm61 an61 cd61 ct61), sl61⟩) (c61 : PySem.W.codeIn K cd61 "_law_narrow" = true) (k61 : PySem.W.keepIn K (.ref f61) = true)
    (a62 : PySem.W.nsIn K mainGlobals "_law_one" = some (some (.ref f62))) (l62 : K.lookup f62 = some ⟨oc62, od62, .func (PySem.W.fnOf "_law_one" "_law_one" (defArgs s_law_one) (defBody s_law_one) (defScope s_law_one) .none kV62 dc62 pm62 an62 cd62 ct62), sl62⟩) (c62 : PySem.W.codeIn K cd62 "_law_one" = true) (k62 : PySem.W.keepIn K (.ref f62) = true)
    (a63 : PySem.W.nsIn K mainGlobals "_law_plan" = some (some (.ref f63))) (l63 : K.lookup f63 = some ⟨oc63, od63, .func (PySem.W.fnOf "_law_plan" "_law_plan" (defArgs s_law_plan) (defBody s_law_plan) (defScope s_law_plan) .none kV63 dc63 pm63 an63 cd63 ct63), sl63⟩) (c63 : PySem.W.codeIn K cd63 "_law_plan" = true) (k63 : PySem.W.keepIn K (.ref f63) = true)
    (a64 : PySem.W.nsIn K mainGlobals "_law_plan_holds" = some (some (.ref f64))) (l64 : K.lookup f64 = some ⟨oc64, od64, .func (PySem.W.fnOf "_law_plan_holds" "_law_plan_holds" (defArgs s_law_plan_holds) (defBody s_law_plan_holds) (defScope s_law_plan_holds) .none kV64 dc64 pm64 an64 cd64 ct64), sl64⟩) (c64 : PySem.W.codeIn K cd64 "_law_plan_holds" = true) (k64 : PySem.W.keepIn K (.ref f64) = true)
    (a65 : PySem.W.nsIn K mainGlobals "law" = some (some (.ref f65))) (l65 : K.lookup f65 = some ⟨oc65, od65, .func (PySem.W.fnOf "law" "law" (defArgs slaw) (defBody slaw) (defScope slaw) .none kV65 dc65 pm65 an65 cd65 ct65), sl65⟩) (c65 : PySem.W.codeIn K cd65 "law" = true) (k65 : PySem.W.keepIn K (.ref f65) = true)
    {dT dE : Addr} {ocT : Value} {odT odE : Option Addr} {nT nE : Nat} {slT slE : Array (Option Value)}
    (a66 : PySem.W.findIn K (.ref C) "__init__" = some (some (.ref f66))) (i66 : PySem.W.isFn K (.ref f66) = true) (l66 : K.lookup f66 = some ⟨oc66, od66, .func (PySem.W.fnOf "__init__" "Bag.__init__" (defArgs sBag___init__) (defBody sBag___init__) (defScope sBag___init__) (.ref dT) kV66 dc66 pm66 an66 cd66 ct66), sl66⟩) (c66 : PySem.W.codeIn K cd66 "Bag.__init__" = true) (k66 : PySem.W.keepIn K (.ref f66) = true) (lT : K.lookup dT = some ⟨ocT, odT, .seq #[.ref dE] nT, slT⟩) (lE : K.lookup dE = some ⟨.type "tuple", odE, .seq #[] nE, slE⟩)
    (a67 : PySem.W.findIn K (.ref C) "pairs" = some (some (.ref f67))) (i67 : PySem.W.isFn K (.ref f67) = true) (l67 : K.lookup f67 = some ⟨oc67, od67, .func (PySem.W.fnOf "pairs" "Bag.pairs" (defArgs sBag_pairs) (defBody sBag_pairs) (defScope sBag_pairs) .none kV67 dc67 pm67 an67 cd67 ct67), sl67⟩) (c67 : PySem.W.codeIn K cd67 "Bag.pairs" = true) (k67 : PySem.W.keepIn K (.ref f67) = true)
    (a68 : PySem.W.findIn K (.ref C) "__eq__" = some (some (.ref f68))) (i68 : PySem.W.isFn K (.ref f68) = true) (l68 : K.lookup f68 = some ⟨oc68, od68, .func (PySem.W.fnOf "__eq__" "Bag.__eq__" (defArgs sBag___eq__) (defBody sBag___eq__) (defScope sBag___eq__) .none kV68 dc68 pm68 an68 cd68 ct68), sl68⟩) (c68 : PySem.W.codeIn K cd68 "Bag.__eq__" = true) (k68 : PySem.W.keepIn K (.ref f68) = true)
    (pg : PySem.W.plainGet K C Str.empty = true) (hd : PySem.W.hasDictIn K C = true) (po : PySem.W.plainOver K C = true) (sa : PySem.W.findIn K (.ref C) "__setattr__" = some (some (.builtin "object.__setattr__"))) (mk : PySem.W.makesIn K C = true) (kc : PySem.W.keepIn K (.ref C) = true)
    (oha : PySem.W.findIn K (.ref C) "__class__" = some (some (.builtin "object.__class__"))) (ohn : PySem.W.specialIn K (.builtin "object.__class__") "__get__" = some (some (.builtin "getset_descriptor.__get__"))) (otk : PySem.W.takesIn K (.builtin "object.__class__") = some true) (ohm : PySem.W.mroIn K C (.type "object") = some true)
    (n0 : PySem.W.findIn K (.ref C) "_counts" = some none)
    {W_WORKS : Addr} {es_WORKS : Array DictEntry} {nn_WORKS : Nat} (aW_WORKS : PySem.W.nsIn K mainGlobals "WORKS" = some (some (.ref W_WORKS))) (lW_WORKS : K.lookup W_WORKS = some ⟨.type "dict", none, .dict es_WORKS nn_WORKS, #[]⟩) (kW_WORKS : PySem.W.KeysLit w.params es_WORKS.toList)
    {W_SUBPLANS : Addr} {es_SUBPLANS : Array DictEntry} {nn_SUBPLANS : Nat} (aW_SUBPLANS : PySem.W.nsIn K mainGlobals "SUBPLANS" = some (some (.ref W_SUBPLANS))) (lW_SUBPLANS : K.lookup W_SUBPLANS = some ⟨.type "dict", none, .dict es_SUBPLANS nn_SUBPLANS, #[]⟩) (kW_SUBPLANS : PySem.W.KeysLit w.params es_SUBPLANS.toList)
    (w_WORKS_choose : PySem.W.nsIn K W_WORKS "choose" = some (some (.ref f19)))
    (w_WORKS_map : PySem.W.nsIn K W_WORKS "map" = some (some (.ref f20)))
    (w_WORKS_join : PySem.W.nsIn K W_WORKS "join" = some (some (.ref f21)))
    (w_WORKS_plus : PySem.W.nsIn K W_WORKS "plus" = some (some (.ref f22)))
    (w_WORKS_less : PySem.W.nsIn K W_WORKS "less" = some (some (.ref f23)))
    (w_WORKS_distinct : PySem.W.nsIn K W_WORKS "distinct" = some (some (.ref f24)))
    (w_WORKS_without : PySem.W.nsIn K W_WORKS "without" = some (some (.ref f25)))
    (w_WORKS_group : PySem.W.nsIn K W_WORKS "group" = some (some (.ref f27)))
    (w_WORKS_top : PySem.W.nsIn K W_WORKS "top" = some (some (.ref f28)))
    {tp0 : Addr} {tpo0 : Option Addr} {tpn0 : Nat} {tps0 : Array (Option Value)} {tk0_0 : Tok} (u0 : PySem.W.nsIn K W_SUBPLANS "choose" = some (some (.ref tp0))) (tv0 : K.lookup tp0 = some ⟨.type "tuple", tpo0, .seq #[.int 1 tk0_0] tpn0, tps0⟩)
    {tp1 : Addr} {tpo1 : Option Addr} {tpn1 : Nat} {tps1 : Array (Option Value)} {tk1_0 : Tok} (u1 : PySem.W.nsIn K W_SUBPLANS "map" = some (some (.ref tp1))) (tv1 : K.lookup tp1 = some ⟨.type "tuple", tpo1, .seq #[.int 1 tk1_0] tpn1, tps1⟩)
    {tp2 : Addr} {tpo2 : Option Addr} {tpn2 : Nat} {tps2 : Array (Option Value)} {tk2_0 : Tok} (u2 : PySem.W.nsIn K W_SUBPLANS "distinct" = some (some (.ref tp2))) (tv2 : K.lookup tp2 = some ⟨.type "tuple", tpo2, .seq #[.int 1 tk2_0] tpn2, tps2⟩)
    {tp3 : Addr} {tpo3 : Option Addr} {tpn3 : Nat} {tps3 : Array (Option Value)} {tk3_0 : Tok} (u3 : PySem.W.nsIn K W_SUBPLANS "group" = some (some (.ref tp3))) (tv3 : K.lookup tp3 = some ⟨.type "tuple", tpo3, .seq #[.int 1 tk3_0] tpn3, tps3⟩)
    {tp4 : Addr} {tpo4 : Option Addr} {tpn4 : Nat} {tps4 : Array (Option Value)} {tk4_0 : Tok} (u4 : PySem.W.nsIn K W_SUBPLANS "top" = some (some (.ref tp4))) (tv4 : K.lookup tp4 = some ⟨.type "tuple", tpo4, .seq #[.int 1 tk4_0] tpn4, tps4⟩)
    {tp5 : Addr} {tpo5 : Option Addr} {tpn5 : Nat} {tps5 : Array (Option Value)} {tk5_0 : Tok} {tk5_1 : Tok} (u5 : PySem.W.nsIn K W_SUBPLANS "join" = some (some (.ref tp5))) (tv5 : K.lookup tp5 = some ⟨.type "tuple", tpo5, .seq #[.int 1 tk5_0, .int 2 tk5_1] tpn5, tps5⟩)
    {tp6 : Addr} {tpo6 : Option Addr} {tpn6 : Nat} {tps6 : Array (Option Value)} {tk6_0 : Tok} {tk6_1 : Tok} (u6 : PySem.W.nsIn K W_SUBPLANS "plus" = some (some (.ref tp6))) (tv6 : K.lookup tp6 = some ⟨.type "tuple", tpo6, .seq #[.int 1 tk6_0, .int 2 tk6_1] tpn6, tps6⟩)
    {tp7 : Addr} {tpo7 : Option Addr} {tpn7 : Nat} {tps7 : Array (Option Value)} {tk7_0 : Tok} {tk7_1 : Tok} (u7 : PySem.W.nsIn K W_SUBPLANS "less" = some (some (.ref tp7))) (tv7 : K.lookup tp7 = some ⟨.type "tuple", tpo7, .seq #[.int 1 tk7_0, .int 2 tk7_1] tpn7, tps7⟩)
    {tp8 : Addr} {tpo8 : Option Addr} {tpn8 : Nat} {tps8 : Array (Option Value)} {tk8_0 : Tok} {tk8_1 : Tok} (u8 : PySem.W.nsIn K W_SUBPLANS "without" = some (some (.ref tp8))) (tv8 : K.lookup tp8 = some ⟨.type "tuple", tpo8, .seq #[.int 1 tk8_0, .int 2 tk8_1] tpn8, tps8⟩)
    (z0 : PySem.W.nsIn K mainGlobals "all" = some none)
    (z1 : PySem.W.nsIn K mainGlobals "tuple" = some none)
    (z2 : PySem.W.nsIn K mainGlobals "sum" = some none)
    (z3 : PySem.W.nsIn K mainGlobals "abs" = some none)
    (z4 : PySem.W.nsIn K mainGlobals "int" = some none)
    (z5 : PySem.W.nsIn K mainGlobals "bool" = some none)
    (z6 : PySem.W.nsIn K mainGlobals "list" = some none)
    (z7 : PySem.W.nsIn K mainGlobals "len" = some none)
    (z8 : PySem.W.nsIn K mainGlobals "range" = some none)
    (z9 : PySem.W.nsIn K mainGlobals "isinstance" = some none)
    (z10 : PySem.W.nsIn K mainGlobals "sorted" = some none)
    (z11 : PySem.W.nsIn K mainGlobals "min" = some none)
    (z12 : PySem.W.nsIn K mainGlobals "enumerate" = some none)
    (z13 : PySem.W.nsIn K mainGlobals "zip" = some none)
    (z14 : PySem.W.nsIn K mainGlobals "max" = some none)
    (z15 : PySem.W.nsIn K mainGlobals "any" = some none)
    : ∃ fd : FuncData, (∀ (s : Shared) (v : Value), BindsTo s fd ⟨[v], []⟩ [("script", v)]) ∧ ∀ base : Heap, K.In base → base.Ns mainGlobals mg → FnOk l.prog w K mg base CX0 16 fa fd ["script"] (spLaw K) := by
  have e := hfa.symm.trans (PySem.W.mg_of X G a65)
  cases e
  have B : Bt mg := ⟨PySem.W.mg_none_of X G z0, PySem.W.mg_none_of X G z1, PySem.W.mg_none_of X G z2, PySem.W.mg_none_of X G z3, PySem.W.mg_none_of X G z4, PySem.W.mg_none_of X G z5, PySem.W.mg_none_of X G z6, PySem.W.mg_none_of X G z7, PySem.W.mg_none_of X G z8, PySem.W.mg_none_of X G z9, PySem.W.mg_none_of X G z10, PySem.W.mg_none_of X G z11, PySem.W.mg_none_of X G z12, PySem.W.mg_none_of X G z13, PySem.W.mg_none_of X G z14, PySem.W.mg_none_of X G z15⟩
  have Cl : Cls K C := ⟨pg, hd, po, sa⟩
  have mC := PySem.W.mg_of X G aC
  have XI : TxI K C := ⟨oha, ohn, otk, ohm, kit_self⟩
  have F0 := fun_mk (st := sis_number) l0 c0 k0
  have Tis_number : Top K mg "is_number" sis_number ["value"] := ⟨_, _, F0, PySem.W.mg_of X G a0, F0.binds (ps := ["value"]) fun _ _ _ _ _ _ us hl => match us, hl with | [_], _ => rfl⟩
  have F1 := fun_mk (st := swithout_zeros) l1 c1 k1
  have Twithout_zeros : Top K mg "without_zeros" swithout_zeros ["counts"] := ⟨_, _, F1, PySem.W.mg_of X G a1, F1.binds (ps := ["counts"]) fun _ _ _ _ _ _ us hl => match us, hl with | [_], _ => rfl⟩
  have F2 := fun_mk (st := stimes) l2 c2 k2
  have Ttimes : Top K mg "times" stimes ["counts", "factor"] := ⟨_, _, F2, PySem.W.mg_of X G a2, F2.binds (ps := ["counts", "factor"]) fun _ _ _ _ _ _ us hl => match us, hl with | [_, _], _ => rfl⟩
  have F3 := fun_mk (st := splus) l3 c3 k3
  have Tplus : Top K mg "plus" splus ["first", "second"] := ⟨_, _, F3, PySem.W.mg_of X G a3, F3.binds (ps := ["first", "second"]) fun _ _ _ _ _ _ us hl => match us, hl with | [_, _], _ => rfl⟩
  have F4 := fun_mk (st := stally_of) l4 c4 k4
  have Ttally_of : Top K mg "tally_of" stally_of ["pairs"] := ⟨_, _, F4, PySem.W.mg_of X G a4, F4.binds (ps := ["pairs"]) fun _ _ _ _ _ _ us hl => match us, hl with | [_], _ => rfl⟩
  have F5 := fun_mk (st := sis_row) l5 c5 k5
  have Tis_row : Top K mg "is_row" sis_row ["value"] := ⟨_, _, F5, PySem.W.mg_of X G a5, F5.binds (ps := ["value"]) fun _ _ _ _ _ _ us hl => match us, hl with | [_], _ => rfl⟩
  have F6 := fun_mk (st := scheck_counted) l6 c6 k6
  have Tcheck_counted : Top K mg "check_counted" scheck_counted ["row", "count"] := ⟨_, _, F6, PySem.W.mg_of X G a6, F6.binds (ps := ["row", "count"]) fun _ _ _ _ _ _ us hl => match us, hl with | [_, _], _ => rfl⟩
  have F7 := fun_mk (st := sbag_of_tally) l7 c7 k7
  have Tbag_of_tally : Top K mg "bag_of_tally" sbag_of_tally ["counts"] := ⟨_, _, F7, PySem.W.mg_of X G a7, F7.binds (ps := ["counts"]) fun _ _ _ _ _ _ us hl => match us, hl with | [_], _ => rfl⟩
  have F8 := fun_mk (st := stally_in) l8 c8 k8
  have Ttally_in : Top K mg "tally_in" stally_in ["bag"] := ⟨_, _, F8, PySem.W.mg_of X G a8, F8.binds (ps := ["bag"]) fun _ _ _ _ _ _ us hl => match us, hl with | [_], _ => rfl⟩
  have F9 := fun_mk (st := ssubplans) l9 c9 k9
  have Tsubplans : Top K mg "subplans" ssubplans ["node"] := ⟨_, _, F9, PySem.W.mg_of X G a9, F9.binds (ps := ["node"]) fun _ _ _ _ _ _ us hl => match us, hl with | [_], _ => rfl⟩
  have F10 := fun_mk (st := svalue_of) l10 c10 k10
  have Tvalue_of : Top K mg "value_of" svalue_of ["term", "row"] := ⟨_, _, F10, PySem.W.mg_of X G a10, F10.binds (ps := ["term", "row"]) fun _ _ _ _ _ _ us hl => match us, hl with | [_, _], _ => rfl⟩
  have F11 := fun_mk (st := svalues_of) l11 c11 k11
  have Tvalues_of : Top K mg "values_of" svalues_of ["terms", "row"] := ⟨_, _, F11, PySem.W.mg_of X G a11, F11.binds (ps := ["terms", "row"]) fun _ _ _ _ _ _ us hl => match us, hl with | [_, _], _ => rfl⟩
  have F12 := fun_mk (st := scompares) l12 c12 k12
  have Tcompares : Top K mg "compares" scompares ["left", "op", "right"] := ⟨_, _, F12, PySem.W.mg_of X G a12, F12.binds (ps := ["left", "op", "right"]) fun _ _ _ _ _ _ us hl => match us, hl with | [_, _, _], _ => rfl⟩
  have F13 := fun_mk (st := sholds) l13 c13 k13
  have Tholds : Top K mg "holds" sholds ["tests", "row"] := ⟨_, _, F13, PySem.W.mg_of X G a13, F13.binds (ps := ["tests", "row"]) fun _ _ _ _ _ _ us hl => match us, hl with | [_, _], _ => rfl⟩
  have F14 := fun_mk (st := sfree_parts) l14 c14 k14
  have Tfree_parts : Top K mg "free_parts" sfree_parts ["node", "path", "loops"] := ⟨_, _, F14, PySem.W.mg_of X G a14, F14.binds (ps := ["node", "path", "loops"]) fun _ _ _ _ _ _ us hl => match us, hl with | [_, _, _], _ => rfl⟩
  have F15 := fun_mk (st := stables_of) l15 c15 k15
  have Ttables_of : Top K mg "tables_of" stables_of ["plan"] := ⟨_, _, F15, PySem.W.mg_of X G a15, F15.binds (ps := ["plan"]) fun _ _ _ _ _ _ us hl => match us, hl with | [_], _ => rfl⟩
  have F16 := fun_mk (st := spicked) l16 c16 k16
  have Tpicked : Top K mg "picked" spicked ["row", "columns"] := ⟨_, _, F16, PySem.W.mg_of X G a16, F16.binds (ps := ["row", "columns"]) fun _ _ _ _ _ _ us hl => match us, hl with | [_, _], _ => rfl⟩
  have F17 := fun_mk (st := sby_values) l17 c17 k17
  have Tby_values : Top K mg "by_values" sby_values ["rows", "columns"] := ⟨_, _, F17, PySem.W.mg_of X G a17, F17.binds (ps := ["rows", "columns"]) fun _ _ _ _ _ _ us hl => match us, hl with | [_, _], _ => rfl⟩
  have F18 := fun_mk (st := spositive) l18 c18 k18
  have Tpositive : Top K mg "positive" spositive ["counts"] := ⟨_, _, F18, PySem.W.mg_of X G a18, F18.binds (ps := ["counts"]) fun _ _ _ _ _ _ us hl => match us, hl with | [_], _ => rfl⟩
  have F19 := fun_mk (st := swork_choose) l19 c19 k19
  have Twork_choose : Top K mg "work_choose" swork_choose ["node", "counts"] := ⟨_, _, F19, PySem.W.mg_of X G a19, F19.binds (ps := ["node", "counts"]) fun _ _ _ _ _ _ us hl => match us, hl with | [_, _], _ => rfl⟩
  have F20 := fun_mk (st := swork_map) l20 c20 k20
  have Twork_map : Top K mg "work_map" swork_map ["node", "counts"] := ⟨_, _, F20, PySem.W.mg_of X G a20, F20.binds (ps := ["node", "counts"]) fun _ _ _ _ _ _ us hl => match us, hl with | [_, _], _ => rfl⟩
  have F21 := fun_mk (st := swork_join) l21 c21 k21
  have Twork_join : Top K mg "work_join" swork_join ["node", "left", "right"] := ⟨_, _, F21, PySem.W.mg_of X G a21, F21.binds (ps := ["node", "left", "right"]) fun _ _ _ _ _ _ us hl => match us, hl with | [_, _, _], _ => rfl⟩
  have F22 := fun_mk (st := swork_plus) l22 c22 k22
  have Twork_plus : Top K mg "work_plus" swork_plus ["_", "left", "right"] := ⟨_, _, F22, PySem.W.mg_of X G a22, F22.binds (ps := ["_", "left", "right"]) fun _ _ _ _ _ _ us hl => match us, hl with | [_, _, _], _ => rfl⟩
  have F23 := fun_mk (st := swork_less) l23 c23 k23
  have Twork_less : Top K mg "work_less" swork_less ["_", "left", "right"] := ⟨_, _, F23, PySem.W.mg_of X G a23, F23.binds (ps := ["_", "left", "right"]) fun _ _ _ _ _ _ us hl => match us, hl with | [_, _, _], _ => rfl⟩
  have F24 := fun_mk (st := swork_distinct) l24 c24 k24
  have Twork_distinct : Top K mg "work_distinct" swork_distinct ["_", "counts"] := ⟨_, _, F24, PySem.W.mg_of X G a24, F24.binds (ps := ["_", "counts"]) fun _ _ _ _ _ _ us hl => match us, hl with | [_, _], _ => rfl⟩
  have F25 := fun_mk (st := swork_without) l25 c25 k25
  have Twork_without : Top K mg "work_without" swork_without ["node", "left", "right"] := ⟨_, _, F25, PySem.W.mg_of X G a25, F25.binds (ps := ["node", "left", "right"]) fun _ _ _ _ _ _ us hl => match us, hl with | [_, _, _], _ => rfl⟩
  have F26 := fun_mk (st := svalue_of_group) l26 c26 k26
  have Tvalue_of_group : Top K mg "value_of_group" svalue_of_group ["sort", "rows", "counts"] := ⟨_, _, F26, PySem.W.mg_of X G a26, F26.binds (ps := ["sort", "rows", "counts"]) fun _ _ _ _ _ _ us hl => match us, hl with | [_, _, _], _ => rfl⟩
  have F27 := fun_mk (st := swork_group) l27 c27 k27
  have Twork_group : Top K mg "work_group" swork_group ["node", "counts"] := ⟨_, _, F27, PySem.W.mg_of X G a27, F27.binds (ps := ["node", "counts"]) fun _ _ _ _ _ _ us hl => match us, hl with | [_, _], _ => rfl⟩
  have F28 := fun_mk (st := swork_top) l28 c28 k28
  have Twork_top : Top K mg "work_top" swork_top ["node", "counts"] := ⟨_, _, F28, PySem.W.mg_of X G a28, F28.binds (ps := ["node", "counts"]) fun _ _ _ _ _ _ us hl => match us, hl with | [_, _], _ => rfl⟩
  have F29 := fun_mk (st := swork) l29 c29 k29
  have Twork : Top K mg "work" swork ["node", "tallies"] := ⟨_, _, F29, PySem.W.mg_of X G a29, F29.binds (ps := ["node", "tallies"]) fun _ _ _ _ _ _ us hl => match us, hl with | [_, _], _ => rfl⟩
  have F30 := fun_mk (st := ssettled) l30 c30 k30
  have Tsettled : Top K mg "settled" ssettled ["plan", "tables"] := ⟨_, _, F30, PySem.W.mg_of X G a30, F30.binds (ps := ["plan", "tables"]) fun _ _ _ _ _ _ us hl => match us, hl with | [_, _], _ => rfl⟩
  have F31 := fun_mk (st := sworked) l31 c31 k31
  have Tworked : TopS K mg "worked" sworked ["node"] "bags" := ⟨_, _, F31, PySem.W.mg_of X G a31, fun us rest hl => match us, hl with | [_], _ => by cases rest with | nil => rfl | cons r rest => rfl⟩
  have F32 := fun_mk (st := sanswer) l32 c32 k32
  have Tanswer : Top K mg "answer" sanswer ["plan", "tables"] := ⟨_, _, F32, PySem.W.mg_of X G a32, F32.binds (ps := ["plan", "tables"]) fun _ _ _ _ _ _ us hl => match us, hl with | [_, _], _ => rfl⟩
  have F33 := fun_mk (st := stallies_of) l33 c33 k33
  have Ttallies_of : Top K mg "tallies_of" stallies_of ["plan", "tables"] := ⟨_, _, F33, PySem.W.mg_of X G a33, F33.binds (ps := ["plan", "tables"]) fun _ _ _ _ _ _ us hl => match us, hl with | [_, _], _ => rfl⟩
  have F34 := fun_mk (st := s_law_integer) l34 c34 k34
  have T_law_integer : Top K mg "_law_integer" s_law_integer ["value"] := ⟨_, _, F34, PySem.W.mg_of X G a34, F34.binds (ps := ["value"]) fun _ _ _ _ _ _ us hl => match us, hl with | [_], _ => rfl⟩
  have F35 := fun_mk (st := s_law_purse) l35 c35 k35
  have T_law_purse : Top K mg "_law_purse" s_law_purse ["script", "k"] := ⟨_, _, F35, PySem.W.mg_of X G a35, F35.binds (ps := ["script", "k"]) fun _ _ _ _ _ _ us hl => match us, hl with | [_, _], _ => rfl⟩
  have F36 := fun_mk (st := s_law_draw) l36 c36 k36
  have T_law_draw : Top K mg "_law_draw" s_law_draw ["purse", "many"] := ⟨_, _, F36, PySem.W.mg_of X G a36, F36.binds (ps := ["purse", "many"]) fun _ _ _ _ _ _ us hl => match us, hl with | [_, _], _ => rfl⟩
  have F37 := fun_mk (st := s_law_number) l37 c37 k37
  have T_law_number : Top K mg "_law_number" s_law_number ["purse"] := ⟨_, _, F37, PySem.W.mg_of X G a37, F37.binds (ps := ["purse"]) fun _ _ _ _ _ _ us hl => match us, hl with | [_], _ => rfl⟩
  have F38 := fun_mk (st := s_law_count) l38 c38 k38
  have T_law_count : Top K mg "_law_count" s_law_count ["purse", "small"] := ⟨_, _, F38, PySem.W.mg_of X G a38, F38.binds (ps := ["purse", "small"]) fun _ _ _ _ _ _ us hl => match us, hl with | [_, _], _ => rfl⟩
  have F39 := fun_mk (st := s_law_pairs) l39 c39 k39
  have T_law_pairs : Top K mg "_law_pairs" s_law_pairs ["purse", "width", "most", "small"] := ⟨_, _, F39, PySem.W.mg_of X G a39, F39.binds (ps := ["purse", "width", "most", "small"]) fun _ _ _ _ _ _ us hl => match us, hl with | [_, _, _, _], _ => rfl⟩
  have F40 := fun_mk (st := s_law_term) l40 c40 k40
  have T_law_term : Top K mg "_law_term" s_law_term ["purse", "width"] := ⟨_, _, F40, PySem.W.mg_of X G a40, F40.binds (ps := ["purse", "width"]) fun _ _ _ _ _ _ us hl => match us, hl with | [_, _], _ => rfl⟩
  have F41 := fun_mk (st := s_law_tests) l41 c41 k41
  have T_law_tests : Top K mg "_law_tests" s_law_tests ["purse", "width"] := ⟨_, _, F41, PySem.W.mg_of X G a41, F41.binds (ps := ["purse", "width"]) fun _ _ _ _ _ _ us hl => match us, hl with | [_, _], _ => rfl⟩
  have F42 := fun_mk (st := s_law_terms) l42 c42 k42
  have T_law_terms : Top K mg "_law_terms" s_law_terms ["purse", "width"] := ⟨_, _, F42, PySem.W.mg_of X G a42, F42.binds (ps := ["purse", "width"]) fun _ _ _ _ _ _ us hl => match us, hl with | [_, _], _ => rfl⟩
  have F43 := fun_mk (st := s_law_columns) l43 c43 k43
  have T_law_columns : Top K mg "_law_columns" s_law_columns ["purse", "left", "right"] := ⟨_, _, F43, PySem.W.mg_of X G a43, F43.binds (ps := ["purse", "left", "right"]) fun _ _ _ _ _ _ us hl => match us, hl with | [_, _, _], _ => rfl⟩
  have F44 := fun_mk (st := s_law_keys) l44 c44 k44
  have T_law_keys : Top K mg "_law_keys" s_law_keys ["purse", "width"] := ⟨_, _, F44, PySem.W.mg_of X G a44, F44.binds (ps := ["purse", "width"]) fun _ _ _ _ _ _ us hl => match us, hl with | [_, _], _ => rfl⟩
  have F45 := fun_mk (st := s_law_sort) l45 c45 k45
  have T_law_sort : Top K mg "_law_sort" s_law_sort ["purse", "width"] := ⟨_, _, F45, PySem.W.mg_of X G a45, F45.binds (ps := ["purse", "width"]) fun _ _ _ _ _ _ us hl => match us, hl with | [_, _], _ => rfl⟩
  have F46 := fun_mk (st := s_law_many) l46 c46 k46
  have T_law_many : Top K mg "_law_many" s_law_many ["purse"] := ⟨_, _, F46, PySem.W.mg_of X G a46, F46.binds (ps := ["purse"]) fun _ _ _ _ _ _ us hl => match us, hl with | [_], _ => rfl⟩
  have F47 := fun_mk (st := s_law_name) l47 c47 k47
  have T_law_name : Top K mg "_law_name" s_law_name ["purse", "taken"] := ⟨_, _, F47, PySem.W.mg_of X G a47, F47.binds (ps := ["purse", "taken"]) fun _ _ _ _ _ _ us hl => match us, hl with | [_, _], _ => rfl⟩
  have F48 := fun_mk (st := s_law_sub) l48 c48 k48
  have T_law_sub : Top K mg "_law_sub" s_law_sub ["purse"] := ⟨_, _, F48, PySem.W.mg_of X G a48, F48.binds (ps := ["purse"]) fun _ _ _ _ _ _ us hl => match us, hl with | [_], _ => rfl⟩
  have F49 := fun_mk (st := s_law_node) l49 c49 k49
  have T_law_node : Top K mg "_law_node" s_law_node ["purse", "kind", "first", "second", "left", "right"] := ⟨_, _, F49, PySem.W.mg_of X G a49, F49.binds (ps := ["purse", "kind", "first", "second", "left", "right"]) fun _ _ _ _ _ _ us hl => match us, hl with | [_, _, _, _, _, _], _ => rfl⟩
  have F50 := fun_mk (st := s_law_value) l50 c50 k50
  have T_law_value : Top K mg "_law_value" s_law_value ["term", "row"] := ⟨_, _, F50, PySem.W.mg_of X G a50, F50.binds (ps := ["term", "row"]) fun _ _ _ _ _ _ us hl => match us, hl with | [_, _], _ => rfl⟩
  have F51 := fun_mk (st := s_law_test) l51 c51 k51
  have T_law_test : Top K mg "_law_test" s_law_test ["test", "row"] := ⟨_, _, F51, PySem.W.mg_of X G a51, F51.binds (ps := ["test", "row"]) fun _ _ _ _ _ _ us hl => match us, hl with | [_, _], _ => rfl⟩
  have F52 := fun_mk (st := s_law_added) l52 c52 k52
  have T_law_added : Top K mg "_law_added" s_law_added ["pairs"] := ⟨_, _, F52, PySem.W.mg_of X G a52, F52.binds (ps := ["pairs"]) fun _ _ _ _ _ _ us hl => match us, hl with | [_], _ => rfl⟩
  have F53 := fun_mk (st := s_law_agree) l53 c53 k53
  have T_law_agree : Top K mg "_law_agree" s_law_agree ["pairs", "left", "right"] := ⟨_, _, F53, PySem.W.mg_of X G a53, F53.binds (ps := ["pairs", "left", "right"]) fun _ _ _ _ _ _ us hl => match us, hl with | [_, _, _], _ => rfl⟩
  have F54 := fun_mk (st := s_law_grouped) l54 c54 k54
  have T_law_grouped : Top K mg "_law_grouped" s_law_grouped ["node", "rows"] := ⟨_, _, F54, PySem.W.mg_of X G a54, F54.binds (ps := ["node", "rows"]) fun _ _ _ _ _ _ us hl => match us, hl with | [_, _], _ => rfl⟩
  have F55 := fun_mk (st := s_law_topped) l55 c55 k55
  have T_law_topped : Top K mg "_law_topped" s_law_topped ["node", "rows"] := ⟨_, _, F55, PySem.W.mg_of X G a55, F55.binds (ps := ["node", "rows"]) fun _ _ _ _ _ _ us hl => match us, hl with | [_, _], _ => rfl⟩
  have F56 := fun_mk (st := s_law_kept) l56 c56 k56
  have T_law_kept : Top K mg "_law_kept" s_law_kept ["node", "first", "second"] := ⟨_, _, F56, PySem.W.mg_of X G a56, F56.binds (ps := ["node", "first", "second"]) fun _ _ _ _ _ _ us hl => match us, hl with | [_, _, _], _ => rfl⟩
  have F57 := fun_mk (st := s_law_due) l57 c57 k57
  have T_law_due : Top K mg "_law_due" s_law_due ["node", "first", "second"] := ⟨_, _, F57, PySem.W.mg_of X G a57, F57.binds (ps := ["node", "first", "second"]) fun _ _ _ _ _ _ us hl => match us, hl with | [_, _, _], _ => rfl⟩
  have F58 := fun_mk (st := s_law_from_nothing) l58 c58 k58
  have T_law_from_nothing : Top K mg "_law_from_nothing" s_law_from_nothing ["plan", "lists"] := ⟨_, _, F58, PySem.W.mg_of X G a58, F58.binds (ps := ["plan", "lists"]) fun _ _ _ _ _ _ us hl => match us, hl with | [_, _], _ => rfl⟩
  have F59 := fun_mk (st := s_law_tells) l59 c59 k59
  have T_law_tells : Top K mg "_law_tells" s_law_tells ["told", "due"] := ⟨_, _, F59, PySem.W.mg_of X G a59, F59.binds (ps := ["told", "due"]) fun _ _ _ _ _ _ us hl => match us, hl with | [_, _], _ => rfl⟩
  have F60 := fun_mk (st := s_law_node_holds) l60 c60 k60
  have T_law_node_holds : Top K mg "_law_node_holds" s_law_node_holds ["purse", "kind"] := ⟨_, _, F60, PySem.W.mg_of X G a60, F60.binds (ps := ["purse", "kind"]) fun _ _ _ _ _ _ us hl => match us, hl with | [_, _], _ => rfl⟩
  have F61 := fun_mk (st := s_law_narrow) l61 c61 k61
  have T_law_narrow : Top K mg "_law_narrow" s_law_narrow ["purse", "part"] := ⟨_, _, F61, PySem.W.mg_of X G a61, F61.binds (ps := ["purse", "part"]) fun _ _ _ _ _ _ us hl => match us, hl with | [_, _], _ => rfl⟩
  have F62 := fun_mk (st := s_law_one) l62 c62 k62
  have T_law_one : Top K mg "_law_one" s_law_one ["purse", "kind", "part"] := ⟨_, _, F62, PySem.W.mg_of X G a62, F62.binds (ps := ["purse", "kind", "part"]) fun _ _ _ _ _ _ us hl => match us, hl with | [_, _, _], _ => rfl⟩
  have F63 := fun_mk (st := s_law_plan) l63 c63 k63
  have T_law_plan : Top K mg "_law_plan" s_law_plan ["purse", "deep", "names", "widths"] := ⟨_, _, F63, PySem.W.mg_of X G a63, F63.binds (ps := ["purse", "deep", "names", "widths"]) fun _ _ _ _ _ _ us hl => match us, hl with | [_, _, _, _], _ => rfl⟩
  have F64 := fun_mk (st := s_law_plan_holds) l64 c64 k64
  have T_law_plan_holds : Top K mg "_law_plan_holds" s_law_plan_holds ["purse", "spare"] := ⟨_, _, F64, PySem.W.mg_of X G a64, F64.binds (ps := ["purse", "spare"]) fun _ _ _ _ _ _ us hl => match us, hl with | [_, _], _ => rfl⟩
  have F65 := fun_mk (st := slaw) l65 c65 k65
  have Tlaw : Top K mg "law" slaw ["script"] := ⟨_, _, F65, PySem.W.mg_of X G a65, F65.binds (ps := ["script"]) fun _ _ _ _ _ _ us hl => match us, hl with | [_], _ => rfl⟩
  have F66 : FunD K "__init__" "Bag.__init__" (defArgs sBag___init__) (defBody sBag___init__) (defScope sBag___init__) [V.ref dE] [] f66 _ := ⟨⟨_, _, _, _, _, _, _, _, _, _, rfl, l66, c66, .inr ⟨by simp, dT, _, [.ref dE], _, rfl, lT, rfl, .cons rfl .nil⟩, .inl rfl⟩, k66⟩
  obtain ⟨ds0, v0, b0_66⟩ := F66.binds1 (ps := ["self", "pairs"]) 1 0 (by simp) (by rfl) (fun T kV doc pm an cdv ct us its h1 h2 => match us, its, h1, h2 with | [_], [_], _, _ => ⟨_, rfl, rfl⟩)
  obtain ⟨ds1, v1, b1_66⟩ := F66.binds1 (ps := ["self", "pairs"]) 2 1 (by simp) (by rfl) (fun T kV doc pm an cdv ct us its h1 h2 => match us, its, h1, h2 with | [_, _], [_], _, _ => ⟨_, rfl, rfl⟩)
  have TBag___init__ : TopI K C "Bag.__init__" sBag___init__ ["self", "pairs"] := by
    cases v1
    cases v0 with
    | cons h t =>
      cases t
      cases h
      exact ⟨_, _, dE, F66, ⟨a66, i66, k66⟩, b1_66, ⟨_, _, lE, rfl, rfl⟩, b0_66⟩
  have F67 := fun_mk (st := sBag_pairs) l67 c67 k67
  have TBag_pairs : TopM K C "pairs" "Bag.pairs" sBag_pairs ["self"] := ⟨_, _, F67, ⟨a67, i67, k67⟩, F67.binds (ps := ["self"]) fun _ _ _ _ _ _ us hl => match us, hl with | [_], _ => rfl⟩
  have F68 := fun_mk (st := sBag___eq__) l68 c68 k68
  have TBag___eq__ : TopM K C "__eq__" "Bag.__eq__" sBag___eq__ ["self", "other"] := ⟨_, _, F68, ⟨a68, i68, k68⟩, F68.binds (ps := ["self", "other"]) fun _ _ _ _ _ _ us hl => match us, hl with | [_, _], _ => rfl⟩
  have mW_WORKS := PySem.W.mg_of X G aW_WORKS
  have kd_WORKS : ∀ (x : Str) (u : Value) (v : V), PySem.W.nsIn K W_WORKS x = some (some u) → RelV v u → KDct K w W_WORKS x v := fun x u v h r => ⟨es_WORKS, nn_WORKS, u, lW_WORKS, kW_WORKS, h, r⟩
  have mW_SUBPLANS := PySem.W.mg_of X G aW_SUBPLANS
  have kd_SUBPLANS : ∀ (x : Str) (u : Value) (v : V), PySem.W.nsIn K W_SUBPLANS x = some (some u) → RelV v u → KDct K w W_SUBPLANS x v := fun x u v h r => ⟨es_SUBPLANS, nn_SUBPLANS, u, lW_SUBPLANS, kW_SUBPLANS, h, r⟩
  have st0 : KDct K w W_SUBPLANS "choose" (.ref tp0) ∧ ∀ H, SqT K H tp0 [.int 1] := ⟨kd_SUBPLANS _ _ _ u0 rfl, fun H => .inr ⟨_, _, _, tv0, rfl, rfl, by show 1 ≤ sizeLine; decide, (.cons ⟨_, rfl⟩ .nil)⟩⟩
  have st1 : KDct K w W_SUBPLANS "map" (.ref tp1) ∧ ∀ H, SqT K H tp1 [.int 1] := ⟨kd_SUBPLANS _ _ _ u1 rfl, fun H => .inr ⟨_, _, _, tv1, rfl, rfl, by show 1 ≤ sizeLine; decide, (.cons ⟨_, rfl⟩ .nil)⟩⟩
  have st2 : KDct K w W_SUBPLANS "distinct" (.ref tp2) ∧ ∀ H, SqT K H tp2 [.int 1] := ⟨kd_SUBPLANS _ _ _ u2 rfl, fun H => .inr ⟨_, _, _, tv2, rfl, rfl, by show 1 ≤ sizeLine; decide, (.cons ⟨_, rfl⟩ .nil)⟩⟩
  have st3 : KDct K w W_SUBPLANS "group" (.ref tp3) ∧ ∀ H, SqT K H tp3 [.int 1] := ⟨kd_SUBPLANS _ _ _ u3 rfl, fun H => .inr ⟨_, _, _, tv3, rfl, rfl, by show 1 ≤ sizeLine; decide, (.cons ⟨_, rfl⟩ .nil)⟩⟩
  have st4 : KDct K w W_SUBPLANS "top" (.ref tp4) ∧ ∀ H, SqT K H tp4 [.int 1] := ⟨kd_SUBPLANS _ _ _ u4 rfl, fun H => .inr ⟨_, _, _, tv4, rfl, rfl, by show 1 ≤ sizeLine; decide, (.cons ⟨_, rfl⟩ .nil)⟩⟩
  have st5 : KDct K w W_SUBPLANS "join" (.ref tp5) ∧ ∀ H, SqT K H tp5 [.int 1, .int 2] := ⟨kd_SUBPLANS _ _ _ u5 rfl, fun H => .inr ⟨_, _, _, tv5, rfl, rfl, by show 2 ≤ sizeLine; decide, (.cons ⟨_, rfl⟩ (.cons ⟨_, rfl⟩ .nil))⟩⟩
  have st6 : KDct K w W_SUBPLANS "plus" (.ref tp6) ∧ ∀ H, SqT K H tp6 [.int 1, .int 2] := ⟨kd_SUBPLANS _ _ _ u6 rfl, fun H => .inr ⟨_, _, _, tv6, rfl, rfl, by show 2 ≤ sizeLine; decide, (.cons ⟨_, rfl⟩ (.cons ⟨_, rfl⟩ .nil))⟩⟩
  have st7 : KDct K w W_SUBPLANS "less" (.ref tp7) ∧ ∀ H, SqT K H tp7 [.int 1, .int 2] := ⟨kd_SUBPLANS _ _ _ u7 rfl, fun H => .inr ⟨_, _, _, tv7, rfl, rfl, by show 2 ≤ sizeLine; decide, (.cons ⟨_, rfl⟩ (.cons ⟨_, rfl⟩ .nil))⟩⟩
  have st8 : KDct K w W_SUBPLANS "without" (.ref tp8) ∧ ∀ H, SqT K H tp8 [.int 1, .int 2] := ⟨kd_SUBPLANS _ _ _ u8 rfl, fun H => .inr ⟨_, _, _, tv8, rfl, rfl, by show 2 ≤ sizeLine; decide, (.cons ⟨_, rfl⟩ (.cons ⟨_, rfl⟩ .nil))⟩⟩
  refine ⟨PySem.W.fnOf "law" "law" (defArgs slaw) (defBody slaw) (defScope slaw) .none kV65 dc65 pm65 an65 cd65 ct65, fun s v => .of_eq rfl, fun base _ _ => ?_⟩
  have Dwz := d_without_zeros (P := l.prog) (w := w) (K := K) (base := base) B Twithout_zeros
  have Dti := d_times B Ttimes Dwz
  have Dta := d_tally_of B Ttally_of Dwz
  have Dpl := d_plus B Tplus Dwz
  have Din := d_is_number (P := l.prog) (w := w) (K := K) (base := base) B Tis_number
  have Dir := d_is_row B Tis_row Din
  have Dcc := d_check_counted B Tcheck_counted Din Dir
  have Tx : TxB K C := ⟨Cl, n0⟩
  have Mk := d_Bag_init B Tx TBag___init__ mk kc mC Dcc Dta
  have Dbt := d_bag_of_tally B Tx Tbag_of_tally Mk
  have Dtin := d_tally_in (P := l.prog) (w := w) (base := base) B Tx Ttally_in
  have Mpa := d_Bag_pairs (P := l.prog) (w := w) (mg := mg) (base := base) B Tx TBag_pairs
  have Meq := d_Bag_eq (P := l.prog) (w := w) (base := base) B Tx XI mC TBag___eq__
  have Dvo := d_value_of (P := l.prog) (w := w) (K := K) (base := base) B Tvalue_of
  have Dvs := d_values_of B Tvalues_of Dvo
  have Dcm := d_compares (P := l.prog) (w := w) (K := K) (base := base) B Tcompares
  have Dho := d_holds B Tholds Dvo Dcm
  have Dpi := d_picked (P := l.prog) (w := w) (K := K) (base := base) B Tpicked
  have Dby := d_by_values B Tby_values Dpi
  have Dps := d_positive (P := l.prog) (w := w) (K := K) (base := base) B Tpositive
  have Dwd := d_work_distinct B Twork_distinct Dps
  have Dwt := d_work_without B Twork_without Dpi Dby Dps
  have Dvg := d_value_of_group (P := l.prog) (w := w) (K := K) (base := base) B Tvalue_of_group
  have Dwg := d_work_group B Twork_group Dby Dps Dvg
  have Dwp' := d_work_top B Twork_top Dby Dps
  have Dwc := d_work_choose B Twork_choose Dho
  have Dwm := d_work_map B Twork_map Dvs Dta
  have Dwj := d_work_join B Twork_join Dpi Dby Dta
  have Dwp := d_work_plus B Twork_plus Dpl
  have Dwl := d_work_less B Twork_less Dpl Dti
  have held : ∀ {x : Str} {ps : List Str} {sp : Sp} {f : Addr}, Def l.prog w K mg base x 3 ps sp → mg x = some (.ref f) → HeldR l.prog w K mg base 3 f sp := fun D g => by
    obtain ⟨f', hm, hh⟩ := D.held
    obtain rfl := Value.ref.inj (Option.some.inj (hm.symm.trans g))
    exact hh
  have Wo : Works l.prog w K mg base W_WORKS := ⟨⟨_, kd_WORKS _ _ _ w_WORKS_choose rfl, held Dwc (PySem.W.mg_of X G a19)⟩, ⟨_, kd_WORKS _ _ _ w_WORKS_map rfl, held Dwm (PySem.W.mg_of X G a20)⟩, ⟨_, kd_WORKS _ _ _ w_WORKS_join rfl, held Dwj (PySem.W.mg_of X G a21)⟩, ⟨_, kd_WORKS _ _ _ w_WORKS_plus rfl, held Dwp (PySem.W.mg_of X G a22)⟩, ⟨_, kd_WORKS _ _ _ w_WORKS_less rfl, held Dwl (PySem.W.mg_of X G a23)⟩, ⟨_, kd_WORKS _ _ _ w_WORKS_distinct rfl, held Dwd (PySem.W.mg_of X G a24)⟩, ⟨_, kd_WORKS _ _ _ w_WORKS_without rfl, held Dwt (PySem.W.mg_of X G a25)⟩, ⟨_, kd_WORKS _ _ _ w_WORKS_group rfl, held Dwg (PySem.W.mg_of X G a27)⟩, ⟨_, kd_WORKS _ _ _ w_WORKS_top rfl, held Dwp' (PySem.W.mg_of X G a28)⟩⟩
  have Su : SubW K w W_SUBPLANS := ⟨fun x hx => by
    have hx : x = "choose" ∨ x = "map" ∨ x = "distinct" ∨ x = "group" ∨ x = "top" := by simpa [onesW] using hx
    rcases hx with rfl | rfl | rfl | rfl | rfl
    · exact ⟨_, st0⟩
    · exact ⟨_, st1⟩
    · exact ⟨_, st2⟩
    · exact ⟨_, st3⟩
    · exact ⟨_, st4⟩, fun x hx => by
    have hx : x = "join" ∨ x = "plus" ∨ x = "less" ∨ x = "without" := by simpa [twosW] using hx
    rcases hx with rfl | rfl | rfl | rfl
    · exact ⟨_, st5⟩
    · exact ⟨_, st6⟩
    · exact ⟨_, st7⟩
    · exact ⟨_, st8⟩⟩
  have Dwo := d_work B Twork mW_WORKS Wo
  have Dwkt := d_workedT B Tworked Dbt Dtin Dwo
  have Dwk := d_worked Dwkt
  have Dsu := d_subplans (P := l.prog) (w := w) (K := K) (base := base) B Tsubplans mW_SUBPLANS Su
  have Dfp := d_free_parts B Tfree_parts Dsu 7
  have Dto := d_tables_of B Ttables_of 7 (by decide) Dfp
  have Dse := d_settled B Tsettled Dsu Dwo 7
  have Dtl := d_tallies_of B Ttallies_of 7 Dto Dtin
  have Dan := d_answer B Tanswer 7 Dse Dtl Dbt
  have Lin := d_law_integer (P := l.prog) (w := w) (K := K) (base := base) B T_law_integer
  have Lpu := d_law_purse (P := l.prog) (w := w) (K := K) (base := base) B T_law_purse
  have Ldr := d_law_draw (P := l.prog) (w := w) (K := K) (base := base) B T_law_draw
  have Lnu := d_law_number B T_law_number Ldr
  have LnS := d_law_numberS Lnu
  have Lct := d_law_count B T_law_count Ldr Lnu
  have Lpa := d_law_pairs B T_law_pairs Ldr Lnu Lct
  have Lte := d_law_term B T_law_term Ldr LnS
  have Lts := d_law_tests B T_law_tests Ldr Lte
  have Ltm := d_law_terms B T_law_terms Ldr Lte
  have Lco := d_law_columns (K := K) B T_law_columns Ldr
  have Lna := d_law_name B T_law_name Ldr
  have Lsu := d_law_sub B T_law_sub Ldr
  have Lke := d_law_keys (K := K) B T_law_keys Ldr
  have Lso := d_law_sort (K := K) B T_law_sort Ldr
  have Lmy := d_law_many B T_law_many Ldr
  have Lno := d_law_node B T_law_node Lco Lke Lso Lmy
  have Lva := d_law_value (P := l.prog) (w := w) (K := K) (base := base) B T_law_value
  have Lte2 := d_law_test B T_law_test Lva
  have Lad := d_law_added (P := l.prog) (w := w) (K := K) (base := base) B T_law_added
  have Lag := d_law_agree (P := l.prog) (w := w) (K := K) (base := base) B T_law_agree
  have Lkp := d_law_kept B T_law_kept Lag
  have Lgr := d_law_grouped (P := l.prog) (w := w) (K := K) (base := base) B T_law_grouped
  have Ltp := d_law_topped (K := K) B T_law_topped Lad
  have Ldu := d_law_due B T_law_due Lte2 Lva Lag Lad Lkp Lgr Ltp
  have Lfn := d_law_from_nothing B T_law_from_nothing Ldu 7
  have Ltl := d_law_tells B Tx XI mC T_law_tells Lin Mpa Meq Mk
  have Lnh := d_law_node_holds B Tx T_law_node_holds Ldr Lpa Lno Lsu Mk Dwk Lad Ldu Ltl
  have Lnr := d_law_narrow B T_law_narrow Lte
  have Lon := d_law_one B T_law_one Lno
  have Lpn := d_law_plan B T_law_plan Ldr Lte Lts Ltm Lco Lnr Lon 3
  have Lph := d_law_plan_holds B Tx T_law_plan_holds Ldr Lpa Lna Mk Lad Ltl Lpn Lon Lco Lfn Dan
  have D := d_law B Tlaw Lpu Ldr Lnh Lph
  obtain ⟨f, fd', F, g, _, _, _, _, _, lk⟩ := D
  obtain rfl : fa = f := Value.ref.inj (Option.some.inj ((PySem.W.mg_of X G a65).symm.trans g))
  rw [l65] at lk
  cases lk
  exact F
end
end K18
open PySem PySem.W PyProof.Rows
set_option maxHeartbeats 0 in
theorem PySem.Challenge.cw_deltamill_k18_plain_positive_parts_holds : PySem.Challenge.rw_deltamill_k18_plain_positive_parts.Holds := by
  w_on; o_law; k_head; (case hw => w_witness2)
  k_fill
  refine L2.walk_of (l := PySem.Challenge.rw_deltamill_k18_plain_positive_parts) (n := 63) (k := 16) (x := "script") (CX := fun _ => L2.CX0) (sp := fun w => K18.spLaw _) rfl (by decide) rfl ⟨rfl, by decide, by decide⟩ (fun w h Y => PySem.W.kIn_of Y) ?F (fun _ _ a ns hl _ hS => ⟨a, ns, rfl, hS, hl, fun _ => rfl⟩) (fun _ _ _ _ _ h => h)
  case F =>
    intro w mg fa h KX G hmg
    refine' K18.all_mk KX G hmg ?aC ?a0 ?l0 ?c0 ?k0 ?a1 ?l1 ?c1 ?k1 ?a2 ?l2 ?c2 ?k2 ?a3 ?l3 ?c3 ?k3 ?a4 ?l4 ?c4 ?k4 ?a5 ?l5 ?c5 ?k5 ?a6 ?l6 ?c6 ?k6 ?a7 ?l7 ?c7 ?k7 ?a8 ?l8 ?c8 ?k8 ?a9 ?l9 ?c9 ?k9 ?a10 ?l10 ?c10 ?k10 ?a11 ?l11 ?c11 ?k11 ?a12 ?l12 ?c12 ?k12 ?a13 ?l13 ?c13 ?k13 ?a14 ?l14 ?c14 ?k14 ?a15 ?l15 ?c15 ?k15 ?a16 ?l16 ?c16 ?k16 ?a17 ?l17 ?c17 ?k17 ?a18 ?l18 ?c18 ?k18 ?a19 ?l19 ?c19 ?k19 ?a20 ?l20 ?c20 ?k20 ?a21 ?l21 ?c21 ?k21 ?a22 ?l22 ?c22 ?k22 ?a23 ?l23 ?c23 ?k23 ?a24 ?l24 ?c24 ?k24 ?a25 ?l25 ?c25 ?k25 ?a26 ?l26 ?c26 ?k26 ?a27 ?l27 ?c27 ?k27 ?a28 ?l28 ?c28 ?k28 ?a29 ?l29 ?c29 ?k29 ?a30 ?l30 ?c30 ?k30 ?a31 ?l31 ?c31 ?k31 ?a32 ?l32 ?c32 ?k32 ?a33 ?l33 ?c33 ?k33 ?a34 ?l34 ?c34 ?k34 ?a35 ?l35 ?c35 ?k35 ?a36 ?l36 ?c36 ?k36 ?a37 ?l37 ?c37 ?k37 ?a38 ?l38 ?c38 ?k38 ?a39 ?l39 ?c39 ?k39 ?a40 ?l40 ?c40 ?k40 ?a41 ?l41 ?c41 ?k41 ?a42 ?l42 ?c42 ?k42 ?a43 ?l43 ?c43 ?k43 ?a44 ?l44 ?c44 ?k44 ?a45 ?l45 ?c45 ?k45 ?a46 ?l46 ?c46 ?k46 ?a47 ?l47 ?c47 ?k47 ?a48 ?l48 ?c48 ?k48 ?a49 ?l49 ?c49 ?k49 ?a50 ?l50 ?c50 ?k50 ?a51 ?l51 ?c51 ?k51 ?a52 ?l52 ?c52 ?k52 ?a53 ?l53 ?c53 ?k53 ?a54 ?l54 ?c54 ?k54 ?a55 ?l55 ?c55 ?k55 ?a56 ?l56 ?c56 ?k56 ?a57 ?l57 ?c57 ?k57 ?a58 ?l58 ?c58 ?k58 ?a59 ?l59 ?c59 ?k59 ?a60 ?l60 ?c60 ?k60 ?a61 ?l61 ?c61 ?k61 ?a62 ?l62 ?c62 ?k62 ?a63 ?l63 ?c63 ?k63 ?a64 ?l64 ?c64 ?k64 ?a65 ?l65 ?c65 ?k65 ?a66 ?i66 ?l66 ?c66 ?k66 ?lT ?lE ?a67 ?i67 ?l67 ?c67 ?k67 ?a68 ?i68 ?l68 ?c68 ?k68 ?pg ?hd ?po ?sa ?mk ?kc ?oha ?ohn ?otk ?ohm ?n0 ?aW_WORKS ?lW_WORKS ?kW_WORKS ?aW_SUBPLANS ?lW_SUBPLANS ?kW_SUBPLANS ?w_WORKS_choose ?w_WORKS_map ?w_WORKS_join ?w_WORKS_plus ?w_WORKS_less ?w_WORKS_distinct ?w_WORKS_without ?w_WORKS_group ?w_WORKS_top ?u0 ?tv0 ?u1 ?tv1 ?u2 ?tv2 ?u3 ?tv3 ?u4 ?tv4 ?u5 ?tv5 ?u6 ?tv6 ?u7 ?tv7 ?u8 ?tv8 ?z0 ?z1 ?z2 ?z3 ?z4 ?z5 ?z6 ?z7 ?z8 ?z9 ?z10 ?z11 ?z12 ?z13 ?z14 ?z15
    (case aC => k_is); (case a0 => k_is); (case l0 => k_is); (case c0 => k_is); (case k0 => k_is); (case a1 => k_is); (case l1 => k_is); (case c1 => k_is); (case k1 => k_is); (case a2 => k_is); (case l2 => k_is); (case c2 => k_is); (case k2 => k_is); (case a3 => k_is); (case l3 => k_is); (case c3 => k_is); (case k3 => k_is); (case a4 => k_is); (case l4 => k_is); (case c4 => k_is); (case k4 => k_is); (case a5 => k_is); (case l5 => k_is); (case c5 => k_is); (case k5 => k_is); (case a6 => k_is); (case l6 => k_is); (case c6 => k_is); (case k6 => k_is); (case a7 => k_is); (case l7 => k_is); (case c7 => k_is); (case k7 => k_is); (case a8 => k_is); (case l8 => k_is); (case c8 => k_is); (case k8 => k_is); (case a9 => k_is); (case l9 => k_is); (case c9 => k_is); (case k9 => k_is); (case a10 => k_is); (case l10 => k_is); (case c10 => k_is); (case k10 => k_is); (case a11 => k_is); (case l11 => k_is); (case c11 => k_is); (case k11 => k_is); (case a12 => k_is); (case l12 => k_is); (case c12 => k_is); (case k12 => k_is); (case a13 => k_is); (case l13 => k_is); (case c13 => k_is); (case k13 => k_is); (case a14 => k_is); (case l14 => k_is); (case c14 => k_is); (case k14 => k_is); (case a15 => k_is); (case l15 => k_is); (case c15 => k_is); (case k15 => k_is); (case a16 => k_is); (case l16 => k_is); (case c16 => k_is); (case k16 => k_is); (case a17 => k_is); (case l17 => k_is); (case c17 => k_is); (case k17 => k_is); (case a18 => k_is); (case l18 => k_is); (case c18 => k_is); (case k18 => k_is); (case a19 => k_is); (case l19 => k_is); (case c19 => k_is); (case k19 => k_is); (case a20 => k_is); (case l20 => k_is); (case c20 => k_is); (case k20 => k_is); (case a21 => k_is); (case l21 => k_is); (case c21 => k_is); (case k21 => k_is); (case a22 => k_is); (case l22 => k_is); (case c22 => k_is); (case k22 => k_is); (case a23 => k_is); (case l23 => k_is); (case c23 => k_is); (case k23 => k_is); (case a24 => k_is); (case l24 => k_is); (case c24 => k_is); (case k24 => k_is); (case a25 => k_is); (case l25 => k_is); (case c25 => k_is); (case k25 => k_is); (case a26 => k_is); (case l26 => k_is); (case c26 => k_is); (case k26 => k_is); (case a27 => k_is); (case l27 => k_is); (case c27 => k_is); (case k27 => k_is); (case a28 => k_is); (case l28 => k_is); (case c28 => k_is); (case k28 => k_is); (case a29 => k_is); (case l29 => k_is); (case c29 => k_is); (case k29 => k_is); (case a30 => k_is); (case l30 => k_is); (case c30 => k_is); (case k30 => k_is); (case a31 => k_is); (case l31 => k_is); (case c31 => k_is); (case k31 => k_is); (case a32 => k_is); (case l32 => k_is); (case c32 => k_is); (case k32 => k_is); (case a33 => k_is); (case l33 => k_is); (case c33 => k_is); (case k33 => k_is); (case a34 => k_is); (case l34 => k_is); (case c34 => k_is); (case k34 => k_is); (case a35 => k_is); (case l35 => k_is); (case c35 => k_is); (case k35 => k_is); (case a36 => k_is); (case l36 => k_is); (case c36 => k_is); (case k36 => k_is); (case a37 => k_is); (case l37 => k_is); (case c37 => k_is); (case k37 => k_is); (case a38 => k_is); (case l38 => k_is); (case c38 => k_is); (case k38 => k_is); (case a39 => k_is); (case l39 => k_is); (case c39 => k_is); (case k39 => k_is); (case a40 => k_is); (case l40 => k_is); (case c40 => k_is); (case k40 => k_is); (case a41 => k_is); (case l41 => k_is); (case c41 => k_is); (case k41 => k_is); (case a42 => k_is); (case l42 => k_is); (case c42 => k_is); (case k42 => k_is); (case a43 => k_is); (case l43 => k_is); (case c43 => k_is); (case k43 => k_is); (case a44 => k_is); (case l44 => k_is); (case c44 => k_is); (case k44 => k_is); (case a45 => k_is); (case l45 => k_is); (case c45 => k_is); (case k45 => k_is); (case a46 => k_is); (case l46 => k_is); (case c46 => k_is); (case k46 => k_is); (case a47 => k_is); (case l47 => k_is); (case c47 => k_is); (case k47 => k_is); (case a48 => k_is); (case l48 => k_is); (case c48 => k_is); (case k48 => k_is); (case a49 => k_is); (case l49 => k_is); (case c49 => k_is); (case k49 => k_is); (case a50 => k_is); (case l50 => k_is); (case c50 => k_is); (case k50 => k_is); (case a51 => k_is); (case l51 => k_is); (case c51 => k_is); (case k51 => k_is); (case a52 => k_is); (case l52 => k_is); (case c52 => k_is); (case k52 => k_is); (case a53 => k_is); (case l53 => k_is); (case c53 => k_is); (case k53 => k_is); (case a54 => k_is); (case l54 => k_is); (case c54 => k_is); (case k54 => k_is); (case a55 => k_is); (case l55 => k_is); (case c55 => k_is); (case k55 => k_is); (case a56 => k_is); (case l56 => k_is); (case c56 => k_is); (case k56 => k_is); (case a57 => k_is); (case l57 => k_is); (case c57 => k_is); (case k57 => k_is); (case a58 => k_is); (case l58 => k_is); (case c58 => k_is); (case k58 => k_is); (case a59 => k_is); (case l59 => k_is); (case c59 => k_is); (case k59 => k_is); (case a60 => k_is); (case l60 => k_is); (case c60 => k_is); (case k60 => k_is); (case a61 => k_is); (case l61 => k_is); (case c61 => k_is); (case k61 => k_is); (case a62 => k_is); (case l62 => k_is); (case c62 => k_is); (case k62 => k_is); (case a63 => k_is); (case l63 => k_is); (case c63 => k_is); (case k63 => k_is); (case a64 => k_is); (case l64 => k_is); (case c64 => k_is); (case k64 => k_is); (case a65 => k_is); (case l65 => k_is); (case c65 => k_is); (case k65 => k_is); (case a66 => k_is); (case i66 => k_is); (case l66 => k_is); (case c66 => k_is); (case k66 => k_is); (case lT => k_is); (case lE => k_is); (case a67 => k_is); (case i67 => k_is); (case l67 => k_is); (case c67 => k_is); (case k67 => k_is); (case a68 => k_is); (case i68 => k_is); (case l68 => k_is); (case c68 => k_is); (case k68 => k_is); (case pg => k_is); (case hd => k_is); (case po => k_is); (case sa => k_is); (case mk => k_is); (case kc => k_is); (case oha => k_is); (case ohn => k_is); (case otk => k_is); (case ohm => k_is); (case n0 => k_is); (case aW_WORKS => k_is); (case lW_WORKS => k_is); (case kW_WORKS => (repeat' (first | exact True.intro | refine ⟨⟨_, _, rfl, rfl⟩, ?_⟩))); (case aW_SUBPLANS => k_is); (case lW_SUBPLANS => k_is); (case kW_SUBPLANS => (repeat' (first | exact True.intro | refine ⟨⟨_, _, rfl, rfl⟩, ?_⟩))); (case w_WORKS_choose => k_is); (case w_WORKS_map => k_is); (case w_WORKS_join => k_is); (case w_WORKS_plus => k_is); (case w_WORKS_less => k_is); (case w_WORKS_distinct => k_is); (case w_WORKS_without => k_is); (case w_WORKS_group => k_is); (case w_WORKS_top => k_is); (case u0 => k_is); (case tv0 => k_is); (case u1 => k_is); (case tv1 => k_is); (case u2 => k_is); (case tv2 => k_is); (case u3 => k_is); (case tv3 => k_is); (case u4 => k_is); (case tv4 => k_is); (case u5 => k_is); (case tv5 => k_is); (case u6 => k_is); (case tv6 => k_is); (case u7 => k_is); (case tv7 => k_is); (case u8 => k_is); (case tv8 => k_is); (case z0 => k_is); (case z1 => k_is); (case z2 => k_is); (case z3 => k_is); (case z4 => k_is); (case z5 => k_is); (case z6 => k_is); (case z7 => k_is); (case z8 => k_is); (case z9 => k_is); (case z10 => k_is); (case z11 => k_is); (case z12 => k_is); (case z13 => k_is); (case z14 => k_is); (case z15 => k_is)
