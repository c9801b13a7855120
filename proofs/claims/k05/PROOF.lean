import PyProof.Rows.All
import Wide.All
import OpenK.AllK
import Wide.FinOn
import HandS.ForMost
import HandS.Zip
import HandS.Conv
import HandS.TupAny
import HandS.TupLe
import HandS.Wide
import HandS.Style
import HandS.IsInst
import HandS.Flow
import HandS.More
import HandS.Walk
import HandS.MakeKwOnly
import HandS.Evl
import HandS.TupSets
import HandS.TupMul
import HandS.Deep
import PySem.Challenge.RW_deltamill_k05_whole_folds_of_joined_fron
set_option Elab.async false
set_option linter.all false
set_option maxRecDepth 100000
set_option maxHeartbeats 8000000
/-! The common layer of the laws about deltamill: defs by name, moments, pots. -/
namespace L2
open PySem PySem.Spec PyProof.Rows

/-! ### defs by name -/
/-- the def x stands behind the top -/
def Top (K : PySem.W.Frag) (mg : Str → Option Value) (x : Str) (st : Stmt) (ps : List Str) : Prop :=
  ∃ (f : Addr) (fd : FuncData), Fun K x x st f fd ∧ mg x = some (.ref f) ∧ Binds K fd ps []
/-- the def x keeps the promise sp -/
def Def (P : Program) (w : World) (K : PySem.W.Frag) (mg : Str → Option Value) (base : Heap) (x : Str) (k : Nat) (ps : List Str) (sp : Sp) : Prop :=
  ∃ (f : Addr) (fd : FuncData), FnOk P w K mg base CX0 k f fd ps sp ∧ mg x = some (.ref f) ∧ PySem.W.keepIn K (.ref f) = true ∧ Binds K fd ps [] ∧ ∃ (oc : Value) (od : Option Addr) (osl : Array (Option Value)), K.lookup f = some ⟨oc, od, .func fd, osl⟩
/-- .. and is called by keywords -/
def DefK (P : Program) (w : World) (K : PySem.W.Frag) (mg : Str → Option Value) (base : Heap) (x : Str) (k : Nat) (ps ks : List Str) (gV : List V → List V → List V) (sp : Sp) : Prop :=
  ∃ (f : Addr) (fd : FuncData) (g : List Value → List Value → List Value), FnOk P w K mg base CX0 k f fd ps sp ∧ mg x = some (.ref f) ∧ PySem.W.keepIn K (.ref f) = true ∧ KBinds K fd ps ks g gV
def TopK (K : PySem.W.Frag) (mg : Str → Option Value) (x : Str) (st : Stmt) (ps ks : List Str) (gV : List V → List V → List V) : Prop :=
  ∃ (f : Addr) (fd : FuncData) (g : List Value → List Value → List Value), Fun K x x st f fd ∧ mg x = some (.ref f) ∧ KBinds K fd ps ks g gV
section
variable {P : Program} {w : World} {K : PySem.W.Frag} {mg : Str → Option Value} {base : Heap} {x : Str} {st : Stmt} {ps N : List Str} {k : Nat} {sp : Sp}
theorem mk_def (T : Top K mg x st ps) (S : FnScope N ps (defScope st)) (len : ∀ vs H Q E, sp vs H Q E → vs.length = ps.length)
    (hbody : ∀ (f : Addr) (cdv : Value) (A : Around) (outer : List Env) (s : Shared) (H : Hp) (vs : List V) (Q : VK) (E : XK), Room k (A.deeper (envOfC x (defScope st) s.heap.objs.size f cdv)) → sp vs H Q E →
      ∃ t, PSs (cxOf CX0 P w K mg base N x (defScope st) f cdv A outer s H E).nox (defBody st) t ∧ t { nx := fun _ H' => Q .non H', rt := Q } (start N vs) H) :
    Def P w K mg base x (k + 1) ps sp := by
  obtain ⟨f, fd, F, g, b⟩ := T
  obtain ⟨oc, _, _, _, _, _, _, _, osl, _, lk, _⟩ := id F.ex
  exact ⟨f, fd, F.ok S len (hbody f), g, F.kp, b, _, _, _, lk⟩
theorem Def.kw {ks : List Str} {gV : List V → List V → List V} (D : Def P w K mg base x k ps sp) (T : TopK K mg x st ps ks gV) : DefK P w K mg base x k ps ks gV sp := by
  obtain ⟨f, fd, F, g, kp, _, _, _, _, lk⟩ := D
  obtain ⟨f', fd', g', F', m', b'⟩ := T
  obtain rfl : f' = f := Value.ref.inj (Option.some.inj (m'.symm.trans g))
  obtain ⟨oc, _, _, _, _, _, _, _, osl, _, lk', _⟩ := id F'.ex
  rw [lk] at lk'
  cases lk'
  exact ⟨f', fd, g', F, g, kp, b'⟩
theorem Def.mono {j : Nat} (h : Def P w K mg base x j ps sp) (hk : j ≤ k) : Def P w K mg base x k ps sp := by
  obtain ⟨f, fd, F, r⟩ := h
  exact ⟨f, fd, F.mono hk, r⟩
end
section
variable {X : Cx} {x : Str} {k : Nat} {ps : List Str} {sp : Sp} {p pos : Pos} {e : Expr} {es : List Expr} {t : TA}
/-- f(e, ..) -/
theorem pe_def (D : Def X.prog X.w X.K X.mg X.base x k ps sp) (hr : Room k X.A) (hg : Gl X x) (ha : PA X (e :: es) t) (hdb : (x == ("__debug__" : Str)) = false := by decide)
    (he : starEach (e :: es) X.env = (false, eval e X.env) :: starEach es X.env := by rfl) (hpl : (backTo pos (starEach es X.env)).any (·.1) = false := by rfl) :
    PE X (.Call (.Name x p) (e :: es) [] pos) (tCall sp [] E0 t) := by
  obtain ⟨f, fd, F, g, kp, b, _⟩ := D
  exact pe_call F hr hg g kp b .nil pass0 ha hdb he hpl
/-- f(k = v, ..) -/
theorem pe_defK0 {ks : List Str} {gV : List V → List V → List V} {kws : List Keyword} {tk : TA} (D : DefK X.prog X.w X.K X.mg X.base x k ps ks gV sp) (hr : Room k X.A) (hg : Gl X x) (hkw : PK X kws tk)
    (hall : (backToKw pos (keywordEach kws X.env)).all (·.1.isSome) = true := by rfl) (hks : (backToKw pos (keywordEach kws X.env)).filterMap (·.1) = ks := by rfl) (hdb : (x == ("__debug__" : Str)) = false := by decide)
    (hpl : ((backTo pos (starEach [] X.env)).any (·.1) || (backToKw pos (keywordEach kws X.env)).any (·.1.isNone)) = false := by rfl) :
    PE X (.Call (.Name x p) [] kws pos) (tCallK sp gV E0 tNil tk) := by
  obtain ⟨f, fd, g, F, hm, kp, b⟩ := D
  refine ⟨fun pins s σ H Q I h => ?_⟩
  refine wpAny_Call_Name_kw (ld_glob I hg hm ?_ hdb)
  refine PySem.W.callWith_KW0 (h₀ := X.base) I.ok.mod.kin kp hall ?_ hpl
  refine thn (hkw.run pos pins s σ H _ I h) fun ws s2 ⟨zs, H2, I2, rz, q2⟩ => ⟨I2.kIn, ?_⟩
  rw [hks]
  exact run_fnk (us := []) (vs := []) F hr b pass0 I2 .nil rz q2
end
/-! ### heaps -/
/-- all that was tracked but p stays -/
def SameB (p : Addr) (H H' : Hp) : Prop := ∀ b o, b ≠ p → H b = some o → H' b = some o
theorem SameB.refl (p : Addr) (H : Hp) : SameB p H H := fun _ _ _ h => h
theorem SameB.trans {p : Addr} {H H1 H2 : Hp} (a : SameB p H H1) (b : SameB p H1 H2) : SameB p H H2 := fun c o n h => b c o n (a c o n h)
theorem Same.b {p : Addr} {H H' : Hp} (a : Same H H') : SameB p H H' := fun c o _ h => a c o h
theorem SameB.upd {p : Addr} {H : Hp} {o : HO} : SameB p H (upd H p o) := fun b u n h => by
  rw [upd_ne n]
  exact h
theorem same_upd {H : Hp} {p : Addr} {o : HO} (h : H p = none) : Same H (upd H p o) := fun b x e => by
  rw [upd_ne (ne_of_none e h)]
  exact e
/-- a new object may change -/
theorem Same.mut {H H' : Hp} {p : Addr} {o : HO} (e : Same H H') (h : H p = none) : Same H (upd H' p o) := fun a u ha => by
  rw [upd_ne (ne_of_none ha h)]
  exact e a u ha
theorem Same.seqT {K : PySem.W.Frag} {H H' : Hp} {a : Addr} {xs : List V} (e : Same H H') (h : SqT K H a xs) : SqT K H' a xs := by
  rcases h with (h | ⟨o, h⟩) | h
  · exact .inl (.inl (e _ _ h))
  · exact .inl (.inr ⟨o, e _ _ h⟩)
  · exact .inr h
theorem Same.new {H H1 : Hp} {p : Addr} (e : Same H H1) (h : H1 p = none) : H p = none := by
  cases q : H p with
  | none => rfl
  | some o =>
    rw [e p o q] at h
    cases h
end L2

namespace L2
open PySem PySem.Spec PyProof.Rows

/-! ### data: tuples are tracked -/
mutual
inductive Da (K : PySem.W.Frag) (H : Hp) : V → PyData → Prop
  | non : Da K H .non .none
  | bl (b : Bool) : Da K H (.bl b) (.bool b)
  | int (i : Int) : Da K H (.int i) (.int i)
  | str (x : Str) : Da K H (.str x) (.str x)
  | lst {a : Addr} {xs : List V} {ds : List PyData} : SqL K H a xs → DaAll K H xs ds → Da K H (.ref a) (.list ds)
  | tup {a : Addr} {xs : List V} {ds : List PyData} : H a = some (.tup xs) → DaAll K H xs ds → Da K H (.ref a) (.tuple ds)
inductive DaAll (K : PySem.W.Frag) (H : Hp) : List V → List PyData → Prop
  | nil : DaAll K H [] []
  | cons {v : V} {vs : List V} {d : PyData} {ds : List PyData} : Da K H v d → DaAll K H vs ds → DaAll K H (v :: vs) (d :: ds)
end
mutual
theorem Da.dp {K : PySem.W.Frag} {H : Hp} : ∀ (d : PyData) (v : V), Da K H v d → Dp K H v d
  | .none, _, h => by
    cases h
    exact .non
  | .bool b, _, h => by
    cases h
    exact .bl b
  | .int i, _, h => by
    cases h
    exact .int i
  | .str x, _, h => by
    cases h
    exact .str x
  | .tuple ds, _, h => by
    cases h with
    | tup hs ha => exact .tup (SqT.of hs) (Da.dpAll ds _ ha)
  | .list ds, _, h => by
    cases h with
    | lst hs ha => exact .lst hs (Da.dpAll ds _ ha)
  | .dict _, _, h => by cases h
theorem Da.dpAll {K : PySem.W.Frag} {H : Hp} : ∀ (ds : List PyData) (vs : List V), DaAll K H vs ds → DpAll K H vs ds
  | [], _, h => by
    cases h
    exact .nil
  | d :: ds, _, h => by
    cases h with
    | cons h1 h2 => exact .cons (Da.dp d _ h1) (Da.dpAll ds _ h2)
end
/-! ### tuples stay -/
def ST (_ : PySem.W.Frag) (H H' : Hp) : Prop := ∀ a xs, H a = some (.tup xs) → H' a = some (.tup xs)
theorem ST.refl {K : PySem.W.Frag} (H : Hp) : ST K H H := fun _ _ h => h
theorem ST.trans {K : PySem.W.Frag} {H H1 H2 : Hp} (a : ST K H H1) (b : ST K H1 H2) : ST K H H2 := fun x o h => b x o (a x o h)
theorem Same.st {K : PySem.W.Frag} {H H' : Hp} (e : Same H H') : ST K H H' := fun _ _ h => e _ _ h
/-- what is no tuple may change -/
def NoTup : HO → Prop
  | .tup _ => False
  | _ => True
theorem SameB.st {K : PySem.W.Frag} {H H' : Hp} {p : Addr} {o : HO} (e : SameB p H H') (h : H p = some o) (n : NoTup o) : ST K H H' := fun a xs q => by
  refine e a _ (fun z => ?_) q
  subst z
  rw [h] at q
  cases q
  exact n
theorem st_upd {K : PySem.W.Frag} {H : Hp} {p : Addr} {o u : HO} (h : H p = some o) (n : NoTup o) : ST K H (upd H p u) := SameB.st SameB.upd h n

/-! ### immutable data -/
mutual
def imm : PyData → Bool
  | .none => true
  | .bool _ => true
  | .int _ => true
  | .str _ => true
  | .tuple ds => immAll ds
  | .list _ => false
  | .dict _ => false
def immAll : List PyData → Bool
  | [] => true
  | d :: ds => imm d && immAll ds
end
mutual
theorem Da.st {K : PySem.W.Frag} {H H' : Hp} (e : ST K H H') : ∀ (d : PyData) (v : V), imm d = true → Da K H v d → Da K H' v d
  | .none, _, _, h => by
    cases h
    exact .non
  | .bool b, _, _, h => by
    cases h
    exact .bl b
  | .int i, _, _, h => by
    cases h
    exact .int i
  | .str x, _, _, h => by
    cases h
    exact .str x
  | .tuple ds, _, hi, h => by
    cases h with
    | tup hs ha => exact .tup (e _ _ hs) (Da.stAll e ds _ hi ha)
  | .list _, _, hi, _ => by cases hi
  | .dict _, _, hi, _ => by cases hi
theorem Da.stAll {K : PySem.W.Frag} {H H' : Hp} (e : ST K H H') : ∀ (ds : List PyData) (vs : List V), immAll ds = true → DaAll K H vs ds → DaAll K H' vs ds
  | [], _, _, h => by
    cases h
    exact .nil
  | d :: ds, _, hi, h => by
    cases h with
    | cons h1 h2 =>
      have hi' : (imm d && immAll ds) = true := hi
      rw [Bool.and_eq_true] at hi'
      exact .cons (Da.st e d _ hi'.1 h1) (Da.stAll e ds _ hi'.2 h2)
end
mutual
/-- all that was tracked stays: data of any kind -/
theorem Da.same {K : PySem.W.Frag} {H H' : Hp} (e : Same H H') : ∀ (d : PyData) (v : V), Da K H v d → Da K H' v d
  | .none, _, h => by
    cases h
    exact .non
  | .bool b, _, h => by
    cases h
    exact .bl b
  | .int i, _, h => by
    cases h
    exact .int i
  | .str x, _, h => by
    cases h
    exact .str x
  | .tuple ds, _, h => by
    cases h with
    | tup hs ha => exact .tup (e _ _ hs) (Da.sameAll e ds _ ha)
  | .list ds, _, h => by
    cases h with
    | lst hs ha => exact .lst (e.seq hs) (Da.sameAll e ds _ ha)
  | .dict _, _, h => by cases h
theorem Da.sameAll {K : PySem.W.Frag} {H H' : Hp} (e : Same H H') : ∀ (ds : List PyData) (vs : List V), DaAll K H vs ds → DaAll K H' vs ds
  | [], _, h => by
    cases h
    exact .nil
  | d :: ds, _, h => by
    cases h with
    | cons h1 h2 => exact .cons (Da.same e d _ h1) (Da.sameAll e ds _ h2)
end
theorem DaAll.length {K : PySem.W.Frag} {H : Hp} : ∀ {vs : List V} {ds : List PyData}, DaAll K H vs ds → vs.length = ds.length
  | _, _, .nil => rfl
  | _, _, .cons _ t => congrArg (· + 1) (DaAll.length t)
theorem DaAll.snoc {K : PySem.W.Frag} {H : Hp} {v : V} {d : PyData} (h : Da K H v d) : ∀ {vs : List V} {ds : List PyData}, DaAll K H vs ds → DaAll K H (vs ++ [v]) (ds ++ [d])
  | _, _, .nil => .cons h .nil
  | _, _, .cons r t => .cons r (DaAll.snoc h t)
theorem DaAll.append {K : PySem.W.Frag} {H : Hp} {us : List V} {es : List PyData} (h : DaAll K H us es) : ∀ {vs : List V} {ds : List PyData}, DaAll K H vs ds → DaAll K H (vs ++ us) (ds ++ es)
  | _, _, .nil => h
  | _, _, .cons r t => .cons r (DaAll.append h t)
theorem DaAll.get {K : PySem.W.Frag} {H : Hp} : ∀ {vs : List V} {ds : List PyData} {i : Nat} {v : V}, DaAll K H vs ds → vs[i]? = some v → ∃ d, ds[i]? = some d ∧ Da K H v d
  | _, _, _, _, .nil, e => by simp at e
  | _, _, 0, _, .cons r _, e => by
    simp at e
    subst e
    exact ⟨_, rfl, r⟩
  | _, _, i + 1, v, .cons _ t, e => by
    obtain ⟨d, h1, h2⟩ := DaAll.get (i := i) (v := v) t (by simpa using e)
    exact ⟨d, by simpa using h1, h2⟩
theorem DaAll.at {K : PySem.W.Frag} {H : Hp} : ∀ {vs : List V} {ds : List PyData} {i : Nat} {d : PyData}, DaAll K H vs ds → ds[i]? = some d → ∃ v, vs[i]? = some v ∧ Da K H v d
  | _, _, _, _, .nil, e => by simp at e
  | _, _, 0, _, .cons r _, e => by
    simp at e
    subst e
    exact ⟨_, rfl, r⟩
  | _, _, i + 1, d, .cons _ t, e => by
    obtain ⟨v, h1, h2⟩ := DaAll.at (i := i) (d := d) t (by simpa using e)
    exact ⟨v, by simpa using h1, h2⟩
theorem DaAll.ints {K : PySem.W.Frag} {H : Hp} : ∀ {vs : List V} {ns : List Int}, DaAll K H vs (ns.map PyData.int) → vs = ns.map V.int
  | _, [], .nil => rfl
  | _, n :: ns, .cons r t => by
    cases r
    rw [DaAll.ints (ns := ns) t]
    rfl
theorem da_ints {K : PySem.W.Frag} {H : Hp} : ∀ ns : List Int, DaAll K H (ns.map V.int) (ns.map PyData.int)
  | [] => .nil
  | n :: ns => .cons (.int n) (da_ints ns)
theorem imm_ints : ∀ ns : List Int, immAll (ns.map PyData.int) = true
  | [] => rfl
  | n :: ns => by
    show (imm (.int n) && immAll (ns.map PyData.int)) = true
    rw [imm_ints ns]
    rfl
/-- a moment (or a row of ints) -/
def mo (m : List Int) : PyData := .tuple (m.map .int)
abbrev Mo (K : PySem.W.Frag) (H : Hp) (v : V) (m : List Int) : Prop := Da K H v (mo m)
theorem imm_mo (m : List Int) : imm (mo m) = true := imm_ints m
theorem Mo.inv {K : PySem.W.Frag} {H : Hp} {v : V} {m : List Int} (h : Mo K H v m) : ∃ a, v = .ref a ∧ SqT K H a (m.map V.int) := by
  cases h with
  | tup hs ha =>
    rw [DaAll.ints ha] at hs
    exact ⟨_, rfl, SqT.of hs⟩
theorem Mo.trk {K : PySem.W.Frag} {H : Hp} {v : V} {m : List Int} (h : Mo K H v m) : ∃ a, v = .ref a ∧ H a = some (.tup (m.map V.int)) := by
  cases h with
  | tup hs ha =>
    rw [DaAll.ints ha] at hs
    exact ⟨_, rfl, hs⟩
theorem Mo.of {K : PySem.W.Frag} {H : Hp} {a : Addr} {m : List Int} (h : H a = some (.tup (m.map V.int))) : Mo K H (.ref a) m := .tup h (da_ints m)
theorem Mo.st {K : PySem.W.Frag} {H H' : Hp} {v : V} {m : List Int} (h : Mo K H v m) (e : ST K H H') : Mo K H' v m := Da.st e _ _ (imm_mo m) h
theorem Mo.same {K : PySem.W.Frag} {H H' : Hp} {v : V} {m : List Int} (h : Mo K H v m) (e : Same H H') : Mo K H' v m := h.st e.st

/-! ### walks -/
theorem walk_zipT {K : PySem.W.Frag} {a b : Addr} {xs ys : List V} (hl : xs.length = ys.length) : Walk (RZ.ItzT K a b) xs.length (fun H => SqT K H a xs ∧ SqT K H b ys) (YPair (fun i => xs[i]?) (fun i => ys[i]?)) := by
  refine ⟨fun i _ hi q => ?_, fun _ q => ⟨xs, ys, q.1, q.2, .inl (Nat.le_refl _)⟩, fun i H v H' _ q y => ?_⟩
  · have h2 : i < ys.length := by omega
    exact ⟨xs, ys, xs[i], ys[i], q.1, q.2, by simp [hi], by simp [h2]⟩
  · obtain ⟨T, x, z, h1, h2, h3, h4, h5⟩ := y
    exact ⟨T, x, z, h1, h2, h3, h4 xs q.1, h5 ys q.2⟩

/-! ### comprehensions -/
section
variable {J : It} {n : Nat} {G : Hp → Prop} {Y : Nat → Hp → V → Hp → Prop} {K : PySem.W.Frag}
/-- what lc_it gives, by name -/
abbrev LcGoal (J : It) (g : TG) (tt : TT) (te : TE) (vs : List Nat) (σ : L2.St) (H1 : Hp) (D : Addr) (Qd : Hp → Prop) : Prop :=
  ∃ W : Nat → Nat → Hp → Prop, (∃ m, W 0 m (upd H1 D (.lst []))) ∧ ∀ i m H, W i m H →
      (J.stop i H ∧ Qd H) ∨ (J.go i H ∧ ∃ Nx : Hp → Prop, (∀ H', Nx H' → ∃ m', m' < m ∧ W (i + 1) m' H') ∧ ∀ x H', J.yld i H x H' → g x (wipe σ vs) H' fun σ2 H2 => wipe σ2 vs = wipe σ vs ∧ tt σ2 H2 fun b H3 =>
        if b = true then te σ2 H3 fun y H4 => ∃ acc, H4 D = some (.lst acc) ∧ acc.length < sizeLine ∧ Nx (upd H4 D (.lst (acc ++ [y]))) else Nx H3)
/-- all elements are values told ahead -/
theorem lc_val (w : Walk J n G Y) {g : TG} {te : TE} {vs : List Nat} {σ : L2.St} {H1 : Hp} {D : Addr} {Qd : Hp → Prop} (hD : H1 D = none) (hn : n ≤ 100000) (hG : ∀ H, Same H1 H → G H) (fs : List V) (hl : fs.length = n)
    (step : ∀ i x H H' (Q : VK), i < n → Same H1 H → Y i H x H' → (∀ y H4, Same H H4 → fs[i]? = some y → Q y H4) → g x (wipe σ vs) H' fun σ2 H2 => wipe σ2 vs = wipe σ vs ∧ te σ2 H2 Q)
    (hd : ∀ H, Same H1 H → H D = some (.lst fs) → Qd H) : LcGoal J g tYes te vs σ H1 D Qd := by
  refine lc_it w (fun i H => Same H1 H ∧ H D = some (.lst (fs.take i))) ⟨same_upd hD, upd_same⟩ (fun i H _ p => hG H p.1) (fun i x H H' hi p y => ?_) (fun H p => ?_)
  · refine step i x H H' _ hi p.1 y fun v H4 e he => ⟨_, e _ _ p.2, ?_, (p.1.trans e).mut hD, ?_⟩
    · rw [List.length_take]
      exact Nat.lt_of_le_of_lt (Nat.min_le_left _ _) (Nat.lt_of_lt_of_le hi (Nat.le_trans hn (by decide)))
    · rw [upd_same, List.take_add_one, he]
      rfl
  · refine hd H p.1 ?_
    rw [p.2, List.take_of_length_le (Nat.le_of_eq hl)]
/-- all elements are immutable data told ahead -/
theorem lc_dat (w : Walk J n G Y) {g : TG} {te : TE} {vs : List Nat} {σ : L2.St} {H1 : Hp} {D : Addr} {Qd : Hp → Prop} (hD : H1 D = none) (hn : n ≤ 100000) (hG : ∀ H, Same H1 H → G H) (ds : List PyData) (hl : ds.length = n) (him : immAll ds = true)
    (step : ∀ i x H H' (Q : VK), i < n → Same H1 H → Y i H x H' → (∀ y H4 d, Same H H4 → ds[i]? = some d → Da K H4 y d → Q y H4) → g x (wipe σ vs) H' fun σ2 H2 => wipe σ2 vs = wipe σ vs ∧ te σ2 H2 Q)
    (hd : ∀ H acc, Same H1 H → H D = some (.lst acc) → DaAll K H acc ds → Qd H) : LcGoal J g tYes te vs σ H1 D Qd := by
  have himt : ∀ i, immAll (ds.take i) = true := by
    have : ∀ (l : List PyData) (i : Nat), immAll l = true → immAll (l.take i) = true := by
      intro l
      induction l with
      | nil => intro i _; cases i <;> rfl
      | cons d l ih =>
        intro i h
        have h' : (imm d && immAll l) = true := h
        rw [Bool.and_eq_true] at h'
        cases i with
        | zero => rfl
        | succ i =>
          show (imm d && immAll (l.take i)) = true
          rw [h'.1, ih i h'.2]
          rfl
    exact fun i => this ds i him
  refine lc_it w (fun i H => Same H1 H ∧ ∃ acc, H D = some (.lst acc) ∧ DaAll K H acc (ds.take i)) ⟨same_upd hD, [], upd_same, .nil⟩ (fun i H _ p => hG H p.1) (fun i x H H' hi p y => ?_) (fun H p => ?_)
  · obtain ⟨p1, acc, p2, p3⟩ := p
    refine step i x H H' _ hi p1 y fun v H4 d e he hv => ⟨acc, e _ _ p2, ?_, (p1.trans e).mut hD, _, upd_same, ?_⟩
    · rw [p3.length, List.length_take]
      exact Nat.lt_of_le_of_lt (Nat.min_le_left _ _) (Nat.lt_of_lt_of_le hi (Nat.le_trans hn (by decide)))
    · rw [List.take_add_one, he]
      have e4 : H4 D = some (.lst acc) := e _ _ p2
      have st : ST K H4 (upd H4 D (.lst (acc ++ [v]))) := st_upd e4 True.intro
      have hid : imm d = true := by
        have : ∀ (l : List PyData) (i : Nat), immAll l = true → l[i]? = some d → imm d = true := by
          intro l
          induction l with
          | nil => intro i _ h; simp at h
          | cons d' l ih =>
            intro i h h2
            have h' : (imm d' && immAll l) = true := h
            rw [Bool.and_eq_true] at h'
            cases i with
            | zero =>
              simp at h2
              subst h2
              exact h'.1
            | succ i => exact ih i h'.2 (by simpa using h2)
        exact this ds i him he
      exact DaAll.snoc (Da.st st _ _ hid hv) (Da.stAll (e.st.trans st) _ _ (himt i) p3)
  · obtain ⟨p1, acc, p2, p3⟩ := p
    rw [List.take_of_length_le (Nat.le_of_eq hl)] at p3
    exact hd H acc p1 p2 p3
end
/-! ### short names of readings -/
abbrev yAdd : R2 := rI0 fun i j => .int (i + j)
abbrev ySub : R2 := rI0 fun i j => .int (i - j)
abbrev yMul : R2 := rI CMul fun i j => .int (i * j)
abbrev yDiv : R2 := rI CDivW fun i j => .int (i / j)
abbrev yMod : R2 := rI (fun _ j => 0 < j) fun i j => .int (i % j)
abbrev yPow : R2 := rI CPow fun i j => .int (i ^ j.toNat)
abbrev yLt : R2 := rI0 fun i j => .bl (decide (i < j))
abbrev yLe : R2 := rI0 fun i j => .bl (decide (i ≤ j))
abbrev yGt : R2 := rI0 fun i j => .bl (decide (j < i))
abbrev yGe : R2 := rI0 fun i j => .bl (decide (j ≤ i))
abbrev yNeg : V → Hp → VK → Prop := rU fun i => .int (-i)
abbrev yLen (K : PySem.W.Frag) : List V → Hp → VK → Prop := fun vs H Q => ∃ p ys, vs = [.ref p] ∧ (SqL K H p ys ∨ SqT K H p ys) ∧ Q (.int ys.length) H
abbrev yMax : List V → Hp → VK → Prop := fun vs H Q => ∃ i j, vs = [.int i, .int j] ∧ Q (.int (if j > i then j else i)) H
abbrev yMin : List V → Hp → VK → Prop := fun vs H Q => ∃ i j, vs = [.int i, .int j] ∧ Q (.int (if j < i then j else i)) H
abbrev yInt : List V → Hp → VK → Prop := fun vs H Q => (∃ i, vs = [.int i] ∧ Q (.int i) H) ∨ ∃ k, vs = [.bl k] ∧ Q (.int (if k then 1 else 0)) H
abbrev yTup (K : PySem.W.Frag) : List V → Hp → VK → Prop := fun vs H Q => ∃ p ys, vs = [.ref p] ∧ ((SqL K H p ys ∧ ∀ l, H l = none → Q (.ref l) (upd H l (.tup ys))) ∨ (SqT K H p ys ∧ Q (.ref p) H))
abbrev yLst (K : PySem.W.Frag) : List V → Hp → VK → Prop := fun vs H Q => ∃ p ys, vs = [.ref p] ∧ (SqL K H p ys ∨ SqT K H p ys) ∧ ∀ l, H l = none → Q (.ref l) (upd H l (.lst ys))
theorem hu64 {A : Around} {k : Nat} (hr : Room k A) : A.units + 64 < cLine := by
  have := hr.un
  omega
theorem hu0 {A : Around} {k : Nat} (hr : Room k A) : A.units < cLine := by
  have := hr.un
  omega
end L2

namespace L2
open PySem PySem.Spec PyProof.Rows
theorem immAll_append : ∀ {a b : List PyData}, immAll a = true → immAll b = true → immAll (a ++ b) = true
  | [], _, _, h => h
  | d :: a, b, h1, h2 => by
    have h' : (imm d && immAll a) = true := h1
    rw [Bool.and_eq_true] at h'
    show (imm d && immAll (a ++ b)) = true
    rw [h'.1, immAll_append h'.2 h2]
    rfl
theorem immAll_at {d : PyData} : ∀ {l : List PyData} {i : Nat}, immAll l = true → l[i]? = some d → imm d = true
  | [], _, _, h => by simp at h
  | e :: l, i, h1, h2 => by
    have h' : (imm e && immAll l) = true := h1
    rw [Bool.and_eq_true] at h'
    cases i with
    | zero =>
      simp at h2
      subst h2
      exact h'.1
    | succ i => exact immAll_at h'.2 (by simpa using h2)
theorem immAll_take : ∀ {l : List PyData} (i : Nat), immAll l = true → immAll (l.take i) = true
  | [], i, _ => by cases i <;> rfl
  | e :: l, i, h1 => by
    have h' : (imm e && immAll l) = true := h1
    rw [Bool.and_eq_true] at h'
    cases i with
    | zero => rfl
    | succ i =>
      show (imm e && immAll (l.take i)) = true
      rw [h'.1, immAll_take i h'.2]
      rfl
theorem immAll_of : ∀ {l : List PyData}, (∀ d ∈ l, imm d = true) → immAll l = true
  | [], _ => rfl
  | e :: l, h => by
    show (imm e && immAll l) = true
    rw [h e List.mem_cons_self, immAll_of fun d hd => h d (List.mem_cons_of_mem _ hd)]
    rfl
theorem sz1000' {n : Nat} (h : n ≤ 100000) : n ≤ sizeLine := Nat.le_trans h (by decide)
section
variable {J J1 : It} {n n1 : Nat} {G G1 : Hp → Prop} {Y Y1 : Nat → Hp → V → Hp → Prop} {K : PySem.W.Frag}
/-- two clauses, the inner one over a thing that stands still; immutable data told ahead -/
theorem lc2_dat (w : Walk J n G Y) (w1 : Walk J1 n1 G1 Y1) {wi1 : TI} {g g1 : TG} {te : TE} {vs vs1 : List Nat} {σ : L2.St} {H1 : Hp} {D : Addr} {Qd : Hp → Prop} (hD : H1 D = none) (hn : n * n1 ≤ 100000)
    (hG : ∀ H, Same H1 H → G H) (hG1 : ∀ H, Same H1 H → G1 H) (ds : Nat → List PyData) (hl : ∀ i, i < n → (ds i).length = n1) (him : ∀ i, i < n → immAll (ds i) = true)
    (step : ∀ i x H H' (Q : L2.St → Hp → Prop), i < n → Same H1 H → Y i H x H' →
      (∀ σ2 H2, Same H H2 → wipe σ2 vs = wipe σ vs → ((∀ H3 R, Same H2 H3 → R J1 H3 → wi1 σ2 H3 R) ∧
        (∀ j y H3 H3' (Q' : VK), j < n1 → Same H1 H3 → ST K H2 H3 → Y1 j H3 y H3' → (∀ z H4 d, Same H3 H4 → (ds i)[j]? = some d → Da K H4 z d → Q' z H4) → g1 y (wipe σ2 vs1) H3' fun σ3 H5 => wipe σ3 vs1 = wipe σ2 vs1 ∧ te σ3 H5 Q')) → Q σ2 H2) → g x (wipe σ vs) H' Q)
    (hd : ∀ H acc, Same H1 H → H D = some (.lst acc) → DaAll K H acc ((List.range n).map ds).flatten → Qd H) :
    ∃ W : Nat → Nat → Hp → Prop, (∃ m, W 0 m (upd H1 D (.lst []))) ∧ ∀ i m H, W i m H →
      (J.stop i H ∧ Qd H) ∨ (J.go i H ∧ ∃ Nx : Hp → Prop, (∀ H', Nx H' → ∃ m', m' < m ∧ W (i + 1) m' H') ∧ ∀ x H', J.yld i H x H' → g x (wipe σ vs) H' fun σ2 H2 => wipe σ2 vs = wipe σ vs ∧ tYes σ2 H2 fun b H3 =>
        if b = true then wi1 σ2 H3 fun J1 H4 => ∃ W1 : Nat → Nat → Hp → Prop, (∃ m, W1 0 m H4) ∧ ∀ j k H, W1 j k H →
          (J1.stop j H ∧ Nx H) ∨ (J1.go j H ∧ ∃ Nx1 : Hp → Prop, (∀ H', Nx1 H' → ∃ k', k' < k ∧ W1 (j + 1) k' H') ∧ ∀ x H', J1.yld j H x H' → g1 x (wipe σ2 vs1) H' fun σ3 H5 => wipe σ3 vs1 = wipe σ2 vs1 ∧ tYes σ3 H5 fun b H6 =>
            if b = true then te σ3 H6 fun y H7 => ∃ acc, H7 D = some (.lst acc) ∧ acc.length < sizeLine ∧ Nx1 (upd H7 D (.lst (acc ++ [y]))) else Nx1 H6)
        else Nx H3) := by
  have flen : ∀ i, i ≤ n → ((List.range i).map ds).flatten.length = i * n1 := by
    intro i
    induction i with
    | zero => intro _; simp
    | succ i ih =>
      intro h
      rw [List.range_succ, List.map_append, List.flatten_append, List.length_append, ih (by omega)]
      simp [hl i (by omega), Nat.succ_mul]
  have fimm : ∀ i, i ≤ n → immAll ((List.range i).map ds).flatten = true := by
    intro i
    induction i with
    | zero => intro _; rfl
    | succ i ih =>
      intro h
      rw [List.range_succ, List.map_append, List.flatten_append]
      refine immAll_append (ih (by omega)) ?_
      simpa using him i (by omega)
  have fsnoc : ∀ i, ((List.range (i + 1)).map ds).flatten = ((List.range i).map ds).flatten ++ ds i := by
    intro i
    rw [List.range_succ, List.map_append, List.flatten_append]
    simp
  refine ⟨fun i m H => m = n - i ∧ i ≤ n ∧ Same H1 H ∧ ∃ acc, H D = some (.lst acc) ∧ DaAll K H acc ((List.range i).map ds).flatten, ⟨n, by simp, Nat.zero_le _, same_upd hD, [], upd_same, .nil⟩, ?_⟩
  rintro i m H ⟨rfl, hi, p1, acc, p2, p3⟩
  by_cases hlt : i < n
  · refine .inr ⟨w.goes i H hlt (hG H p1), fun H' => Same H1 H' ∧ ∃ acc, H' D = some (.lst acc) ∧ DaAll K H' acc ((List.range (i + 1)).map ds).flatten, fun H' ⟨q1, q2⟩ => ⟨n - (i + 1), by omega, rfl, hlt, q1, q2⟩, fun x H' y => ?_⟩
    refine step i x H H' _ hlt p1 (w.yields i H x H' hlt (hG H p1) y) fun σ2 H2 e2 ws ⟨hin, el⟩ => ?_
    refine ⟨ws, ?_⟩
    show wi1 σ2 H2 _
    refine hin H2 _ (Same.refl _) ?_
    refine ⟨fun j k H => k = n1 - j ∧ j ≤ n1 ∧ Same H1 H ∧ ST K H2 H ∧ ∃ acc, H D = some (.lst acc) ∧ DaAll K H acc (((List.range i).map ds).flatten ++ (ds i).take j), ⟨n1, by simp, Nat.zero_le _, p1.trans e2, ST.refl _, acc, e2 _ _ p2, ?_⟩, ?_⟩
    · rw [List.take_zero, List.append_nil]
      exact Da.sameAll e2 _ _ p3
    · rintro j k H3 ⟨rfl, hj, q1, qb, acc3, q2, q3⟩
      by_cases hjl : j < n1
      · refine .inr ⟨w1.goes j H3 hjl (hG1 H3 q1), fun H' => Same H1 H' ∧ ST K H2 H' ∧ ∃ acc, H' D = some (.lst acc) ∧ DaAll K H' acc (((List.range i).map ds).flatten ++ (ds i).take (j + 1)), fun H' ⟨r1, r2⟩ => ⟨n1 - (j + 1), by omega, rfl, hjl, r1, r2⟩, fun x3 H3' y3 => ?_⟩
        refine el j x3 H3 H3' _ hjl q1 qb (w1.yields j H3 x3 H3' hjl (hG1 H3 q1) y3) fun z H4 d e4 hd4 hz => ?_
        have e5 : H4 D = some (.lst acc3) := e4 _ _ q2
        have st : ST K H4 (upd H4 D (.lst (acc3 ++ [z]))) := st_upd e5 True.intro
        refine ⟨acc3, e5, ?_, (q1.trans e4).mut hD, (qb.trans e4.st).trans st, _, upd_same, ?_⟩
        · have l3 := q3.length
          rw [List.length_append, flen i hi, List.length_take] at l3
          have hle : (i + 1) * n1 ≤ n * n1 := Nat.mul_le_mul_right _ hlt
          rw [Nat.succ_mul] at hle
          refine Nat.lt_of_lt_of_le ?_ (sz1000' hn)
          have : min j (ds i).length ≤ j := Nat.min_le_left _ _
          omega
        · rw [List.take_add_one, hd4, ← List.append_assoc]
          exact DaAll.snoc (Da.st st _ _ (immAll_at (him i hlt) hd4) hz) (Da.stAll (e4.st.trans st) _ _ (immAll_append (fimm i hi) (immAll_take j (him i hlt))) q3)
      · have ej : j = n1 := by omega
        subst ej
        refine .inl ⟨w1.stops H3 (hG1 H3 q1), q1, acc3, q2, ?_⟩
        rw [fsnoc]
        rw [List.take_of_length_le (Nat.le_of_eq (hl i hlt))] at q3
        exact q3
  · have e : i = n := by omega
    subst e
    exact .inl ⟨w.stops H (hG H p1), hd H acc p1 p2 p3⟩
/-- a comprehension with a test: values told ahead -/
theorem lc_val_if (w : Walk J n G Y) {g : TG} {tt : TT} {te : TE} {vs : List Nat} {σ : L2.St} {H1 : Hp} {D : Addr} {Qd : Hp → Prop} (hD : H1 D = none) (hn : n ≤ 100000) (hG : ∀ H, Same H1 H → G H) (bs : Nat → Bool) (fs : Nat → V)
    (step : ∀ i x H H' (Q : VK) (R : Hp → Prop), i < n → Same H1 H → Y i H x H' → (∀ H4, bs i = true → Same H H4 → Q (fs i) H4) → (∀ H3, bs i = false → Same H H3 → R H3) →
      g x (wipe σ vs) H' fun σ2 H2 => wipe σ2 vs = wipe σ vs ∧ tt σ2 H2 fun b H3 => if b = true then te σ2 H3 Q else R H3)
    (hd : ∀ H, Same H1 H → H D = some (.lst (((List.range n).filter bs).map fs)) → Qd H) : LcGoal J g tt te vs σ H1 D Qd := by
  refine lc_it w (fun i H => Same H1 H ∧ H D = some (.lst (((List.range i).filter bs).map fs))) ⟨same_upd hD, upd_same⟩ (fun i H _ p => hG H p.1) (fun i x H H' hi p y => ?_) (fun H p => hd H p.1 p.2)
  refine step i x H H' _ _ hi p.1 y (fun H4 hb e => ⟨_, e _ _ p.2, ?_, (p.1.trans e).mut hD, ?_⟩) fun H3 hb e => ⟨p.1.trans e, ?_⟩
  · rw [List.length_map]
    refine Nat.lt_of_le_of_lt (List.length_filter_le _ _) ?_
    rw [List.length_range]
    exact Nat.lt_of_lt_of_le hi (Nat.le_trans hn (by decide))
  · rw [upd_same, List.range_succ, List.filter_append, List.map_append]
    simp [hb]
  · rw [e _ _ p.2, List.range_succ, List.filter_append, List.map_append]
    simp [hb]
end
theorem SameB.mut {p q : Addr} {H H' : Hp} {o : HO} (e : SameB p H H') (h : H q = none) : SameB p H (L2.upd H' q o) := fun a u n ha => by
  rw [upd_ne (ne_of_none ha h)]
  exact e a u n ha
theorem SameB.fresh {p q : Addr} {H H' : Hp} (e : SameB p H H') (hp : ∃ o, H p = some o) (h : H' q = none) (hp' : ∃ o, H' p = some o) : H q = none := by
  cases z : H q with
  | none => rfl
  | some o =>
    by_cases hq : q = p
    · subst hq
      obtain ⟨o', ho'⟩ := hp'
      rw [h] at ho'
      cases ho'
    · rw [e q o hq z] at h
      cases h
theorem SameB.seqT {K : PySem.W.Frag} {p a : Addr} {H H' : Hp} {l xs : List V} (e : SameB p H H') (hp : H p = some (.lst l)) (h : SqT K H a xs) : SqT K H' a xs := by
  rcases h with (h | ⟨o, h⟩) | h
  · exact .inl (.inl (e _ _ (ne_of h hp (by intro z; cases z)) h))
  · exact .inl (.inr ⟨o, e _ _ (ne_of h hp (by intro z; cases z)) h⟩)
  · exact .inr h
/-- a lock and its key: behind the unlocking all is as it was -/
theorem same_unlock {d : Addr} {o : Obj} {u : HO} {H H' : Hp} (h : H d = some u) (e : Same (upd H d (.frz o u)) H') : Same H (upd H' d u) := fun a x ha => by
  by_cases z : a = d
  · subst z
    rw [upd_same, ← h, ha]
  · rw [upd_ne z]
    exact e a x (by rw [upd_ne z]; exact ha)
theorem same_lock {d : Addr} {o : Obj} {u : HO} {H H' : Hp} (e : Same (upd H d (.frz o u)) H') : SameB d H H' := fun a x n ha => e a x (by rw [upd_ne n]; exact ha)
end L2

namespace L2
open PySem PySem.Spec PyProof.Rows
/-! ### x in o, by the class's own __contains__ -/
def rInOwn (C : Addr) (sp : Sp) (E : XK) : R2 := fun x y H Q => ∃ a dx fs, y = .ref a ∧ H a = some (.ins C dx fs) ∧ sp [.ref a, x] H (fun v H' => ∃ b, v = .bl b ∧ Q (.bl b) H') E
section
variable {X : Cx} {CX : CXT} {k : Nat} {C f : Addr} {fd : FuncData} {ps : List Str} {sp : Sp} {E : XK}
theorem op_inOwn (F : FnOk X.prog X.w X.K X.mg X.base CX k f fd ps sp) (hs : PySem.W.findIn X.K (.ref C) "__contains__" = some (some (.ref f))) (hf : PySem.W.isFn X.K (.ref f) = true) (hb : Binds X.K fd ps []) (hx : Passes CX X E) (hr : Room k X.A) : OpR X (compareOp .In) (rInOwn C sp E) := by
  intro pins s σ H x y v u Q I rx ry h
  obtain ⟨a, dx, fs, rfl, ha, q⟩ := h
  cases ry
  obtain ⟨mA, J, _⟩ := ins_get I.hok ha
  obtain ⟨od, J, _⟩ := J.look
  obtain ⟨m, hF⟩ := I.fr
  refine PySem.W.in_K hF I.ok.mod.kin J hs hf ?_
  have q2 : sp ([V.ref a, x] ++ []) H (fun v H' => ∃ b, v = V.bl b ∧ Q (.bl b) H') E := q
  refine thn (run_fn (us := [.ref a, v]) (vs := [.ref a, x]) (dvs := []) F hr hb .nil hx I (.cons rfl (.cons rx .nil)) q2) fun r s' hz => ?_
  obtain ⟨z, H', I', rz, b, ez, q'⟩ := hz
  subst ez
  cases rz
  exact wpAny_truthy_bool ⟨V.bl b, H', I', rfl, q'⟩
/-- o.m(k = v, ..) -/
def tMethK0 (m : Str) (C : Addr) (sp : Sp) (gV : List V → List V → List V) (E : XK) (ta : TE) (tk : TA) : TE := fun σ H Q => ta σ H fun x H1 => ∃ a dx fs, x = .ref a ∧ H1 a = some (.ins C dx fs) ∧ fs.lookup m = none ∧ tk σ H1 fun zs H2 => sp (gV [x] zs) H2 Q E
theorem pe_methK0 {m : Str} {o : Expr} {apos pos : Pos} {ta : TE} {tk : TA} {kws : List Keyword} {ks : List Str} {g : List Value → List Value → List Value} {gV : List V → List V → List V} {pl : Sem Bool} (he : PE X o ta) (c : Cls X.K C) (hm : Meth X.K C m f)
    (F : FnOk X.prog X.w X.K X.mg X.base CX k f fd ps sp) (hr : Room k X.A) (hb : KBinds X.K fd ps ks g gV) (hx : Passes CX X E) (hkw : PK X kws tk)
    (hall : (backToKw pos (keywordEach kws X.env)).all (·.1.isSome) = true := by rfl) (hks : (backToKw pos (keywordEach kws X.env)).filterMap (·.1) = ks := by rfl)
    (hpl : ((backTo pos (starEach [] X.env)).any (·.1) || (backToKw pos (keywordEach kws X.env)).any (·.1.isNone)) = false := by rfl)
    (ht : eval (.Call (.Attribute o m apos) [] kws pos) X.env = (do
      let ov ← eval o X.env
      standAt apos.atName
      let (f, first) ← holding [ov] (getMethod ov m pl)
      callWith pos f first (backTo pos (starEach [] X.env)) (backToKw pos (keywordEach kws X.env))) := by rfl) :
    PE X (.Call (.Attribute o m apos) [] kws pos) (tMethK0 m C sp gV E ta tk) := by
  refine ⟨fun pins s σ H Q I h => ?_⟩
  refine PySem.W.methodCall_KW (pl := pl) (thn (he.run pins s σ H _ I h) fun u s1 ⟨x, H1, I1, rx, a, dx, fs, ex, ea, l, q⟩ => ?_) ht
  subst ex
  obtain rfl : u = Value.ref a := rx
  refine getmeth_ok I1 ea c hm l ?_
  refine PySem.W.callWith_KW0 (first := [.ref a]) (h₀ := X.base) I.ok.mod.kin hm.kp hall ?_ hpl
  refine thn (hkw.run pos pins s1 σ H1 _ I1 q) fun ws s2 ⟨zs, H2, I2, rz, q2⟩ => ⟨I2.kIn, ?_⟩
  rw [hks]
  exact run_fnk (us := [.ref a]) (vs := [.ref a]) F hr hb hx I2 (.cons rfl .nil) rz q2
end
/-! ### tuple * int, 1 included -/
theorem tuple_mul1 (l : Addr) (items : Array Value) (n : Nat) (dd : Option Addr) (sl : Array (Option Value)) (u : Tok) :
    Meets (Builtin.«tuple.__mul__» ⟨[.ref l, .int 1 u], []⟩) (fun _ R s => s.heap.get? l = some { cls := .type "tuple", dict := dd, data := .seq items n, slots := sl } ∧ R (.ok (.ret (Value.ref l))) s) :=
  .of_wp fun prog w A R s h => by
    obtain ⟨hp, g, d, tk, os⟩ := s
    obtain ⟨hl, h⟩ := h
    have f1 := AutoSeq1.idx_int
    wp_walk using wpAny_loadPart' hl
    exact ⟨_, rfl, h⟩
def rRepA (K : PySem.W.Frag) : R2 := fun x y H Q => (∃ l xs, x = .ref l ∧ y = .int 1 ∧ SqT K H l xs ∧ Q (.ref l) H) ∨ rRepT K x y H Q
theorem op_repA {X : Cx} : OpR X (binaryOp .Mult) (rRepA X.K) := by
  intro pins s σ H x y v u Q I rx ry h
  rcases h with h | h
  · obtain ⟨l, xs, rfl, rfl, hT, q⟩ := h
    cases rx
    obtain ⟨t, rfl⟩ := ry
    obtain ⟨its, r, ⟨⟨cls, dd, data, sl⟩, ho, hc, n, hd⟩, hs⟩ := I.tuple hT
    simp only at hc hd
    subst hc hd
    refine wpAny_binaryOp_repeat_ref (T := "tuple") (U := "int") (by decide) ⟨_, ho, rfl⟩ (fun s' => typeIs_int s' 1 t) noFill_tuple_mul F.fills_int_mul F.slot_int_rmul repeat_tuple F.slot_int_index.lookup
      (call_meets F.slot_int_rmul (typeIs_int s 1 t) F.entry_int_rmul (F.args_int_rmul_2 _ _) (int_rmul_tuple 1 t l its.toArray n dd sl)
        ⟨ho, rfl, ⟨_, ho, rfl⟩, call_meets F.slot_tuple_mul ⟨_, ho, rfl⟩ F.entry_tuple_mul (F.args_tuple_mul_2 _ _) (tuple_mul1 l its.toArray n dd sl t) ⟨ho, ?_⟩⟩)
    exact ⟨.ref l, H, I, rfl, q⟩
  · exact op_repT pins s σ H x y v u Q I rx ry h

theorem hu65 {A : Around} {k : Nat} (hr : Room k A) : A.units + 65 < cLine := by
  have := hr.un
  omega
theorem pe_globI {X : Cx} {x : Str} {i : Int} {pos : Pos} (h : ∃ t, X.mg x = some (.int i t)) (hg : Gl X x) (hdb : (x == ("__debug__" : Str)) = false := by decide) : PE X (.Name x pos) (tC (.int i)) := by
  obtain ⟨t, h⟩ := h
  exact pe_glob hg h ⟨t, rfl⟩ hdb
/-- sorted(xs), fewer than 64 tuples of d ints in [0, B) -/
def rSortM (K : PySem.W.Frag) : List V → Hp → VK → Prop := fun vs H Q => ∃ d B, 1 ≤ d ∧ rSortU K d B vs H Q
theorem cr_sortM {X : Cx} : CallR X (.builtin "sorted") (rSortM X.K) := by
  intro pins s σ H vs us Q I r h
  obtain ⟨d, B, hd, h⟩ := h
  exact cr_sortT hd pins s σ H vs us Q I r h
/-! ### classes by name -/
/-- the def m stands in the class at C -/
def TopM (K : PySem.W.Frag) (C : Addr) (m qual : Str) (st : Stmt) (ps : List Str) : Prop :=
  ∃ (f : Addr) (fd : FuncData), Fun K m qual st f fd ∧ Meth K C m f ∧ Binds K fd ps []
def TopMK (K : PySem.W.Frag) (C : Addr) (m qual : Str) (st : Stmt) (ps ks : List Str) (gV : List V → List V → List V) : Prop :=
  ∃ (f : Addr) (fd : FuncData) (g : List Value → List Value → List Value), Fun K m qual st f fd ∧ Meth K C m f ∧ KBinds K fd ps ks g gV
def MethD (P : Program) (w : World) (K : PySem.W.Frag) (mg : Str → Option Value) (base : Heap) (C : Addr) (m : Str) (k : Nat) (ps : List Str) (sp : Sp) : Prop :=
  ∃ (f : Addr) (fd : FuncData), Meth K C m f ∧ FnOk P w K mg base CX0 k f fd ps sp ∧ Binds K fd ps [] ∧ ∃ (oc : Value) (od : Option Addr) (osl : Array (Option Value)), K.lookup f = some ⟨oc, od, .func fd, osl⟩
def MethDK (P : Program) (w : World) (K : PySem.W.Frag) (mg : Str → Option Value) (base : Heap) (C : Addr) (m : Str) (k : Nat) (ps ks : List Str) (gV : List V → List V → List V) (sp : Sp) : Prop :=
  ∃ (f : Addr) (fd : FuncData) (g : List Value → List Value → List Value), Meth K C m f ∧ FnOk P w K mg base CX0 k f fd ps sp ∧ KBinds K fd ps ks g gV
def MakeD (P : Program) (w : World) (K : PySem.W.Frag) (mg : Str → Option Value) (base : Heap) (C : Addr) (x : Str) (k : Nat) (ps : List Str) (sp : Sp) : Prop :=
  ∃ (f : Addr) (fd : FuncData), Mk K C f ∧ mg x = some (.ref C) ∧ FnOk P w K mg base CX0 k f fd ps sp ∧ Binds K fd ps []
section
variable {P : Program} {w : World} {K : PySem.W.Frag} {mg : Str → Option Value} {base : Heap} {C : Addr} {m qual x : Str} {st : Stmt} {ps N : List Str} {k : Nat} {sp : Sp}
theorem mk_meth (T : TopM K C m qual st ps) (S : FnScope N ps (defScope st)) (len : ∀ vs H Q E, sp vs H Q E → vs.length = ps.length)
    (hbody : ∀ (f : Addr) (cdv : Value) (A : Around) (outer : List Env) (s : Shared) (H : Hp) (vs : List V) (Q : VK) (E : XK), Room k (A.deeper (envOfC qual (defScope st) s.heap.objs.size f cdv)) → sp vs H Q E →
      ∃ t, PSs (cxOf CX0 P w K mg base N qual (defScope st) f cdv A outer s H E).nox (defBody st) t ∧ t { nx := fun _ H' => Q .non H', rt := Q } (start N vs) H) :
    MethD P w K mg base C m (k + 1) ps sp := by
  obtain ⟨f, fd, F, M, b⟩ := T
  obtain ⟨oc, _, _, _, _, _, _, _, osl, _, lk, _⟩ := id F.ex
  exact ⟨f, fd, M, F.ok S len (hbody f), b, _, _, _, lk⟩
theorem MethD.kw {ks : List Str} {gV : List V → List V → List V} (D : MethD P w K mg base C m k ps sp) (T : TopMK K C m qual st ps ks gV) : MethDK P w K mg base C m k ps ks gV sp := by
  obtain ⟨f, fd, M, F, b, _, _, _, lk⟩ := D
  obtain ⟨f', fd', g', F', M', b'⟩ := T
  have e := M'.at_.symm.trans M.at_
  obtain rfl : f' = f := Value.ref.inj (Option.some.inj (Option.some.inj e))
  obtain ⟨oc, _, _, _, _, _, _, _, osl, _, lk', _⟩ := id F'.ex
  rw [lk] at lk'
  cases lk'
  exact ⟨f', fd, g', M, F, b'⟩
theorem MethD.make (D : MethD P w K mg base C "__init__" k ps sp) (hm : PySem.W.makesIn K C = true) (hk : PySem.W.keepIn K (.ref C) = true) (hg : mg x = some (.ref C)) : MakeD P w K mg base C x k ps sp := by
  obtain ⟨f, fd, M, F, b, _⟩ := D
  exact ⟨f, fd, ⟨hm, M.at_, M.fn, hk⟩, hg, F, b⟩
end
section
variable {X : Cx} {C : Addr} {m x : Str} {k : Nat} {ps : List Str} {sp : Sp} {p pos apos : Pos} {o e : Expr} {es : List Expr} {ta : TE} {t : TA}
theorem pe_methM {pl : Sem Bool} (he : PE X o ta) (c : Cls X.K C) (D : MethD X.prog X.w X.K X.mg X.base C m k ps sp) (hr : Room k X.A) (ha : PA X (e :: es) t)
    (hst : starEach (e :: es) X.env = (false, eval e X.env) :: starEach es X.env := by rfl) (hpl : (backTo pos (starEach es X.env)).any (·.1) = false := by rfl)
    (ht : eval (.Call (.Attribute o m apos) (e :: es) [] pos) X.env = (do
      let ov ← eval o X.env
      standAt apos.atName
      let (f, first) ← holding [ov] (getMethod ov m pl)
      callWith pos f first (backTo pos (starEach (e :: es) X.env)) (backToKw pos (keywordEach [] X.env))) := by rfl) :
    PE X (.Call (.Attribute o m apos) (e :: es) [] pos) (tMeth C m sp [] E0 ta t) := by
  obtain ⟨f, fd, M, F, b, _⟩ := D
  exact pe_meth he c M F hr b .nil pass0 ha hst hpl ht
theorem pe_methM0 {pl : Sem Bool} (he : PE X o ta) (c : Cls X.K C) (D : MethD X.prog X.w X.K X.mg X.base C m k ps sp) (hr : Room k X.A)
    (ht : eval (.Call (.Attribute o m apos) [] [] pos) X.env = (do
      let ov ← eval o X.env
      standAt apos.atName
      let (f, first) ← holding [ov] (getMethod ov m pl)
      callWith pos f first (backTo pos (starEach [] X.env)) (backToKw pos (keywordEach [] X.env))) := by rfl) :
    PE X (.Call (.Attribute o m apos) [] [] pos) (tMeth C m sp [] E0 ta tNil) := by
  obtain ⟨f, fd, M, F, b, _⟩ := D
  exact pe_meth0 he c M F hr b .nil pass0 ht
theorem pe_methMK0 {pl : Sem Bool} {ks : List Str} {gV : List V → List V → List V} {kws : List Keyword} {tk : TA} (he : PE X o ta) (c : Cls X.K C) (D : MethDK X.prog X.w X.K X.mg X.base C m k ps ks gV sp) (hr : Room k X.A) (hkw : PK X kws tk)
    (hall : (backToKw pos (keywordEach kws X.env)).all (·.1.isSome) = true := by rfl) (hks : (backToKw pos (keywordEach kws X.env)).filterMap (·.1) = ks := by rfl)
    (hpl : ((backTo pos (starEach [] X.env)).any (·.1) || (backToKw pos (keywordEach kws X.env)).any (·.1.isNone)) = false := by rfl)
    (ht : eval (.Call (.Attribute o m apos) [] kws pos) X.env = (do
      let ov ← eval o X.env
      standAt apos.atName
      let (f, first) ← holding [ov] (getMethod ov m pl)
      callWith pos f first (backTo pos (starEach [] X.env)) (backToKw pos (keywordEach kws X.env))) := by rfl) :
    PE X (.Call (.Attribute o m apos) [] kws pos) (tMethK0 m C sp gV E0 ta tk) := by
  obtain ⟨f, fd, g, M, F, b⟩ := D
  exact pe_methK0 he c M F hr b pass0 hkw hall hks hpl ht
theorem pe_makeM (D : MakeD X.prog X.w X.K X.mg X.base C x k ps sp) (hr : Room (k + 1) X.A) (hg : Gl X x) (ha : PA X (e :: es) t) (hdb : (x == ("__debug__" : Str)) = false := by decide)
    (he : starEach (e :: es) X.env = (false, eval e X.env) :: starEach es X.env := by rfl) (hpl : (backTo pos (starEach es X.env)).any (·.1) = false := by rfl) :
    PE X (.Call (.Name x p) (e :: es) [] pos) (tMake C sp [] E0 t) := by
  obtain ⟨f, fd, M, hm, F, b⟩ := D
  exact pe_make M F hr hg hm b .nil pass0 ha hdb he hpl
theorem op_inM (D : MethD X.prog X.w X.K X.mg X.base C "__contains__" k ps sp) (hr : Room k X.A) : OpR X (compareOp .In) (rInOwn C sp E0) := by
  obtain ⟨f, fd, M, F, b, _⟩ := D
  exact op_inOwn F M.at_ M.fn b pass0 hr
end
/-- o.m(k = v): the object, then the value -/
def kwG {α : Type} : List α → List α → List α
  | [u], [w] => [u, w]
  | _, _ => []
theorem kw_rel : ∀ {vs : List V} {us : List Value} {zs : List V} {ws : List Value}, Vals vs us → Vals zs ws → Vals (kwG vs zs) (kwG us ws)
  | _, _, _, _, .nil, _ => .nil
  | _, _, _, _, .cons r .nil, .cons r' .nil => .cons r (.cons r' .nil)
  | _, _, _, _, .cons r .nil, .nil => .nil
  | _, _, _, _, .cons r .nil, .cons _ (.cons _ _) => .nil
  | _, _, _, _, .cons _ (.cons _ _), _ => .nil
theorem kw_binds {K : PySem.W.Frag} {fd : FuncData} {a b : Str} (h : ∀ (s : Shared) (u w : Value), K.In s.heap → BindsTo s fd ⟨[u], [(b, w)]⟩ [(a, u), (b, w)]) : KBinds K fd [a, b] [b] kwG kwG :=
  ⟨(fun s us ws X hl => match us, ws, hl with
    | [u], [w], _ => h s u w X
    | [], _, hl => nomatch hl
    | [_], [], hl => nomatch hl
    | [_], _ :: _ :: _, hl => nomatch hl
    | _ :: _ :: _, _, hl => nomatch hl), kw_rel⟩
end L2

namespace L2
open PySem PySem.Spec PyProof.Rows
/-- x & y, x | y by the class's own method; an object comes back -/
def rBinOwn (C : Addr) (sp : Sp) (E : XK) : R2 := fun x y H Q => ∃ a dx fs b dy gs, x = .ref a ∧ y = .ref b ∧ H a = some (.ins C dx fs) ∧ H b = some (.ins C dy gs) ∧ sp [.ref a, .ref b] H (fun v H' => ∃ c, v = .ref c ∧ Q (.ref c) H') E
theorem op_binM {X : Cx} {k : Nat} {C : Addr} {m : Str} {ps : List Str} {sp : Sp} {op : Operator} (hd : PySem.dunder op.info.2 = m) (D : MethD X.prog X.w X.K X.mg X.base C m k ps sp) (SF : PySem.W.selfFirst X.K C = true) (hr : Room k X.A) : OpR X (binaryOp op) (rBinOwn C sp E0) := by
  obtain ⟨f, fd, M, F, bd, _⟩ := D
  subst hd
  intro pins s σ H x y v u Q I rx ry h
  obtain ⟨a, dx, fs, b, dy, gs, rfl, rfl, ha, hb, q⟩ := h
  cases rx
  cases ry
  obtain ⟨mA, J, _⟩ := ins_get I.hok ha
  obtain ⟨mB, J', _⟩ := ins_get I.hok hb
  obtain ⟨od, J, _⟩ := J.look
  obtain ⟨od', J', _⟩ := J'.look
  obtain ⟨mm, hF⟩ := I.fr
  refine PySem.W.binop_K hF I.ok.mod.kin J J'.type SF M.at_ M.fn ?_
  have q2 : sp ([V.ref a, V.ref b] ++ []) H (fun v H' => ∃ c, v = V.ref c ∧ Q (.ref c) H') E0 := q
  refine thn (run_fn (us := [.ref a, .ref b]) (vs := [.ref a, .ref b]) (dvs := []) F hr bd .nil pass0 I (.cons rfl (.cons rfl .nil)) q2) fun r s' hz => ?_
  obtain ⟨z, H', I', rz, c, ez, q'⟩ := hz
  subst ez
  cases rz
  exact ⟨V.ref c, H', I', rfl, q'⟩
/-- what isinstance asks of a class -/
structure TxI (K : PySem.W.Frag) (C : Addr) : Prop where
  ha : PySem.W.findIn K (.ref C) "__class__" = some (some (.builtin "object.__class__"))
  hn : PySem.W.specialIn K (.builtin "object.__class__") "__get__" = some (some (.builtin "getset_descriptor.__get__"))
  htk : PySem.W.takesIn K (.builtin "object.__class__") = some true
  hm : PySem.W.mroIn K C (.type "object") = some true
  ko : PySem.W.kitOne K (.ref C) (.ref C) = some true
end L2
namespace L2
open PySem PySem.Spec PyProof.Rows
theorem kit_self {K : PySem.W.Frag} {C : Addr} : PySem.W.kitOne K (.ref C) (.ref C) = some true := by
  unfold PySem.W.kitOne
  rw [if_pos]
  simp
end L2

namespace K5
open PySem PySem.Spec PyProof.Rows L2
def topS (i : Nat) : Stmt := PySem.Challenge.pw_deltamill_k05_whole_folds_of_joined_fron.main.body.getD i (.Pass ⟨0, 0, 0, 0⟩)
abbrev s_wall : Stmt := topS 0
abbrev N_wall : List Str := ["k"]
theorem sc_wall : FnScope N_wall ["k"] (defScope s_wall) := ⟨rfl, rfl, rfl, by decide +kernel, rfl, by decide +kernel, by decide +kernel⟩

abbrev sis_number : Stmt := topS 10
abbrev Nis_number : List Str := ["value"]
theorem scis_number : FnScope Nis_number ["value"] (defScope sis_number) := ⟨rfl, rfl, rfl, by decide +kernel, rfl, by decide +kernel, by decide +kernel⟩

abbrev scheck_axes : Stmt := topS 11
abbrev Ncheck_axes : List Str := ["axes"]
theorem sccheck_axes : FnScope Ncheck_axes ["axes"] (defScope scheck_axes) := ⟨rfl, rfl, rfl, by decide +kernel, rfl, by decide +kernel, by decide +kernel⟩

abbrev scheck_like_axes : Stmt := topS 12
abbrev Ncheck_like_axes : List Str := ["left", "right"]
theorem sccheck_like_axes : FnScope Ncheck_like_axes ["left", "right"] (defScope scheck_like_axes) := ⟨rfl, rfl, rfl, by decide +kernel, rfl, by decide +kernel, by decide +kernel⟩

abbrev sis_moment : Stmt := topS 14
abbrev Nis_moment : List Str := ["value", "axes", "coordinate"]
theorem scis_moment : FnScope Nis_moment ["value", "axes"] (defScope sis_moment) := ⟨rfl, rfl, rfl, by decide +kernel, rfl, by decide +kernel, by decide +kernel⟩

abbrev sbefore : Stmt := topS 15
abbrev Nbefore : List Str := ["first", "second", "low", "high"]
theorem scbefore : FnScope Nbefore ["first", "second"] (defScope sbefore) := ⟨rfl, rfl, rfl, by decide +kernel, rfl, by decide +kernel, by decide +kernel⟩

abbrev sjoin_of : Stmt := topS 16
abbrev Njoin_of : List Str := ["first", "second", "left", "right"]
theorem scjoin_of : FnScope Njoin_of ["first", "second"] (defScope sjoin_of) := ⟨rfl, rfl, rfl, by decide +kernel, rfl, by decide +kernel, by decide +kernel⟩

abbrev smeet_of : Stmt := topS 17
abbrev Nmeet_of : List Str := ["first", "second", "left", "right"]
theorem scmeet_of : FnScope Nmeet_of ["first", "second"] (defScope smeet_of) := ⟨rfl, rfl, rfl, by decide +kernel, rfl, by decide +kernel, by decide +kernel⟩

abbrev sminimal : Stmt := topS 19
abbrev Nminimal : List Str := ["moments", "found", "moment", "low"]
theorem scminimal : FnScope Nminimal ["moments"] (defScope sminimal) := ⟨rfl, rfl, rfl, by decide +kernel, rfl, by decide +kernel, by decide +kernel⟩

abbrev s_law_pot : Stmt := topS 22
abbrev N_law_pot : List Str := ["script", "pot", "cell"]
theorem sc_law_pot : FnScope N_law_pot ["script"] (defScope s_law_pot) := ⟨rfl, rfl, rfl, by decide +kernel, rfl, by decide +kernel, by decide +kernel⟩

abbrev s_law_draw : Stmt := topS 23
abbrev N_law_draw : List Str := ["pot", "size", "digit"]
theorem sc_law_draw : FnScope N_law_draw ["pot", "size"] (defScope s_law_draw) := ⟨rfl, rfl, rfl, by decide +kernel, rfl, by decide +kernel, by decide +kernel⟩

abbrev s_law_great : Stmt := topS 24
abbrev N_law_great : List Str := ["pot", "high"]
theorem sc_law_great : FnScope N_law_great ["pot"] (defScope s_law_great) := ⟨rfl, rfl, rfl, by decide +kernel, rfl, by decide +kernel, by decide +kernel⟩

abbrev s_law_levels : Stmt := topS 25
abbrev N_law_levels : List Str := ["pot", "many", "levels", "k", "gap", "wide"]
theorem sc_law_levels : FnScope N_law_levels ["pot", "many"] (defScope s_law_levels) := ⟨rfl, rfl, rfl, by decide +kernel, rfl, by decide +kernel, by decide +kernel⟩

abbrev s_law_grid : Stmt := topS 26
abbrev N_law_grid : List Str := ["levels", "grid", "row", "longer", "head", "level"]
theorem sc_law_grid : FnScope N_law_grid ["levels"] (defScope s_law_grid) := ⟨rfl, rfl, rfl, by decide +kernel, rfl, by decide +kernel, by decide +kernel⟩

abbrev s_law_is_integer : Stmt := topS 27
abbrev N_law_is_integer : List Str := ["told"]
theorem sc_law_is_integer : FnScope N_law_is_integer ["told"] (defScope s_law_is_integer) := ⟨rfl, rfl, rfl, by decide +kernel, rfl, by decide +kernel, by decide +kernel⟩

abbrev s_law_is_moment : Stmt := topS 28
abbrev N_law_is_moment : List Str := ["told", "span", "one"]
theorem sc_law_is_moment : FnScope N_law_is_moment ["told", "span"] (defScope s_law_is_moment) := ⟨rfl, rfl, rfl, by decide +kernel, rfl, by decide +kernel, by decide +kernel⟩

abbrev s_law_are_moments : Stmt := topS 29
abbrev N_law_are_moments : List Str := ["told", "span", "one"]
theorem sc_law_are_moments : FnScope N_law_are_moments ["told", "span"] (defScope s_law_are_moments) := ⟨rfl, rfl, rfl, by decide +kernel, rfl, by decide +kernel, by decide +kernel⟩

abbrev s_law_before : Stmt := topS 30
abbrev N_law_before : List Str := ["one", "mate", "k"]
theorem sc_law_before : FnScope N_law_before ["one", "mate"] (defScope s_law_before) := ⟨rfl, rfl, rfl, by decide +kernel, rfl, by decide +kernel, by decide +kernel⟩

abbrev s_law_join : Stmt := topS 31
abbrev N_law_join : List Str := ["one", "mate", "k"]
theorem sc_law_join : FnScope N_law_join ["one", "mate"] (defScope s_law_join) := ⟨rfl, rfl, rfl, by decide +kernel, rfl, by decide +kernel, by decide +kernel⟩

abbrev s_law_meet : Stmt := topS 32
abbrev N_law_meet : List Str := ["one", "mate", "k"]
theorem sc_law_meet : FnScope N_law_meet ["one", "mate"] (defScope s_law_meet) := ⟨rfl, rfl, rfl, by decide +kernel, rfl, by decide +kernel, by decide +kernel⟩

abbrev s_law_least : Stmt := topS 33
abbrev N_law_least : List Str := ["given", "least", "one", "mate"]
theorem sc_law_least : FnScope N_law_least ["given"] (defScope s_law_least) := ⟨rfl, rfl, rfl, by decide +kernel, rfl, by decide +kernel, by decide +kernel⟩

abbrev s_law_is_open : Stmt := topS 34
abbrev N_law_is_open : List Str := ["least", "one", "low"]
theorem sc_law_is_open : FnScope N_law_is_open ["least", "one"] (defScope s_law_is_open) := ⟨rfl, rfl, rfl, by decide +kernel, rfl, by decide +kernel, by decide +kernel⟩

abbrev s_law_spot : Stmt := topS 35
abbrev N_law_spot : List Str := ["pot", "grid", "span", "k"]
theorem sc_law_spot : FnScope N_law_spot ["pot", "grid", "span"] (defScope s_law_spot) := ⟨rfl, rfl, rfl, by decide +kernel, rfl, by decide +kernel, by decide +kernel⟩

abbrev s_law_moved : Stmt := topS 36
abbrev N_law_moved : List Str := ["pot", "spot", "one"]
theorem sc_law_moved : FnScope N_law_moved ["pot", "spot"] (defScope s_law_moved) := ⟨rfl, rfl, rfl, by decide +kernel, rfl, by decide +kernel, by decide +kernel⟩

abbrev s_law_fold : Stmt := topS 37
abbrev N_law_fold : List Str := ["least", "spot", "due", "low"]
theorem sc_law_fold : FnScope N_law_fold ["least", "spot"] (defScope s_law_fold) := ⟨rfl, rfl, rfl, by decide +kernel, rfl, by decide +kernel, by decide +kernel⟩

abbrev s_law_joins : Stmt := topS 38
abbrev N_law_joins : List Str := ["some", "mates", "joins", "one", "mate"]
theorem sc_law_joins : FnScope N_law_joins ["some", "mates"] (defScope s_law_joins) := ⟨rfl, rfl, rfl, by decide +kernel, rfl, by decide +kernel, by decide +kernel⟩

abbrev s_law_folds_are : Stmt := topS 39
abbrev N_law_folds_are : List Str := ["front", "some", "dues", "k", "told"]
theorem sc_law_folds_are : FnScope N_law_folds_are ["front", "some", "dues"] (defScope s_law_folds_are) := ⟨rfl, rfl, rfl, by decide +kernel, rfl, by decide +kernel, by decide +kernel⟩

abbrev s_law_both_folds : Stmt := topS 40
abbrev N_law_both_folds : List Str := ["leasts", "folds", "j", "k", "at"]
theorem sc_law_both_folds : FnScope N_law_both_folds ["leasts", "folds", "j", "k"] (defScope s_law_both_folds) := ⟨rfl, rfl, rfl, by decide +kernel, rfl, by decide +kernel, by decide +kernel⟩

abbrev s_law_either_folds : Stmt := topS 41
abbrev N_law_either_folds : List Str := ["leasts", "folds", "j", "k", "at"]
theorem sc_law_either_folds : FnScope N_law_either_folds ["leasts", "folds", "j", "k"] (defScope s_law_either_folds) := ⟨rfl, rfl, rfl, by decide +kernel, rfl, by decide +kernel, by decide +kernel⟩

abbrev s_law_some_moments : Stmt := topS 42
abbrev N_law_some_moments : List Str := ["pot", "grid", "span", "k"]
theorem sc_law_some_moments : FnScope N_law_some_moments ["pot", "grid", "span"] (defScope s_law_some_moments) := ⟨rfl, rfl, rfl, by decide +kernel, rfl, by decide +kernel, by decide +kernel⟩

abbrev s_law_step_holds : Stmt := topS 43
abbrev N_law_step_holds : List Str := ["pot", "fronts", "leasts", "folds", "some", "j", "k", "least", "dues", "made"]
theorem sc_law_step_holds : FnScope N_law_step_holds ["pot", "fronts", "leasts", "folds", "some"] (defScope s_law_step_holds) := ⟨rfl, rfl, rfl, by decide +kernel, rfl, by decide +kernel, by decide +kernel⟩

abbrev slaw : Stmt := topS 44
abbrev Nlaw : List Str := ["script", "pot", "span", "grid", "k", "leasts", "some", "fronts", "least", "folds", "spot"]
theorem sclaw : FnScope Nlaw ["script"] (defScope slaw) := ⟨rfl, rfl, rfl, by decide +kernel, rfl, by decide +kernel, by decide +kernel⟩

abbrev sFront___init__ : Stmt := inClass (topS 20) 0
abbrev NFront___init__ : List Str := ["self", "axes", "moments", "given", "moment"]
theorem scFront___init__ : FnScope NFront___init__ ["self", "axes", "moments"] (defScope sFront___init__) := ⟨rfl, rfl, rfl, by decide +kernel, rfl, by decide +kernel, by decide +kernel⟩

abbrev sFront_moments : Stmt := inClass (topS 20) 3
abbrev NFront_moments : List Str := ["self"]
theorem scFront_moments : FnScope NFront_moments ["self"] (defScope sFront_moments) := ⟨rfl, rfl, rfl, by decide +kernel, rfl, by decide +kernel, by decide +kernel⟩

abbrev sFront_fold : Stmt := inClass (topS 20) 5
abbrev NFront_fold : List Str := ["self", "moment", "folded", "low"]
theorem scFront_fold : FnScope NFront_fold ["self", "moment"] (defScope sFront_fold) := ⟨rfl, rfl, rfl, by decide +kernel, rfl, by decide +kernel, by decide +kernel⟩

abbrev sFront___and__ : Stmt := inClass (topS 20) 10
abbrev NFront___and__ : List Str := ["self", "other", "left", "right"]
theorem scFront___and__ : FnScope NFront___and__ ["self", "other"] (defScope sFront___and__) := ⟨rfl, rfl, rfl, by decide +kernel, rfl, by decide +kernel, by decide +kernel⟩

abbrev sFront___or__ : Stmt := inClass (topS 20) 11
abbrev NFront___or__ : List Str := ["self", "other"]
theorem scFront___or__ : FnScope NFront___or__ ["self", "other"] (defScope sFront___or__) := ⟨rfl, rfl, rfl, by decide +kernel, rfl, by decide +kernel, by decide +kernel⟩

/-- the built-in names that the text uses are the built-in ones -/
structure Bt (mg : Str → Option Value) : Prop where
  m_all : mg "all" = none
  m_zip : mg "zip" = none
  m_tuple : mg "tuple" = none
  m_max : mg "max" = none
  m_min : mg "min" = none
  m_int : mg "int" = none
  m_bool : mg "bool" = none
  m_len : mg "len" = none
  m_range : mg "range" = none
  m_isinstance : mg "isinstance" = none
  m_list : mg "list" = none
  m_any : mg "any" = none
  m_set : mg "set" = none
  m_sorted : mg "sorted" = none
end K5

namespace K5
open PySem PySem.Spec PyProof.Rows L2
section
variable {P : Program} {w : World} {K : PySem.W.Frag} {mg : Str → Option Value} {base : Heap}
/-! ### before, join_of, meet_of -/
def leL (ns ms : List Int) : List Bool := List.zipWith (fun x y => decide (x ≤ y)) ns ms
def leB (ns ms : List Int) : Bool := (leL ns ms).all id
def joinL (ns ms : List Int) : List Int := List.zipWith (fun x y => if y > x then y else x) ns ms
def meetL (ns ms : List Int) : List Int := List.zipWith (fun x y => if y < x then y else x) ns ms
/-- two moments of one length in, a bool out -/
def spB (K : PySem.W.Frag) (g : List Int → List Int → Bool) : Sp := fun vs H Q _ => ∃ (a b : Addr) (ns ms : List Int), vs = [.ref a, .ref b] ∧ SqT K H a (ns.map V.int) ∧ SqT K H b (ms.map V.int) ∧ ns.length = ms.length ∧ ns.length ≤ 1000 ∧
  ∀ H', Same H H' → Q (.bl (g ns ms)) H'
/-- two moments of one length in, a new moment out -/
def spM (K : PySem.W.Frag) (g : List Int → List Int → List Int) : Sp := fun vs H Q _ => ∃ (a b : Addr) (ns ms : List Int), vs = [.ref a, .ref b] ∧ SqT K H a (ns.map V.int) ∧ SqT K H b (ms.map V.int) ∧ ns.length = ms.length ∧ ns.length ≤ 1000 ∧
  ∀ H' p, Same H H' → H p = none → H' p = some (.tup ((g ns ms).map V.int)) → Q (.ref p) H'
theorem len2 {g : List Int → List Int → Bool} : ∀ vs H Q E, spB K g vs H Q E → vs.length = 2 := by
  rintro _ _ _ _ ⟨a, b, ns, ms, rfl, _⟩
  rfl
theorem len2m {g : List Int → List Int → List Int} : ∀ vs H Q E, spM K g vs H Q E → vs.length = 2 := by
  rintro _ _ _ _ ⟨a, b, ns, ms, rfl, _⟩
  rfl
theorem int_at {ns : List Int} {i : Nat} {x : V} (h : (ns.map V.int)[i]? = some x) : ∃ n, ns[i]? = some n ∧ x = .int n := by
  rw [List.getElem?_map] at h
  cases e : ns[i]? with
  | none => rw [e] at h; cases h
  | some n => rw [e] at h; exact ⟨n, rfl, (Option.some.inj h).symm⟩
theorem d_before (B : Bt mg) (T : Top K mg "before" sbefore ["first", "second"]) : Def P w K mg base "before" 1 ["first", "second"] (spB K leB) := by
  refine mk_def T scbefore len2 fun f cdv A outer s H vs Q E hr h => ?_
  obtain ⟨a, b, ns, ms, rfl, ha, hb, hl, hn, q⟩ := h
  refine ⟨_, (pss_one (ps_ret (pe_callB (cr_all rfl) (by rfl) B.m_all (by decide +kernel) (pa_cons (pe_lc (own := [("low", 2), ("high", 3)]) (g := (gTup K 2 (gCons (gName 2) (gCons (gName 3) gNil)))) (tt := tYes) (te := (tOp yLe (tVar 2) (tVar 3))) rfl scbefore.nd (RZ.pi_zipA (by rfl) B.m_zip (pa_cons (pv 0) (pa_cons (pv 1) pa_nil))) (blkOk_by (own := [("low", 2), ("high", 3)]) (N := Nbefore) (sc := defScope sbefore) (by decide +kernel)) (fun _ _ _ _ _ => (pg_tup rfl (pgs_cons (pg_name (i := 2) scbefore.nd rfl (Or.inl rfl)) (pgs_cons (pg_name (i := 3) scbefore.nd rfl (Or.inl rfl)) pgs_nil)))) (fun _ _ _ _ _ => pts_nil) (fun _ _ _ _ _ => (pe_cmpR op_le (pv 2) (pv 3) (nomark _)))) pa_nil)))), ?_⟩
  refine ⟨.ref a, rfl, .ref b, rfl, a, b, _, _, rfl, .inr ⟨ha, hb, fun L hL => ?_⟩⟩
  refine lc_val (walk_zipT (by simpa using hl)) hL (by simp; omega) (fun H1 e => ⟨e.seqT ha, e.seqT hb⟩) ((leL ns ms).map V.bl) (by simp [leL]; omega) (fun i x H1 H2 Q' hi e y k => ?_) (fun H1 e eL => ?_)
  · obtain ⟨T', x', z', rfl, nT, rfl, hx, hz⟩ := y
    obtain ⟨x1, hx1, rfl⟩ := int_at hx
    obtain ⟨z1, hz1, rfl⟩ := int_at hz
    refine ⟨T', [.int x1, .int z1], rfl, .inl (.inl upd_same), rfl, _, _, rfl, _, _, rfl, rfl, rfl, _, rfl, _, rfl, _, _, rfl, rfl, ?_⟩
    exact k _ _ (same_upd nT) (by simp [leL, List.getElem?_zipWith, hx1, hz1])
  · exact ⟨L, leL ns ms, rfl, SqL.of eL, q H1 e⟩
end
end K5

namespace K5
open PySem PySem.Spec PyProof.Rows L2
section
variable {P : Program} {w : World} {K : PySem.W.Frag} {mg : Str → Option Value} {base : Heap}
theorem d_join_of (B : Bt mg) (T : Top K mg "join_of" sjoin_of ["first", "second"]) : Def P w K mg base "join_of" 1 ["first", "second"] (spM K joinL) := by
  refine mk_def T scjoin_of len2m fun f cdv A outer s H vs Q E hr h => ?_
  obtain ⟨a, b, ns, ms, rfl, ha, hb, hl, hn, q⟩ := h
  refine ⟨_, (pss_one (ps_ret (pe_callTy call_tuple_of (by rfl) B.m_tuple (by decide +kernel) (pa_cons (pe_lc (own := [("left", 2), ("right", 3)]) (g := (gTup K 2 (gCons (gName 2) (gCons (gName 3) gNil)))) (tt := tYes) (te := (tCB yMax (tCons (tVar 2) (tCons (tVar 3) tNil)))) rfl scjoin_of.nd (RZ.pi_zipA (by rfl) B.m_zip (pa_cons (pv 0) (pa_cons (pv 1) pa_nil))) (blkOk_by (own := [("left", 2), ("right", 3)]) (N := Njoin_of) (sc := defScope sjoin_of) (by decide +kernel)) (fun _ _ _ _ _ => (pg_tup rfl (pgs_cons (pg_name (i := 2) scjoin_of.nd rfl (Or.inl rfl)) (pgs_cons (pg_name (i := 3) scjoin_of.nd rfl (Or.inl rfl)) pgs_nil)))) (fun _ _ _ _ _ => pts_nil) (fun _ _ _ _ _ => (pe_callB (call_max2 rfl) (by rfl) B.m_max (by decide +kernel) (pa_cons (pv 2) (pa_cons (pv 3) pa_nil))))) pa_nil)))), ?_⟩
  refine ⟨.ref a, rfl, .ref b, rfl, a, b, _, _, rfl, .inr ⟨ha, hb, fun L hL => ?_⟩⟩
  refine lc_val (walk_zipT (by simpa using hl)) hL (by simp; omega) (fun H1 e => ⟨e.seqT ha, e.seqT hb⟩) ((joinL ns ms).map V.int) (by simp [joinL]; omega) (fun i x H1 H2 Q' hi e y k => ?_) (fun H1 e eL => ?_)
  · obtain ⟨T', x', z', rfl, nT, rfl, hx, hz⟩ := y
    obtain ⟨x1, hx1, rfl⟩ := int_at hx
    obtain ⟨z1, hz1, rfl⟩ := int_at hz
    refine ⟨T', [.int x1, .int z1], rfl, .inl (.inl upd_same), rfl, _, _, rfl, _, _, rfl, rfl, rfl, _, rfl, _, rfl, _, _, rfl, ?_⟩
    exact k _ _ (same_upd nT) (by simp [joinL, List.getElem?_zipWith, hx1, hz1])
  · exact ⟨L, _, rfl, .inl ⟨SqL.of eL, fun p hp => q _ p (e.trans (same_upd hp)) (e.new hp) upd_same⟩⟩
theorem d_meet_of (B : Bt mg) (T : Top K mg "meet_of" smeet_of ["first", "second"]) : Def P w K mg base "meet_of" 1 ["first", "second"] (spM K meetL) := by
  refine mk_def T scmeet_of len2m fun f cdv A outer s H vs Q E hr h => ?_
  obtain ⟨a, b, ns, ms, rfl, ha, hb, hl, hn, q⟩ := h
  refine ⟨_, (pss_one (ps_ret (pe_callTy call_tuple_of (by rfl) B.m_tuple (by decide +kernel) (pa_cons (pe_lc (own := [("left", 2), ("right", 3)]) (g := (gTup K 2 (gCons (gName 2) (gCons (gName 3) gNil)))) (tt := tYes) (te := (tCB yMin (tCons (tVar 2) (tCons (tVar 3) tNil)))) rfl scmeet_of.nd (RZ.pi_zipA (by rfl) B.m_zip (pa_cons (pv 0) (pa_cons (pv 1) pa_nil))) (blkOk_by (own := [("left", 2), ("right", 3)]) (N := Nmeet_of) (sc := defScope smeet_of) (by decide +kernel)) (fun _ _ _ _ _ => (pg_tup rfl (pgs_cons (pg_name (i := 2) scmeet_of.nd rfl (Or.inl rfl)) (pgs_cons (pg_name (i := 3) scmeet_of.nd rfl (Or.inl rfl)) pgs_nil)))) (fun _ _ _ _ _ => pts_nil) (fun _ _ _ _ _ => (pe_callB (call_min2 rfl) (by rfl) B.m_min (by decide +kernel) (pa_cons (pv 2) (pa_cons (pv 3) pa_nil))))) pa_nil)))), ?_⟩
  refine ⟨.ref a, rfl, .ref b, rfl, a, b, _, _, rfl, .inr ⟨ha, hb, fun L hL => ?_⟩⟩
  refine lc_val (walk_zipT (by simpa using hl)) hL (by simp; omega) (fun H1 e => ⟨e.seqT ha, e.seqT hb⟩) ((meetL ns ms).map V.int) (by simp [meetL]; omega) (fun i x H1 H2 Q' hi e y k => ?_) (fun H1 e eL => ?_)
  · obtain ⟨T', x', z', rfl, nT, rfl, hx, hz⟩ := y
    obtain ⟨x1, hx1, rfl⟩ := int_at hx
    obtain ⟨z1, hz1, rfl⟩ := int_at hz
    refine ⟨T', [.int x1, .int z1], rfl, .inl (.inl upd_same), rfl, _, _, rfl, _, _, rfl, rfl, rfl, _, rfl, _, rfl, _, _, rfl, ?_⟩
    exact k _ _ (same_upd nT) (by simp [meetL, List.getElem?_zipWith, hx1, hz1])
  · exact ⟨L, _, rfl, .inl ⟨SqL.of eL, fun p hp => q _ p (e.trans (same_upd hp)) (e.new hp) upd_same⟩⟩
/-! ### the law's own -/
theorem d_law_before (B : Bt mg) (T : Top K mg "_law_before" s_law_before ["one", "mate"]) : Def P w K mg base "_law_before" 1 ["one", "mate"] (spB K leB) := by
  refine mk_def T sc_law_before len2 fun f cdv A outer s H vs Q E hr h => ?_
  obtain ⟨a, b, ns, ms, rfl, ha, hb, hl, hn, q⟩ := h
  refine ⟨_, (pss_one (ps_ret (pe_callB (cr_all rfl) (by rfl) B.m_all (by decide +kernel) (pa_cons (pe_lc (own := [("k", 2)]) (g := (gName 2)) (tt := tYes) (te := (tOp yLe (tOp (rIxT K) (tVar 0) (tVar 2)) (tOp (rIxT K) (tVar 1) (tVar 2)))) rfl sc_law_before.nd (pi_range1 (by rfl) B.m_range (pa_cons (pe_callB call_len_seq (by rfl) B.m_len PySem.boot_len (pa_cons (pv 0) pa_nil)) pa_nil)) (blkOk_by (own := [("k", 2)]) (N := N_law_before) (sc := defScope s_law_before) (by decide +kernel)) (fun _ _ _ _ _ => (pg_name (i := 2) sc_law_before.nd rfl (Or.inl rfl))) (fun _ _ _ _ _ => pts_nil) (fun _ _ _ _ _ => (pe_cmpR op_le (pe_ix ix_tup (pv 0) (pv 2) (fun _ _ => rfl)) (pe_ix ix_tup (pv 1) (pv 2) (fun _ _ => rfl)) (nomark _)))) pa_nil)))), ?_⟩
  refine ⟨.ref a, rfl, a, _, rfl, .inr ha, _, rfl, by omega, by simp; omega, fun L hL => ?_⟩
  refine lc_val walk_range hL (by simp; omega) (fun H1 e => True.intro) ((leL ns ms).map V.bl) (by simp [leL]; omega) (fun i x H1 H2 Q' hi e y k => ?_) (fun H1 e eL => ?_)
  · obtain ⟨rfl, rfl⟩ := y
    have hi1 : i < ns.length := by simpa using hi
    have hi2 : i < ms.length := by omega
    refine ⟨rfl, .ref a, rfl, _, rfl, a, _, _, .int ns[i], rfl, rfl, e.seqT ha, at_of (j := i) (by omega) (by simp [hi1]), .ref b, rfl, _, rfl, b, _, _, .int ms[i], rfl, rfl, e.seqT hb, at_of (j := i) (by omega) (by simp [hi2]), _, _, rfl, rfl, ?_⟩
    exact k _ _ (Same.refl _) (by simp [leL, List.getElem?_zipWith, hi1, hi2])
  · exact ⟨L, leL ns ms, rfl, SqL.of eL, q H1 e⟩
theorem d_law_join (B : Bt mg) (T : Top K mg "_law_join" s_law_join ["one", "mate"]) : Def P w K mg base "_law_join" 1 ["one", "mate"] (spM K joinL) := by
  refine mk_def T sc_law_join len2m fun f cdv A outer s H vs Q E hr h => ?_
  obtain ⟨a, b, ns, ms, rfl, ha, hb, hl, hn, q⟩ := h
  refine ⟨_, (pss_one (ps_ret (pe_callTy call_tuple_of (by rfl) B.m_tuple (by decide +kernel) (pa_cons (pe_lc (own := [("k", 2)]) (g := (gName 2)) (tt := tYes) (te := (tCB yMax (tCons (tOp (rIxT K) (tVar 0) (tVar 2)) (tCons (tOp (rIxT K) (tVar 1) (tVar 2)) tNil)))) rfl sc_law_join.nd (pi_range1 (by rfl) B.m_range (pa_cons (pe_callB call_len_seq (by rfl) B.m_len PySem.boot_len (pa_cons (pv 0) pa_nil)) pa_nil)) (blkOk_by (own := [("k", 2)]) (N := N_law_join) (sc := defScope s_law_join) (by decide +kernel)) (fun _ _ _ _ _ => (pg_name (i := 2) sc_law_join.nd rfl (Or.inl rfl))) (fun _ _ _ _ _ => pts_nil) (fun _ _ _ _ _ => (pe_callB (call_max2 rfl) (by rfl) B.m_max (by decide +kernel) (pa_cons (pe_ix ix_tup (pv 0) (pv 2) (fun _ _ => rfl)) (pa_cons (pe_ix ix_tup (pv 1) (pv 2) (fun _ _ => rfl)) pa_nil))))) pa_nil)))), ?_⟩
  refine ⟨.ref a, rfl, a, _, rfl, .inr ha, _, rfl, by omega, by simp; omega, fun L hL => ?_⟩
  refine lc_val walk_range hL (by simp; omega) (fun H1 e => True.intro) ((joinL ns ms).map V.int) (by simp [joinL]; omega) (fun i x H1 H2 Q' hi e y k => ?_) (fun H1 e eL => ?_)
  · obtain ⟨rfl, rfl⟩ := y
    have hi1 : i < ns.length := by simpa using hi
    have hi2 : i < ms.length := by omega
    refine ⟨rfl, .ref a, rfl, _, rfl, a, _, _, .int ns[i], rfl, rfl, e.seqT ha, at_of (j := i) (by omega) (by simp [hi1]), .ref b, rfl, _, rfl, b, _, _, .int ms[i], rfl, rfl, e.seqT hb, at_of (j := i) (by omega) (by simp [hi2]), _, _, rfl, ?_⟩
    exact k _ _ (Same.refl _) (by simp [joinL, List.getElem?_zipWith, hi1, hi2])
  · exact ⟨L, _, rfl, .inl ⟨SqL.of eL, fun p hp => q _ p (e.trans (same_upd hp)) (e.new hp) upd_same⟩⟩
theorem d_law_meet (B : Bt mg) (T : Top K mg "_law_meet" s_law_meet ["one", "mate"]) : Def P w K mg base "_law_meet" 1 ["one", "mate"] (spM K meetL) := by
  refine mk_def T sc_law_meet len2m fun f cdv A outer s H vs Q E hr h => ?_
  obtain ⟨a, b, ns, ms, rfl, ha, hb, hl, hn, q⟩ := h
  refine ⟨_, (pss_one (ps_ret (pe_callTy call_tuple_of (by rfl) B.m_tuple (by decide +kernel) (pa_cons (pe_lc (own := [("k", 2)]) (g := (gName 2)) (tt := tYes) (te := (tCB yMin (tCons (tOp (rIxT K) (tVar 0) (tVar 2)) (tCons (tOp (rIxT K) (tVar 1) (tVar 2)) tNil)))) rfl sc_law_meet.nd (pi_range1 (by rfl) B.m_range (pa_cons (pe_callB call_len_seq (by rfl) B.m_len PySem.boot_len (pa_cons (pv 0) pa_nil)) pa_nil)) (blkOk_by (own := [("k", 2)]) (N := N_law_meet) (sc := defScope s_law_meet) (by decide +kernel)) (fun _ _ _ _ _ => (pg_name (i := 2) sc_law_meet.nd rfl (Or.inl rfl))) (fun _ _ _ _ _ => pts_nil) (fun _ _ _ _ _ => (pe_callB (call_min2 rfl) (by rfl) B.m_min (by decide +kernel) (pa_cons (pe_ix ix_tup (pv 0) (pv 2) (fun _ _ => rfl)) (pa_cons (pe_ix ix_tup (pv 1) (pv 2) (fun _ _ => rfl)) pa_nil))))) pa_nil)))), ?_⟩
  refine ⟨.ref a, rfl, a, _, rfl, .inr ha, _, rfl, by omega, by simp; omega, fun L hL => ?_⟩
  refine lc_val walk_range hL (by simp; omega) (fun H1 e => True.intro) ((meetL ns ms).map V.int) (by simp [meetL]; omega) (fun i x H1 H2 Q' hi e y k => ?_) (fun H1 e eL => ?_)
  · obtain ⟨rfl, rfl⟩ := y
    have hi1 : i < ns.length := by simpa using hi
    have hi2 : i < ms.length := by omega
    refine ⟨rfl, .ref a, rfl, _, rfl, a, _, _, .int ns[i], rfl, rfl, e.seqT ha, at_of (j := i) (by omega) (by simp [hi1]), .ref b, rfl, _, rfl, b, _, _, .int ms[i], rfl, rfl, e.seqT hb, at_of (j := i) (by omega) (by simp [hi2]), _, _, rfl, ?_⟩
    exact k _ _ (Same.refl _) (by simp [meetL, List.getElem?_zipWith, hi1, hi2])
  · exact ⟨L, _, rfl, .inl ⟨SqL.of eL, fun p hp => q _ p (e.trans (same_upd hp)) (e.new hp) upd_same⟩⟩
def spIsInt : Sp := fun vs H Q _ => ∃ i : Int, vs = [.int i] ∧ ∀ H', Same H H' → Q (.bl true) H'
theorem d_law_is_integer (B : Bt mg) (T : Top K mg "_law_is_integer" s_law_is_integer ["told"]) : Def P w K mg base "_law_is_integer" 1 ["told"] spIsInt := by
  refine mk_def T sc_law_is_integer (by rintro _ _ _ _ ⟨i, rfl, _⟩; rfl) fun f cdv A outer s H vs Q E hr h => ?_
  obtain ⟨i, rfl, q⟩ := h
  refine ⟨_, (pss_one (ps_ret (pe_and (pe_callB call_isi (by rfl) B.m_isinstance (by decide +kernel) (pa_cons (pv 0) (pa_cons (pe_bltn (v := .ty "int") (by rfl) B.m_int (by decide +kernel) rfl) pa_nil))) (pe_one (pe_not (pe_callB call_isi (by rfl) B.m_isinstance (by decide +kernel) (pa_cons (pv 0) (pa_cons (pe_bltn (v := .ty "bool") (by rfl) B.m_bool (by decide +kernel) rfl) pa_nil)))))))), ?_⟩
  refine ⟨.int i, rfl, _, _, .type "int", .type "int", true, rfl, .ty _, .base (.int i), kit_ty (by decide +kernel), _, rfl, ?_⟩
  refine ⟨.int i, rfl, _, _, .type "int", .type "bool", false, rfl, .ty _, .base (.int i), kit_ty (by decide +kernel), _, rfl, ?_⟩
  exact q H (Same.refl _)
end
end K5

namespace K5
open PySem PySem.Spec PyProof.Rows L2
section
variable {P : Program} {w : World} {K : PySem.W.Frag} {mg : Str → Option Value} {base : Heap}
/-- the pot that numbers are drawn from -/
def PotAt (H : Hp) (p : Addr) : Prop := ∃ a b c : Int, H p = some (.lst [.int a, .int b, .int c]) ∧ 0 ≤ a ∧ 0 ≤ b ∧ 0 ≤ c
def spPot (K : PySem.W.Frag) : Sp := fun vs H Q _ => ∃ (a : Addr) (ns : List Int), vs = [.ref a] ∧ SqL K H a (ns.map V.int) ∧ ∀ H' p, Same H H' → H p = none → PotAt H' p → Q (.ref p) H'
theorem d_law_pot (B : Bt mg) (T : Top K mg "_law_pot" s_law_pot ["script"]) : Def P w K mg base "_law_pot" 1 ["script"] (spPot K) := by
  refine mk_def T sc_law_pot (by rintro _ _ _ _ ⟨a, ns, rfl, _⟩; rfl) fun f cdv A outer s H vs Q E hr h => ?_
  obtain ⟨a, ns, rfl, ha, q⟩ := h
  refine ⟨_, (pss_cons (ps_set (i := 1) sc_law_pot.nd rfl (Or.inl rfl) (pe_lst (pa_cons pe_int (pa_cons pe_int (pa_cons pe_int pa_nil)))))
      (pss_cons (ps_for PassesOwn.never rfl (pi_list (pv 0)) (pg_name (i := 2) sc_law_pot.nd rfl (Or.inl rfl)) (Evl.pss_cut (ps_if (pw_and (pt_cmpR op_eq (pe_ix ix_list (pv 1) pe_int (fun _ _ => rfl)) pe_int (nomark _)) (pw_and1 (pt_cmpR op_ge (pv 2) (pe_op op_pow pe_int pe_int) (nomark _)))).pt (pss_one (ps_asg (pv 2) (pg_sub (pv 1) pe_int set_list))) pss_nil)
      (pss_one (ps_asg (pe_op op_mod (pe_callTy call_int1 (by rfl) B.m_int (by decide +kernel) (pa_cons (pe_op op_add (pe_op op_add (pe_op op_mul (pe_ix ix_list (pv 1) pe_int (fun _ _ => rfl)) pe_int) (pe_op op_mul (pv 2) pe_int)) pe_int) pa_nil)) pe_int) (pg_sub (pv 1) pe_int set_list)))))
      (pss_one (ps_ret (pv 1))))), ?_⟩
  refine ⟨by show 3 ≤ sizeLine; decide, fun p hp => ?_⟩
  refine ⟨.ref a, rfl, a, rfl, ⟨_, (same_upd hp).seq ha⟩, ?_⟩
  refine for_list (xs := ns.map V.int) (fun i σ H' => ∃ y2, σ = [some (.ref a), some (.ref p), y2] ∧ Same H H' ∧ PotAt H' p) ⟨_, rfl, same_upd hp, 0, 20011, 0, upd_same, by decide, by decide, by decide⟩ (fun i σ H' _ pv' => ?_) (fun i x σ H' hx pv' => ?_) (fun σ H' pv' => ?_)
  · obtain ⟨y2, rfl, e, _⟩ := pv'
    exact e.seq ha
  · obtain ⟨y2, rfl, e, pa, pb, pc, ep, h1, h2, h3⟩ := pv'
    obtain ⟨c, hc, rfl⟩ := int_at hx
    refine ⟨fun σ' H3 => ∃ pa' : Int, σ' = [some (.ref a), some (.ref p), some (.int c)] ∧ H3 p = some (.lst [.int pa', .int pb, .int pc]) ∧ 0 ≤ pa' ∧ Same H H3, ?_, ?_⟩
    · refine ⟨.ref p, rfl, p, _, 0, .int pa, rfl, rfl, SqL.of ep, atI_nat (j := 0) rfl, rfl, _, rfl, ite2 (fun z => ?_) (fun z => iteF ⟨pa, rfl, ep, h1, e⟩)⟩
      refine ⟨.int c, rfl, _, _, rfl, rfl, ⟨by decide, by decide, by decide⟩, _, _, rfl, rfl, _, rfl, ite2 (fun z2 => ?_) (fun z2 => ⟨pa, rfl, ep, h1, e⟩)⟩
      refine ⟨.int c, rfl, .ref p, rfl, p, _, 0, 0, rfl, rfl, ep, rfl, ?_⟩
      have hc2 : (10 : Int) ^ (18 : Int).toNat ≤ c := of_decide_eq_true z2
      have h18 : (0 : Int) ≤ (10 : Int) ^ (18 : Int).toNat := by decide
      exact ⟨c, rfl, upd_same, by omega, e.mut hp⟩
    · rintro σ' H3 ⟨pa', rfl, e3, h0, s3⟩
      refine ⟨.ref p, rfl, p, _, 1, .int pb, rfl, rfl, SqL.of e3, atI_nat (j := 1) rfl, pb, 48271, rfl, rfl, .inr ⟨by decide, by decide⟩, .int c, rfl, c, 69621, rfl, rfl, .inr ⟨by decide, by decide⟩, _, _, rfl, rfl, _, _, rfl, rfl, .inl ⟨_, rfl, _, _, rfl, rfl, (by show (0:Int) < _; decide), ?_⟩⟩
      refine ⟨.ref p, rfl, p, _, 1, 1, rfl, rfl, e3, rfl, _, rfl, s3.mut hp, pa', _, pc, upd_same, h0, Int.emod_nonneg _ (by decide), h3⟩
  · obtain ⟨y2, rfl, e, pt⟩ := pv'
    exact ⟨.ref p, rfl, q H' p e hp pt⟩
def spDraw (K : PySem.W.Frag) : Sp := fun vs H Q _ => ∃ (p : Addr) (n : Int), vs = [.ref p, .int n] ∧ PotAt H p ∧ 0 < n ∧ n ≤ 1000000000000000 ∧ ∀ H' r, SameB p H H' → PotAt H' p → 0 ≤ r → r < n → Q (.int r) H'
theorem d_law_draw (B : Bt mg) (T : Top K mg "_law_draw" s_law_draw ["pot", "size"]) : Def P w K mg base "_law_draw" 1 ["pot", "size"] (spDraw K) := by
  refine mk_def T sc_law_draw (by rintro _ _ _ _ ⟨p, n, rfl, _⟩; rfl) fun f cdv A outer s H vs Q E hr h => ?_
  obtain ⟨p, n, rfl, ⟨pa, pb, pc, ep, h1, h2, h3⟩, hn, hn2, q⟩ := h
  have hdiv : CDivW pa n := wide_div (b := 60) hn (by omega) (by decide) (by decide)
  refine ⟨_, (pss_cons (ps_if (pt_cmpR op_gt (pe_ix ix_list (pv 0) pe_int (fun _ _ => rfl)) pe_int (nomark _)) (pss_cons (ps_set (i := 2) sc_law_draw.nd rfl (Or.inl rfl) (pe_op op_mod (pe_callTy call_int1 (by rfl) B.m_int (by decide +kernel) (pa_cons (pe_ix ix_list (pv 0) pe_int (fun _ _ => rfl)) pa_nil)) (pv 1)))
      (pss_cons (ps_asg (pe_op op_fdivW (pe_ix ix_list (pv 0) pe_int (fun _ _ => rfl)) (pv 1)) (pg_sub (pv 0) pe_int set_list))
      (pss_one (ps_ret (pv 2))))) pss_nil)
      (pss_cons (ps_asg (pe_op op_add (pe_ix ix_list (pv 0) pe_int (fun _ _ => rfl)) pe_int) (pg_sub (pv 0) pe_int set_list))
      (pss_cons (ps_asg (pe_op op_mod (pe_callTy call_int1 (by rfl) B.m_int (by decide +kernel) (pa_cons (pe_op op_add (pe_op op_mul (pe_ix ix_list (pv 0) pe_int (fun _ _ => rfl)) pe_int) (pe_op op_mul (pe_ix ix_list (pv 0) pe_int (fun _ _ => rfl)) pe_int)) pa_nil)) pe_int) (pg_sub (pv 0) pe_int set_list))
      (pss_one (ps_ret (pe_op op_mod (pe_op op_mod (pe_callTy call_int1 (by rfl) B.m_int (by decide +kernel) (pa_cons (pe_op op_add (pe_op op_mul (pe_op op_fdivW (pe_ix ix_list (pv 0) pe_int (fun _ _ => rfl)) pe_int) pe_int) (pe_op op_mod (pe_callTy call_int1 (by rfl) B.m_int (by decide +kernel) (pa_cons (pe_ix ix_list (pv 0) pe_int (fun _ _ => rfl)) pa_nil)) pe_int)) pa_nil)) pe_int) (pv 1))))))), ?_⟩
  refine ⟨.ref p, rfl, p, _, 0, .int pa, rfl, rfl, SqL.of ep, atI_nat (j := 0) rfl, _, _, rfl, rfl, _, rfl, ite2 (fun z => ?_) (fun z => ?_)⟩
  · refine ⟨.ref p, rfl, p, _, 0, .int pa, rfl, rfl, SqL.of ep, atI_nat (j := 0) rfl, .inl ⟨_, rfl, .int n, rfl, _, _, rfl, rfl, hn, ?_⟩⟩
    refine ⟨.ref p, rfl, p, _, 0, .int pa, rfl, rfl, SqL.of ep, atI_nat (j := 0) rfl, .int n, rfl, _, _, rfl, rfl, hdiv, .ref p, rfl, p, _, 0, 0, rfl, rfl, ep, rfl, ?_⟩
    refine ⟨_, rfl, q _ _ SameB.upd ⟨_, pb, pc, upd_same, Int.ediv_nonneg h1 (Int.le_of_lt hn), h2, h3⟩ (Int.emod_nonneg _ (by omega)) (Int.emod_lt_of_pos _ hn)⟩
  · refine ⟨.ref p, rfl, p, _, 2, .int pc, rfl, rfl, SqL.of ep, atI_nat (j := 2) rfl, _, _, rfl, rfl, .ref p, rfl, p, _, 2, 2, rfl, rfl, ep, rfl, ?_⟩
    have e1 : upd H p (.lst ([V.int pa, .int pb, .int pc].set 2 (.int (pc + 1)))) p = some (.lst [.int pa, .int pb, .int (pc + 1)]) := upd_same
    refine ⟨.ref p, rfl, p, _, 1, .int pb, rfl, rfl, SqL.of e1, atI_nat (j := 1) rfl, _, _, rfl, rfl, .inr ⟨by decide, by decide⟩, .ref p, rfl, p, _, 2, .int (pc + 1), rfl, rfl, SqL.of e1, atI_nat (j := 2) rfl, _, _, rfl, rfl, .inr ⟨by decide, by decide⟩, _, _, rfl, rfl,
      .inl ⟨_, rfl, _, _, rfl, rfl, (by show (0:Int) < _; decide), .ref p, rfl, p, _, 1, 1, rfl, rfl, e1, rfl, ?_⟩⟩
    rw [upd_upd]
    have e2 : ∀ x : Int, upd H p (.lst ([V.int pa, .int pb, .int (pc + 1)].set 1 (.int x))) p = some (.lst [.int pa, .int x, .int (pc + 1)]) := fun _ => upd_same
    refine ⟨.ref p, rfl, p, _, 1, _, rfl, rfl, SqL.of (e2 _), atI_nat (j := 1) rfl, _, _, rfl, rfl, ⟨by decide, by decide⟩, _, _, rfl, rfl, .inr ⟨by decide, by decide⟩, .ref p, rfl, p, _, 1, _, rfl, rfl, SqL.of (e2 _), atI_nat (j := 1) rfl,
      .inl ⟨_, rfl, _, _, rfl, rfl, (by show (0:Int) < _; decide), _, _, rfl, rfl, .inl ⟨_, rfl, _, _, rfl, rfl, (by show (0:Int) < _; decide), .int n, rfl, _, _, rfl, rfl, hn, ?_⟩⟩⟩
    exact q _ _ SameB.upd ⟨pa, _, pc + 1, e2 _, h1, Int.emod_nonneg _ (by decide), by omega⟩ (Int.emod_nonneg _ (by omega)) (Int.emod_lt_of_pos _ hn)
def spGreat (K : PySem.W.Frag) : Sp := fun vs H Q _ => ∃ p : Addr, vs = [.ref p] ∧ PotAt H p ∧ ∀ H' r, SameB p H H' → PotAt H' p → 0 ≤ r → r < 1000000000000000000000000000000 → Q (.int r) H'
theorem d_law_great (B : Bt mg) (T : Top K mg "_law_great" s_law_great ["pot"]) (D_law_draw : Def P w K mg base "_law_draw" 1 ["pot", "size"] (spDraw K)) : Def P w K mg base "_law_great" 2 ["pot"] (spGreat K) := by
  refine mk_def T sc_law_great (by rintro _ _ _ _ ⟨p, rfl, _⟩; rfl) fun f cdv A outer s H vs Q E hr h => ?_
  obtain ⟨p, rfl, pt, q⟩ := h
  refine ⟨_, (pss_cons (ps_set (i := 1) sc_law_great.nd rfl (Or.inl rfl) (pe_def D_law_draw (hr.mono (by decide)) (by rfl) (pa_cons (pv 0) (pa_cons (pe_op op_pow pe_int pe_int) pa_nil))))
      (pss_one (ps_ret (pe_op op_add (pe_op op_mul (pv 1) (pe_op op_pow pe_int pe_int)) (pe_def D_law_draw (hr.mono (by decide)) (by rfl) (pa_cons (pv 0) (pa_cons (pe_op op_pow pe_int pe_int) pa_nil))))))), ?_⟩
  refine ⟨.ref p, rfl, _, _, rfl, rfl, ⟨by decide, by decide, by decide⟩, p, _, rfl, pt, by decide, by decide, fun H1 r s1 p1 r0 r1 => ?_⟩
  refine ⟨.int r, rfl, _, _, rfl, rfl, ⟨by decide, by decide, by decide⟩, _, _, rfl, rfl, .inr ⟨by decide, by decide⟩, .ref p, rfl, _, _, rfl, rfl, ⟨by decide, by decide, by decide⟩, p, _, rfl, p1, by decide, by decide, fun H2 r' s2 p2 r2 r3 => ?_⟩
  have e : (10 : Int) ^ (15 : Int).toNat = 1000000000000000 := by decide
  rw [e] at r1 r3
  refine ⟨_, _, rfl, rfl, q H2 _ (s1.trans s2) p2 ?_ ?_⟩
  · rw [e]; omega
  · rw [e]; omega
end
end K5

namespace K5
open PySem PySem.Spec PyProof.Rows L2
/-! ### the grid -/
def gridStep (g : List (List Int)) (r : List Int) : List (List Int) := g.flatMap fun h => r.map fun l => h ++ [l]
def gridL (rows : List (List Int)) : List (List Int) := rows.foldl gridStep [[]]
theorem gridL_snoc (rows : List (List Int)) (r : List Int) : gridL (rows ++ [r]) = gridStep (gridL rows) r := by simp [gridL]
theorem gridL_take {rows : List (List Int)} {i : Nat} {r : List Int} (h : rows[i]? = some r) : gridL (rows.take (i + 1)) = gridStep (gridL (rows.take i)) r := by
  rw [List.take_add_one, h]
  exact gridL_snoc _ _
theorem gridStep_len {g : List (List Int)} {r : List Int} {n : Nat} (h : ∀ x ∈ g, x.length = n) : ∀ x ∈ gridStep g r, x.length = n + 1 := by
  intro x hx
  obtain ⟨y, hy, hz⟩ := List.mem_flatMap.mp hx
  obtain ⟨l, _, rfl⟩ := List.mem_map.mp hz
  simp [h y hy]
theorem gridL_len : ∀ (n : Nat) (rows : List (List Int)), rows.length = n → ∀ x ∈ gridL rows, x.length = n := by
  intro n
  induction n with
  | zero =>
    intro rows h x hx
    have : rows = [] := List.length_eq_zero_iff.mp h
    subst this
    simp [gridL] at hx
    simp [hx]
  | succ n ih =>
    intro rows h x hx
    have hne : rows ≠ [] := by
      intro e
      subst e
      simp at h
    rw [← List.dropLast_concat_getLast hne, gridL_snoc] at hx
    exact gridStep_len (ih _ (by simp [h])) x hx
/-- a list of ints, as data -/
def li (r : List Int) : PyData := .list (r.map .int)
theorem li_inv {K : PySem.W.Frag} {H : Hp} {v : V} {r : List Int} (h : Da K H v (li r)) : ∃ a, v = .ref a ∧ SqL K H a (r.map V.int) := by
  cases h with
  | lst hs ha =>
    rw [DaAll.ints ha] at hs
    exact ⟨_, rfl, hs⟩
theorem imm_mos (ms : List (List Int)) : immAll (ms.map mo) = true := by
  induction ms with
  | nil => rfl
  | cons m ms ih =>
    show (imm (mo m) && immAll (ms.map mo)) = true
    rw [imm_mo, ih]
    rfl
theorem mo_at {ms : List (List Int)} {i : Nat} {d : PyData} (h : (ms.map mo)[i]? = some d) : ∃ m, ms[i]? = some m ∧ d = mo m := by
  rw [List.getElem?_map] at h
  cases e : ms[i]? with
  | none => rw [e] at h; cases h
  | some n => rw [e] at h; exact ⟨n, rfl, (Option.some.inj h).symm⟩
theorem sz1000 {n : Nat} (h : n ≤ 100000) : n ≤ sizeLine := Nat.le_trans h (by decide)
section
variable {P : Program} {w : World} {K : PySem.W.Frag} {mg : Str → Option Value} {base : Heap}
def spGrid (K : PySem.W.Frag) : Sp := fun vs H Q _ => ∃ (a : Addr) (rows : List (List Int)), vs = [.ref a] ∧ Da K H (.ref a) (.list (rows.map li)) ∧ rows.length ≤ 10 ∧ (∀ i, (gridL (rows.take i)).length ≤ 10000) ∧ (∀ r ∈ rows, r.length ≤ 10000) ∧
  ∀ H' p gv, Same H H' → H p = none → H' p = some (.lst gv) → DaAll K H' gv ((gridL rows).map mo) → Q (.ref p) H'
/-- head + (level,) -/
theorem cat1 {H1 : Hp} {hv : V} {h : List Int} {l : Int} {Q : VK} (hh : Mo K H1 hv h) (hl : h.length ≤ 1000) (k : ∀ y H4, Same H1 H4 → Mo K H4 y (h ++ [l]) → Q y H4) (t : Addr) (ht : H1 t = none) :
    rCatA K hv (.ref t) (upd H1 t (.tup [.int l])) Q := by
  obtain ⟨a, rfl, ha⟩ := hh.inv
  have e1 : Same H1 (upd H1 t (.tup [.int l])) := same_upd ht
  refine ⟨a, t, _, _, rfl, rfl, e1.seqT ha, SqT.of upd_same, sz1000 (by simp; omega), fun z => ?_, fun _ (z : [V.int l] = []) => (nomatch z), fun _ _ p hp => ?_⟩
  · have : h = [] := by simpa using z
    subst this
    exact k _ _ e1 (Mo.of (m := [l]) (upd_same))
  · refine k _ _ (e1.trans (same_upd hp)) (Mo.of (?_))
    rw [upd_same, List.map_append]
    rfl
theorem d_law_grid (B : Bt mg) (T : Top K mg "_law_grid" s_law_grid ["levels"]) : Def P w K mg base "_law_grid" 1 ["levels"] (spGrid K) := by
  refine mk_def T sc_law_grid (by rintro _ _ _ _ ⟨p, _, rfl, _⟩; rfl) fun f cdv A outer s H vs Q E hr h => ?_
  obtain ⟨a, rows, rfl, hd, hn, hb, hr1, q⟩ := h
  refine ⟨_, (pss_cons (ps_set (i := 1) sc_law_grid.nd rfl (Or.inl rfl) (pe_lst (pa_cons (pe_tup pa_nil) pa_nil)))
      (pss_cons (ps_for PassesOwn.never rfl (pi_list (pv 0)) (pg_name (i := 2) sc_law_grid.nd rfl (Or.inl rfl)) (pss_cons (ps_set (i := 3) sc_law_grid.nd rfl (Or.inl rfl) (pe_lst pa_nil))
      (pss_cons (ps_for PassesOwn.never rfl (pi_list (pv 1)) (pg_name (i := 4) sc_law_grid.nd rfl (Or.inr rfl)) (pss_one (ps_expr (pe_bm PySem.F.plainAttrs_list PySem.F.slot_list_extend PySem.F.type_list_extend mt_extend (pv 3) (pa_cons (pe_lc (own := [("level", 5)]) (g := (gName 5)) (tt := tYes) (te := (tOp (rCatA K) (tVar 4) (tTup (tCons (tVar 5) tNil)))) rfl sc_law_grid.nd (pi_list (pv 2)) (blkOk_by (own := [("level", 5)]) (N := N_law_grid) (sc := defScope s_law_grid) (by decide +kernel)) (fun _ _ _ _ _ => (pg_name (i := 5) sc_law_grid.nd rfl (Or.inl rfl))) (fun _ _ _ _ _ => pts_nil) (fun _ _ _ _ _ => (pe_op op_catA (pv 4) (pe_tup (pa_cons (pv 5) pa_nil))))) pa_nil)))))
      (pss_one (ps_set (i := 1) sc_law_grid.nd rfl (Or.inl rfl) (pv 3))))))
      (pss_one (ps_ret (pv 1))))), ?_⟩
  refine ⟨Nat.zero_le _, fun t0 ht0 => ⟨by show 1 ≤ sizeLine; decide, fun g0 hg0 => ?_⟩⟩
  have s0 : Same H (upd (upd H t0 (.tup [])) g0 (.lst [.ref t0])) := (same_upd ht0).trans (same_upd hg0)
  have ng0 : H g0 = none := (same_upd ht0).new hg0
  have e0 : Mo K (upd (upd H t0 (.tup [])) g0 (.lst [.ref t0])) (.ref t0) [] := Mo.of ((same_upd hg0 _ _ upd_same))
  cases hd with
  | lst hs hda =>
    rename_i lv
    have hlen : lv.length = rows.length := by
      have := hda.length
      simpa using this
    refine ⟨.ref a, rfl, a, rfl, ⟨_, s0.seq hs⟩, ?_⟩
    refine for_list (xs := lv) (fun i σ H' => ∃ (G : Addr) (gv : List V) (y2 y3 y4 y5 : Option V), σ = [some (.ref a), some (.ref G), y2, y3, y4, y5] ∧ Same H H' ∧ H G = none ∧ H' G = some (.lst gv) ∧ DaAll K H' gv ((gridL (rows.take i)).map mo))
      ⟨g0, [.ref t0], none, none, none, none, rfl, s0, ng0, upd_same, .cons e0 .nil⟩ (fun i σ H' _ pv' => ?_) (fun i x σ H' hx pv' => ?_) (fun σ H' pv' => ?_)
    · obtain ⟨G, gv, _, _, _, _, rfl, e, _⟩ := pv'
      exact e.seq hs
    · obtain ⟨G, gv, y2, y3, y4, y5, rfl, e, nG, eG, dG⟩ := pv'
      obtain ⟨d, hd1, hd2⟩ := hda.get hx
      obtain ⟨r, hr2, rfl⟩ : ∃ r, rows[i]? = some r ∧ d = li r := by
        rw [List.getElem?_map] at hd1
        cases er : rows[i]? with
        | none => rw [er] at hd1; cases hd1
        | some r => rw [er] at hd1; exact ⟨r, rfl, (Option.some.inj hd1).symm⟩
      obtain ⟨b, rfl, hb2⟩ := li_inv hd2
      have hi : i < rows.length := (List.getElem?_eq_some_iff.mp hr2).1
      have hstep := gridL_take hr2
      -- longer = []
      refine ⟨Nat.zero_le _, fun Lg hLg => ?_⟩
      have nLg : H Lg = none := e.new hLg
      have neG : G ≠ Lg := ne_of_none eG hLg
      have e1 : Same H' (upd H' Lg (.lst [])) := same_upd hLg
      -- for head in grid
      refine ⟨.ref G, rfl, G, rfl, ⟨_, SqL.of (e1 _ _ eG)⟩, ?_⟩
      refine for_list (xs := gv) (fun j σ H2 => ∃ (lgv : List V) (y4 y5 : Option V), σ = [some (.ref a), some (.ref G), some (.ref b), some (.ref Lg), y4, y5] ∧ Same H H2 ∧ H2 G = some (.lst gv) ∧ DaAll K H2 gv ((gridL (rows.take i)).map mo) ∧ H2 Lg = some (.lst lgv) ∧ DaAll K H2 lgv ((gridStep ((gridL (rows.take i)).take j) r).map mo))
        ⟨[], y4, y5, rfl, e.trans e1, e1 _ _ eG, Da.sameAll e1 _ _ dG, upd_same, .nil⟩ (fun j σ H2 _ pw => ?_) (fun j x σ H2 hx2 pw => ?_) (fun σ H2 pw => ?_)
      · obtain ⟨_, _, _, rfl, _, eG2, _⟩ := pw
        exact SqL.of eG2
      · obtain ⟨lgv, z4, z5, rfl, e2, eG2, dG2, eL2, dL2⟩ := pw
        obtain ⟨dm, hdm, hdm2⟩ := dG2.get hx2
        obtain ⟨h, hh, rfl⟩ := mo_at hdm
        have hlh : h.length = i := by
          have := gridL_len i (rows.take i) (by simp; omega) h (List.mem_of_getElem? hh)
          exact this
        refine ⟨.ref Lg, rfl, .inl ⟨rfl, _, SqL.of eL2⟩, .ref b, rfl, b, rfl, ⟨_, e2.seq hb2⟩, fun D hD => ?_⟩
        refine lc_dat (K := K) walk_list hD (by simp; exact Nat.le_trans (hr1 r (List.mem_of_getElem? hr2)) (by decide)) (fun H3 e3 => (e2.trans e3).seq hb2) ((r.map fun l => h ++ [l]).map mo) (by simp) (imm_mos _) (fun k x3 H3 H3' Q' hk e3 y3' kk => ?_) (fun H3 acc e3 eD dD => ?_)
        · obtain ⟨rfl, hx3⟩ := y3'
          obtain ⟨l, hl, rfl⟩ := int_at hx3
          refine ⟨rfl, x, rfl, .int l, rfl, by show 1 ≤ sizeLine; decide, fun t ht => ?_⟩
          refine cat1 (Mo.same hdm2 e3) (by omega) (fun y H4 e4 d4 => kk y H4 _ e4 ?_ d4) t ht
          simp [hl]
        · have hlt := hb (i + 1)
          rw [hstep] at hlt
          have hnew : gridStep ((gridL (rows.take i)).take (j + 1)) r = gridStep ((gridL (rows.take i)).take j) r ++ r.map fun l => h ++ [l] := by
            unfold gridStep
            rw [List.take_add_one, hh, List.flatMap_append]
            simp
          have hle : (gridStep ((gridL (rows.take i)).take (j + 1)) r).length ≤ 10000 := by
            refine Nat.le_trans ?_ hlt
            conv => rhs; rw [← List.take_append_drop (j + 1) (gridL (rows.take i))]
            unfold gridStep
            rw [List.flatMap_append, List.length_append]
            omega
          have l1 := dL2.length
          have l2 := dD.length
          rw [hnew, List.length_append] at hle
          simp only [List.length_map] at l1 l2 hle
          have eL3 := e3 _ _ eL2
          refine ⟨Lg, D, lgv, acc, rfl, rfl, eL3, eD, sz1000 (by omega), ?_⟩
          have st : ST K H3 (upd H3 Lg (.lst (lgv ++ acc))) := st_upd eL3 True.intro
          refine ⟨lgv ++ acc, _, _, rfl, (e2.trans e3).mut nLg, ?_, Da.stAll (e3.st.trans st) _ _ (imm_mos _) dG2, upd_same, ?_⟩
          · rw [upd_ne neG]
            exact e3 _ _ eG2
          · rw [hnew, List.map_append]
            exact DaAll.append (Da.stAll st _ _ (imm_mos _) dD) (Da.stAll (e3.st.trans st) _ _ (imm_mos _) dL2)
      · obtain ⟨lgv, z4, z5, rfl, e2, eG2, dG2, eL2, dL2⟩ := pw
        refine ⟨.ref Lg, rfl, Lg, lgv, _, _, _, _, rfl, e2, nLg, eL2, ?_⟩
        have l1 := dG2.length
        simp only [List.length_map] at l1
        rw [List.take_of_length_le (by omega)] at dL2
        rw [hstep]
        exact dL2
    · obtain ⟨G, gv, _, _, _, _, rfl, e, nG, eG, dG⟩ := pv'
      rw [hlen, List.take_of_length_le (Nat.le_refl _)] at dG
      exact ⟨.ref G, rfl, q H' G gv e nG eG dG⟩
end
end K5

namespace K5
open PySem PySem.Spec PyProof.Rows L2
/-! ### the order of moments -/
def Le : List Int → List Int → Prop
  | [], [] => True
  | x :: xs, y :: ys => x ≤ y ∧ Le xs ys
  | _, _ => False
theorem Le.len : ∀ {a b : List Int}, Le a b → a.length = b.length
  | [], [], _ => rfl
  | x :: xs, y :: ys, h => congrArg (· + 1) (Le.len h.2)
  | [], _ :: _, h => h.elim
  | _ :: _, [], h => h.elim
theorem leB_cons (x y : Int) (xs ys : List Int) : leB (x :: xs) (y :: ys) = (decide (x ≤ y) && leB xs ys) := rfl
theorem leB_iff : ∀ {a b : List Int}, a.length = b.length → (leB a b = true ↔ Le a b)
  | [], [], _ => ⟨fun _ => True.intro, fun _ => rfl⟩
  | x :: xs, y :: ys, h => by
    rw [leB_cons, Bool.and_eq_true, decide_eq_true_iff, leB_iff (a := xs) (b := ys) (by simpa using h)]
    exact Iff.rfl
  | [], _ :: _, h => nomatch h
  | _ :: _, [], h => nomatch h
theorem Le.refl : ∀ a : List Int, Le a a
  | [] => True.intro
  | x :: xs => ⟨Int.le_refl x, Le.refl xs⟩
theorem Le.trans : ∀ {a b c : List Int}, Le a b → Le b c → Le a c
  | [], [], [], _, _ => True.intro
  | x :: xs, y :: ys, z :: zs, h, k => ⟨Int.le_trans h.1 k.1, Le.trans h.2 k.2⟩
  | [], _ :: _, _, h, _ => h.elim
  | _ :: _, [], _, h, _ => h.elim
  | [], [], _ :: _, _, k => k.elim
  | _ :: _, _ :: _, [], _, k => k.elim
theorem Le.anti : ∀ {a b : List Int}, Le a b → Le b a → a = b
  | [], [], _, _ => rfl
  | x :: xs, y :: ys, h, k => by rw [Int.le_antisymm h.1 k.1, Le.anti h.2 k.2]
  | [], _ :: _, h, _ => h.elim
  | _ :: _, [], h, _ => h.elim
theorem joinL_len {a b : List Int} (h : a.length = b.length) : (joinL a b).length = a.length := by simp [joinL]; omega
theorem meetL_len {a b : List Int} (h : a.length = b.length) : (meetL a b).length = a.length := by simp [meetL]; omega
theorem join_le : ∀ {a b x : List Int}, a.length = b.length → (Le (joinL a b) x ↔ Le a x ∧ Le b x)
  | [], [], [], _ => ⟨fun _ => ⟨True.intro, True.intro⟩, fun _ => True.intro⟩
  | [], [], _ :: _, _ => ⟨fun h => h.elim, fun h => h.1.elim⟩
  | p :: ps, q :: qs, [], _ => ⟨fun h => h.elim, fun h => h.1.elim⟩
  | p :: ps, q :: qs, z :: zs, h => by
    have ih := join_le (a := ps) (b := qs) (x := zs) (by simpa using h)
    show ((if q > p then q else p) ≤ z ∧ Le (joinL ps qs) zs) ↔ (p ≤ z ∧ Le ps zs) ∧ (q ≤ z ∧ Le qs zs)
    rw [ih]
    constructor
    · rintro ⟨h1, h2, h3⟩
      split at h1 <;> exact ⟨⟨by omega, h2⟩, by omega, h3⟩
    · rintro ⟨⟨h1, h2⟩, h3, h4⟩
      exact ⟨by split <;> omega, h2, h4⟩
  | [], _ :: _, _, h => nomatch h
  | _ :: _, [], _, h => nomatch h
theorem le_meet : ∀ {a b x : List Int}, a.length = b.length → (Le x (meetL a b) ↔ Le x a ∧ Le x b)
  | [], [], [], _ => ⟨fun _ => ⟨True.intro, True.intro⟩, fun _ => True.intro⟩
  | [], [], _ :: _, _ => ⟨fun h => h.elim, fun h => h.1.elim⟩
  | p :: ps, q :: qs, [], _ => ⟨fun h => h.elim, fun h => h.1.elim⟩
  | p :: ps, q :: qs, z :: zs, h => by
    have ih := le_meet (a := ps) (b := qs) (x := zs) (by simpa using h)
    show (z ≤ (if q < p then q else p) ∧ Le zs (meetL ps qs)) ↔ (z ≤ p ∧ Le zs ps) ∧ (z ≤ q ∧ Le zs qs)
    rw [ih]
    constructor
    · rintro ⟨h1, h2, h3⟩
      split at h1 <;> exact ⟨⟨by omega, h2⟩, by omega, h3⟩
    · rintro ⟨⟨h1, h2⟩, h3, h4⟩
      exact ⟨by split <;> omega, h2, h4⟩
  | [], _ :: _, _, h => nomatch h
  | _ :: _, [], _, h => nomatch h
theorem le_joinL {a b : List Int} (h : a.length = b.length) : Le a (joinL a b) := ((join_le h).mp (Le.refl _)).1
theorem le_joinR {a b : List Int} (h : a.length = b.length) : Le b (joinL a b) := ((join_le h).mp (Le.refl _)).2
/-! ### moments of the law: n coordinates in [0, BB) -/
def BB : Int := 10000000000000000000000000000000000000000
def Ok (n : Nat) (m : List Int) : Prop := m.length = n ∧ TS.Bd BB m
theorem bd_zip {g : Int → Int → Int} (hg : ∀ x y, g x y = x ∨ g x y = y) : ∀ {a b : List Int}, TS.Bd BB a → TS.Bd BB b → TS.Bd BB (List.zipWith g a b)
  | [], _, _, _ => fun c hc => by simp at hc
  | _ :: _, [], _, _ => fun c hc => by simp at hc
  | x :: xs, y :: ys, ha, hb => fun c hc => by
    rw [List.zipWith_cons_cons] at hc
    rcases List.mem_cons.mp hc with rfl | hc
    · rcases hg x y with e | e
      · rw [e]; exact ha.head
      · rw [e]; exact hb.head
    · exact bd_zip hg ha.tail hb.tail c hc
theorem Ok.join {n : Nat} {a b : List Int} (ha : Ok n a) (hb : Ok n b) : Ok n (joinL a b) := ⟨by rw [joinL_len (by rw [ha.1, hb.1]), ha.1], bd_zip (fun x y => by split <;> simp) ha.2 hb.2⟩
theorem Ok.meet {n : Nat} {a b : List Int} (ha : Ok n a) (hb : Ok n b) : Ok n (meetL a b) := ⟨by rw [meetL_len (by rw [ha.1, hb.1]), ha.1], bd_zip (fun x y => by split <;> simp) ha.2 hb.2⟩
theorem code_le : ∀ {a b : List Int}, Le a b → TS.Bd BB a → TS.Bd BB b → TS.code BB a ≤ TS.code BB b
  | [], [], _, _, _ => Int.le_refl _
  | x :: xs, y :: ys, h, ha, hb => by
    rcases Int.lt_or_eq_of_le h.1 with e | e
    · exact Int.le_of_lt (TS.code_lt h.2.len ha.tail hb.tail e)
    · subst e
      have ih := code_le h.2 ha.tail hb.tail
      have := not_congr (TS.code_same (B := BB) (d := x) h.2.len.symm) |>.mpr (by omega)
      omega
  | [], _ :: _, h, _, _ => h.elim
  | _ :: _, [], h, _, _ => h.elim
theorem code_inj : ∀ {a b : List Int}, a.length = b.length → TS.Bd BB a → TS.Bd BB b → TS.code BB a = TS.code BB b → a = b
  | [], [], _, _, _, _ => rfl
  | x :: xs, y :: ys, h, ha, hb, e => by
    have hl : xs.length = ys.length := by simpa using h
    rcases Int.lt_trichotomy x y with l | l | l
    · have := TS.code_lt hl ha.tail hb.tail l
      omega
    · subst l
      have h1 := (not_congr (TS.code_same (B := BB) (d := x) hl)).mp (by omega)
      have h2 := (not_congr (TS.code_same (B := BB) (d := x) hl.symm)).mp (by omega)
      rw [code_inj hl ha.tail hb.tail (by omega)]
    · have := TS.code_lt hl.symm hb.tail ha.tail l
      omega
  | [], _ :: _, h, _, _, _ => nomatch h
  | _ :: _, [], h, _, _, _ => nomatch h
/-! ### folds -/
def stepL (m : List Int) (d l : List Int) : List Int := meetL d (joinL m l)
def foldL : List (List Int) → List Int → List Int
  | [], m => List.replicate m.length 0
  | l :: ls, m => ls.foldl (stepL m) (joinL m l)
theorem foldl_ok {n : Nat} {m : List Int} (hm : Ok n m) : ∀ {ls : List (List Int)} {d : List Int}, (∀ l ∈ ls, Ok n l) → Ok n d → Ok n (ls.foldl (stepL m) d)
  | [], _, _, hd => hd
  | l :: ls, d, h, hd => foldl_ok (ls := ls) (d := stepL m d l) hm (fun x hx => h x (List.mem_cons_of_mem _ hx)) (hd.meet (hm.join (h l List.mem_cons_self)))
theorem foldL_ok {n : Nat} {m : List Int} {L : List (List Int)} (hm : Ok n m) (h : ∀ l ∈ L, Ok n l) : Ok n (foldL L m) := by
  cases L with
  | nil =>
    refine ⟨by simp [foldL, hm.1], fun c hc => ?_⟩
    rw [(List.mem_replicate.mp hc).2]
    exact ⟨Int.le_refl _, by decide⟩
  | cons l ls => exact foldl_ok (ls := ls) hm (fun x hx => h x (List.mem_cons_of_mem _ hx)) (hm.join (h l List.mem_cons_self))
theorem le_foldl {n : Nat} {m x : List Int} (hm : m.length = n) : ∀ {ls : List (List Int)} {d : List Int}, (∀ l ∈ ls, l.length = n) → d.length = n → (Le x (ls.foldl (stepL m) d) ↔ Le x d ∧ ∀ l ∈ ls, Le x (joinL m l))
  | [], _, _, _ => by simp
  | l :: ls, d, h, hd => by
    have hl := h l List.mem_cons_self
    have hj : (joinL m l).length = n := by rw [joinL_len (by omega)]; exact hm
    have h2 : (stepL m d l).length = n := by unfold stepL; rw [meetL_len (by omega)]; exact hd
    rw [List.foldl_cons, le_foldl hm (fun x hx => h x (List.mem_cons_of_mem _ hx)) h2]
    unfold stepL
    rw [le_meet (by omega)]
    simp only [List.mem_cons, forall_eq_or_imp, and_assoc]
theorem le_fold {n : Nat} {m x : List Int} {L : List (List Int)} (hm : m.length = n) (h : ∀ l ∈ L, l.length = n) (hL : L ≠ []) : Le x (foldL L m) ↔ ∀ l ∈ L, Le x (joinL m l) := by
  cases L with
  | nil => exact absurd rfl hL
  | cons l ls =>
    have hl := h l List.mem_cons_self
    show Le x (ls.foldl (stepL m) (joinL m l)) ↔ _
    rw [le_foldl hm (fun x hx => h x (List.mem_cons_of_mem _ hx)) (by rw [joinL_len (by omega)]; exact hm)]
    simp only [List.mem_cons, forall_eq_or_imp]
theorem fold_ge {n : Nat} {m : List Int} {L : List (List Int)} (hm : m.length = n) (h : ∀ l ∈ L, l.length = n) (hL : L ≠ []) : Le m (foldL L m) :=
  (le_fold hm h hL).mpr fun l hl => le_joinL (by rw [hm, h l hl])
theorem fold_le_join {n : Nat} {m l : List Int} {L : List (List Int)} (hm : m.length = n) (h : ∀ l ∈ L, l.length = n) (hl : l ∈ L) : Le (foldL L m) (joinL m l) :=
  (le_fold hm h (List.ne_nil_of_mem hl)).mp (Le.refl _) l hl
theorem fold_open {n : Nat} {m l : List Int} {L : List (List Int)} (hm : m.length = n) (h : ∀ l ∈ L, l.length = n) (hl : l ∈ L) (hle : Le l m) : foldL L m = m :=
  Le.anti ((fold_le_join hm h hl).trans ((join_le (by rw [hm, h l hl])).mpr ⟨Le.refl _, hle⟩)) (fold_ge hm h (List.ne_nil_of_mem hl))
theorem fold_sees {n : Nat} {m l x : List Int} {L : List (List Int)} (hm : m.length = n) (h : ∀ l ∈ L, l.length = n) (hl : l ∈ L) (hle : Le l x) : Le m x ↔ Le (foldL L m) x :=
  ⟨fun k => (fold_le_join hm h hl).trans ((join_le (by rw [hm, h l hl])).mpr ⟨k, hle⟩), fun k => (fold_ge hm h (List.ne_nil_of_mem hl)).trans k⟩
theorem foldL_len {n : Nat} {m : List Int} {L : List (List Int)} (hm : m.length = n) (h : ∀ l ∈ L, l.length = n) : (foldL L m).length = n := by
  by_cases e : L = []
  · subst e
    simp [foldL, hm]
  · exact ((fold_ge hm h e).len.symm.trans hm)
theorem fold_later {n : Nat} {m : List Int} {A L : List (List Int)} (hm : m.length = n) (hA : ∀ l ∈ A, l.length = n) (h : ∀ l ∈ L, l.length = n) (adv : ∀ l ∈ L, ∃ e ∈ A, Le e l) : foldL L (foldL A m) = foldL L m := by
  have hf : (foldL A m).length = n := foldL_len hm hA
  by_cases e : L = []
  · subst e
    show List.replicate (foldL A m).length (0 : Int) = List.replicate m.length 0
    rw [hf, hm]
  · have hA0 : A ≠ [] := by
      obtain ⟨l, hl⟩ := List.exists_mem_of_ne_nil _ e
      obtain ⟨a, ha, _⟩ := adv l hl
      exact List.ne_nil_of_mem ha
    refine Le.anti ((le_fold hm h e).mpr fun l hl => (fold_le_join hf h hl).trans ?_) ((le_fold hf h e).mpr fun l hl => (fold_le_join hm h hl).trans ?_)
    · obtain ⟨a, ha, hal⟩ := adv l hl
      have hml : m.length = l.length := by rw [hm, h l hl]
      refine (join_le (by rw [hf, h l hl])).mpr ⟨(fold_le_join hm hA ha).trans ((join_le (by rw [hm, hA a ha])).mpr ⟨le_joinL hml, hal.trans (le_joinR hml)⟩), le_joinR hml⟩
    · have hfl : (foldL A m).length = l.length := by rw [hf, h l hl]
      exact (join_le (by rw [hm, h l hl])).mpr ⟨(fold_ge hm hA hA0).trans (le_joinL hfl), le_joinR hfl⟩
theorem meetL_self : ∀ a : List Int, meetL a a = a
  | [] => rfl
  | x :: xs => by
    show (if x < x then x else x) :: meetL xs xs = x :: xs
    rw [meetL_self xs, if_neg (by omega)]
theorem foldLaw {m l : List Int} {ls : List (List Int)} : (l :: ls).foldl (stepL m) (joinL m l) = foldL (l :: ls) m := by
  show ls.foldl (stepL m) (stepL m (joinL m l) l) = ls.foldl (stepL m) (joinL m l)
  unfold stepL
  rw [meetL_self]
/-! ### the minimal ones, ascending -/
def Asc (L : List (List Int)) : Prop := L.Pairwise fun x y => TS.code BB x < TS.code BB y
structure IsL (ms L : List (List Int)) : Prop where
  asc : Asc L
  mem : ∀ x, x ∈ L ↔ x ∈ ms ∧ ∀ y ∈ ms, leB y x = true → y = x
theorem asc_uniq : ∀ {L L' : List (List Int)}, Asc L → Asc L' → (∀ x, x ∈ L ↔ x ∈ L') → L = L'
  | [], [], _, _, _ => rfl
  | [], y :: ys, _, _, h => by
    have := (h y).mpr List.mem_cons_self
    simp at this
  | x :: xs, [], _, _, h => by
    have := (h x).mp List.mem_cons_self
    simp at this
  | x :: xs, y :: ys, a, b, h => by
    have a' := List.pairwise_cons.mp a
    have b' := List.pairwise_cons.mp b
    have e : x = y := by
      rcases List.mem_cons.mp ((h x).mp List.mem_cons_self) with e | e
      · exact e
      · rcases List.mem_cons.mp ((h y).mpr List.mem_cons_self) with e' | e'
        · exact e'.symm
        · have := a'.1 y e'
          have := b'.1 x e
          omega
    subst e
    rw [asc_uniq a'.2 b'.2 fun z => ?_]
    have hz := h z
    rw [List.mem_cons, List.mem_cons] at hz
    constructor
    · intro k
      rcases hz.mp (.inr k) with e | e
      · subst e
        have := a'.1 z k
        omega
      · exact e
    · intro k
      rcases hz.mpr (.inr k) with e | e
      · subst e
        have := b'.1 z k
        omega
      · exact e
theorem IsL.uniq {ms L L' : List (List Int)} (h : IsL ms L) (k : IsL ms L') : L = L' := asc_uniq h.asc k.asc fun x => (h.mem x).trans (k.mem x).symm
theorem IsL.self {ms L : List (List Int)} (h : IsL ms L) : IsL L L := ⟨h.asc, fun x => ⟨fun k => ⟨k, fun y hy e => ((h.mem x).mp k).2 y ((h.mem y).mp hy).1 e⟩, fun k => k.1⟩⟩
/-- the program's way: the ascending ones, each kept if none that is kept is before it -/
structure PF (T F : List (List Int)) : Prop where
  asc : Asc F
  sub : ∀ f ∈ F, f ∈ T
  cov : ∀ x ∈ T, ∃ f ∈ F, leB f x = true
  min : ∀ f ∈ F, ∀ y ∈ T, leB y f = true → y = f
theorem PF.nil : PF [] [] := ⟨.nil, fun _ h => h, fun _ h => by simp at h, fun _ h => by simp at h⟩
theorem leB_refl (x : List Int) : leB x x = true := (leB_iff rfl).mpr (Le.refl x)
section
variable {n : Nat} {T F : List (List Int)} {x : List Int}
theorem PF.later (h : PF T F) (hT : ∀ y ∈ T, Ok n y ∧ TS.code BB y < TS.code BB x) (hx : Ok n x) {f : List Int} (hf : f ∈ F) (e : leB x f = true) : False := by
  obtain ⟨ho, hc⟩ := hT f (h.sub f hf)
  have := code_le ((leB_iff (by rw [hx.1, ho.1])).mp e) hx.2 ho.2
  omega
theorem PF.skip (h : PF T F) (hT : ∀ y ∈ T, Ok n y ∧ TS.code BB y < TS.code BB x) (hx : Ok n x) (k : ∃ f ∈ F, leB f x = true) : PF (T ++ [x]) F := by
  refine ⟨h.asc, fun f hf => List.mem_append_left _ (h.sub f hf), fun y hy => ?_, fun f hf y hy e => ?_⟩
  · rcases List.mem_append.mp hy with hy | hy
    · exact h.cov y hy
    · rw [List.mem_singleton.mp hy]
      exact k
  · rcases List.mem_append.mp hy with hy | hy
    · exact h.min f hf y hy e
    · rw [List.mem_singleton.mp hy] at e
      exact (h.later hT hx hf e).elim
theorem PF.add (h : PF T F) (hT : ∀ y ∈ T, Ok n y ∧ TS.code BB y < TS.code BB x) (hx : Ok n x) (k : ∀ f ∈ F, leB f x = false) : PF (T ++ [x]) (F ++ [x]) := by
  refine ⟨?_, fun f hf => ?_, fun y hy => ?_, fun f hf y hy e => ?_⟩
  · refine List.pairwise_append.mpr ⟨h.asc, by simp, fun a ha b hb => ?_⟩
    rw [List.mem_singleton.mp hb]
    exact (hT a (h.sub a ha)).2
  · rcases List.mem_append.mp hf with hf | hf
    · exact List.mem_append_left _ (h.sub f hf)
    · exact List.mem_append_right _ hf
  · rcases List.mem_append.mp hy with hy | hy
    · obtain ⟨f, hf, e⟩ := h.cov y hy
      exact ⟨f, List.mem_append_left _ hf, e⟩
    · exact ⟨y, List.mem_append_right _ hy, leB_refl y⟩
  · rcases List.mem_append.mp hf with hf | hf
    · rcases List.mem_append.mp hy with hy | hy
      · exact h.min f hf y hy e
      · rw [List.mem_singleton.mp hy] at e
        exact (h.later hT hx hf e).elim
    · have ef := List.mem_singleton.mp hf
      subst ef
      rcases List.mem_append.mp hy with hy | hy
      · obtain ⟨g, hg, e2⟩ := h.cov y hy
        have l1 := (hT g (h.sub g hg)).1.1
        have l2 := (hT y hy).1.1
        have : leB g f = true := (leB_iff (by rw [l1, hx.1])).mpr (((leB_iff (by rw [l1, l2])).mp e2).trans ((leB_iff (by rw [l2, hx.1])).mp e))
        rw [k g hg] at this
        cases this
      · exact List.mem_singleton.mp hy
theorem PF.done {ms : List (List Int)} (h : PF T F) (e : ∀ y, y ∈ T ↔ y ∈ ms) : IsL ms F := by
  refine ⟨h.asc, fun y => ⟨fun hy => ⟨(e y).mp (h.sub y hy), fun z hz k => h.min y hy z ((e z).mpr hz) k⟩, fun ⟨h1, h2⟩ => ?_⟩⟩
  obtain ⟨f, hf, k⟩ := h.cov y ((e y).mpr h1)
  rw [← h2 f ((e f).mp (h.sub f hf)) k]
  exact hf
/-- the law's way -/
structure LF (ms T F : List (List Int)) : Prop where
  asc : Asc F
  mem : ∀ x, x ∈ F ↔ x ∈ T ∧ ∀ y ∈ ms, leB y x = true → y = x
theorem LF.nil {ms : List (List Int)} : LF ms [] [] := ⟨.nil, fun x => by simp⟩
def under (ms : List (List Int)) (x : List Int) : Bool := ms.any fun y => decide (y ≠ x) && leB y x
theorem under_no {ms : List (List Int)} : under ms x = false ↔ ∀ y ∈ ms, leB y x = true → y = x := by
  unfold under
  rw [List.any_eq_false]
  constructor
  · intro h y hy e
    have := h y hy
    rw [e] at this
    simpa using this
  · intro h y hy
    cases e : leB y x with
    | false => simp
    | true => simp [h y hy e]
theorem LF.skip {ms : List (List Int)} (h : LF ms T F) (k : x ∈ F ∨ under ms x = true) : LF ms (T ++ [x]) F := by
  refine ⟨h.asc, fun y => ?_⟩
  rw [h.mem y, List.mem_append, List.mem_singleton]
  constructor
  · rintro ⟨h1, h2⟩
    exact ⟨.inl h1, h2⟩
  · rintro ⟨h1 | h1, h2⟩
    · exact ⟨h1, h2⟩
    · subst h1
      rcases k with k | k
      · exact (h.mem y).mp k
      · rw [under_no.mpr h2] at k
        cases k
theorem LF.add {ms : List (List Int)} (h : LF ms T F) (hT : ∀ y ∈ T, Ok n y ∧ TS.code BB y ≤ TS.code BB x) (hx : Ok n x) (k1 : x ∉ F) (k2 : under ms x = false) : LF ms (T ++ [x]) (F ++ [x]) := by
  refine ⟨List.pairwise_append.mpr ⟨h.asc, by simp, fun a ha b hb => ?_⟩, fun y => ?_⟩
  · rw [List.mem_singleton.mp hb]
    obtain ⟨h1, h2⟩ := hT a ((h.mem a).mp ha).1
    rcases Int.lt_or_eq_of_le h2 with l | l
    · exact l
    · have := code_inj (by rw [h1.1, hx.1]) h1.2 hx.2 l
      subst this
      exact absurd ha k1
  · rw [List.mem_append, List.mem_append, List.mem_singleton, h.mem y]
    constructor
    · rintro (⟨h1, h2⟩ | rfl)
      · exact ⟨.inl h1, h2⟩
      · exact ⟨.inr rfl, under_no.mp k2⟩
    · rintro ⟨h1 | h1, h2⟩
      · exact .inl ⟨h1, h2⟩
      · exact .inr h1
theorem LF.done {ms : List (List Int)} (h : LF ms T F) (e : ∀ y, y ∈ T ↔ y ∈ ms) : IsL ms F := ⟨h.asc, fun y => by rw [h.mem y, e y]⟩
end
/-- each of the later ones stands behind one of the earlier ones -/
def Adv (A L : List (List Int)) : Prop := ∀ l ∈ L, ∃ e ∈ A, Le e l
theorem Adv.refl (A : List (List Int)) : Adv A A := fun l hl => ⟨l, hl, Le.refl l⟩
theorem Adv.trans {A L M : List (List Int)} (h : Adv A L) (k : Adv L M) : Adv A M := fun m hm => by
  obtain ⟨l, hl, e⟩ := k m hm
  obtain ⟨a, ha, e'⟩ := h l hl
  exact ⟨a, ha, e'.trans e⟩
end K5

namespace K5
open PySem PySem.Spec PyProof.Rows L2
section
variable {P : Program} {w : World} {K : PySem.W.Frag} {mg : Str → Option Value} {base : Heap}
theorem d_is_number (B : Bt mg) (T : Top K mg "is_number" sis_number ["value"]) : Def P w K mg base "is_number" 1 ["value"] spIsInt := by
  refine mk_def T scis_number (by rintro _ _ _ _ ⟨i, rfl, _⟩; rfl) fun f cdv A outer s H vs Q E hr h => ?_
  obtain ⟨i, rfl, q⟩ := h
  refine ⟨_, (pss_one (ps_ret (pe_and (pe_callB call_isi (by rfl) B.m_isinstance (by decide +kernel) (pa_cons (pv 0) (pa_cons (pe_bltn (v := .ty "int") (by rfl) B.m_int (by decide +kernel) rfl) pa_nil))) (pe_one (pe_not (pe_callB call_isi (by rfl) B.m_isinstance (by decide +kernel) (pa_cons (pv 0) (pa_cons (pe_bltn (v := .ty "bool") (by rfl) B.m_bool (by decide +kernel) rfl) pa_nil)))))))), ?_⟩
  refine ⟨.int i, rfl, _, _, .type "int", .type "int", true, rfl, .ty _, .base (.int i), kit_ty (by decide +kernel), _, rfl, ?_⟩
  refine ⟨.int i, rfl, _, _, .type "int", .type "bool", false, rfl, .ty _, .base (.int i), kit_ty (by decide +kernel), _, rfl, ?_⟩
  exact q H (Same.refl _)
def spCheckAxes : Sp := fun vs H Q _ => ∃ i : Int, vs = [.int i] ∧ 1 ≤ i ∧ i ≤ 4 ∧ ∀ H', Same H H' → Q .non H'
theorem d_check_axes (B : Bt mg) (G_MOST_AXES : ∃ t, mg "MOST_AXES" = some (.int 4 t)) (T : Top K mg "check_axes" scheck_axes ["axes"]) (Dis_number : Def P w K mg base "is_number" 1 ["value"] spIsInt) : Def P w K mg base "check_axes" 2 ["axes"] spCheckAxes := by
  refine mk_def T sccheck_axes (by rintro _ _ _ _ ⟨i, rfl, _⟩; rfl) fun f cdv A outer s H vs Q E hr h => ?_
  obtain ⟨i, rfl, h1, h4, q⟩ := h
  refine ⟨_, (pss_one (ps_if (pw_or (pt_not (pt_val (pe_def Dis_number (hr.mono (by decide)) (by rfl) (pa_cons (pv 0) pa_nil)))) (pw_or1 (pt_not (pt_chain op_le op_le pe_int (pv 0) (pe_globI G_MOST_AXES (by rfl)))))).pt (pss_one ps_never) pss_nil)), ?_⟩
  refine ⟨.int i, rfl, i, rfl, fun H1 s1 => ⟨_, rfl, iteF ⟨.int i, rfl, _, _, rfl, rfl, _, rfl, ite2 (fun _ => ⟨_, _, rfl, rfl, _, rfl, ?_⟩) (fun z => absurd (decide_eq_true h1) z)⟩⟩⟩
  rw [decide_eq_true h4]
  exact iteF (q H1 s1)
def spLike : Sp := fun vs H Q _ => ∃ i : Int, vs = [.int i, .int i] ∧ ∀ H', Same H H' → Q .non H'
theorem d_check_like_axes (B : Bt mg) (T : Top K mg "check_like_axes" scheck_like_axes ["left", "right"]) : Def P w K mg base "check_like_axes" 1 ["left", "right"] spLike := by
  refine mk_def T sccheck_like_axes (by rintro _ _ _ _ ⟨i, rfl, _⟩; rfl) fun f cdv A outer s H vs Q E hr h => ?_
  obtain ⟨i, rfl, q⟩ := h
  refine ⟨_, (pss_one (ps_if (pt_cmpR op_ne (pv 0) (pv 1) (nomark _)) (pss_one ps_never) pss_nil)), ?_⟩
  refine ⟨.int i, rfl, .int i, rfl, rfl, _, rfl, ?_⟩
  exact iteNS rfl (q H (Same.refl _))
def spIsMoment (K : PySem.W.Frag) : Sp := fun vs H Q _ => ∃ (v : V) (m : List Int), vs = [v, .int (m.length : Nat)] ∧ Mo K H v m ∧ (∀ c ∈ m, 0 ≤ c) ∧ m.length ≤ 1000 ∧ ∀ H', Same H H' → Q (.bl true) H'
theorem d_is_moment (B : Bt mg) (T : Top K mg "is_moment" sis_moment ["value", "axes"]) (Dis_number : Def P w K mg base "is_number" 1 ["value"] spIsInt) : Def P w K mg base "is_moment" 2 ["value", "axes"] (spIsMoment K) := by
  refine mk_def T scis_moment (by rintro _ _ _ _ ⟨_, _, rfl, _⟩; rfl) fun f cdv A outer s H vs Q E hr h => ?_
  obtain ⟨v, m, rfl, hm, h0, h1, q⟩ := h
  refine ⟨_, (pss_cons (ps_if (pw_or (pt_not (pt_val (pe_callB call_isi (by rfl) B.m_isinstance (by decide +kernel) (pa_cons (pv 0) (pa_cons (pe_bltn (v := .ty "tuple") (by rfl) B.m_tuple (by decide +kernel) rfl) pa_nil))))) (pw_or1 (pt_cmpR op_ne (pe_callB call_len_seq (by rfl) B.m_len PySem.boot_len (pa_cons (pv 0) pa_nil)) (pv 1) (nomark _)))).pt (pss_one (ps_ret pe_bl)) pss_nil)
      (pss_one (ps_ret (pe_callB (cr_all rfl) (by rfl) B.m_all (by decide +kernel) (pa_cons (pe_lc (own := [("coordinate", 2)]) (g := (gName 2)) (tt := tYes) (te := (tAndV (tCall spIsInt [] E0 (tCons (tVar 2) tNil)) (tOp yGe (tVar 2) (tC (.int 0))))) rfl scis_moment.nd (pi_tup (pv 0)) (blkOk_by (own := [("coordinate", 2)]) (N := Nis_moment) (sc := defScope sis_moment) (by decide +kernel)) (fun _ _ _ _ _ => (pg_name (i := 2) scis_moment.nd rfl (Or.inl rfl))) (fun _ _ _ _ _ => pts_nil) (fun _ _ _ _ _ => (pe_and (pe_def Dis_number (hr.mono (by decide)) (by rfl) (pa_cons (pv 2) pa_nil)) (pe_one (pe_cmpR op_ge (pv 2) pe_int (nomark _)))))) pa_nil))))), ?_⟩
  obtain ⟨a, rfl, ha⟩ := hm.trk
  refine ⟨.ref a, rfl, _, _, .type "tuple", .type "tuple", true, rfl, .ty _, .base (.tup ha), kit_ty (by decide +kernel), _, rfl, iteF ⟨.ref a, rfl, a, _, rfl, .inr (SqT.of ha), .int (m.length : Nat), rfl, rfl, _, rfl, ?_⟩⟩
  refine iteNS (by simp) ?_
  refine ⟨.ref a, rfl, a, rfl, ⟨_, SqT.of ha⟩, fun D hD => ?_⟩
  refine lc_val (walk_tup (K := K)) hD (by simp; omega) (fun H1 e => e.seqT (SqT.of ha)) (List.replicate m.length (V.bl true)) (by simp) (fun i x H1 H2 Q' hi e y k => ?_) (fun H1 e eD => ?_)
  · obtain ⟨rfl, hx⟩ := y
    obtain ⟨c, hc, rfl⟩ := int_at hx
    refine ⟨rfl, .int c, rfl, c, rfl, fun H3 s3 => ?_⟩
    have hi' : i < m.length := by simpa using hi
    refine ⟨true, rfl, iteT ⟨.int c, rfl, _, _, rfl, rfl, ?_⟩⟩
    refine k _ _ s3 ?_
    have h0c := h0 c (List.mem_of_getElem? hc)
    simp [hi', h0c]
  · refine ⟨D, List.replicate m.length true, rfl, SqL.of (by rw [eD, List.map_replicate]), ?_⟩
    rw [show (List.replicate m.length true).all id = true by simp]
    exact q H1 e
theorem d_law_is_moment (B : Bt mg) (T : Top K mg "_law_is_moment" s_law_is_moment ["told", "span"]) (D_law_is_integer : Def P w K mg base "_law_is_integer" 1 ["told"] spIsInt) : Def P w K mg base "_law_is_moment" 2 ["told", "span"] (spIsMoment K) := by
  refine mk_def T sc_law_is_moment (by rintro _ _ _ _ ⟨_, _, rfl, _⟩; rfl) fun f cdv A outer s H vs Q E hr h => ?_
  obtain ⟨v, m, rfl, hm, h0, h1, q⟩ := h
  refine ⟨_, (pss_cons (ps_if (pw_or (pt_not (pt_val (pe_callB call_isi (by rfl) B.m_isinstance (by decide +kernel) (pa_cons (pv 0) (pa_cons (pe_bltn (v := .ty "tuple") (by rfl) B.m_tuple (by decide +kernel) rfl) pa_nil))))) (pw_or1 (pt_cmpR op_ne (pe_callB call_len_seq (by rfl) B.m_len PySem.boot_len (pa_cons (pv 0) pa_nil)) (pv 1) (nomark _)))).pt (pss_one (ps_ret pe_bl)) pss_nil)
      (pss_one (ps_ret (pe_callB (cr_all rfl) (by rfl) B.m_all (by decide +kernel) (pa_cons (pe_lc (own := [("one", 2)]) (g := (gName 2)) (tt := tYes) (te := (tAndV (tCall spIsInt [] E0 (tCons (tVar 2) tNil)) (tOp yGe (tVar 2) (tC (.int 0))))) rfl sc_law_is_moment.nd (pi_tup (pv 0)) (blkOk_by (own := [("one", 2)]) (N := N_law_is_moment) (sc := defScope s_law_is_moment) (by decide +kernel)) (fun _ _ _ _ _ => (pg_name (i := 2) sc_law_is_moment.nd rfl (Or.inl rfl))) (fun _ _ _ _ _ => pts_nil) (fun _ _ _ _ _ => (pe_and (pe_def D_law_is_integer (hr.mono (by decide)) (by rfl) (pa_cons (pv 2) pa_nil)) (pe_one (pe_cmpR op_ge (pv 2) pe_int (nomark _)))))) pa_nil))))), ?_⟩
  obtain ⟨a, rfl, ha⟩ := hm.trk
  refine ⟨.ref a, rfl, _, _, .type "tuple", .type "tuple", true, rfl, .ty _, .base (.tup ha), kit_ty (by decide +kernel), _, rfl, iteF ⟨.ref a, rfl, a, _, rfl, .inr (SqT.of ha), .int (m.length : Nat), rfl, rfl, _, rfl, ?_⟩⟩
  refine iteNS (by simp) ?_
  refine ⟨.ref a, rfl, a, rfl, ⟨_, SqT.of ha⟩, fun D hD => ?_⟩
  refine lc_val (walk_tup (K := K)) hD (by simp; omega) (fun H1 e => e.seqT (SqT.of ha)) (List.replicate m.length (V.bl true)) (by simp) (fun i x H1 H2 Q' hi e y k => ?_) (fun H1 e eD => ?_)
  · obtain ⟨rfl, hx⟩ := y
    obtain ⟨c, hc, rfl⟩ := int_at hx
    refine ⟨rfl, .int c, rfl, c, rfl, fun H3 s3 => ?_⟩
    have hi' : i < m.length := by simpa using hi
    refine ⟨true, rfl, iteT ⟨.int c, rfl, _, _, rfl, rfl, ?_⟩⟩
    refine k _ _ s3 ?_
    have h0c := h0 c (List.mem_of_getElem? hc)
    simp [hi', h0c]
  · refine ⟨D, List.replicate m.length true, rfl, SqL.of (by rw [eD, List.map_replicate]), ?_⟩
    rw [show (List.replicate m.length true).all id = true by simp]
    exact q H1 e
end
end K5

namespace K5
open PySem PySem.Spec PyProof.Rows L2
theorem map_at {α β : Type} {f : α → β} {l : List α} {i : Nat} {y : β} (h : (l.map f)[i]? = some y) : ∃ x, l[i]? = some x ∧ y = f x := by
  rw [List.getElem?_map] at h
  cases e : l[i]? with
  | none => rw [e] at h; cases h
  | some n => rw [e] at h; exact ⟨n, rfl, (Option.some.inj h).symm⟩
/-- a list of moments -/
def MoL (K : PySem.W.Frag) (H : Hp) (v : V) (ms : List (List Int)) : Prop := ∃ a lv, v = .ref a ∧ H a = some (.lst lv) ∧ DaAll K H lv (ms.map mo)
theorem MoL.same {K : PySem.W.Frag} {H H' : Hp} {v : V} {ms : List (List Int)} (h : MoL K H v ms) (e : Same H H') : MoL K H' v ms := by
  obtain ⟨a, lv, rfl, h1, h2⟩ := h
  exact ⟨a, lv, rfl, e _ _ h1, Da.sameAll e _ _ h2⟩
theorem mos_ks {K : PySem.W.Frag} {H : Hp} : ∀ {gv : List V} {ms : List (List Int)}, DaAll K H gv (ms.map mo) → ∃ ks : List (Addr × List Int), gv = ks.map (fun p => V.ref p.1) ∧ ks.map (·.2) = ms ∧ ∀ p ∈ ks, H p.1 = some (.tup (p.2.map V.int))
  | _, [], .nil => ⟨[], rfl, rfl, fun p hp => by simp at hp⟩
  | _, m :: ms, .cons r t => by
    obtain ⟨a, rfl, ha⟩ := Mo.trk r
    obtain ⟨ks, h1, h2, h3⟩ := mos_ks (ms := ms) t
    refine ⟨(a, m) :: ks, by rw [h1]; rfl, by rw [← h2]; rfl, fun p hp => ?_⟩
    rcases List.mem_cons.mp hp with rfl | hp
    · exact ha
    · exact h3 p hp
theorem ks_mos {K : PySem.W.Frag} {H : Hp} : ∀ {ks : List (Addr × List Int)}, (∀ p ∈ ks, H p.1 = some (.tup (p.2.map V.int))) → DaAll K H (ks.map fun p => V.ref p.1) ((ks.map (·.2)).map mo)
  | [], _ => .nil
  | p :: ks, h => .cons (Mo.of (h p List.mem_cons_self)) (ks_mos fun q hq => h q (List.mem_cons_of_mem _ hq))
theorem pf_at {S : List (List Int)} {n : Nat} (h : S.Pairwise fun x y => TS.code BB x ≤ TS.code BB y) (nd : S.Nodup) (ho : ∀ x ∈ S, Ok n x) {i : Nat} {x : List Int} (hx : S[i]? = some x) : ∀ y ∈ S.take i, Ok n y ∧ TS.code BB y < TS.code BB x := by
  intro y hy
  obtain ⟨j, hj⟩ := List.mem_iff_getElem?.mp hy
  rw [List.getElem?_take] at hj
  split at hj
  · rename_i hji
    have hy' : y ∈ S := List.mem_of_getElem? hj
    have hx' : x ∈ S := List.mem_of_getElem? hx
    refine ⟨ho y hy', ?_⟩
    obtain ⟨l1, e1⟩ := List.getElem?_eq_some_iff.mp hj
    obtain ⟨l2, e2⟩ := List.getElem?_eq_some_iff.mp hx
    have hc := List.pairwise_iff_getElem.mp h j i l1 l2 hji
    rw [e1, e2] at hc
    rcases Int.lt_or_eq_of_le hc with l | l
    · exact l
    · have := code_inj (by rw [(ho y hy').1, (ho x hx').1]) (ho y hy').2 (ho x hx').2 l
      subst this
      have := (List.getElem_inj nd).mp (e1.trans e2.symm)
      omega
  · cases hj
theorem TS_len {l D : List (List Int)} (nd : l.Nodup) (h : ∀ x ∈ l, x ∈ D) : l.length ≤ D.length := by
  have := List.Nodup.length_le_of_subset nd h
  exact this
def spMinimal (K : PySem.W.Frag) : Sp := fun vs H Q _ => ∃ (v : V) (n : Nat) (ms : List (List Int)), vs = [v] ∧ MoL K H v ms ∧ (∀ m ∈ ms, Ok n m) ∧ 1 ≤ n ∧ n ≤ 1000 ∧ ms.length ≤ 60 ∧
  ∀ H' d lv L, Same H H' → H d = none → H' d = some (.lst lv) → DaAll K H' lv (L.map mo) → IsL ms L → Q (.ref d) H'
section
variable {P : Program} {w : World} {K : PySem.W.Frag} {mg : Str → Option Value} {base : Heap}
theorem d_minimal (B : Bt mg) (T : Top K mg "minimal" sminimal ["moments"]) (Dbefore : Def P w K mg base "before" 1 ["first", "second"] (spB K leB)) : Def P w K mg base "minimal" 2 ["moments"] (spMinimal K) := by
  refine mk_def T scminimal (by rintro _ _ _ _ ⟨_, _, _, rfl, _⟩; rfl) fun f cdv A outer s H vs Q E hr h => ?_
  obtain ⟨v, n, ms, rfl, ⟨a, lv, rfl, ha, hd⟩, hok, hn1, hn, hms, q⟩ := h
  obtain ⟨ks, rfl, rfl, hk⟩ := mos_ks hd
  refine ⟨_, (pss_cons (ps_set (i := 1) scminimal.nd rfl (Or.inl rfl) (pe_lst pa_nil))
      (pss_cons (ps_for PassesOwn.never rfl (pi_list (pe_callB (cr_sortedT rfl) (by rfl) B.m_sorted (by decide +kernel) (pa_cons (pe_callTy (cr_setOfT rfl (hu64 hr)) (by rfl) B.m_set (by decide +kernel) (pa_cons (pv 0) pa_nil)) pa_nil))) (pg_name (i := 2) scminimal.nd rfl (Or.inr rfl)) (pss_one (ps_if (pt_not (pt_val (pe_callB (cr_any rfl) (by rfl) B.m_any (by decide +kernel) (pa_cons (pe_lc (own := [("low", 3)]) (g := (gName 3)) (tt := tYes) (te := (tCall (spB K leB) [] E0 (tCons (tVar 3) (tCons (tVar 2) tNil)))) rfl scminimal.nd (pi_list (pv 1)) (blkOk_by (own := [("low", 3)]) (N := Nminimal) (sc := defScope sminimal) (by decide +kernel)) (fun _ _ _ _ _ => (pg_name (i := 3) scminimal.nd rfl (Or.inl rfl))) (fun _ _ _ _ _ => pts_nil) (fun _ _ _ _ _ => (pe_def Dbefore (hr.mono (by decide)) (by rfl) (pa_cons (pv 3) (pa_cons (pv 2) pa_nil))))) pa_nil)))) (pss_one (ps_expr (pe_bm PySem.F.plainAttrs_list PySem.F.slot_list_append PySem.F.type_list_append mt_append (pv 1) (pa_cons (pv 2) pa_nil)))) pss_nil)))
      (pss_one (ps_ret (pv 1))))), ?_⟩
  refine ⟨Nat.zero_le _, fun Fd hFd => ?_⟩
  have s0 : Same H (upd H Fd (.lst [])) := same_upd hFd
  refine ⟨.ref a, rfl, a, ks, rfl, SqL.of (s0 _ _ ha), fun p hp => SqT.of (s0 _ _ (hk p hp)), by simp at hms; omega, fun a1 L ha1 hsub hcov => ?_⟩
  have s1 : Same H (upd (upd H Fd (.lst [])) a1 (SetTO P w a1 L)) := s0.trans (same_upd ha1)
  refine ⟨a1, L, n, BB, rfl, upd_same, fun p hp => SqT.of (s1 _ _ (hk p (hsub p hp))), hn1, fun p hp => hok _ (List.mem_map.mpr ⟨p, hsub p hp, rfl⟩), fun L' p hperm hnd h64 hpw hp => ?_⟩
  have s2 : Same H (upd (upd (upd H Fd (.lst [])) a1 (SetTO P w a1 L)) p (.lst (L'.map fun q => V.ref q.1))) := s1.trans (same_upd hp)
  have nFa : Fd ≠ a1 := ne_of_none (o := .lst []) upd_same ha1
  have eF1 : upd (upd H Fd (.lst [])) a1 (SetTO P w a1 L) Fd = some (.lst []) := by rw [upd_ne nFa, upd_same]
  have nFp : Fd ≠ p := ne_of_none eF1 hp
  have hS : ∀ x, x ∈ L'.map (·.2) ↔ x ∈ ks.map (·.2) := by
    intro x
    rw [(hperm.map (·.2)).mem_iff]
    constructor
    · intro h
      obtain ⟨p, hp, rfl⟩ := List.mem_map.mp h
      exact List.mem_map.mpr ⟨p, hsub p hp, rfl⟩
    · intro h
      obtain ⟨p, hp, rfl⟩ := List.mem_map.mp h
      exact hcov p hp
  have hokS : ∀ x ∈ L'.map (·.2), Ok n x := fun x hx => hok x ((hS x).mp hx)
  have hpwS : (L'.map (·.2)).Pairwise fun x y => TS.code BB x ≤ TS.code BB y := List.pairwise_map.mpr hpw
  refine ⟨p, rfl, ⟨_, SqL.of upd_same⟩, ?_⟩
  refine for_list (xs := L'.map fun q => V.ref q.1) (fun i σ H' => ∃ y2 y3 fv F, σ = [some (.ref a), some (.ref Fd), y2, y3] ∧ Same H H' ∧ H' p = some (.lst (L'.map fun q => V.ref q.1)) ∧ H' Fd = some (.lst fv) ∧ DaAll K H' fv (F.map mo) ∧ PF ((L'.map (·.2)).take i) F)
    ⟨none, none, [], [], rfl, s2, upd_same, by rw [upd_ne nFp]; exact eF1, .nil, PF.nil⟩ (fun i σ H' _ pv' => ?_) (fun i x σ H' hx pv' => ?_) (fun σ H' pv' => ?_)
  · obtain ⟨_, _, _, _, rfl, _, ep, _⟩ := pv'
    exact SqL.of ep
  · obtain ⟨y2, y3, fv, F, rfl, e, ep, eF, dF, pf⟩ := pv'
    obtain ⟨z, hz, rfl⟩ := map_at hx
    have hzL : z ∈ L := hperm.mem_iff.mp (List.mem_of_getElem? hz)
    have hz2 : (L'.map (·.2))[i]? = some z.2 := by rw [List.getElem?_map, hz]; rfl
    have hoz : Ok n z.2 := hokS _ (List.mem_of_getElem? hz2)
    have hmz : H' z.1 = some (.tup (z.2.map V.int)) := e _ _ (hk z (hsub z hzL))
    have hT := pf_at hpwS hnd hokS hz2
    have htk : (L'.map (·.2)).take (i + 1) = (L'.map (·.2)).take i ++ [z.2] := by rw [List.take_add_one, hz2]; rfl
    have hoF : ∀ f ∈ F, Ok n f := fun f hf => (hT f (pf.sub f hf)).1
    have lF : fv.length = F.length := by simpa using dF.length
    refine ⟨.ref Fd, rfl, Fd, rfl, ⟨_, SqL.of eF⟩, fun D hD => ?_⟩
    have hF60 : F.length ≤ 64 := by
      have h1 : F.Nodup := pf.asc.imp fun h e => by subst e; omega
      have h2 := TS_len h1 (fun f hf => List.mem_of_mem_take (pf.sub f hf))
      simp at h2
      omega
    refine lc_val (walk_list (K := K)) hD (by omega) (fun H1 e => SqL.of (e _ _ eF)) ((F.map fun l => leB l z.2).map V.bl) (by simp [lF]) (fun j y H1 H2 Q' hj e1 y1 k => ?_) (fun H1 e1 eD => ?_)
    · obtain ⟨rfl, hy⟩ := y1
      obtain ⟨d, hd1, hd2⟩ := dF.get hy
      obtain ⟨l, hl, rfl⟩ := mo_at hd1
      obtain ⟨b, rfl, hb⟩ := (Mo.same hd2 e1).inv
      have hol := hoF l (List.mem_of_getElem? hl)
      refine ⟨rfl, .ref b, rfl, .ref z.1, rfl, b, z.1, l, z.2, rfl, hb, SqT.of (e1 _ _ hmz), by rw [hol.1, hoz.1], by rw [hol.1]; exact hn, fun H3 e3 => k _ _ e3 ?_⟩
      simp [hl]
    · refine ⟨D, F.map fun l => leB l z.2, rfl, SqL.of eD, _, rfl, ?_⟩
      refine ite2 (fun zz => ?_) (fun zz => ?_)
      · have hall : ∀ f ∈ F, leB f z.2 = false := by
          intro f hf
          cases e : leB f z.2 with
          | false => rfl
          | true =>
            have : (F.map fun l => leB l z.2).any id = true := List.any_eq_true.mpr ⟨true, List.mem_map.mpr ⟨f, hf, e⟩, rfl⟩
            rw [this] at zz
            cases zz
        have eF1 := e1 _ _ eF
        have st : ST K H1 (upd H1 Fd (.lst (fv ++ [.ref z.1]))) := st_upd eF1 True.intro
        refine ⟨.ref Fd, rfl, .inl ⟨rfl, _, SqL.of eF1⟩, .ref z.1, rfl, Fd, _, _, rfl, rfl, eF1, by rw [lF]; exact Nat.lt_of_le_of_lt hF60 (by decide), ?_⟩
        refine ⟨_, _, fv ++ [.ref z.1], F ++ [z.2], rfl, (e.trans e1).mut hFd, ?_, upd_same, ?_, ?_⟩
        · rw [upd_ne nFp.symm]
          exact e1 _ _ ep
        · rw [List.map_append]
          exact DaAll.snoc (Da.st st _ _ (imm_mo _) (Mo.of (e1 _ _ hmz))) (Da.stAll (e1.st.trans st) _ _ (imm_mos _) dF)
        · rw [htk]
          exact pf.add hT hoz hall
      · have hex : ∃ f ∈ F, leB f z.2 = true := by
          cases e : (F.map fun l => leB l z.2).any id with
          | false => rw [e] at zz; exact absurd rfl zz
          | true =>
            obtain ⟨b, hb, hb2⟩ := List.any_eq_true.mp e
            obtain ⟨f, hf, rfl⟩ := List.mem_map.mp hb
            exact ⟨f, hf, hb2⟩
        refine ⟨_, _, fv, F, rfl, e.trans e1, e1 _ _ ep, e1 _ _ eF, Da.sameAll e1 _ _ dF, ?_⟩
        rw [htk]
        exact pf.skip hT hoz hex
  · obtain ⟨y2, y3, fv, F, rfl, e, ep, eF, dF, pf⟩ := pv'
    rw [List.length_map] at pf
    rw [List.take_of_length_le (by simp)] at pf
    exact ⟨.ref Fd, rfl, q H' Fd fv F e hFd eF dF (pf.done hS)⟩
end
end K5

namespace K5
open PySem PySem.Spec PyProof.Rows L2
/-! ### fronts -/
theorem kal : ¬ (("axes" : Str) = "_lows") := by decide +kernel
def frF (n : Nat) (d : Addr) : List (Str × V) := putF "_lows" (.ref d) (putF "axes" (.int (n : Nat)) [])
theorem frF_axes (n : Nat) (d : Addr) : (frF n d).lookup ("axes" : Str) = some (.int (n : Nat)) := by
  unfold frF
  rw [lookup_putF, if_neg kal, lookup_putF, if_pos rfl]
theorem frF_lows (n : Nat) (d : Addr) : (frF n d).lookup ("_lows" : Str) = some (.ref d) := by
  unfold frF
  rw [lookup_putF, if_pos rfl]
theorem frF_no (n : Nat) (d : Addr) {m : Str} (h1 : ¬ m = "_lows") (h2 : ¬ m = "axes") : (frF n d).lookup m = none := by
  unfold frF
  rw [lookup_putF, if_neg h1, lookup_putF, if_neg h2]
  rfl
/-- the class as the top has made it -/
structure TxF (K : PySem.W.Frag) (C : Addr) : Prop where
  cl : Cls K C
  nA : NoAttr K C "axes"
  nL : NoAttr K C "_lows"
/-- a front stands at v -/
def FrontAt (K : PySem.W.Frag) (C : Addr) (H : Hp) (v : V) (n : Nat) (L : List (List Int)) : Prop :=
  ∃ p dx d lv, v = .ref p ∧ H p = some (.ins C dx (frF n d)) ∧ H d = some (.lst lv) ∧ DaAll K H lv (L.map mo) ∧ (∀ l ∈ L, Ok n l) ∧ L.length ≤ 100
theorem FrontAt.same {K : PySem.W.Frag} {C : Addr} {H H' : Hp} {v : V} {n : Nat} {L : List (List Int)} (h : FrontAt K C H v n L) (e : Same H H') : FrontAt K C H' v n L := by
  obtain ⟨p, dx, d, lv, rfl, h1, h2, h3, r⟩ := h
  exact ⟨p, dx, d, lv, rfl, e _ _ h1, e _ _ h2, Da.sameAll e _ _ h3, r⟩
theorem Ok.pos {n : Nat} {m : List Int} (h : Ok n m) : ∀ c ∈ m, 0 ≤ c := fun c hc => (h.2 c hc).1
def spInit (K : PySem.W.Frag) (C : Addr) : Sp := fun vs H Q _ => ∃ (p dx : Addr) (n : Nat) (v : V) (ms : List (List Int)), vs = [.ref p, .int (n : Nat), v] ∧ H p = some (.ins C dx []) ∧ 1 ≤ n ∧ n ≤ 4 ∧ MoL K H v ms ∧ (∀ m ∈ ms, Ok n m) ∧ ms.length ≤ 60 ∧
  ∀ H' L, SameB p H H' → FrontAt K C H' (.ref p) n L → (∀ q l l', H q = some (.lst l) → FrontAt K C (upd H' q (.lst l')) (.ref p) n L) → IsL ms L → Q .non H'
def spMoments (K : PySem.W.Frag) (C : Addr) : Sp := fun vs H Q _ => ∃ (v : V) (n : Nat) (L : List (List Int)), vs = [v] ∧ FrontAt K C H v n L ∧ ∀ H' d lv, Same H H' → H d = none → H' d = some (.lst lv) → DaAll K H' lv (L.map mo) → Q (.ref d) H'
def spFold (K : PySem.W.Frag) (C : Addr) : Sp := fun vs H Q _ => ∃ (v u : V) (n : Nat) (L : List (List Int)) (m : List Int), vs = [v, u] ∧ FrontAt K C H v n L ∧ Mo K H u m ∧ Ok n m ∧ 1 ≤ n ∧ n ≤ 4 ∧ ∀ H' y, Same H H' → Mo K H' y (foldL L m) → Q y H'
section
variable {P : Program} {w : World} {K : PySem.W.Frag} {mg : Str → Option Value} {base : Heap} {C : Addr}
theorem d_Front_moments (B : Bt mg) (X : TxF K C) (T : TopM K C "moments" "Front.moments" sFront_moments ["self"]) : MethD P w K mg base C "moments" 1 ["self"] (spMoments K C) := by
  refine mk_meth T scFront_moments (by rintro _ _ _ _ ⟨_, _, _, rfl, _⟩; rfl) fun f cdv A outer s H vs Q E hr h => ?_
  obtain ⟨v, n, L, rfl, ⟨p, dx, d, lv, rfl, h1, h2, h3, hL, _⟩, q⟩ := h
  refine ⟨_, (pss_one (ps_ret (pe_callTy call_list_of (by rfl) B.m_list (by decide +kernel) (pa_cons (pe_fld (pv 0) rfl) pa_nil)))), ?_⟩
  refine ⟨.ref p, rfl, p, C, dx, _, _, rfl, h1, X.cl, X.nL, frF_lows n d, d, lv, rfl, .inl (SqL.of h2), fun a ha => ?_⟩
  have e := same_upd (o := .lst lv) ha
  exact q _ a lv e ha upd_same (Da.sameAll e _ _ h3)
end
end K5

namespace K5
open PySem PySem.Spec PyProof.Rows L2
section
variable {P : Program} {w : World} {K : PySem.W.Frag} {mg : Str → Option Value} {base : Heap} {C : Addr}
theorem d_Front_fold (B : Bt mg) (X : TxF K C) (T : TopM K C "fold" "Front.fold" sFront_fold ["self", "moment"]) (Djoin_of : Def P w K mg base "join_of" 1 ["first", "second"] (spM K joinL)) (Dmeet_of : Def P w K mg base "meet_of" 1 ["first", "second"] (spM K meetL)) : MethD P w K mg base C "fold" 2 ["self", "moment"] (spFold K C) := by
  refine mk_meth T scFront_fold (by rintro _ _ _ _ ⟨_, _, _, _, _, rfl, _⟩; rfl) fun f cdv A outer s H vs Q E hr h => ?_
  obtain ⟨v, u, n, L, m, rfl, ⟨p, dx, d, lv, rfl, h1, h2, h3, hL, hL2⟩, hm, hom, hn1, hn, q⟩ := h
  refine ⟨_, (pss_cons (ps_if (pt_not (pt_truth (pe_fld (pv 0) rfl) (fun _ => rfl))) (pss_one (ps_ret (pe_op op_repA (pe_tup (pa_cons pe_int pa_nil)) (pe_fld (pv 0) rfl)))) pss_nil)
      (pss_cons (ps_set (i := 2) scFront_fold.nd rfl (Or.inl rfl) (pe_def Djoin_of (hr.mono (by decide)) (by rfl) (pa_cons (pv 1) (pa_cons (pe_ix ix_list (pe_fld (pv 0) rfl) pe_int (fun _ _ => rfl)) pa_nil))))
      (pss_cons (ps_for PassesOwn.never rfl (pi_list (pe_slice sl_list (pe_fld (pv 0) rfl) (po_some pe_int) po_none)) (pg_name (i := 3) scFront_fold.nd rfl (Or.inl rfl)) (pss_one (ps_set (i := 2) scFront_fold.nd rfl (Or.inl rfl) (pe_def Dmeet_of (hr.mono (by decide)) (by rfl) (pa_cons (pv 2) (pa_cons (pe_def Djoin_of (hr.mono (by decide)) (by rfl) (pa_cons (pv 1) (pa_cons (pv 3) pa_nil))) pa_nil))))))
      (pss_one (ps_ret (pv 2)))))), ?_⟩
  refine ⟨.ref p, rfl, p, C, dx, _, _, rfl, h1, X.cl, X.nL, frF_lows n d, ?_⟩
  cases L with
  | nil =>
    cases h3 with
    | nil =>
      refine ⟨false, .inl ⟨[], SqL.of h2, rfl⟩, iteT ?_⟩
      refine ⟨by show 1 ≤ sizeLine; decide, fun t ht => ⟨.ref p, rfl, p, C, dx, _, _, rfl, same_upd ht _ _ h1, X.cl, X.nA, frF_axes n d, ?_⟩⟩
      have e1 : Same H (upd H t (.tup [.int 0])) := same_upd ht
      have fz : foldL [] m = List.replicate n 0 := by
        show List.replicate m.length (0 : Int) = _
        rw [hom.1]
      by_cases h : n = 1
      · subst h
        refine .inl ⟨t, [.int 0], rfl, rfl, SqT.of upd_same, q _ _ e1 ?_⟩
        rw [fz]
        exact Mo.of (m := [0]) upd_same
      · refine .inr ⟨t, (n : Nat), [.int 0], rfl, rfl, SqT.of upd_same, by simp, by omega, by omega, by simp, fun a ha => q _ _ (e1.trans (same_upd ha)) ?_⟩
        rw [fz]
        refine Mo.of ?_
        rw [upd_same, Int.toNat_natCast, List.map_replicate]
        congr 2
        have : ∀ k : Nat, (List.replicate k [V.int 0]).flatten = List.replicate k (V.int 0) := by
          intro k
          induction k with
          | zero => rfl
          | succ k ih => rw [List.replicate_succ, List.flatten_cons, ih]; rfl
        exact this n
  | cons l ls =>
    cases h3 with
    | cons r0 rt =>
      rename_i v0 vs
      have hol := hL l List.mem_cons_self
      obtain ⟨b, rfl, hb⟩ := hm.inv
      obtain ⟨c, rfl, hc⟩ := Mo.inv r0
      refine ⟨true, .inl ⟨_, SqL.of h2, rfl⟩, iteF ?_⟩
      refine ⟨.ref b, rfl, .ref p, rfl, p, C, dx, _, _, rfl, h1, X.cl, X.nL, frF_lows n d, d, _, 0, .ref c, rfl, rfl, SqL.of h2, atI_nat (j := 0) rfl, b, c, m, l, rfl, hb, hc, by rw [hom.1, hol.1], by rw [hom.1]; omega, fun H1 y s1 ny ey => ?_⟩
      have hy : Mo K H1 (.ref y) (joinL m l) := Mo.of ey
      refine ⟨.ref p, rfl, p, C, dx, _, _, rfl, s1 _ _ h1, X.cl, X.nL, frF_lows n d, 1, rfl, d, _, rfl, SqL.of (s1 _ _ h2), fun z hz => ⟨z, rfl, ⟨_, SqL.of upd_same⟩, ?_⟩⟩
      have s2 : Same H (upd H1 z (.lst (cutV (V.ref c :: vs) (some 1) none))) := s1.trans (same_upd hz)
      have hcut : cutV (V.ref c :: vs) (some 1) none = vs := by
        unfold cutV
        simp [HT.sIx]
      rw [hcut] at s2 ⊢
      refine for_list (xs := vs) (fun i σ H' => ∃ y y3, σ = [some (.ref p), some (.ref b), some y, y3] ∧ Same H H' ∧ H' z = some (.lst vs) ∧ Mo K H' y ((ls.take i).foldl (stepL m) (joinL m l))) ⟨.ref y, none, rfl, s2, upd_same, hy.same (same_upd hz)⟩ (fun i σ H' _ pv' => ?_) (fun i x σ H' hx pv' => ?_) (fun σ H' pv' => ?_)
      · obtain ⟨_, _, rfl, _, ez, _⟩ := pv'
        exact SqL.of ez
      · obtain ⟨y, y3, rfl, e, ez, hy⟩ := pv'
        obtain ⟨dd, hd1, hd2⟩ := DaAll.get rt hx
        obtain ⟨l', hl', rfl⟩ := mo_at hd1
        have hol' := hL l' (List.mem_cons_of_mem _ (List.mem_of_getElem? hl'))
        have hok : Ok n ((ls.take i).foldl (stepL m) (joinL m l)) := foldl_ok hom (fun w hw => hL w (List.mem_cons_of_mem _ (List.mem_of_mem_take hw))) (hom.join hol)
        obtain ⟨g, rfl, hg⟩ := hy.inv
        obtain ⟨k, rfl, hk⟩ := (Mo.same hd2 e).inv
        refine ⟨.ref g, rfl, .ref b, rfl, .ref k, rfl, b, k, m, l', rfl, e.seqT hb, hk, by rw [hom.1, hol'.1], by rw [hom.1]; omega, fun H3 j s3 nj ej => ?_⟩
        refine ⟨g, j, _, _, rfl, s3.seqT hg, SqT.of ej, by rw [hok.1, (hom.join hol').1], by rw [hok.1]; omega, fun H5 j5 s5 nj5 ej5 => ?_⟩
        refine ⟨.ref j5, _, rfl, (e.trans s3).trans s5, s5 _ _ (s3 _ _ ez), Mo.of ?_⟩
        rw [ej5, List.take_add_one, hl']
        simp [stepL]
      · obtain ⟨y, y3, rfl, e, ez, hy⟩ := pv'
        have lv : vs.length = ls.length := by simpa using DaAll.length rt
        rw [lv, List.take_of_length_le (Nat.le_refl _)] at hy
        exact ⟨y, rfl, q H' y e hy⟩
theorem d_Front___init__ (B : Bt mg) (X : TxF K C) (T : TopM K C "__init__" "Front.__init__" sFront___init__ ["self", "axes", "moments"]) (Dcheck_axes : Def P w K mg base "check_axes" 2 ["axes"] spCheckAxes) (Dis_moment : Def P w K mg base "is_moment" 2 ["value", "axes"] (spIsMoment K)) (Dminimal : Def P w K mg base "minimal" 2 ["moments"] (spMinimal K)) : MethD P w K mg base C "__init__" 3 ["self", "axes", "moments"] (spInit K C) := by
  refine mk_meth T scFront___init__ (by rintro _ _ _ _ ⟨_, _, _, _, _, rfl, _⟩; rfl) fun f cdv A outer s H vs Q E hr h => ?_
  obtain ⟨p, dx, n, v, ms, rfl, h1, hn1, hn4, ⟨a, lv, rfl, ha, hd⟩, hok, hms, q⟩ := h
  refine ⟨_, (pss_cons (ps_expr (pe_def Dcheck_axes (hr.mono (by decide)) (by rfl) (pa_cons (pv 1) pa_nil)))
      (pss_cons (ps_set (i := 3) scFront___init__.nd rfl (Or.inl rfl) (pe_callTy call_list_of (by rfl) B.m_list (by decide +kernel) (pa_cons (pv 2) pa_nil)))
      (pss_cons (ps_for PassesOwn.never rfl (pi_list (pv 3)) (pg_name (i := 4) scFront___init__.nd rfl (Or.inl rfl)) (pss_one (ps_if (pt_not (pt_val (pe_def Dis_moment (hr.mono (by decide)) (by rfl) (pa_cons (pv 4) (pa_cons (pv 1) pa_nil))))) (pss_one ps_never) pss_nil)))
      (pss_cons (ps_fld (pv 0) (pv 1) rfl)
      (pss_one (ps_fld (pv 0) (pe_def Dminimal (hr.mono (by decide)) (by rfl) (pa_cons (pv 3) pa_nil)) rfl)))))), ?_⟩
  refine ⟨.int (n : Nat), rfl, (n : Nat), rfl, by omega, by omega, fun H1 s1 => ?_⟩
  refine ⟨.ref a, rfl, a, lv, rfl, .inl (SqL.of (s1 _ _ ha)), fun g hg => ?_⟩
  have s2 : Same H (upd H1 g (.lst lv)) := s1.trans (same_upd hg)
  have dg : DaAll K (upd H1 g (.lst lv)) lv (ms.map mo) := Da.sameAll s2 _ _ hd
  refine ⟨.ref g, rfl, g, rfl, ⟨_, SqL.of upd_same⟩, ?_⟩
  refine for_list (xs := lv) (fun i σ H' => ∃ y4, σ = [some (.ref p), some (.int (n : Nat)), some (.ref a), some (.ref g), y4] ∧ Same (upd H1 g (.lst lv)) H') ⟨none, rfl, Same.refl _⟩ (fun i σ H' _ pv' => ?_) (fun i x σ H' hx pv' => ?_) (fun σ H' pv' => ?_)
  · obtain ⟨_, rfl, e⟩ := pv'
    exact SqL.of (e _ _ upd_same)
  · obtain ⟨y4, rfl, e⟩ := pv'
    obtain ⟨dd, hd1, hd2⟩ := dg.get hx
    obtain ⟨m, hm, rfl⟩ := mo_at hd1
    have hom := hok m (List.mem_of_getElem? hm)
    refine ⟨x, rfl, .int (n : Nat), rfl, x, m, (by rw [hom.1]; rfl), Mo.same hd2 e, hom.pos, by rw [hom.1]; omega, fun H2 s2 => ⟨true, rfl, iteF ⟨_, rfl, e.trans s2⟩⟩⟩
  · obtain ⟨y4, rfl, e⟩ := pv'
    have s3 := s2.trans e
    refine ⟨.int (n : Nat), rfl, .ref p, rfl, p, C, dx, [], rfl, s3 _ _ h1, X.cl, X.nA, (by decide), ?_⟩
    have eg : H' g = some (.lst lv) := e _ _ upd_same
    have ngp : g ≠ p := fun z => by
      subst z
      rw [s3 _ _ h1] at eg
      cases eg
    have st : ST K H' (upd H' p (.ins C dx (putF "axes" (.int (n : Nat)) []))) := st_upd (s3 _ _ h1) True.intro
    refine ⟨.ref g, rfl, .ref g, n, ms, rfl, ⟨g, lv, rfl, (by rw [upd_ne ngp]; exact eg), Da.stAll (e.st.trans st) _ _ (imm_mos _) dg⟩, hok, hn1, by omega, hms, fun H4 d4 lv4 L s4 n4 e4 dd4 il => ?_⟩
    have ep : H4 p = some (.ins C dx (putF "axes" (.int (n : Nat)) [])) := s4 _ _ upd_same
    refine ⟨.ref p, rfl, p, C, dx, _, rfl, ep, X.cl, X.nL, (by show 1 < 1000; decide), ?_⟩
    have nd4 : d4 ≠ p := fun z => by
      subst z
      rw [upd_same] at n4
      cases n4
    have st4 : ST K H4 (upd H4 p (.ins C dx (frF n d4))) := st_upd ep True.intro
    have hlen : L.length ≤ 100 := by
      have h1 : L.Nodup := il.asc.imp fun h e => by subst e; omega
      have h2 := TS_len h1 (fun f hf => ((il.mem f).mp hf).1)
      omega
    have hkeep : ∀ b o, b ≠ p → H b = some o → upd H4 p (.ins C dx (frF n d4)) b = some o := fun b o hb ho => by
      rw [upd_ne hb]
      exact s4 _ _ (by rw [upd_ne hb]; exact s3 _ _ ho)
    have hdd := Da.stAll st4 _ _ (imm_mos _) dd4
    refine q _ L hkeep ⟨p, dx, d4, lv4, rfl, upd_same, (by rw [upd_ne nd4]; exact e4), hdd, fun l hl => hok l ((il.mem l).mp hl).1, hlen⟩ (fun q0 l l' hq => ?_) il
    have nqp : q0 ≠ p := fun z => by
      subst z
      rw [h1] at hq
      cases hq
    have nqd : d4 ≠ q0 := fun z => by
      subst z
      rw [upd_ne nqp, s3 _ _ hq] at n4
      cases n4
    have hq4 := hkeep _ _ nqp hq
    refine ⟨p, dx, d4, lv4, rfl, (by rw [upd_ne nqp.symm, upd_same]; rfl), by rw [upd_ne nqd, upd_ne nd4]; exact e4, Da.stAll (st_upd hq4 True.intro) _ _ (imm_mos _) hdd, fun l hl => hok l ((il.mem l).mp hl).1, hlen⟩
end
end K5

namespace K5
open PySem PySem.Spec PyProof.Rows L2
theorem PotAt.there {H : Hp} {p : Addr} (h : PotAt H p) : ∃ o, H p = some o := let ⟨_, _, _, e, _⟩ := h; ⟨_, e⟩
theorem PotAt.same {H H' : Hp} {p : Addr} (h : PotAt H p) (e : Same H H') : PotAt H' p := let ⟨a, b, c, e1, r⟩ := h; ⟨a, b, c, e _ _ e1, r⟩
theorem PotAt.ne {H : Hp} {p q : Addr} (h : PotAt H p) (n : H q = none) : p ≠ q := let ⟨_, _, _, e, _⟩ := h; ne_of_none e n
theorem PotAt.upd {H : Hp} {p q : Addr} {o : HO} (h : PotAt H p) (n : p ≠ q) : PotAt (L2.upd H q o) p := let ⟨a, b, c, e1, r⟩ := h; ⟨a, b, c, by rw [upd_ne n]; exact e1, r⟩
section
variable {P : Program} {w : World} {K : PySem.W.Frag} {mg : Str → Option Value} {base : Heap}
def GH : Int := 1000000000000000000000000000000000000000
def spLevels (K : PySem.W.Frag) : Sp := fun vs H Q _ => ∃ (p : Addr) (n : Nat), vs = [.ref p, .int (n : Nat)] ∧ PotAt H p ∧ 1 ≤ n ∧ n ≤ 10 ∧
  ∀ H' a (r : List Int), SameB p H H' → PotAt H' p → H a = none → H' a = some (.lst (r.map V.int)) → r.length = n → TS.Bd GH r → Q (.ref a) H'
def GG : Int := 10000000000000000000000000000000
theorem d_law_levels (B : Bt mg) (T : Top K mg "_law_levels" s_law_levels ["pot", "many"]) (D_law_draw : Def P w K mg base "_law_draw" 1 ["pot", "size"] (spDraw K)) (D_law_great : Def P w K mg base "_law_great" 2 ["pot"] (spGreat K)) : Def P w K mg base "_law_levels" 3 ["pot", "many"] (spLevels K) := by
  refine mk_def T sc_law_levels (by rintro _ _ _ _ ⟨_, _, rfl, _⟩; rfl) fun f cdv A outer s H vs Q E hr h => ?_
  obtain ⟨p, n, rfl, pt, h1, h10, q⟩ := h
  refine ⟨_, (pss_cons (ps_set (i := 2) sc_law_levels.nd rfl (Or.inl rfl) (pe_lst (pa_cons (pe_op op_fdivW (pe_def D_law_draw (hr.mono (by decide)) (by rfl) (pa_cons (pv 0) (pa_cons pe_int pa_nil))) pe_int) pa_nil)))
      (pss_cons (ps_for PassesOwn.never rfl (pi_range1 (by rfl) B.m_range (pa_cons (pe_op op_sub (pv 1) pe_int) pa_nil)) (pg_name (i := 3) sc_law_levels.nd rfl (Or.inl rfl)) (pss_cons (ps_set (i := 4) sc_law_levels.nd rfl (Or.inl rfl) pe_int)
      (pss_cons (ps_set (i := 5) sc_law_levels.nd rfl (Or.inl rfl) (pe_def D_law_draw (hr.mono (by decide)) (by rfl) (pa_cons (pv 0) (pa_cons pe_int pa_nil))))
      (Evl.pss_cut (ps_if (pt_cmpR op_eq (pv 5) pe_int (nomark _)) (pss_one (ps_set (i := 4) sc_law_levels.nd rfl (Or.inl rfl) (pe_op op_add pe_int (pe_def D_law_draw (hr.mono (by decide)) (by rfl) (pa_cons (pv 0) (pa_cons pe_int pa_nil)))))) pss_nil)
      (Evl.pss_cut (ps_if (pt_cmpR op_eq (pv 5) pe_int (nomark _)) (pss_one (ps_set (i := 4) sc_law_levels.nd rfl (Or.inl rfl) (pe_op op_add pe_int (pe_def D_law_great (hr.mono (by decide)) (by rfl) (pa_cons (pv 0) pa_nil))))) pss_nil)
      (pss_one (ps_expr (pe_bm PySem.F.plainAttrs_list PySem.F.slot_list_append PySem.F.type_list_append mt_append (pv 2) (pa_cons (pe_op op_add (pe_ix ix_list (pv 2) (pe_un un_neg pe_int) (fun _ _ => rfl)) (pv 4)) pa_nil)))))))))
      (pss_one (ps_ret (pv 2))))), ?_⟩
  refine ⟨.ref p, rfl, p, 3, rfl, pt, by decide, by decide, fun H1 r s1 p1 r0 r1 => ⟨_, _, rfl, rfl, ⟨by decide, by decide⟩, by show 1 ≤ sizeLine; decide, fun L hL => ?_⟩⟩
  have nL : H L = none := s1.fresh pt.there hL p1.there
  have npL : p ≠ L := p1.ne hL
  refine ⟨.int (n : Nat), rfl, _, _, rfl, rfl, (n : Int) - 1, rfl, by omega, by omega, ?_⟩
  refine for_range (lo := 0) (n := ((n : Int) - 1).toNat) (fun i σ H' => ∃ (y3 y4 y5 : Option V) (ms : List Int) (last : Int), σ = [some (.ref p), some (.int (n : Nat)), some (.ref L), y3, y4, y5] ∧ SameB p H H' ∧ PotAt H' p ∧ H' L = some (.lst ((ms ++ [last]).map V.int)) ∧ ms.length = i ∧ ∀ x ∈ ms ++ [last], 0 ≤ x ∧ x ≤ ((i : Int) + 1) * GG)
    ⟨none, none, none, [], r / 2, rfl, s1.trans (Same.b (same_upd hL)), p1.upd npL, upd_same, rfl, fun x hx => ?_⟩ (fun i σ H' hi pv' => ?_) (fun σ H' pv' => ?_)
  · have := List.mem_singleton.mp hx
    subst this
    have : (1 : Int) ≤ (0 + 1) * GG := by decide
    constructor
    · omega
    · have e : ((0 : Nat) : Int) = 0 := rfl
      rw [e]
      omega
  · obtain ⟨y3, y4, y5, ms, last, rfl, e, pt1, eL, hl, hms⟩ := pv'
    refine ⟨.ref p, rfl, p, 7, rfl, pt1, by decide, by decide, fun H2 wd s2 p2 w0 w1 => ?_⟩
    have eL2 := s2 _ _ npL.symm eL
    refine ⟨fun σ' H3 => ∃ g : Int, σ' = [some (.ref p), some (.int (n : Nat)), some (.ref L), some (.int (0 + (i : Nat))), some (.int g), some (.int wd)] ∧ SameB p H H3 ∧ PotAt H3 p ∧ H3 L = some (.lst ((ms ++ [last]).map V.int)) ∧ 0 ≤ g ∧ g ≤ GG, ?_, ?_⟩
    · refine ⟨.int wd, rfl, rfl, _, rfl, ite2 (fun z => ⟨.ref p, rfl, p, 9, rfl, p2, by decide, by decide, fun H3 g s3 p3 g0 g1 => ⟨_, _, rfl, rfl, _, rfl, (e.trans s2).trans s3, p3, s3 _ _ npL.symm eL2, by omega, ?_⟩⟩) (fun z => ⟨1, rfl, e.trans s2, p2, eL2, by decide, by decide⟩)⟩
      have : (11 : Int) ≤ GG := by decide
      omega
    · rintro σ' H3 ⟨g, rfl, e3, p3, eL3, g0, g1⟩
      refine ⟨fun σ' H4 => ∃ g : Int, σ' = [some (.ref p), some (.int (n : Nat)), some (.ref L), some (.int (0 + (i : Nat))), some (.int g), some (.int wd)] ∧ SameB p H H4 ∧ PotAt H4 p ∧ H4 L = some (.lst ((ms ++ [last]).map V.int)) ∧ 0 ≤ g ∧ g ≤ GG, ?_, ?_⟩
      · refine ⟨.int wd, rfl, rfl, _, rfl, ite2 (fun z => ⟨.ref p, rfl, p, rfl, p3, fun H4 g' s4 p4 g0' g1' => ⟨_, _, rfl, rfl, _, rfl, e3.trans s4, p4, s4 _ _ npL.symm eL3, by omega, ?_⟩⟩) (fun z => ⟨g, rfl, e3, p3, eL3, g0, g1⟩)⟩
        have : (1000000000000000000000000000000 : Int) + 1 ≤ GG := by decide
        omega
      · rintro σ' H4 ⟨g, rfl, e4, p4, eL4, g0, g1⟩
        refine ⟨.ref L, rfl, .inl ⟨rfl, _, SqL.of eL4⟩, .ref L, rfl, _, rfl, L, _, _, .int last, rfl, rfl, SqL.of eL4, ?_, .int g, rfl, _, _, rfl, rfl, L, _, _, rfl, rfl, eL4, ?_, ?_⟩
        · rw [List.map_append]
          exact atI_last _ _
        · exact Nat.lt_of_le_of_lt (show ((ms ++ [last]).map V.int).length ≤ 11 by simp; omega) (by decide)
        · refine ⟨_, _, _, ms ++ [last], last + g, rfl, e4.mut nL, p4.upd npL, ?_, by simp [hl], fun x hx => ?_⟩
          · rw [upd_same, List.map_append (l₁ := ms ++ [last])]
            rfl
          · have hlast := hms last (by simp)
            have hst : (((i + 1 : Nat) : Int) + 1) * GG = ((i : Int) + 1) * GG + GG := by
              rw [show (((i + 1 : Nat) : Int) + 1) = ((i : Int) + 1) + 1 by omega, Int.add_mul ((i : Int) + 1) 1 GG, Int.one_mul]
            rw [hst]
            rcases List.mem_append.mp hx with hx | hx
            · have := hms x hx
              omega
            · rw [List.mem_singleton.mp hx]
              omega
  · obtain ⟨y3, y4, y5, ms, last, rfl, e, pt1, eL, hl, hms⟩ := pv'
    refine ⟨.ref L, rfl, q H' L (ms ++ [last]) e pt1 nL eL (by simp; omega) fun x hx => ?_⟩
    have h := hms x hx
    refine ⟨h.1, ?_⟩
    have h2 : (((((n : Int) - 1).toNat : Nat) : Int) + 1) * GG ≤ 10 * GG := Int.mul_le_mul_of_nonneg_right (by omega) (by decide)
    have h3 : 10 * GG < GH := by decide
    omega
end
end K5

namespace K5
open PySem PySem.Spec PyProof.Rows L2
theorem can_ints : ∀ ns : List Int, PyData.canLayAll0 (ns.map PyData.int) = true
  | [] => rfl
  | n :: ns => can_ints ns
theorem depth_ints : ∀ ns : List Int, PyData.depthAll (ns.map PyData.int) = 0
  | [] => rfl
  | n :: ns => by
    show max 0 (PyData.depthAll (ns.map PyData.int)) = 0
    rw [depth_ints ns]
    rfl
theorem shaped_mo (m : List Int) : SeqAt.shaped (mo m) = true := by
  unfold SeqAt.shaped
  rw [show PyData.canLay0 (mo m) = true from can_ints m, Bool.true_and]
  refine decide_eq_true ?_
  show PyData.depthAll (m.map PyData.int) + 1 ≤ 64
  rw [depth_ints]
  decide
theorem can_mos : ∀ ms : List (List Int), PyData.canLayAll0 (ms.map mo) = true
  | [] => rfl
  | m :: ms => by
    show (PyData.canLay0 (mo m) && PyData.canLayAll0 (ms.map mo)) = true
    rw [show PyData.canLay0 (mo m) = true from can_ints m, can_mos ms]
    rfl
theorem depth_mos : ∀ ms : List (List Int), PyData.depthAll (ms.map mo) ≤ 1
  | [] => Nat.zero_le _
  | m :: ms => by
    show max (PyData.depthAll (m.map PyData.int) + 1) (PyData.depthAll (ms.map mo)) ≤ 1
    rw [depth_ints]
    exact Nat.max_le.mpr ⟨Nat.le_refl _, depth_mos ms⟩
theorem shaped_mos (ms : List (List Int)) : SeqAt.shaped (.list (ms.map mo)) = true := by
  unfold SeqAt.shaped
  rw [show PyData.canLay0 (.list (ms.map mo)) = true from can_mos ms, Bool.true_and]
  refine decide_eq_true ?_
  show PyData.depthAll (ms.map mo) + 1 ≤ 64
  have := depth_mos ms
  omega
theorem eqvAll_ints : ∀ ns ms : List Int, PyData.eqvAll (ns.map PyData.int) (ms.map PyData.int) = decide (ns = ms)
  | [], [] => rfl
  | [], _ :: _ => rfl
  | _ :: _, [] => rfl
  | n :: ns, m :: ms => by
    show ((n == m) && PyData.eqvAll (ns.map PyData.int) (ms.map PyData.int)) = _
    rw [eqvAll_ints ns ms, Bool.eq_iff_iff]
    simp
theorem eqv_mo (a b : List Int) : PyData.eqv (mo a) (mo b) = decide (a = b) := eqvAll_ints a b
theorem eqvAll_mos : ∀ as bs : List (List Int), PyData.eqvAll (as.map mo) (bs.map mo) = decide (as = bs)
  | [], [] => rfl
  | [], _ :: _ => rfl
  | _ :: _, [] => rfl
  | n :: ns, m :: ms => by
    show (PyData.eqv (mo n) (mo m) && PyData.eqvAll (ns.map mo) (ms.map mo)) = _
    rw [eqvAll_mos ns ms, eqv_mo, Bool.eq_iff_iff]
    simp
theorem eqv_mos (a b : List (List Int)) : PyData.eqv (.list (a.map mo)) (.list (b.map mo)) = decide (a = b) := eqvAll_mos a b
theorem MoL.da {K : PySem.W.Frag} {H : Hp} {v : V} {ms : List (List Int)} (h : MoL K H v ms) : Da K H v (.list (ms.map mo)) := by
  obtain ⟨a, lv, rfl, h1, h2⟩ := h
  exact .lst (SqL.of h1) h2
theorem SameB.potst {K : PySem.W.Frag} {H H' : Hp} {p : Addr} (e : SameB p H H') (pt : PotAt H p) : ST K H H' := by
  obtain ⟨a, b, c, e1, _⟩ := pt
  exact SameB.st e e1 True.intro
theorem MoL.sameB {K : PySem.W.Frag} {H H' : Hp} {v : V} {ms : List (List Int)} {p : Addr} (h : MoL K H v ms) (e : SameB p H H') (pt : PotAt H p) : MoL K H' v ms := by
  obtain ⟨a, lv, rfl, h1, h2⟩ := h
  have st : ST K H H' := SameB.potst e pt
  refine ⟨a, lv, rfl, e _ _ (fun z => ?_) h1, Da.stAll st _ _ (imm_mos _) h2⟩
  subst z
  obtain ⟨x, y, z, e1, _⟩ := pt
  rw [h1] at e1
  cases e1
  cases ms with
  | nil => cases h2
  | cons m ms =>
    cases h2 with
    | cons r _ => cases r
theorem Mo.sameB {K : PySem.W.Frag} {H H' : Hp} {v : V} {m : List Int} {p : Addr} (h : Mo K H v m) (e : SameB p H H') (pt : PotAt H p) : Mo K H' v m := Mo.st h (SameB.potst e pt)
/-- small moments -/
def Sm (n : Nat) (m : List Int) : Prop := m.length = n ∧ TS.Bd GH m
theorem Sm.ok {n : Nat} {m : List Int} (h : Sm n m) : Ok n m := ⟨h.1, fun c hc => ⟨(h.2 c hc).1, Int.lt_trans (h.2 c hc).2 (by decide)⟩⟩
theorem perm_das {K : PySem.W.Frag} {H : Hp} {ys lv : List V} (h : ys.Perm lv) : ∀ ms : List (List Int), DaAll K H lv (ms.map mo) → ∃ T : List (List Int), T.Perm ms ∧ DaAll K H ys (T.map mo) := by
  induction h with
  | nil => exact fun ms h => ⟨ms, .refl _, h⟩
  | cons x _ ih =>
    intro ms h
    cases ms with
    | nil => cases h
    | cons m ms =>
      cases h with
      | cons r t =>
        obtain ⟨T, h1, h2⟩ := ih ms t
        exact ⟨m :: T, h1.cons m, .cons r h2⟩
  | swap x y l =>
    intro ms h
    match ms, h with
    | m1 :: m2 :: ms, .cons r1 (.cons r2 t) => exact ⟨m2 :: m1 :: ms, .swap _ _ _, .cons r2 (.cons r1 t)⟩
  | trans _ _ ih1 ih2 =>
    intro ms h
    obtain ⟨T2, h1, h2⟩ := ih2 ms h
    obtain ⟨T1, h3, h4⟩ := ih1 T2 h2
    exact ⟨T1, h3.trans h1, h4⟩
theorem tupI_mo {K : PySem.W.Frag} {H : Hp} {v : V} {m : List Int} (h : Mo K H v m) : TupI K H v m := Mo.inv h
theorem das_asc {K : PySem.W.Frag} {H : Hp} {B : Int} : ∀ {ys : List V} {T : List (List Int)}, DaAll K H ys (T.map mo) → ys.Pairwise (fun x y => ∀ n m, TupI K H x n → TupI K H y m → TS.code B n ≤ TS.code B m) → T.Pairwise fun x y => TS.code B x ≤ TS.code B y
  | _, [], .nil, _ => .nil
  | _, t :: ts, .cons r rs, h => by
    have h' := List.pairwise_cons.mp h
    refine List.pairwise_cons.mpr ⟨fun m hm => ?_, das_asc rs h'.2⟩
    obtain ⟨j, hj⟩ := List.mem_iff_getElem?.mp hm
    obtain ⟨v, hv1, hv2⟩ := DaAll.at (d := mo m) rs (by rw [List.getElem?_map, hj]; rfl)
    exact h'.1 v (List.mem_of_getElem? hv1) _ _ (tupI_mo r) (tupI_mo hv2)
theorem asc_at {S : List (List Int)} {n : Nat} (h : S.Pairwise fun x y => TS.code BB x ≤ TS.code BB y) (ho : ∀ x ∈ S, Ok n x) {i : Nat} {x : List Int} (hx : S[i]? = some x) : ∀ y ∈ S.take i, Ok n y ∧ TS.code BB y ≤ TS.code BB x := by
  intro y hy
  obtain ⟨j, hj⟩ := List.mem_iff_getElem?.mp hy
  rw [List.getElem?_take] at hj
  split at hj
  · rename_i hji
    have hy' : y ∈ S := List.mem_of_getElem? hj
    refine ⟨ho y hy', ?_⟩
    obtain ⟨l1, e1⟩ := List.getElem?_eq_some_iff.mp hj
    obtain ⟨l2, e2⟩ := List.getElem?_eq_some_iff.mp hx
    have hc := List.pairwise_iff_getElem.mp h j i l1 l2 hji
    rw [e1, e2] at hc
    exact hc
  · cases hj
def spLeast (K : PySem.W.Frag) : Sp := fun vs H Q _ => ∃ (v : V) (n : Nat) (ms : List (List Int)), vs = [v] ∧ MoL K H v ms ∧ (∀ m ∈ ms, Ok n m) ∧ 1 ≤ n ∧ n ≤ 1000 ∧ ms.length ≤ 60 ∧
  ∀ H' d L, Same H H' → H d = none → MoL K H' (.ref d) L → IsL ms L → Q (.ref d) H'
section
variable {P : Program} {w : World} {K : PySem.W.Frag} {mg : Str → Option Value} {base : Heap}
theorem d_law_least (B : Bt mg) (T : Top K mg "_law_least" s_law_least ["given"]) (D_law_before : Def P w K mg base "_law_before" 1 ["one", "mate"] (spB K leB)) : Def P w K mg base "_law_least" 2 ["given"] (spLeast K) := by
  refine mk_def T sc_law_least (by rintro _ _ _ _ ⟨_, _, _, rfl, _⟩; rfl) fun f cdv A outer s H vs Q E hr h => ?_
  obtain ⟨v, n, ms, rfl, ⟨a, lv, rfl, ha, hd⟩, hok, hn1, hn, hms, q⟩ := h
  refine ⟨_, (pss_cons (ps_set (i := 1) sc_law_least.nd rfl (Or.inl rfl) (pe_lst pa_nil))
      (pss_cons (ps_for PassesOwn.never rfl (pi_list (pe_callB cr_sortM (by rfl) B.m_sorted (by decide +kernel) (pa_cons (pv 0) pa_nil))) (pg_name (i := 2) sc_law_least.nd rfl (Or.inr rfl)) (pss_one (ps_if (pw_and (pt_cmpR (op_notInD (hu65 hr)) (pv 2) (pv 1) rfl) (pw_and1 (pt_not (pt_val (pe_callB (cr_any rfl) (by rfl) B.m_any (by decide +kernel) (pa_cons (pe_lc (own := [("mate", 3)]) (g := (gName 3)) (tt := tYes) (te := (tAndV (tOp (rNeD K) (tVar 3) (tVar 2)) (tCall (spB K leB) [] E0 (tCons (tVar 3) (tCons (tVar 2) tNil))))) rfl sc_law_least.nd (pi_list (pv 0)) (blkOk_by (own := [("mate", 3)]) (N := N_law_least) (sc := defScope s_law_least) (by decide +kernel)) (fun _ _ _ _ _ => (pg_name (i := 3) sc_law_least.nd rfl (Or.inl rfl))) (fun _ _ _ _ _ => pts_nil) (fun _ _ _ _ _ => (pe_and (pe_cmpR (op_neD (hu64 hr)) (pv 3) (pv 2) (nomark _)) (pe_one (pe_def D_law_before (hr.mono (by decide)) (by rfl) (pa_cons (pv 3) (pa_cons (pv 2) pa_nil))))))) pa_nil)))))).pt (pss_one (ps_expr (pe_bm PySem.F.plainAttrs_list PySem.F.slot_list_append PySem.F.type_list_append mt_append (pv 1) (pa_cons (pv 2) pa_nil)))) pss_nil)))
      (pss_one (ps_ret (pv 1))))), ?_⟩
  refine ⟨Nat.zero_le _, fun Fd hFd => ?_⟩
  have s0 : Same H (upd H Fd (.lst [])) := same_upd hFd
  have lms : lv.length = ms.length := by simpa using hd.length
  have hd0 := Da.sameAll s0 _ _ hd
  refine ⟨.ref a, rfl, n, BB, hn1, a, lv, rfl, SqL.of (s0 _ _ ha), by omega, fun x hx => ?_, fun ys p hperm hpw hp => ?_⟩
  · obtain ⟨j, hj⟩ := List.mem_iff_getElem?.mp hx
    obtain ⟨dd, h1, h2⟩ := hd0.get hj
    obtain ⟨m, hm, rfl⟩ := mo_at h1
    have := hok m (List.mem_of_getElem? hm)
    exact ⟨m, tupI_mo h2, this.1, this.2⟩
  obtain ⟨S, hS, dS⟩ := perm_das hperm ms hd0
  have hpwS := das_asc dS hpw
  have hokS : ∀ x ∈ S, Ok n x := fun x hx => hok x (hS.mem_iff.mp hx)
  have s1 : Same H (upd (upd H Fd (.lst [])) p (.lst ys)) := s0.trans (same_upd hp)
  have nFp : Fd ≠ p := ne_of_none (o := .lst []) upd_same hp
  have dS1 : DaAll K (upd (upd H Fd (.lst [])) p (.lst ys)) ys (S.map mo) := Da.sameAll (same_upd hp) _ _ dS
  have lys : ys.length = S.length := by simpa using dS.length
  refine ⟨p, rfl, ⟨_, SqL.of upd_same⟩, ?_⟩
  refine for_list (xs := ys) (fun i σ H' => ∃ y2 y3 fv F, σ = [some (.ref a), some (.ref Fd), y2, y3] ∧ Same H H' ∧ DaAll K H' ys (S.map mo) ∧ H' p = some (.lst ys) ∧ H' Fd = some (.lst fv) ∧ DaAll K H' fv (F.map mo) ∧ LF ms (S.take i) F)
    ⟨none, none, [], [], rfl, s1, dS1, upd_same, by rw [upd_ne nFp, upd_same], .nil, LF.nil⟩ (fun i σ H' _ pv' => ?_) (fun i x σ H' hx pv' => ?_) (fun σ H' pv' => ?_)
  · obtain ⟨_, _, _, _, rfl, _, _, ep, _⟩ := pv'
    exact SqL.of ep
  · obtain ⟨y2, y3, fv, F, rfl, e, dY, ep, eF, dF, lf⟩ := pv'
    obtain ⟨dd, hd1, hd2⟩ := dY.get hx
    obtain ⟨m, hm, rfl⟩ := mo_at hd1
    have hom := hokS m (List.mem_of_getElem? hm)
    have htk : S.take (i + 1) = S.take i ++ [m] := by rw [List.take_add_one, hm]; rfl
    have lF : fv.length = F.length := by simpa using dF.length
    have hF : F.length ≤ 60 := by
      have h1 : F.Nodup := lf.asc.imp fun h e => by subst e; omega
      have h2 := TS_len h1 (fun f hf => hS.mem_iff.mp (List.mem_of_mem_take ((lf.mem f).mp hf).1))
      omega
    have dms := Da.sameAll e _ _ hd
    refine ⟨x, rfl, .ref Fd, rfl, mo m, F.map mo, Da.dp _ _ hd2, Da.dp _ _ (.lst (SqL.of eF) dF), shaped_mo _, shaped_mos _, _, rfl, ?_⟩
    have hin : ((F.map mo).any fun z => PyData.eqv z (mo m)) = decide (m ∈ F) := by
      rw [Bool.eq_iff_iff, List.any_eq_true, decide_eq_true_iff]
      constructor
      · rintro ⟨z, hz, h⟩
        obtain ⟨l, hl, rfl⟩ := List.mem_map.mp hz
        rw [eqv_mo] at h
        rw [← of_decide_eq_true h]
        exact hl
      · exact fun h => ⟨mo m, List.mem_map.mpr ⟨m, h, rfl⟩, by rw [eqv_mo]; exact decide_eq_true rfl⟩
    rw [hin]
    refine ite2 (fun zz => ?_) (fun zz => ?_)
    · have hnot : m ∉ F := by simpa using zz
      obtain ⟨b, rfl, hb⟩ := Mo.inv hd2
      refine ⟨.ref a, rfl, a, rfl, ⟨_, SqL.of (e _ _ ha)⟩, fun D hD => ?_⟩
      refine lc_val (walk_list (K := K)) hD (by omega) (fun H1 e1 => SqL.of (e1 _ _ (e _ _ ha))) ((ms.map fun y => decide (y ≠ m) && leB y m).map V.bl) (by simp [lms]) (fun j y H1 H2 Q' hj e1 y1 k => ?_) (fun H1 e1 eD => ?_)
      · obtain ⟨rfl, hy⟩ := y1
        obtain ⟨dd, hd1', hd2'⟩ := dms.get hy
        obtain ⟨l, hl, rfl⟩ := mo_at hd1'
        have hol := hok l (List.mem_of_getElem? hl)
        have hy2 := Mo.same hd2' e1
        obtain ⟨c, rfl, hc⟩ := Mo.inv hy2
        refine ⟨rfl, .ref c, rfl, .ref b, rfl, mo l, mo m, Da.dp _ _ hy2, Da.dp _ _ (Mo.same hd2 e1), shaped_mo _, shaped_mo _, _, rfl, ?_⟩
        rw [eqv_mo]
        refine ite2 (fun z2 => ?_) (fun z2 => ?_)
        · have hne : l ≠ m := by simpa using z2
          refine ⟨.ref c, rfl, .ref b, rfl, c, b, l, m, rfl, hc, e1.seqT hb, by rw [hol.1, hom.1], by rw [hol.1]; exact hn, fun H3 e3 => k _ _ e3 ?_⟩
          simp [hl, hne]
        · have heq : l = m := by simpa using z2
          refine k _ _ (Same.refl _) ?_
          simp [hl, heq]
      · refine ⟨D, ms.map fun y => decide (y ≠ m) && leB y m, rfl, SqL.of eD, _, rfl, ?_⟩
        have hun : (ms.map fun y => decide (y ≠ m) && leB y m).any id = under ms m := by
          unfold under
          rw [List.any_map]
          rfl
        rw [hun]
        refine ite2 (fun z2 => ?_) (fun z2 => ?_)
        · have hu : under ms m = false := by simpa using z2
          have eF1 := e1 _ _ eF
          have st : ST K H1 (upd H1 Fd (.lst (fv ++ [.ref b]))) := st_upd eF1 True.intro
          refine ⟨.ref Fd, rfl, .inl ⟨rfl, _, SqL.of eF1⟩, .ref b, rfl, Fd, _, _, rfl, rfl, eF1, by rw [lF]; exact Nat.lt_of_le_of_lt hF (by decide), ?_⟩
          refine ⟨_, _, fv ++ [.ref b], F ++ [m], rfl, (e.trans e1).mut hFd, Da.stAll (e1.st.trans st) _ _ (imm_mos _) dY, ?_, upd_same, ?_, ?_⟩
          · rw [upd_ne nFp.symm]
            exact e1 _ _ ep
          · rw [List.map_append]
            exact DaAll.snoc (Da.st (e1.st.trans st) _ _ (imm_mo _) hd2) (Da.stAll (e1.st.trans st) _ _ (imm_mos _) dF)
          · rw [htk]
            exact lf.add (asc_at hpwS hokS hm) hom hnot hu
        · have hu : under ms m = true := by simpa using z2
          refine ⟨_, _, fv, F, rfl, e.trans e1, Da.sameAll e1 _ _ dY, e1 _ _ ep, e1 _ _ eF, Da.sameAll e1 _ _ dF, ?_⟩
          rw [htk]
          exact lf.skip (.inr hu)
    · have hinF : m ∈ F := by simpa using zz
      refine iteF ⟨_, _, fv, F, rfl, e, dY, ep, eF, dF, ?_⟩
      rw [htk]
      exact lf.skip (.inl hinF)
  · obtain ⟨y2, y3, fv, F, rfl, e, dY, ep, eF, dF, lf⟩ := pv'
    rw [lys, List.take_of_length_le (Nat.le_refl _)] at lf
    exact ⟨.ref Fd, rfl, q H' Fd F e hFd ⟨Fd, fv, rfl, eF, dF⟩ (lf.done fun y => hS.mem_iff)⟩
end
end K5

namespace K5
open PySem PySem.Spec PyProof.Rows L2
def spIsOpen (K : PySem.W.Frag) : Sp := fun vs H Q _ => ∃ (v u : V) (n : Nat) (L : List (List Int)) (m : List Int), vs = [v, u] ∧ MoL K H v L ∧ Mo K H u m ∧ (∀ l ∈ L, Ok n l) ∧ Ok n m ∧ n ≤ 1000 ∧ L.length ≤ 100 ∧ ∀ H', Same H H' → Q (.bl (L.any fun l => leB l m)) H'
def spLFold (K : PySem.W.Frag) : Sp := fun vs H Q _ => ∃ (v u : V) (n : Nat) (L : List (List Int)) (m : List Int), vs = [v, u] ∧ MoL K H v L ∧ Mo K H u m ∧ (∀ l ∈ L, Ok n l) ∧ Ok n m ∧ 1 ≤ n ∧ n ≤ 1000 ∧ ∀ H' y, Same H H' → Mo K H' y (foldL L m) → Q y H'
def spSpot (K : PySem.W.Frag) : Sp := fun vs H Q _ => ∃ (p : Addr) (v : V) (n : Nat) (g : List (List Int)), vs = [.ref p, v, .int (n : Nat)] ∧ PotAt H p ∧ MoL K H v g ∧ (∀ m ∈ g, Sm n m) ∧ g ≠ [] ∧ g.length ≤ 10000 ∧ n ≤ 4 ∧
  ∀ H' y m, SameB p H H' → PotAt H' p → Mo K H' y m → Sm n m → Q y H'
def spMoved (K : PySem.W.Frag) : Sp := fun vs H Q _ => ∃ (p : Addr) (v : V) (n : Nat) (m : List Int), vs = [.ref p, v] ∧ PotAt H p ∧ Mo K H v m ∧ Sm n m ∧ n ≤ 4 ∧
  ∀ H' y m', SameB p H H' → PotAt H' p → Mo K H' y m' → Ok n m' → Q y H'
section
variable {P : Program} {w : World} {K : PySem.W.Frag} {mg : Str → Option Value} {base : Heap}
theorem d_law_is_open (B : Bt mg) (T : Top K mg "_law_is_open" s_law_is_open ["least", "one"]) (D_law_before : Def P w K mg base "_law_before" 1 ["one", "mate"] (spB K leB)) : Def P w K mg base "_law_is_open" 2 ["least", "one"] (spIsOpen K) := by
  refine mk_def T sc_law_is_open (by rintro _ _ _ _ ⟨_, _, _, _, _, rfl, _⟩; rfl) fun f cdv A outer s H vs Q E hr h => ?_
  obtain ⟨v, u, n, L, m, rfl, ⟨a, lv, rfl, ha, hd⟩, hm, hL, hom, hn, hl, q⟩ := h
  refine ⟨_, (pss_one (ps_ret (pe_callB (cr_any rfl) (by rfl) B.m_any (by decide +kernel) (pa_cons (pe_lc (own := [("low", 2)]) (g := (gName 2)) (tt := tYes) (te := (tCall (spB K leB) [] E0 (tCons (tVar 2) (tCons (tVar 1) tNil)))) rfl sc_law_is_open.nd (pi_list (pv 0)) (blkOk_by (own := [("low", 2)]) (N := N_law_is_open) (sc := defScope s_law_is_open) (by decide +kernel)) (fun _ _ _ _ _ => (pg_name (i := 2) sc_law_is_open.nd rfl (Or.inl rfl))) (fun _ _ _ _ _ => pts_nil) (fun _ _ _ _ _ => (pe_def D_law_before (hr.mono (by decide)) (by rfl) (pa_cons (pv 2) (pa_cons (pv 1) pa_nil))))) pa_nil)))), ?_⟩
  obtain ⟨b, rfl, hb⟩ := hm.inv
  have lms : lv.length = L.length := by simpa using hd.length
  refine ⟨.ref a, rfl, a, rfl, ⟨_, SqL.of ha⟩, fun D hD => ?_⟩
  refine lc_val (walk_list (K := K)) hD (by omega) (fun H1 e1 => SqL.of (e1 _ _ ha)) ((L.map fun l => leB l m).map V.bl) (by simp [lms]) (fun j y H1 H2 Q' hj e1 y1 k => ?_) (fun H1 e1 eD => ?_)
  · obtain ⟨rfl, hy⟩ := y1
    obtain ⟨dd, hd1', hd2'⟩ := hd.get hy
    obtain ⟨l, hl, rfl⟩ := mo_at hd1'
    have hol := hL l (List.mem_of_getElem? hl)
    obtain ⟨c, rfl, hc⟩ := Mo.inv (Mo.same hd2' e1)
    refine ⟨rfl, .ref c, rfl, .ref b, rfl, c, b, l, m, rfl, hc, e1.seqT hb, by rw [hol.1, hom.1], by rw [hol.1]; exact hn, fun H3 e3 => k _ _ e3 ?_⟩
    simp [hl]
  · refine ⟨D, L.map fun l => leB l m, rfl, SqL.of eD, ?_⟩
    rw [List.any_map]
    exact q H1 e1
theorem d_law_fold (B : Bt mg) (T : Top K mg "_law_fold" s_law_fold ["least", "spot"]) (D_law_join : Def P w K mg base "_law_join" 1 ["one", "mate"] (spM K joinL)) (D_law_meet : Def P w K mg base "_law_meet" 1 ["one", "mate"] (spM K meetL)) : Def P w K mg base "_law_fold" 2 ["least", "spot"] (spLFold K) := by
  refine mk_def T sc_law_fold (by rintro _ _ _ _ ⟨_, _, _, _, _, rfl, _⟩; rfl) fun f cdv A outer s H vs Q E hr h => ?_
  obtain ⟨v, u, n, L, m, rfl, ⟨a, lv, rfl, ha, hd⟩, hm, hL, hom, hn1, hn, q⟩ := h
  refine ⟨_, (pss_cons (ps_if (pt_cmpR (op_eqD (hu64 hr)) (pv 0) (pe_lst pa_nil) (nomark _)) (pss_one (ps_ret (pe_op op_repA (pe_tup (pa_cons pe_int pa_nil)) (pe_callB call_len_seq (by rfl) B.m_len PySem.boot_len (pa_cons (pv 1) pa_nil))))) pss_nil)
      (pss_cons (ps_set (i := 2) sc_law_fold.nd rfl (Or.inl rfl) (pe_def D_law_join (hr.mono (by decide)) (by rfl) (pa_cons (pv 1) (pa_cons (pe_ix ix_list (pv 0) pe_int (fun _ _ => rfl)) pa_nil))))
      (pss_cons (ps_for PassesOwn.never rfl (pi_list (pv 0)) (pg_name (i := 3) sc_law_fold.nd rfl (Or.inl rfl)) (pss_one (ps_set (i := 2) sc_law_fold.nd rfl (Or.inl rfl) (pe_def D_law_meet (hr.mono (by decide)) (by rfl) (pa_cons (pv 2) (pa_cons (pe_def D_law_join (hr.mono (by decide)) (by rfl) (pa_cons (pv 1) (pa_cons (pv 3) pa_nil))) pa_nil))))))
      (pss_one (ps_ret (pv 2)))))), ?_⟩
  obtain ⟨b, rfl, hb⟩ := hm.inv
  refine ⟨.ref a, rfl, Nat.zero_le _, fun z hz => ?_⟩
  have e1 : Same H (upd H z (.lst [])) := same_upd hz
  refine ⟨.list (L.map mo), .list [], Da.dp _ _ (.lst (SqL.of (e1 _ _ ha)) (Da.sameAll e1 _ _ hd)), Da.dp _ _ (.lst (SqL.of upd_same) .nil), shaped_mos _, by decide, _, rfl, ?_⟩
  rw [show PyData.eqv (.list (L.map mo)) (.list []) = decide (L = []) from eqv_mos L []]
  refine ite2 (fun zz => ?_) (fun zz => ?_)
  · have e0 : L = [] := of_decide_eq_true zz
    subst e0
    refine ⟨by show 1 ≤ sizeLine; decide, fun t ht => ⟨.ref b, rfl, b, _, rfl, .inr ((e1.trans (same_upd ht)).seqT hb), ?_⟩⟩
    have e2 : Same H (upd (upd H z (.lst [])) t (.tup [.int 0])) := e1.trans (same_upd ht)
    have fz : foldL [] m = List.replicate n 0 := by
      show List.replicate m.length (0 : Int) = _
      rw [hom.1]
    rw [List.length_map, hom.1]
    by_cases h : n = 1
    · subst h
      refine .inl ⟨t, [.int 0], rfl, rfl, SqT.of upd_same, q _ _ e2 ?_⟩
      rw [fz]
      exact Mo.of (m := [0]) upd_same
    · refine .inr ⟨t, (n : Nat), [.int 0], rfl, rfl, SqT.of upd_same, by simp, by omega, by omega, by simp, fun c hc => q _ _ (e2.trans (same_upd hc)) ?_⟩
      rw [fz]
      refine Mo.of ?_
      rw [upd_same, Int.toNat_natCast, List.map_replicate]
      congr 2
      have : ∀ k : Nat, (List.replicate k [V.int 0]).flatten = List.replicate k (V.int 0) := by
        intro k
        induction k with
        | zero => rfl
        | succ k ih => rw [List.replicate_succ, List.flatten_cons, ih]; rfl
      exact this n
  · cases L with
    | nil => exact absurd rfl zz
    | cons l ls =>
      cases hd with
      | cons r0 rt =>
        rename_i v0 vs
        have hol := hL l List.mem_cons_self
        obtain ⟨c, rfl, hc⟩ := Mo.inv r0
        have ea1 := e1 _ _ ha
        refine ⟨.ref b, rfl, .ref a, rfl, a, _, 0, .ref c, rfl, rfl, SqL.of ea1, atI_nat (j := 0) rfl, b, c, m, l, rfl, e1.seqT hb, e1.seqT hc, by rw [hom.1, hol.1], by rw [hom.1]; omega, fun H1 y s1 ny ey => ?_⟩
        have hy : Mo K H1 (.ref y) (joinL m l) := Mo.of ey
        have e2 := e1.trans s1
        have dall : DaAll K H (V.ref c :: vs) ((l :: ls).map mo) := .cons r0 rt
        refine ⟨.ref a, rfl, a, rfl, ⟨_, SqL.of (e2 _ _ ha)⟩, ?_⟩
        refine for_list (xs := V.ref c :: vs) (fun i σ H' => ∃ y y3, σ = [some (.ref a), some (.ref b), some y, y3] ∧ Same H H' ∧ Mo K H' y (((l :: ls).take i).foldl (stepL m) (joinL m l))) ⟨.ref y, none, rfl, e2, hy⟩ (fun i σ H' _ pv' => ?_) (fun i x σ H' hx pv' => ?_) (fun σ H' pv' => ?_)
        · obtain ⟨_, _, rfl, e, _⟩ := pv'
          exact SqL.of (e _ _ ha)
        · obtain ⟨y, y3, rfl, e, hy⟩ := pv'
          obtain ⟨dd, hd1, hd2⟩ := dall.get hx
          obtain ⟨l', hl', rfl⟩ := mo_at hd1
          have hol' := hL l' (List.mem_of_getElem? hl')
          have hok : Ok n (((l :: ls).take i).foldl (stepL m) (joinL m l)) := foldl_ok hom (fun w hw => hL w (List.mem_of_mem_take hw)) (hom.join hol)
          obtain ⟨g, rfl, hg⟩ := hy.inv
          obtain ⟨k, rfl, hk⟩ := Mo.inv (Mo.same hd2 e)
          refine ⟨.ref g, rfl, .ref b, rfl, .ref k, rfl, b, k, m, l', rfl, e.seqT hb, hk, by rw [hom.1, hol'.1], by rw [hom.1]; omega, fun H3 j s3 nj ej => ?_⟩
          refine ⟨g, j, _, _, rfl, s3.seqT hg, SqT.of ej, by rw [hok.1, (hom.join hol').1], by rw [hok.1]; omega, fun H5 j5 s5 nj5 ej5 => ?_⟩
          refine ⟨.ref j5, _, rfl, (e.trans s3).trans s5, Mo.of ?_⟩
          rw [ej5, List.take_add_one, hl']
          simp [stepL]
        · obtain ⟨y, y3, rfl, e, hy⟩ := pv'
          have lv : (V.ref c :: vs).length = (l :: ls).length := by simpa using dall.length
          rw [lv, List.take_of_length_le (Nat.le_refl _), foldLaw] at hy
          exact ⟨y, rfl, q H' y e hy⟩
theorem d_law_spot (B : Bt mg) (T : Top K mg "_law_spot" s_law_spot ["pot", "grid", "span"]) (D_law_draw : Def P w K mg base "_law_draw" 1 ["pot", "size"] (spDraw K)) : Def P w K mg base "_law_spot" 2 ["pot", "grid", "span"] (spSpot K) := by
  refine mk_def T sc_law_spot (by rintro _ _ _ _ ⟨_, _, _, _, rfl, _⟩; rfl) fun f cdv A outer s H vs Q E hr h => ?_
  obtain ⟨p, v, n, g, rfl, pt, hg, hsm, hne, hgl, hn, q⟩ := h
  refine ⟨_, (pss_cons (ps_if (pt_cmpR op_eq (pe_def D_law_draw (hr.mono (by decide)) (by rfl) (pa_cons (pv 0) (pa_cons pe_int pa_nil))) pe_int (nomark _)) (pss_one (ps_ret (pe_callTy call_tuple_of (by rfl) B.m_tuple (by decide +kernel) (pa_cons (pe_lc (own := [("k", 3)]) (g := (gName 3)) (tt := tYes) (te := (tCall (spDraw K) [] E0 (tCons (tVar 0) (tCons (tC (.int 7)) tNil)))) rfl sc_law_spot.nd (pi_range1 (by rfl) B.m_range (pa_cons (pv 2) pa_nil)) (blkOk_by (own := [("k", 3)]) (N := N_law_spot) (sc := defScope s_law_spot) (by decide +kernel)) (fun _ _ _ _ _ => (pg_name (i := 3) sc_law_spot.nd rfl (Or.inl rfl))) (fun _ _ _ _ _ => pts_nil) (fun _ _ _ _ _ => (pe_def D_law_draw (hr.mono (by decide)) (by rfl) (pa_cons (pv 0) (pa_cons pe_int pa_nil))))) pa_nil)))) pss_nil)
      (pss_one (ps_ret (pe_ix ix_list (pv 1) (pe_def D_law_draw (hr.mono (by decide)) (by rfl) (pa_cons (pv 0) (pa_cons (pe_callB call_len_seq (by rfl) B.m_len PySem.boot_len (pa_cons (pv 1) pa_nil)) pa_nil))) (fun _ _ => rfl))))), ?_⟩
  obtain ⟨a, lv, rfl, ha, hd⟩ := id hg
  refine ⟨.ref p, rfl, p, 4, rfl, pt, by decide, by decide, fun H1 r s1 p1 r0 r1 => ⟨rfl, _, rfl, ite2 (fun z => ?_) (fun z => ?_)⟩⟩
  · refine ⟨.int (n : Nat), rfl, (n : Nat), rfl, by omega, by omega, fun D hD => ?_⟩
    have nD : H D = none := s1.fresh pt.there hD p1.there
    have npD := p1.ne hD
    refine lc_it (walk_range (lo := 0) (n := ((n : Nat) : Int).toNat)) (fun i H' => SameB p H1 H' ∧ PotAt H' p ∧ ∃ ns : List Int, H' D = some (.lst (ns.map V.int)) ∧ ns.length = i ∧ TS.Bd GH ns)
      ⟨Same.b (same_upd hD), p1.upd npD, [], upd_same, rfl, fun c hc => by simp at hc⟩ (fun i H' _ _ => True.intro) (fun i x H' H'' hi pv' y => ?_) (fun H3 pv' => ?_)
    · obtain ⟨rfl, rfl⟩ := y
      obtain ⟨e1, pt3, ns, eb, hl, hb⟩ := pv'
      refine ⟨rfl, .ref p, rfl, p, 7, rfl, pt3, by decide, by decide, fun H5 r' s5 pt5 r0' r1' => ?_⟩
      have eb5 := s5 _ _ npD.symm eb
      refine ⟨_, eb5, ?_, (e1.trans s5).mut hD, pt5.upd npD, ns ++ [r'], ?_, by simp [hl], fun c hc => ?_⟩
      · rw [List.length_map, hl]
        exact Nat.lt_of_lt_of_le hi (Nat.le_trans (show ((n : Nat) : Int).toNat ≤ 4 by omega) (by decide))
      · rw [upd_same, List.map_append]
        rfl
      · rcases List.mem_append.mp hc with h' | h'
        · exact hb c h'
        · rw [List.mem_singleton.mp h']
          exact ⟨r0', Int.lt_trans r1' (by decide)⟩
    · obtain ⟨e3, pt3, ns, eb, hl, hb⟩ := pv'
      refine ⟨D, _, rfl, .inl ⟨SqL.of eb, fun t ht => ?_⟩⟩
      exact q _ _ ns ((s1.trans e3).trans (Same.b (same_upd ht))) (pt3.upd (pt3.ne ht)) (Mo.of upd_same) ⟨by omega, hb⟩
  · have hg1 := hg.sameB s1 pt
    obtain ⟨a', lv', ea', ha1, hd1⟩ := id hg1
    cases ea'
    have ll : lv'.length = g.length := by simpa using hd1.length
    have hpos : 0 < g.length := List.length_pos_iff.mpr hne
    refine ⟨.ref a, rfl, .ref p, rfl, .ref a, rfl, a, _, rfl, .inl (SqL.of ha1), p, (lv'.length : Nat), rfl, p1, by omega, by omega, fun H2 r2 s2 p2 r02 r12 => ?_⟩
    have hg2 := hg1.sameB s2 p1
    obtain ⟨a2, lv2, ea2, ha2, hd2⟩ := id hg2
    cases ea2
    have ll2 : lv2.length = g.length := by simpa using hd2.length
    have hlt : r2.toNat < g.length := by omega
    have hlt2 : r2.toNat < lv2.length := by omega
    obtain ⟨dd, h1, h2⟩ := hd2.get (i := r2.toNat) (v := lv2[r2.toNat]) (by simp [hlt2])
    obtain ⟨m, hm, rfl⟩ := mo_at h1
    refine ⟨a, lv2, r2, lv2[r2.toNat], rfl, rfl, SqL.of ha2, at_of (j := r2.toNat) (by omega) (by simp [hlt2]), ?_⟩
    exact q H2 _ m (s1.trans s2) p2 h2 (hsm m (List.mem_of_getElem? hm))
theorem d_law_moved (B : Bt mg) (T : Top K mg "_law_moved" s_law_moved ["pot", "spot"]) (D_law_draw : Def P w K mg base "_law_draw" 1 ["pot", "size"] (spDraw K)) : Def P w K mg base "_law_moved" 2 ["pot", "spot"] (spMoved K) := by
  refine mk_def T sc_law_moved (by rintro _ _ _ _ ⟨_, _, _, _, rfl, _⟩; rfl) fun f cdv A outer s H vs Q E hr h => ?_
  obtain ⟨p, v, n, m, rfl, pt, hm, hsm, hn, q⟩ := h
  refine ⟨_, (pss_one (ps_ret (pe_callTy call_tuple_of (by rfl) B.m_tuple (by decide +kernel) (pa_cons (pe_lc (own := [("one", 2)]) (g := (gName 2)) (tt := tYes) (te := (tCB yMax (tCons (tC (.int 0)) (tCons (tOp ySub (tOp yAdd (tVar 2) (tCall (spDraw K) [] E0 (tCons (tVar 0) (tCons (tC (.int 3)) tNil)))) (tC (.int 1))) tNil)))) rfl sc_law_moved.nd (pi_tup (pv 1)) (blkOk_by (own := [("one", 2)]) (N := N_law_moved) (sc := defScope s_law_moved) (by decide +kernel)) (fun _ _ _ _ _ => (pg_name (i := 2) sc_law_moved.nd rfl (Or.inl rfl))) (fun _ _ _ _ _ => pts_nil) (fun _ _ _ _ _ => (pe_callB (call_max2 rfl) (by rfl) B.m_max (by decide +kernel) (pa_cons pe_int (pa_cons (pe_op op_sub (pe_op op_add (pv 2) (pe_def D_law_draw (hr.mono (by decide)) (by rfl) (pa_cons (pv 0) (pa_cons pe_int pa_nil)))) pe_int) pa_nil))))) pa_nil)))), ?_⟩
  obtain ⟨b, rfl, hb⟩ := hm.trk
  have lm := hsm.1
  have pto := pt
  obtain ⟨qa, qb, qc, ep, _⟩ := pto
  have npb : b ≠ p := fun z => by
    subst z
    rw [hb] at ep
    cases ep
  refine ⟨.ref b, rfl, b, rfl, ⟨_, SqT.of hb⟩, fun D hD => ?_⟩
  have npD := pt.ne hD
  refine lc_it (walk_tup (K := K) (xs := m.map V.int)) (fun i H' => SameB p H H' ∧ PotAt H' p ∧ ∃ ns : List Int, H' D = some (.lst (ns.map V.int)) ∧ ns.length = i ∧ TS.Bd BB ns)
    ⟨Same.b (same_upd hD), pt.upd npD, [], upd_same, rfl, fun c hc => by simp at hc⟩ (fun i H' _ pv' => SqT.of (pv'.1 _ _ npb hb)) (fun i x H' H'' hi pv' y => ?_) (fun H3 pv' => ?_)
  · obtain ⟨rfl, hx⟩ := y
    obtain ⟨c, hc, rfl⟩ := int_at hx
    obtain ⟨e1, pt3, ns, eb, hl, hbd⟩ := pv'
    have hcb := hsm.2 c (List.mem_of_getElem? hc)
    refine ⟨rfl, .int c, rfl, .ref p, rfl, p, 3, rfl, pt3, by decide, by decide, fun H5 r' s5 pt5 r0' r1' => ?_⟩
    have eb5 := s5 _ _ npD.symm eb
    refine ⟨_, _, rfl, rfl, _, _, rfl, rfl, _, _, rfl, _, eb5, ?_, (e1.trans s5).mut hD, pt5.upd npD, ns ++ [if c + r' - 1 > 0 then c + r' - 1 else 0], ?_, by simp [hl], fun c' hc' => ?_⟩
    · rw [List.length_map, hl]
      have hi' : i < m.length := by simpa using hi
      exact Nat.lt_of_lt_of_le hi' (Nat.le_trans (show m.length ≤ 4 by omega) (by decide))
    · rw [upd_same, List.map_append]
      rfl
    · rcases List.mem_append.mp hc' with h' | h'
      · exact hbd c' h'
      · rw [List.mem_singleton.mp h']
        have : GH + 10 < BB := by decide
        have h0 : (0 : Int) < GH := by decide
        split
        · constructor <;> omega
        · constructor <;> omega
  · obtain ⟨e3, pt3, ns, eb, hl, hbd⟩ := pv'
    refine ⟨D, _, rfl, .inl ⟨SqL.of eb, fun t ht => ?_⟩⟩
    exact q _ _ ns (e3.trans (Same.b (same_upd ht))) (pt3.upd (pt3.ne ht)) (Mo.of upd_same) ⟨by rw [hl, List.length_map]; exact lm, hbd⟩
end
end K5

namespace K5
open PySem PySem.Spec PyProof.Rows L2
/-! ### the grid's members -/
theorem gs_len (g : List (List Int)) (r : List Int) : (gridStep g r).length = g.length * r.length := by
  unfold gridStep
  induction g with
  | nil => simp
  | cons x g ih => rw [List.flatMap_cons, List.length_append, ih, List.length_map, List.length_cons, Nat.succ_mul, Nat.add_comm]
theorem gf_len : ∀ (rows : List (List Int)) (g : List (List Int)), (∀ r ∈ rows, r.length ≤ 6) → (rows.foldl gridStep g).length ≤ g.length * 6 ^ rows.length
  | [], g, _ => by simp
  | r :: rows, g, h => by
    refine Nat.le_trans (gf_len rows (gridStep g r) fun x hx => h x (List.mem_cons_of_mem _ hx)) ?_
    rw [gs_len, List.length_cons, Nat.pow_succ, Nat.mul_comm (6 ^ rows.length) 6, ← Nat.mul_assoc]
    exact Nat.mul_le_mul_right _ (Nat.mul_le_mul_left _ (h r List.mem_cons_self))
theorem gf_bd : ∀ (rows : List (List Int)) (g : List (List Int)), (∀ x ∈ g, TS.Bd GH x) → (∀ r ∈ rows, TS.Bd GH r) → ∀ x ∈ rows.foldl gridStep g, TS.Bd GH x
  | [], g, h, _ => h
  | r :: rows, g, h, hr => gf_bd rows (gridStep g r) (fun x hx => by
      obtain ⟨y, hy, hz⟩ := List.mem_flatMap.mp hx
      obtain ⟨l, hl, rfl⟩ := List.mem_map.mp hz
      intro c hc
      rcases List.mem_append.mp hc with hc | hc
      · exact h y hy c hc
      · rw [List.mem_singleton.mp hc]
        exact hr r List.mem_cons_self l hl) fun x hx => hr x (List.mem_cons_of_mem _ hx)
theorem gf_pos : ∀ (rows : List (List Int)) (g : List (List Int)), 0 < g.length → (∀ r ∈ rows, 0 < r.length) → 0 < (rows.foldl gridStep g).length
  | [], g, h, _ => h
  | r :: rows, g, h, hr => gf_pos rows (gridStep g r) (by rw [gs_len]; exact Nat.mul_pos h (hr r List.mem_cons_self)) fun x hx => hr x (List.mem_cons_of_mem _ hx)
theorem das_li {K : PySem.W.Frag} {H : Hp} : ∀ {acc : List V} {rows : List (List Int)}, acc.length = rows.length → (∀ (j : Nat) (r : List Int), rows[j]? = some r → ∃ qa : Addr, acc[j]? = some (V.ref qa) ∧ H qa = some (.lst (r.map V.int))) → DaAll K H acc (rows.map li)
  | [], [], _, _ => .nil
  | v :: vs, r :: rs, hl, h => by
    obtain ⟨qa, h1, h2⟩ := h 0 r rfl
    have : v = .ref qa := by simpa using h1
    subst this
    exact .cons (.lst (SqL.of h2) (da_ints r)) (das_li (by simpa using hl) fun j r' hr => h (j + 1) r' (by simpa using hr))
  | [], _ :: _, hl, _ => nomatch hl
  | _ :: _, [], hl, _ => nomatch hl
def cap (n : Nat) : Nat := if n = 1 then 6 else if n = 2 then 4 else if n = 3 then 3 else 2
theorem cap_at {n : Nat} (h1 : 1 ≤ n) (h2 : n ≤ 4) : atI [V.int 6, .int 4, .int 3, .int 2] ((n : Int) - 1) = some (.int (cap n : Nat)) := by
  have : n = 1 ∨ n = 2 ∨ n = 3 ∨ n = 4 := by omega
  rcases this with rfl | rfl | rfl | rfl <;> rfl
theorem cap_bd (n : Nat) : 1 ≤ cap n ∧ cap n ≤ 6 := by
  unfold cap
  split
  · omega
  · split
    · omega
    · split <;> omega
theorem MoL.ne {K : PySem.W.Frag} {H : Hp} {v : V} {ms : List (List Int)} {q : Addr} (h : MoL K H v ms) (n : H q = none) : v ≠ .ref q := by
  obtain ⟨a, lv, rfl, h1, _⟩ := h
  intro e
  cases e
  rw [n] at h1
  cases h1
theorem MoL.upd {K : PySem.W.Frag} {H : Hp} {v : V} {ms : List (List Int)} {q : Addr} {l l' : List V} (h : MoL K H v ms) (n : v ≠ .ref q) (e : H q = some (.lst l)) : MoL K (L2.upd H q (.lst l')) v ms := by
  obtain ⟨a, lv, rfl, h1, h2⟩ := h
  exact ⟨a, lv, rfl, by rw [upd_ne (fun z => n (by rw [z]))]; exact h1, Da.stAll (st_upd e True.intro) _ _ (imm_mos _) h2⟩
theorem MoL.pot {K : PySem.W.Frag} {H : Hp} {a : Addr} {ms : List (List Int)} {p : Addr} (h : MoL K H (.ref a) ms) (pt : PotAt H p) : a ≠ p := by
  obtain ⟨a', lv, e, h1, h2⟩ := h
  cases e
  intro z
  subst z
  obtain ⟨x, y, z, e1, _⟩ := pt
  rw [h1] at e1
  cases e1
  cases ms with
  | nil => cases h2
  | cons m ms =>
    cases h2 with
    | cons r _ => cases r
theorem FrontAt.sameB {K : PySem.W.Frag} {C : Addr} {H H' : Hp} {v : V} {n : Nat} {L : List (List Int)} {p : Addr} (h : FrontAt K C H v n L) (e : SameB p H H') (pt : PotAt H p) : FrontAt K C H' v n L := by
  obtain ⟨q, dx, d, lv, rfl, h1, h2, h3, r⟩ := h
  have hd : MoL K H (.ref d) L := ⟨d, lv, rfl, h2, h3⟩
  have nq : q ≠ p := fun z => by
    subst z
    obtain ⟨x, y, z, e1, _⟩ := pt
    rw [h1] at e1
    cases e1
  exact ⟨q, dx, d, lv, rfl, e _ _ nq h1, e _ _ (hd.pot pt) h2, Da.stAll (SameB.potst e pt) _ _ (imm_mos _) h3, r⟩
/-- a new object and what its __init__ writes: nothing else changes -/
theorem same_made {H H' : Hp} {x dx : Addr} {o o' : HO} (nx : H x = none) (nd : H dx = none) (e : SameB x (L2.upd (L2.upd H dx o) x o') H') : Same H H' := fun b u hb =>
  e b u (ne_of_none hb nx) (by rw [upd_ne (ne_of_none hb nx), upd_ne (ne_of_none hb nd)]; exact hb)
theorem same_two {H : Hp} {x dx : Addr} {o o' : HO} (nx : H x = none) (nd : H dx = none) : Same H (L2.upd (L2.upd H dx o) x o') := fun b u hb => by
  rw [upd_ne (ne_of_none hb nx), upd_ne (ne_of_none hb nd)]
  exact hb
theorem MoL.sq {K : PySem.W.Frag} {H : Hp} {a : Addr} {ms : List (List Int)} (h : MoL K H (.ref a) ms) : ∃ xs, SqL K H a xs := by
  obtain ⟨a', lv, e, h1, _⟩ := h
  cases e
  exact ⟨lv, SqL.of h1⟩
theorem ref_pot {H : Hp} {a p : Addr} {x : Addr} {l : List V} (h : H a = some (.lst (.ref x :: l))) (pt : PotAt H p) : a ≠ p := fun z => by
  subst z
  obtain ⟨x, y, z, e1, _⟩ := pt
  rw [h] at e1
  cases e1
end K5

namespace K5
open PySem PySem.Spec PyProof.Rows L2
/-! ### folds of joined fronts -/
theorem fold_both_ways {n : Nat} {m : List Int} {A L : List (List Int)} (hm : m.length = n) (hA : ∀ l ∈ A, l.length = n) (h : ∀ l ∈ L, l.length = n) (h1 : Adv A L) (h2 : Adv L A) : foldL L m = foldL A m := by
  by_cases e : L = []
  · subst e
    have : A = [] := by
      cases A with
      | nil => rfl
      | cons a as =>
        obtain ⟨l, hl, _⟩ := h2 a List.mem_cons_self
        simp at hl
    rw [this]
  · by_cases e2 : A = []
    · subst e2
      obtain ⟨l, hl⟩ := List.exists_mem_of_ne_nil _ e
      obtain ⟨a, ha, _⟩ := h1 l hl
      simp at ha
    · refine Le.anti ((le_fold hm hA e2).mpr fun a ha => ?_) ((le_fold hm h e).mpr fun l hl => ?_)
      · obtain ⟨l, hl, hle⟩ := h2 a ha
        exact (fold_le_join hm h hl).trans ((join_le (by rw [hm, h l hl])).mpr ⟨le_joinL (by rw [hm, hA a ha]), hle.trans (le_joinR (by rw [hm, hA a ha]))⟩)
      · obtain ⟨a, ha, hle⟩ := h1 l hl
        exact (fold_le_join hm hA ha).trans ((join_le (by rw [hm, hA a ha])).mpr ⟨le_joinL (by rw [hm, h l hl]), hle.trans (le_joinR (by rw [hm, h l hl]))⟩)
/-- behind each there is a minimal one -/
theorem min_below {n : Nat} {ms L : List (List Int)} (h : IsL ms L) (ho : ∀ m ∈ ms, Ok n m) : Adv L ms := by
  have key : ∀ (k : Nat) (x : List Int), x ∈ ms → (TS.code BB x).toNat ≤ k → ∃ l ∈ L, Le l x := by
    intro k
    induction k with
    | zero =>
      intro x hx hk
      by_cases hmin : ∀ y ∈ ms, leB y x = true → y = x
      · exact ⟨x, (h.mem x).mpr ⟨hx, hmin⟩, Le.refl x⟩
      · exfalso
        apply hmin
        intro y hy e
        have hle := (leB_iff (by rw [(ho y hy).1, (ho x hx).1])).mp e
        have c1 := code_le hle (ho y hy).2 (ho x hx).2
        have c0 := (TS.code_bd _ (ho y hy).2).1
        have c2 := (TS.code_bd _ (ho x hx).2).1
        exact code_inj (by rw [(ho y hy).1, (ho x hx).1]) (ho y hy).2 (ho x hx).2 (by omega)
    | succ k ih =>
      intro x hx hk
      by_cases hmin : ∀ y ∈ ms, leB y x = true → y = x
      · exact ⟨x, (h.mem x).mpr ⟨hx, hmin⟩, Le.refl x⟩
      · simp only [Classical.not_forall] at hmin
        obtain ⟨y, hy, e, hne⟩ := hmin
        have hle := (leB_iff (by rw [(ho y hy).1, (ho x hx).1])).mp e
        have c1 := code_le hle (ho y hy).2 (ho x hx).2
        have c0 := (TS.code_bd _ (ho y hy).2).1
        have c3 : TS.code BB y ≠ TS.code BB x := fun e' => hne (code_inj (by rw [(ho y hy).1, (ho x hx).1]) (ho y hy).2 (ho x hx).2 e')
        obtain ⟨l, hl, hl2⟩ := ih y hy (by omega)
        exact ⟨l, hl, hl2.trans hle⟩
  exact fun x hx => key _ x hx (Nat.le_refl _)
theorem fold_least {n : Nat} {m : List Int} {ms L : List (List Int)} (h : IsL ms L) (ho : ∀ m ∈ ms, Ok n m) (hm : m.length = n) : foldL L m = foldL ms m :=
  fold_both_ways hm (fun l hl => (ho l hl).1) (fun l hl => (ho l ((h.mem l).mp hl).1).1) (fun l hl => ⟨l, ((h.mem l).mp hl).1, Le.refl l⟩) (min_below h ho)
theorem join_meet : ∀ {y a b : List Int}, y.length = a.length → a.length = b.length → joinL y (meetL a b) = meetL (joinL y a) (joinL y b)
  | [], [], [], _, _ => rfl
  | y :: ys, a :: as, b :: bs, h1, h2 => by
    show (if (if b < a then b else a) > y then (if b < a then b else a) else y) :: joinL ys (meetL as bs) = (if (if b > y then b else y) < (if a > y then a else y) then (if b > y then b else y) else (if a > y then a else y)) :: meetL (joinL ys as) (joinL ys bs)
    rw [join_meet (y := ys) (a := as) (b := bs) (by simpa using h1) (by simpa using h2)]
    congr 1
    (repeat' split) <;> omega
  | [], _ :: _, _, h, _ => nomatch h
  | _ :: _, [], _, h, _ => nomatch h
  | _, [], _ :: _, _, h => nomatch h
  | _, _ :: _, [], _, h => nomatch h
theorem le_join_foldl {n : Nat} {m x y : List Int} (hm : m.length = n) (hy : y.length = n) : ∀ {ls : List (List Int)} {d : List Int}, (∀ l ∈ ls, l.length = n) → d.length = n → (Le x (joinL y (ls.foldl (stepL m) d)) ↔ Le x (joinL y d) ∧ ∀ l ∈ ls, Le x (joinL y (joinL m l)))
  | [], _, _, _ => by simp
  | l :: ls, d, h, hd => by
    have hl := h l List.mem_cons_self
    have hj : (joinL m l).length = n := by rw [joinL_len (by omega)]; exact hm
    have h2 : (stepL m d l).length = n := by unfold stepL; rw [meetL_len (by omega)]; exact hd
    rw [List.foldl_cons, le_join_foldl hm hy (fun x hx => h x (List.mem_cons_of_mem _ hx)) h2]
    unfold stepL
    rw [join_meet (by omega) (by omega), le_meet (by rw [joinL_len (by omega), joinL_len (by omega)])]
    simp only [List.mem_cons, forall_eq_or_imp, and_assoc]
theorem le_join_fold {n : Nat} {m x y : List Int} {L : List (List Int)} (hm : m.length = n) (hy : y.length = n) (h : ∀ l ∈ L, l.length = n) (hL : L ≠ []) : Le x (joinL y (foldL L m)) ↔ ∀ l ∈ L, Le x (joinL y (joinL m l)) := by
  cases L with
  | nil => exact absurd rfl hL
  | cons l ls =>
    have hl := h l List.mem_cons_self
    show Le x (joinL y (ls.foldl (stepL m) (joinL m l))) ↔ _
    rw [le_join_foldl hm hy (fun x hx => h x (List.mem_cons_of_mem _ hx)) (by rw [joinL_len (by omega)]; exact hm)]
    simp only [List.mem_cons, forall_eq_or_imp]
theorem joinL_comm : ∀ (a b : List Int), a.length = b.length → joinL a b = joinL b a
  | [], [], _ => rfl
  | x :: xs, y :: ys, h => by
    show (if y > x then y else x) :: joinL xs ys = (if x > y then x else y) :: joinL ys xs
    rw [joinL_comm xs ys (by simpa using h)]
    congr 1
    split <;> split <;> omega
  | [], _ :: _, h => nomatch h
  | _ :: _, [], h => nomatch h
def joinsL (A B : List (List Int)) : List (List Int) := A.flatMap fun a => B.map fun b => joinL a b
theorem joinsL_ok {n : Nat} {A B : List (List Int)} (hA : ∀ l ∈ A, Ok n l) (hB : ∀ l ∈ B, Ok n l) : ∀ l ∈ joinsL A B, Ok n l := fun l hl => by
  obtain ⟨a, ha, h⟩ := List.mem_flatMap.mp hl
  obtain ⟨b, hb, rfl⟩ := List.mem_map.mp h
  exact (hA a ha).join (hB b hb)
theorem joinsL_len {A B : List (List Int)} : (joinsL A B).length = A.length * B.length := by
  unfold joinsL
  induction A with
  | nil => simp
  | cons x g ih => rw [List.flatMap_cons, List.length_append, ih, List.length_map, List.length_cons, Nat.succ_mul, Nat.add_comm]
def bothF (A B : List (List Int)) (m : List Int) : List Int := if A = [] then foldL A m else if B = [] then foldL B m else joinL (foldL A m) (foldL B m)
def eitherF (A B : List (List Int)) (m : List Int) : List Int := if A = [] then foldL B m else if B = [] then foldL A m else meetL (foldL A m) (foldL B m)
theorem fold_joins {n : Nat} {m : List Int} {A B : List (List Int)} (hm : m.length = n) (hA : ∀ l ∈ A, l.length = n) (hB : ∀ l ∈ B, l.length = n) : foldL (joinsL A B) m = bothF A B m := by
  unfold bothF
  by_cases eA : A = []
  · rw [if_pos eA]
    subst eA
    rfl
  · rw [if_neg eA]
    by_cases eB : B = []
    · rw [if_pos eB]
      subst eB
      have : joinsL A [] = [] := by unfold joinsL; simp
      rw [this]
    · rw [if_neg eB]
      obtain ⟨a0, ha0⟩ := List.exists_mem_of_ne_nil _ eA
      obtain ⟨b0, hb0⟩ := List.exists_mem_of_ne_nil _ eB
      have hne : joinsL A B ≠ [] := List.ne_nil_of_mem (List.mem_flatMap.mpr ⟨a0, ha0, List.mem_map.mpr ⟨b0, hb0, rfl⟩⟩)
      have hJ : ∀ l ∈ joinsL A B, l.length = n := fun l hl => by
        obtain ⟨a, ha, h⟩ := List.mem_flatMap.mp hl
        obtain ⟨b, hb, rfl⟩ := List.mem_map.mp h
        rw [joinL_len (by rw [hA a ha, hB b hb]), hA a ha]
      have fA := foldL_len hm hA
      have fB := foldL_len hm hB
      have main : ∀ x, Le x (joinL (foldL A m) (foldL B m)) ↔ ∀ b ∈ B, ∀ a ∈ A, Le x (joinL (joinL m b) (joinL m a)) := fun x => by
        rw [le_join_fold hm fA hB eB]
        constructor
        · intro h b hb
          have h1 := h b hb
          rw [joinL_comm _ _ (by rw [fA, joinL_len (by rw [hm, hB b hb]), hm]), le_join_fold hm (by rw [joinL_len (by rw [hm, hB b hb]), hm]) hA eA] at h1
          exact h1
        · intro h b hb
          rw [joinL_comm _ _ (by rw [fA, joinL_len (by rw [hm, hB b hb]), hm]), le_join_fold hm (by rw [joinL_len (by rw [hm, hB b hb]), hm]) hA eA]
          exact h b hb
      have cmp : ∀ a ∈ A, ∀ b ∈ B, joinL (joinL m b) (joinL m a) = joinL m (joinL a b) := fun a ha b hb => by
        have la := hA a ha
        have lb := hB b hb
        have l1 : m.length = a.length := by omega
        have l2 : m.length = b.length := by omega
        have l3 : a.length = b.length := by omega
        have lj : (joinL a b).length = n := by rw [joinL_len l3]; exact la
        have jb : (joinL m b).length = n := by rw [joinL_len l2]; exact hm
        have ja : (joinL m a).length = n := by rw [joinL_len l1]; exact hm
        have l4 : m.length = (joinL a b).length := by omega
        refine Le.anti ((join_le (by omega)).mpr ⟨(join_le l2).mpr ⟨le_joinL l4, (le_joinR l3).trans (le_joinR l4)⟩, (join_le l1).mpr ⟨le_joinL l4, (le_joinL l3).trans (le_joinR l4)⟩⟩) ?_
        have l5 : (joinL m b).length = (joinL m a).length := by omega
        exact (join_le l4).mpr ⟨(le_joinL l2).trans (le_joinL l5), (join_le l3).mpr ⟨(le_joinR l1).trans (le_joinR l5), (le_joinR l2).trans (le_joinL l5)⟩⟩
      refine Le.anti ((main _).mpr fun b hb a ha => ?_) ((le_fold hm hJ hne).mpr fun l hl => ?_)
      · rw [cmp a ha b hb]
        exact fold_le_join hm hJ (List.mem_flatMap.mpr ⟨a, ha, List.mem_map.mpr ⟨b, hb, rfl⟩⟩)
      · obtain ⟨a, ha, h⟩ := List.mem_flatMap.mp hl
        obtain ⟨b, hb, rfl⟩ := List.mem_map.mp h
        rw [← cmp a ha b hb]
        exact (main _).mp (Le.refl _) b hb a ha
theorem fold_append {n : Nat} {m : List Int} {A B : List (List Int)} (hm : m.length = n) (hA : ∀ l ∈ A, l.length = n) (hB : ∀ l ∈ B, l.length = n) : foldL (A ++ B) m = eitherF A B m := by
  unfold eitherF
  by_cases eA : A = []
  · rw [if_pos eA]
    subst eA
    rfl
  · rw [if_neg eA]
    by_cases eB : B = []
    · rw [if_pos eB]
      subst eB
      rw [List.append_nil]
    · rw [if_neg eB]
      have hAB : ∀ l ∈ A ++ B, l.length = n := fun l hl => by
        rcases List.mem_append.mp hl with h | h
        · exact hA l h
        · exact hB l h
      have hne : A ++ B ≠ [] := fun e => eA (List.append_eq_nil_iff.mp e).1
      have lf : (foldL A m).length = (foldL B m).length := by rw [foldL_len hm hA, foldL_len hm hB]
      refine Le.anti ((le_meet lf).mpr ⟨(le_fold hm hA eA).mpr fun l hl => fold_le_join hm hAB (List.mem_append_left _ hl), (le_fold hm hB eB).mpr fun l hl => fold_le_join hm hAB (List.mem_append_right _ hl)⟩) ((le_fold hm hAB hne).mpr fun l hl => ?_)
      have h0 := (le_meet (x := meetL (foldL A m) (foldL B m)) lf).mp (Le.refl _)
      rcases List.mem_append.mp hl with h | h
      · exact h0.1.trans (fold_le_join hm hA h)
      · exact h0.2.trans (fold_le_join hm hB h)
end K5

namespace K5
open PySem PySem.Spec PyProof.Rows L2
/-- two fronts in, a new front out whose minimal ones are those of g A B -/
def spBin (K : PySem.W.Frag) (C : Addr) (g : List (List Int) → List (List Int) → List (List Int)) : Sp := fun vs H Q _ => ∃ (v u : V) (n : Nat) (A D : List (List Int)), vs = [v, u] ∧ FrontAt K C H v n A ∧ FrontAt K C H u n D ∧ 1 ≤ n ∧ n ≤ 4 ∧ A.length ≤ 6 ∧ D.length ≤ 6 ∧
  ∀ H' p L, Same H H' → H p = none → FrontAt K C H' (.ref p) n L → IsL (g A D) L → Q (.ref p) H'
section
variable {P : Program} {w : World} {K : PySem.W.Frag} {mg : Str → Option Value} {base : Heap} {C : Addr}
theorem d_Front___and__ (B : Bt mg) (X : TxF K C) (XI : TxI K C) (mC : mg "Front" = some (.ref C)) (T : TopM K C "__and__" "Front.__and__" sFront___and__ ["self", "other"]) (Dcheck_like_axes : Def P w K mg base "check_like_axes" 1 ["left", "right"] spLike) (Djoin_of : Def P w K mg base "join_of" 1 ["first", "second"] (spM K joinL)) (MkFront : MakeD P w K mg base C "Front" 3 ["self", "axes", "moments"] (spInit K C)) : MethD P w K mg base C "__and__" 5 ["self", "other"] (spBin K C joinsL) := by
  refine mk_meth T scFront___and__ (by rintro _ _ _ _ ⟨_, _, _, _, _, rfl, _⟩; rfl) fun f cdv Ar outer s H vs Q E hr h => ?_
  obtain ⟨v, u, n, A, D, rfl, hv, hu, hn1, hn4, hA6, hD6, q⟩ := h
  refine ⟨_, (pss_cons (ps_if (pt_not (pt_val (pe_callB call_isi (by rfl) B.m_isinstance (by decide +kernel) (pa_cons (pv 1) (pa_cons (pe_glob (v := .ref C) (by rfl) mC rfl) pa_nil))))) (pss_one ps_never) pss_nil)
      (pss_cons (ps_expr (pe_def Dcheck_like_axes (hr.mono (by decide)) (by rfl) (pa_cons (pe_fld (pv 0) rfl) (pa_cons (pe_fld (pv 1) rfl) pa_nil))))
      (pss_one (ps_ret (pe_makeM MkFront (hr.mono (by decide)) (by rfl) (pa_cons (pe_fld (pv 0) rfl) (pa_cons (pe_lc2 (own := [("left", 2), ("right", 3)]) (g := (gName 2)) (tt := tYes) (wi1 := (iList K (tFld K (tVar 1) "_lows"))) (g1 := (gName 3)) (tt1 := tYes) (te := (tCall (spM K joinL) [] E0 (tCons (tVar 2) (tCons (tVar 3) tNil)))) rfl scFront___and__.nd (pi_list (pe_fld (pv 0) rfl)) (blkOk_by (own := [("left", 2), ("right", 3)]) (N := NFront___and__) (sc := defScope sFront___and__) (by decide +kernel)) (vs1 := [3]) (by decide) (fun _ _ _ _ _ => (pg_name (i := 2) scFront___and__.nd rfl (Or.inl rfl))) (fun _ _ _ _ _ => pts_nil) (fun _ _ _ _ _ => (pi_list (pe_fld (pv 1) rfl))) (fun _ _ _ _ _ => (pg_name (i := 3) scFront___and__.nd rfl (Or.inl rfl))) (fun _ _ _ _ _ => pts_nil) (fun _ _ _ _ _ => (pe_def Djoin_of (hr.mono (by decide)) (by rfl) (pa_cons (pv 2) (pa_cons (pv 3) pa_nil))))) pa_nil))))))), ?_⟩
  obtain ⟨p, dx, d, lv, rfl, h1, h2, h3, hA, _⟩ := id hv
  obtain ⟨p', dx', d', lv', rfl, g1, g2, g3, hD, _⟩ := id hu
  refine ⟨.ref p', rfl, .ref p', .ref C, .ref C, .ref C, true, rfl, .own C, .base (.ins g1 X.cl XI.ha XI.hn XI.htk XI.hm), XI.ko, _, rfl, iteF ?_⟩
  refine ⟨.ref p, rfl, p, C, dx, _, _, rfl, h1, X.cl, X.nA, frF_axes n d, .ref p', rfl, p', C, dx', _, _, rfl, g1, X.cl, X.nA, frF_axes n d', (n : Nat), rfl, fun H1 s1 => ?_⟩
  refine ⟨.ref p, rfl, p, C, dx, _, _, rfl, s1 _ _ h1, X.cl, X.nA, frF_axes n d, .ref p, rfl, p, C, dx, _, _, rfl, s1 _ _ h1, X.cl, X.nL, frF_lows n d, d, rfl, ⟨_, SqL.of (s1 _ _ h2)⟩, fun L hL => ?_⟩
  have lA : lv.length = A.length := by simpa using h3.length
  have lD : lv'.length = D.length := by simpa using g3.length
  have hmul : lv.length * lv'.length ≤ 36 := by
    rw [lA, lD]
    exact Nat.mul_le_mul hA6 hD6
  refine lc2_dat (K := K) (walk_list (K := K) (xs := lv)) (walk_list (K := K) (a := d') (xs := lv')) hL (by omega) (fun H e => SqL.of (e _ _ (s1 _ _ h2))) (fun H e => SqL.of (e _ _ (s1 _ _ g2))) (fun i => (D.map fun b => joinL (A.getD i []) b).map mo) (fun i hi => by simp [lD]) (fun i hi => imm_mos _) (fun i x H2 H3 Q' hi e2 y k => ?_) (fun H2 acc e2 eL dL => ?_)
  · obtain ⟨rfl, hx⟩ := y
    obtain ⟨dd, hd1, hd2⟩ := h3.get hx
    obtain ⟨m, hm, rfl⟩ := mo_at hd1
    have hom := hA m (List.mem_of_getElem? hm)
    have eg : A.getD i [] = m := by rw [List.getD_eq_getElem?_getD, hm]; rfl
    obtain ⟨b, rfl, hb⟩ := Mo.trk hd2
    refine k _ _ (Same.refl _) rfl ⟨fun H4 R s4 hR => ⟨.ref p', rfl, p', C, dx', _, _, rfl, s4 _ _ (e2 _ _ (s1 _ _ g1)), X.cl, X.nL, frF_lows n d', d', rfl, ⟨_, SqL.of (s4 _ _ (e2 _ _ (s1 _ _ g2)))⟩, hR⟩, fun j y H4 H4' Q'' hj e4 st4 y4 k4 => ?_⟩
    obtain ⟨rfl, hy⟩ := y4
    obtain ⟨dd, hd1', hd2'⟩ := g3.get hy
    obtain ⟨l, hl, rfl⟩ := mo_at hd1'
    have hol := hD l (List.mem_of_getElem? hl)
    obtain ⟨c, rfl, hc⟩ := Mo.trk hd2'
    refine ⟨rfl, .ref b, rfl, .ref c, rfl, b, c, m, l, rfl, SqT.of (e4 _ _ (s1 _ _ hb)), SqT.of (e4 _ _ (s1 _ _ hc)), by rw [hom.1, hol.1], by rw [hom.1]; omega, fun H5 z s5 nz ez => k4 _ _ (mo (joinL m l)) s5 ?_ (Mo.of ez)⟩
    rw [eg]
    simp [hl]
  · have hfl : ((List.range lv.length).map fun i => (D.map fun b => joinL (A.getD i []) b).map mo).flatten = (joinsL A D).map mo := by
      rw [lA]
      have h0 : (List.range A.length).map (fun i => (D.map fun b => joinL (A.getD i []) b).map mo) = A.map fun a => (D.map fun b => joinL a b).map mo := by
        refine List.ext_getElem (by simp) fun i h1 h2 => ?_
        simp at h1
        simp [List.getD_eq_getElem?_getD, h1]
      rw [h0]
      unfold joinsL
      rw [List.map_flatMap, List.flatMap_def]
    rw [hfl] at dL
    have s2 := s1.trans e2
    refine fun x xd nx nxd nexd => ⟨x, xd, n, .ref L, joinsL A D, rfl, upd_same, hn1, hn4, MoL.same ⟨L, _, rfl, eL, dL⟩ (same_two nx nxd), joinsL_ok hA hD, by rw [joinsL_len, ← lA, ← lD]; omega, fun H3 L' sb hF hFk il => ⟨rfl, ?_⟩⟩
    exact q H3 x L' (s2.trans (same_made nx nxd sb)) (s2.new nx) hF il
theorem d_Front___or__ (B : Bt mg) (X : TxF K C) (XI : TxI K C) (mC : mg "Front" = some (.ref C)) (T : TopM K C "__or__" "Front.__or__" sFront___or__ ["self", "other"]) (Dcheck_like_axes : Def P w K mg base "check_like_axes" 1 ["left", "right"] spLike) (MkFront : MakeD P w K mg base C "Front" 3 ["self", "axes", "moments"] (spInit K C)) : MethD P w K mg base C "__or__" 5 ["self", "other"] (spBin K C (fun A D => A ++ D)) := by
  refine mk_meth T scFront___or__ (by rintro _ _ _ _ ⟨_, _, _, _, _, rfl, _⟩; rfl) fun f cdv Ar outer s H vs Q E hr h => ?_
  obtain ⟨v, u, n, A, D, rfl, hv, hu, hn1, hn4, hA6, hD6, q⟩ := h
  refine ⟨_, (pss_cons (ps_if (pt_not (pt_val (pe_callB call_isi (by rfl) B.m_isinstance (by decide +kernel) (pa_cons (pv 1) (pa_cons (pe_glob (v := .ref C) (by rfl) mC rfl) pa_nil))))) (pss_one ps_never) pss_nil)
      (pss_cons (ps_expr (pe_def Dcheck_like_axes (hr.mono (by decide)) (by rfl) (pa_cons (pe_fld (pv 0) rfl) (pa_cons (pe_fld (pv 1) rfl) pa_nil))))
      (pss_one (ps_ret (pe_makeM MkFront (hr.mono (by decide)) (by rfl) (pa_cons (pe_fld (pv 0) rfl) (pa_cons (pe_op op_cat (pe_fld (pv 0) rfl) (pe_fld (pv 1) rfl)) pa_nil))))))), ?_⟩
  obtain ⟨p, dx, d, lv, rfl, h1, h2, h3, hA, _⟩ := id hv
  obtain ⟨p', dx', d', lv', rfl, g1, g2, g3, hD, _⟩ := id hu
  have lA : lv.length = A.length := by simpa using h3.length
  have lD : lv'.length = D.length := by simpa using g3.length
  refine ⟨.ref p', rfl, .ref p', .ref C, .ref C, .ref C, true, rfl, .own C, .base (.ins g1 X.cl XI.ha XI.hn XI.htk XI.hm), XI.ko, _, rfl, iteF ?_⟩
  refine ⟨.ref p, rfl, p, C, dx, _, _, rfl, h1, X.cl, X.nA, frF_axes n d, .ref p', rfl, p', C, dx', _, _, rfl, g1, X.cl, X.nA, frF_axes n d', (n : Nat), rfl, fun H1 s1 => ?_⟩
  refine ⟨.ref p, rfl, p, C, dx, _, _, rfl, s1 _ _ h1, X.cl, X.nA, frF_axes n d, .ref p, rfl, p, C, dx, _, _, rfl, s1 _ _ h1, X.cl, X.nL, frF_lows n d, .ref p', rfl, p', C, dx', _, _, rfl, s1 _ _ g1, X.cl, X.nL, frF_lows n d', d, d', lv, lv', rfl, rfl, s1 _ _ h2, s1 _ _ g2, sz1000 (by omega), fun a ha => ?_⟩
  have s2 : Same H (upd H1 a (.lst (lv ++ lv'))) := s1.trans (same_upd ha)
  refine fun x xd nx nxd nexd => ⟨x, xd, n, .ref a, A ++ D, rfl, upd_same, hn1, hn4, MoL.same ⟨a, _, rfl, upd_same, by rw [List.map_append]; exact DaAll.append (Da.sameAll s2 _ _ g3) (Da.sameAll s2 _ _ h3)⟩ (same_two nx nxd), fun l hl => ?_, by rw [List.length_append]; omega, fun H3 L sb hF hFk il => ⟨rfl, ?_⟩⟩
  · rcases List.mem_append.mp hl with h | h
    · exact hA l h
    · exact hD l h
  · exact q H3 x L (s2.trans (same_made nx nxd sb)) (s2.new nx) hF il
end
end K5

namespace K5
open PySem PySem.Spec PyProof.Rows L2
def spJoins (K : PySem.W.Frag) : Sp := fun vs H Q _ => ∃ (v u : V) (n : Nat) (A D : List (List Int)), vs = [v, u] ∧ MoL K H v A ∧ MoL K H u D ∧ (∀ l ∈ A, Ok n l) ∧ (∀ l ∈ D, Ok n l) ∧ n ≤ 4 ∧ A.length ≤ 6 ∧ D.length ≤ 6 ∧
  ∀ H' d, Same H H' → H d = none → MoL K H' (.ref d) (joinsL A D) → Q (.ref d) H'
def spFoldsAre (K : PySem.W.Frag) (C : Addr) : Sp := fun vs H Q _ => ∃ (f w y : V) (n : Nat) (L xs : List (List Int)), vs = [f, w, y] ∧ FrontAt K C H f n L ∧ MoL K H w xs ∧ MoL K H y (xs.map (foldL L)) ∧ (∀ x ∈ xs, Ok n x) ∧ 1 ≤ n ∧ n ≤ 4 ∧ xs.length ≤ 10000 ∧ ∀ H', Same H H' → Q (.bl true) H'
def spTwo (K : PySem.W.Frag) (g : List (List Int) → List (List Int) → List Int → List Int) : Sp := fun vs H Q _ => ∃ (La Ga : Addr) (ls ds : List V) (j k : Nat) (lj lk dj dk : V) (n : Nat) (A D xs : List (List Int)), vs = [.ref La, .ref Ga, .int (j : Nat), .int (k : Nat)] ∧ H La = some (.lst ls) ∧ H Ga = some (.lst ds) ∧ ls[j]? = some lj ∧ ls[k]? = some lk ∧ ds[j]? = some dj ∧ ds[k]? = some dk ∧
  MoL K H lj A ∧ MoL K H lk D ∧ MoL K H dj (xs.map (foldL A)) ∧ MoL K H dk (xs.map (foldL D)) ∧ (∀ l ∈ A, Ok n l) ∧ (∀ l ∈ D, Ok n l) ∧ (∀ x ∈ xs, Ok n x) ∧ n ≤ 4 ∧ xs.length ≤ 10000 ∧ ∀ H' y, Same H H' → MoL K H' y (xs.map (g A D)) → Q y H'
def spSomeMoments (K : PySem.W.Frag) : Sp := fun vs H Q _ => ∃ (p : Addr) (v : V) (n : Nat) (g : List (List Int)) (z : Int), vs = [.ref p, v, .int z] ∧ z = (n : Int) ∧ PotAt H p ∧ MoL K H v g ∧ (∀ m ∈ g, Sm n m) ∧ g ≠ [] ∧ g.length ≤ 10000 ∧ n ≤ 4 ∧
  ∀ H' d ms, SameB p H H' → PotAt H' p → H d = none → MoL K H' (.ref d) ms → (∀ m ∈ ms, Sm n m) → ms.length ≤ 3 → Q (.ref d) H'
section
variable {P : Program} {w : World} {K : PySem.W.Frag} {mg : Str → Option Value} {base : Heap} {C : Addr}
theorem d_law_folds_are (B : Bt mg) (Cl : Cls K C) (T : Top K mg "_law_folds_are" s_law_folds_are ["front", "some", "dues"]) (Mfold : MethD P w K mg base C "fold" 2 ["self", "moment"] (spFold K C)) (D_law_is_moment : Def P w K mg base "_law_is_moment" 2 ["told", "span"] (spIsMoment K)) :
    Def P w K mg base "_law_folds_are" 3 ["front", "some", "dues"] (spFoldsAre K C) := by
  refine mk_def T sc_law_folds_are (by rintro _ _ _ _ ⟨_, _, _, _, _, _, rfl, _⟩; rfl) fun f cdv Ar outer s H vs Q E hr h => ?_
  obtain ⟨f, w0, y, n, L, xs, rfl, hF, hw, hy, hxs, hn1, hn4, hlen, q⟩ := h
  refine ⟨_, (pss_cons (ps_for PassesOwn.never rfl (pi_range1 (by rfl) B.m_range (pa_cons (pe_callB call_len_seq (by rfl) B.m_len PySem.boot_len (pa_cons (pv 1) pa_nil)) pa_nil)) (pg_name (i := 3) sc_law_folds_are.nd rfl (Or.inl rfl)) (pss_cons (ps_set (i := 4) sc_law_folds_are.nd rfl (Or.inl rfl) (pe_methM (pv 0) Cl Mfold (hr.mono (by decide)) (pa_cons (pe_ix ix_list (pv 1) (pv 3) (fun _ _ => rfl)) pa_nil)))
      (pss_one (ps_if (pw_or (pt_not (pt_val (pe_def D_law_is_moment (hr.mono (by decide)) (by rfl) (pa_cons (pv 4) (pa_cons (pe_callB call_len_seq (by rfl) B.m_len PySem.boot_len (pa_cons (pe_ix ix_list (pv 1) (pv 3) (fun _ _ => rfl)) pa_nil)) pa_nil))))) (pw_or1 (pt_cmpR (op_neD (hu64 hr)) (pv 4) (pe_ix ix_list (pv 2) (pv 3) (fun _ _ => rfl)) (nomark _)))).pt (pss_one (ps_ret pe_bl)) pss_nil))))
      (pss_one (ps_ret pe_bl))), ?_⟩
  obtain ⟨p, dx, d, lvF, rfl, hp, _, _, hL, _⟩ := id hF
  obtain ⟨wa, wv, rfl, hwa, hwd⟩ := id hw
  obtain ⟨ya, yv, rfl, hya, hyd⟩ := id hy
  have lw : wv.length = xs.length := by simpa using hwd.length
  refine ⟨.ref wa, rfl, wa, _, rfl, .inl (SqL.of hwa), (wv.length : Nat), rfl, by omega, by omega, ?_⟩
  refine for_range (lo := 0) (n := ((wv.length : Nat) : Int).toNat) (fun i σ H' => ∃ (y3 y4 : Option V), σ = [some (.ref p), some (.ref wa), some (.ref ya), y3, y4] ∧ Same H H') ⟨none, none, rfl, Same.refl _⟩ (fun i σ H' hi pv' => ?_) (fun σ H' pv' => ?_)
  · obtain ⟨y3, y4, rfl, e⟩ := pv'
    have hi1 : i < wv.length := by omega
    have hi2 : i < xs.length := by omega
    obtain ⟨dd, hd1, hd2⟩ := hwd.get (i := i) (v := wv[i]) (by simp [hi1])
    obtain ⟨m, hm, rfl⟩ := mo_at hd1
    have hom := hxs m (List.mem_of_getElem? hm)
    obtain ⟨yi, hyi, hyi2⟩ := DaAll.at (i := i) (d := mo (foldL L m)) hyd (by simp [hm])
    have hof : Ok n (foldL L m) := foldL_ok hom hL
    have hgw : wv[i]? = some wv[i] := by simp [hi1]
    have hmw := Mo.same hd2 e
    obtain ⟨b, eb, hb⟩ := Mo.inv hmw
    refine ⟨.ref p, rfl, p, dx, _, rfl, e _ _ hp, frF_no n d (by decide +kernel) (by decide +kernel), .ref wa, rfl, _, rfl, wa, _, _, wv[i], rfl, rfl, SqL.of (e _ _ hwa), at_of (j := i) (by omega) hgw, .ref p, wv[i], n, L, m, rfl, hF.same e, hmw, hom, hn1, hn4, fun H1 t s1 ht => ?_⟩
    have e1 := e.trans s1
    refine ⟨t, rfl, .ref wa, rfl, _, rfl, wa, _, _, wv[i], rfl, rfl, SqL.of (e1 _ _ hwa), at_of (j := i) (by omega) hgw, b, _, (by rw [eb]), .inr (s1.seqT hb), t, foldL L m, (by rw [List.length_map, hof.1, hom.1]; rfl), ht, hof.pos, by rw [hof.1]; omega, fun H2 s2 => ⟨true, rfl, iteF ?_⟩⟩
    have e2 := e1.trans s2
    refine ⟨t, rfl, .ref ya, rfl, _, rfl, ya, _, _, yi, rfl, rfl, SqL.of (e2 _ _ hya), at_of (j := i) (by omega) hyi, mo (foldL L m), mo (foldL L m), Da.dp _ _ (ht.same s2), Da.dp _ _ (Mo.same hyi2 e2), shaped_mo _, shaped_mo _, _, rfl, ?_⟩
    rw [eqv_mo]
    exact iteNS rfl ⟨_, _, rfl, e2⟩
  · obtain ⟨y3, y4, rfl, e⟩ := pv'
    exact q H' e
theorem d_law_joins (B : Bt mg) (T : Top K mg "_law_joins" s_law_joins ["some", "mates"]) (D_law_join : Def P w K mg base "_law_join" 1 ["one", "mate"] (spM K joinL)) : Def P w K mg base "_law_joins" 2 ["some", "mates"] (spJoins K) := by
  refine mk_def T sc_law_joins (by rintro _ _ _ _ ⟨_, _, _, _, _, rfl, _⟩; rfl) fun f cdv Ar outer s H vs Q E hr h => ?_
  obtain ⟨v, u, n, A, D, rfl, ⟨va, vv, rfl, hva, hvd⟩, ⟨ua, uv, rfl, hua, hud⟩, hA, hD, hn4, hA6, hD6, q⟩ := h
  refine ⟨_, (pss_cons (ps_set (i := 2) sc_law_joins.nd rfl (Or.inl rfl) (pe_lst pa_nil))
      (pss_cons (ps_for PassesOwn.never rfl (pi_list (pv 0)) (pg_name (i := 3) sc_law_joins.nd rfl (Or.inr rfl)) (pss_one (ps_expr (pe_bm PySem.F.plainAttrs_list PySem.F.slot_list_extend PySem.F.type_list_extend mt_extend (pv 2) (pa_cons (pe_lc (own := [("mate", 4)]) (g := (gName 4)) (tt := tYes) (te := (tCall (spM K joinL) [] E0 (tCons (tVar 3) (tCons (tVar 4) tNil)))) rfl sc_law_joins.nd (pi_list (pv 1)) (blkOk_by (own := [("mate", 4)]) (N := N_law_joins) (sc := defScope s_law_joins) (by decide +kernel)) (fun _ _ _ _ _ => (pg_name (i := 4) sc_law_joins.nd rfl (Or.inl rfl))) (fun _ _ _ _ _ => pts_nil) (fun _ _ _ _ _ => (pe_def D_law_join (hr.mono (by decide)) (by rfl) (pa_cons (pv 3) (pa_cons (pv 4) pa_nil))))) pa_nil)))))
      (pss_one (ps_ret (pv 2))))), ?_⟩
  have lA : vv.length = A.length := by simpa using hvd.length
  have lD : uv.length = D.length := by simpa using hud.length
  refine ⟨Nat.zero_le _, fun J hJ => ?_⟩
  have s0 : Same H (upd H J (.lst [])) := same_upd hJ
  refine ⟨.ref va, rfl, va, rfl, ⟨_, SqL.of (s0 _ _ hva)⟩, ?_⟩
  refine for_list (xs := vv) (fun i σ H' => ∃ (y3 y4 : Option V) (jv : List V), σ = [some (.ref va), some (.ref ua), some (.ref J), y3, y4] ∧ Same H H' ∧ H' J = some (.lst jv) ∧ DaAll K H' jv ((joinsL (A.take i) D).map mo)) ⟨none, none, [], rfl, s0, upd_same, .nil⟩ (fun i σ H' _ pv' => ?_) (fun i x σ H' hx pv' => ?_) (fun σ H' pv' => ?_)
  · obtain ⟨_, _, _, rfl, e, _⟩ := pv'
    exact SqL.of (e _ _ hva)
  · obtain ⟨y3, y4, jv, rfl, e, eJ, dJ⟩ := pv'
    obtain ⟨dd, hd1, hd2⟩ := hvd.get hx
    obtain ⟨m, hm, rfl⟩ := mo_at hd1
    have hom := hA m (List.mem_of_getElem? hm)
    obtain ⟨b, rfl, hb⟩ := Mo.inv (Mo.same hd2 e)
    have hi : i < A.length := (List.getElem?_eq_some_iff.mp hm).1
    have htk : joinsL (A.take (i + 1)) D = joinsL (A.take i) D ++ D.map fun z => joinL m z := by
      unfold joinsL
      rw [List.take_add_one, hm, List.flatMap_append]
      simp
    refine ⟨.ref J, rfl, .inl ⟨rfl, _, SqL.of eJ⟩, .ref ua, rfl, ua, rfl, ⟨_, SqL.of (e _ _ hua)⟩, fun L hL => ?_⟩
    refine lc_dat (K := K) walk_list hL (by omega) (fun H1 e1 => SqL.of (e1 _ _ (e _ _ hua))) ((D.map fun z => joinL m z).map mo) (by simp [lD]) (imm_mos _) (fun k x3 H3 H3' Q' hk e3 y3' kk => ?_) (fun H3 acc e3 eL dL => ?_)
    · obtain ⟨rfl, hy⟩ := y3'
      obtain ⟨dd, hd1', hd2'⟩ := hud.get hy
      obtain ⟨l, hl, rfl⟩ := mo_at hd1'
      have hol := hD l (List.mem_of_getElem? hl)
      obtain ⟨c, rfl, hc⟩ := Mo.inv (Mo.same hd2' (e.trans e3))
      refine ⟨rfl, .ref b, rfl, .ref c, rfl, b, c, m, l, rfl, e3.seqT hb, hc, by rw [hom.1, hol.1], by rw [hom.1]; omega, fun H5 z s5 nz ez => kk _ _ (mo (joinL m l)) s5 ?_ (Mo.of ez)⟩
      simp [hl]
    · have eJ3 := e3 _ _ eJ
      have l1 : jv.length = (joinsL (A.take i) D).length := by simpa using dJ.length
      rw [joinsL_len, List.length_take] at l1
      have l2 : acc.length = D.length := by simpa using dL.length
      have hle : min i A.length * D.length ≤ 6 * 6 := Nat.mul_le_mul (by omega) hD6
      have st : ST K H3 (upd H3 J (.lst (jv ++ acc))) := st_upd eJ3 True.intro
      refine ⟨J, L, jv, acc, rfl, rfl, eJ3, eL, sz1000 (by omega), _, _, jv ++ acc, rfl, (e.trans e3).mut hJ, upd_same, ?_⟩
      rw [htk, List.map_append]
      exact DaAll.append (Da.stAll st _ _ (imm_mos _) dL) (Da.stAll (e3.st.trans st) _ _ (imm_mos _) dJ)
  · obtain ⟨y3, y4, jv, rfl, e, eJ, dJ⟩ := pv'
    rw [lA, List.take_of_length_le (Nat.le_refl _)] at dJ
    exact ⟨.ref J, rfl, q H' J e hJ ⟨J, jv, rfl, eJ, dJ⟩⟩
theorem d__law_both_folds (B : Bt mg) (T : Top K mg "_law_both_folds" s_law_both_folds ["leasts", "folds", "j", "k"]) (D_law_join : Def P w K mg base "_law_join" 1 ["one", "mate"] (spM K joinL)) : Def P w K mg base "_law_both_folds" 2 ["leasts", "folds", "j", "k"] (spTwo K bothF) := by
  refine mk_def T sc_law_both_folds (by rintro _ _ _ _ ⟨_, _, _, _, _, _, _, _, _, _, _, _, _, _, rfl, _⟩; rfl) fun f cdv Ar outer s H vs Q E hr h => ?_
  obtain ⟨La, Ga, ls, ds, j, k, lj, lk, dj, dk, n, A, D, xs, rfl, hLa, hGa, ej, ek, fj, fk, hA, hD, hfA, hfD, hAo, hDo, hxs, hn4, hlen, q⟩ := h
  refine ⟨_, (pss_cons (ps_if (pt_cmpR (op_eqD (hu64 hr)) (pe_ix ix_list (pv 0) (pv 2) (fun _ _ => rfl)) (pe_lst pa_nil) (nomark _)) (pss_one (ps_ret (pe_ix ix_list (pv 1) (pv 2) (fun _ _ => rfl)))) pss_nil)
      (pss_cons (ps_if (pt_cmpR (op_eqD (hu64 hr)) (pe_ix ix_list (pv 0) (pv 3) (fun _ _ => rfl)) (pe_lst pa_nil) (nomark _)) (pss_one (ps_ret (pe_ix ix_list (pv 1) (pv 3) (fun _ _ => rfl)))) pss_nil)
      (pss_one (ps_ret (pe_lc (own := [("at", 4)]) (g := (gName 4)) (tt := tYes) (te := (tCall (spM K joinL) [] E0 (tCons (tOp (rIxL K) (tOp (rIxL K) (tVar 1) (tVar 2)) (tVar 4)) (tCons (tOp (rIxL K) (tOp (rIxL K) (tVar 1) (tVar 3)) (tVar 4)) tNil)))) rfl sc_law_both_folds.nd (pi_range1 (by rfl) B.m_range (pa_cons (pe_callB call_len_seq (by rfl) B.m_len PySem.boot_len (pa_cons (pe_ix ix_list (pv 1) (pv 2) (fun _ _ => rfl)) pa_nil)) pa_nil)) (blkOk_by (own := [("at", 4)]) (N := N_law_both_folds) (sc := defScope s_law_both_folds) (by decide +kernel)) (fun _ _ _ _ _ => (pg_name (i := 4) sc_law_both_folds.nd rfl (Or.inl rfl))) (fun _ _ _ _ _ => pts_nil) (fun _ _ _ _ _ => (pe_def D_law_join (hr.mono (by decide)) (by rfl) (pa_cons (pe_ix ix_list (pe_ix ix_list (pv 1) (pv 2) (fun _ _ => rfl)) (pv 4) (fun _ _ => rfl)) (pa_cons (pe_ix ix_list (pe_ix ix_list (pv 1) (pv 3) (fun _ _ => rfl)) (pv 4) (fun _ _ => rfl)) pa_nil))))))))), ?_⟩
  refine ⟨.ref La, rfl, .int (j : Nat), rfl, La, _, _, lj, rfl, rfl, SqL.of hLa, at_of (j := j) rfl ej, Nat.zero_le _, fun z hz => ?_⟩
  have e1 : Same H (upd H z (.lst [])) := same_upd hz
  refine ⟨.list (A.map mo), .list [], Da.dp _ _ (hA.same e1).da, Da.dp _ _ (.lst (SqL.of upd_same) .nil), shaped_mos _, by decide, _, rfl, ?_⟩
  rw [show PyData.eqv (.list (A.map mo)) (.list []) = decide (A = []) from eqv_mos A []]
  refine ite2 (fun z1 => ?_) (fun z1 => ?_)
  · have eA : A = [] := of_decide_eq_true z1
    refine ⟨.ref Ga, rfl, .int (j : Nat), rfl, Ga, _, _, dj, rfl, rfl, SqL.of (e1 _ _ hGa), at_of (j := j) rfl fj, q _ _ e1 ?_⟩
    have : xs.map (bothF A D) = xs.map (foldL A) := List.map_congr_left fun m _ => if_pos eA
    rw [this]
    exact hfA.same e1
  have nA : A ≠ [] := by simpa using z1
  refine ⟨.ref La, rfl, .int (k : Nat), rfl, La, _, _, lk, rfl, rfl, SqL.of (e1 _ _ hLa), at_of (j := k) rfl ek, Nat.zero_le _, fun z hz => ?_⟩
  have e2 := e1.trans (same_upd (o := .lst []) hz)
  refine ⟨.list (D.map mo), .list [], Da.dp _ _ (hD.same e2).da, Da.dp _ _ (.lst (SqL.of upd_same) .nil), shaped_mos _, by decide, _, rfl, ?_⟩
  rw [show PyData.eqv (.list (D.map mo)) (.list []) = decide (D = []) from eqv_mos D []]
  refine ite2 (fun z2 => ?_) (fun z2 => ?_)
  · have eD : D = [] := of_decide_eq_true z2
    refine ⟨.ref Ga, rfl, .int (k : Nat), rfl, Ga, _, _, dk, rfl, rfl, SqL.of (e2 _ _ hGa), at_of (j := k) rfl fk, q _ _ e2 ?_⟩
    have : xs.map (bothF A D) = xs.map (foldL D) := List.map_congr_left fun m _ => (if_neg nA).trans (if_pos eD)
    rw [this]
    exact hfD.same e2
  have nD : D ≠ [] := by simpa using z2
  obtain ⟨ja, jv, rfl, hja, hjd⟩ := hfA.same e2
  obtain ⟨ka, kv, rfl, hka, hkd⟩ := hfD.same e2
  have lj' : jv.length = xs.length := by simpa using hjd.length
  have lk' : kv.length = xs.length := by simpa using hkd.length
  refine ⟨.ref Ga, rfl, .int (j : Nat), rfl, Ga, _, _, .ref ja, rfl, rfl, SqL.of (e2 _ _ hGa), at_of (j := j) rfl fj, ja, _, rfl, .inl (SqL.of hja), (jv.length : Nat), rfl, by omega, by omega, fun L hL => ?_⟩
  refine lc_dat (K := K) (walk_range (lo := 0) (n := ((jv.length : Nat) : Int).toNat)) hL (by omega) (fun _ _ => True.intro) ((xs.map (bothF A D)).map mo) (by simp [lj']) (imm_mos _) (fun i x3 H3 H3' Q' hi e3 y3' kk => ?_) (fun H3 acc e3 eL dL => ?_)
  · obtain ⟨rfl, rfl⟩ := y3'
    have hi1 : i < jv.length := by omega
    have hi2 : i < xs.length := by omega
    have hi3 : i < kv.length := by omega
    have hom := hxs xs[i] (List.getElem_mem hi2)
    obtain ⟨yj, hyj, hyj2⟩ := DaAll.at (i := i) (d := mo (foldL A xs[i])) hjd (by simp [hi2])
    obtain ⟨yk, hyk, hyk2⟩ := DaAll.at (i := i) (d := mo (foldL D xs[i])) hkd (by simp [hi2])
    obtain ⟨b, rfl, hb⟩ := Mo.inv (Mo.same hyj2 e3)
    obtain ⟨c, rfl, hc⟩ := Mo.inv (Mo.same hyk2 e3)
    have oA : Ok n (foldL A xs[i]) := foldL_ok hom hAo
    have oD : Ok n (foldL D xs[i]) := foldL_ok hom hDo
    have e4 := e2.trans e3
    refine ⟨rfl, .ref Ga, rfl, .int (j : Nat), rfl, Ga, _, _, .ref ja, rfl, rfl, SqL.of (e4 _ _ hGa), at_of (j := j) rfl fj, _, rfl, ja, _, _, .ref b, rfl, rfl, SqL.of (e3 _ _ hja), at_of (j := i) (by omega) hyj, .ref Ga, rfl, .int (k : Nat), rfl, Ga, _, _, .ref ka, rfl, rfl, SqL.of (e4 _ _ hGa), at_of (j := k) rfl fk, _, rfl, ka, _, _, .ref c, rfl, rfl, SqL.of (e3 _ _ hka), at_of (j := i) (by omega) hyk, b, c, _, _, rfl, hb, hc, by rw [oA.1, oD.1], by rw [oA.1]; omega, fun H5 z s5 nz ez => kk _ _ (mo (joinL (foldL A xs[i]) (foldL D xs[i]))) s5 ?_ (Mo.of ez)⟩
    have : bothF A D xs[i] = joinL (foldL A xs[i]) (foldL D xs[i]) := (if_neg nA).trans (if_neg nD)
    simp [hi2, this]
  · exact q H3 (.ref L) (e2.trans e3) ⟨L, acc, rfl, eL, dL⟩
theorem d__law_either_folds (B : Bt mg) (T : Top K mg "_law_either_folds" s_law_either_folds ["leasts", "folds", "j", "k"]) (D_law_meet : Def P w K mg base "_law_meet" 1 ["one", "mate"] (spM K meetL)) : Def P w K mg base "_law_either_folds" 2 ["leasts", "folds", "j", "k"] (spTwo K eitherF) := by
  refine mk_def T sc_law_either_folds (by rintro _ _ _ _ ⟨_, _, _, _, _, _, _, _, _, _, _, _, _, _, rfl, _⟩; rfl) fun f cdv Ar outer s H vs Q E hr h => ?_
  obtain ⟨La, Ga, ls, ds, j, k, lj, lk, dj, dk, n, A, D, xs, rfl, hLa, hGa, ej, ek, fj, fk, hA, hD, hfA, hfD, hAo, hDo, hxs, hn4, hlen, q⟩ := h
  refine ⟨_, (pss_cons (ps_if (pt_cmpR (op_eqD (hu64 hr)) (pe_ix ix_list (pv 0) (pv 2) (fun _ _ => rfl)) (pe_lst pa_nil) (nomark _)) (pss_one (ps_ret (pe_ix ix_list (pv 1) (pv 3) (fun _ _ => rfl)))) pss_nil)
      (pss_cons (ps_if (pt_cmpR (op_eqD (hu64 hr)) (pe_ix ix_list (pv 0) (pv 3) (fun _ _ => rfl)) (pe_lst pa_nil) (nomark _)) (pss_one (ps_ret (pe_ix ix_list (pv 1) (pv 2) (fun _ _ => rfl)))) pss_nil)
      (pss_one (ps_ret (pe_lc (own := [("at", 4)]) (g := (gName 4)) (tt := tYes) (te := (tCall (spM K meetL) [] E0 (tCons (tOp (rIxL K) (tOp (rIxL K) (tVar 1) (tVar 2)) (tVar 4)) (tCons (tOp (rIxL K) (tOp (rIxL K) (tVar 1) (tVar 3)) (tVar 4)) tNil)))) rfl sc_law_either_folds.nd (pi_range1 (by rfl) B.m_range (pa_cons (pe_callB call_len_seq (by rfl) B.m_len PySem.boot_len (pa_cons (pe_ix ix_list (pv 1) (pv 2) (fun _ _ => rfl)) pa_nil)) pa_nil)) (blkOk_by (own := [("at", 4)]) (N := N_law_either_folds) (sc := defScope s_law_either_folds) (by decide +kernel)) (fun _ _ _ _ _ => (pg_name (i := 4) sc_law_either_folds.nd rfl (Or.inl rfl))) (fun _ _ _ _ _ => pts_nil) (fun _ _ _ _ _ => (pe_def D_law_meet (hr.mono (by decide)) (by rfl) (pa_cons (pe_ix ix_list (pe_ix ix_list (pv 1) (pv 2) (fun _ _ => rfl)) (pv 4) (fun _ _ => rfl)) (pa_cons (pe_ix ix_list (pe_ix ix_list (pv 1) (pv 3) (fun _ _ => rfl)) (pv 4) (fun _ _ => rfl)) pa_nil))))))))), ?_⟩
  refine ⟨.ref La, rfl, .int (j : Nat), rfl, La, _, _, lj, rfl, rfl, SqL.of hLa, at_of (j := j) rfl ej, Nat.zero_le _, fun z hz => ?_⟩
  have e1 : Same H (upd H z (.lst [])) := same_upd hz
  refine ⟨.list (A.map mo), .list [], Da.dp _ _ (hA.same e1).da, Da.dp _ _ (.lst (SqL.of upd_same) .nil), shaped_mos _, by decide, _, rfl, ?_⟩
  rw [show PyData.eqv (.list (A.map mo)) (.list []) = decide (A = []) from eqv_mos A []]
  refine ite2 (fun z1 => ?_) (fun z1 => ?_)
  · have eA : A = [] := of_decide_eq_true z1
    refine ⟨.ref Ga, rfl, .int (k : Nat), rfl, Ga, _, _, dk, rfl, rfl, SqL.of (e1 _ _ hGa), at_of (j := k) rfl fk, q _ _ e1 ?_⟩
    have : xs.map (eitherF A D) = xs.map (foldL D) := List.map_congr_left fun m _ => if_pos eA
    rw [this]
    exact hfD.same e1
  have nA : A ≠ [] := by simpa using z1
  refine ⟨.ref La, rfl, .int (k : Nat), rfl, La, _, _, lk, rfl, rfl, SqL.of (e1 _ _ hLa), at_of (j := k) rfl ek, Nat.zero_le _, fun z hz => ?_⟩
  have e2 := e1.trans (same_upd (o := .lst []) hz)
  refine ⟨.list (D.map mo), .list [], Da.dp _ _ (hD.same e2).da, Da.dp _ _ (.lst (SqL.of upd_same) .nil), shaped_mos _, by decide, _, rfl, ?_⟩
  rw [show PyData.eqv (.list (D.map mo)) (.list []) = decide (D = []) from eqv_mos D []]
  refine ite2 (fun z2 => ?_) (fun z2 => ?_)
  · have eD : D = [] := of_decide_eq_true z2
    refine ⟨.ref Ga, rfl, .int (j : Nat), rfl, Ga, _, _, dj, rfl, rfl, SqL.of (e2 _ _ hGa), at_of (j := j) rfl fj, q _ _ e2 ?_⟩
    have : xs.map (eitherF A D) = xs.map (foldL A) := List.map_congr_left fun m _ => (if_neg nA).trans (if_pos eD)
    rw [this]
    exact hfA.same e2
  have nD : D ≠ [] := by simpa using z2
  obtain ⟨ja, jv, rfl, hja, hjd⟩ := hfA.same e2
  obtain ⟨ka, kv, rfl, hka, hkd⟩ := hfD.same e2
  have lj' : jv.length = xs.length := by simpa using hjd.length
  have lk' : kv.length = xs.length := by simpa using hkd.length
  refine ⟨.ref Ga, rfl, .int (j : Nat), rfl, Ga, _, _, .ref ja, rfl, rfl, SqL.of (e2 _ _ hGa), at_of (j := j) rfl fj, ja, _, rfl, .inl (SqL.of hja), (jv.length : Nat), rfl, by omega, by omega, fun L hL => ?_⟩
  refine lc_dat (K := K) (walk_range (lo := 0) (n := ((jv.length : Nat) : Int).toNat)) hL (by omega) (fun _ _ => True.intro) ((xs.map (eitherF A D)).map mo) (by simp [lj']) (imm_mos _) (fun i x3 H3 H3' Q' hi e3 y3' kk => ?_) (fun H3 acc e3 eL dL => ?_)
  · obtain ⟨rfl, rfl⟩ := y3'
    have hi1 : i < jv.length := by omega
    have hi2 : i < xs.length := by omega
    have hi3 : i < kv.length := by omega
    have hom := hxs xs[i] (List.getElem_mem hi2)
    obtain ⟨yj, hyj, hyj2⟩ := DaAll.at (i := i) (d := mo (foldL A xs[i])) hjd (by simp [hi2])
    obtain ⟨yk, hyk, hyk2⟩ := DaAll.at (i := i) (d := mo (foldL D xs[i])) hkd (by simp [hi2])
    obtain ⟨b, rfl, hb⟩ := Mo.inv (Mo.same hyj2 e3)
    obtain ⟨c, rfl, hc⟩ := Mo.inv (Mo.same hyk2 e3)
    have oA : Ok n (foldL A xs[i]) := foldL_ok hom hAo
    have oD : Ok n (foldL D xs[i]) := foldL_ok hom hDo
    have e4 := e2.trans e3
    refine ⟨rfl, .ref Ga, rfl, .int (j : Nat), rfl, Ga, _, _, .ref ja, rfl, rfl, SqL.of (e4 _ _ hGa), at_of (j := j) rfl fj, _, rfl, ja, _, _, .ref b, rfl, rfl, SqL.of (e3 _ _ hja), at_of (j := i) (by omega) hyj, .ref Ga, rfl, .int (k : Nat), rfl, Ga, _, _, .ref ka, rfl, rfl, SqL.of (e4 _ _ hGa), at_of (j := k) rfl fk, _, rfl, ka, _, _, .ref c, rfl, rfl, SqL.of (e3 _ _ hka), at_of (j := i) (by omega) hyk, b, c, _, _, rfl, hb, hc, by rw [oA.1, oD.1], by rw [oA.1]; omega, fun H5 z s5 nz ez => kk _ _ (mo (meetL (foldL A xs[i]) (foldL D xs[i]))) s5 ?_ (Mo.of ez)⟩
    have : eitherF A D xs[i] = meetL (foldL A xs[i]) (foldL D xs[i]) := (if_neg nA).trans (if_neg nD)
    simp [hi2, this]
  · exact q H3 (.ref L) (e2.trans e3) ⟨L, acc, rfl, eL, dL⟩
theorem d_law_some_moments (B : Bt mg) (T : Top K mg "_law_some_moments" s_law_some_moments ["pot", "grid", "span"]) (D_law_draw : Def P w K mg base "_law_draw" 1 ["pot", "size"] (spDraw K)) (D_law_spot : Def P w K mg base "_law_spot" 2 ["pot", "grid", "span"] (spSpot K)) : Def P w K mg base "_law_some_moments" 3 ["pot", "grid", "span"] (spSomeMoments K) := by
  refine mk_def T sc_law_some_moments (by rintro _ _ _ _ ⟨_, _, _, _, _, rfl, _⟩; rfl) fun f cdv Ar outer s H vs Q E hr h => ?_
  obtain ⟨p, v, n, g, z, rfl, hz, pt, hg, hgsm, hgne, hgl, hn4, q⟩ := h
  subst hz
  refine ⟨_, (pss_cons (ps_if (pt_cmpR op_eq (pe_def D_law_draw (hr.mono (by decide)) (by rfl) (pa_cons (pv 0) (pa_cons pe_int pa_nil))) pe_int (nomark _)) (pss_one (ps_ret (pe_lst pa_nil))) pss_nil)
      (pss_one (ps_ret (pe_lc (own := [("k", 3)]) (g := (gName 3)) (tt := tYes) (te := (tCall (spSpot K) [] E0 (tCons (tVar 0) (tCons (tVar 1) (tCons (tVar 2) tNil))))) rfl sc_law_some_moments.nd (pi_range1 (by rfl) B.m_range (pa_cons (pe_op op_add pe_int (pe_def D_law_draw (hr.mono (by decide)) (by rfl) (pa_cons (pv 0) (pa_cons pe_int pa_nil)))) pa_nil)) (blkOk_by (own := [("k", 3)]) (N := N_law_some_moments) (sc := defScope s_law_some_moments) (by decide +kernel)) (fun _ _ _ _ _ => (pg_name (i := 3) sc_law_some_moments.nd rfl (Or.inl rfl))) (fun _ _ _ _ _ => pts_nil) (fun _ _ _ _ _ => (pe_def D_law_spot (hr.mono (by decide)) (by rfl) (pa_cons (pv 0) (pa_cons (pv 1) (pa_cons (pv 2) pa_nil))))))))), ?_⟩
  refine ⟨.ref p, rfl, p, 4, rfl, pt, by decide, by decide, fun H1 r s1 p1 r0 r1 => ⟨rfl, _, rfl, ite2 (fun z => ?_) (fun z => ?_)⟩⟩
  · refine ⟨Nat.zero_le _, fun D hD => ?_⟩
    have nD : H D = none := s1.fresh pt.there hD p1.there
    exact q _ D [] (s1.trans (Same.b (same_upd hD))) (p1.upd (p1.ne hD)) nD ⟨D, [], rfl, upd_same, .nil⟩ (fun m hm => by simp at hm) (by simp)
  · refine ⟨.ref p, rfl, p, 3, rfl, p1, by decide, by decide, fun H2 many s2 p2 m0 m3 => ⟨_, _, rfl, rfl, _, rfl, by omega, by omega, fun D hD => ?_⟩⟩
    have s12 := s1.trans s2
    have nD : H D = none := s12.fresh pt.there hD p2.there
    have npD := p2.ne hD
    have hg2 := hg.sameB s12 pt
    refine lc_it (walk_range (lo := 0) (n := (1 + many).toNat)) (fun i H' => SameB p H2 H' ∧ PotAt H' p ∧ ∃ (gms : List (List Int)), MoL K H' (.ref D) gms ∧ gms.length = i ∧ ∀ m ∈ gms, Sm n m)
      ⟨Same.b (same_upd hD), p2.upd npD, [], ⟨D, [], rfl, upd_same, .nil⟩, rfl, fun m hm => by simp at hm⟩ (fun i H' _ _ => True.intro) (fun i x H' H'' hi pv' y => ?_) (fun H6 pv' => ?_)
    · obtain ⟨rfl, rfl⟩ := y
      obtain ⟨e1, pt6, gms, hG, hl, hsm⟩ := pv'
      refine ⟨rfl, .ref p, rfl, v, rfl, .int (n : Nat), rfl, p, v, n, g, rfl, pt6, hg2.sameB e1 p2, hgsm, hgne, hgl, hn4, fun H7 y m s7 pt7 hy hm => ?_⟩
      obtain ⟨D', lv, eD, h1, h2⟩ := hG.sameB s7 pt6
      cases eD
      have lv1 : lv.length = gms.length := by simpa using h2.length
      have st : ST K H7 (L2.upd H7 D (.lst (lv ++ [y]))) := st_upd h1 True.intro
      refine ⟨lv, h1, ?_, (e1.trans s7).mut hD, pt7.upd npD, gms ++ [m], ⟨D, _, rfl, upd_same, ?_⟩, by simp [hl], fun z hz => ?_⟩
      · rw [lv1, hl]
        exact Nat.lt_of_lt_of_le hi (Nat.le_trans (show (1 + many).toNat ≤ 7 by omega) (by decide))
      · rw [List.map_append]
        exact DaAll.snoc (Da.st st _ _ (imm_mo _) hy) (Da.stAll st _ _ (imm_mos _) h2)
      · rcases List.mem_append.mp hz with hz | hz
        · exact hsm z hz
        · rw [List.mem_singleton.mp hz]
          exact hm
    · obtain ⟨e6, pt6, gms, hG, hGl, hGsm⟩ := pv'
      exact q H6 D gms (s12.trans e6) pt6 nD hG hGsm (by omega)
end
end K5

namespace K5
open PySem PySem.Spec PyProof.Rows L2
/-- a list whose first item is no tuple -/
def NM (H : Hp) (q : Addr) : Prop := ∃ x l o, H q = some (.lst (.ref x :: l)) ∧ H x = some o ∧ NoTup o
section
variable {K : PySem.W.Frag} {C : Addr} {H : Hp} {v : V} {ms : List (List Int)} {q a : Addr} {l l' : List V} {n : Nat}
theorem NM.ofMo {vs : List V} (e : H q = some (.lst (v :: vs))) (h : MoL K H v ms) : NM H q := by
  obtain ⟨a, lv, rfl, h1, _⟩ := h
  exact ⟨a, vs, _, e, h1, True.intro⟩
theorem NM.ofFr {vs : List V} (e : H q = some (.lst (v :: vs))) (h : FrontAt K C H v n ms) : NM H q := by
  obtain ⟨p, dx, d, lv, rfl, h1, _⟩ := h
  exact ⟨p, vs, _, e, h1, True.intro⟩
theorem MoL.neN (h : MoL K H (.ref a) ms) (k : NM H q) : a ≠ q := by
  obtain ⟨a', lv, e, h1, h2⟩ := h
  cases e
  obtain ⟨x, l, o, k1, k2, k3⟩ := k
  intro z
  subst z
  rw [h1] at k1
  cases k1
  cases ms with
  | nil => cases h2
  | cons m ms =>
    cases h2 with
    | cons r _ =>
      obtain ⟨b, eb, hb⟩ := Mo.trk r
      cases eb
      rw [k2] at hb
      cases hb
      exact k3
theorem MoL.updN (h : MoL K H v ms) (k : NM H q) : MoL K (L2.upd H q (.lst l')) v ms := by
  have h0 := h
  obtain ⟨a, lv, rfl, h1, h2⟩ := h
  obtain ⟨x, l, o, k1, k2, k3⟩ := id k
  exact ⟨a, lv, rfl, by rw [upd_ne (h0.neN k)]; exact h1, Da.stAll (st_upd k1 True.intro) _ _ (imm_mos _) h2⟩
theorem FrontAt.updN {L : List (List Int)} (h : FrontAt K C H v n L) (k : NM H q) : FrontAt K C (L2.upd H q (.lst l')) v n L := by
  obtain ⟨p, dx, d, lv, rfl, h1, h2, h3, r⟩ := h
  have hd : MoL K H (.ref d) L := ⟨d, lv, rfl, h2, h3⟩
  obtain ⟨x, l, o, k1, k2, k3⟩ := id k
  have np : p ≠ q := fun z => by
    subst z
    rw [h1] at k1
    cases k1
  exact ⟨p, dx, d, lv, rfl, by rw [upd_ne np]; exact h1, by rw [upd_ne (hd.neN k)]; exact h2, Da.stAll (st_upd k1 True.intro) _ _ (imm_mos _) h3, r⟩
end
/-- fronts, leasts and folds -/
def St (K : PySem.W.Frag) (C : Addr) (H : Hp) (Fa La Ga : Addr) (n : Nat) (xs : List (List Int)) (Ls : List (List (List Int))) : Prop :=
  ∃ fs ls ds : List V, H Fa = some (.lst fs) ∧ H La = some (.lst ls) ∧ H Ga = some (.lst ds) ∧ fs.length = Ls.length ∧ ls.length = Ls.length ∧ ds.length = Ls.length ∧
    (∀ (i : Nat) (L : List (List Int)), Ls[i]? = some L → ∃ f l d : V, fs[i]? = some f ∧ ls[i]? = some l ∧ ds[i]? = some d ∧ FrontAt K C H f n L ∧ MoL K H l L ∧ MoL K H d (xs.map (foldL L))) ∧ Fa ≠ La ∧ Fa ≠ Ga ∧ La ≠ Ga
section
variable {K : PySem.W.Frag} {C : Addr} {H H' : Hp} {Fa La Ga p : Addr} {n : Nat} {xs : List (List Int)} {Ls : List (List (List Int))}
theorem St.same (S : St K C H Fa La Ga n xs Ls) (e : Same H H') : St K C H' Fa La Ga n xs Ls := by
  obtain ⟨fs, ls, ds, h1, h2, h3, l1, l2, l3, hat, r⟩ := S
  refine ⟨fs, ls, ds, e _ _ h1, e _ _ h2, e _ _ h3, l1, l2, l3, fun i L hi => ?_, r⟩
  obtain ⟨f, l, d, a1, a2, a3, b1, b2, b3⟩ := hat i L hi
  exact ⟨f, l, d, a1, a2, a3, b1.same e, b2.same e, b3.same e⟩
theorem nm_pot {H : Hp} {q p : Addr} (k : NM H q) (pt : PotAt H p) : q ≠ p := by
  obtain ⟨x, l, o, k1, _⟩ := k
  exact ref_pot k1 pt
theorem first_of {α : Type} {l : List α} {x : α} (h : l[0]? = some x) : ∃ r, l = x :: r := by
  cases l with
  | nil => cases h
  | cons y r =>
    cases h
    exact ⟨r, rfl⟩
theorem St.nms (S : St K C H Fa La Ga n xs Ls) (hpos : 0 < Ls.length) : NM H Fa ∧ NM H La ∧ NM H Ga := by
  obtain ⟨fs, ls, ds, h1, h2, h3, l1, l2, l3, hat, r⟩ := S
  obtain ⟨f, l, d, a1, a2, a3, b1, b2, b3⟩ := hat 0 Ls[0] (by simp [hpos])
  obtain ⟨fr, rfl⟩ := first_of a1
  obtain ⟨lr, rfl⟩ := first_of a2
  obtain ⟨dr, rfl⟩ := first_of a3
  exact ⟨NM.ofFr h1 b1, NM.ofMo h2 b2, NM.ofMo h3 b3⟩
theorem St.sameB (S : St K C H Fa La Ga n xs Ls) (hpos : 0 < Ls.length) (e : SameB p H H') (pt : PotAt H p) : St K C H' Fa La Ga n xs Ls := by
  obtain ⟨m1, m2, m3⟩ := S.nms hpos
  obtain ⟨fs, ls, ds, h1, h2, h3, l1, l2, l3, hat, r⟩ := S
  refine ⟨fs, ls, ds, e _ _ (nm_pot m1 pt) h1, e _ _ (nm_pot m2 pt) h2, e _ _ (nm_pot m3 pt) h3, l1, l2, l3, fun i L hi => ?_, r⟩
  obtain ⟨f, l, d, a1, a2, a3, b1, b2, b3⟩ := hat i L hi
  exact ⟨f, l, d, a1, a2, a3, b1.sameB e pt, b2.sameB e pt, b3.sameB e pt⟩
theorem snoc_at {α : Type} {l : List α} {x : α} {i : Nat} (h : i = l.length) : (l ++ [x])[i]? = some x := by
  subst h
  simp
theorem St.grow {f l d : V} {L : List (List Int)} (S : St K C H Fa La Ga n xs Ls) (hpos : 0 < Ls.length) (hf : FrontAt K C H f n L) (hl : MoL K H l L) (hd : MoL K H d (xs.map (foldL L))) (pt : PotAt H p) :
    ∃ fs ls ds : List V, H Fa = some (.lst fs) ∧ H La = some (.lst ls) ∧ H Ga = some (.lst ds) ∧ fs.length = Ls.length ∧ ls.length = Ls.length ∧ ds.length = Ls.length ∧ Fa ≠ La ∧ Fa ≠ Ga ∧ La ≠ Ga ∧
      St K C (L2.upd (L2.upd (L2.upd H Fa (.lst (fs ++ [f]))) La (.lst (ls ++ [l]))) Ga (.lst (ds ++ [d]))) Fa La Ga n xs (Ls ++ [L]) ∧
      PotAt (L2.upd (L2.upd (L2.upd H Fa (.lst (fs ++ [f]))) La (.lst (ls ++ [l]))) Ga (.lst (ds ++ [d]))) p ∧
      ∀ v ms, MoL K H v ms → MoL K (L2.upd (L2.upd (L2.upd H Fa (.lst (fs ++ [f]))) La (.lst (ls ++ [l]))) Ga (.lst (ds ++ [d]))) v ms := by
  obtain ⟨m1, m2, m3⟩ := S.nms hpos
  obtain ⟨fs, ls, ds, h1, h2, h3, l1, l2, l3, hat, r1, r2, r3⟩ := S
  obtain ⟨f0, l0, d0, a1, a2, a3, b1, b2, b3⟩ := hat 0 Ls[0] (by simp [hpos])
  obtain ⟨fr, efr⟩ := first_of a1
  obtain ⟨lr, elr⟩ := first_of a2
  obtain ⟨dr, edr⟩ := first_of a3
  have p1 := (nm_pot m1 pt).symm
  have p2 := (nm_pot m2 pt).symm
  have p3 := (nm_pot m3 pt).symm
  have e2 : L2.upd H Fa (.lst (fs ++ [f])) La = some (.lst ls) := by rw [upd_ne r1.symm]; exact h2
  have m2' : NM (L2.upd H Fa (.lst (fs ++ [f]))) La := by
    rw [elr] at e2
    exact NM.ofMo e2 (b2.updN m1)
  have e3 : L2.upd (L2.upd H Fa (.lst (fs ++ [f]))) La (.lst (ls ++ [l])) Ga = some (.lst ds) := by rw [upd_ne r3.symm, upd_ne r2.symm]; exact h3
  have m3' : NM (L2.upd (L2.upd H Fa (.lst (fs ++ [f]))) La (.lst (ls ++ [l]))) Ga := by
    rw [edr] at e3
    exact NM.ofMo e3 ((b3.updN m1).updN m2')
  have pm : ∀ v ms, MoL K H v ms → MoL K (L2.upd (L2.upd (L2.upd H Fa (.lst (fs ++ [f]))) La (.lst (ls ++ [l]))) Ga (.lst (ds ++ [d]))) v ms := fun v ms h => ((h.updN m1).updN m2').updN m3'
  have pf : ∀ v L, FrontAt K C H v n L → FrontAt K C (L2.upd (L2.upd (L2.upd H Fa (.lst (fs ++ [f]))) La (.lst (ls ++ [l]))) Ga (.lst (ds ++ [d]))) v n L := fun v L h => ((h.updN m1).updN m2').updN m3'
  refine ⟨fs, ls, ds, h1, h2, h3, l1, l2, l3, r1, r2, r3, ⟨fs ++ [f], ls ++ [l], ds ++ [d], by rw [upd_ne r2, upd_ne r1, upd_same], by rw [upd_ne r3, upd_same], upd_same, by simp [l1], by simp [l2], by simp [l3], fun i L' hi => ?_, r1, r2, r3⟩, ((pt.upd p1).upd p2).upd p3, pm⟩
  by_cases hlt : i < Ls.length
  · rw [List.getElem?_append_left hlt] at hi
    obtain ⟨f, l, d, c1, c2, c3, g1, g2, g3⟩ := hat i L' hi
    exact ⟨f, l, d, by rw [List.getElem?_append_left (by omega)]; exact c1, by rw [List.getElem?_append_left (by omega)]; exact c2, by rw [List.getElem?_append_left (by omega)]; exact c3, pf _ _ g1, pm _ _ g2, pm _ _ g3⟩
  · have hi' : i = Ls.length := by
      have := (List.getElem?_eq_some_iff.mp hi).1
      simp at this
      omega
    rw [snoc_at hi'] at hi
    cases hi
    exact ⟨f, l, d, snoc_at (by omega), snoc_at (by omega), snoc_at (by omega), pf _ _ hf, pm _ _ hl, pm _ _ hd⟩
end
def spStep (K : PySem.W.Frag) (C : Addr) : Sp := fun vs H Q _ => ∃ (p Fa La Ga : Addr) (w : V) (n : Nat) (xs : List (List Int)) (Ls : List (List (List Int))), vs = [.ref p, .ref Fa, .ref La, .ref Ga, w] ∧ PotAt H p ∧ St K C H Fa La Ga n xs Ls ∧ MoL K H w xs ∧ (∀ x ∈ xs, Ok n x) ∧ 1 ≤ n ∧ n ≤ 4 ∧ xs.length ≤ 10000 ∧ 0 < Ls.length ∧ Ls.length ≤ 20 ∧ (∀ L ∈ Ls, L.length ≤ 6) ∧
  ∀ H' Ls', PotAt H' p → St K C H' Fa La Ga n xs Ls' → (Ls' = Ls ∨ ∃ L, Ls' = Ls ++ [L] ∧ L.length ≤ 6) → MoL K H' w xs → Q (.bl true) H'
section
variable {P : Program} {w : World} {K : PySem.W.Frag} {mg : Str → Option Value} {base : Heap} {C : Addr}
theorem d_law_step_holds (B : Bt mg) (Cl : Cls K C) (SF : PySem.W.selfFirst K C = true) (T : Top K mg "_law_step_holds" s_law_step_holds ["pot", "fronts", "leasts", "folds", "some"]) (D_law_draw : Def P w K mg base "_law_draw" 1 ["pot", "size"] (spDraw K)) (D_law_least : Def P w K mg base "_law_least" 2 ["given"] (spLeast K)) (D_law_joins : Def P w K mg base "_law_joins" 2 ["some", "mates"] (spJoins K))
    (D_law_both_folds : Def P w K mg base "_law_both_folds" 2 ["leasts", "folds", "j", "k"] (spTwo K bothF)) (D_law_either_folds : Def P w K mg base "_law_either_folds" 2 ["leasts", "folds", "j", "k"] (spTwo K eitherF)) (Mand : MethD P w K mg base C "__and__" 5 ["self", "other"] (spBin K C joinsL)) (Mor : MethD P w K mg base C "__or__" 5 ["self", "other"] (spBin K C (fun A D => A ++ D)))
    (D_law_folds_are : Def P w K mg base "_law_folds_are" 3 ["front", "some", "dues"] (spFoldsAre K C)) :
    Def P w K mg base "_law_step_holds" 6 ["pot", "fronts", "leasts", "folds", "some"] (spStep K C) := by
  refine mk_def T sc_law_step_holds (by rintro _ _ _ _ ⟨_, _, _, _, _, _, _, _, rfl, _⟩; rfl) fun f cdv Ar outer s H vs Q E hr h => ?_
  obtain ⟨p, Fa, La, Ga, w0, n, xs, Ls, rfl, pt, S, hw, hxs, hn1, hn4, hxl, hpos, hL20, hL6, q⟩ := h
  refine ⟨_, (pss_cons (ps_set (i := 5) sc_law_step_holds.nd rfl (Or.inl rfl) (pe_def D_law_draw (hr.mono (by decide)) (by rfl) (pa_cons (pv 0) (pa_cons (pe_callB call_len_seq (by rfl) B.m_len PySem.boot_len (pa_cons (pv 1) pa_nil)) pa_nil))))
      (pss_cons (ps_set (i := 6) sc_law_step_holds.nd rfl (Or.inl rfl) (pe_def D_law_draw (hr.mono (by decide)) (by rfl) (pa_cons (pv 0) (pa_cons (pe_callB call_len_seq (by rfl) B.m_len PySem.boot_len (pa_cons (pv 1) pa_nil)) pa_nil))))
      (Evl.pss_cut (ps_if (pt_cmpR op_eq (pe_def D_law_draw (hr.mono (by decide)) (by rfl) (pa_cons (pv 0) (pa_cons pe_int pa_nil))) pe_int (nomark _)) (pss_cons (ps_set (i := 7) sc_law_step_holds.nd rfl (Or.inl rfl) (pe_def D_law_least (hr.mono (by decide)) (by rfl) (pa_cons (pe_def D_law_joins (hr.mono (by decide)) (by rfl) (pa_cons (pe_ix ix_list (pv 2) (pv 5) (fun _ _ => rfl)) (pa_cons (pe_ix ix_list (pv 2) (pv 6) (fun _ _ => rfl)) pa_nil))) pa_nil)))
      (pss_cons (ps_if (pt_cmpR op_gt (pe_callB call_len_seq (by rfl) B.m_len PySem.boot_len (pa_cons (pv 7) pa_nil)) pe_int (nomark _)) (pss_one (ps_ret pe_bl)) pss_nil)
      (pss_cons (ps_set (i := 8) sc_law_step_holds.nd rfl (Or.inl rfl) (pe_def D_law_both_folds (hr.mono (by decide)) (by rfl) (pa_cons (pv 2) (pa_cons (pv 3) (pa_cons (pv 5) (pa_cons (pv 6) pa_nil))))))
      (pss_one (ps_set (i := 9) sc_law_step_holds.nd rfl (Or.inl rfl) (pe_op (op_binM (op := .BitAnd) (by decide +kernel) Mand SF (hr.mono (by decide))) (pe_ix ix_list (pv 1) (pv 5) (fun _ _ => rfl)) (pe_ix ix_list (pv 1) (pv 6) (fun _ _ => rfl)))))))) (pss_cons (ps_set (i := 7) sc_law_step_holds.nd rfl (Or.inl rfl) (pe_def D_law_least (hr.mono (by decide)) (by rfl) (pa_cons (pe_op op_cat (pe_ix ix_list (pv 2) (pv 5) (fun _ _ => rfl)) (pe_ix ix_list (pv 2) (pv 6) (fun _ _ => rfl))) pa_nil)))
      (pss_cons (ps_if (pt_cmpR op_gt (pe_callB call_len_seq (by rfl) B.m_len PySem.boot_len (pa_cons (pv 7) pa_nil)) pe_int (nomark _)) (pss_one (ps_ret pe_bl)) pss_nil)
      (pss_cons (ps_set (i := 8) sc_law_step_holds.nd rfl (Or.inl rfl) (pe_def D_law_either_folds (hr.mono (by decide)) (by rfl) (pa_cons (pv 2) (pa_cons (pv 3) (pa_cons (pv 5) (pa_cons (pv 6) pa_nil))))))
      (pss_one (ps_set (i := 9) sc_law_step_holds.nd rfl (Or.inl rfl) (pe_op (op_binM (op := .BitOr) (by decide +kernel) Mor SF (hr.mono (by decide))) (pe_ix ix_list (pv 1) (pv 5) (fun _ _ => rfl)) (pe_ix ix_list (pv 1) (pv 6) (fun _ _ => rfl)))))))))
      (pss_cons (ps_if (pt_not (pt_val (pe_def D_law_folds_are (hr.mono (by decide)) (by rfl) (pa_cons (pv 9) (pa_cons (pv 4) (pa_cons (pv 8) pa_nil)))))) (pss_one (ps_ret pe_bl)) pss_nil)
      (pss_cons (ps_expr (pe_bm PySem.F.plainAttrs_list PySem.F.slot_list_append PySem.F.type_list_append mt_append (pv 1) (pa_cons (pv 9) pa_nil)))
      (pss_cons (ps_expr (pe_bm PySem.F.plainAttrs_list PySem.F.slot_list_append PySem.F.type_list_append mt_append (pv 2) (pa_cons (pv 7) pa_nil)))
      (pss_cons (ps_expr (pe_bm PySem.F.plainAttrs_list PySem.F.slot_list_append PySem.F.type_list_append mt_append (pv 3) (pa_cons (pv 8) pa_nil)))
      (pss_one (ps_ret pe_bl))))))))), ?_⟩
  obtain ⟨fs, ls, ds, h1, h2, h3, l1, l2, l3, hat, r1, r2, r3⟩ := id S
  refine ⟨.ref p, rfl, .ref Fa, rfl, Fa, _, rfl, .inl (SqL.of h1), p, (fs.length : Nat), rfl, pt, by omega, by omega, fun H1 j s1 p1 j0 j1 => ?_⟩
  obtain ⟨j, rfl⟩ : ∃ m : Nat, j = (m : Int) := ⟨j.toNat, by omega⟩
  obtain ⟨m1, m2, m3⟩ := S.nms hpos
  have k1 := s1 _ _ (nm_pot m1 pt) h1
  refine ⟨.ref p, rfl, .ref Fa, rfl, Fa, _, rfl, .inl (SqL.of k1), p, (fs.length : Nat), rfl, p1, by omega, by omega, fun H2 k s2 p2 k0 k1' => ?_⟩
  obtain ⟨k, rfl⟩ : ∃ m : Nat, k = (m : Int) := ⟨k.toNat, by omega⟩
  have hj : j < Ls.length := by omega
  have hk : k < Ls.length := by omega
  have s12 := s1.trans s2
  have hA6 : Ls[j].length ≤ 6 := hL6 _ (List.getElem_mem hj)
  have hD6 : Ls[k].length ≤ 6 := hL6 _ (List.getElem_mem hk)
  refine ⟨fun σ H' => ∃ (f l d : V) (L : List (List Int)), σ = [some (.ref p), some (.ref Fa), some (.ref La), some (.ref Ga), some w0, some (.int (j : Nat)), some (.int (k : Nat)), some l, some d, some f] ∧ PotAt H' p ∧ St K C H' Fa La Ga n xs Ls ∧ MoL K H' w0 xs ∧ FrontAt K C H' f n L ∧ MoL K H' l L ∧ MoL K H' d (xs.map (foldL L)) ∧ L.length ≤ 6, ?_, ?_⟩
  · refine ⟨.ref p, rfl, p, 2, rfl, p2, by decide, by decide, fun H3 way s3 p3 w0' w1' => ⟨rfl, _, rfl, ?_⟩⟩
    have s123 := s12.trans s3
    have S3 := S.sameB hpos s123 pt
    have hw3 := hw.sameB s123 pt
    obtain ⟨fs', ls', ds', g1, g2, g3, _, _, _, hat3, _⟩ := id S3
    obtain ⟨fj, lj, dj, a1, a2, a3, b1, b2, b3⟩ := hat3 j Ls[j] (by simp [hj])
    obtain ⟨fk, lk, dk, c1, c2, c3, e1, e2, e3⟩ := hat3 k Ls[k] (by simp [hk])
    have okA : ∀ l ∈ Ls[j], Ok n l := by
      obtain ⟨_, _, _, _, _, _, _, _, h, _⟩ := id b1
      exact h
    have okD : ∀ l ∈ Ls[k], Ok n l := by
      obtain ⟨_, _, _, _, _, _, _, _, h, _⟩ := id e1
      exact h
    have lenA : ∀ l ∈ Ls[j], l.length = n := fun l hl => (okA l hl).1
    have lenD : ∀ l ∈ Ls[k], l.length = n := fun l hl => (okD l hl).1
    refine ite2 (fun z => ?_) (fun z => ?_)
    · skip
      refine ⟨.ref La, rfl, .int (j : Nat), rfl, La, _, _, lj, rfl, rfl, SqL.of g2, at_of (j := j) rfl a2, .ref La, rfl, .int (k : Nat), rfl, La, _, _, lk, rfl, rfl, SqL.of g2, at_of (j := k) rfl c2, lj, lk, n, Ls[j], Ls[k], rfl, b2, e2, okA, okD, hn4, hA6, hD6, fun H4 d4 s4 nd4 hJ => ?_⟩
      have hlen36 : (joinsL Ls[j] Ls[k]).length ≤ 36 := by
        rw [joinsL_len]
        exact Nat.mul_le_mul hA6 hD6
      refine ⟨.ref d4, n, joinsL Ls[j] Ls[k], rfl, hJ, joinsL_ok okA okD, hn1, by omega, by omega, fun H5 d5 L s5 nd5 hL il => ?_⟩
      have st5 := s4.trans s5
      obtain ⟨d5', dv5, ed5, hd5a, hd5b⟩ := id hL
      cases ed5
      have ld5 : dv5.length = L.length := by simpa using hd5b.length
      refine ⟨.ref d5, rfl, d5, dv5, rfl, .inl (SqL.of hd5a), _, _, rfl, rfl, _, rfl, ite2 (fun z6 => ?_) (fun z6 => ?_)⟩
      · exact q H5 Ls (p3.same st5) (S3.same st5) (.inl rfl) (hw3.same st5)
      have hle6 : L.length ≤ 6 := by
        have := of_decide_eq_false (by simpa using z6 : decide ((dv5.length : Int) > 6) = false)
        omega
      refine ⟨.ref La, rfl, .ref Ga, rfl, .int (j : Nat), rfl, .int (k : Nat), rfl, La, Ga, ls', ds', j, k, lj, lk, dj, dk, n, Ls[j], Ls[k], xs, rfl, st5 _ _ g2, st5 _ _ g3, a2, c2, a3, c3, b2.same st5, e2.same st5, b3.same st5, e3.same st5, okA, okD, hxs, hn4, hxl, fun H6 y s6 hy => ?_⟩
      have st6 := st5.trans s6
      have b1' := b1.same st6
      have e1' := e1.same st6
      obtain ⟨qa, dxa, da, lva, eqa, hqa, hra⟩ := id b1'
      obtain ⟨qb, dxb, db, lvb, eqb, hqb, hrb⟩ := id e1'
      subst eqa
      subst eqb
      refine ⟨.ref Fa, rfl, .int (j : Nat), rfl, Fa, _, _, .ref qa, rfl, rfl, SqL.of (st6 _ _ g1), at_of (j := j) rfl a1, .ref Fa, rfl, .int (k : Nat), rfl, Fa, _, _, .ref qb, rfl, rfl, SqL.of (st6 _ _ g1), at_of (j := k) rfl c1, qa, dxa, _, qb, dxb, _, rfl, rfl, hqa, hqb, .ref qa, .ref qb, n, Ls[j], Ls[k], rfl, b1', e1', hn1, hn4, hA6, hD6, fun H7 pp L' s7 np hF il' => ⟨pp, rfl, ?_⟩⟩
      have eL : L = L' := il.uniq il'
      subst eL
      have st7 := st6.trans s7
      refine ⟨.ref pp, .ref d5, y, L, rfl, p3.same st7, S3.same st7, hw3.same st7, hF, MoL.same (K := K) ⟨d5, dv5, rfl, hd5a, hd5b⟩ (s6.trans s7), ?_, hle6⟩
      have hmap : xs.map (bothF Ls[j] Ls[k]) = xs.map (foldL L) := List.map_congr_left fun m hm => by
        have hml := (hxs m hm).1
        rw [fold_least il (joinsL_ok okA okD) hml]
        exact (fold_joins hml lenA lenD).symm
      rw [← hmap]
      exact hy.same s7
    · skip
      obtain ⟨lja, ljv, elj, hlja, hljd⟩ := id b2
      obtain ⟨lka, lkv, elk, hlka, hlkd⟩ := id e2
      subst elj
      subst elk
      have ll1 : ljv.length = Ls[j].length := by simpa using hljd.length
      have ll2 : lkv.length = Ls[k].length := by simpa using hlkd.length
      refine ⟨.ref La, rfl, .int (j : Nat), rfl, La, _, _, .ref lja, rfl, rfl, SqL.of g2, at_of (j := j) rfl a2, .ref La, rfl, .int (k : Nat), rfl, La, _, _, .ref lka, rfl, rfl, SqL.of g2, at_of (j := k) rfl c2, lja, lka, ljv, lkv, rfl, rfl, hlja, hlka, sz1000 (by omega), fun d4 nd4 => ?_⟩
      have s4 : Same H3 (L2.upd H3 d4 (.lst (ljv ++ lkv))) := same_upd nd4
      have okJ : ∀ l ∈ Ls[j] ++ Ls[k], Ok n l := fun l hl => by
        rcases List.mem_append.mp hl with h | h
        · exact okA l h
        · exact okD l h
      refine ⟨.ref d4, n, Ls[j] ++ Ls[k], rfl, ⟨d4, _, rfl, upd_same, by rw [List.map_append]; exact DaAll.append (Da.sameAll s4 _ _ hlkd) (Da.sameAll s4 _ _ hljd)⟩, okJ, hn1, by omega, by rw [List.length_append]; omega, fun H5 d5 L s5 nd5 hL il => ?_⟩
      have st5 := s4.trans s5
      obtain ⟨d5', dv5, ed5, hd5a, hd5b⟩ := id hL
      cases ed5
      have ld5 : dv5.length = L.length := by simpa using hd5b.length
      refine ⟨.ref d5, rfl, d5, dv5, rfl, .inl (SqL.of hd5a), _, _, rfl, rfl, _, rfl, ite2 (fun z6 => ?_) (fun z6 => ?_)⟩
      · exact q H5 Ls (p3.same st5) (S3.same st5) (.inl rfl) (hw3.same st5)
      have hle6 : L.length ≤ 6 := by
        have := of_decide_eq_false (by simpa using z6 : decide ((dv5.length : Int) > 6) = false)
        omega
      refine ⟨.ref La, rfl, .ref Ga, rfl, .int (j : Nat), rfl, .int (k : Nat), rfl, La, Ga, ls', ds', j, k, (.ref lja), (.ref lka), dj, dk, n, Ls[j], Ls[k], xs, rfl, st5 _ _ g2, st5 _ _ g3, a2, c2, a3, c3, b2.same st5, e2.same st5, b3.same st5, e3.same st5, okA, okD, hxs, hn4, hxl, fun H6 y s6 hy => ?_⟩
      have st6 := st5.trans s6
      have b1' := b1.same st6
      have e1' := e1.same st6
      obtain ⟨qa, dxa, da, lva, eqa, hqa, hra⟩ := id b1'
      obtain ⟨qb, dxb, db, lvb, eqb, hqb, hrb⟩ := id e1'
      subst eqa
      subst eqb
      refine ⟨.ref Fa, rfl, .int (j : Nat), rfl, Fa, _, _, .ref qa, rfl, rfl, SqL.of (st6 _ _ g1), at_of (j := j) rfl a1, .ref Fa, rfl, .int (k : Nat), rfl, Fa, _, _, .ref qb, rfl, rfl, SqL.of (st6 _ _ g1), at_of (j := k) rfl c1, qa, dxa, _, qb, dxb, _, rfl, rfl, hqa, hqb, .ref qa, .ref qb, n, Ls[j], Ls[k], rfl, b1', e1', hn1, hn4, hA6, hD6, fun H7 pp L' s7 np hF il' => ⟨pp, rfl, ?_⟩⟩
      have eL : L = L' := il.uniq il'
      subst eL
      have st7 := st6.trans s7
      refine ⟨.ref pp, .ref d5, y, L, rfl, p3.same st7, S3.same st7, hw3.same st7, hF, MoL.same (K := K) ⟨d5, dv5, rfl, hd5a, hd5b⟩ (s6.trans s7), ?_, hle6⟩
      have hmap : xs.map (eitherF Ls[j] Ls[k]) = xs.map (foldL L) := List.map_congr_left fun m hm => by
        have hml := (hxs m hm).1
        rw [fold_least il okJ hml]
        exact (fold_append hml lenA lenD).symm
      rw [← hmap]
      exact hy.same s7
  · rintro σ H3 ⟨f, l, d, L, rfl, p3, S3, hw3, hf, hl, hd, hLl⟩
    have sfa : ∀ H4, Same H3 H4 → True := fun _ _ => True.intro
    refine ⟨f, rfl, w0, rfl, d, rfl, f, w0, d, n, L, xs, rfl, hf, hw3, hd, hxs, hn1, hn4, hxl, fun H4 s4 => ⟨true, rfl, iteF ?_⟩⟩
    obtain ⟨fs4, ls4, ds4, g1, g2, g3, t1, t2, t3, n1, n2, n3, S5, p5, pm⟩ := (S3.same s4).grow hpos (hf.same s4) (hl.same s4) (hd.same s4) (p3.same s4)
    refine ⟨.ref Fa, rfl, .inl ⟨rfl, _, SqL.of g1⟩, f, rfl, Fa, fs4, f, rfl, rfl, g1, Nat.lt_of_le_of_lt (show fs4.length ≤ 20 by omega) (by decide), ?_⟩
    have g2' : L2.upd H4 Fa (.lst (fs4 ++ [f])) La = some (.lst ls4) := by rw [upd_ne n1.symm]; exact g2
    refine ⟨.ref La, rfl, .inl ⟨rfl, _, SqL.of g2'⟩, l, rfl, La, ls4, l, rfl, rfl, g2', Nat.lt_of_le_of_lt (show ls4.length ≤ 20 by omega) (by decide), ?_⟩
    have g3' : L2.upd (L2.upd H4 Fa (.lst (fs4 ++ [f]))) La (.lst (ls4 ++ [l])) Ga = some (.lst ds4) := by rw [upd_ne n3.symm, upd_ne n2.symm]; exact g3
    refine ⟨.ref Ga, rfl, .inl ⟨rfl, _, SqL.of g3'⟩, d, rfl, Ga, ds4, d, rfl, rfl, g3', Nat.lt_of_le_of_lt (show ds4.length ≤ 20 by omega) (by decide), ?_⟩
    exact q _ _ p5 S5 (.inr ⟨L, rfl, hLl⟩) (pm _ _ (hw3.same s4))
end
end K5

namespace K5
open PySem PySem.Spec PyProof.Rows L2
section
variable {P : Program} {w : World} {K : PySem.W.Frag} {mg : Str → Option Value} {base : Heap} {C : Addr}
abbrev SC_law : Scope := { kind := .function, names := [(".0", .local), ("least", .cell), ("some", .cell)], isGenerator := false, isCoroutine := false }
def spLaw (K : PySem.W.Frag) : Sp := fun vs H Q _ => ∃ (a : Addr) (ns : List Int), vs = [.ref a] ∧ SqL K H a (ns.map V.int) ∧ ns.length ≤ 63 ∧ ∀ H', Q (.bl true) H'
theorem d_law (B : Bt mg) (Cl : Cls K C) (T : Top K mg "law" slaw ["script"]) (D_law_pot : Def P w K mg base "_law_pot" 1 ["script"] (spPot K)) (D_law_draw : Def P w K mg base "_law_draw" 1 ["pot", "size"] (spDraw K)) (D_law_levels : Def P w K mg base "_law_levels" 3 ["pot", "many"] (spLevels K)) (D_law_grid : Def P w K mg base "_law_grid" 1 ["levels"] (spGrid K))
    (D_law_spot : Def P w K mg base "_law_spot" 2 ["pot", "grid", "span"] (spSpot K)) (D_law_some_moments : Def P w K mg base "_law_some_moments" 3 ["pot", "grid", "span"] (spSomeMoments K)) (D_law_least : Def P w K mg base "_law_least" 2 ["given"] (spLeast K)) (D_law_fold : Def P w K mg base "_law_fold" 2 ["least", "spot"] (spLFold K)) (MkFront : MakeD P w K mg base C "Front" 3 ["self", "axes", "moments"] (spInit K C)) (D_law_moved : Def P w K mg base "_law_moved" 2 ["pot", "spot"] (spMoved K))
    (D_law_folds_are : Def P w K mg base "_law_folds_are" 3 ["front", "some", "dues"] (spFoldsAre K C)) (D_law_step_holds : Def P w K mg base "_law_step_holds" 6 ["pot", "fronts", "leasts", "folds", "some"] (spStep K C)) (Mmoments : MethD P w K mg base C "moments" 1 ["self"] (spMoments K C)) :
    Def P w K mg base "law" 7 ["script"] (spLaw K) := by
  refine mk_def T sclaw (by rintro _ _ _ _ ⟨_, _, rfl, _⟩; rfl) fun ff cdv A outer s H vs Q E hr h => ?_
  obtain ⟨a, ns, rfl, hS, hns, q⟩ := h
  refine ⟨_, (pss_cons (ps_set (i := 1) sclaw.nd rfl (Or.inr rfl) (pe_def D_law_pot (hr.mono (by decide)) (by rfl) (pa_cons (pv 0) pa_nil)))
      (pss_cons (ps_set (i := 2) sclaw.nd rfl (Or.inr rfl) (pe_op op_add pe_int (pe_def D_law_draw (hr.mono (by decide)) (by rfl) (pa_cons (pv 1) (pa_cons pe_int pa_nil)))))
      (pss_cons (ps_set (i := 3) sclaw.nd rfl (Or.inr rfl) (pe_def D_law_grid (hr.mono (by decide)) (by rfl) (pa_cons (pe_lc (own := [("k", 4)]) (g := (gName 4)) (tt := tYes) (te := (tCall (spLevels K) [] E0 (tCons (tVar 1) (tCons (tOp (rIxL K) (tLst (tCons (tC (.int 6)) (tCons (tC (.int 4)) (tCons (tC (.int 3)) (tCons (tC (.int 2)) tNil))))) (tOp ySub (tVar 2) (tC (.int 1)))) tNil)))) rfl sclaw.nd (pi_range1 (by rfl) B.m_range (pa_cons (pv 2) pa_nil)) (blkOk_by (own := [("k", 4)]) (N := Nlaw) (sc := defScope slaw) (by decide +kernel)) (fun _ _ _ _ _ => (pg_name (i := 4) sclaw.nd rfl (Or.inl rfl))) (fun _ _ _ _ _ => pts_nil) (fun _ _ _ _ _ => (pe_def D_law_levels (hr.mono (by decide)) (by rfl) (pa_cons (pv 1) (pa_cons (pe_ix ix_list (pe_lst (pa_cons pe_int (pa_cons pe_int (pa_cons pe_int (pa_cons pe_int pa_nil))))) (pe_op op_sub (pv 2) pe_int) (fun _ _ => rfl)) pa_nil))))) pa_nil)))
      (pss_cons (ps_set (i := 5) sclaw.nd rfl (Or.inr rfl) (pe_lc (own := [("k", 4)]) (g := (gName 4)) (tt := tYes) (te := (tCall (spLeast K) [] E0 (tCons (tCall (spSomeMoments K) [] E0 (tCons (tVar 1) (tCons (tVar 3) (tCons (tVar 2) tNil)))) tNil))) rfl sclaw.nd (pi_range1 (by rfl) B.m_range (pa_cons pe_int pa_nil)) (blkOk_by (own := [("k", 4)]) (N := Nlaw) (sc := defScope slaw) (by decide +kernel)) (fun _ _ _ _ _ => (pg_name (i := 4) sclaw.nd rfl (Or.inl rfl))) (fun _ _ _ _ _ => pts_nil) (fun _ _ _ _ _ => (pe_def D_law_least (hr.mono (by decide)) (by rfl) (pa_cons (pe_def D_law_some_moments (hr.mono (by decide)) (by rfl) (pa_cons (pv 1) (pa_cons (pv 3) (pa_cons (pv 2) pa_nil)))) pa_nil)))))
      (pss_cons (ps_set (i := 6) sclaw.nd rfl (Or.inr rfl) (pe_callTy call_list_of (by rfl) B.m_list (by decide +kernel) (pa_cons (pv 3) pa_nil)))
      (pss_cons (ps_for PassesOwn.never rfl (pi_range1 (by rfl) B.m_range (pa_cons pe_int pa_nil)) (pg_name (i := 4) sclaw.nd rfl (Or.inl rfl)) (pss_one (ps_expr (pe_bm PySem.F.plainAttrs_list PySem.F.slot_list_append PySem.F.type_list_append mt_append (pv 6) (pa_cons (pe_def D_law_moved (hr.mono (by decide)) (by rfl) (pa_cons (pv 1) (pa_cons (pe_def D_law_spot (hr.mono (by decide)) (by rfl) (pa_cons (pv 1) (pa_cons (pv 3) (pa_cons (pv 2) pa_nil)))) pa_nil))) pa_nil)))))
      (pss_cons (ps_set (i := 7) sclaw.nd rfl (Or.inr rfl) (pe_lc (own := [("least", 8)]) (g := (gName 8)) (tt := tYes) (te := (tMake C (spInit K C) [] E0 (tCons (tVar 2) (tCons (tCB (yLst K) (tCons (tVar 8) tNil)) tNil)))) rfl sclaw.nd (pi_list (pv 5)) (blkOk_by (own := [("least", 8)]) (N := Nlaw) (sc := defScope slaw) (by decide +kernel)) (fun _ _ _ _ _ => (pg_name (i := 8) sclaw.nd rfl (Or.inl rfl))) (fun _ _ _ _ _ => pts_nil) (fun _ _ _ _ _ => (pe_makeM MkFront (hr.mono (by decide)) (by rfl) (pa_cons (pv 2) (pa_cons (pe_callTy call_list_of (by rfl) B.m_list (by decide +kernel) (pa_cons (pv 8) pa_nil)) pa_nil))))))
      (pss_cons (ps_setLc (i := 9) (own := [("least", 8)]) (g := (gName 8)) (tt := tYes) (te := (tLc (iList K (tVar 6)) (gName 10) tYes (tCall (spLFold K) [] E0 (tCons (tVar 8) (tCons (tVar 10) tNil))) [10])) rfl sclaw.nd rfl rfl (sw_true rfl rfl rfl (by decide +kernel)) (pi_list (pv 5)) (blkOk_by (own := [("least", 8)]) (N := Nlaw) (sc := defScope slaw) (by decide +kernel)) (fun _ _ _ _ _ => (pg_name (i := 8) sclaw.nd rfl (Or.inr rfl))) (fun _ _ _ _ _ => pts_nil) (fun _ _ _ _ _ => (pe_lc (own := [("spot", 10)]) (g := (gName 10)) (tt := tYes) (te := (tCall (spLFold K) [] E0 (tCons (tVar 8) (tCons (tVar 10) tNil)))) rfl sclaw.nd (pi_list (pv 6)) (blkOk_by (own := [("spot", 10)]) (N := Nlaw) (sc := SC_law) (by decide +kernel)) (fun _ _ _ _ _ => (pg_name (i := 10) sclaw.nd rfl (Or.inl rfl))) (fun _ _ _ _ _ => pts_nil) (fun _ _ _ _ _ => (pe_def D_law_fold (hr.mono (by decide)) (by rfl) (pa_cons (pv 8) (pa_cons (pv 10) pa_nil)))))))
      (pss_cons (ps_for PassesOwn.never rfl (pi_range1 (by rfl) B.m_range (pa_cons pe_int pa_nil)) (pg_name (i := 4) sclaw.nd rfl (Or.inl rfl)) (pss_one (ps_if (pt_not (pt_val (pe_def D_law_folds_are (hr.mono (by decide)) (by rfl) (pa_cons (pe_ix ix_list (pv 7) (pv 4) (fun _ _ => rfl)) (pa_cons (pv 6) (pa_cons (pe_ix ix_list (pv 9) (pv 4) (fun _ _ => rfl)) pa_nil)))))) (pss_one (ps_ret pe_bl)) pss_nil)))
      (pss_cons (ps_for PassesOwn.never rfl (pi_range1 (by rfl) B.m_range (pa_cons pe_int pa_nil)) (pg_name (i := 4) sclaw.nd rfl (Or.inl rfl)) (pss_one (ps_if (pt_not (pt_val (pe_def D_law_step_holds (hr.mono (by decide)) (by rfl) (pa_cons (pv 1) (pa_cons (pv 7) (pa_cons (pv 5) (pa_cons (pv 9) (pa_cons (pv 6) pa_nil)))))))) (pss_one (ps_ret pe_bl)) pss_nil)))
      (pss_cons (ps_for PassesOwn.never rfl (pi_range1 (by rfl) B.m_range (pa_cons (pe_callB call_len_seq (by rfl) B.m_len PySem.boot_len (pa_cons (pv 7) pa_nil)) pa_nil)) (pg_name (i := 4) sclaw.nd rfl (Or.inl rfl)) (pss_one (ps_if (pt_not (pt_val (pe_def D_law_folds_are (hr.mono (by decide)) (by rfl) (pa_cons (pe_ix ix_list (pv 7) (pv 4) (fun _ _ => rfl)) (pa_cons (pv 6) (pa_cons (pe_ix ix_list (pv 9) (pv 4) (fun _ _ => rfl)) pa_nil)))))) (pss_one (ps_ret pe_bl)) pss_nil)))
      (pss_one (ps_ret (pe_callB (cr_all rfl) (by rfl) B.m_all (by decide +kernel) (pa_cons (pe_lc (own := [("k", 4)]) (g := (gName 4)) (tt := tYes) (te := (tOp (rEqD K) (tMeth C "moments" (spMoments K C) [] E0 (tOp (rIxL K) (tVar 7) (tVar 4)) tNil) (tOp (rIxL K) (tVar 5) (tVar 4)))) rfl sclaw.nd (pi_range1 (by rfl) B.m_range (pa_cons pe_int pa_nil)) (blkOk_by (own := [("k", 4)]) (N := Nlaw) (sc := defScope slaw) (by decide +kernel)) (fun _ _ _ _ _ => (pg_name (i := 4) sclaw.nd rfl (Or.inl rfl))) (fun _ _ _ _ _ => pts_nil) (fun _ _ _ _ _ => (pe_cmpR (op_eqD (hu64 hr)) (pe_methM0 (pe_ix ix_list (pv 7) (pv 4) (fun _ _ => rfl)) Cl Mmoments (hr.mono (by decide))) (pe_ix ix_list (pv 5) (pv 4) (fun _ _ => rfl)) (nomark _)))) pa_nil))))))))))))))), ?_⟩
  -- pot, span
  refine ⟨.ref a, rfl, a, ns, rfl, hS, fun H1 p s1 np pt1 => ?_⟩
  refine ⟨.ref p, rfl, p, 4, rfl, pt1, by decide, by decide, fun H2 r s2 pt2 r0 r4 => ⟨_, _, rfl, rfl, ?_⟩⟩
  obtain ⟨n, hnv⟩ : ∃ n : Nat, (1 + r) = (n : Int) := ⟨(1 + r).toNat, by omega⟩
  have hn1 : 1 ≤ n := by omega
  have hn4 : n ≤ 4 := by omega
  -- the levels
  refine ⟨.int (1 + r), rfl, (1 + r), rfl, by omega, by omega, fun Db hDb => ?_⟩
  have npDb := pt2.ne hDb
  refine lc_it (walk_range (lo := 0) (n := (1 + r).toNat)) (fun i H' => SameB p H2 H' ∧ PotAt H' p ∧ ∃ (acc : List V) (rows : List (List Int)), H' Db = some (.lst acc) ∧ acc.length = rows.length ∧ rows.length = i ∧ (∀ r ∈ rows, r.length = cap n ∧ TS.Bd GH r) ∧ ∀ (j : Nat) (r : List Int), rows[j]? = some r → ∃ qa : Addr, acc[j]? = some (V.ref qa) ∧ qa ≠ Db ∧ qa ≠ p ∧ H' qa = some (.lst (r.map V.int)))
    ⟨Same.b (same_upd hDb), pt2.upd npDb, [], [], upd_same, rfl, rfl, fun r hr => by simp at hr, fun j r hj => by simp at hj⟩ (fun i H' _ _ => True.intro) (fun i x H' H'' hi pv' y => ?_) (fun H3 pv' => ?_)
  · obtain ⟨rfl, rfl⟩ := y
    obtain ⟨e1, pt3, acc, rows, eb, hl0, hl, hrows, hat⟩ := pv'
    refine ⟨rfl, .ref p, rfl, by show 4 ≤ sizeLine; decide, fun l hl2 => ⟨.int (1 + r), rfl, _, _, rfl, rfl, l, _, (1 + r) - 1, _, rfl, rfl, SqL.of upd_same, (by rw [hnv]; exact cap_at hn1 hn4), p, cap n, rfl, pt3.upd (pt3.ne hl2), (cap_bd n).1, by have := (cap_bd n).2; omega, fun H5 qa r' s5 pt5 nqa eqa hlr hbr => ?_⟩⟩
    have sA : SameB p H'' H5 := (Same.b (same_upd hl2)).trans s5
    have eb5 := sA _ _ npDb.symm eb
    have eb' : L2.upd H'' l (.lst [V.int 6, .int 4, .int 3, .int 2]) Db = some (.lst acc) := same_upd hl2 _ _ eb
    have nqD : qa ≠ Db := (ne_of_none eb' nqa).symm
    have nqp : qa ≠ p := fun z => by
      subst z
      obtain ⟨o, ho⟩ := (pt3.same (same_upd hl2)).there
      rw [nqa] at ho
      cases ho
    refine ⟨acc, eb5, ?_, (e1.trans sA).mut hDb, pt5.upd npDb, acc ++ [.ref qa], rows ++ [r'], upd_same, by simp [hl0], by simp [hl], fun z hz => ?_, fun j z hj => ?_⟩
    · rw [hl0, hl]
      exact Nat.lt_of_lt_of_le hi (Nat.le_trans (show (1 + r).toNat ≤ 4 by omega) (by decide))
    · rcases List.mem_append.mp hz with hz | hz
      · exact hrows z hz
      · rw [List.mem_singleton.mp hz]
        exact ⟨hlr, hbr⟩
    · by_cases hj' : j < rows.length
      · rw [List.getElem?_append_left hj'] at hj
        obtain ⟨qb, h1, h2, h3, h4⟩ := hat j z hj
        exact ⟨qb, by rw [List.getElem?_append_left (by omega)]; exact h1, h2, h3, by rw [upd_ne h2]; exact sA _ _ h3 h4⟩
      · rw [List.getElem?_append_right (by omega)] at hj
        have hj0 : j - rows.length = 0 := by
          have := (List.getElem?_eq_some_iff.mp hj).1
          simp at this
          omega
        rw [hj0] at hj
        have hz : r' = z := by simpa using hj
        subst hz
        refine ⟨qa, ?_, nqD, nqp, by rw [upd_ne nqD]; exact eqa⟩
        rw [List.getElem?_append_right (by omega), hl0, hj0]
        rfl
  obtain ⟨e3, pt3, acc, rows, eb, hl0, hl, hrows, hat⟩ := pv'
  have hl4 : rows.length = n := by omega
  have hcap : ∀ z ∈ rows, z.length ≤ 6 := fun z hz => by
    rw [(hrows z hz).1]
    exact (cap_bd n).2
  have hgl : ∀ rs : List (List Int), (∀ z ∈ rs, z.length ≤ 6) → rs.length ≤ 4 → (gridL rs).length ≤ 1296 := fun rs h1 h2 => by
    refine Nat.le_trans (gf_len rs [[]] h1) ?_
    rw [List.length_singleton, Nat.one_mul]
    exact Nat.le_trans (Nat.pow_le_pow_right (by decide) h2) (by decide)
  have dDb : Da K H3 (.ref Db) (.list (rows.map li)) := .lst (SqL.of eb) (das_li hl0 fun j z hj => by
    obtain ⟨qb, h1, _, _, h4⟩ := hat j z hj
    exact ⟨qb, h1, h4⟩)
  -- the grid
  refine ⟨Db, rows, rfl, dDb, by omega, fun i => Nat.le_trans (hgl (rows.take i) (fun z hz => hcap z (List.mem_of_mem_take hz)) (by rw [List.length_take]; omega)) (by decide), fun z hz => Nat.le_trans (hcap z hz) (by decide), fun H4 gA gv s4 ngA egA dgA => ?_⟩
  obtain ⟨grid, hgrid⟩ : ∃ grid, grid = gridL rows := ⟨_, rfl⟩
  rw [← hgrid] at dgA
  have hgA : MoL K H4 (.ref gA) grid := ⟨gA, gv, rfl, egA, dgA⟩
  have hgsm : ∀ m ∈ grid, Sm n m := fun m hm => by
    rw [hgrid] at hm
    exact ⟨by rw [gridL_len rows.length rows rfl m hm, hl4], gf_bd rows [[]] (fun x hx => by rw [List.mem_singleton.mp hx]; exact fun c hc => by simp at hc) (fun z hz => (hrows z hz).2) m hm⟩
  have hglen : grid.length ≤ 1296 := by
    rw [hgrid]
    exact hgl rows hcap (by omega)
  have hgne : grid ≠ [] := by
    rw [hgrid]
    exact List.length_pos_iff.mp (gf_pos rows [[]] (by decide) fun z hz => by rw [(hrows z hz).1]; have := (cap_bd n).1; omega)
  have pt4 := pt3.same s4
  -- leasts
  refine ⟨4, rfl, by decide, by decide, fun La hLa => ?_⟩
  have npLa := pt4.ne hLa
  refine lc_it (walk_range (lo := 0) (n := 4)) (fun i H' => SameB p H4 H' ∧ PotAt H' p ∧ ∃ (ls : List V) (Ls : List (List (List Int))), H' La = some (.lst ls) ∧ ls.length = Ls.length ∧ Ls.length = i ∧ (∀ L ∈ Ls, L.length ≤ 6 ∧ (∀ l ∈ L, Ok n l) ∧ IsL L L) ∧ ∀ (j : Nat) (L : List (List Int)), Ls[j]? = some L → ∃ l : V, ls[j]? = some l ∧ l ≠ .ref La ∧ MoL K H' l L)
    ⟨Same.b (same_upd hLa), pt4.upd npLa, [], [], upd_same, rfl, rfl, fun L hL => by simp at hL, fun j L hj => by simp at hj⟩ (fun i H' _ _ => True.intro) (fun i x H' H'' hi pv' y => ?_) (fun H5 pv' => ?_)
  · obtain ⟨rfl, rfl⟩ := y
    obtain ⟨e1, pt5, ls, Ls, eLa, hll, hl, hprop, hat⟩ := pv'
    refine ⟨rfl, .ref p, rfl, .ref gA, rfl, .int (1 + r), rfl, p, .ref gA, n, grid, (1 + r), rfl, hnv, pt5, hgA.sameB e1 pt4, hgsm, hgne, by omega, hn4, fun H6 d ms s6 pt6 nd hms hsm hl3 => ⟨.ref d, n, ms, rfl, hms, fun m hm => (hsm m hm).ok, hn1, by omega, by omega, fun H7 d' L s7 nd' hL il => ?_⟩⟩
    have sB := s6.trans (Same.b s7)
    have eLa7 := sB _ _ npLa.symm eLa
    have ndL : V.ref d' ≠ .ref La := fun z => by
      cases z
      rw [s6 _ _ npLa.symm eLa] at nd'
      cases nd'
    have hL3 : L.length ≤ 3 := by
      have h1 : L.Nodup := il.asc.imp fun h e => by subst e; omega
      have h2 := TS_len h1 (fun f hf => ((il.mem f).mp hf).1)
      omega
    refine ⟨ls, eLa7, ?_, (e1.trans sB).mut hLa, (pt6.same s7).upd npLa, ls ++ [.ref d'], Ls ++ [L], upd_same, by simp [hll], by simp [hl], fun z hz => ?_, fun j z hj => ?_⟩
    · rw [hll, hl]
      exact Nat.lt_of_lt_of_le hi (by decide)
    · rcases List.mem_append.mp hz with hz | hz
      · exact hprop z hz
      · rw [List.mem_singleton.mp hz]
        exact ⟨by omega, fun l hl => (hsm l ((il.mem l).mp hl).1).ok, il.self⟩
    · by_cases hj' : j < Ls.length
      · rw [List.getElem?_append_left hj'] at hj
        obtain ⟨l, c1, c2, c3⟩ := hat j z hj
        exact ⟨l, by rw [List.getElem?_append_left (by omega)]; exact c1, c2, (c3.sameB sB pt5).upd c2 eLa7⟩
      · have hj0 : j = Ls.length := by
          have := (List.getElem?_eq_some_iff.mp hj).1
          simp at this
          omega
        rw [snoc_at hj0] at hj
        cases hj
        exact ⟨.ref d', snoc_at (by omega), ndL, hL.upd ndL eLa7⟩
  obtain ⟨e5, pt5, ls, Ls, eLa5, hll, hLs4, hprop, hat5⟩ := pv'
  have hA5 := hgA.sameB e5 pt4
  -- some
  obtain ⟨gA', gv5, eg5, hA5a, hA5b⟩ := id hA5
  cases eg5
  refine ⟨.ref gA, rfl, gA, gv5, rfl, .inl (SqL.of hA5a), fun S hS => ?_⟩
  have npS := pt5.ne hS
  have sS : Same H5 (L2.upd H5 S (.lst gv5)) := same_upd hS
  refine ⟨5, rfl, by decide, by decide, ?_⟩
  have hS0 : MoL K (L2.upd H5 S (.lst gv5)) (.ref S) grid := ⟨S, gv5, rfl, upd_same, Da.sameAll sS _ _ hA5b⟩
  refine for_range (lo := 0) (n := 5) (fun i σ H' => ∃ (y4 y7 y8 y9 y10 : Option V) (sm : List (List Int)), σ = [some (.ref a), some (.ref p), some (.int (1 + r)), some (.ref gA), y4, some (.ref La), some (.ref S), y7, y8, y9, y10] ∧ SameB p H5 H' ∧ PotAt H' p ∧ MoL K H' (.ref S) sm ∧ sm.length = grid.length + i ∧ ∀ m ∈ sm, Ok n m)
    ⟨_, _, _, _, _, grid, rfl, Same.b sS, pt5.upd npS, hS0, rfl, fun m hm => (hgsm m hm).ok⟩ (fun i σ H' hi pv' => ?_) (fun σ H6 pv' => ?_)
  · obtain ⟨y4, y7, y8, y9, y10, sm, rfl, e, pt19, hSm, hsl, hsok⟩ := pv'
    refine ⟨.ref S, rfl, .inl ⟨rfl, hSm.sq⟩, .ref p, rfl, .ref p, rfl, .ref gA, rfl, .int (1 + r), rfl, p, .ref gA, n, grid, (by rw [← hnv]; rfl), pt19, hA5.sameB e pt5, hgsm, hgne, by omega, hn4, fun H20 y m s20 pt20 hy hm => ?_⟩
    refine ⟨p, y, n, m, rfl, pt20, hy, hm, hn4, fun H21 y2 m2 s21 pt21 hy2 hok2 => ?_⟩
    have sE := s20.trans s21
    obtain ⟨S', sv, eS, h1, h2⟩ := hSm.sameB sE pt19
    cases eS
    have lsv : sv.length = sm.length := by simpa using h2.length
    have st : ST K H21 (L2.upd H21 S (.lst (sv ++ [y2]))) := st_upd h1 True.intro
    refine ⟨S, sv, y2, rfl, rfl, h1, Nat.lt_of_le_of_lt (show sv.length ≤ 2000 by omega) (by decide), ?_⟩
    refine ⟨_, y7, y8, y9, y10, sm ++ [m2], rfl, (e.trans sE).mut hS, pt21.upd npS, ⟨S, _, rfl, upd_same, ?_⟩, by simp [hsl]; omega, fun z hz => ?_⟩
    · rw [List.map_append]
      exact DaAll.snoc (Da.st st _ _ (imm_mo _) hy2) (Da.stAll st _ _ (imm_mos _) h2)
    · rcases List.mem_append.mp hz with hz | hz
      · exact hsok z hz
      · rw [List.mem_singleton.mp hz]
        exact hok2
  obtain ⟨y4, y7, y8, y9, y10, sm, rfl, e6, pt6, hSm, hsl, hsok⟩ := pv'
  have eLa6 := e6 _ _ npLa.symm eLa5
  have hat6 : ∀ (j : Nat) (L : List (List Int)), Ls[j]? = some L → ∃ l : V, ls[j]? = some l ∧ MoL K H6 l L := fun j L hj => by
    obtain ⟨l, c1, _, c3⟩ := hat5 j L hj
    exact ⟨l, c1, c3.sameB e6 pt5⟩
  -- fronts
  refine ⟨.ref La, rfl, La, rfl, ⟨_, SqL.of eLa6⟩, fun Fa hFa => ?_⟩
  refine lc_it (walk_list (K := K) (xs := ls)) (fun i H' => Same H6 H' ∧ ∃ fs : List V, H' Fa = some (.lst fs) ∧ fs.length = i ∧ ∀ (j : Nat) (L : List (List Int)), j < i → Ls[j]? = some L → ∃ f : V, fs[j]? = some f ∧ FrontAt K C H' f n L)
    ⟨same_upd hFa, [], upd_same, rfl, fun j L hj => by omega⟩ (fun i H' _ pw => SqL.of (pw.1 _ _ eLa6)) (fun i x H' H'' hi pw y => ?_) (fun H7 pw => ?_)
  · obtain ⟨rfl, hx⟩ := y
    obtain ⟨e7, fs, eFa, hfl, hfat⟩ := pw
    have hiL : i < Ls.length := by omega
    obtain ⟨l, c1, c2⟩ := hat6 i Ls[i] (by simp [hiL])
    have hxl : x = l := Option.some.inj (hx.symm.trans c1)
    subst hxl
    obtain ⟨xa, lv, rfl, hxa, hxd⟩ := c2.same e7
    refine ⟨rfl, .int (1 + r), rfl, .ref xa, rfl, xa, lv, rfl, .inl (SqL.of hxa), fun c nc => ?_⟩
    have sc : Same H'' (L2.upd H'' c (.lst lv)) := same_upd nc
    obtain ⟨hp6, hpok, hpil⟩ := hprop Ls[i] (List.getElem_mem hiL)
    refine fun x0 dx0 nx ndx nex => ⟨x0, dx0, n, .ref c, Ls[i], (by rw [← hnv]; rfl), upd_same, hn1, hn4, MoL.same ⟨c, lv, rfl, upd_same, Da.sameAll sc _ _ hxd⟩ (same_two nx ndx), hpok, by omega, fun H8 LF sb hF hFk il' => ⟨rfl, ?_⟩⟩
    have eL : Ls[i] = LF := hpil.uniq il'
    have sF := sc.trans (same_made nx ndx sb)
    have eFa8 := sF _ _ eFa
    refine ⟨fs, eFa8, ?_, (e7.trans sF).mut hFa, fs ++ [.ref x0], upd_same, by simp [hfl], fun j L hj hjL => ?_⟩
    · rw [hfl]
      exact Nat.lt_of_lt_of_le hiL (by rw [hLs4]; decide)
    · by_cases hj' : j < i
      · obtain ⟨f, k1, k2⟩ := hfat j L hj' hjL
        have h0 : 0 < i := by omega
        obtain ⟨f0, k01, k02⟩ := hfat 0 Ls[0] h0 (by simp [show 0 < Ls.length by omega])
        obtain ⟨fr, efr⟩ := first_of k01
        have nm : NM H8 Fa := by
          rw [efr] at eFa8
          exact NM.ofFr eFa8 (k02.same sF)
        exact ⟨f, by rw [List.getElem?_append_left (by omega)]; exact k1, (k2.same sF).updN nm⟩
      · have hj0 : j = i := by omega
        subst hj0
        have hLL : Ls[j] = L := Option.some.inj (by rw [← hjL]; simp [hiL])
        rw [← hLL]
        refine ⟨.ref x0, snoc_at (by omega), ?_⟩
        rw [eL]
        exact hFk Fa fs _ ((same_two nx ndx) _ _ (sc _ _ eFa))
  obtain ⟨e7, fs, eFa7, hfl, hfat⟩ := pw
  -- folds
  refine ⟨.ref La, rfl, La, rfl, ⟨_, SqL.of (e7 _ _ eLa6)⟩, fun Ga hGa => ?_⟩
  obtain ⟨S', sv, eS, hSa, hSd⟩ := id hSm
  cases eS
  have lsv : sv.length = sm.length := by simpa using hSd.length
  refine lc_it (walk_list (K := K) (xs := ls)) (fun i H' => Same H7 H' ∧ ∃ ds : List V, H' Ga = some (.lst ds) ∧ ds.length = i ∧ ∀ (j : Nat) (L : List (List Int)), j < i → Ls[j]? = some L → ∃ d : V, ds[j]? = some d ∧ d ≠ .ref Ga ∧ MoL K H' d (sm.map (foldL L)))
    ⟨same_upd hGa, [], upd_same, rfl, fun j L hj => by omega⟩ (fun i H' _ pw => SqL.of (pw.1 _ _ (e7 _ _ eLa6))) (fun i x H' H'' hi pw y => ?_) (fun H8 pw => ?_)
  · obtain ⟨rfl, hx⟩ := y
    obtain ⟨e8, ds, eGa, hdl, hdat⟩ := pw
    have hiL : i < Ls.length := by omega
    obtain ⟨l, c1, c2⟩ := hat6 i Ls[i] (by simp [hiL])
    have hxl : x = l := Option.some.inj (hx.symm.trans c1)
    subst hxl
    obtain ⟨hp6, hpok, hpil⟩ := hprop Ls[i] (List.getElem_mem hiL)
    have e78 := e7.trans e8
    refine ⟨rfl, .ref S, rfl, S, rfl, ⟨_, SqL.of (e78 _ _ hSa)⟩, fun I hI => ?_⟩
    refine lc_dat (K := K) walk_list hI (by omega) (fun H1 e1 => SqL.of (e1 _ _ (e78 _ _ hSa))) ((sm.map (foldL Ls[i])).map mo) (by simp [lsv]) (imm_mos _) (fun k x3 H3 H3' Q' hk e3 y3' kk => ?_) (fun H3 acc e3 eI dI => ?_)
    · obtain ⟨rfl, hy⟩ := y3'
      obtain ⟨dd, hd1, hd2⟩ := hSd.get hy
      obtain ⟨m, hm, rfl⟩ := mo_at hd1
      refine ⟨rfl, x, rfl, x3, rfl, x, x3, n, Ls[i], m, rfl, (c2.same e78).same e3, Mo.same hd2 (e78.trans e3), hpok, hsok m (List.mem_of_getElem? hm), hn1, by omega, fun H9 z s9 hz => kk _ _ (mo (foldL Ls[i] m)) s9 ?_ hz⟩
      simp [hm]
    · have eGa3 := e3 _ _ eGa
      have nIG : V.ref I ≠ .ref Ga := fun z => by
        cases z
        rw [eGa] at hI
        cases hI
      refine ⟨ds, eGa3, ?_, (e8.trans e3).mut hGa, ds ++ [.ref I], upd_same, by simp [hdl], fun j L hj hjL => ?_⟩
      · rw [hdl]
        exact Nat.lt_of_lt_of_le hiL (by rw [hLs4]; decide)
      · by_cases hj' : j < i
        · obtain ⟨d, k1, k2, k3⟩ := hdat j L hj' hjL
          exact ⟨d, by rw [List.getElem?_append_left (by omega)]; exact k1, k2, (k3.same e3).upd k2 eGa3⟩
        · have hj0 : j = i := by omega
          subst hj0
          have hLL : Ls[j] = L := Option.some.inj (by rw [← hjL]; simp [hiL])
          rw [← hLL]
          exact ⟨.ref I, snoc_at (by omega), nIG, MoL.upd ⟨I, acc, rfl, eI, dI⟩ nIG eGa3⟩
  obtain ⟨e8, ds, eGa8, hdl, hdat⟩ := pw
  have e78 := e7.trans e8
  have nFL : Fa ≠ La := (ne_of_none eLa6 hFa).symm
  have nFG : Fa ≠ Ga := ne_of_none eFa7 hGa
  have nLG : La ≠ Ga := ne_of_none (e7 _ _ eLa6) hGa
  have S8 : St K C H8 Fa La Ga n sm Ls := ⟨fs, ls, ds, e8 _ _ eFa7, e78 _ _ eLa6, eGa8, by omega, by omega, by omega, fun i L hi => by
    have hlt : i < Ls.length := (List.getElem?_eq_some_iff.mp hi).1
    obtain ⟨f, k1, k2⟩ := hfat i L (by omega) hi
    obtain ⟨l, c1, c2⟩ := hat6 i L hi
    obtain ⟨d, d1, _, d3⟩ := hdat i L (by omega) hi
    exact ⟨f, l, d, k1, c1, d1, k2.same e8, c2.same e78, d3⟩, nFL, nFG, nLG⟩
  have pt8 := pt6.same e78
  have hS8 := hSm.same e78
  have hsl2 : sm.length ≤ 10000 := by omega
  -- the four
  refine ⟨4, rfl, by decide, by decide, ?_⟩
  refine for_range (lo := 0) (n := 4) (fun i σ H' => ∃ (y4 y8 y10 : Option V), σ = [some (.ref a), some (.ref p), some (.int (1 + r)), some (.ref gA), y4, some (.ref La), some (.ref S), some (.ref Fa), y8, some (.ref Ga), y10] ∧ Same H8 H') ⟨_, _, _, rfl, Same.refl _⟩ (fun i σ H' hi pv' => ?_) (fun σ H9 pv' => ?_)
  · obtain ⟨y4, y8, y10, rfl, e⟩ := pv'
    obtain ⟨fs', ls', ds', g1, g2, g3, _, _, _, hat, _⟩ := S8.same e
    obtain ⟨f, l, d, a1, a2, a3, b1, b2, b3⟩ := hat i Ls[i] (by simp [show i < Ls.length by omega])
    refine ⟨.ref Fa, rfl, .int (0 + (i : Nat)), rfl, Fa, _, _, f, rfl, rfl, SqL.of g1, at_of (j := i) (by omega) a1, .ref S, rfl, .ref Ga, rfl, .int (0 + (i : Nat)), rfl, Ga, _, _, d, rfl, rfl, SqL.of g3, at_of (j := i) (by omega) a3, f, .ref S, d, n, Ls[i], sm, rfl, b1, hS8.same e, b3, hsok, hn1, hn4, hsl2, fun H9 s9 => ⟨true, rfl, iteF ⟨_, _, _, rfl, e.trans s9⟩⟩⟩
  obtain ⟨y4, y8, y10, rfl, e9⟩ := pv'
  -- five steps
  refine ⟨5, rfl, by decide, by decide, ?_⟩
  refine for_range (lo := 0) (n := 5) (fun i σ H' => ∃ (y4 y8 y10 : Option V) (Ls' : List (List (List Int))), σ = [some (.ref a), some (.ref p), some (.int (1 + r)), some (.ref gA), y4, some (.ref La), some (.ref S), some (.ref Fa), y8, some (.ref Ga), y10] ∧ PotAt H' p ∧ St K C H' Fa La Ga n sm Ls' ∧ MoL K H' (.ref S) sm ∧ 4 ≤ Ls'.length ∧ Ls'.length ≤ 4 + i ∧ ∀ L ∈ Ls', L.length ≤ 6) ⟨_, _, _, Ls, rfl, pt8.same e9, S8.same e9, hS8.same e9, by omega, by omega, fun L hL => (hprop L hL).1⟩ (fun i σ H' hi pv' => ?_) (fun σ H10 pv' => ?_)
  · obtain ⟨y4, y8, y10, Ls', rfl, ptp, Sp, hSp, g4, g5, g6⟩ := pv'
    refine ⟨.ref p, rfl, .ref Fa, rfl, .ref La, rfl, .ref Ga, rfl, .ref S, rfl, p, Fa, La, Ga, .ref S, n, sm, Ls', rfl, ptp, Sp, hSp, hsok, hn1, hn4, hsl2, by omega, by omega, g6, fun H11 L2' p11 S11 hor h11 => ⟨true, rfl, iteF ⟨_, _, _, L2', rfl, p11, S11, h11, ?_⟩⟩⟩
    rcases hor with rfl | ⟨L, rfl, hL⟩
    · exact ⟨g4, by omega, g6⟩
    · refine ⟨by simp; omega, by simp; omega, fun z hz => ?_⟩
      rcases List.mem_append.mp hz with hz | hz
      · exact g6 z hz
      · rw [List.mem_singleton.mp hz]
        exact hL
  obtain ⟨y4, y8, y10, Ls', rfl, ptp, Sp, hSp, g4, g5, g6⟩ := pv'
  -- all
  obtain ⟨fs', ls', ds', h1, h2, h3, l1, l2, l3, hat, _⟩ := id Sp
  refine ⟨.ref Fa, rfl, Fa, _, rfl, .inl (SqL.of h1), (fs'.length : Nat), rfl, by omega, by omega, ?_⟩
  refine for_range (lo := 0) (n := ((fs'.length : Nat) : Int).toNat) (fun i σ H' => ∃ (y4 y8 y10 : Option V), σ = [some (.ref a), some (.ref p), some (.int (1 + r)), some (.ref gA), y4, some (.ref La), some (.ref S), some (.ref Fa), y8, some (.ref Ga), y10] ∧ Same H10 H') ⟨_, _, _, rfl, Same.refl _⟩ (fun i σ H' hi pv' => ?_) (fun σ H11 pv' => ?_)
  · obtain ⟨y4, y8, y10, rfl, e⟩ := pv'
    have hiL : i < Ls'.length := by omega
    obtain ⟨f, l, d, a1, a2, a3, b1, b2, b3⟩ := hat i Ls'[i] (by simp [hiL])
    refine ⟨.ref Fa, rfl, .int (0 + (i : Nat)), rfl, Fa, _, _, f, rfl, rfl, SqL.of (e _ _ h1), at_of (j := i) (by omega) a1, .ref S, rfl, .ref Ga, rfl, .int (0 + (i : Nat)), rfl, Ga, _, _, d, rfl, rfl, SqL.of (e _ _ h3), at_of (j := i) (by omega) a3, f, .ref S, d, n, Ls'[i], sm, rfl, b1.same e, hSp.same e, b3.same e, hsok, hn1, hn4, hsl2, fun H9 s9 => ⟨true, rfl, iteF ⟨_, _, _, rfl, e.trans s9⟩⟩⟩
  obtain ⟨y4, y8, y10, rfl, e11⟩ := pv'
  -- the end
  refine ⟨4, rfl, by decide, by decide, fun D hD => ?_⟩
  refine lc_val (walk_range (lo := 0) (n := 4)) hD (by decide) (fun _ _ => True.intro) (List.replicate 4 (V.bl true)) (by simp) (fun i x H3 H4 Q' hi e3 y1 k => ?_) (fun H3 e3 eD => ?_)
  · obtain ⟨rfl, rfl⟩ := y1
    have e2 := e11.trans e3
    have hiL : i < Ls'.length := by omega
    obtain ⟨f, l, d, a1, a2, a3, b1, b2, b3⟩ := hat i Ls'[i] (by simp [hiL])
    have hF' := b1.same e2
    obtain ⟨q0, dx, d0, lv, rfl, hq, _⟩ := id hF'
    refine ⟨rfl, .ref Fa, rfl, _, rfl, Fa, _, _, .ref q0, rfl, rfl, SqL.of (e2 _ _ h1), at_of (j := i) (by omega) a1, q0, dx, _, rfl, hq, frF_no n d0 (by decide +kernel) (by decide +kernel), .ref q0, n, Ls'[i], rfl, hF', fun H5 d5 lv5 s5 n5 e5 dd5 => ?_⟩
    refine ⟨.ref La, rfl, _, rfl, La, _, _, l, rfl, rfl, SqL.of (s5 _ _ (e2 _ _ h2)), at_of (j := i) (by omega) a2, ?_⟩
    refine ⟨.list (Ls'[i].map mo), .list (Ls'[i].map mo), Da.dp _ _ (.lst (SqL.of e5) dd5), Da.dp _ _ ((b2.same e2).same s5).da, shaped_mos _, shaped_mos _, k _ _ s5 ?_⟩
    rw [eqv_mos, decide_eq_true rfl, List.getElem?_replicate, if_pos hi]
  · refine ⟨D, List.replicate 4 true, rfl, SqL.of (by rw [eD, List.map_replicate]), ?_⟩
    exact q H3
end
end K5

namespace K5
open PySem PySem.Spec PyProof.Rows L2
section
theorem all_mk {l : PySem.W.OpenLaw} {w : World} {K : PySem.W.Frag} {h : Heap} {mg : Str → Option Value} {fa C f0 f1 f2 f3 f4 f5 f6 f7 f8 f9 f10 f11 f12 f13 f14 f15 f16 f17 f18 f19 f20 f21 f22 f23 f24 f25 f26 f27 f28 f29 f30 f31 f32 f33 : Addr} {gt0 : Tok} (X : K.In h) (G : h.Ns mainGlobals mg) (hfa : mg "law" = some (.ref fa))
    {od0 an0 : Option Addr} {sl0 : Array (Option Value)} {oc0 kV0 dc0 pm0 cd0 ct0 : Value}
    {od1 an1 : Option Addr} {sl1 : Array (Option Value)} {oc1 kV1 dc1 pm1 cd1 ct1 : Value}
    {od2 an2 : Option Addr} {sl2 : Array (Option Value)} {oc2 kV2 dc2 pm2 cd2 ct2 : Value}
    {od3 an3 : Option Addr} {sl3 : Array (Option Value)} {oc3 kV3 dc3 pm3 cd3 ct3 : Value}
    {od4 an4 : Option Addr} {sl4 : Array (Option Value)} {oc4 kV4 dc4 pm4 cd4 ct4 : Value}
    {od5 an5 : Option Addr} {sl5 : Array (Option Value)} {oc5 kV5 dc5 pm5 cd5 ct5 : Value}
    {od6 an6 : Option Addr} {sl6 : Array (Option Value)} {oc6 kV6 dc6 pm6 cd6 ct6 : Value}
    {od7 an7 : Option Addr} {sl7 : Array (Option Value)} {oc7 kV7 dc7 pm7 cd7 ct7 : Value}
    {od8 an8 : Option Addr} {sl8 : Array (Option Value)} {oc8 kV8 dc8 pm8 cd8 ct8 : Value}
    {od9 an9 : Option Addr} {sl9 : Array (Option Value)} {oc9 kV9 dc9 pm9 cd9 ct9 : Value}
    {od10 an10 : Option Addr} {sl10 : Array (Option Value)} {oc10 kV10 dc10 pm10 cd10 ct10 : Value}
    {od11 an11 : Option Addr} {sl11 : Array (Option Value)} {oc11 kV11 dc11 pm11 cd11 ct11 : Value}
    {od12 an12 : Option Addr} {sl12 : Array (Option Value)} {oc12 kV12 dc12 pm12 cd12 ct12 : Value}
    {od13 an13 : Option Addr} {sl13 : Array (Option Value)} {oc13 kV13 dc13 pm13 cd13 ct13 : Value}
    {od14 an14 : Option Addr} {sl14 : Array (Option Value)} {oc14 kV14 dc14 pm14 cd14 ct14 : Value}
    {od15 an15 : Option Addr} {sl15 : Array (Option Value)} {oc15 kV15 dc15 pm15 cd15 ct15 : Value}
    {od16 an16 : Option Addr} {sl16 : Array (Option Value)} {oc16 kV16 dc16 pm16 cd16 ct16 : Value}
    {od17 an17 : Option Addr} {sl17 : Array (Option Value)} {oc17 kV17 dc17 pm17 cd17 ct17 : Value}
    {od18 an18 : Option Addr} {sl18 : Array (Option Value)} {oc18 kV18 dc18 pm18 cd18 ct18 : Value}
    {od19 an19 : Option Addr} {sl19 : Array (Option Value)} {oc19 kV19 dc19 pm19 cd19 ct19 : Value}
    {od20 an20 : Option Addr} {sl20 : Array (Option Value)} {oc20 kV20 dc20 pm20 cd20 ct20 : Value}
    {od21 an21 : Option Addr} {sl21 : Array (Option Value)} {oc21 kV21 dc21 pm21 cd21 ct21 : Value}
    {od22 an22 : Option Addr} {sl22 : Array (Option Value)} {oc22 kV22 dc22 pm22 cd22 ct22 : Value}
    {od23 an23 : Option Addr} {sl23 : Array (Option Value)} {oc23 kV23 dc23 pm23 cd23 ct23 : Value}
    {od24 an24 : Option Addr} {sl24 : Array (Option Value)} {oc24 kV24 dc24 pm24 cd24 ct24 : Value}
    {od25 an25 : Option Addr} {sl25 : Array (Option Value)} {oc25 kV25 dc25 pm25 cd25 ct25 : Value}
    {od26 an26 : Option Addr} {sl26 : Array (Option Value)} {oc26 kV26 dc26 pm26 cd26 ct26 : Value}
    {od27 an27 : Option Addr} {sl27 : Array (Option Value)} {oc27 kV27 dc27 pm27 cd27 ct27 : Value}
    {od28 an28 : Option Addr} {sl28 : Array (Option Value)} {oc28 kV28 dc28 pm28 cd28 ct28 : Value}
    {od29 an29 : Option Addr} {sl29 : Array (Option Value)} {oc29 kV29 dc29 pm29 cd29 ct29 : Value}
    {od30 an30 : Option Addr} {sl30 : Array (Option Value)} {oc30 kV30 dc30 pm30 cd30 ct30 : Value}
    {od31 an31 : Option Addr} {sl31 : Array (Option Value)} {oc31 kV31 dc31 pm31 cd31 ct31 : Value}
    {od32 an32 : Option Addr} {sl32 : Array (Option Value)} {oc32 kV32 dc32 pm32 cd32 ct32 : Value}
    {od33 an33 : Option Addr} {sl33 : Array (Option Value)} {oc33 kV33 dc33 pm33 cd33 ct33 : Value}
    (aC : PySem.W.nsIn K mainGlobals "Front" = some (some (.ref C)))
    (a0 : PySem.W.nsIn K mainGlobals "is_number" = some (some (.ref f0))) (l0 : K.lookup f0 = some ⟨oc0, od0, .func (PySem.W.fnOf "is_number" "is_number" (defArgs sis_number) (defBody sis_number) (defScope sis_number) .none kV0 dc0 pm0 an0 cd0 ct0), sl0⟩) (c0 : PySem.W.codeIn K cd0 "is_number" = true) (k0 : PySem.W.keepIn K (.ref f0) = true)
    (a1 : PySem.W.nsIn K mainGlobals "check_axes" = some (some (.ref f1))) (l1 : K.lookup f1 = some ⟨oc1, od1, .func (PySem.W.fnOf "check_axes" "check_axes" (defArgs scheck_axes) (defBody scheck_axes) (defScope scheck_axes) .none kV1 dc1 pm1 an1 cd1 ct1), sl1⟩) (c1 : PySem.W.codeIn K cd1 "check_axes" = true) (k1 : PySem.W.keepIn K (.ref f1) = true)
    (a2 : PySem.W.nsIn K mainGlobals "check_like_axes" = some (some (.ref f2))) (l2 : K.lookup f2 = some ⟨oc2, od2, .func (PySem.W.fnOf "check_like_axes" "check_like_axes" (defArgs scheck_like_axes) (defBody scheck_like_axes) (defScope scheck_like_axes) .none kV2 dc2 pm2 an2 cd2 ct2), sl2⟩) (c2 : PySem.W.codeIn K cd2 "check_like_axes" = true) (k2 : PySem.W.keepIn K (.ref f2) = true)
    (a3 : PySem.W.nsIn K mainGlobals "is_moment" = some (some (.ref f3))) (l3 : K.lookup f3 = some ⟨oc3, od3, .func (PySem.W.fnOf "is_moment" "is_moment" (defArgs sis_moment) (defBody sis_moment) (defScope sis_moment) .none kV3 dc3 pm3 an3 cd3 ct3), sl3⟩) (c3 : PySem.W.codeIn K cd3 "is_moment" = true) (k3 : PySem.W.keepIn K (.ref f3) = true)
    (a4 : PySem.W.nsIn K mainGlobals "before" = some (some (.ref f4))) (l4 : K.lookup f4 = some ⟨oc4, od4, .func (PySem.W.fnOf "before" "before" (defArgs sbefore) (defBody sbefore) (defScope sbefore) .none kV4 dc4 pm4 an4 cd4 ct4), sl4⟩) (c4 : PySem.W.codeIn K cd4 "before" = true) (k4 : PySem.W.keepIn K (.ref f4) = true)
    (a5 : PySem.W.nsIn K mainGlobals "join_of" = some (some (.ref f5))) (l5 : K.lookup f5 = some ⟨oc5, od5, .func (PySem.W.fnOf "join_of" "join_of" (defArgs sjoin_of) (defBody sjoin_of) (defScope sjoin_of) .none kV5 dc5 pm5 an5 cd5 ct5), sl5⟩) (c5 : PySem.W.codeIn K cd5 "join_of" = true) (k5 : PySem.W.keepIn K (.ref f5) = true)
    (a6 : PySem.W.nsIn K mainGlobals "meet_of" = some (some (.ref f6))) (l6 : K.lookup f6 = some ⟨oc6, od6, .func (PySem.W.fnOf "meet_of" "meet_of" (defArgs smeet_of) (defBody smeet_of) (defScope smeet_of) .none kV6 dc6 pm6 an6 cd6 ct6), sl6⟩) (c6 : PySem.W.codeIn K cd6 "meet_of" = true) (k6 : PySem.W.keepIn K (.ref f6) = true)
    (a7 : PySem.W.nsIn K mainGlobals "minimal" = some (some (.ref f7))) (l7 : K.lookup f7 = some ⟨oc7, od7, .func (PySem.W.fnOf "minimal" "minimal" (defArgs sminimal) (defBody sminimal) (defScope sminimal) .none kV7 dc7 pm7 an7 cd7 ct7), sl7⟩) (c7 : PySem.W.codeIn K cd7 "minimal" = true) (k7 : PySem.W.keepIn K (.ref f7) = true)
    (a8 : PySem.W.nsIn K mainGlobals "_law_pot" = some (some (.ref f8))) (l8 : K.lookup f8 = some ⟨oc8, od8, .func (PySem.W.fnOf "_law_pot" "_law_pot" (defArgs s_law_pot) (defBody s_law_pot) (defScope s_law_pot) .none kV8 dc8 pm8 an8 cd8 ct8), sl8⟩) (c8 : PySem.W.codeIn K cd8 "_law_pot" = true) (k8 : PySem.W.keepIn K (.ref f8) = true)
    (a9 : PySem.W.nsIn K mainGlobals "_law_draw" = some (some (.ref f9))) (l9 : K.lookup f9 = some ⟨oc9, od9, .func (PySem.W.fnOf "_law_draw" "_law_draw" (defArgs s_law_draw) (defBody s_law_draw) (defScope s_law_draw) .none kV9 dc9 pm9 an9 cd9 ct9), sl9⟩) (c9 : PySem.W.codeIn K cd9 "_law_draw" = true) (k9 : PySem.W.keepIn K (.ref f9) = true)
    (a10 : PySem.W.nsIn K mainGlobals "_law_great" = some (some (.ref f10))) (l10 : K.lookup f10 = some ⟨oc10, od10, .func (PySem.W.fnOf "_law_great" "_law_great" (defArgs s_law_great) (defBody s_law_great) (defScope s_law_great) .none kV10 dc10 pm10 an10 cd10 ct10), sl10⟩) (c10 : PySem.W.codeIn K cd10 "_law_great" = true) (k10 : PySem.W.keepIn K (.ref f10) = true)
    (a11 : PySem.W.nsIn K mainGlobals "_law_levels" = some (some (.ref f11))) (l11 : K.lookup f11 = some ⟨oc11, od11, .func (PySem.W.fnOf "_law_levels" "_law_levels" (defArgs s_law_levels) (defBody s_law_levels) (defScope s_law_levels) .none kV11 dc11 pm11 an11 cd11 ct11), sl11⟩) (c11 : PySem.W.codeIn K cd11 "_law_levels" = true) (k11 : PySem.W.keepIn K (.ref f11) = true)
    (a12 : PySem.W.nsIn K mainGlobals "_law_grid" = some (some (.ref f12))) (l12 : K.lookup f12 = some ⟨oc12, od12, .func (PySem.W.fnOf "_law_grid" "_law_grid" (defArgs s_law_grid) (defBody s_law_grid) (defScope s_law_grid) .none kV12 dc12 pm12 an12 cd12 ct12), sl12⟩) (c12 : PySem.W.codeIn K cd12 "_law_grid" = true) (k12 : PySem.W.keepIn K (.ref f12) = true)
    (a13 : PySem.W.nsIn K mainGlobals "_law_is_integer" = some (some (.ref f13))) (l13 : K.lookup f13 = some ⟨oc13, od13, .func (PySem.W.fnOf "_law_is_integer" "_law_is_integer" (defArgs s_law_is_integer) (defBody s_law_is_integer) (defScope s_law_is_integer) .none kV13 dc13 pm13 an13 cd13 ct13), sl13⟩) (c13 : PySem.W.codeIn K cd13 "_law_is_integer" = true) (k13 : PySem.W.keepIn K (.ref f13) = true)
    (a14 : PySem.W.nsIn K mainGlobals "_law_is_moment" = some (some (.ref f14))) (l14 : K.lookup f14 = some ⟨oc14, od14, .func (PySem.W.fnOf "_law_is_moment" "_law_is_moment" (defArgs s_law_is_moment) (defBody s_law_is_moment) (defScope s_law_is_moment) .none kV14 dc14 pm14 an14 cd14 ct14), sl14⟩) (c14 : PySem.W.codeIn K cd14 "_law_is_moment" = true) (k14 : PySem.W.keepIn K (.ref f14) = true)
    (a15 : PySem.W.nsIn K mainGlobals "_law_before" = some (some (.ref f15))) (l15 : K.lookup f15 = some ⟨oc15, od15, .func (PySem.W.fnOf "_law_before" "_law_before" (defArgs s_law_before) (defBody s_law_before) (defScope s_law_before) .none kV15 dc15 pm15 an15 cd15 ct15), sl15⟩) (c15 : PySem.W.codeIn K cd15 "_law_before" = true) (k15 : PySem.W.keepIn K (.ref f15) = true)
    (a16 : PySem.W.nsIn K mainGlobals "_law_join" = some (some (.ref f16))) (l16 : K.lookup f16 = some ⟨oc16, od16, .func (PySem.W.fnOf "_law_join" "_law_join" (defArgs s_law_join) (defBody s_law_join) (defScope s_law_join) .none kV16 dc16 pm16 an16 cd16 ct16), sl16⟩) (c16 : PySem.W.codeIn K cd16 "_law_join" = true) (k16 : PySem.W.keepIn K (.ref f16) = true)
    (a17 : PySem.W.nsIn K mainGlobals "_law_meet" = some (some (.ref f17))) (l17 : K.lookup f17 = some ⟨oc17, od17, .func (PySem.W.fnOf "_law_meet" "_law_meet" (defArgs s_law_meet) (defBody s_law_meet) (defScope s_law_meet) .none kV17 dc17 pm17 an17 cd17 ct17), sl17⟩) (c17 : PySem.W.codeIn K cd17 "_law_meet" = true) (k17 : PySem.W.keepIn K (.ref f17) = true)
    (a18 : PySem.W.nsIn K mainGlobals "_law_least" = some (some (.ref f18))) (l18 : K.lookup f18 = some ⟨oc18, od18, .func (PySem.W.fnOf "_law_least" "_law_least" (defArgs s_law_least) (defBody s_law_least) (defScope s_law_least) .none kV18 dc18 pm18 an18 cd18 ct18), sl18⟩) (c18 : PySem.W.codeIn K cd18 "_law_least" = true) (k18 : PySem.W.keepIn K (.ref f18) = true)
    (a19 : PySem.W.nsIn K mainGlobals "_law_spot" = some (some (.ref f19))) (l19 : K.lookup f19 = some ⟨oc19, od19, .func (PySem.W.fnOf "_law_spot" "_law_spot" (defArgs s_law_spot) (defBody s_law_spot) (defScope s_law_spot) .none kV19 dc19 pm19 an19 cd19 ct19), sl19⟩) (c19 : PySem.W.codeIn K cd19 "_law_spot" = true) (k19 : PySem.W.keepIn K (.ref f19) = true)
    (a20 : PySem.W.nsIn K mainGlobals "_law_moved" = some (some (.ref f20))) (l20 : K.lookup f20 = some ⟨oc20, od20, .func (PySem.W.fnOf "_law_moved" "_law_moved" (defArgs s_law_moved) (defBody s_law_moved) (defScope s_law_moved) .none kV20 dc20 pm20 an20 cd20 ct20), sl20⟩) (c20 : PySem.W.codeIn K cd20 "_law_moved" = true) (k20 : PySem.W.keepIn K (.ref f20) = true)
    (a21 : PySem.W.nsIn K mainGlobals "_law_fold" = some (some (.ref f21))) (l21 : K.lookup f21 = some ⟨oc21, od21, .func (PySem.W.fnOf "_law_fold" "_law_fold" (defArgs s_law_fold) (defBody s_law_fold) (defScope s_law_fold) .none kV21 dc21 pm21 an21 cd21 ct21), sl21⟩) (c21 : PySem.W.codeIn K cd21 "_law_fold" = true) (k21 : PySem.W.keepIn K (.ref f21) = true)
    (a22 : PySem.W.nsIn K mainGlobals "_law_joins" = some (some (.ref f22))) (l22 : K.lookup f22 = some ⟨oc22, od22, .func (PySem.W.fnOf "_law_joins" "_law_joins" (defArgs s_law_joins) (defBody s_law_joins) (defScope s_law_joins) .none kV22 dc22 pm22 an22 cd22 ct22), sl22⟩) (c22 : PySem.W.codeIn K cd22 "_law_joins" = true) (k22 : PySem.W.keepIn K (.ref f22) = true)
    (a23 : PySem.W.nsIn K mainGlobals "_law_folds_are" = some (some (.ref f23))) (l23 : K.lookup f23 = some ⟨oc23, od23, .func (PySem.W.fnOf "_law_folds_are" "_law_folds_are" (defArgs s_law_folds_are) (defBody s_law_folds_are) (defScope s_law_folds_are) .none kV23 dc23 pm23 an23 cd23 ct23), sl23⟩) (c23 : PySem.W.codeIn K cd23 "_law_folds_are" = true) (k23 : PySem.W.keepIn K (.ref f23) = true)
    (a24 : PySem.W.nsIn K mainGlobals "_law_both_folds" = some (some (.ref f24))) (l24 : K.lookup f24 = some ⟨oc24, od24, .func (PySem.W.fnOf "_law_both_folds" "_law_both_folds" (defArgs s_law_both_folds) (defBody s_law_both_folds) (defScope s_law_both_folds) .none kV24 dc24 pm24 an24 cd24 ct24), sl24⟩) (c24 : PySem.W.codeIn K cd24 "_law_both_folds" = true) (k24 : PySem.W.keepIn K (.ref f24) = true)
    (a25 : PySem.W.nsIn K mainGlobals "_law_either_folds" = some (some (.ref f25))) (l25 : K.lookup f25 = some ⟨oc25, od25, .func (PySem.W.fnOf "_law_either_folds" "_law_either_folds" (defArgs s_law_either_folds) (defBody s_law_either_folds) (defScope s_law_either_folds) .none kV25 dc25 pm25 an25 cd25 ct25), sl25⟩) (c25 : PySem.W.codeIn K cd25 "_law_either_folds" = true) (k25 : PySem.W.keepIn K (.ref f25) = true)
    (a26 : PySem.W.nsIn K mainGlobals "_law_some_moments" = some (some (.ref f26))) (l26 : K.lookup f26 = some ⟨oc26, od26, .func (PySem.W.fnOf "_law_some_moments" "_law_some_moments" (defArgs s_law_some_moments) (defBody s_law_some_moments) (defScope s_law_some_moments) .none kV26 dc26 pm26 an26 cd26 ct26), sl26⟩) (c26 : PySem.W.codeIn K cd26 "_law_some_moments" = true) (k26 : PySem.W.keepIn K (.ref f26) = true)
    (a27 : PySem.W.nsIn K mainGlobals "_law_step_holds" = some (some (.ref f27))) (l27 : K.lookup f27 = some ⟨oc27, od27, .func (PySem.W.fnOf "_law_step_holds" "_law_step_holds" (defArgs s_law_step_holds) (defBody s_law_step_holds) (defScope s_law_step_holds) .none kV27 dc27 pm27 an27 cd27 ct27), sl27⟩) (c27 : PySem.W.codeIn K cd27 "_law_step_holds" = true) (k27 : PySem.W.keepIn K (.ref f27) = true)
    (a28 : PySem.W.nsIn K mainGlobals "law" = some (some (.ref f28))) (l28 : K.lookup f28 = some ⟨oc28, od28, .func (PySem.W.fnOf "law" "law" (defArgs slaw) (defBody slaw) (defScope slaw) .none kV28 dc28 pm28 an28 cd28 ct28), sl28⟩) (c28 : PySem.W.codeIn K cd28 "law" = true) (k28 : PySem.W.keepIn K (.ref f28) = true)
    (a29 : PySem.W.findIn K (.ref C) "__init__" = some (some (.ref f29))) (i29 : PySem.W.isFn K (.ref f29) = true) (l29 : K.lookup f29 = some ⟨oc29, od29, .func (PySem.W.fnOf "__init__" "Front.__init__" (defArgs sFront___init__) (defBody sFront___init__) (defScope sFront___init__) .none kV29 dc29 pm29 an29 cd29 ct29), sl29⟩) (c29 : PySem.W.codeIn K cd29 "Front.__init__" = true) (k29 : PySem.W.keepIn K (.ref f29) = true)
    (a30 : PySem.W.findIn K (.ref C) "moments" = some (some (.ref f30))) (i30 : PySem.W.isFn K (.ref f30) = true) (l30 : K.lookup f30 = some ⟨oc30, od30, .func (PySem.W.fnOf "moments" "Front.moments" (defArgs sFront_moments) (defBody sFront_moments) (defScope sFront_moments) .none kV30 dc30 pm30 an30 cd30 ct30), sl30⟩) (c30 : PySem.W.codeIn K cd30 "Front.moments" = true) (k30 : PySem.W.keepIn K (.ref f30) = true)
    (a31 : PySem.W.findIn K (.ref C) "fold" = some (some (.ref f31))) (i31 : PySem.W.isFn K (.ref f31) = true) (l31 : K.lookup f31 = some ⟨oc31, od31, .func (PySem.W.fnOf "fold" "Front.fold" (defArgs sFront_fold) (defBody sFront_fold) (defScope sFront_fold) .none kV31 dc31 pm31 an31 cd31 ct31), sl31⟩) (c31 : PySem.W.codeIn K cd31 "Front.fold" = true) (k31 : PySem.W.keepIn K (.ref f31) = true)
    (a32 : PySem.W.findIn K (.ref C) "__and__" = some (some (.ref f32))) (i32 : PySem.W.isFn K (.ref f32) = true) (l32 : K.lookup f32 = some ⟨oc32, od32, .func (PySem.W.fnOf "__and__" "Front.__and__" (defArgs sFront___and__) (defBody sFront___and__) (defScope sFront___and__) .none kV32 dc32 pm32 an32 cd32 ct32), sl32⟩) (c32 : PySem.W.codeIn K cd32 "Front.__and__" = true) (k32 : PySem.W.keepIn K (.ref f32) = true)
    (a33 : PySem.W.findIn K (.ref C) "__or__" = some (some (.ref f33))) (i33 : PySem.W.isFn K (.ref f33) = true) (l33 : K.lookup f33 = some ⟨oc33, od33, .func (PySem.W.fnOf "__or__" "Front.__or__" (defArgs sFront___or__) (defBody sFront___or__) (defScope sFront___or__) .none kV33 dc33 pm33 an33 cd33 ct33), sl33⟩) (c33 : PySem.W.codeIn K cd33 "Front.__or__" = true) (k33 : PySem.W.keepIn K (.ref f33) = true)
    (pg : PySem.W.plainGet K C Str.empty = true) (hd : PySem.W.hasDictIn K C = true) (po : PySem.W.plainOver K C = true) (sa : PySem.W.findIn K (.ref C) "__setattr__" = some (some (.builtin "object.__setattr__"))) (mk : PySem.W.makesIn K C = true) (kc : PySem.W.keepIn K (.ref C) = true)
    (oha : PySem.W.findIn K (.ref C) "__class__" = some (some (.builtin "object.__class__"))) (ohn : PySem.W.specialIn K (.builtin "object.__class__") "__get__" = some (some (.builtin "getset_descriptor.__get__"))) (otk : PySem.W.takesIn K (.builtin "object.__class__") = some true) (ohm : PySem.W.mroIn K C (.type "object") = some true) (osf : PySem.W.selfFirst K C = true)
    (n0 : PySem.W.findIn K (.ref C) "axes" = some none)
    (n1 : PySem.W.findIn K (.ref C) "_lows" = some none)
    (g0 : PySem.W.nsIn K mainGlobals "MOST_AXES" = some (some (.int 4 gt0)))
    (z0 : PySem.W.nsIn K mainGlobals "all" = some none)
    (z1 : PySem.W.nsIn K mainGlobals "zip" = some none)
    (z2 : PySem.W.nsIn K mainGlobals "tuple" = some none)
    (z3 : PySem.W.nsIn K mainGlobals "max" = some none)
    (z4 : PySem.W.nsIn K mainGlobals "min" = some none)
    (z5 : PySem.W.nsIn K mainGlobals "int" = some none)
    (z6 : PySem.W.nsIn K mainGlobals "bool" = some none)
    (z7 : PySem.W.nsIn K mainGlobals "len" = some none)
    (z8 : PySem.W.nsIn K mainGlobals "range" = some none)
    (z9 : PySem.W.nsIn K mainGlobals "isinstance" = some none)
    (z10 : PySem.W.nsIn K mainGlobals "list" = some none)
    (z11 : PySem.W.nsIn K mainGlobals "any" = some none)
    (z12 : PySem.W.nsIn K mainGlobals "set" = some none)
    (z13 : PySem.W.nsIn K mainGlobals "sorted" = some none)
    : ∃ fd : FuncData, (∀ (s : Shared) (v : Value), BindsTo s fd ⟨[v], []⟩ [("script", v)]) ∧ ∀ base : Heap, K.In base → base.Ns mainGlobals mg → FnOk l.prog w K mg base CX0 7 fa fd ["script"] (spLaw K) := by
  have e := hfa.symm.trans (PySem.W.mg_of X G a28)
  cases e
  have B : Bt mg := ⟨PySem.W.mg_none_of X G z0, PySem.W.mg_none_of X G z1, PySem.W.mg_none_of X G z2, PySem.W.mg_none_of X G z3, PySem.W.mg_none_of X G z4, PySem.W.mg_none_of X G z5, PySem.W.mg_none_of X G z6, PySem.W.mg_none_of X G z7, PySem.W.mg_none_of X G z8, PySem.W.mg_none_of X G z9, PySem.W.mg_none_of X G z10, PySem.W.mg_none_of X G z11, PySem.W.mg_none_of X G z12, PySem.W.mg_none_of X G z13⟩
  have Cl : Cls K C := ⟨pg, hd, po, sa⟩
  have Tx : TxF K C := ⟨Cl, n0, n1⟩
  have mC := PySem.W.mg_of X G aC
  have XI : TxI K C := ⟨oha, ohn, otk, ohm, kit_self⟩
  have G_MOST_AXES : ∃ t, mg "MOST_AXES" = some (.int 4 t) := ⟨_, PySem.W.mg_of X G g0⟩
  have F0 := fun_mk (st := sis_number) l0 c0 k0
  have Tis_number : Top K mg "is_number" sis_number ["value"] := ⟨_, _, F0, PySem.W.mg_of X G a0, F0.binds (ps := ["value"]) fun _ _ _ _ _ _ us hl => match us, hl with | [_], _ => rfl⟩
  have F1 := fun_mk (st := scheck_axes) l1 c1 k1
  have Tcheck_axes : Top K mg "check_axes" scheck_axes ["axes"] := ⟨_, _, F1, PySem.W.mg_of X G a1, F1.binds (ps := ["axes"]) fun _ _ _ _ _ _ us hl => match us, hl with | [_], _ => rfl⟩
  have F2 := fun_mk (st := scheck_like_axes) l2 c2 k2
  have Tcheck_like_axes : Top K mg "check_like_axes" scheck_like_axes ["left", "right"] := ⟨_, _, F2, PySem.W.mg_of X G a2, F2.binds (ps := ["left", "right"]) fun _ _ _ _ _ _ us hl => match us, hl with | [_, _], _ => rfl⟩
  have F3 := fun_mk (st := sis_moment) l3 c3 k3
  have Tis_moment : Top K mg "is_moment" sis_moment ["value", "axes"] := ⟨_, _, F3, PySem.W.mg_of X G a3, F3.binds (ps := ["value", "axes"]) fun _ _ _ _ _ _ us hl => match us, hl with | [_, _], _ => rfl⟩
  have F4 := fun_mk (st := sbefore) l4 c4 k4
  have Tbefore : Top K mg "before" sbefore ["first", "second"] := ⟨_, _, F4, PySem.W.mg_of X G a4, F4.binds (ps := ["first", "second"]) fun _ _ _ _ _ _ us hl => match us, hl with | [_, _], _ => rfl⟩
  have F5 := fun_mk (st := sjoin_of) l5 c5 k5
  have Tjoin_of : Top K mg "join_of" sjoin_of ["first", "second"] := ⟨_, _, F5, PySem.W.mg_of X G a5, F5.binds (ps := ["first", "second"]) fun _ _ _ _ _ _ us hl => match us, hl with | [_, _], _ => rfl⟩
  have F6 := fun_mk (st := smeet_of) l6 c6 k6
  have Tmeet_of : Top K mg "meet_of" smeet_of ["first", "second"] := ⟨_, _, F6, PySem.W.mg_of X G a6, F6.binds (ps := ["first", "second"]) fun _ _ _ _ _ _ us hl => match us, hl with | [_, _], _ => rfl⟩
  have F7 := fun_mk (st := sminimal) l7 c7 k7
  have Tminimal : Top K mg "minimal" sminimal ["moments"] := ⟨_, _, F7, PySem.W.mg_of X G a7, F7.binds (ps := ["moments"]) fun _ _ _ _ _ _ us hl => match us, hl with | [_], _ => rfl⟩
  have F8 := fun_mk (st := s_law_pot) l8 c8 k8
  have T_law_pot : Top K mg "_law_pot" s_law_pot ["script"] := ⟨_, _, F8, PySem.W.mg_of X G a8, F8.binds (ps := ["script"]) fun _ _ _ _ _ _ us hl => match us, hl with | [_], _ => rfl⟩
  have F9 := fun_mk (st := s_law_draw) l9 c9 k9
  have T_law_draw : Top K mg "_law_draw" s_law_draw ["pot", "size"] := ⟨_, _, F9, PySem.W.mg_of X G a9, F9.binds (ps := ["pot", "size"]) fun _ _ _ _ _ _ us hl => match us, hl with | [_, _], _ => rfl⟩
  have F10 := fun_mk (st := s_law_great) l10 c10 k10
  have T_law_great : Top K mg "_law_great" s_law_great ["pot"] := ⟨_, _, F10, PySem.W.mg_of X G a10, F10.binds (ps := ["pot"]) fun _ _ _ _ _ _ us hl => match us, hl with | [_], _ => rfl⟩
  have F11 := fun_mk (st := s_law_levels) l11 c11 k11
  have T_law_levels : Top K mg "_law_levels" s_law_levels ["pot", "many"] := ⟨_, _, F11, PySem.W.mg_of X G a11, F11.binds (ps := ["pot", "many"]) fun _ _ _ _ _ _ us hl => match us, hl with | [_, _], _ => rfl⟩
  have F12 := fun_mk (st := s_law_grid) l12 c12 k12
  have T_law_grid : Top K mg "_law_grid" s_law_grid ["levels"] := ⟨_, _, F12, PySem.W.mg_of X G a12, F12.binds (ps := ["levels"]) fun _ _ _ _ _ _ us hl => match us, hl with | [_], _ => rfl⟩
  have F13 := fun_mk (st := s_law_is_integer) l13 c13 k13
  have T_law_is_integer : Top K mg "_law_is_integer" s_law_is_integer ["told"] := ⟨_, _, F13, PySem.W.mg_of X G a13, F13.binds (ps := ["told"]) fun _ _ _ _ _ _ us hl => match us, hl with | [_], _ => rfl⟩
  have F14 := fun_mk (st := s_law_is_moment) l14 c14 k14
  have T_law_is_moment : Top K mg "_law_is_moment" s_law_is_moment ["told", "span"] := ⟨_, _, F14, PySem.W.mg_of X G a14, F14.binds (ps := ["told", "span"]) fun _ _ _ _ _ _ us hl => match us, hl with | [_, _], _ => rfl⟩
  have F15 := fun_mk (st := s_law_before) l15 c15 k15
  have T_law_before : Top K mg "_law_before" s_law_before ["one", "mate"] := ⟨_, _, F15, PySem.W.mg_of X G a15, F15.binds (ps := ["one", "mate"]) fun _ _ _ _ _ _ us hl => match us, hl with | [_, _], _ => rfl⟩
  have F16 := fun_mk (st := s_law_join) l16 c16 k16
  have T_law_join : Top K mg "_law_join" s_law_join ["one", "mate"] := ⟨_, _, F16, PySem.W.mg_of X G a16, F16.binds (ps := ["one", "mate"]) fun _ _ _ _ _ _ us hl => match us, hl with | [_, _], _ => rfl⟩
  have F17 := fun_mk (st := s_law_meet) l17 c17 k17
  have T_law_meet : Top K mg "_law_meet" s_law_meet ["one", "mate"] := ⟨_, _, F17, PySem.W.mg_of X G a17, F17.binds (ps := ["one", "mate"]) fun _ _ _ _ _ _ us hl => match us, hl with | [_, _], _ => rfl⟩
  have F18 := fun_mk (st := s_law_least) l18 c18 k18
  have T_law_least : Top K mg "_law_least" s_law_least ["given"] := ⟨_, _, F18, PySem.W.mg_of X G a18, F18.binds (ps := ["given"]) fun _ _ _ _ _ _ us hl => match us, hl with | [_], _ => rfl⟩
  have F19 := fun_mk (st := s_law_spot) l19 c19 k19
  have T_law_spot : Top K mg "_law_spot" s_law_spot ["pot", "grid", "span"] := ⟨_, _, F19, PySem.W.mg_of X G a19, F19.binds (ps := ["pot", "grid", "span"]) fun _ _ _ _ _ _ us hl => match us, hl with | [_, _, _], _ => rfl⟩
  have F20 := fun_mk (st := s_law_moved) l20 c20 k20
  have T_law_moved : Top K mg "_law_moved" s_law_moved ["pot", "spot"] := ⟨_, _, F20, PySem.W.mg_of X G a20, F20.binds (ps := ["pot", "spot"]) fun _ _ _ _ _ _ us hl => match us, hl with | [_, _], _ => rfl⟩
  have F21 := fun_mk (st := s_law_fold) l21 c21 k21
  have T_law_fold : Top K mg "_law_fold" s_law_fold ["least", "spot"] := ⟨_, _, F21, PySem.W.mg_of X G a21, F21.binds (ps := ["least", "spot"]) fun _ _ _ _ _ _ us hl => match us, hl with | [_, _], _ => rfl⟩
  have F22 := fun_mk (st := s_law_joins) l22 c22 k22
  have T_law_joins : Top K mg "_law_joins" s_law_joins ["some", "mates"] := ⟨_, _, F22, PySem.W.mg_of X G a22, F22.binds (ps := ["some", "mates"]) fun _ _ _ _ _ _ us hl => match us, hl with | [_, _], _ => rfl⟩
  have F23 := fun_mk (st := s_law_folds_are) l23 c23 k23
  have T_law_folds_are : Top K mg "_law_folds_are" s_law_folds_are ["front", "some", "dues"] := ⟨_, _, F23, PySem.W.mg_of X G a23, F23.binds (ps := ["front", "some", "dues"]) fun _ _ _ _ _ _ us hl => match us, hl with | [_, _, _], _ => rfl⟩
  have F24 := fun_mk (st := s_law_both_folds) l24 c24 k24
  have T_law_both_folds : Top K mg "_law_both_folds" s_law_both_folds ["leasts", "folds", "j", "k"] := ⟨_, _, F24, PySem.W.mg_of X G a24, F24.binds (ps := ["leasts", "folds", "j", "k"]) fun _ _ _ _ _ _ us hl => match us, hl with | [_, _, _, _], _ => rfl⟩
  have F25 := fun_mk (st := s_law_either_folds) l25 c25 k25
  have T_law_either_folds : Top K mg "_law_either_folds" s_law_either_folds ["leasts", "folds", "j", "k"] := ⟨_, _, F25, PySem.W.mg_of X G a25, F25.binds (ps := ["leasts", "folds", "j", "k"]) fun _ _ _ _ _ _ us hl => match us, hl with | [_, _, _, _], _ => rfl⟩
  have F26 := fun_mk (st := s_law_some_moments) l26 c26 k26
  have T_law_some_moments : Top K mg "_law_some_moments" s_law_some_moments ["pot", "grid", "span"] := ⟨_, _, F26, PySem.W.mg_of X G a26, F26.binds (ps := ["pot", "grid", "span"]) fun _ _ _ _ _ _ us hl => match us, hl with | [_, _, _], _ => rfl⟩
  have F27 := fun_mk (st := s_law_step_holds) l27 c27 k27
  have T_law_step_holds : Top K mg "_law_step_holds" s_law_step_holds ["pot", "fronts", "leasts", "folds", "some"] := ⟨_, _, F27, PySem.W.mg_of X G a27, F27.binds (ps := ["pot", "fronts", "leasts", "folds", "some"]) fun _ _ _ _ _ _ us hl => match us, hl with | [_, _, _, _, _], _ => rfl⟩
  have F28 := fun_mk (st := slaw) l28 c28 k28
  have Tlaw : Top K mg "law" slaw ["script"] := ⟨_, _, F28, PySem.W.mg_of X G a28, F28.binds (ps := ["script"]) fun _ _ _ _ _ _ us hl => match us, hl with | [_], _ => rfl⟩
  have F29 := fun_mk (st := sFront___init__) l29 c29 k29
  have TFront___init__ : TopM K C "__init__" "Front.__init__" sFront___init__ ["self", "axes", "moments"] := ⟨_, _, F29, ⟨a29, i29, k29⟩, F29.binds (ps := ["self", "axes", "moments"]) fun _ _ _ _ _ _ us hl => match us, hl with | [_, _, _], _ => rfl⟩
  have F30 := fun_mk (st := sFront_moments) l30 c30 k30
  have TFront_moments : TopM K C "moments" "Front.moments" sFront_moments ["self"] := ⟨_, _, F30, ⟨a30, i30, k30⟩, F30.binds (ps := ["self"]) fun _ _ _ _ _ _ us hl => match us, hl with | [_], _ => rfl⟩
  have F31 := fun_mk (st := sFront_fold) l31 c31 k31
  have TFront_fold : TopM K C "fold" "Front.fold" sFront_fold ["self", "moment"] := ⟨_, _, F31, ⟨a31, i31, k31⟩, F31.binds (ps := ["self", "moment"]) fun _ _ _ _ _ _ us hl => match us, hl with | [_, _], _ => rfl⟩
  have F32 := fun_mk (st := sFront___and__) l32 c32 k32
  have TFront___and__ : TopM K C "__and__" "Front.__and__" sFront___and__ ["self", "other"] := ⟨_, _, F32, ⟨a32, i32, k32⟩, F32.binds (ps := ["self", "other"]) fun _ _ _ _ _ _ us hl => match us, hl with | [_, _], _ => rfl⟩
  have F33 := fun_mk (st := sFront___or__) l33 c33 k33
  have TFront___or__ : TopM K C "__or__" "Front.__or__" sFront___or__ ["self", "other"] := ⟨_, _, F33, ⟨a33, i33, k33⟩, F33.binds (ps := ["self", "other"]) fun _ _ _ _ _ _ us hl => match us, hl with | [_, _], _ => rfl⟩
  refine ⟨PySem.W.fnOf "law" "law" (defArgs slaw) (defBody slaw) (defScope slaw) .none kV28 dc28 pm28 an28 cd28 ct28, fun s v => .of_eq rfl, fun base _ _ => ?_⟩
  have Dbf := d_before (P := l.prog) (w := w) (K := K) (base := base) B Tbefore
  have Djo := d_join_of (P := l.prog) (w := w) (K := K) (base := base) B Tjoin_of
  have Dme := d_meet_of (P := l.prog) (w := w) (K := K) (base := base) B Tmeet_of
  have Dnu := d_is_number (P := l.prog) (w := w) (K := K) (base := base) B Tis_number
  have Dca := d_check_axes B G_MOST_AXES Tcheck_axes Dnu
  have Dcl := d_check_like_axes (P := l.prog) (w := w) (K := K) (base := base) B Tcheck_like_axes
  have Dim := d_is_moment B Tis_moment Dnu
  have Dmi := d_minimal B Tminimal Dbf
  have Mini := d_Front___init__ B Tx TFront___init__ Dca Dim Dmi
  have Mk := Mini.make mk kc mC
  have Mmo := d_Front_moments (P := l.prog) (w := w) (mg := mg) (base := base) B Tx TFront_moments
  have Mfo := d_Front_fold B Tx TFront_fold Djo Dme
  have Man := d_Front___and__ B Tx XI mC TFront___and__ Dcl Djo Mk
  have Mor := d_Front___or__ B Tx XI mC TFront___or__ Dcl Mk
  have Lpo := d_law_pot (P := l.prog) (w := w) (K := K) (base := base) B T_law_pot
  have Ldr := d_law_draw (P := l.prog) (w := w) (K := K) (base := base) B T_law_draw
  have Lgr := d_law_great B T_law_great Ldr
  have Lle := d_law_levels B T_law_levels Ldr Lgr
  have Lgi := d_law_grid (P := l.prog) (w := w) (K := K) (base := base) B T_law_grid
  have Lii := d_law_is_integer (P := l.prog) (w := w) (K := K) (base := base) B T_law_is_integer
  have Lim := d_law_is_moment B T_law_is_moment Lii
  have Lbf := d_law_before (P := l.prog) (w := w) (K := K) (base := base) B T_law_before
  have Ljo := d_law_join (P := l.prog) (w := w) (K := K) (base := base) B T_law_join
  have Lme := d_law_meet (P := l.prog) (w := w) (K := K) (base := base) B T_law_meet
  have Lls := d_law_least B T_law_least Lbf
  have Lsp := d_law_spot B T_law_spot Ldr
  have Lmv := d_law_moved B T_law_moved Ldr
  have Lfo := d_law_fold B T_law_fold Ljo Lme
  have Lji := d_law_joins B T_law_joins Ljo
  have Lfa := d_law_folds_are B Cl T_law_folds_are Mfo Lim
  have Lbo := d__law_both_folds B T_law_both_folds Ljo
  have Lei := d__law_either_folds B T_law_either_folds Lme
  have Lsm := d_law_some_moments B T_law_some_moments Ldr Lsp
  have Lst := d_law_step_holds B Cl osf T_law_step_holds Ldr Lls Lji Lbo Lei Man Mor Lfa
  have D := d_law B Cl Tlaw Lpo Ldr Lle Lgi Lsp Lsm Lls Lfo Mk Lmv Lfa Lst Mmo
  obtain ⟨f, fd', F, g, _, _, _, _, _, lk⟩ := D
  obtain rfl : fa = f := Value.ref.inj (Option.some.inj ((PySem.W.mg_of X G a28).symm.trans g))
  rw [l28] at lk
  cases lk
  exact F
end
end K5
open PySem PySem.W PyProof.Rows
set_option maxHeartbeats 0 in
theorem PySem.Challenge.cw_deltamill_k05_whole_folds_of_joined_fron_holds : PySem.Challenge.rw_deltamill_k05_whole_folds_of_joined_fron.Holds := by
  w_on; o_law; k_head; (case hw => w_witness2)
  k_fill
  refine L2.walk_of (l := PySem.Challenge.rw_deltamill_k05_whole_folds_of_joined_fron) (n := 63) (k := 7) (x := "script") (CX := fun _ => L2.CX0) (sp := fun w => K5.spLaw _) rfl (by decide) rfl ⟨rfl, by decide, by decide⟩ (fun w h Y => PySem.W.kIn_of Y) ?F (fun _ _ a ns hl _ hS => ⟨a, ns, rfl, hS, hl, fun _ => rfl⟩) (fun _ _ _ _ _ h => h)
  case F =>
    intro w mg fa h KX G hmg
    refine' K5.all_mk KX G hmg ?aC ?a0 ?l0 ?c0 ?k0 ?a1 ?l1 ?c1 ?k1 ?a2 ?l2 ?c2 ?k2 ?a3 ?l3 ?c3 ?k3 ?a4 ?l4 ?c4 ?k4 ?a5 ?l5 ?c5 ?k5 ?a6 ?l6 ?c6 ?k6 ?a7 ?l7 ?c7 ?k7 ?a8 ?l8 ?c8 ?k8 ?a9 ?l9 ?c9 ?k9 ?a10 ?l10 ?c10 ?k10 ?a11 ?l11 ?c11 ?k11 ?a12 ?l12 ?c12 ?k12 ?a13 ?l13 ?c13 ?k13 ?a14 ?l14 ?c14 ?k14 ?a15 ?l15 ?c15 ?k15 ?a16 ?l16 ?c16 ?k16 ?a17 ?l17 ?c17 ?k17 ?a18 ?l18 ?c18 ?k18 ?a19 ?l19 ?c19 ?k19 ?a20 ?l20 ?c20 ?k20 ?a21 ?l21 ?c21 ?k21 ?a22 ?l22 ?c22 ?k22 ?a23 ?l23 ?c23 ?k23 ?a24 ?l24 ?c24 ?k24 ?a25 ?l25 ?c25 ?k25 ?a26 ?l26 ?c26 ?k26 ?a27 ?l27 ?c27 ?k27 ?a28 ?l28 ?c28 ?k28 ?a29 ?i29 ?l29 ?c29 ?k29 ?a30 ?i30 ?l30 ?c30 ?k30 ?a31 ?i31 ?l31 ?c31 ?k31 ?a32 ?i32 ?l32 ?c32 ?k32 ?a33 ?i33 ?l33 ?c33 ?k33 ?pg ?hd ?po ?sa ?mk ?kc ?oha ?ohn ?otk ?ohm ?osf ?n0 ?n1 ?glob0 ?z0 ?z1 ?z2 ?z3 ?z4 ?z5 ?z6 ?z7 ?z8 ?z9 ?z10 ?z11 ?z12 ?z13
    (case aC => k_is); (case a0 => k_is); (case l0 => k_is); (case c0 => k_is); (case k0 => k_is); (case a1 => k_is); (case l1 => k_is); (case c1 => k_is); (case k1 => k_is); (case a2 => k_is); (case l2 => k_is); (case c2 => k_is); (case k2 => k_is); (case a3 => k_is); (case l3 => k_is); (case c3 => k_is); (case k3 => k_is); (case a4 => k_is); (case l4 => k_is); (case c4 => k_is); (case k4 => k_is); (case a5 => k_is); (case l5 => k_is); (case c5 => k_is); (case k5 => k_is); (case a6 => k_is); (case l6 => k_is); (case c6 => k_is); (case k6 => k_is); (case a7 => k_is); (case l7 => k_is); (case c7 => k_is); (case k7 => k_is); (case a8 => k_is); (case l8 => k_is); (case c8 => k_is); (case k8 => k_is); (case a9 => k_is); (case l9 => k_is); (case c9 => k_is); (case k9 => k_is); (case a10 => k_is); (case l10 => k_is); (case c10 => k_is); (case k10 => k_is); (case a11 => k_is); (case l11 => k_is); (case c11 => k_is); (case k11 => k_is); (case a12 => k_is); (case l12 => k_is); (case c12 => k_is); (case k12 => k_is); (case a13 => k_is); (case l13 => k_is); (case c13 => k_is); (case k13 => k_is); (case a14 => k_is); (case l14 => k_is); (case c14 => k_is); (case k14 => k_is); (case a15 => k_is); (case l15 => k_is); (case c15 => k_is); (case k15 => k_is); (case a16 => k_is); (case l16 => k_is); (case c16 => k_is); (case k16 => k_is); (case a17 => k_is); (case l17 => k_is); (case c17 => k_is); (case k17 => k_is); (case a18 => k_is); (case l18 => k_is); (case c18 => k_is); (case k18 => k_is); (case a19 => k_is); (case l19 => k_is); (case c19 => k_is); (case k19 => k_is); (case a20 => k_is); (case l20 => k_is); (case c20 => k_is); (case k20 => k_is); (case a21 => k_is); (case l21 => k_is); (case c21 => k_is); (case k21 => k_is); (case a22 => k_is); (case l22 => k_is); (case c22 => k_is); (case k22 => k_is); (case a23 => k_is); (case l23 => k_is); (case c23 => k_is); (case k23 => k_is); (case a24 => k_is); (case l24 => k_is); (case c24 => k_is); (case k24 => k_is); (case a25 => k_is); (case l25 => k_is); (case c25 => k_is); (case k25 => k_is); (case a26 => k_is); (case l26 => k_is); (case c26 => k_is); (case k26 => k_is); (case a27 => k_is); (case l27 => k_is); (case c27 => k_is); (case k27 => k_is); (case a28 => k_is); (case l28 => k_is); (case c28 => k_is); (case k28 => k_is); (case a29 => k_is); (case i29 => k_is); (case l29 => k_is); (case c29 => k_is); (case k29 => k_is); (case a30 => k_is); (case i30 => k_is); (case l30 => k_is); (case c30 => k_is); (case k30 => k_is); (case a31 => k_is); (case i31 => k_is); (case l31 => k_is); (case c31 => k_is); (case k31 => k_is); (case a32 => k_is); (case i32 => k_is); (case l32 => k_is); (case c32 => k_is); (case k32 => k_is); (case a33 => k_is); (case i33 => k_is); (case l33 => k_is); (case c33 => k_is); (case k33 => k_is); (case pg => k_is); (case hd => k_is); (case po => k_is); (case sa => k_is); (case mk => k_is); (case kc => k_is); (case oha => k_is); (case ohn => k_is); (case otk => k_is); (case ohm => k_is); (case osf => k_is); (case n0 => k_is); (case n1 => k_is); (case glob0 => k_is); (case z0 => k_is); (case z1 => k_is); (case z2 => k_is); (case z3 => k_is); (case z4 => k_is); (case z5 => k_is); (case z6 => k_is); (case z7 => k_is); (case z8 => k_is); (case z9 => k_is); (case z10 => k_is); (case z11 => k_is); (case z12 => k_is); (case z13 => k_is)
