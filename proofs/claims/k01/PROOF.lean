import PyProof.Rows.All
import Wide.All
import OpenK.AllK
import Wide.FinOn
import HandS.ForMost
import HandS.Zip
import HandS.Conv
import HandS.TupAny
import HandS.TupLe
import HandS.Wide
import HandS.Style
import HandS.IsInst
import HandS.Flow
import HandS.More
import HandS.Walk
import HandS.MakeKwOnly
import HandS.Evl
import PySem.Challenge.RW_deltamill_k01_whole_corners_add_up
set_option Elab.async false
set_option linter.all false
set_option maxRecDepth 100000
set_option maxHeartbeats 8000000
/-! The common layer of the laws about deltamill: defs by name, moments, pots. -/
namespace L2
open PySem PySem.Spec PyProof.Rows

/-! ### defs by name -/
/-- the def x stands behind the top -/
def Top (K : PySem.W.Frag) (mg : Str → Option Value) (x : Str) (st : Stmt) (ps : List Str) : Prop :=
  ∃ (f : Addr) (fd : FuncData), Fun K x x st f fd ∧ mg x = some (.ref f) ∧ Binds K fd ps []
/-- the def x keeps the promise sp -/
def Def (P : Program) (w : World) (K : PySem.W.Frag) (mg : Str → Option Value) (base : Heap) (x : Str) (k : Nat) (ps : List Str) (sp : Sp) : Prop :=
  ∃ (f : Addr) (fd : FuncData), FnOk P w K mg base CX0 k f fd ps sp ∧ mg x = some (.ref f) ∧ PySem.W.keepIn K (.ref f) = true ∧ Binds K fd ps [] ∧ ∃ (oc : Value) (od : Option Addr) (osl : Array (Option Value)), K.lookup f = some ⟨oc, od, .func fd, osl⟩
/-- .. and is called by keywords -/
def DefK (P : Program) (w : World) (K : PySem.W.Frag) (mg : Str → Option Value) (base : Heap) (x : Str) (k : Nat) (ps ks : List Str) (gV : List V → List V → List V) (sp : Sp) : Prop :=
  ∃ (f : Addr) (fd : FuncData) (g : List Value → List Value → List Value), FnOk P w K mg base CX0 k f fd ps sp ∧ mg x = some (.ref f) ∧ PySem.W.keepIn K (.ref f) = true ∧ KBinds K fd ps ks g gV
def TopK (K : PySem.W.Frag) (mg : Str → Option Value) (x : Str) (st : Stmt) (ps ks : List Str) (gV : List V → List V → List V) : Prop :=
  ∃ (f : Addr) (fd : FuncData) (g : List Value → List Value → List Value), Fun K x x st f fd ∧ mg x = some (.ref f) ∧ KBinds K fd ps ks g gV
section
variable {P : Program} {w : World} {K : PySem.W.Frag} {mg : Str → Option Value} {base : Heap} {x : Str} {st : Stmt} {ps N : List Str} {k : Nat} {sp : Sp}
theorem mk_def (T : Top K mg x st ps) (S : FnScope N ps (defScope st)) (len : ∀ vs H Q E, sp vs H Q E → vs.length = ps.length)
    (hbody : ∀ (f : Addr) (cdv : Value) (A : Around) (outer : List Env) (s : Shared) (H : Hp) (vs : List V) (Q : VK) (E : XK), Room k (A.deeper (envOfC x (defScope st) s.heap.objs.size f cdv)) → sp vs H Q E →
      ∃ t, PSs (cxOf CX0 P w K mg base N x (defScope st) f cdv A outer s H E).nox (defBody st) t ∧ t { nx := fun _ H' => Q .non H', rt := Q } (start N vs) H) :
    Def P w K mg base x (k + 1) ps sp := by
  obtain ⟨f, fd, F, g, b⟩ := T
  obtain ⟨oc, _, _, _, _, _, _, _, osl, _, lk, _⟩ := id F.ex
  exact ⟨f, fd, F.ok S len (hbody f), g, F.kp, b, _, _, _, lk⟩
theorem Def.kw {ks : List Str} {gV : List V → List V → List V} (D : Def P w K mg base x k ps sp) (T : TopK K mg x st ps ks gV) : DefK P w K mg base x k ps ks gV sp := by
  obtain ⟨f, fd, F, g, kp, _, _, _, _, lk⟩ := D
  obtain ⟨f', fd', g', F', m', b'⟩ := T
  obtain rfl : f' = f := Value.ref.inj (Option.some.inj (m'.symm.trans g))
  obtain ⟨oc, _, _, _, _, _, _, _, osl, _, lk', _⟩ := id F'.ex
  rw [lk] at lk'
  cases lk'
  exact ⟨f', fd, g', F, g, kp, b'⟩
theorem Def.mono {j : Nat} (h : Def P w K mg base x j ps sp) (hk : j ≤ k) : Def P w K mg base x k ps sp := by
  obtain ⟨f, fd, F, r⟩ := h
  exact ⟨f, fd, F.mono hk, r⟩
end
section
variable {X : Cx} {x : Str} {k : Nat} {ps : List Str} {sp : Sp} {p pos : Pos} {e : Expr} {es : List Expr} {t : TA}
/-- f(e, ..) -/
theorem pe_def (D : Def X.prog X.w X.K X.mg X.base x k ps sp) (hr : Room k X.A) (hg : Gl X x) (ha : PA X (e :: es) t) (hdb : (x == ("__debug__" : Str)) = false := by decide)
    (he : starEach (e :: es) X.env = (false, eval e X.env) :: starEach es X.env := by rfl) (hpl : (backTo pos (starEach es X.env)).any (·.1) = false := by rfl) :
    PE X (.Call (.Name x p) (e :: es) [] pos) (tCall sp [] E0 t) := by
  obtain ⟨f, fd, F, g, kp, b, _⟩ := D
  exact pe_call F hr hg g kp b .nil pass0 ha hdb he hpl
/-- f(k = v, ..) -/
theorem pe_defK0 {ks : List Str} {gV : List V → List V → List V} {kws : List Keyword} {tk : TA} (D : DefK X.prog X.w X.K X.mg X.base x k ps ks gV sp) (hr : Room k X.A) (hg : Gl X x) (hkw : PK X kws tk)
    (hall : (backToKw pos (keywordEach kws X.env)).all (·.1.isSome) = true := by rfl) (hks : (backToKw pos (keywordEach kws X.env)).filterMap (·.1) = ks := by rfl) (hdb : (x == ("__debug__" : Str)) = false := by decide)
    (hpl : ((backTo pos (starEach [] X.env)).any (·.1) || (backToKw pos (keywordEach kws X.env)).any (·.1.isNone)) = false := by rfl) :
    PE X (.Call (.Name x p) [] kws pos) (tCallK sp gV E0 tNil tk) := by
  obtain ⟨f, fd, g, F, hm, kp, b⟩ := D
  refine ⟨fun pins s σ H Q I h => ?_⟩
  refine wpAny_Call_Name_kw (ld_glob I hg hm ?_ hdb)
  refine PySem.W.callWith_KW0 (h₀ := X.base) I.ok.mod.kin kp hall ?_ hpl
  refine thn (hkw.run pos pins s σ H _ I h) fun ws s2 ⟨zs, H2, I2, rz, q2⟩ => ⟨I2.kIn, ?_⟩
  rw [hks]
  exact run_fnk (us := []) (vs := []) F hr b pass0 I2 .nil rz q2
end
/-! ### heaps -/
/-- all that was tracked but p stays -/
def SameB (p : Addr) (H H' : Hp) : Prop := ∀ b o, b ≠ p → H b = some o → H' b = some o
theorem SameB.refl (p : Addr) (H : Hp) : SameB p H H := fun _ _ _ h => h
theorem SameB.trans {p : Addr} {H H1 H2 : Hp} (a : SameB p H H1) (b : SameB p H1 H2) : SameB p H H2 := fun c o n h => b c o n (a c o n h)
theorem Same.b {p : Addr} {H H' : Hp} (a : Same H H') : SameB p H H' := fun c o _ h => a c o h
theorem SameB.upd {p : Addr} {H : Hp} {o : HO} : SameB p H (upd H p o) := fun b u n h => by
  rw [upd_ne n]
  exact h
theorem same_upd {H : Hp} {p : Addr} {o : HO} (h : H p = none) : Same H (upd H p o) := fun b x e => by
  rw [upd_ne (ne_of_none e h)]
  exact e
/-- a new object may change -/
theorem Same.mut {H H' : Hp} {p : Addr} {o : HO} (e : Same H H') (h : H p = none) : Same H (upd H' p o) := fun a u ha => by
  rw [upd_ne (ne_of_none ha h)]
  exact e a u ha
theorem Same.seqT {K : PySem.W.Frag} {H H' : Hp} {a : Addr} {xs : List V} (e : Same H H') (h : SqT K H a xs) : SqT K H' a xs := by
  rcases h with (h | ⟨o, h⟩) | h
  · exact .inl (.inl (e _ _ h))
  · exact .inl (.inr ⟨o, e _ _ h⟩)
  · exact .inr h
theorem Same.new {H H1 : Hp} {p : Addr} (e : Same H H1) (h : H1 p = none) : H p = none := by
  cases q : H p with
  | none => rfl
  | some o =>
    rw [e p o q] at h
    cases h
end L2

namespace L2
open PySem PySem.Spec PyProof.Rows

/-! ### data: tuples are tracked -/
mutual
inductive Da (K : PySem.W.Frag) (H : Hp) : V → PyData → Prop
  | non : Da K H .non .none
  | bl (b : Bool) : Da K H (.bl b) (.bool b)
  | int (i : Int) : Da K H (.int i) (.int i)
  | str (x : Str) : Da K H (.str x) (.str x)
  | lst {a : Addr} {xs : List V} {ds : List PyData} : SqL K H a xs → DaAll K H xs ds → Da K H (.ref a) (.list ds)
  | tup {a : Addr} {xs : List V} {ds : List PyData} : H a = some (.tup xs) → DaAll K H xs ds → Da K H (.ref a) (.tuple ds)
inductive DaAll (K : PySem.W.Frag) (H : Hp) : List V → List PyData → Prop
  | nil : DaAll K H [] []
  | cons {v : V} {vs : List V} {d : PyData} {ds : List PyData} : Da K H v d → DaAll K H vs ds → DaAll K H (v :: vs) (d :: ds)
end
mutual
theorem Da.dp {K : PySem.W.Frag} {H : Hp} : ∀ (d : PyData) (v : V), Da K H v d → Dp K H v d
  | .none, _, h => by
    cases h
    exact .non
  | .bool b, _, h => by
    cases h
    exact .bl b
  | .int i, _, h => by
    cases h
    exact .int i
  | .str x, _, h => by
    cases h
    exact .str x
  | .tuple ds, _, h => by
    cases h with
    | tup hs ha => exact .tup (SqT.of hs) (Da.dpAll ds _ ha)
  | .list ds, _, h => by
    cases h with
    | lst hs ha => exact .lst hs (Da.dpAll ds _ ha)
  | .dict _, _, h => by cases h
theorem Da.dpAll {K : PySem.W.Frag} {H : Hp} : ∀ (ds : List PyData) (vs : List V), DaAll K H vs ds → DpAll K H vs ds
  | [], _, h => by
    cases h
    exact .nil
  | d :: ds, _, h => by
    cases h with
    | cons h1 h2 => exact .cons (Da.dp d _ h1) (Da.dpAll ds _ h2)
end
/-! ### tuples stay -/
def ST (_ : PySem.W.Frag) (H H' : Hp) : Prop := ∀ a xs, H a = some (.tup xs) → H' a = some (.tup xs)
theorem ST.refl {K : PySem.W.Frag} (H : Hp) : ST K H H := fun _ _ h => h
theorem ST.trans {K : PySem.W.Frag} {H H1 H2 : Hp} (a : ST K H H1) (b : ST K H1 H2) : ST K H H2 := fun x o h => b x o (a x o h)
theorem Same.st {K : PySem.W.Frag} {H H' : Hp} (e : Same H H') : ST K H H' := fun _ _ h => e _ _ h
/-- what is no tuple may change -/
def NoTup : HO → Prop
  | .tup _ => False
  | _ => True
theorem SameB.st {K : PySem.W.Frag} {H H' : Hp} {p : Addr} {o : HO} (e : SameB p H H') (h : H p = some o) (n : NoTup o) : ST K H H' := fun a xs q => by
  refine e a _ (fun z => ?_) q
  subst z
  rw [h] at q
  cases q
  exact n
theorem st_upd {K : PySem.W.Frag} {H : Hp} {p : Addr} {o u : HO} (h : H p = some o) (n : NoTup o) : ST K H (upd H p u) := SameB.st SameB.upd h n

/-! ### immutable data -/
mutual
def imm : PyData → Bool
  | .none => true
  | .bool _ => true
  | .int _ => true
  | .str _ => true
  | .tuple ds => immAll ds
  | .list _ => false
  | .dict _ => false
def immAll : List PyData → Bool
  | [] => true
  | d :: ds => imm d && immAll ds
end
mutual
theorem Da.st {K : PySem.W.Frag} {H H' : Hp} (e : ST K H H') : ∀ (d : PyData) (v : V), imm d = true → Da K H v d → Da K H' v d
  | .none, _, _, h => by
    cases h
    exact .non
  | .bool b, _, _, h => by
    cases h
    exact .bl b
  | .int i, _, _, h => by
    cases h
    exact .int i
  | .str x, _, _, h => by
    cases h
    exact .str x
  | .tuple ds, _, hi, h => by
    cases h with
    | tup hs ha => exact .tup (e _ _ hs) (Da.stAll e ds _ hi ha)
  | .list _, _, hi, _ => by cases hi
  | .dict _, _, hi, _ => by cases hi
theorem Da.stAll {K : PySem.W.Frag} {H H' : Hp} (e : ST K H H') : ∀ (ds : List PyData) (vs : List V), immAll ds = true → DaAll K H vs ds → DaAll K H' vs ds
  | [], _, _, h => by
    cases h
    exact .nil
  | d :: ds, _, hi, h => by
    cases h with
    | cons h1 h2 =>
      have hi' : (imm d && immAll ds) = true := hi
      rw [Bool.and_eq_true] at hi'
      exact .cons (Da.st e d _ hi'.1 h1) (Da.stAll e ds _ hi'.2 h2)
end
mutual
/-- all that was tracked stays: data of any kind -/
theorem Da.same {K : PySem.W.Frag} {H H' : Hp} (e : Same H H') : ∀ (d : PyData) (v : V), Da K H v d → Da K H' v d
  | .none, _, h => by
    cases h
    exact .non
  | .bool b, _, h => by
    cases h
    exact .bl b
  | .int i, _, h => by
    cases h
    exact .int i
  | .str x, _, h => by
    cases h
    exact .str x
  | .tuple ds, _, h => by
    cases h with
    | tup hs ha => exact .tup (e _ _ hs) (Da.sameAll e ds _ ha)
  | .list ds, _, h => by
    cases h with
    | lst hs ha => exact .lst (e.seq hs) (Da.sameAll e ds _ ha)
  | .dict _, _, h => by cases h
theorem Da.sameAll {K : PySem.W.Frag} {H H' : Hp} (e : Same H H') : ∀ (ds : List PyData) (vs : List V), DaAll K H vs ds → DaAll K H' vs ds
  | [], _, h => by
    cases h
    exact .nil
  | d :: ds, _, h => by
    cases h with
    | cons h1 h2 => exact .cons (Da.same e d _ h1) (Da.sameAll e ds _ h2)
end
theorem DaAll.length {K : PySem.W.Frag} {H : Hp} : ∀ {vs : List V} {ds : List PyData}, DaAll K H vs ds → vs.length = ds.length
  | _, _, .nil => rfl
  | _, _, .cons _ t => congrArg (· + 1) (DaAll.length t)
theorem DaAll.snoc {K : PySem.W.Frag} {H : Hp} {v : V} {d : PyData} (h : Da K H v d) : ∀ {vs : List V} {ds : List PyData}, DaAll K H vs ds → DaAll K H (vs ++ [v]) (ds ++ [d])
  | _, _, .nil => .cons h .nil
  | _, _, .cons r t => .cons r (DaAll.snoc h t)
theorem DaAll.append {K : PySem.W.Frag} {H : Hp} {us : List V} {es : List PyData} (h : DaAll K H us es) : ∀ {vs : List V} {ds : List PyData}, DaAll K H vs ds → DaAll K H (vs ++ us) (ds ++ es)
  | _, _, .nil => h
  | _, _, .cons r t => .cons r (DaAll.append h t)
theorem DaAll.get {K : PySem.W.Frag} {H : Hp} : ∀ {vs : List V} {ds : List PyData} {i : Nat} {v : V}, DaAll K H vs ds → vs[i]? = some v → ∃ d, ds[i]? = some d ∧ Da K H v d
  | _, _, _, _, .nil, e => by simp at e
  | _, _, 0, _, .cons r _, e => by
    simp at e
    subst e
    exact ⟨_, rfl, r⟩
  | _, _, i + 1, v, .cons _ t, e => by
    obtain ⟨d, h1, h2⟩ := DaAll.get (i := i) (v := v) t (by simpa using e)
    exact ⟨d, by simpa using h1, h2⟩
theorem DaAll.at {K : PySem.W.Frag} {H : Hp} : ∀ {vs : List V} {ds : List PyData} {i : Nat} {d : PyData}, DaAll K H vs ds → ds[i]? = some d → ∃ v, vs[i]? = some v ∧ Da K H v d
  | _, _, _, _, .nil, e => by simp at e
  | _, _, 0, _, .cons r _, e => by
    simp at e
    subst e
    exact ⟨_, rfl, r⟩
  | _, _, i + 1, d, .cons _ t, e => by
    obtain ⟨v, h1, h2⟩ := DaAll.at (i := i) (d := d) t (by simpa using e)
    exact ⟨v, by simpa using h1, h2⟩
theorem DaAll.ints {K : PySem.W.Frag} {H : Hp} : ∀ {vs : List V} {ns : List Int}, DaAll K H vs (ns.map PyData.int) → vs = ns.map V.int
  | _, [], .nil => rfl
  | _, n :: ns, .cons r t => by
    cases r
    rw [DaAll.ints (ns := ns) t]
    rfl
theorem da_ints {K : PySem.W.Frag} {H : Hp} : ∀ ns : List Int, DaAll K H (ns.map V.int) (ns.map PyData.int)
  | [] => .nil
  | n :: ns => .cons (.int n) (da_ints ns)
theorem imm_ints : ∀ ns : List Int, immAll (ns.map PyData.int) = true
  | [] => rfl
  | n :: ns => by
    show (imm (.int n) && immAll (ns.map PyData.int)) = true
    rw [imm_ints ns]
    rfl
/-- a moment (or a row of ints) -/
def mo (m : List Int) : PyData := .tuple (m.map .int)
abbrev Mo (K : PySem.W.Frag) (H : Hp) (v : V) (m : List Int) : Prop := Da K H v (mo m)
theorem imm_mo (m : List Int) : imm (mo m) = true := imm_ints m
theorem Mo.inv {K : PySem.W.Frag} {H : Hp} {v : V} {m : List Int} (h : Mo K H v m) : ∃ a, v = .ref a ∧ SqT K H a (m.map V.int) := by
  cases h with
  | tup hs ha =>
    rw [DaAll.ints ha] at hs
    exact ⟨_, rfl, SqT.of hs⟩
theorem Mo.trk {K : PySem.W.Frag} {H : Hp} {v : V} {m : List Int} (h : Mo K H v m) : ∃ a, v = .ref a ∧ H a = some (.tup (m.map V.int)) := by
  cases h with
  | tup hs ha =>
    rw [DaAll.ints ha] at hs
    exact ⟨_, rfl, hs⟩
theorem Mo.of {K : PySem.W.Frag} {H : Hp} {a : Addr} {m : List Int} (h : H a = some (.tup (m.map V.int))) : Mo K H (.ref a) m := .tup h (da_ints m)
theorem Mo.st {K : PySem.W.Frag} {H H' : Hp} {v : V} {m : List Int} (h : Mo K H v m) (e : ST K H H') : Mo K H' v m := Da.st e _ _ (imm_mo m) h
theorem Mo.same {K : PySem.W.Frag} {H H' : Hp} {v : V} {m : List Int} (h : Mo K H v m) (e : Same H H') : Mo K H' v m := h.st e.st

/-! ### walks -/
theorem walk_zipT {K : PySem.W.Frag} {a b : Addr} {xs ys : List V} (hl : xs.length = ys.length) : Walk (RZ.ItzT K a b) xs.length (fun H => SqT K H a xs ∧ SqT K H b ys) (YPair (fun i => xs[i]?) (fun i => ys[i]?)) := by
  refine ⟨fun i _ hi q => ?_, fun _ q => ⟨xs, ys, q.1, q.2, .inl (Nat.le_refl _)⟩, fun i H v H' _ q y => ?_⟩
  · have h2 : i < ys.length := by omega
    exact ⟨xs, ys, xs[i], ys[i], q.1, q.2, by simp [hi], by simp [h2]⟩
  · obtain ⟨T, x, z, h1, h2, h3, h4, h5⟩ := y
    exact ⟨T, x, z, h1, h2, h3, h4 xs q.1, h5 ys q.2⟩

/-! ### comprehensions -/
section
variable {J : It} {n : Nat} {G : Hp → Prop} {Y : Nat → Hp → V → Hp → Prop} {K : PySem.W.Frag}
/-- what lc_it gives, by name -/
abbrev LcGoal (J : It) (g : TG) (tt : TT) (te : TE) (vs : List Nat) (σ : L2.St) (H1 : Hp) (D : Addr) (Qd : Hp → Prop) : Prop :=
  ∃ W : Nat → Nat → Hp → Prop, (∃ m, W 0 m (upd H1 D (.lst []))) ∧ ∀ i m H, W i m H →
      (J.stop i H ∧ Qd H) ∨ (J.go i H ∧ ∃ Nx : Hp → Prop, (∀ H', Nx H' → ∃ m', m' < m ∧ W (i + 1) m' H') ∧ ∀ x H', J.yld i H x H' → g x (wipe σ vs) H' fun σ2 H2 => wipe σ2 vs = wipe σ vs ∧ tt σ2 H2 fun b H3 =>
        if b = true then te σ2 H3 fun y H4 => ∃ acc, H4 D = some (.lst acc) ∧ acc.length < sizeLine ∧ Nx (upd H4 D (.lst (acc ++ [y]))) else Nx H3)
/-- all elements are values told ahead -/
theorem lc_val (w : Walk J n G Y) {g : TG} {te : TE} {vs : List Nat} {σ : L2.St} {H1 : Hp} {D : Addr} {Qd : Hp → Prop} (hD : H1 D = none) (hn : n ≤ 100000) (hG : ∀ H, Same H1 H → G H) (fs : List V) (hl : fs.length = n)
    (step : ∀ i x H H' (Q : VK), i < n → Same H1 H → Y i H x H' → (∀ y H4, Same H H4 → fs[i]? = some y → Q y H4) → g x (wipe σ vs) H' fun σ2 H2 => wipe σ2 vs = wipe σ vs ∧ te σ2 H2 Q)
    (hd : ∀ H, Same H1 H → H D = some (.lst fs) → Qd H) : LcGoal J g tYes te vs σ H1 D Qd := by
  refine lc_it w (fun i H => Same H1 H ∧ H D = some (.lst (fs.take i))) ⟨same_upd hD, upd_same⟩ (fun i H _ p => hG H p.1) (fun i x H H' hi p y => ?_) (fun H p => ?_)
  · refine step i x H H' _ hi p.1 y fun v H4 e he => ⟨_, e _ _ p.2, ?_, (p.1.trans e).mut hD, ?_⟩
    · rw [List.length_take]
      exact Nat.lt_of_le_of_lt (Nat.min_le_left _ _) (Nat.lt_of_lt_of_le hi (Nat.le_trans hn (by decide)))
    · rw [upd_same, List.take_add_one, he]
      rfl
  · refine hd H p.1 ?_
    rw [p.2, List.take_of_length_le (Nat.le_of_eq hl)]
/-- all elements are immutable data told ahead -/
theorem lc_dat (w : Walk J n G Y) {g : TG} {te : TE} {vs : List Nat} {σ : L2.St} {H1 : Hp} {D : Addr} {Qd : Hp → Prop} (hD : H1 D = none) (hn : n ≤ 100000) (hG : ∀ H, Same H1 H → G H) (ds : List PyData) (hl : ds.length = n) (him : immAll ds = true)
    (step : ∀ i x H H' (Q : VK), i < n → Same H1 H → Y i H x H' → (∀ y H4 d, Same H H4 → ds[i]? = some d → Da K H4 y d → Q y H4) → g x (wipe σ vs) H' fun σ2 H2 => wipe σ2 vs = wipe σ vs ∧ te σ2 H2 Q)
    (hd : ∀ H acc, Same H1 H → H D = some (.lst acc) → DaAll K H acc ds → Qd H) : LcGoal J g tYes te vs σ H1 D Qd := by
  have himt : ∀ i, immAll (ds.take i) = true := by
    have : ∀ (l : List PyData) (i : Nat), immAll l = true → immAll (l.take i) = true := by
      intro l
      induction l with
      | nil => intro i _; cases i <;> rfl
      | cons d l ih =>
        intro i h
        have h' : (imm d && immAll l) = true := h
        rw [Bool.and_eq_true] at h'
        cases i with
        | zero => rfl
        | succ i =>
          show (imm d && immAll (l.take i)) = true
          rw [h'.1, ih i h'.2]
          rfl
    exact fun i => this ds i him
  refine lc_it w (fun i H => Same H1 H ∧ ∃ acc, H D = some (.lst acc) ∧ DaAll K H acc (ds.take i)) ⟨same_upd hD, [], upd_same, .nil⟩ (fun i H _ p => hG H p.1) (fun i x H H' hi p y => ?_) (fun H p => ?_)
  · obtain ⟨p1, acc, p2, p3⟩ := p
    refine step i x H H' _ hi p1 y fun v H4 d e he hv => ⟨acc, e _ _ p2, ?_, (p1.trans e).mut hD, _, upd_same, ?_⟩
    · rw [p3.length, List.length_take]
      exact Nat.lt_of_le_of_lt (Nat.min_le_left _ _) (Nat.lt_of_lt_of_le hi (Nat.le_trans hn (by decide)))
    · rw [List.take_add_one, he]
      have e4 : H4 D = some (.lst acc) := e _ _ p2
      have st : ST K H4 (upd H4 D (.lst (acc ++ [v]))) := st_upd e4 True.intro
      have hid : imm d = true := by
        have : ∀ (l : List PyData) (i : Nat), immAll l = true → l[i]? = some d → imm d = true := by
          intro l
          induction l with
          | nil => intro i _ h; simp at h
          | cons d' l ih =>
            intro i h h2
            have h' : (imm d' && immAll l) = true := h
            rw [Bool.and_eq_true] at h'
            cases i with
            | zero =>
              simp at h2
              subst h2
              exact h'.1
            | succ i => exact ih i h'.2 (by simpa using h2)
        exact this ds i him he
      exact DaAll.snoc (Da.st st _ _ hid hv) (Da.stAll (e.st.trans st) _ _ (himt i) p3)
  · obtain ⟨p1, acc, p2, p3⟩ := p
    rw [List.take_of_length_le (Nat.le_of_eq hl)] at p3
    exact hd H acc p1 p2 p3
end
/-! ### short names of readings -/
abbrev yAdd : R2 := rI0 fun i j => .int (i + j)
abbrev ySub : R2 := rI0 fun i j => .int (i - j)
abbrev yMul : R2 := rI CMul fun i j => .int (i * j)
abbrev yDiv : R2 := rI CDivW fun i j => .int (i / j)
abbrev yMod : R2 := rI (fun _ j => 0 < j) fun i j => .int (i % j)
abbrev yPow : R2 := rI CPow fun i j => .int (i ^ j.toNat)
abbrev yLt : R2 := rI0 fun i j => .bl (decide (i < j))
abbrev yLe : R2 := rI0 fun i j => .bl (decide (i ≤ j))
abbrev yGt : R2 := rI0 fun i j => .bl (decide (j < i))
abbrev yGe : R2 := rI0 fun i j => .bl (decide (j ≤ i))
abbrev yNeg : V → Hp → VK → Prop := rU fun i => .int (-i)
abbrev yLen (K : PySem.W.Frag) : List V → Hp → VK → Prop := fun vs H Q => ∃ p ys, vs = [.ref p] ∧ (SqL K H p ys ∨ SqT K H p ys) ∧ Q (.int ys.length) H
abbrev yMax : List V → Hp → VK → Prop := fun vs H Q => ∃ i j, vs = [.int i, .int j] ∧ Q (.int (if j > i then j else i)) H
abbrev yMin : List V → Hp → VK → Prop := fun vs H Q => ∃ i j, vs = [.int i, .int j] ∧ Q (.int (if j < i then j else i)) H
abbrev yInt : List V → Hp → VK → Prop := fun vs H Q => (∃ i, vs = [.int i] ∧ Q (.int i) H) ∨ ∃ k, vs = [.bl k] ∧ Q (.int (if k then 1 else 0)) H
abbrev yTup (K : PySem.W.Frag) : List V → Hp → VK → Prop := fun vs H Q => ∃ p ys, vs = [.ref p] ∧ ((SqL K H p ys ∧ ∀ l, H l = none → Q (.ref l) (upd H l (.tup ys))) ∨ (SqT K H p ys ∧ Q (.ref p) H))
abbrev yLst (K : PySem.W.Frag) : List V → Hp → VK → Prop := fun vs H Q => ∃ p ys, vs = [.ref p] ∧ (SqL K H p ys ∨ SqT K H p ys) ∧ ∀ l, H l = none → Q (.ref l) (upd H l (.lst ys))
theorem hu64 {A : Around} {k : Nat} (hr : Room k A) : A.units + 64 < cLine := by
  have := hr.un
  omega
theorem hu0 {A : Around} {k : Nat} (hr : Room k A) : A.units < cLine := by
  have := hr.un
  omega
end L2

namespace L2
open PySem PySem.Spec PyProof.Rows
theorem immAll_append : ∀ {a b : List PyData}, immAll a = true → immAll b = true → immAll (a ++ b) = true
  | [], _, _, h => h
  | d :: a, b, h1, h2 => by
    have h' : (imm d && immAll a) = true := h1
    rw [Bool.and_eq_true] at h'
    show (imm d && immAll (a ++ b)) = true
    rw [h'.1, immAll_append h'.2 h2]
    rfl
theorem immAll_at {d : PyData} : ∀ {l : List PyData} {i : Nat}, immAll l = true → l[i]? = some d → imm d = true
  | [], _, _, h => by simp at h
  | e :: l, i, h1, h2 => by
    have h' : (imm e && immAll l) = true := h1
    rw [Bool.and_eq_true] at h'
    cases i with
    | zero =>
      simp at h2
      subst h2
      exact h'.1
    | succ i => exact immAll_at h'.2 (by simpa using h2)
theorem immAll_take : ∀ {l : List PyData} (i : Nat), immAll l = true → immAll (l.take i) = true
  | [], i, _ => by cases i <;> rfl
  | e :: l, i, h1 => by
    have h' : (imm e && immAll l) = true := h1
    rw [Bool.and_eq_true] at h'
    cases i with
    | zero => rfl
    | succ i =>
      show (imm e && immAll (l.take i)) = true
      rw [h'.1, immAll_take i h'.2]
      rfl
theorem immAll_of : ∀ {l : List PyData}, (∀ d ∈ l, imm d = true) → immAll l = true
  | [], _ => rfl
  | e :: l, h => by
    show (imm e && immAll l) = true
    rw [h e List.mem_cons_self, immAll_of fun d hd => h d (List.mem_cons_of_mem _ hd)]
    rfl
theorem sz1000' {n : Nat} (h : n ≤ 100000) : n ≤ sizeLine := Nat.le_trans h (by decide)
section
variable {J J1 : It} {n n1 : Nat} {G G1 : Hp → Prop} {Y Y1 : Nat → Hp → V → Hp → Prop} {K : PySem.W.Frag}
/-- two clauses, the inner one over a thing that stands still; immutable data told ahead -/
theorem lc2_dat (w : Walk J n G Y) (w1 : Walk J1 n1 G1 Y1) {wi1 : TI} {g g1 : TG} {te : TE} {vs vs1 : List Nat} {σ : L2.St} {H1 : Hp} {D : Addr} {Qd : Hp → Prop} (hD : H1 D = none) (hn : n * n1 ≤ 100000)
    (hG : ∀ H, Same H1 H → G H) (hG1 : ∀ H, Same H1 H → G1 H) (ds : Nat → List PyData) (hl : ∀ i, i < n → (ds i).length = n1) (him : ∀ i, i < n → immAll (ds i) = true)
    (step : ∀ i x H H' (Q : L2.St → Hp → Prop), i < n → Same H1 H → Y i H x H' →
      (∀ σ2 H2, Same H H2 → wipe σ2 vs = wipe σ vs → ((∀ H3 R, Same H2 H3 → R J1 H3 → wi1 σ2 H3 R) ∧
        (∀ j y H3 H3' (Q' : VK), j < n1 → Same H1 H3 → ST K H2 H3 → Y1 j H3 y H3' → (∀ z H4 d, Same H3 H4 → (ds i)[j]? = some d → Da K H4 z d → Q' z H4) → g1 y (wipe σ2 vs1) H3' fun σ3 H5 => wipe σ3 vs1 = wipe σ2 vs1 ∧ te σ3 H5 Q')) → Q σ2 H2) → g x (wipe σ vs) H' Q)
    (hd : ∀ H acc, Same H1 H → H D = some (.lst acc) → DaAll K H acc ((List.range n).map ds).flatten → Qd H) :
    ∃ W : Nat → Nat → Hp → Prop, (∃ m, W 0 m (upd H1 D (.lst []))) ∧ ∀ i m H, W i m H →
      (J.stop i H ∧ Qd H) ∨ (J.go i H ∧ ∃ Nx : Hp → Prop, (∀ H', Nx H' → ∃ m', m' < m ∧ W (i + 1) m' H') ∧ ∀ x H', J.yld i H x H' → g x (wipe σ vs) H' fun σ2 H2 => wipe σ2 vs = wipe σ vs ∧ tYes σ2 H2 fun b H3 =>
        if b = true then wi1 σ2 H3 fun J1 H4 => ∃ W1 : Nat → Nat → Hp → Prop, (∃ m, W1 0 m H4) ∧ ∀ j k H, W1 j k H →
          (J1.stop j H ∧ Nx H) ∨ (J1.go j H ∧ ∃ Nx1 : Hp → Prop, (∀ H', Nx1 H' → ∃ k', k' < k ∧ W1 (j + 1) k' H') ∧ ∀ x H', J1.yld j H x H' → g1 x (wipe σ2 vs1) H' fun σ3 H5 => wipe σ3 vs1 = wipe σ2 vs1 ∧ tYes σ3 H5 fun b H6 =>
            if b = true then te σ3 H6 fun y H7 => ∃ acc, H7 D = some (.lst acc) ∧ acc.length < sizeLine ∧ Nx1 (upd H7 D (.lst (acc ++ [y]))) else Nx1 H6)
        else Nx H3) := by
  have flen : ∀ i, i ≤ n → ((List.range i).map ds).flatten.length = i * n1 := by
    intro i
    induction i with
    | zero => intro _; simp
    | succ i ih =>
      intro h
      rw [List.range_succ, List.map_append, List.flatten_append, List.length_append, ih (by omega)]
      simp [hl i (by omega), Nat.succ_mul]
  have fimm : ∀ i, i ≤ n → immAll ((List.range i).map ds).flatten = true := by
    intro i
    induction i with
    | zero => intro _; rfl
    | succ i ih =>
      intro h
      rw [List.range_succ, List.map_append, List.flatten_append]
      refine immAll_append (ih (by omega)) ?_
      simpa using him i (by omega)
  have fsnoc : ∀ i, ((List.range (i + 1)).map ds).flatten = ((List.range i).map ds).flatten ++ ds i := by
    intro i
    rw [List.range_succ, List.map_append, List.flatten_append]
    simp
  refine ⟨fun i m H => m = n - i ∧ i ≤ n ∧ Same H1 H ∧ ∃ acc, H D = some (.lst acc) ∧ DaAll K H acc ((List.range i).map ds).flatten, ⟨n, by simp, Nat.zero_le _, same_upd hD, [], upd_same, .nil⟩, ?_⟩
  rintro i m H ⟨rfl, hi, p1, acc, p2, p3⟩
  by_cases hlt : i < n
  · refine .inr ⟨w.goes i H hlt (hG H p1), fun H' => Same H1 H' ∧ ∃ acc, H' D = some (.lst acc) ∧ DaAll K H' acc ((List.range (i + 1)).map ds).flatten, fun H' ⟨q1, q2⟩ => ⟨n - (i + 1), by omega, rfl, hlt, q1, q2⟩, fun x H' y => ?_⟩
    refine step i x H H' _ hlt p1 (w.yields i H x H' hlt (hG H p1) y) fun σ2 H2 e2 ws ⟨hin, el⟩ => ?_
    refine ⟨ws, ?_⟩
    show wi1 σ2 H2 _
    refine hin H2 _ (Same.refl _) ?_
    refine ⟨fun j k H => k = n1 - j ∧ j ≤ n1 ∧ Same H1 H ∧ ST K H2 H ∧ ∃ acc, H D = some (.lst acc) ∧ DaAll K H acc (((List.range i).map ds).flatten ++ (ds i).take j), ⟨n1, by simp, Nat.zero_le _, p1.trans e2, ST.refl _, acc, e2 _ _ p2, ?_⟩, ?_⟩
    · rw [List.take_zero, List.append_nil]
      exact Da.sameAll e2 _ _ p3
    · rintro j k H3 ⟨rfl, hj, q1, qb, acc3, q2, q3⟩
      by_cases hjl : j < n1
      · refine .inr ⟨w1.goes j H3 hjl (hG1 H3 q1), fun H' => Same H1 H' ∧ ST K H2 H' ∧ ∃ acc, H' D = some (.lst acc) ∧ DaAll K H' acc (((List.range i).map ds).flatten ++ (ds i).take (j + 1)), fun H' ⟨r1, r2⟩ => ⟨n1 - (j + 1), by omega, rfl, hjl, r1, r2⟩, fun x3 H3' y3 => ?_⟩
        refine el j x3 H3 H3' _ hjl q1 qb (w1.yields j H3 x3 H3' hjl (hG1 H3 q1) y3) fun z H4 d e4 hd4 hz => ?_
        have e5 : H4 D = some (.lst acc3) := e4 _ _ q2
        have st : ST K H4 (upd H4 D (.lst (acc3 ++ [z]))) := st_upd e5 True.intro
        refine ⟨acc3, e5, ?_, (q1.trans e4).mut hD, (qb.trans e4.st).trans st, _, upd_same, ?_⟩
        · have l3 := q3.length
          rw [List.length_append, flen i hi, List.length_take] at l3
          have hle : (i + 1) * n1 ≤ n * n1 := Nat.mul_le_mul_right _ hlt
          rw [Nat.succ_mul] at hle
          refine Nat.lt_of_lt_of_le ?_ (sz1000' hn)
          have : min j (ds i).length ≤ j := Nat.min_le_left _ _
          omega
        · rw [List.take_add_one, hd4, ← List.append_assoc]
          exact DaAll.snoc (Da.st st _ _ (immAll_at (him i hlt) hd4) hz) (Da.stAll (e4.st.trans st) _ _ (immAll_append (fimm i hi) (immAll_take j (him i hlt))) q3)
      · have ej : j = n1 := by omega
        subst ej
        refine .inl ⟨w1.stops H3 (hG1 H3 q1), q1, acc3, q2, ?_⟩
        rw [fsnoc]
        rw [List.take_of_length_le (Nat.le_of_eq (hl i hlt))] at q3
        exact q3
  · have e : i = n := by omega
    subst e
    exact .inl ⟨w.stops H (hG H p1), hd H acc p1 p2 p3⟩
/-- a comprehension with a test: values told ahead -/
theorem lc_val_if (w : Walk J n G Y) {g : TG} {tt : TT} {te : TE} {vs : List Nat} {σ : L2.St} {H1 : Hp} {D : Addr} {Qd : Hp → Prop} (hD : H1 D = none) (hn : n ≤ 100000) (hG : ∀ H, Same H1 H → G H) (bs : Nat → Bool) (fs : Nat → V)
    (step : ∀ i x H H' (Q : VK) (R : Hp → Prop), i < n → Same H1 H → Y i H x H' → (∀ H4, bs i = true → Same H H4 → Q (fs i) H4) → (∀ H3, bs i = false → Same H H3 → R H3) →
      g x (wipe σ vs) H' fun σ2 H2 => wipe σ2 vs = wipe σ vs ∧ tt σ2 H2 fun b H3 => if b = true then te σ2 H3 Q else R H3)
    (hd : ∀ H, Same H1 H → H D = some (.lst (((List.range n).filter bs).map fs)) → Qd H) : LcGoal J g tt te vs σ H1 D Qd := by
  refine lc_it w (fun i H => Same H1 H ∧ H D = some (.lst (((List.range i).filter bs).map fs))) ⟨same_upd hD, upd_same⟩ (fun i H _ p => hG H p.1) (fun i x H H' hi p y => ?_) (fun H p => hd H p.1 p.2)
  refine step i x H H' _ _ hi p.1 y (fun H4 hb e => ⟨_, e _ _ p.2, ?_, (p.1.trans e).mut hD, ?_⟩) fun H3 hb e => ⟨p.1.trans e, ?_⟩
  · rw [List.length_map]
    refine Nat.lt_of_le_of_lt (List.length_filter_le _ _) ?_
    rw [List.length_range]
    exact Nat.lt_of_lt_of_le hi (Nat.le_trans hn (by decide))
  · rw [upd_same, List.range_succ, List.filter_append, List.map_append]
    simp [hb]
  · rw [e _ _ p.2, List.range_succ, List.filter_append, List.map_append]
    simp [hb]
end
theorem SameB.mut {p q : Addr} {H H' : Hp} {o : HO} (e : SameB p H H') (h : H q = none) : SameB p H (L2.upd H' q o) := fun a u n ha => by
  rw [upd_ne (ne_of_none ha h)]
  exact e a u n ha
theorem SameB.fresh {p q : Addr} {H H' : Hp} (e : SameB p H H') (hp : ∃ o, H p = some o) (h : H' q = none) (hp' : ∃ o, H' p = some o) : H q = none := by
  cases z : H q with
  | none => rfl
  | some o =>
    by_cases hq : q = p
    · subst hq
      obtain ⟨o', ho'⟩ := hp'
      rw [h] at ho'
      cases ho'
    · rw [e q o hq z] at h
      cases h
theorem SameB.seqT {K : PySem.W.Frag} {p a : Addr} {H H' : Hp} {l xs : List V} (e : SameB p H H') (hp : H p = some (.lst l)) (h : SqT K H a xs) : SqT K H' a xs := by
  rcases h with (h | ⟨o, h⟩) | h
  · exact .inl (.inl (e _ _ (ne_of h hp (by intro z; cases z)) h))
  · exact .inl (.inr ⟨o, e _ _ (ne_of h hp (by intro z; cases z)) h⟩)
  · exact .inr h
/-- a lock and its key: behind the unlocking all is as it was -/
theorem same_unlock {d : Addr} {o : Obj} {u : HO} {H H' : Hp} (h : H d = some u) (e : Same (upd H d (.frz o u)) H') : Same H (upd H' d u) := fun a x ha => by
  by_cases z : a = d
  · subst z
    rw [upd_same, ← h, ha]
  · rw [upd_ne z]
    exact e a x (by rw [upd_ne z]; exact ha)
theorem same_lock {d : Addr} {o : Obj} {u : HO} {H H' : Hp} (e : Same (upd H d (.frz o u)) H') : SameB d H H' := fun a x n ha => e a x (by rw [upd_ne n]; exact ha)
end L2

namespace K1
open PySem PySem.Spec PyProof.Rows L2
def topS (i : Nat) : Stmt := PySem.Challenge.pw_deltamill_k01_whole_corners_add_up.main.body.getD i (.Pass ⟨0, 0, 0, 0⟩)
abbrev sbefore : Stmt := topS 1
abbrev Nbefore : List Str := ["first", "second", "low", "high"]
theorem scbefore : FnScope Nbefore ["first", "second"] (defScope sbefore) := ⟨rfl, rfl, rfl, by decide +kernel, rfl, by decide +kernel, by decide +kernel⟩

abbrev sjoin_of : Stmt := topS 2
abbrev Njoin_of : List Str := ["first", "second", "left", "right"]
theorem scjoin_of : FnScope Njoin_of ["first", "second"] (defScope sjoin_of) := ⟨rfl, rfl, rfl, by decide +kernel, rfl, by decide +kernel, by decide +kernel⟩

abbrev smeet_of : Stmt := topS 3
abbrev Nmeet_of : List Str := ["first", "second", "left", "right"]
theorem scmeet_of : FnScope Nmeet_of ["first", "second"] (defScope smeet_of) := ⟨rfl, rfl, rfl, by decide +kernel, rfl, by decide +kernel, by decide +kernel⟩

abbrev scorners : Stmt := topS 4
abbrev Ncorners : List Str := ["moment", "found", "coordinate", "choices", "start", "sign", "last", "turn"]
theorem sccorners : FnScope Ncorners ["moment"] (defScope scorners) := ⟨rfl, rfl, rfl, by decide +kernel, rfl, by decide +kernel, by decide +kernel⟩

abbrev s_law_pot : Stmt := topS 6
abbrev N_law_pot : List Str := ["script", "pot", "cell"]
theorem sc_law_pot : FnScope N_law_pot ["script"] (defScope s_law_pot) := ⟨rfl, rfl, rfl, by decide +kernel, rfl, by decide +kernel, by decide +kernel⟩

abbrev s_law_draw : Stmt := topS 7
abbrev N_law_draw : List Str := ["pot", "size", "digit"]
theorem sc_law_draw : FnScope N_law_draw ["pot", "size"] (defScope s_law_draw) := ⟨rfl, rfl, rfl, by decide +kernel, rfl, by decide +kernel, by decide +kernel⟩

abbrev s_law_great : Stmt := topS 8
abbrev N_law_great : List Str := ["pot", "high"]
theorem sc_law_great : FnScope N_law_great ["pot"] (defScope s_law_great) := ⟨rfl, rfl, rfl, by decide +kernel, rfl, by decide +kernel, by decide +kernel⟩

abbrev s_law_amount : Stmt := topS 9
abbrev N_law_amount : List Str := ["pot", "pick"]
theorem sc_law_amount : FnScope N_law_amount ["pot"] (defScope s_law_amount) := ⟨rfl, rfl, rfl, by decide +kernel, rfl, by decide +kernel, by decide +kernel⟩

abbrev s_law_grid : Stmt := topS 10
abbrev N_law_grid : List Str := ["levels", "grid", "row", "longer", "head", "level"]
theorem sc_law_grid : FnScope N_law_grid ["levels"] (defScope s_law_grid) := ⟨rfl, rfl, rfl, by decide +kernel, rfl, by decide +kernel, by decide +kernel⟩

abbrev s_law_is_integer : Stmt := topS 11
abbrev N_law_is_integer : List Str := ["told"]
theorem sc_law_is_integer : FnScope N_law_is_integer ["told"] (defScope s_law_is_integer) := ⟨rfl, rfl, rfl, by decide +kernel, rfl, by decide +kernel, by decide +kernel⟩

abbrev s_law_before : Stmt := topS 12
abbrev N_law_before : List Str := ["one", "other", "k"]
theorem sc_law_before : FnScope N_law_before ["one", "other"] (defScope s_law_before) := ⟨rfl, rfl, rfl, by decide +kernel, rfl, by decide +kernel, by decide +kernel⟩

abbrev s_law_meet : Stmt := topS 13
abbrev N_law_meet : List Str := ["one", "other", "k"]
theorem sc_law_meet : FnScope N_law_meet ["one", "other"] (defScope s_law_meet) := ⟨rfl, rfl, rfl, by decide +kernel, rfl, by decide +kernel, by decide +kernel⟩

abbrev s_law_join : Stmt := topS 14
abbrev N_law_join : List Str := ["one", "other", "k"]
theorem sc_law_join : FnScope N_law_join ["one", "other"] (defScope s_law_join) := ⟨rfl, rfl, rfl, by decide +kernel, rfl, by decide +kernel, by decide +kernel⟩

abbrev s_law_is_corner : Stmt := topS 15
abbrev N_law_is_corner : List Str := ["pair", "spot", "lowered", "k"]
theorem sc_law_is_corner : FnScope N_law_is_corner ["pair", "spot"] (defScope s_law_is_corner) := ⟨rfl, rfl, rfl, by decide +kernel, rfl, by decide +kernel, by decide +kernel⟩

abbrev s_law_are_corners : Stmt := topS 16
abbrev N_law_are_corners : List Str := ["told", "spot", "due", "one", "pair", "k"]
theorem sc_law_are_corners : FnScope N_law_are_corners ["told", "spot"] (defScope s_law_are_corners) := ⟨rfl, rfl, rfl, by decide +kernel, rfl, by decide +kernel, by decide +kernel⟩

abbrev s_law_sum_over : Stmt := topS 17
abbrev N_law_sum_over : List Str := ["told", "table", "pair"]
theorem sc_law_sum_over : FnScope N_law_sum_over ["told", "table"] (defScope s_law_sum_over) := ⟨rfl, rfl, rfl, by decide +kernel, rfl, by decide +kernel, by decide +kernel⟩

abbrev s_law_moved : Stmt := topS 18
abbrev N_law_moved : List Str := ["pot", "spot", "moved", "one"]
theorem sc_law_moved : FnScope N_law_moved ["pot", "spot"] (defScope s_law_moved) := ⟨rfl, rfl, rfl, by decide +kernel, rfl, by decide +kernel, by decide +kernel⟩

abbrev s_law_two_hold : Stmt := topS 19
abbrev N_law_two_hold : List Str := ["first", "second", "table", "parts", "lower", "upper", "one", "other", "both", "either", "to_first", "to_second"]
theorem sc_law_two_hold : FnScope N_law_two_hold ["first", "second", "table", "parts"] (defScope s_law_two_hold) := ⟨rfl, rfl, rfl, by decide +kernel, rfl, by decide +kernel, by decide +kernel⟩

abbrev slaw : Stmt := topS 20
abbrev Nlaw : List Str := ["script", "pot", "span", "bounds", "k", "box", "bound", "table", "one", "parts", "told", "first", "second", "sums", "pair", "moved"]
theorem sclaw : FnScope Nlaw ["script"] (defScope slaw) := ⟨rfl, rfl, rfl, by decide +kernel, rfl, by decide +kernel, by decide +kernel⟩

/-- the built-in names that the text uses are the built-in ones -/
structure Bt (mg : Str → Option Value) : Prop where
  m_all : mg "all" = none
  m_zip : mg "zip" = none
  m_tuple : mg "tuple" = none
  m_max : mg "max" = none
  m_min : mg "min" = none
  m_int : mg "int" = none
  m_bool : mg "bool" = none
  m_len : mg "len" = none
  m_range : mg "range" = none
  m_isinstance : mg "isinstance" = none
  m_list : mg "list" = none
  m_sum : mg "sum" = none
end K1

namespace K1
open PySem PySem.Spec PyProof.Rows L2
section
variable {P : Program} {w : World} {K : PySem.W.Frag} {mg : Str → Option Value} {base : Heap}
/-! ### before, join_of, meet_of -/
def leL (ns ms : List Int) : List Bool := List.zipWith (fun x y => decide (x ≤ y)) ns ms
def leB (ns ms : List Int) : Bool := (leL ns ms).all id
def joinL (ns ms : List Int) : List Int := List.zipWith (fun x y => if y > x then y else x) ns ms
def meetL (ns ms : List Int) : List Int := List.zipWith (fun x y => if y < x then y else x) ns ms
/-- two moments of one length in, a bool out -/
def spB (K : PySem.W.Frag) (g : List Int → List Int → Bool) : Sp := fun vs H Q _ => ∃ (a b : Addr) (ns ms : List Int), vs = [.ref a, .ref b] ∧ SqT K H a (ns.map V.int) ∧ SqT K H b (ms.map V.int) ∧ ns.length = ms.length ∧ ns.length ≤ 1000 ∧
  ∀ H', Same H H' → Q (.bl (g ns ms)) H'
/-- two moments of one length in, a new moment out -/
def spM (K : PySem.W.Frag) (g : List Int → List Int → List Int) : Sp := fun vs H Q _ => ∃ (a b : Addr) (ns ms : List Int), vs = [.ref a, .ref b] ∧ SqT K H a (ns.map V.int) ∧ SqT K H b (ms.map V.int) ∧ ns.length = ms.length ∧ ns.length ≤ 1000 ∧
  ∀ H' p, Same H H' → H p = none → H' p = some (.tup ((g ns ms).map V.int)) → Q (.ref p) H'
theorem len2 {g : List Int → List Int → Bool} : ∀ vs H Q E, spB K g vs H Q E → vs.length = 2 := by
  rintro _ _ _ _ ⟨a, b, ns, ms, rfl, _⟩
  rfl
theorem len2m {g : List Int → List Int → List Int} : ∀ vs H Q E, spM K g vs H Q E → vs.length = 2 := by
  rintro _ _ _ _ ⟨a, b, ns, ms, rfl, _⟩
  rfl
theorem int_at {ns : List Int} {i : Nat} {x : V} (h : (ns.map V.int)[i]? = some x) : ∃ n, ns[i]? = some n ∧ x = .int n := by
  rw [List.getElem?_map] at h
  cases e : ns[i]? with
  | none => rw [e] at h; cases h
  | some n => rw [e] at h; exact ⟨n, rfl, (Option.some.inj h).symm⟩
theorem d_before (B : Bt mg) (T : Top K mg "before" sbefore ["first", "second"]) : Def P w K mg base "before" 1 ["first", "second"] (spB K leB) := by
  refine mk_def T scbefore len2 fun f cdv A outer s H vs Q E hr h => ?_
  obtain ⟨a, b, ns, ms, rfl, ha, hb, hl, hn, q⟩ := h
  refine ⟨_, (pss_one (ps_ret (pe_callB (cr_all rfl) (by rfl) B.m_all (by decide +kernel) (pa_cons (pe_lc (own := [("low", 2), ("high", 3)]) (g := (gTup K 2 (gCons (gName 2) (gCons (gName 3) gNil)))) (tt := tYes) (te := (tOp yLe (tVar 2) (tVar 3))) rfl scbefore.nd (RZ.pi_zipA (by rfl) B.m_zip (pa_cons (pv 0) (pa_cons (pv 1) pa_nil))) (blkOk_by (own := [("low", 2), ("high", 3)]) (N := Nbefore) (sc := defScope sbefore) (by decide +kernel)) (fun _ _ _ _ _ => (pg_tup rfl (pgs_cons (pg_name (i := 2) scbefore.nd rfl (Or.inl rfl)) (pgs_cons (pg_name (i := 3) scbefore.nd rfl (Or.inl rfl)) pgs_nil)))) (fun _ _ _ _ _ => pts_nil) (fun _ _ _ _ _ => (pe_cmpR op_le (pv 2) (pv 3) (nomark _)))) pa_nil)))), ?_⟩
  refine ⟨.ref a, rfl, .ref b, rfl, a, b, _, _, rfl, .inr ⟨ha, hb, fun L hL => ?_⟩⟩
  refine lc_val (walk_zipT (by simpa using hl)) hL (by simp; omega) (fun H1 e => ⟨e.seqT ha, e.seqT hb⟩) ((leL ns ms).map V.bl) (by simp [leL]; omega) (fun i x H1 H2 Q' hi e y k => ?_) (fun H1 e eL => ?_)
  · obtain ⟨T', x', z', rfl, nT, rfl, hx, hz⟩ := y
    obtain ⟨x1, hx1, rfl⟩ := int_at hx
    obtain ⟨z1, hz1, rfl⟩ := int_at hz
    refine ⟨T', [.int x1, .int z1], rfl, .inl (.inl upd_same), rfl, _, _, rfl, _, _, rfl, rfl, rfl, _, rfl, _, rfl, _, _, rfl, rfl, ?_⟩
    exact k _ _ (same_upd nT) (by simp [leL, List.getElem?_zipWith, hx1, hz1])
  · exact ⟨L, leL ns ms, rfl, SqL.of eL, q H1 e⟩
end
end K1

namespace K1
open PySem PySem.Spec PyProof.Rows L2
section
variable {P : Program} {w : World} {K : PySem.W.Frag} {mg : Str → Option Value} {base : Heap}
theorem d_join_of (B : Bt mg) (T : Top K mg "join_of" sjoin_of ["first", "second"]) : Def P w K mg base "join_of" 1 ["first", "second"] (spM K joinL) := by
  refine mk_def T scjoin_of len2m fun f cdv A outer s H vs Q E hr h => ?_
  obtain ⟨a, b, ns, ms, rfl, ha, hb, hl, hn, q⟩ := h
  refine ⟨_, (pss_one (ps_ret (pe_callTy call_tuple_of (by rfl) B.m_tuple (by decide +kernel) (pa_cons (pe_lc (own := [("left", 2), ("right", 3)]) (g := (gTup K 2 (gCons (gName 2) (gCons (gName 3) gNil)))) (tt := tYes) (te := (tCB yMax (tCons (tVar 2) (tCons (tVar 3) tNil)))) rfl scjoin_of.nd (RZ.pi_zipA (by rfl) B.m_zip (pa_cons (pv 0) (pa_cons (pv 1) pa_nil))) (blkOk_by (own := [("left", 2), ("right", 3)]) (N := Njoin_of) (sc := defScope sjoin_of) (by decide +kernel)) (fun _ _ _ _ _ => (pg_tup rfl (pgs_cons (pg_name (i := 2) scjoin_of.nd rfl (Or.inl rfl)) (pgs_cons (pg_name (i := 3) scjoin_of.nd rfl (Or.inl rfl)) pgs_nil)))) (fun _ _ _ _ _ => pts_nil) (fun _ _ _ _ _ => (pe_callB (call_max2 rfl) (by rfl) B.m_max (by decide +kernel) (pa_cons (pv 2) (pa_cons (pv 3) pa_nil))))) pa_nil)))), ?_⟩
  refine ⟨.ref a, rfl, .ref b, rfl, a, b, _, _, rfl, .inr ⟨ha, hb, fun L hL => ?_⟩⟩
  refine lc_val (walk_zipT (by simpa using hl)) hL (by simp; omega) (fun H1 e => ⟨e.seqT ha, e.seqT hb⟩) ((joinL ns ms).map V.int) (by simp [joinL]; omega) (fun i x H1 H2 Q' hi e y k => ?_) (fun H1 e eL => ?_)
  · obtain ⟨T', x', z', rfl, nT, rfl, hx, hz⟩ := y
    obtain ⟨x1, hx1, rfl⟩ := int_at hx
    obtain ⟨z1, hz1, rfl⟩ := int_at hz
    refine ⟨T', [.int x1, .int z1], rfl, .inl (.inl upd_same), rfl, _, _, rfl, _, _, rfl, rfl, rfl, _, rfl, _, rfl, _, _, rfl, ?_⟩
    exact k _ _ (same_upd nT) (by simp [joinL, List.getElem?_zipWith, hx1, hz1])
  · exact ⟨L, _, rfl, .inl ⟨SqL.of eL, fun p hp => q _ p (e.trans (same_upd hp)) (e.new hp) upd_same⟩⟩
theorem d_meet_of (B : Bt mg) (T : Top K mg "meet_of" smeet_of ["first", "second"]) : Def P w K mg base "meet_of" 1 ["first", "second"] (spM K meetL) := by
  refine mk_def T scmeet_of len2m fun f cdv A outer s H vs Q E hr h => ?_
  obtain ⟨a, b, ns, ms, rfl, ha, hb, hl, hn, q⟩ := h
  refine ⟨_, (pss_one (ps_ret (pe_callTy call_tuple_of (by rfl) B.m_tuple (by decide +kernel) (pa_cons (pe_lc (own := [("left", 2), ("right", 3)]) (g := (gTup K 2 (gCons (gName 2) (gCons (gName 3) gNil)))) (tt := tYes) (te := (tCB yMin (tCons (tVar 2) (tCons (tVar 3) tNil)))) rfl scmeet_of.nd (RZ.pi_zipA (by rfl) B.m_zip (pa_cons (pv 0) (pa_cons (pv 1) pa_nil))) (blkOk_by (own := [("left", 2), ("right", 3)]) (N := Nmeet_of) (sc := defScope smeet_of) (by decide +kernel)) (fun _ _ _ _ _ => (pg_tup rfl (pgs_cons (pg_name (i := 2) scmeet_of.nd rfl (Or.inl rfl)) (pgs_cons (pg_name (i := 3) scmeet_of.nd rfl (Or.inl rfl)) pgs_nil)))) (fun _ _ _ _ _ => pts_nil) (fun _ _ _ _ _ => (pe_callB (call_min2 rfl) (by rfl) B.m_min (by decide +kernel) (pa_cons (pv 2) (pa_cons (pv 3) pa_nil))))) pa_nil)))), ?_⟩
  refine ⟨.ref a, rfl, .ref b, rfl, a, b, _, _, rfl, .inr ⟨ha, hb, fun L hL => ?_⟩⟩
  refine lc_val (walk_zipT (by simpa using hl)) hL (by simp; omega) (fun H1 e => ⟨e.seqT ha, e.seqT hb⟩) ((meetL ns ms).map V.int) (by simp [meetL]; omega) (fun i x H1 H2 Q' hi e y k => ?_) (fun H1 e eL => ?_)
  · obtain ⟨T', x', z', rfl, nT, rfl, hx, hz⟩ := y
    obtain ⟨x1, hx1, rfl⟩ := int_at hx
    obtain ⟨z1, hz1, rfl⟩ := int_at hz
    refine ⟨T', [.int x1, .int z1], rfl, .inl (.inl upd_same), rfl, _, _, rfl, _, _, rfl, rfl, rfl, _, rfl, _, rfl, _, _, rfl, ?_⟩
    exact k _ _ (same_upd nT) (by simp [meetL, List.getElem?_zipWith, hx1, hz1])
  · exact ⟨L, _, rfl, .inl ⟨SqL.of eL, fun p hp => q _ p (e.trans (same_upd hp)) (e.new hp) upd_same⟩⟩
/-! ### the law's own -/
theorem d_law_before (B : Bt mg) (T : Top K mg "_law_before" s_law_before ["one", "other"]) : Def P w K mg base "_law_before" 1 ["one", "other"] (spB K leB) := by
  refine mk_def T sc_law_before len2 fun f cdv A outer s H vs Q E hr h => ?_
  obtain ⟨a, b, ns, ms, rfl, ha, hb, hl, hn, q⟩ := h
  refine ⟨_, (pss_one (ps_ret (pe_callB (cr_all rfl) (by rfl) B.m_all (by decide +kernel) (pa_cons (pe_lc (own := [("k", 2)]) (g := (gName 2)) (tt := tYes) (te := (tOp yLe (tOp (rIxT K) (tVar 0) (tVar 2)) (tOp (rIxT K) (tVar 1) (tVar 2)))) rfl sc_law_before.nd (pi_range1 (by rfl) B.m_range (pa_cons (pe_callB call_len_seq (by rfl) B.m_len PySem.boot_len (pa_cons (pv 0) pa_nil)) pa_nil)) (blkOk_by (own := [("k", 2)]) (N := N_law_before) (sc := defScope s_law_before) (by decide +kernel)) (fun _ _ _ _ _ => (pg_name (i := 2) sc_law_before.nd rfl (Or.inl rfl))) (fun _ _ _ _ _ => pts_nil) (fun _ _ _ _ _ => (pe_cmpR op_le (pe_ix ix_tup (pv 0) (pv 2) (fun _ _ => rfl)) (pe_ix ix_tup (pv 1) (pv 2) (fun _ _ => rfl)) (nomark _)))) pa_nil)))), ?_⟩
  refine ⟨.ref a, rfl, a, _, rfl, .inr ha, _, rfl, by omega, by simp; omega, fun L hL => ?_⟩
  refine lc_val walk_range hL (by simp; omega) (fun H1 e => True.intro) ((leL ns ms).map V.bl) (by simp [leL]; omega) (fun i x H1 H2 Q' hi e y k => ?_) (fun H1 e eL => ?_)
  · obtain ⟨rfl, rfl⟩ := y
    have hi1 : i < ns.length := by simpa using hi
    have hi2 : i < ms.length := by omega
    refine ⟨rfl, .ref a, rfl, _, rfl, a, _, _, .int ns[i], rfl, rfl, e.seqT ha, at_of (j := i) (by omega) (by simp [hi1]), .ref b, rfl, _, rfl, b, _, _, .int ms[i], rfl, rfl, e.seqT hb, at_of (j := i) (by omega) (by simp [hi2]), _, _, rfl, rfl, ?_⟩
    exact k _ _ (Same.refl _) (by simp [leL, List.getElem?_zipWith, hi1, hi2])
  · exact ⟨L, leL ns ms, rfl, SqL.of eL, q H1 e⟩
theorem d_law_join (B : Bt mg) (T : Top K mg "_law_join" s_law_join ["one", "other"]) : Def P w K mg base "_law_join" 1 ["one", "other"] (spM K joinL) := by
  refine mk_def T sc_law_join len2m fun f cdv A outer s H vs Q E hr h => ?_
  obtain ⟨a, b, ns, ms, rfl, ha, hb, hl, hn, q⟩ := h
  refine ⟨_, (pss_one (ps_ret (pe_callTy call_tuple_of (by rfl) B.m_tuple (by decide +kernel) (pa_cons (pe_lc (own := [("k", 2)]) (g := (gName 2)) (tt := tYes) (te := (tCB yMax (tCons (tOp (rIxT K) (tVar 0) (tVar 2)) (tCons (tOp (rIxT K) (tVar 1) (tVar 2)) tNil)))) rfl sc_law_join.nd (pi_range1 (by rfl) B.m_range (pa_cons (pe_callB call_len_seq (by rfl) B.m_len PySem.boot_len (pa_cons (pv 0) pa_nil)) pa_nil)) (blkOk_by (own := [("k", 2)]) (N := N_law_join) (sc := defScope s_law_join) (by decide +kernel)) (fun _ _ _ _ _ => (pg_name (i := 2) sc_law_join.nd rfl (Or.inl rfl))) (fun _ _ _ _ _ => pts_nil) (fun _ _ _ _ _ => (pe_callB (call_max2 rfl) (by rfl) B.m_max (by decide +kernel) (pa_cons (pe_ix ix_tup (pv 0) (pv 2) (fun _ _ => rfl)) (pa_cons (pe_ix ix_tup (pv 1) (pv 2) (fun _ _ => rfl)) pa_nil))))) pa_nil)))), ?_⟩
  refine ⟨.ref a, rfl, a, _, rfl, .inr ha, _, rfl, by omega, by simp; omega, fun L hL => ?_⟩
  refine lc_val walk_range hL (by simp; omega) (fun H1 e => True.intro) ((joinL ns ms).map V.int) (by simp [joinL]; omega) (fun i x H1 H2 Q' hi e y k => ?_) (fun H1 e eL => ?_)
  · obtain ⟨rfl, rfl⟩ := y
    have hi1 : i < ns.length := by simpa using hi
    have hi2 : i < ms.length := by omega
    refine ⟨rfl, .ref a, rfl, _, rfl, a, _, _, .int ns[i], rfl, rfl, e.seqT ha, at_of (j := i) (by omega) (by simp [hi1]), .ref b, rfl, _, rfl, b, _, _, .int ms[i], rfl, rfl, e.seqT hb, at_of (j := i) (by omega) (by simp [hi2]), _, _, rfl, ?_⟩
    exact k _ _ (Same.refl _) (by simp [joinL, List.getElem?_zipWith, hi1, hi2])
  · exact ⟨L, _, rfl, .inl ⟨SqL.of eL, fun p hp => q _ p (e.trans (same_upd hp)) (e.new hp) upd_same⟩⟩
theorem d_law_meet (B : Bt mg) (T : Top K mg "_law_meet" s_law_meet ["one", "other"]) : Def P w K mg base "_law_meet" 1 ["one", "other"] (spM K meetL) := by
  refine mk_def T sc_law_meet len2m fun f cdv A outer s H vs Q E hr h => ?_
  obtain ⟨a, b, ns, ms, rfl, ha, hb, hl, hn, q⟩ := h
  refine ⟨_, (pss_one (ps_ret (pe_callTy call_tuple_of (by rfl) B.m_tuple (by decide +kernel) (pa_cons (pe_lc (own := [("k", 2)]) (g := (gName 2)) (tt := tYes) (te := (tCB yMin (tCons (tOp (rIxT K) (tVar 0) (tVar 2)) (tCons (tOp (rIxT K) (tVar 1) (tVar 2)) tNil)))) rfl sc_law_meet.nd (pi_range1 (by rfl) B.m_range (pa_cons (pe_callB call_len_seq (by rfl) B.m_len PySem.boot_len (pa_cons (pv 0) pa_nil)) pa_nil)) (blkOk_by (own := [("k", 2)]) (N := N_law_meet) (sc := defScope s_law_meet) (by decide +kernel)) (fun _ _ _ _ _ => (pg_name (i := 2) sc_law_meet.nd rfl (Or.inl rfl))) (fun _ _ _ _ _ => pts_nil) (fun _ _ _ _ _ => (pe_callB (call_min2 rfl) (by rfl) B.m_min (by decide +kernel) (pa_cons (pe_ix ix_tup (pv 0) (pv 2) (fun _ _ => rfl)) (pa_cons (pe_ix ix_tup (pv 1) (pv 2) (fun _ _ => rfl)) pa_nil))))) pa_nil)))), ?_⟩
  refine ⟨.ref a, rfl, a, _, rfl, .inr ha, _, rfl, by omega, by simp; omega, fun L hL => ?_⟩
  refine lc_val walk_range hL (by simp; omega) (fun H1 e => True.intro) ((meetL ns ms).map V.int) (by simp [meetL]; omega) (fun i x H1 H2 Q' hi e y k => ?_) (fun H1 e eL => ?_)
  · obtain ⟨rfl, rfl⟩ := y
    have hi1 : i < ns.length := by simpa using hi
    have hi2 : i < ms.length := by omega
    refine ⟨rfl, .ref a, rfl, _, rfl, a, _, _, .int ns[i], rfl, rfl, e.seqT ha, at_of (j := i) (by omega) (by simp [hi1]), .ref b, rfl, _, rfl, b, _, _, .int ms[i], rfl, rfl, e.seqT hb, at_of (j := i) (by omega) (by simp [hi2]), _, _, rfl, ?_⟩
    exact k _ _ (Same.refl _) (by simp [meetL, List.getElem?_zipWith, hi1, hi2])
  · exact ⟨L, _, rfl, .inl ⟨SqL.of eL, fun p hp => q _ p (e.trans (same_upd hp)) (e.new hp) upd_same⟩⟩
def spIsInt : Sp := fun vs H Q _ => ∃ i : Int, vs = [.int i] ∧ ∀ H', Same H H' → Q (.bl true) H'
theorem d_law_is_integer (B : Bt mg) (T : Top K mg "_law_is_integer" s_law_is_integer ["told"]) : Def P w K mg base "_law_is_integer" 1 ["told"] spIsInt := by
  refine mk_def T sc_law_is_integer (by rintro _ _ _ _ ⟨i, rfl, _⟩; rfl) fun f cdv A outer s H vs Q E hr h => ?_
  obtain ⟨i, rfl, q⟩ := h
  refine ⟨_, (pss_one (ps_ret (pe_and (pe_callB call_isi (by rfl) B.m_isinstance (by decide +kernel) (pa_cons (pv 0) (pa_cons (pe_bltn (v := .ty "int") (by rfl) B.m_int (by decide +kernel) rfl) pa_nil))) (pe_one (pe_not (pe_callB call_isi (by rfl) B.m_isinstance (by decide +kernel) (pa_cons (pv 0) (pa_cons (pe_bltn (v := .ty "bool") (by rfl) B.m_bool (by decide +kernel) rfl) pa_nil)))))))), ?_⟩
  refine ⟨.int i, rfl, _, _, .type "int", .type "int", true, rfl, .ty _, .base (.int i), kit_ty (by decide +kernel), _, rfl, ?_⟩
  refine ⟨.int i, rfl, _, _, .type "int", .type "bool", false, rfl, .ty _, .base (.int i), kit_ty (by decide +kernel), _, rfl, ?_⟩
  exact q H (Same.refl _)
end
end K1

namespace K1
open PySem PySem.Spec PyProof.Rows L2
section
variable {P : Program} {w : World} {K : PySem.W.Frag} {mg : Str → Option Value} {base : Heap}
/-- the pot that numbers are drawn from -/
def PotAt (H : Hp) (p : Addr) : Prop := ∃ a b c : Int, H p = some (.lst [.int a, .int b, .int c]) ∧ 0 ≤ a ∧ 0 ≤ b ∧ 0 ≤ c
def spPot (K : PySem.W.Frag) : Sp := fun vs H Q _ => ∃ (a : Addr) (ns : List Int), vs = [.ref a] ∧ SqL K H a (ns.map V.int) ∧ ∀ H' p, Same H H' → H p = none → PotAt H' p → Q (.ref p) H'
theorem d_law_pot (B : Bt mg) (T : Top K mg "_law_pot" s_law_pot ["script"]) : Def P w K mg base "_law_pot" 1 ["script"] (spPot K) := by
  refine mk_def T sc_law_pot (by rintro _ _ _ _ ⟨a, ns, rfl, _⟩; rfl) fun f cdv A outer s H vs Q E hr h => ?_
  obtain ⟨a, ns, rfl, ha, q⟩ := h
  refine ⟨_, (pss_cons (ps_set (i := 1) sc_law_pot.nd rfl (Or.inl rfl) (pe_lst (pa_cons pe_int (pa_cons pe_int (pa_cons pe_int pa_nil)))))
      (pss_cons (ps_for PassesOwn.never rfl (pi_list (pv 0)) (pg_name (i := 2) sc_law_pot.nd rfl (Or.inl rfl)) (Evl.pss_cut (ps_if (pw_and (pt_cmpR op_eq (pe_ix ix_list (pv 1) pe_int (fun _ _ => rfl)) pe_int (nomark _)) (pw_and1 (pt_cmpR op_ge (pv 2) (pe_op op_pow pe_int pe_int) (nomark _)))).pt (pss_one (ps_asg (pv 2) (pg_sub (pv 1) pe_int set_list))) pss_nil)
      (pss_one (ps_asg (pe_op op_mod (pe_callTy call_int1 (by rfl) B.m_int (by decide +kernel) (pa_cons (pe_op op_add (pe_op op_add (pe_op op_mul (pe_ix ix_list (pv 1) pe_int (fun _ _ => rfl)) pe_int) (pe_op op_mul (pv 2) pe_int)) pe_int) pa_nil)) pe_int) (pg_sub (pv 1) pe_int set_list)))))
      (pss_one (ps_ret (pv 1))))), ?_⟩
  refine ⟨by show 3 ≤ sizeLine; decide, fun p hp => ?_⟩
  refine ⟨.ref a, rfl, a, rfl, ⟨_, (same_upd hp).seq ha⟩, ?_⟩
  refine for_list (xs := ns.map V.int) (fun i σ H' => ∃ y2, σ = [some (.ref a), some (.ref p), y2] ∧ Same H H' ∧ PotAt H' p) ⟨_, rfl, same_upd hp, 0, 20011, 0, upd_same, by decide, by decide, by decide⟩ (fun i σ H' _ pv' => ?_) (fun i x σ H' hx pv' => ?_) (fun σ H' pv' => ?_)
  · obtain ⟨y2, rfl, e, _⟩ := pv'
    exact e.seq ha
  · obtain ⟨y2, rfl, e, pa, pb, pc, ep, h1, h2, h3⟩ := pv'
    obtain ⟨c, hc, rfl⟩ := int_at hx
    refine ⟨fun σ' H3 => ∃ pa' : Int, σ' = [some (.ref a), some (.ref p), some (.int c)] ∧ H3 p = some (.lst [.int pa', .int pb, .int pc]) ∧ 0 ≤ pa' ∧ Same H H3, ?_, ?_⟩
    · refine ⟨.ref p, rfl, p, _, 0, .int pa, rfl, rfl, SqL.of ep, atI_nat (j := 0) rfl, rfl, _, rfl, ite2 (fun z => ?_) (fun z => iteF ⟨pa, rfl, ep, h1, e⟩)⟩
      refine ⟨.int c, rfl, _, _, rfl, rfl, ⟨by decide, by decide, by decide⟩, _, _, rfl, rfl, _, rfl, ite2 (fun z2 => ?_) (fun z2 => ⟨pa, rfl, ep, h1, e⟩)⟩
      refine ⟨.int c, rfl, .ref p, rfl, p, _, 0, 0, rfl, rfl, ep, rfl, ?_⟩
      have hc2 : (10 : Int) ^ (18 : Int).toNat ≤ c := of_decide_eq_true z2
      have h18 : (0 : Int) ≤ (10 : Int) ^ (18 : Int).toNat := by decide
      exact ⟨c, rfl, upd_same, by omega, e.mut hp⟩
    · rintro σ' H3 ⟨pa', rfl, e3, h0, s3⟩
      refine ⟨.ref p, rfl, p, _, 1, .int pb, rfl, rfl, SqL.of e3, atI_nat (j := 1) rfl, pb, 48271, rfl, rfl, .inr ⟨by decide, by decide⟩, .int c, rfl, c, 69621, rfl, rfl, .inr ⟨by decide, by decide⟩, _, _, rfl, rfl, _, _, rfl, rfl, .inl ⟨_, rfl, _, _, rfl, rfl, (by show (0:Int) < _; decide), ?_⟩⟩
      refine ⟨.ref p, rfl, p, _, 1, 1, rfl, rfl, e3, rfl, _, rfl, s3.mut hp, pa', _, pc, upd_same, h0, Int.emod_nonneg _ (by decide), h3⟩
  · obtain ⟨y2, rfl, e, pt⟩ := pv'
    exact ⟨.ref p, rfl, q H' p e hp pt⟩
def spDraw (K : PySem.W.Frag) : Sp := fun vs H Q _ => ∃ (p : Addr) (n : Int), vs = [.ref p, .int n] ∧ PotAt H p ∧ 0 < n ∧ n ≤ 1000000000000000 ∧ ∀ H' r, SameB p H H' → PotAt H' p → 0 ≤ r → r < n → Q (.int r) H'
theorem d_law_draw (B : Bt mg) (T : Top K mg "_law_draw" s_law_draw ["pot", "size"]) : Def P w K mg base "_law_draw" 1 ["pot", "size"] (spDraw K) := by
  refine mk_def T sc_law_draw (by rintro _ _ _ _ ⟨p, n, rfl, _⟩; rfl) fun f cdv A outer s H vs Q E hr h => ?_
  obtain ⟨p, n, rfl, ⟨pa, pb, pc, ep, h1, h2, h3⟩, hn, hn2, q⟩ := h
  have hdiv : CDivW pa n := wide_div (b := 60) hn (by omega) (by decide) (by decide)
  refine ⟨_, (pss_cons (ps_if (pt_cmpR op_gt (pe_ix ix_list (pv 0) pe_int (fun _ _ => rfl)) pe_int (nomark _)) (pss_cons (ps_set (i := 2) sc_law_draw.nd rfl (Or.inl rfl) (pe_op op_mod (pe_callTy call_int1 (by rfl) B.m_int (by decide +kernel) (pa_cons (pe_ix ix_list (pv 0) pe_int (fun _ _ => rfl)) pa_nil)) (pv 1)))
      (pss_cons (ps_asg (pe_op op_fdivW (pe_ix ix_list (pv 0) pe_int (fun _ _ => rfl)) (pv 1)) (pg_sub (pv 0) pe_int set_list))
      (pss_one (ps_ret (pv 2))))) pss_nil)
      (pss_cons (ps_asg (pe_op op_add (pe_ix ix_list (pv 0) pe_int (fun _ _ => rfl)) pe_int) (pg_sub (pv 0) pe_int set_list))
      (pss_cons (ps_asg (pe_op op_mod (pe_callTy call_int1 (by rfl) B.m_int (by decide +kernel) (pa_cons (pe_op op_add (pe_op op_mul (pe_ix ix_list (pv 0) pe_int (fun _ _ => rfl)) pe_int) (pe_op op_mul (pe_ix ix_list (pv 0) pe_int (fun _ _ => rfl)) pe_int)) pa_nil)) pe_int) (pg_sub (pv 0) pe_int set_list))
      (pss_one (ps_ret (pe_op op_mod (pe_op op_mod (pe_callTy call_int1 (by rfl) B.m_int (by decide +kernel) (pa_cons (pe_op op_add (pe_op op_mul (pe_op op_fdivW (pe_ix ix_list (pv 0) pe_int (fun _ _ => rfl)) pe_int) pe_int) (pe_op op_mod (pe_callTy call_int1 (by rfl) B.m_int (by decide +kernel) (pa_cons (pe_ix ix_list (pv 0) pe_int (fun _ _ => rfl)) pa_nil)) pe_int)) pa_nil)) pe_int) (pv 1))))))), ?_⟩
  refine ⟨.ref p, rfl, p, _, 0, .int pa, rfl, rfl, SqL.of ep, atI_nat (j := 0) rfl, _, _, rfl, rfl, _, rfl, ite2 (fun z => ?_) (fun z => ?_)⟩
  · refine ⟨.ref p, rfl, p, _, 0, .int pa, rfl, rfl, SqL.of ep, atI_nat (j := 0) rfl, .inl ⟨_, rfl, .int n, rfl, _, _, rfl, rfl, hn, ?_⟩⟩
    refine ⟨.ref p, rfl, p, _, 0, .int pa, rfl, rfl, SqL.of ep, atI_nat (j := 0) rfl, .int n, rfl, _, _, rfl, rfl, hdiv, .ref p, rfl, p, _, 0, 0, rfl, rfl, ep, rfl, ?_⟩
    refine ⟨_, rfl, q _ _ SameB.upd ⟨_, pb, pc, upd_same, Int.ediv_nonneg h1 (Int.le_of_lt hn), h2, h3⟩ (Int.emod_nonneg _ (by omega)) (Int.emod_lt_of_pos _ hn)⟩
  · refine ⟨.ref p, rfl, p, _, 2, .int pc, rfl, rfl, SqL.of ep, atI_nat (j := 2) rfl, _, _, rfl, rfl, .ref p, rfl, p, _, 2, 2, rfl, rfl, ep, rfl, ?_⟩
    have e1 : upd H p (.lst ([V.int pa, .int pb, .int pc].set 2 (.int (pc + 1)))) p = some (.lst [.int pa, .int pb, .int (pc + 1)]) := upd_same
    refine ⟨.ref p, rfl, p, _, 1, .int pb, rfl, rfl, SqL.of e1, atI_nat (j := 1) rfl, _, _, rfl, rfl, .inr ⟨by decide, by decide⟩, .ref p, rfl, p, _, 2, .int (pc + 1), rfl, rfl, SqL.of e1, atI_nat (j := 2) rfl, _, _, rfl, rfl, .inr ⟨by decide, by decide⟩, _, _, rfl, rfl,
      .inl ⟨_, rfl, _, _, rfl, rfl, (by show (0:Int) < _; decide), .ref p, rfl, p, _, 1, 1, rfl, rfl, e1, rfl, ?_⟩⟩
    rw [upd_upd]
    have e2 : ∀ x : Int, upd H p (.lst ([V.int pa, .int pb, .int (pc + 1)].set 1 (.int x))) p = some (.lst [.int pa, .int x, .int (pc + 1)]) := fun _ => upd_same
    refine ⟨.ref p, rfl, p, _, 1, _, rfl, rfl, SqL.of (e2 _), atI_nat (j := 1) rfl, _, _, rfl, rfl, ⟨by decide, by decide⟩, _, _, rfl, rfl, .inr ⟨by decide, by decide⟩, .ref p, rfl, p, _, 1, _, rfl, rfl, SqL.of (e2 _), atI_nat (j := 1) rfl,
      .inl ⟨_, rfl, _, _, rfl, rfl, (by show (0:Int) < _; decide), _, _, rfl, rfl, .inl ⟨_, rfl, _, _, rfl, rfl, (by show (0:Int) < _; decide), .int n, rfl, _, _, rfl, rfl, hn, ?_⟩⟩⟩
    exact q _ _ SameB.upd ⟨pa, _, pc + 1, e2 _, h1, Int.emod_nonneg _ (by decide), by omega⟩ (Int.emod_nonneg _ (by omega)) (Int.emod_lt_of_pos _ hn)
def spGreat (K : PySem.W.Frag) : Sp := fun vs H Q _ => ∃ p : Addr, vs = [.ref p] ∧ PotAt H p ∧ ∀ H' r, SameB p H H' → PotAt H' p → 0 ≤ r → r < 1000000000000000000000000000000 → Q (.int r) H'
theorem d_law_great (B : Bt mg) (T : Top K mg "_law_great" s_law_great ["pot"]) (D_law_draw : Def P w K mg base "_law_draw" 1 ["pot", "size"] (spDraw K)) : Def P w K mg base "_law_great" 2 ["pot"] (spGreat K) := by
  refine mk_def T sc_law_great (by rintro _ _ _ _ ⟨p, rfl, _⟩; rfl) fun f cdv A outer s H vs Q E hr h => ?_
  obtain ⟨p, rfl, pt, q⟩ := h
  refine ⟨_, (pss_cons (ps_set (i := 1) sc_law_great.nd rfl (Or.inl rfl) (pe_def D_law_draw (hr.mono (by decide)) (by rfl) (pa_cons (pv 0) (pa_cons (pe_op op_pow pe_int pe_int) pa_nil))))
      (pss_one (ps_ret (pe_op op_add (pe_op op_mul (pv 1) (pe_op op_pow pe_int pe_int)) (pe_def D_law_draw (hr.mono (by decide)) (by rfl) (pa_cons (pv 0) (pa_cons (pe_op op_pow pe_int pe_int) pa_nil))))))), ?_⟩
  refine ⟨.ref p, rfl, _, _, rfl, rfl, ⟨by decide, by decide, by decide⟩, p, _, rfl, pt, by decide, by decide, fun H1 r s1 p1 r0 r1 => ?_⟩
  refine ⟨.int r, rfl, _, _, rfl, rfl, ⟨by decide, by decide, by decide⟩, _, _, rfl, rfl, .inr ⟨by decide, by decide⟩, .ref p, rfl, _, _, rfl, rfl, ⟨by decide, by decide, by decide⟩, p, _, rfl, p1, by decide, by decide, fun H2 r' s2 p2 r2 r3 => ?_⟩
  have e : (10 : Int) ^ (15 : Int).toNat = 1000000000000000 := by decide
  rw [e] at r1 r3
  refine ⟨_, _, rfl, rfl, q H2 _ (s1.trans s2) p2 ?_ ?_⟩
  · rw [e]; omega
  · rw [e]; omega
def spAmount (K : PySem.W.Frag) : Sp := fun vs H Q _ => ∃ p : Addr, vs = [.ref p] ∧ PotAt H p ∧ ∀ H' r, SameB p H H' → PotAt H' p → Q (.int r) H'
theorem d_law_amount (B : Bt mg) (T : Top K mg "_law_amount" s_law_amount ["pot"]) (D_law_draw : Def P w K mg base "_law_draw" 1 ["pot", "size"] (spDraw K)) (D_law_great : Def P w K mg base "_law_great" 2 ["pot"] (spGreat K)) : Def P w K mg base "_law_amount" 3 ["pot"] (spAmount K) := by
  refine mk_def T sc_law_amount (by rintro _ _ _ _ ⟨p, rfl, _⟩; rfl) fun f cdv A outer s H vs Q E hr h => ?_
  obtain ⟨p, rfl, pt, q⟩ := h
  refine ⟨_, (pss_cons (ps_set (i := 1) sc_law_amount.nd rfl (Or.inl rfl) (pe_def D_law_draw (hr.mono (by decide)) (by rfl) (pa_cons (pv 0) (pa_cons pe_int pa_nil))))
      (pss_cons (ps_if (pt_cmpR op_eq (pv 1) pe_int (nomark _)) (pss_one (ps_ret (pe_def D_law_great (hr.mono (by decide)) (by rfl) (pa_cons (pv 0) pa_nil)))) pss_nil)
      (pss_cons (ps_if (pt_cmpR op_eq (pv 1) pe_int (nomark _)) (pss_one (ps_ret (pe_op op_sub pe_int (pe_def D_law_great (hr.mono (by decide)) (by rfl) (pa_cons (pv 0) pa_nil))))) pss_nil)
      (pss_one (ps_ret (pe_op op_sub (pv 1) pe_int)))))), ?_⟩
  refine ⟨.ref p, rfl, p, 9, rfl, pt, by decide, by decide, fun H1 r s1 p1 r0 r1 => ?_⟩
  refine ⟨.int r, rfl, rfl, _, rfl, ite2 (fun z => ?_) (fun z => ?_)⟩
  · exact ⟨.ref p, rfl, p, rfl, p1, fun H2 r' s2 p2 _ _ => q H2 r' (s1.trans s2) p2⟩
  · refine ⟨.int r, rfl, rfl, _, rfl, ite2 (fun z => ?_) (fun z => ?_)⟩
    · exact ⟨.ref p, rfl, p, rfl, p1, fun H2 r' s2 p2 _ _ => ⟨_, _, rfl, rfl, q H2 _ (s1.trans s2) p2⟩⟩
    · exact ⟨.int r, rfl, _, _, rfl, rfl, q H1 _ s1 p1⟩
end
end K1

namespace K1
open PySem PySem.Spec PyProof.Rows L2
/-! ### the grid -/
def gridStep (g : List (List Int)) (r : List Int) : List (List Int) := g.flatMap fun h => r.map fun l => h ++ [l]
def gridL (rows : List (List Int)) : List (List Int) := rows.foldl gridStep [[]]
theorem gridL_snoc (rows : List (List Int)) (r : List Int) : gridL (rows ++ [r]) = gridStep (gridL rows) r := by simp [gridL]
theorem gridL_take {rows : List (List Int)} {i : Nat} {r : List Int} (h : rows[i]? = some r) : gridL (rows.take (i + 1)) = gridStep (gridL (rows.take i)) r := by
  rw [List.take_add_one, h]
  exact gridL_snoc _ _
theorem gridStep_len {g : List (List Int)} {r : List Int} {n : Nat} (h : ∀ x ∈ g, x.length = n) : ∀ x ∈ gridStep g r, x.length = n + 1 := by
  intro x hx
  obtain ⟨y, hy, hz⟩ := List.mem_flatMap.mp hx
  obtain ⟨l, _, rfl⟩ := List.mem_map.mp hz
  simp [h y hy]
theorem gridL_len : ∀ (n : Nat) (rows : List (List Int)), rows.length = n → ∀ x ∈ gridL rows, x.length = n := by
  intro n
  induction n with
  | zero =>
    intro rows h x hx
    have : rows = [] := List.length_eq_zero_iff.mp h
    subst this
    simp [gridL] at hx
    simp [hx]
  | succ n ih =>
    intro rows h x hx
    have hne : rows ≠ [] := by
      intro e
      subst e
      simp at h
    rw [← List.dropLast_concat_getLast hne, gridL_snoc] at hx
    exact gridStep_len (ih _ (by simp [h])) x hx
/-- a list of ints, as data -/
def li (r : List Int) : PyData := .list (r.map .int)
theorem li_inv {K : PySem.W.Frag} {H : Hp} {v : V} {r : List Int} (h : Da K H v (li r)) : ∃ a, v = .ref a ∧ SqL K H a (r.map V.int) := by
  cases h with
  | lst hs ha =>
    rw [DaAll.ints ha] at hs
    exact ⟨_, rfl, hs⟩
theorem imm_mos (ms : List (List Int)) : immAll (ms.map mo) = true := by
  induction ms with
  | nil => rfl
  | cons m ms ih =>
    show (imm (mo m) && immAll (ms.map mo)) = true
    rw [imm_mo, ih]
    rfl
theorem mo_at {ms : List (List Int)} {i : Nat} {d : PyData} (h : (ms.map mo)[i]? = some d) : ∃ m, ms[i]? = some m ∧ d = mo m := by
  rw [List.getElem?_map] at h
  cases e : ms[i]? with
  | none => rw [e] at h; cases h
  | some n => rw [e] at h; exact ⟨n, rfl, (Option.some.inj h).symm⟩
theorem sz1000 {n : Nat} (h : n ≤ 100000) : n ≤ sizeLine := Nat.le_trans h (by decide)
section
variable {P : Program} {w : World} {K : PySem.W.Frag} {mg : Str → Option Value} {base : Heap}
def spGrid (K : PySem.W.Frag) : Sp := fun vs H Q _ => ∃ (a : Addr) (rows : List (List Int)), vs = [.ref a] ∧ Da K H (.ref a) (.list (rows.map li)) ∧ rows.length ≤ 10 ∧ (∀ i, (gridL (rows.take i)).length ≤ 10000) ∧ (∀ r ∈ rows, r.length ≤ 10000) ∧
  ∀ H' p gv, Same H H' → H p = none → H' p = some (.lst gv) → DaAll K H' gv ((gridL rows).map mo) → Q (.ref p) H'
/-- head + (level,) -/
theorem cat1 {H1 : Hp} {hv : V} {h : List Int} {l : Int} {Q : VK} (hh : Mo K H1 hv h) (hl : h.length ≤ 1000) (k : ∀ y H4, Same H1 H4 → Mo K H4 y (h ++ [l]) → Q y H4) (t : Addr) (ht : H1 t = none) :
    rCatA K hv (.ref t) (upd H1 t (.tup [.int l])) Q := by
  obtain ⟨a, rfl, ha⟩ := hh.inv
  have e1 : Same H1 (upd H1 t (.tup [.int l])) := same_upd ht
  refine ⟨a, t, _, _, rfl, rfl, e1.seqT ha, SqT.of upd_same, sz1000 (by simp; omega), fun z => ?_, fun _ (z : [V.int l] = []) => (nomatch z), fun _ _ p hp => ?_⟩
  · have : h = [] := by simpa using z
    subst this
    exact k _ _ e1 (Mo.of (m := [l]) (upd_same))
  · refine k _ _ (e1.trans (same_upd hp)) (Mo.of (?_))
    rw [upd_same, List.map_append]
    rfl
theorem d_law_grid (B : Bt mg) (T : Top K mg "_law_grid" s_law_grid ["levels"]) : Def P w K mg base "_law_grid" 1 ["levels"] (spGrid K) := by
  refine mk_def T sc_law_grid (by rintro _ _ _ _ ⟨p, _, rfl, _⟩; rfl) fun f cdv A outer s H vs Q E hr h => ?_
  obtain ⟨a, rows, rfl, hd, hn, hb, hr1, q⟩ := h
  refine ⟨_, (pss_cons (ps_set (i := 1) sc_law_grid.nd rfl (Or.inl rfl) (pe_lst (pa_cons (pe_tup pa_nil) pa_nil)))
      (pss_cons (ps_for PassesOwn.never rfl (pi_list (pv 0)) (pg_name (i := 2) sc_law_grid.nd rfl (Or.inl rfl)) (pss_cons (ps_set (i := 3) sc_law_grid.nd rfl (Or.inl rfl) (pe_lst pa_nil))
      (pss_cons (ps_for PassesOwn.never rfl (pi_list (pv 1)) (pg_name (i := 4) sc_law_grid.nd rfl (Or.inr rfl)) (pss_one (ps_expr (pe_bm PySem.F.plainAttrs_list PySem.F.slot_list_extend PySem.F.type_list_extend mt_extend (pv 3) (pa_cons (pe_lc (own := [("level", 5)]) (g := (gName 5)) (tt := tYes) (te := (tOp (rCatA K) (tVar 4) (tTup (tCons (tVar 5) tNil)))) rfl sc_law_grid.nd (pi_list (pv 2)) (blkOk_by (own := [("level", 5)]) (N := N_law_grid) (sc := defScope s_law_grid) (by decide +kernel)) (fun _ _ _ _ _ => (pg_name (i := 5) sc_law_grid.nd rfl (Or.inl rfl))) (fun _ _ _ _ _ => pts_nil) (fun _ _ _ _ _ => (pe_op op_catA (pv 4) (pe_tup (pa_cons (pv 5) pa_nil))))) pa_nil)))))
      (pss_one (ps_set (i := 1) sc_law_grid.nd rfl (Or.inl rfl) (pv 3))))))
      (pss_one (ps_ret (pv 1))))), ?_⟩
  refine ⟨Nat.zero_le _, fun t0 ht0 => ⟨by show 1 ≤ sizeLine; decide, fun g0 hg0 => ?_⟩⟩
  have s0 : Same H (upd (upd H t0 (.tup [])) g0 (.lst [.ref t0])) := (same_upd ht0).trans (same_upd hg0)
  have ng0 : H g0 = none := (same_upd ht0).new hg0
  have e0 : Mo K (upd (upd H t0 (.tup [])) g0 (.lst [.ref t0])) (.ref t0) [] := Mo.of ((same_upd hg0 _ _ upd_same))
  cases hd with
  | lst hs hda =>
    rename_i lv
    have hlen : lv.length = rows.length := by
      have := hda.length
      simpa using this
    refine ⟨.ref a, rfl, a, rfl, ⟨_, s0.seq hs⟩, ?_⟩
    refine for_list (xs := lv) (fun i σ H' => ∃ (G : Addr) (gv : List V) (y2 y3 y4 y5 : Option V), σ = [some (.ref a), some (.ref G), y2, y3, y4, y5] ∧ Same H H' ∧ H G = none ∧ H' G = some (.lst gv) ∧ DaAll K H' gv ((gridL (rows.take i)).map mo))
      ⟨g0, [.ref t0], none, none, none, none, rfl, s0, ng0, upd_same, .cons e0 .nil⟩ (fun i σ H' _ pv' => ?_) (fun i x σ H' hx pv' => ?_) (fun σ H' pv' => ?_)
    · obtain ⟨G, gv, _, _, _, _, rfl, e, _⟩ := pv'
      exact e.seq hs
    · obtain ⟨G, gv, y2, y3, y4, y5, rfl, e, nG, eG, dG⟩ := pv'
      obtain ⟨d, hd1, hd2⟩ := hda.get hx
      obtain ⟨r, hr2, rfl⟩ : ∃ r, rows[i]? = some r ∧ d = li r := by
        rw [List.getElem?_map] at hd1
        cases er : rows[i]? with
        | none => rw [er] at hd1; cases hd1
        | some r => rw [er] at hd1; exact ⟨r, rfl, (Option.some.inj hd1).symm⟩
      obtain ⟨b, rfl, hb2⟩ := li_inv hd2
      have hi : i < rows.length := (List.getElem?_eq_some_iff.mp hr2).1
      have hstep := gridL_take hr2
      -- longer = []
      refine ⟨Nat.zero_le _, fun Lg hLg => ?_⟩
      have nLg : H Lg = none := e.new hLg
      have neG : G ≠ Lg := ne_of_none eG hLg
      have e1 : Same H' (upd H' Lg (.lst [])) := same_upd hLg
      -- for head in grid
      refine ⟨.ref G, rfl, G, rfl, ⟨_, SqL.of (e1 _ _ eG)⟩, ?_⟩
      refine for_list (xs := gv) (fun j σ H2 => ∃ (lgv : List V) (y4 y5 : Option V), σ = [some (.ref a), some (.ref G), some (.ref b), some (.ref Lg), y4, y5] ∧ Same H H2 ∧ H2 G = some (.lst gv) ∧ DaAll K H2 gv ((gridL (rows.take i)).map mo) ∧ H2 Lg = some (.lst lgv) ∧ DaAll K H2 lgv ((gridStep ((gridL (rows.take i)).take j) r).map mo))
        ⟨[], y4, y5, rfl, e.trans e1, e1 _ _ eG, Da.sameAll e1 _ _ dG, upd_same, .nil⟩ (fun j σ H2 _ pw => ?_) (fun j x σ H2 hx2 pw => ?_) (fun σ H2 pw => ?_)
      · obtain ⟨_, _, _, rfl, _, eG2, _⟩ := pw
        exact SqL.of eG2
      · obtain ⟨lgv, z4, z5, rfl, e2, eG2, dG2, eL2, dL2⟩ := pw
        obtain ⟨dm, hdm, hdm2⟩ := dG2.get hx2
        obtain ⟨h, hh, rfl⟩ := mo_at hdm
        have hlh : h.length = i := by
          have := gridL_len i (rows.take i) (by simp; omega) h (List.mem_of_getElem? hh)
          exact this
        refine ⟨.ref Lg, rfl, .inl ⟨rfl, _, SqL.of eL2⟩, .ref b, rfl, b, rfl, ⟨_, e2.seq hb2⟩, fun D hD => ?_⟩
        refine lc_dat (K := K) walk_list hD (by simp; exact Nat.le_trans (hr1 r (List.mem_of_getElem? hr2)) (by decide)) (fun H3 e3 => (e2.trans e3).seq hb2) ((r.map fun l => h ++ [l]).map mo) (by simp) (imm_mos _) (fun k x3 H3 H3' Q' hk e3 y3' kk => ?_) (fun H3 acc e3 eD dD => ?_)
        · obtain ⟨rfl, hx3⟩ := y3'
          obtain ⟨l, hl, rfl⟩ := int_at hx3
          refine ⟨rfl, x, rfl, .int l, rfl, by show 1 ≤ sizeLine; decide, fun t ht => ?_⟩
          refine cat1 (Mo.same hdm2 e3) (by omega) (fun y H4 e4 d4 => kk y H4 _ e4 ?_ d4) t ht
          simp [hl]
        · have hlt := hb (i + 1)
          rw [hstep] at hlt
          have hnew : gridStep ((gridL (rows.take i)).take (j + 1)) r = gridStep ((gridL (rows.take i)).take j) r ++ r.map fun l => h ++ [l] := by
            unfold gridStep
            rw [List.take_add_one, hh, List.flatMap_append]
            simp
          have hle : (gridStep ((gridL (rows.take i)).take (j + 1)) r).length ≤ 10000 := by
            refine Nat.le_trans ?_ hlt
            conv => rhs; rw [← List.take_append_drop (j + 1) (gridL (rows.take i))]
            unfold gridStep
            rw [List.flatMap_append, List.length_append]
            omega
          have l1 := dL2.length
          have l2 := dD.length
          rw [hnew, List.length_append] at hle
          simp only [List.length_map] at l1 l2 hle
          have eL3 := e3 _ _ eL2
          refine ⟨Lg, D, lgv, acc, rfl, rfl, eL3, eD, sz1000 (by omega), ?_⟩
          have st : ST K H3 (upd H3 Lg (.lst (lgv ++ acc))) := st_upd eL3 True.intro
          refine ⟨lgv ++ acc, _, _, rfl, (e2.trans e3).mut nLg, ?_, Da.stAll (e3.st.trans st) _ _ (imm_mos _) dG2, upd_same, ?_⟩
          · rw [upd_ne neG]
            exact e3 _ _ eG2
          · rw [hnew, List.map_append]
            exact DaAll.append (Da.stAll st _ _ (imm_mos _) dD) (Da.stAll (e3.st.trans st) _ _ (imm_mos _) dL2)
      · obtain ⟨lgv, z4, z5, rfl, e2, eG2, dG2, eL2, dL2⟩ := pw
        refine ⟨.ref Lg, rfl, Lg, lgv, _, _, _, _, rfl, e2, nLg, eL2, ?_⟩
        have l1 := dG2.length
        simp only [List.length_map] at l1
        rw [List.take_of_length_le (by omega)] at dL2
        rw [hstep]
        exact dL2
    · obtain ⟨G, gv, _, _, _, _, rfl, e, nG, eG, dG⟩ := pv'
      rw [hlen, List.take_of_length_le (Nat.le_refl _)] at dG
      exact ⟨.ref G, rfl, q H' G gv e nG eG dG⟩
end
end K1

namespace K1
open PySem PySem.Spec PyProof.Rows L2
/-! ### corners -/
def choices (c : Int) : List (Int × Int) := if c > 0 then [(c - 1, -1), (c, 1)] else [(c, 1)]
def cstep (found : List (List Int × Int)) (c : Int) : List (List Int × Int) := found.flatMap fun p => (choices c).map fun q => (p.1 ++ [q.1], p.2 * q.2)
def cornersL (m : List Int) : List (List Int × Int) := m.foldl cstep [([], 1)]
def pr (p : List Int × Int) : PyData := .tuple [mo p.1, .int p.2]
def pi2 (p : Int × Int) : PyData := .tuple [.int p.1, .int p.2]
theorem cornersL_snoc (m : List Int) (c : Int) : cornersL (m ++ [c]) = cstep (cornersL m) c := by simp [cornersL]
theorem cornersL_take {m : List Int} {i : Nat} {c : Int} (h : m[i]? = some c) : cornersL (m.take (i + 1)) = cstep (cornersL (m.take i)) c := by
  rw [List.take_add_one, h]
  exact cornersL_snoc _ _
theorem choices_one {c : Int} : ∀ q ∈ choices c, q.2 = 1 ∨ q.2 = -1 := by
  intro q hq
  unfold choices at hq
  split at hq <;> simp at hq
  · rcases hq with rfl | rfl <;> simp
  · simp [hq]
theorem choices_len (c : Int) : (choices c).length = if c > 0 then 2 else 1 := by
  unfold choices
  split <;> rfl
theorem cstep_len (f : List (List Int × Int)) (c : Int) : (cstep f c).length = f.length * (choices c).length := by
  unfold cstep
  induction f with
  | nil => simp
  | cons p f ih => simp [ih, Nat.succ_mul, Nat.add_comm]
theorem cornersL_small : ∀ (n : Nat) (m : List Int), m.length = n → (cornersL m).length ≤ 2 ^ n := by
  intro n
  induction n with
  | zero =>
    intro m h
    have : m = [] := List.length_eq_zero_iff.mp h
    subst this
    simp [cornersL]
  | succ n ih =>
    intro m h
    have hne : m ≠ [] := by
      intro e
      subst e
      simp at h
    rw [← List.dropLast_concat_getLast hne, cornersL_snoc, cstep_len]
    have h1 := ih m.dropLast (by simp [h])
    have h2 : (choices (m.getLast hne)).length ≤ 2 := by
      rw [choices_len]
      split <;> omega
    calc _ ≤ 2 ^ n * 2 := Nat.mul_le_mul h1 h2
      _ = 2 ^ (n + 1) := by rw [Nat.pow_succ]
theorem cornersL_lens : ∀ (n : Nat) (m : List Int), m.length = n → ∀ p ∈ cornersL m, p.1.length = n ∧ (p.2 = 1 ∨ p.2 = -1) := by
  intro n
  induction n with
  | zero =>
    intro m h p hp
    have : m = [] := List.length_eq_zero_iff.mp h
    subst this
    simp [cornersL] at hp
    subst hp
    simp
  | succ n ih =>
    intro m h p hp
    have hne : m ≠ [] := by
      intro e
      subst e
      simp at h
    rw [← List.dropLast_concat_getLast hne, cornersL_snoc] at hp
    unfold cstep at hp
    obtain ⟨p', hp', hq0⟩ := List.mem_flatMap.mp hp
    obtain ⟨q, hq, rfl⟩ := List.mem_map.mp hq0
    obtain ⟨h1, h2⟩ := ih m.dropLast (by simp [h]) p' hp'
    refine ⟨by simp [h1], ?_⟩
    rcases h2 with h2 | h2 <;> rcases choices_one q hq with h3 | h3 <;> simp [h2, h3]
theorem imm_pr (p : List Int × Int) : imm (pr p) = true := by
  show (imm (mo p.1) && true) = true
  rw [imm_mo]
  rfl
theorem imm_prs (l : List (List Int × Int)) : immAll (l.map pr) = true := immAll_of fun d hd => by
  obtain ⟨p, _, rfl⟩ := List.mem_map.mp hd
  exact imm_pr p
theorem map_at {α β : Type} {f : α → β} {l : List α} {i : Nat} {d : β} (h : (l.map f)[i]? = some d) : ∃ m, l[i]? = some m ∧ d = f m := by
  rw [List.getElem?_map] at h
  cases e : l[i]? with
  | none => rw [e] at h; cases h
  | some n => rw [e] at h; exact ⟨n, rfl, (Option.some.inj h).symm⟩
theorem pr_inv {K : PySem.W.Frag} {H : Hp} {v : V} {p : List Int × Int} (h : Da K H v (pr p)) : ∃ a x, v = .ref a ∧ SqT K H a [x, .int p.2] ∧ Mo K H x p.1 := by
  cases h with
  | tup hs ha =>
    cases ha with
    | cons h1 h2 =>
      cases h2 with
      | cons h2 h3 =>
        cases h3
        cases h2
        exact ⟨_, _, rfl, SqT.of hs, h1⟩
theorem pi2_inv {K : PySem.W.Frag} {H : Hp} {v : V} {p : Int × Int} (h : Da K H v (pi2 p)) : ∃ a, v = .ref a ∧ SqT K H a [.int p.1, .int p.2] := by
  cases h with
  | tup hs ha =>
    cases ha with
    | cons h1 h2 =>
      cases h2 with
      | cons h2 h3 =>
        cases h3
        cases h2
        cases h1
        exact ⟨_, rfl, SqT.of hs⟩
theorem dp_pr {K : PySem.W.Frag} {H : Hp} {a : Addr} {x : V} {p : List Int × Int} (hs : H a = some (.tup [x, .int p.2])) (hx : Mo K H x p.1) : Da K H (.ref a) (pr p) := .tup hs (.cons hx (.cons (.int _) .nil))
section
variable {P : Program} {w : World} {K : PySem.W.Frag} {mg : Str → Option Value} {base : Heap}
def spCorners (K : PySem.W.Frag) : Sp := fun vs H Q _ => ∃ (a : Addr) (m : List Int), vs = [.ref a] ∧ SqT K H a (m.map V.int) ∧ m.length ≤ 6 ∧
  ∀ H' p gv, Same H H' → H p = none → H' p = some (.lst gv) → DaAll K H' gv ((cornersL m).map pr) → Q (.ref p) H'
theorem d_corners (B : Bt mg) (T : Top K mg "corners" scorners ["moment"]) : Def P w K mg base "corners" 1 ["moment"] (spCorners K) := by
  refine mk_def T sccorners (by rintro _ _ _ _ ⟨p, _, rfl, _⟩; rfl) fun f cdv A outer s H vs Q E hr h => ?_
  obtain ⟨a, m, rfl, ha, hm, q⟩ := h
  refine ⟨_, (pss_cons (ps_set (i := 1) sccorners.nd rfl (Or.inl rfl) (pe_lst (pa_cons (pe_tup (pa_cons (pe_tup pa_nil) (pa_cons pe_int pa_nil))) pa_nil)))
      (pss_cons (ps_for PassesOwn.never rfl (pi_tup (pv 0)) (pg_name (i := 2) sccorners.nd rfl (Or.inl rfl)) (pss_cons (ps_set (i := 3) sccorners.nd rfl (Or.inr rfl) (pe_lst (pa_cons (pe_tup (pa_cons (pv 2) (pa_cons pe_int pa_nil))) pa_nil)))
      (Evl.pss_cut (ps_if (pt_cmpR op_gt (pv 2) pe_int (nomark _)) (pss_one (ps_set (i := 3) sccorners.nd rfl (Or.inr rfl) (pe_lst (pa_cons (pe_tup (pa_cons (pe_op op_sub (pv 2) pe_int) (pa_cons (pe_un un_neg pe_int) pa_nil))) (pa_cons (pe_tup (pa_cons (pv 2) (pa_cons pe_int pa_nil))) pa_nil))))) pss_nil)
      (pss_one (ps_setLc2 (i := 1) (own := [("start", 4), ("sign", 5), ("last", 6), ("turn", 7)]) (g := (gTup K 2 (gCons (gName 4) (gCons (gName 5) gNil)))) (tt := tYes) (wi1 := (iList K (tVar 3))) (g1 := (gTup K 2 (gCons (gName 6) (gCons (gName 7) gNil)))) (tt1 := tYes) (te := (tTup (tCons (tOp (rCatA K) (tVar 4) (tTup (tCons (tVar 6) tNil))) (tCons (tOp yMul (tVar 5) (tVar 7)) tNil)))) rfl sccorners.nd rfl rfl (sw_true rfl rfl rfl (by decide +kernel)) (pi_list (pv 1)) (blkOk_by (own := [("start", 4), ("sign", 5), ("last", 6), ("turn", 7)]) (N := Ncorners) (sc := defScope scorners) (by decide +kernel)) (vs1 := [6, 7]) (by decide) (fun _ _ _ _ _ => (pg_tup rfl (pgs_cons (pg_name (i := 4) sccorners.nd rfl (Or.inl rfl)) (pgs_cons (pg_name (i := 5) sccorners.nd rfl (Or.inl rfl)) pgs_nil)))) (fun _ _ _ _ _ => pts_nil) (fun _ _ _ _ _ => (pi_list (pv 3))) (fun _ _ _ _ _ => (pg_tup rfl (pgs_cons (pg_name (i := 6) sccorners.nd rfl (Or.inl rfl)) (pgs_cons (pg_name (i := 7) sccorners.nd rfl (Or.inl rfl)) pgs_nil)))) (fun _ _ _ _ _ => pts_nil) (fun _ _ _ _ _ => (pe_tup (pa_cons (pe_op op_catA (pv 4) (pe_tup (pa_cons (pv 6) pa_nil))) (pa_cons (pe_op op_mul (pv 5) (pv 7)) pa_nil)))))))))
      (pss_one (ps_ret (pv 1))))), ?_⟩
  refine ⟨Nat.zero_le _, fun t0 ht0 => ⟨by show 2 ≤ sizeLine; decide, fun t1 ht1 => ⟨by show 1 ≤ sizeLine; decide, fun g0 hg0 => ?_⟩⟩⟩
  have s0 : Same H (upd (upd (upd H t0 (.tup [])) t1 (.tup [.ref t0, .int 1])) g0 (.lst [.ref t1])) := ((same_upd ht0).trans (same_upd ht1)).trans (same_upd hg0)
  have ng0 : H g0 = none := ((same_upd ht0).trans (same_upd ht1)).new hg0
  have e0 : Da K (upd (upd (upd H t0 (.tup [])) t1 (.tup [.ref t0, .int 1])) g0 (.lst [.ref t1])) (.ref t1) (pr ([], 1)) :=
    dp_pr (same_upd hg0 _ _ upd_same) (Mo.of ((same_upd hg0 _ _ (same_upd ht1 _ _ upd_same))))
  refine ⟨.ref a, rfl, a, rfl, ⟨_, s0.seqT ha⟩, ?_⟩
  refine for_tup (xs := m.map V.int) (fun i σ H' => ∃ (G : Addr) (gv : List V) (y2 y3 y4 y5 y6 y7 : Option V), σ = [some (.ref a), some (.ref G), y2, y3, y4, y5, y6, y7] ∧ Same H H' ∧ H G = none ∧ H' G = some (.lst gv) ∧ DaAll K H' gv ((cornersL (m.take i)).map pr))
    ⟨g0, [.ref t1], none, none, none, none, none, none, rfl, s0, ng0, upd_same, .cons e0 .nil⟩ (fun i σ H' _ pv' => ?_) (fun i x σ H' hx pv' => ?_) (fun σ H' pv' => ?_)
  · obtain ⟨G, gv, _, _, _, _, _, _, rfl, e, _⟩ := pv'
    exact e.seqT ha
  · obtain ⟨G, gv, y2, y3, y4, y5, y6, y7, rfl, e, nG, eG, dG⟩ := pv'
    obtain ⟨c, hc, rfl⟩ := int_at hx
    have hi : i < m.length := (List.getElem?_eq_some_iff.mp hc).1
    -- choices = [(coordinate, 1)]
    refine ⟨.int c, rfl, by show 2 ≤ sizeLine; decide, fun t2 ht2 => ⟨by show 1 ≤ sizeLine; decide, fun c0 hc0 => ?_⟩⟩
    have e1 : Same H' (upd (upd H' t2 (.tup [.int c, .int 1])) c0 (.lst [.ref t2])) := (same_upd ht2).trans (same_upd hc0)
    have d1 : Da K (upd (upd H' t2 (.tup [.int c, .int 1])) c0 (.lst [.ref t2])) (.ref t2) (pi2 (c, 1)) := .tup ((same_upd hc0 _ _ upd_same)) (.cons (.int _) (.cons (.int _) .nil))
    refine ⟨fun σ' H3 => ∃ (C : Addr) (cv : List V), σ' = [some (.ref a), some (.ref G), some (.int c), some (.ref C), y4, y5, y6, y7] ∧ Same H' H3 ∧ H3 C = some (.lst cv) ∧ DaAll K H3 cv ((choices c).map pi2), ?_, ?_⟩
    · refine ⟨.int c, rfl, _, _, rfl, rfl, _, rfl, ite2 (fun z => ?_) (fun z => ?_)⟩
      · refine ⟨.int c, rfl, _, _, rfl, rfl, _, rfl, by show 2 ≤ sizeLine; decide, fun t3 ht3 => ?_⟩
        refine ⟨.int c, rfl, by show 2 ≤ sizeLine; decide, fun t4 ht4 => ⟨by show 2 ≤ sizeLine; decide, fun c1 hc1 => ?_⟩⟩
        have hz : c > 0 := of_decide_eq_true z
        refine ⟨c1, _, rfl, ((e1.trans (same_upd ht3)).trans (same_upd ht4)).trans (same_upd hc1), upd_same, ?_⟩
        rw [show choices c = [(c - 1, -1), (c, 1)] by simp [choices, hz]]
        exact .cons (.tup ((same_upd hc1 _ _ (same_upd ht4 _ _ upd_same))) (.cons (.int _) (.cons (.int _) .nil))) (.cons (.tup ((same_upd hc1 _ _ upd_same)) (.cons (.int _) (.cons (.int _) .nil))) .nil)
      · have hz : ¬ c > 0 := fun z' => z (decide_eq_true z')
        refine ⟨c0, _, rfl, e1, upd_same, ?_⟩
        rw [show choices c = [(c, 1)] by simp [choices, hz]]
        exact .cons d1 .nil
    · rintro σ' H3 ⟨C, cv, rfl, e3, eC, dC⟩
      have eG3 := e3 _ _ eG
      have dG3 := Da.sameAll e3 _ _ dG
      refine ⟨.ref G, rfl, G, rfl, ⟨_, SqL.of eG3⟩, fun D hD => ?_⟩
      have lg := dG3.length
      have lc := dC.length
      have l16 := cornersL_small i (m.take i) (by simp; omega)
      have l2 : (choices c).length ≤ 2 := by
        rw [choices_len]
        split <;> omega
      have l64 : (2 : Nat) ^ i ≤ 2 ^ 6 := Nat.pow_le_pow_right (by decide) (by omega)
      simp only [List.length_map] at lg lc
      have hsz : gv.length * cv.length ≤ 100000 := by
        have : gv.length * cv.length ≤ 64 * 2 := Nat.mul_le_mul (by omega) (by omega)
        omega
      refine lc2_dat (K := K) (wi1 := iList K (tVar 3)) (g := gTup K 2 (gCons (gName 4) (gCons (gName 5) gNil))) (g1 := gTup K 2 (gCons (gName 6) (gCons (gName 7) gNil))) (te := tTup (tCons (tOp (rCatA K) (tVar 4) (tTup (tCons (tVar 6) tNil))) (tCons (tOp yMul (tVar 5) (tVar 7)) tNil))) (vs := [4, 5, 6, 7]) (vs1 := [6, 7]) (walk_list (K := K)) (walk_list (K := K)) hD hsz (fun H4 e4 => SqL.of (e4 _ _ eG3)) (fun H4 e4 => SqL.of (e4 _ _ eC)) (fun k => match (cornersL (m.take i))[k]? with
        | some p => ((choices c).map fun q => (p.1 ++ [q.1], p.2 * q.2)).map pr
        | none => []) (fun k hk => ?_) (fun k hk => ?_) (fun k x4 H4 H4' Q' hk e4 y4' kk => ?_) (fun H4 acc e4 eD dD => ?_)
      · obtain ⟨d, h1, _⟩ := dG3.get (List.getElem?_eq_getElem hk)
        obtain ⟨p, hp, rfl⟩ := map_at h1
        rw [hp]
        simp [lc]
      · obtain ⟨d, h1, _⟩ := dG3.get (List.getElem?_eq_getElem hk)
        obtain ⟨p, hp, rfl⟩ := map_at h1
        rw [hp]
        exact imm_prs _
      · obtain ⟨rfl, hx4⟩ := y4'
        obtain ⟨d, h1, h2⟩ := dG3.get hx4
        obtain ⟨p, hp, rfl⟩ := map_at h1
        obtain ⟨a4, x5, rfl, h3, h4⟩ := pr_inv (Da.same e4 _ _ h2)
        refine ⟨a4, _, rfl, h3, rfl, _, _, rfl, _, _, rfl, rfl, ?_⟩
        refine kk _ _ (Same.refl _) rfl ⟨fun H5 R e5 r => ⟨.ref C, rfl, C, rfl, ⟨_, SqL.of (e5 _ _ (e4 _ _ eC))⟩, r⟩, fun j y5 H5 H5' Q5 hj e5 st5 y5' k5 => ?_⟩
        obtain ⟨rfl, hx5⟩ := y5'
        obtain ⟨d', h5, h6⟩ := dC.get hx5
        obtain ⟨q', hq, rfl⟩ := map_at h5
        obtain ⟨a5, rfl, h7⟩ := pi2_inv (Da.same e5 _ _ h6)
        refine ⟨a5, _, rfl, h7, rfl, _, _, rfl, _, _, rfl, rfl, rfl, ?_⟩
        -- (start + (last,), sign * turn)
        refine ⟨x5, rfl, .int q'.1, rfl, by show 1 ≤ sizeLine; decide, fun t ht => ?_⟩
        have hlen := (cornersL_lens i (m.take i) (by simp; omega) p (List.mem_of_getElem? hp)).1
        refine cat1 (h4.st st5) (by omega) (fun y H6 e6 d6 => ?_) t ht
        refine ⟨.int p.2, rfl, .int q'.2, rfl, _, _, rfl, rfl, ?_, by show 2 ≤ sizeLine; decide, fun t6 ht6 => ?_⟩
        · refine .inr ?_
          rcases choices_one q' (List.mem_of_getElem? hq) with z | z <;> rw [z] <;> exact ⟨by decide, by decide⟩
        · refine k5 _ _ _ (e6.trans (same_upd ht6)) ?_ (dp_pr (p := (p.1 ++ [q'.1], p.2 * q'.2)) (upd_same) (d6.same (same_upd ht6)))
          rw [hp]
          simp [hq]
      · refine ⟨D, acc, _, _, _, _, _, _, rfl, (e.trans e3).trans e4, (e.trans e3).new hD, eD, ?_⟩
        have hfin : ((List.range gv.length).map fun k => match (cornersL (m.take i))[k]? with
          | some p => ((choices c).map fun q => (p.1 ++ [q.1], p.2 * q.2)).map pr
          | none => []).flatten = (cornersL (m.take (i + 1))).map pr := by
          rw [cornersL_take hc, lg]
          unfold cstep
          generalize cornersL (m.take i) = l
          rw [List.map_flatMap, ← List.flatMap_def]
          have : ∀ l : List (List Int × Int), ((List.range l.length).flatMap fun k => match l[k]? with
            | some p => ((choices c).map fun q => (p.1 ++ [q.1], p.2 * q.2)).map pr
            | none => []) = l.flatMap fun p => ((choices c).map fun q => (p.1 ++ [q.1], p.2 * q.2)).map pr := by
            intro l
            induction l with
            | nil => rfl
            | cons p l ih =>
              rw [List.length_cons, List.range_succ_eq_map, List.flatMap_cons, List.flatMap_map, List.flatMap_cons, ← ih]
              rfl
          exact this l
        rw [hfin] at dD
        exact dD
  · obtain ⟨G, gv, _, _, _, _, _, _, rfl, e, nG, eG, dG⟩ := pv'
    rw [List.length_map, List.take_of_length_le (Nat.le_refl _)] at dG
    exact ⟨.ref G, rfl, q H' G gv e nG eG dG⟩
end
end K1

namespace K1
open PySem PySem.Spec PyProof.Rows L2
theorem seqT_ty {K : PySem.W.Frag} {H : Hp} {a : Addr} {xs : List V} (h : SqT K H a xs) : TyX K H (.ref a) (.type "tuple") := by
  rcases h with (h | ⟨o, h⟩) | ⟨o, its, n, h, c, _⟩
  · exact .base (.tup h)
  · exact .fTuple h
  · exact .kTuple h c
/-! ### what a corner is -/
def lowN (m x : List Int) : Int := (List.zipWith (fun a b => if b ≠ a then (1 : Int) else 0) m x).sum
structure CornerOf (m : List Int) (p : List Int × Int) : Prop where
  len : p.1.length = m.length
  at_ : ∀ (k : Nat) (c x : Int), m[k]? = some c → p.1[k]? = some x → 0 ≤ x ∧ (x = c ∨ x = c - 1)
  sgn : p.2 = 1 - 2 * (lowN m p.1 % 2)
theorem lowN_snoc {m x : List Int} (h : x.length = m.length) (c y : Int) : lowN (m ++ [c]) (x ++ [y]) = lowN m x + (if y ≠ c then 1 else 0) := by
  unfold lowN
  rw [List.zipWith_append h.symm, List.sum_append]
  simp
theorem corner_of : ∀ (n : Nat) (m : List Int), m.length = n → (∀ c ∈ m, 0 ≤ c) → ∀ p ∈ cornersL m, CornerOf m p := by
  intro n
  induction n with
  | zero =>
    intro m h _ p hp
    have : m = [] := List.length_eq_zero_iff.mp h
    subst this
    simp [cornersL] at hp
    subst hp
    exact ⟨rfl, fun k c x hk => by simp at hk, rfl⟩
  | succ n ih =>
    intro m h h0 p hp
    have hne : m ≠ [] := by
      intro e
      subst e
      simp at h
    obtain ⟨m', c, rfl⟩ : ∃ m' c, m = m' ++ [c] := ⟨_, _, (List.dropLast_concat_getLast hne).symm⟩
    rw [cornersL_snoc] at hp
    unfold cstep at hp
    obtain ⟨p', hp', hq0⟩ := List.mem_flatMap.mp hp
    obtain ⟨q, hq, rfl⟩ := List.mem_map.mp hq0
    have h1 := ih m' (by simpa using h) (fun c' hc' => h0 c' (by simp [hc'])) p' hp'
    have hc0 : 0 ≤ c := h0 c (by simp)
    have hq2 : 0 ≤ q.1 ∧ (q.1 = c ∨ q.1 = c - 1) ∧ q.2 = if q.1 ≠ c then -1 else 1 := by
      unfold choices at hq
      split at hq
      · simp at hq
        rcases hq with rfl | rfl
        · refine ⟨by show 0 ≤ c - 1; omega, .inr rfl, ?_⟩
          rw [if_pos (show c - 1 ≠ c by omega)]
        · exact ⟨hc0, .inl rfl, by simp⟩
      · simp at hq
        subst hq
        exact ⟨hc0, .inl rfl, by simp⟩
    refine ⟨by simp [h1.len], fun k c' x hk hx => ?_, ?_⟩
    · by_cases hkl : k < m'.length
      · rw [List.getElem?_append_left hkl] at hk
        rw [List.getElem?_append_left (by rw [h1.len]; exact hkl)] at hx
        exact h1.at_ k c' x hk hx
      · rw [List.getElem?_append_right (by omega)] at hk
        rw [List.getElem?_append_right (by rw [h1.len]; omega), h1.len] at hx
        have hz : k - m'.length = 0 := by
          have := (List.getElem?_eq_some_iff.mp hk).1
          simp at this
          omega
        rw [hz] at hk hx
        simp at hk hx
        subst hk hx
        exact ⟨hq2.1, hq2.2.1⟩
    · show p'.2 * q.2 = 1 - 2 * (lowN (m' ++ [c]) (p'.1 ++ [q.1]) % 2)
      rw [lowN_snoc h1.len, hq2.2.2, h1.sgn]
      split
      · omega
      · omega
theorem lowN_take {m x : List Int} {k : Nat} {c y : Int} (hl : x.length = m.length) (h1 : m[k]? = some c) (h2 : x[k]? = some y) : lowN (m.take (k + 1)) (x.take (k + 1)) = lowN (m.take k) (x.take k) + (if y ≠ c then 1 else 0) := by
  rw [List.take_add_one, List.take_add_one, h1, h2]
  exact lowN_snoc (by simp [hl]) c y
section
variable {P : Program} {w : World} {K : PySem.W.Frag} {mg : Str → Option Value} {base : Heap}
def spIsCorner (K : PySem.W.Frag) : Sp := fun vs H Q _ => ∃ (v : V) (b : Addr) (m : List Int) (p : List Int × Int), vs = [v, .ref b] ∧ Da K H v (pr p) ∧ SqT K H b (m.map V.int) ∧ m.length ≤ 6 ∧ CornerOf m p ∧ ∀ H', Same H H' → Q (.bl true) H'
theorem d_law_is_corner (B : Bt mg) (T : Top K mg "_law_is_corner" s_law_is_corner ["pair", "spot"]) (D_law_is_integer : Def P w K mg base "_law_is_integer" 1 ["told"] spIsInt) : Def P w K mg base "_law_is_corner" 2 ["pair", "spot"] (spIsCorner K) := by
  refine mk_def T sc_law_is_corner (by rintro _ _ _ _ ⟨_, _, _, _, rfl, _⟩; rfl) fun f cdv A outer s H vs Q E hr h => ?_
  obtain ⟨v, b, m, p, rfl, hd, hb, hm, hc, q⟩ := h
  obtain ⟨a, x, rfl, ha, hx⟩ := pr_inv hd
  obtain ⟨c, rfl, hcx⟩ := hx.inv
  refine ⟨_, (pss_cons (ps_if (pw_or (pt_not (pt_val (pe_callB call_isi (by rfl) B.m_isinstance (by decide +kernel) (pa_cons (pv 0) (pa_cons (pe_bltn (v := .ty "tuple") (by rfl) B.m_tuple (by decide +kernel) rfl) pa_nil))))) (pw_or1 (pt_cmpR op_ne (pe_callB call_len_seq (by rfl) B.m_len PySem.boot_len (pa_cons (pv 0) pa_nil)) pe_int (nomark _)))).pt (pss_one (ps_ret pe_bl)) pss_nil)
      (pss_cons (ps_if (pw_or (pt_not (pt_val (pe_callB call_isi (by rfl) B.m_isinstance (by decide +kernel) (pa_cons (pe_ix ix_tup (pv 0) pe_int (fun _ _ => rfl)) (pa_cons (pe_bltn (v := .ty "tuple") (by rfl) B.m_tuple (by decide +kernel) rfl) pa_nil))))) (pw_or (pt_cmpR op_ne (pe_callB call_len_seq (by rfl) B.m_len PySem.boot_len (pa_cons (pe_ix ix_tup (pv 0) pe_int (fun _ _ => rfl)) pa_nil)) (pe_callB call_len_seq (by rfl) B.m_len PySem.boot_len (pa_cons (pv 1) pa_nil)) (nomark _)) (pw_or1 (pt_not (pt_val (pe_def D_law_is_integer (hr.mono (by decide)) (by rfl) (pa_cons (pe_ix ix_tup (pv 0) pe_int (fun _ _ => rfl)) pa_nil))))))).pt (pss_one (ps_ret pe_bl)) pss_nil)
      (pss_cons (ps_set (i := 2) sc_law_is_corner.nd rfl (Or.inl rfl) pe_int)
      (pss_cons (ps_for PassesOwn.never rfl (pi_range1 (by rfl) B.m_range (pa_cons (pe_callB call_len_seq (by rfl) B.m_len PySem.boot_len (pa_cons (pv 1) pa_nil)) pa_nil)) (pg_name (i := 3) sc_law_is_corner.nd rfl (Or.inl rfl)) (pss_cons (ps_if (pw_or (pt_not (pt_val (pe_def D_law_is_integer (hr.mono (by decide)) (by rfl) (pa_cons (pe_ix ix_tup (pe_ix ix_tup (pv 0) pe_int (fun _ _ => rfl)) (pv 3) (fun _ _ => rfl)) pa_nil)))) (pw_or1 (pt_cmpR op_lt (pe_ix ix_tup (pe_ix ix_tup (pv 0) pe_int (fun _ _ => rfl)) (pv 3) (fun _ _ => rfl)) pe_int (nomark _)))).pt (pss_one (ps_ret pe_bl)) pss_nil)
      (pss_cons (ps_if (pw_and (pt_cmpR op_ne (pe_ix ix_tup (pe_ix ix_tup (pv 0) pe_int (fun _ _ => rfl)) (pv 3) (fun _ _ => rfl)) (pe_ix ix_tup (pv 1) (pv 3) (fun _ _ => rfl)) (nomark _)) (pw_and1 (pt_cmpR op_ne (pe_ix ix_tup (pe_ix ix_tup (pv 0) pe_int (fun _ _ => rfl)) (pv 3) (fun _ _ => rfl)) (pe_op op_sub (pe_ix ix_tup (pv 1) (pv 3) (fun _ _ => rfl)) pe_int) (nomark _)))).pt (pss_one (ps_ret pe_bl)) pss_nil)
      (pss_one (ps_set (i := 2) sc_law_is_corner.nd rfl (Or.inl rfl) (pe_op op_add (pv 2) (pe_callTy call_int1 (by rfl) B.m_int (by decide +kernel) (pa_cons (pe_cmpR op_ne (pe_ix ix_tup (pe_ix ix_tup (pv 0) pe_int (fun _ _ => rfl)) (pv 3) (fun _ _ => rfl)) (pe_ix ix_tup (pv 1) (pv 3) (fun _ _ => rfl)) (nomark _)) pa_nil))))))))
      (pss_one (ps_ret (pe_cmpR op_eq (pe_ix ix_tup (pv 0) pe_int (fun _ _ => rfl)) (pe_op op_sub pe_int (pe_op op_mul pe_int (pe_op op_mod (pe_callTy call_int1 (by rfl) B.m_int (by decide +kernel) (pa_cons (pv 2) pa_nil)) pe_int))) (nomark _)))))))), ?_⟩
  -- isinstance(pair, tuple), len(pair)
  refine ⟨.ref a, rfl, _, _, .type "tuple", .type "tuple", true, rfl, .ty _, seqT_ty ha, kit_ty (by decide +kernel), _, rfl, iteF ⟨.ref a, rfl, a, _, rfl, .inr ha, rfl, _, rfl, iteNS rfl ?_⟩⟩
  -- pair[0]
  refine ⟨.ref a, rfl, a, _, 0, .ref c, rfl, rfl, ha, atI_nat (j := 0) rfl, _, _, .type "tuple", .type "tuple", true, rfl, .ty _, seqT_ty hcx, kit_ty (by decide +kernel), _, rfl, iteF ?_⟩
  refine ⟨.ref a, rfl, a, _, 0, .ref c, rfl, rfl, ha, atI_nat (j := 0) rfl, c, _, rfl, .inr hcx, .ref b, rfl, b, _, rfl, .inr hb, rfl, _, rfl, ?_⟩
  have e1 : (V.int (((p.1.map V.int).length : Nat) : Int) = V.int (((m.map V.int).length : Nat) : Int)) := by simp [hc.len]
  rw [decide_eq_true e1]
  refine iteF ⟨.ref a, rfl, a, _, 1, .int p.2, rfl, rfl, ha, atI_nat (j := 1) rfl, p.2, rfl, fun H1 s1 => ⟨_, rfl, iteF ?_⟩⟩
  -- lowered = 0; the loop
  refine ⟨.ref b, rfl, b, _, rfl, .inr (s1.seqT hb), _, rfl, by omega, by simp; omega, ?_⟩
  refine for_range (n := (((m.map V.int).length : Nat) : Int).toNat) (fun i σ H' => ∃ y3, σ = [some (.ref a), some (.ref b), some (.int (lowN (m.take i) (p.1.take i))), y3] ∧ Same H H') ⟨none, rfl, s1⟩ (fun i σ H' hi pv' => ?_) (fun σ H' pv' => ?_)
  · obtain ⟨y3, rfl, e⟩ := pv'
    have hi1 : i < m.length := by simpa using hi
    have hi2 : i < p.1.length := by rw [hc.len]; exact hi1
    obtain ⟨g1, g2⟩ := hc.at_ i _ _ (List.getElem?_eq_getElem hi1) (List.getElem?_eq_getElem hi2)
    have z0 : (0 : Int) + (i : Nat) = ((i : Nat) : Int) := by omega
    have c0 : ∀ {H2 : Hp} {Q' : VK}, Same H H2 → Q' (.int p.1[i]) H2 → (tOp (rIxT K) (tOp (rIxT K) (tVar 0) (tC (.int 0))) (tVar 3)) [some (.ref a), some (.ref b), some (.int (lowN (m.take i) (p.1.take i))), some (.int (0 + (i : Nat)))] H2 Q' := fun s2 q2 =>
      ⟨.ref a, rfl, a, _, 0, .ref c, rfl, rfl, s2.seqT ha, atI_nat (j := 0) rfl, .int (0 + (i : Nat)), rfl, c, _, _, _, rfl, rfl, s2.seqT hcx, at_of (j := i) z0 (by simp [hi2]), q2⟩
    have m0 : ∀ {H2 : Hp} {Q' : VK}, Same H H2 → Q' (.int m[i]) H2 → (tOp (rIxT K) (tVar 1) (tVar 3)) [some (.ref a), some (.ref b), some (.int (lowN (m.take i) (p.1.take i))), some (.int (0 + (i : Nat)))] H2 Q' := fun s2 q2 =>
      ⟨.ref b, rfl, .int (0 + (i : Nat)), rfl, b, _, _, _, rfl, rfl, s2.seqT hb, at_of (j := i) z0 (by simp [hi1]), q2⟩
    refine c0 e ⟨_, rfl, fun H2 s2 => ⟨_, rfl, iteF ?_⟩⟩
    have e2 := e.trans s2
    refine c0 e2 ⟨_, _, rfl, rfl, _, rfl, ?_⟩
    rw [decide_eq_false (show ¬ p.1[i] < 0 by omega)]
    refine iteF (c0 e2 (m0 e2 ⟨rfl, _, rfl, ?_⟩))
    have fin : tAsg (tOp yAdd (tVar 2) (tCB yInt (tCons (tOp rNe (tOp (rIxT K) (tOp (rIxT K) (tVar 0) (tC (.int 0))) (tVar 3)) (tOp (rIxT K) (tVar 1) (tVar 3))) tNil))) (gName 2) { nx := fun σ H' => ∃ y3, σ = [some (.ref a), some (.ref b), some (.int (lowN (m.take (i + 1)) (p.1.take (i + 1)))), y3] ∧ Same H H', rt := Q } [some (.ref a), some (.ref b), some (.int (lowN (m.take i) (p.1.take i))), some (.int (0 + (i : Nat)))] H2 := by
      refine ⟨_, rfl, c0 e2 (m0 e2 ⟨rfl, .inr ⟨_, rfl, _, _, rfl, rfl, some (.int (0 + (i : Nat))), ?_, e2⟩⟩)⟩
      rw [lowN_take hc.len (List.getElem?_eq_getElem hi1) (List.getElem?_eq_getElem hi2)]
      have hdec : (if (!decide (V.int p.1[i] = V.int m[i])) = true then (1 : Int) else 0) = if p.1[i] ≠ m[i] then 1 else 0 := by
        by_cases hh : p.1[i] = m[i]
        · simp [hh]
        · simp [hh]
      rw [← hdec]
      rfl
    refine ite2 (fun z1 => ?_) (fun z1 => iteF fin)
    have ne1 : p.1[i] ≠ m[i] := fun hh => by
      rw [hh, decide_eq_true rfl] at z1
      cases z1
    refine c0 e2 (m0 e2 ⟨_, _, rfl, rfl, rfl, _, rfl, ?_⟩)
    have e3 : p.1[i] = m[i] - 1 := by
      rcases g2 with g | g
      · exact absurd g ne1
      · exact g
    rw [e3, decide_eq_true rfl]
    exact iteF fin
  · obtain ⟨y3, rfl, e⟩ := pv'
    refine ⟨.ref a, rfl, a, _, 1, .int p.2, rfl, rfl, e.seqT ha, atI_nat (j := 1) rfl, _, rfl, .inl ⟨_, rfl, _, _, rfl, rfl, (by show (0 : Int) < 2; decide), _, _, rfl, rfl, .inl ⟨by decide, by decide⟩, _, _, rfl, rfl, rfl, ?_⟩⟩
    rw [show (((m.map V.int).length : Nat) : Int).toNat = m.length by simp, List.take_of_length_le (Nat.le_refl _), List.take_of_length_le (Nat.le_of_eq hc.len), hc.sgn, decide_eq_true rfl]
    exact q H' e
end
end K1

namespace K1
open PySem PySem.Spec PyProof.Rows L2
/-! ### the corners ascend -/
theorem lex_lt : ∀ {x y : List Int} (a b : List Int), x.length = y.length → HT.lexLt x y = true → HT.lexLt (x ++ a) (y ++ b) = true
  | [], [], a, b, _, h => by cases h
  | [], _ :: _, _, _, h, _ => by cases h
  | _ :: _, [], _, _, h, _ => by cases h
  | x :: xs, y :: ys, a, b, hl, h => by
    rw [HT.lexLt_cons] at h
    rw [List.cons_append, List.cons_append, HT.lexLt_cons]
    by_cases e : x = y
    · rw [if_pos e] at h ⊢
      exact lex_lt a b (by simpa using hl) h
    · rw [if_neg e] at h ⊢
      exact h
theorem lex_same : ∀ (x a b : List Int), HT.lexLt (x ++ a) (x ++ b) = HT.lexLt a b
  | [], _, _ => rfl
  | x :: xs, a, b => by
    rw [List.cons_append, List.cons_append, HT.lexLt_cons, if_pos rfl]
    exact lex_same xs a b
theorem corners_asc : ∀ (n : Nat) (m : List Int), m.length = n → (cornersL m).Pairwise fun p q => HT.lexLt p.1 q.1 = true := by
  intro n
  induction n with
  | zero =>
    intro m h
    have : m = [] := List.length_eq_zero_iff.mp h
    subst this
    simp [cornersL]
  | succ n ih =>
    intro m h
    have hne : m ≠ [] := by
      intro e
      subst e
      simp at h
    obtain ⟨m', c, rfl⟩ : ∃ m' c, m = m' ++ [c] := ⟨_, _, (List.dropLast_concat_getLast hne).symm⟩
    have hm' : m'.length = n := by simpa using h
    rw [cornersL_snoc]
    unfold cstep
    rw [List.pairwise_flatMap]
    refine ⟨fun p _ => ?_, ?_⟩
    · unfold choices
      split
      · simp only [List.map_cons, List.map_nil, List.pairwise_cons, List.mem_singleton, forall_eq, List.not_mem_nil, false_imp_iff, implies_true, List.Pairwise.nil, and_true]
        rw [lex_same, HT.lexLt_cons, if_neg (by omega)]
        exact decide_eq_true (by omega)
      · simp
    · refine List.Pairwise.imp_of_mem ?_ (ih m' hm')
      intro p q hp hq hlt x hx y hy
      obtain ⟨a, _, rfl⟩ := List.mem_map.mp hx
      obtain ⟨b, _, rfl⟩ := List.mem_map.mp hy
      exact lex_lt _ _ (by rw [(cornersL_lens n m' hm' p hp).1, (cornersL_lens n m' hm' q hq).1]) hlt
/-- keys of the tables -/
def kk (m : List Int) : List Key := m.map Sum.inl
theorem kk_kV (m : List Int) : (kk m).map kV = m.map V.int := by
  unfold kk
  rw [List.map_map]
  rfl
theorem kk_inj {a b : List Int} (h : kk a = kk b) : a = b := by
  have : (kk a).map kV = (kk b).map kV := by rw [h]
  rw [kk_kV, kk_kV] at this
  exact (List.map_inj_right (fun x y e => V.int.inj e)).mp this
section
variable {P : Program} {w : World} {K : PySem.W.Frag} {mg : Str → Option Value} {base : Heap}
def spAreCorners (K : PySem.W.Frag) : Sp := fun vs H Q _ => ∃ (g b : Addr) (gv : List V) (m : List Int), vs = [.ref g, .ref b] ∧ H g = some (.lst gv) ∧ DaAll K H gv ((cornersL m).map pr) ∧ SqT K H b (m.map V.int) ∧ m.length ≤ 6 ∧ (∀ c ∈ m, 0 ≤ c) ∧ ∀ H', Same H H' → Q (.bl true) H'
theorem d_law_are_corners (B : Bt mg) (T : Top K mg "_law_are_corners" s_law_are_corners ["told", "spot"]) (D_law_is_corner : Def P w K mg base "_law_is_corner" 2 ["pair", "spot"] (spIsCorner K)) : Def P w K mg base "_law_are_corners" 3 ["told", "spot"] (spAreCorners K) := by
  refine mk_def T sc_law_are_corners (by rintro _ _ _ _ ⟨_, _, _, _, rfl, _⟩; rfl) fun f cdv A outer s H vs Q E hr h => ?_
  obtain ⟨g, b, gv, m, rfl, hg, hd, hb, hm, h0, q⟩ := h
  have lg := hd.length
  simp only [List.length_map] at lg
  have l64 := cornersL_small m.length m rfl
  have l6 : (2 : Nat) ^ m.length ≤ 2 ^ 6 := Nat.pow_le_pow_right (by decide) hm
  refine ⟨_, (pss_cons (ps_set (i := 2) sc_law_are_corners.nd rfl (Or.inl rfl) pe_int)
      (pss_cons (ps_for PassesOwn.never rfl (pi_tup (pv 1)) (pg_name (i := 3) sc_law_are_corners.nd rfl (Or.inl rfl)) (pss_one (ps_if (pt_cmpR op_gt (pv 3) pe_int (nomark _)) (pss_one (ps_set (i := 2) sc_law_are_corners.nd rfl (Or.inl rfl) (pe_op op_mul (pv 2) pe_int))) pss_nil)))
      (pss_cons (ps_if (pw_or (pt_not (pt_val (pe_callB call_isi (by rfl) B.m_isinstance (by decide +kernel) (pa_cons (pv 0) (pa_cons (pe_bltn (v := .ty "list") (by rfl) B.m_list (by decide +kernel) rfl) pa_nil))))) (pw_or1 (pt_cmpR op_ne (pe_callB call_len_seq (by rfl) B.m_len PySem.boot_len (pa_cons (pv 0) pa_nil)) (pv 2) (nomark _)))).pt (pss_one (ps_ret pe_bl)) pss_nil)
      (pss_cons (ps_if (pt_not (pt_val (pe_callB (cr_all rfl) (by rfl) B.m_all (by decide +kernel) (pa_cons (pe_lc (own := [("pair", 4)]) (g := (gName 4)) (tt := tYes) (te := (tCall (spIsCorner K) [] E0 (tCons (tVar 4) (tCons (tVar 1) tNil)))) rfl sc_law_are_corners.nd (pi_list (pv 0)) (blkOk_by (own := [("pair", 4)]) (N := N_law_are_corners) (sc := defScope s_law_are_corners) (by decide +kernel)) (fun _ _ _ _ _ => (pg_name (i := 4) sc_law_are_corners.nd rfl (Or.inl rfl))) (fun _ _ _ _ _ => pts_nil) (fun _ _ _ _ _ => (pe_def D_law_is_corner (hr.mono (by decide)) (by rfl) (pa_cons (pv 4) (pa_cons (pv 1) pa_nil))))) pa_nil)))) (pss_one (ps_ret pe_bl)) pss_nil)
      (pss_one (ps_ret (pe_callB (cr_all rfl) (by rfl) B.m_all (by decide +kernel) (pa_cons (pe_lc (own := [("k", 5)]) (g := (gName 5)) (tt := tYes) (te := (tOp (rLtT K) (tOp (rIxT K) (tOp (rIxL K) (tVar 0) (tOp ySub (tVar 5) (tC (.int 1)))) (tC (.int 0))) (tOp (rIxT K) (tOp (rIxL K) (tVar 0) (tVar 5)) (tC (.int 0))))) rfl sc_law_are_corners.nd (pi_range2 (by rfl) B.m_range (pa_cons pe_int (pa_cons (pv 2) pa_nil))) (blkOk_by (own := [("k", 5)]) (N := N_law_are_corners) (sc := defScope s_law_are_corners) (by decide +kernel)) (fun _ _ _ _ _ => (pg_name (i := 5) sc_law_are_corners.nd rfl (Or.inl rfl))) (fun _ _ _ _ _ => pts_nil) (fun _ _ _ _ _ => (pe_cmpR (op_ltT (hu0 hr)) (pe_ix ix_tup (pe_ix ix_list (pv 0) (pe_op op_sub (pv 5) pe_int) (fun _ _ => rfl)) pe_int (fun _ _ => rfl)) (pe_ix ix_tup (pe_ix ix_list (pv 0) (pv 5) (fun _ _ => rfl)) pe_int (fun _ _ => rfl)) (nomark _)))) pa_nil)))))))), ?_⟩
  refine ⟨.ref b, rfl, b, rfl, ⟨_, hb⟩, ?_⟩
  refine for_tup (xs := m.map V.int) (fun i σ H' => ∃ y3 y4 y5, σ = [some (.ref g), some (.ref b), some (.int ((cornersL (m.take i)).length : Nat)), y3, y4, y5] ∧ H' = H) ⟨none, none, none, rfl, rfl⟩ (fun i σ H' _ pv' => ?_) (fun i x σ H' hx pv' => ?_) (fun σ H' pv' => ?_)
  · obtain ⟨_, _, _, rfl, rfl⟩ := pv'
    exact hb
  · obtain ⟨y3, y4, y5, rfl, rfl⟩ := pv'
    obtain ⟨c, hc, rfl⟩ := int_at hx
    have hs := cornersL_take hc
    refine ⟨.int c, rfl, _, _, rfl, rfl, _, rfl, ite2 (fun z => ?_) (fun z => ?_)⟩
    · refine ⟨_, rfl, _, _, rfl, rfl, .inr ⟨by decide, by decide⟩, some (.int c), y4, y5, ?_, rfl⟩
      have hz : c > 0 := of_decide_eq_true z
      rw [hs, cstep_len, choices_len, if_pos hz]
      show _ = _
      simp
    · have hz : ¬ c > 0 := fun z' => z (decide_eq_true z')
      refine ⟨some (.int c), y4, y5, ?_, rfl⟩
      rw [hs, cstep_len, choices_len, if_neg hz]
      simp
  · obtain ⟨y3, y4, y5, rfl, rfl⟩ := pv'
    rw [List.length_map, List.take_of_length_le (Nat.le_refl _)]
    refine ⟨.ref g, rfl, _, _, .type "list", .type "list", true, rfl, .ty _, .base (.lst hg), kit_ty (by decide +kernel), _, rfl, iteF ⟨.ref g, rfl, g, _, rfl, .inl (SqL.of hg), _, rfl, rfl, _, rfl, ?_⟩⟩
    rw [lg, decide_eq_true rfl]
    refine iteF ?_
    -- all([_law_is_corner(pair, spot) for pair in told])
    refine ⟨.ref g, rfl, g, rfl, ⟨_, SqL.of hg⟩, fun D hD => ?_⟩
    refine lc_val (walk_list (K := K)) hD (by omega) (fun H1 e => SqL.of (e _ _ hg)) (List.replicate gv.length (V.bl true)) (by simp) (fun i x H1 H2 Q' hi e y k => ?_) (fun H1 e eD => ?_)
    · obtain ⟨rfl, hx⟩ := y
      obtain ⟨d, h1, h2⟩ := hd.get hx
      obtain ⟨p, hp, rfl⟩ := map_at h1
      refine ⟨rfl, x, rfl, .ref b, rfl, x, b, m, p, rfl, Da.same e _ _ h2, e.seqT hb, hm, corner_of m.length m rfl h0 p (List.mem_of_getElem? hp), fun H4 e4 => k _ _ e4 ?_⟩
      simp [hi]
    · refine ⟨D, List.replicate gv.length true, rfl, SqL.of (by rw [eD, List.map_replicate]), _, rfl, ?_⟩
      rw [show (List.replicate gv.length true).all id = true by simp]
      refine iteF ?_
      -- all([told[k - 1][0] < told[k][0] for k in range(1, due)])
      have hg1 := e _ _ hg
      have hd1 := Da.sameAll e _ _ hd
      refine ⟨_, rfl, 1, _, rfl, ⟨by decide, by decide, by omega, by omega⟩, fun D2 hD2 => ?_⟩
      refine lc_val walk_range hD2 (by omega) (fun H2 e2 => True.intro) (List.replicate (((cornersL m).length : Nat) - 1 : Int).toNat (V.bl true)) (by simp) (fun i x H2 H3 Q' hi e2 y k => ?_) (fun H2 e2 eD2 => ?_)
      · obtain ⟨rfl, rfl⟩ := y
        have hi0 : i < (cornersL m).length := by omega
        have hi1 : i + 1 < (cornersL m).length := by omega
        have hlex := List.pairwise_iff_getElem.mp (corners_asc m.length m rfl) i (i + 1) hi0 hi1 (by omega)
        obtain ⟨v0, g0, t0⟩ := (Da.sameAll e2 _ _ hd1).at (i := i) (d := pr (cornersL m)[i]) (by simp [hi0])
        obtain ⟨v1, g1, t1⟩ := (Da.sameAll e2 _ _ hd1).at (i := i + 1) (d := pr (cornersL m)[i + 1]) (by simp [hi1])
        obtain ⟨a0, x0, rfl, s0, m0⟩ := pr_inv t0
        obtain ⟨a1, x1, rfl, s1, m1⟩ := pr_inv t1
        obtain ⟨b0, rfl, q0⟩ := m0.inv
        obtain ⟨b1, rfl, q1⟩ := m1.inv
        refine ⟨rfl, .ref g, rfl, .int (1 + (i : Nat)), rfl, _, _, rfl, rfl, g, _, _, _, rfl, rfl, SqL.of (e2 _ _ hg1), at_of (j := i) (by omega) g0, a0, _, 0, _, rfl, rfl, s0, atI_nat (j := 0) rfl, ?_⟩
        refine ⟨.ref g, rfl, .int (1 + (i : Nat)), rfl, g, _, _, _, rfl, rfl, SqL.of (e2 _ _ hg1), at_of (j := i + 1) (by omega) g1, a1, _, 0, _, rfl, rfl, s1, atI_nat (j := 0) rfl, ?_⟩
        refine ⟨b0, b1, _, _, rfl, rfl, q0, q1, ?_⟩
        rw [hlex]
        exact k _ _ (Same.refl _) (by rw [List.getElem?_replicate, if_pos (by omega)])
      · refine ⟨D2, List.replicate (((cornersL m).length : Nat) - 1 : Int).toNat true, rfl, SqL.of (by rw [eD2, List.map_replicate]), ?_⟩
        rw [show (List.replicate (((cornersL m).length : Nat) - 1 : Int).toNat true).all id = true by simp]
        exact q H2 (e.trans e2)
/-- a table of ints by moments -/
def Tab (H : Hp) (d : Addr) (P : List Int → Prop) (f : List Int → Int) : Prop := ∃ kvs : List (List Key × V), H d = some (.dT kvs) ∧ ∀ k, P k → valV kvs (kk k) = some (.int (f k))
theorem Tab.same {H H' : Hp} {d : Addr} {P : List Int → Prop} {f : List Int → Int} (h : Tab H d P f) (e : Same H H') : Tab H' d P f := by
  obtain ⟨kvs, h1, h2⟩ := h
  exact ⟨kvs, e _ _ h1, h2⟩
theorem Tab.get {H : Hp} {d b : Addr} {P : List Int → Prop} {f : List Int → Int} {k : List Int} (h : Tab H d P f) (hb : H b = some (.tup (k.map V.int))) (hk : P k) : DGet H d (.ref b) (some (.int (f k))) := by
  obtain ⟨kvs, h1, h2⟩ := h
  rw [← h2 k hk]
  exact DGet.t h1 (by rw [kk_kV]; exact hb)
def sumOver (ps : List (List Int × Int)) (f : List Int → Int) : Int := (ps.map fun p => p.2 * f p.1).sum
def spSumOver (K : PySem.W.Frag) : Sp := fun vs H Q _ => ∃ (g d : Addr) (gv : List V) (ps : List (List Int × Int)) (P : List Int → Prop) (f : List Int → Int), vs = [.ref g, .ref d] ∧ H g = some (.lst gv) ∧ DaAll K H gv (ps.map pr) ∧ ps.length ≤ 1000 ∧ (∀ p ∈ ps, p.2 = 1 ∨ p.2 = -1) ∧ (∀ p ∈ ps, P p.1) ∧ Tab H d P f ∧
  ∀ H', Same H H' → Q (.int (sumOver ps f)) H'
theorem d_law_sum_over (B : Bt mg) (T : Top K mg "_law_sum_over" s_law_sum_over ["told", "table"]) : Def P w K mg base "_law_sum_over" 1 ["told", "table"] (spSumOver K) := by
  refine mk_def T sc_law_sum_over (by rintro _ _ _ _ ⟨_, _, _, _, _, _, rfl, _⟩; rfl) fun f cdv A outer s H vs Q E hr h => ?_
  obtain ⟨g, d, gv, ps, Pk, ff, rfl, hg, hd, hl, h1, hP, ht, q⟩ := h
  have lg := hd.length
  simp only [List.length_map] at lg
  refine ⟨_, (pss_one (ps_ret (pe_callB (cr_sum rfl) (by rfl) B.m_sum (by decide +kernel) (pa_cons (pe_lc (own := [("pair", 2)]) (g := (gName 2)) (tt := tYes) (te := (tOp yMul (tOp (rIxT K) (tVar 2) (tC (.int 1))) (tDGet (tVar 1) (tOp (rIxT K) (tVar 2) (tC (.int 0)))))) rfl sc_law_sum_over.nd (pi_list (pv 0)) (blkOk_by (own := [("pair", 2)]) (N := N_law_sum_over) (sc := defScope s_law_sum_over) (by decide +kernel)) (fun _ _ _ _ _ => (pg_name (i := 2) sc_law_sum_over.nd rfl (Or.inl rfl))) (fun _ _ _ _ _ => pts_nil) (fun _ _ _ _ _ => (pe_op op_mul (pe_ix ix_tup (pv 2) pe_int (fun _ _ => rfl)) (pe_dget (hu_of hr) (pv 1) (pe_ix ix_tup (pv 2) pe_int (fun _ _ => rfl)) (fun _ _ => rfl))))) pa_nil)))), ?_⟩
  refine ⟨.ref g, rfl, g, rfl, ⟨_, SqL.of hg⟩, fun D hD => ?_⟩
  refine lc_val (walk_list (K := K)) hD (by omega) (fun H1 e => SqL.of (e _ _ hg)) ((ps.map fun p => p.2 * ff p.1).map V.int) (by simp [lg]) (fun i x H1 H2 Q' hi e y k => ?_) (fun H1 e eD => ?_)
  · obtain ⟨rfl, hx⟩ := y
    obtain ⟨dd, h3, h2⟩ := hd.get hx
    obtain ⟨p, hp, rfl⟩ := map_at h3
    have hmem := List.mem_of_getElem? hp
    obtain ⟨a0, x0, rfl, s0, m0⟩ := pr_inv (Da.same e _ _ h2)
    obtain ⟨b0, rfl, q0⟩ := m0.trk
    refine ⟨rfl, .ref a0, rfl, a0, _, 1, _, rfl, rfl, s0, atI_nat (j := 1) rfl, .ref d, rfl, .ref a0, rfl, a0, _, 0, _, rfl, rfl, s0, atI_nat (j := 0) rfl, d, _, rfl, (ht.same e).get q0 (hP p hmem), _, _, rfl, rfl, ?_, ?_⟩
    · refine .inl ?_
      rcases h1 p hmem with z | z <;> rw [z] <;> exact ⟨by decide, by decide⟩
    · exact k _ _ (Same.refl _) (by simp [hp])
  · exact ⟨D, _, rfl, SqL.of eD, q H1 e⟩
end
end K1

namespace K1
open PySem PySem.Spec PyProof.Rows L2
/-! ### sums over lists -/
def S {α : Type} (l : List α) (w : α → Int) : Int := (l.map w).sum
theorem S_nil {α : Type} (w : α → Int) : S [] w = 0 := rfl
theorem S_cons {α : Type} (a : α) (l : List α) (w : α → Int) : S (a :: l) w = w a + S l w := by simp [S]
theorem S_congr {α : Type} {l : List α} {w v : α → Int} (h : ∀ a ∈ l, w a = v a) : S l w = S l v := by
  unfold S
  rw [List.map_congr_left h]
theorem S_zero {α : Type} {l : List α} : S l (fun _ => 0) = 0 := by
  induction l with
  | nil => rfl
  | cons a l ih => rw [S_cons, ih]; rfl
theorem S_add {α : Type} (l : List α) (w v : α → Int) : S l (fun a => w a + v a) = S l w + S l v := by
  induction l with
  | nil => rfl
  | cons a l ih => rw [S_cons, S_cons, S_cons, ih]; omega
theorem S_sub {α : Type} (l : List α) (w v : α → Int) : S l (fun a => w a - v a) = S l w - S l v := by
  induction l with
  | nil => rfl
  | cons a l ih => rw [S_cons, S_cons, S_cons, ih]; omega
theorem S_mul {α : Type} (l : List α) (c : Int) (w : α → Int) : S l (fun a => c * w a) = c * S l w := by
  induction l with
  | nil => simp [S]
  | cons a l ih => rw [S_cons, S_cons, ih, Int.mul_add]
theorem S_append {α : Type} (l k : List α) (w : α → Int) : S (l ++ k) w = S l w + S k w := by
  induction l with
  | nil => simp [S]
  | cons a l ih => rw [List.cons_append, S_cons, S_cons, ih]; omega
theorem S_flat {α β : Type} (l : List α) (f : α → List β) (w : β → Int) : S (l.flatMap f) w = S l fun a => S (f a) w := by
  induction l with
  | nil => rfl
  | cons a l ih => rw [List.flatMap_cons, S_append, S_cons, ih]
theorem S_map {α β : Type} (l : List α) (f : α → β) (w : β → Int) : S (l.map f) w = S l fun a => w (f a) := by
  unfold S
  rw [List.map_map]
  rfl
theorem S_swap {α β : Type} (l : List α) (k : List β) (w : α → β → Int) : S l (fun a => S k (w a)) = S k fun b => S l fun a => w a b := by
  induction l with
  | nil => rw [S_nil]; exact (S_zero).symm
  | cons a l ih =>
    rw [S_cons, ih, ← S_add]
    exact S_congr fun b _ => (S_cons a l fun a => w a b).symm
theorem S_if {α : Type} (l : List α) (p : α → Bool) (w : α → Int) : S (l.filter p) w = S l fun a => if p a = true then w a else 0 := by
  induction l with
  | nil => rfl
  | cons a l ih =>
    rw [List.filter_cons, S_cons]
    split
    · rw [S_cons, ih]
    · rw [ih]; omega
/-! ### before, snoc -/
theorem leB_snoc {h m : List Int} (hl : h.length = m.length) (l c : Int) : leB (h ++ [l]) (m ++ [c]) = (leB h m && decide (l ≤ c)) := by
  unfold leB leL
  rw [List.zipWith_append hl, List.all_append]
  simp
/-! ### the box -/
def rng (b : Nat) : List Int := (List.range (b + 1)).map fun (i : Nat) => (i : Int)
def boxL (bs : List Nat) : List (List Int) := gridL (bs.map rng)
theorem boxL_snoc (bs : List Nat) (b : Nat) : boxL (bs ++ [b]) = (boxL bs).flatMap fun h => (rng b).map fun l => h ++ [l] := by
  unfold boxL
  rw [List.map_append]
  exact gridL_snoc _ _
theorem boxL_len {bs : List Nat} {m : List Int} (h : m ∈ boxL bs) : m.length = bs.length := gridL_len bs.length (bs.map rng) (by simp) m h
theorem rev_bs {Q : List Nat → Prop} (h0 : Q []) (h1 : ∀ bs b, Q bs → Q (bs ++ [b])) : ∀ bs, Q bs := by
  have : ∀ (n : Nat) (bs : List Nat), bs.length = n → Q bs := by
    intro n
    induction n with
    | zero =>
      intro bs h
      rw [List.length_eq_zero_iff.mp h]
      exact h0
    | succ n ih =>
      intro bs h
      have hne : bs ≠ [] := by
        intro e
        subst e
        simp at h
      rw [← List.dropLast_concat_getLast hne]
      exact h1 _ _ (ih _ (by simp [h]))
  exact fun bs => this _ bs rfl
theorem mem_snoc {bs : List Nat} {b : Nat} {m : List Int} : m ∈ boxL (bs ++ [b]) ↔ ∃ h c, h ∈ boxL bs ∧ c ∈ rng b ∧ m = h ++ [c] := by
  rw [boxL_snoc]
  constructor
  · intro h
    obtain ⟨x, hx, hy⟩ := List.mem_flatMap.mp h
    obtain ⟨c, hc, rfl⟩ := List.mem_map.mp hy
    exact ⟨x, c, hx, hc, rfl⟩
  · rintro ⟨h, c, hh, hc, rfl⟩
    exact List.mem_flatMap.mpr ⟨h, hh, List.mem_map.mpr ⟨c, hc, rfl⟩⟩
theorem mem_rng {b : Nat} {c : Int} : c ∈ rng b ↔ 0 ≤ c ∧ c ≤ b := by
  unfold rng
  constructor
  · intro h
    obtain ⟨i, hi, rfl⟩ := List.mem_map.mp h
    have := List.mem_range.mp hi
    omega
  · rintro ⟨h1, h2⟩
    exact List.mem_map.mpr ⟨c.toNat, List.mem_range.mpr (by omega), by show ((c.toNat : Nat) : Int) = c; omega⟩
theorem box_nonneg : ∀ bs, ∀ m ∈ boxL bs, ∀ c ∈ m, 0 ≤ c := by
  refine rev_bs ?_ fun bs b ih m hm c hc => ?_
  · intro m hm c hc
    simp [boxL, gridL] at hm
    subst hm
    simp at hc
  · obtain ⟨h, x, hh, hx, rfl⟩ := mem_snoc.mp hm
    rcases List.mem_append.mp hc with hc | hc
    · exact ih h hh c hc
    · rw [List.mem_singleton.mp hc]
      exact (mem_rng.mp hx).1
theorem rng_nodup (b : Nat) : (rng b).Nodup := by
  unfold rng
  exact List.Pairwise.map _ (fun a b (h : a ≠ b) (e : (a : Int) = (b : Int)) => h (by omega)) List.nodup_range
theorem box_nodup : ∀ bs, (boxL bs).Nodup := by
  refine rev_bs (by simp [boxL, gridL]) fun bs b ih => ?_
  rw [boxL_snoc]
  unfold List.Nodup
  rw [List.pairwise_flatMap]
  refine ⟨fun h _ => ?_, ?_⟩
  · exact List.Pairwise.map _ (fun x y hxy e => hxy (by simpa using e)) (rng_nodup b)
  · refine List.Pairwise.imp_of_mem ?_ ih
    intro p q hp hq hne x hx y hy e
    obtain ⟨a, _, rfl⟩ := List.mem_map.mp hx
    obtain ⟨c, _, rfl⟩ := List.mem_map.mp hy
    have := List.append_inj e (by rw [boxL_len hp, boxL_len hq])
    exact hne this.1
theorem meet_snoc {a b : List Int} (h : a.length = b.length) (x y : Int) : meetL (a ++ [x]) (b ++ [y]) = meetL a b ++ [if y < x then y else x] := by
  unfold meetL
  rw [List.zipWith_append h]
  rfl
theorem join_snoc {a b : List Int} (h : a.length = b.length) (x y : Int) : joinL (a ++ [x]) (b ++ [y]) = joinL a b ++ [if y > x then y else x] := by
  unfold joinL
  rw [List.zipWith_append h]
  rfl
theorem box_meet : ∀ bs, ∀ a ∈ boxL bs, ∀ b ∈ boxL bs, meetL a b ∈ boxL bs ∧ joinL a b ∈ boxL bs := by
  refine rev_bs ?_ fun bs n ih a ha b hb => ?_
  · intro a ha b hb
    simp [boxL, gridL] at ha hb
    subst ha hb
    simp [boxL, gridL, meetL, joinL]
  · obtain ⟨h1, x, hh1, hx, rfl⟩ := mem_snoc.mp ha
    obtain ⟨h2, y, hh2, hy, rfl⟩ := mem_snoc.mp hb
    have hl : h1.length = h2.length := by rw [boxL_len hh1, boxL_len hh2]
    rw [meet_snoc hl, join_snoc hl]
    obtain ⟨i1, i2⟩ := ih h1 hh1 h2 hh2
    refine ⟨mem_snoc.mpr ⟨_, _, i1, ?_, rfl⟩, mem_snoc.mpr ⟨_, _, i2, ?_, rfl⟩⟩
    · split
      · exact hy
      · exact hx
    · split
      · exact hy
      · exact hx
theorem leB_iff : ∀ {a b : List Int}, a.length = b.length → (leB a b = true ↔ ∀ (i : Nat) (h1 : i < a.length) (h2 : i < b.length), a[i] ≤ b[i])
  | [], [], _ => by simp [leB, leL]
  | [], _ :: _, h => by cases h
  | _ :: _, [], h => by cases h
  | x :: a, y :: b, h => by
    have ih := leB_iff (a := a) (b := b) (by simpa using h)
    have e : leB (x :: a) (y :: b) = (decide (x ≤ y) && leB a b) := rfl
    rw [e, Bool.and_eq_true, ih]
    constructor
    · rintro ⟨h1, h2⟩ i hi1 hi2
      cases i with
      | zero => exact of_decide_eq_true h1
      | succ i => exact h2 i (by simpa using hi1) (by simpa using hi2)
    · intro hh
      exact ⟨decide_eq_true (hh 0 (by simp) (by simp)), fun i h1 h2 => hh (i + 1) (by simpa using h1) (by simpa using h2)⟩
theorem le_meet : ∀ {o a b : List Int}, o.length = a.length → a.length = b.length → leB o (meetL a b) = (leB o a && leB o b)
  | [], [], [], _, _ => rfl
  | x :: o, y :: a, z :: b, h1, h2 => by
    have ih := le_meet (o := o) (a := a) (b := b) (by simpa using h1) (by simpa using h2)
    have e1 : leB (x :: o) (meetL (y :: a) (z :: b)) = (decide (x ≤ if z < y then z else y) && leB o (meetL a b)) := rfl
    have e2 : leB (x :: o) (y :: a) = (decide (x ≤ y) && leB o a) := rfl
    have e3 : leB (x :: o) (z :: b) = (decide (x ≤ z) && leB o b) := rfl
    rw [e1, e2, e3, ih]
    have e4 : decide (x ≤ if z < y then z else y) = (decide (x ≤ y) && decide (x ≤ z)) := by
      rw [Bool.eq_iff_iff, Bool.and_eq_true, decide_eq_true_iff, decide_eq_true_iff, decide_eq_true_iff]
      split <;> omega
    rw [e4]
    cases decide (x ≤ y) <;> cases decide (x ≤ z) <;> cases leB o a <;> rfl
theorem le_join : ∀ {o a b : List Int}, o.length = a.length → a.length = b.length → (leB o a || leB o b) = true → leB o (joinL a b) = true
  | [], [], [], _, _, _ => rfl
  | x :: o, y :: a, z :: b, h1, h2, h => by
    have ih := le_join (o := o) (a := a) (b := b) (by simpa using h1) (by simpa using h2)
    have e1 : leB (x :: o) (joinL (y :: a) (z :: b)) = (decide (x ≤ if z > y then z else y) && leB o (joinL a b)) := rfl
    have e2 : leB (x :: o) (y :: a) = (decide (x ≤ y) && leB o a) := rfl
    have e3 : leB (x :: o) (z :: b) = (decide (x ≤ z) && leB o b) := rfl
    rw [e2, e3] at h
    rw [e1, Bool.and_eq_true]
    rw [Bool.or_eq_true, Bool.and_eq_true, Bool.and_eq_true, decide_eq_true_iff, decide_eq_true_iff] at h
    refine ⟨decide_eq_true ?_, ih ?_⟩
    · split <;> omega
    · rw [Bool.or_eq_true]
      rcases h with h | h
      · exact .inl h.2
      · exact .inr h.2
/-! ### telescoping -/
theorem choices_sum (c : Int) (hc : 0 ≤ c) (F : Int → Int) : S (choices c) (fun q => q.2 * F q.1) = F c - (if c > 0 then F (c - 1) else 0) := by
  unfold choices
  split
  · rw [S_cons, S_cons, S_nil]
    show -1 * F (c - 1) + (1 * F c + 0) = F c - F (c - 1)
    omega
  · rw [S_cons, S_nil]
    show 1 * F c + 0 = F c - 0
    omega
theorem rng_succ (b : Nat) : rng (b + 1) = rng b ++ [((b + 1 : Nat) : Int)] := by
  unfold rng
  rw [List.range_succ, List.map_append]
  rfl
theorem tele (F : Int → Int) (c : Int) : ∀ b : Nat, 0 ≤ c → c ≤ b → S (rng b) (fun l => if l ≤ c then F l - (if l > 0 then F (l - 1) else 0) else 0) = F c := by
  have part : ∀ b : Nat, (b : Int) ≤ c → S (rng b) (fun l => if l ≤ c then F l - (if l > 0 then F (l - 1) else 0) else 0) = F b := by
    intro b
    induction b with
    | zero =>
      intro h
      have : rng 0 = [0] := rfl
      rw [this, S_cons, S_nil, if_pos (by simpa using h)]
      simp
    | succ b ih =>
      intro h
      rw [rng_succ, S_append, ih (by omega), S_cons, S_nil, if_pos h, if_pos (by omega)]
      have : ((b + 1 : Nat) : Int) - 1 = b := by omega
      rw [this]
      omega
  intro b h0 hb
  have : ∀ d : Nat, S (rng (c.toNat + d)) (fun l => if l ≤ c then F l - (if l > 0 then F (l - 1) else 0) else 0) = F c := by
    intro d
    induction d with
    | zero =>
      rw [Nat.add_zero, part _ (by omega)]
      congr 1
      omega
    | succ d ih =>
      rw [← Nat.add_assoc, rng_succ, S_append, ih, S_cons, S_nil, if_neg (by omega)]
      omega
  have e := this (b - c.toNat)
  rw [show c.toNat + (b - c.toNat) = b by omega] at e
  exact e
/-! ### the sums of the law -/
theorem sumOver_S (ps : List (List Int × Int)) (f : List Int → Int) : sumOver ps f = S ps fun p => p.2 * f p.1 := rfl
theorem over_snoc (m : List Int) (c : Int) (hc : 0 ≤ c) (f : List Int → Int) : sumOver (cornersL (m ++ [c])) f = sumOver (cornersL m) fun x => f (x ++ [c]) - (if c > 0 then f (x ++ [c - 1]) else 0) := by
  rw [sumOver_S, cornersL_snoc]
  unfold cstep
  rw [S_flat, sumOver_S]
  refine S_congr fun p _ => ?_
  rw [S_map]
  have e := choices_sum c hc fun l => f (p.1 ++ [l])
  rw [← e, ← S_mul]
  refine S_congr fun q _ => ?_
  show p.2 * q.2 * f (p.1 ++ [q.1]) = p.2 * (q.2 * f (p.1 ++ [q.1]))
  rw [Int.mul_assoc]
/-- the sum over the signed corners of all earlier moments -/
theorem m1 : ∀ bs, ∀ (f : List Int → Int), ∀ m ∈ boxL bs, S (boxL bs) (fun o => if leB o m = true then sumOver (cornersL o) f else 0) = f m := by
  refine rev_bs ?_ fun bs b ih f m hm => ?_
  · intro f m hm
    simp [boxL, gridL] at hm
    subst hm
    show S [[]] _ = _
    rw [S_cons, S_nil]
    simp [leB, leL, cornersL, sumOver]
  · obtain ⟨h, c, hh, hc, rfl⟩ := mem_snoc.mp hm
    obtain ⟨c0, cb⟩ := mem_rng.mp hc
    rw [boxL_snoc, S_flat, ← ih (fun x => f (x ++ [c])) h hh]
    refine S_congr fun o ho => ?_
    rw [S_map]
    have hl : o.length = h.length := by rw [boxL_len ho, boxL_len hh]
    by_cases hle : leB o h = true
    · rw [if_pos hle]
      have e1 : S (rng b) (fun l => if leB (o ++ [l]) (h ++ [c]) = true then sumOver (cornersL (o ++ [l])) f else 0) =
          S (rng b) fun l => S (cornersL o) fun p => p.2 * (if l ≤ c then f (p.1 ++ [l]) - (if l > 0 then f (p.1 ++ [l - 1]) else 0) else 0) := by
        refine S_congr fun l hl2 => ?_
        rw [leB_snoc hl, hle, Bool.true_and]
        by_cases hlc : l ≤ c
        · rw [if_pos (decide_eq_true hlc), over_snoc o l (mem_rng.mp hl2).1 f, sumOver_S]
          refine S_congr fun p _ => ?_
          rw [if_pos hlc]
        · rw [if_neg (by simpa using hlc)]
          refine (Eq.trans (S_congr (v := fun _ => 0) fun p _ => ?_) S_zero).symm
          rw [if_neg hlc, Int.mul_zero]
      rw [e1, S_swap, sumOver_S]
      refine S_congr fun p _ => ?_
      rw [S_mul, tele (fun l => f (p.1 ++ [l])) c b c0 cb]
    · rw [if_neg hle]
      refine Eq.trans (S_congr (v := fun _ => 0) fun l _ => ?_) S_zero
      rw [leB_snoc hl, show leB o h = false by simpa using hle, Bool.false_and, if_neg Bool.false_ne_true]
/-- .. and the other way round -/
theorem m2 : ∀ bs, ∀ (f : List Int → Int), ∀ m ∈ boxL bs, sumOver (cornersL m) (fun x => S (boxL bs) fun o => if leB o x = true then f o else 0) = f m := by
  refine rev_bs ?_ fun bs b ih f m hm => ?_
  · intro f m hm
    simp [boxL, gridL] at hm
    subst hm
    show sumOver [([], 1)] _ = _
    rw [sumOver_S, S_cons, S_nil]
    show 1 * S [[]] _ + 0 = _
    rw [S_cons, S_nil]
    simp [leB, leL]
  · obtain ⟨h, c, hh, hc, rfl⟩ := mem_snoc.mp hm
    obtain ⟨c0, cb⟩ := mem_rng.mp hc
    rw [over_snoc h c c0, ← ih (fun x => f (x ++ [c])) h hh, sumOver_S, sumOver_S]
    refine S_congr fun p hp => ?_
    congr 1
    have lp : p.1.length = bs.length := (cornersL_lens bs.length h (boxL_len hh) p hp).1
    have T : ∀ l : Int, S (boxL (bs ++ [b])) (fun o => if leB o (p.1 ++ [l]) = true then f o else 0) = S (boxL bs) fun o => if leB o p.1 = true then S (rng b) (fun x => if x ≤ l then f (o ++ [x]) else 0) else 0 := by
      intro l
      rw [boxL_snoc, S_flat]
      refine S_congr fun o ho => ?_
      rw [S_map]
      have hl : o.length = p.1.length := by rw [boxL_len ho, lp]
      by_cases hle : leB o p.1 = true
      · rw [if_pos hle]
        refine S_congr fun x _ => ?_
        rw [leB_snoc hl, hle, Bool.true_and]
        by_cases hx : x ≤ l
        · rw [if_pos (decide_eq_true hx), if_pos hx]
        · rw [if_neg (by simpa using hx), if_neg hx]
      · rw [if_neg hle]
        refine Eq.trans (S_congr (v := fun _ => 0) fun x _ => ?_) S_zero
        rw [leB_snoc hl, show leB o p.1 = false by simpa using hle, Bool.false_and, if_neg Bool.false_ne_true]
    have U : ∀ o : List Int, S (rng b) (fun x => if x ≤ c then f (o ++ [x]) else 0) - (if c > 0 then S (rng b) (fun x => if x ≤ c - 1 then f (o ++ [x]) else 0) else 0) = f (o ++ [c]) := by
      intro o
      have one : S (rng b) (fun x => if x = c then f (o ++ [c]) else 0) = f (o ++ [c]) := by
        have e := tele (fun x => if c ≤ x then f (o ++ [c]) else 0) b b (by omega) (Int.le_refl _)
        rw [if_pos cb] at e
        rw [← e]
        refine S_congr fun x hx => ?_
        obtain ⟨x0, xb⟩ := mem_rng.mp hx
        rw [if_pos xb]
        by_cases h1 : x = c
        · rw [if_pos h1, if_pos (by omega)]
          split
          · rw [if_neg (by omega)]; omega
          · omega
        · rw [if_neg h1]
          by_cases h2 : c ≤ x
          · rw [if_pos h2, if_pos (by omega), if_pos (by omega)]; omega
          · rw [if_neg h2]
            split
            · rw [if_neg (by omega)]; omega
            · omega
      split
      · rw [← S_sub, ← one]
        refine S_congr fun x hx => ?_
        by_cases h1 : x = c
        · subst h1
          rw [if_pos (Int.le_refl _), if_neg (by omega), if_pos rfl]
          omega
        · by_cases h2 : x ≤ c
          · rw [if_pos h2, if_pos (by omega), if_neg h1]; omega
          · rw [if_neg h2, if_neg (by omega), if_neg h1]; omega
      · rw [← one, Int.sub_zero]
        refine S_congr fun x hx => ?_
        have := (mem_rng.mp hx).1
        by_cases h1 : x = c
        · subst h1
          rw [if_pos (Int.le_refl _), if_pos rfl]
        · rw [if_neg (by omega), if_neg h1]
    rw [T c]
    by_cases hc1 : c > 0
    · rw [if_pos hc1, T (c - 1), ← S_sub]
      refine S_congr fun o _ => ?_
      have u := U o
      rw [if_pos hc1] at u
      by_cases hle : leB o p.1 = true
      · rw [if_pos hle, if_pos hle, if_pos hle, u]
      · rw [if_neg hle, if_neg hle, if_neg hle]; rfl
    · rw [if_neg hc1, Int.sub_zero]
      refine S_congr fun o _ => ?_
      have u := U o
      rw [if_neg hc1, Int.sub_zero] at u
      by_cases hle : leB o p.1 = true
      · rw [if_pos hle, if_pos hle, u]
      · rw [if_neg hle, if_neg hle]
theorem m_both {bs : List Nat} (f : List Int → Int) {a b : List Int} (ha : a ∈ boxL bs) (hb : b ∈ boxL bs) : S (boxL bs) (fun o => if (leB o a && leB o b) = true then sumOver (cornersL o) f else 0) = f (meetL a b) := by
  rw [← m1 bs f _ (box_meet bs a ha b hb).1]
  refine S_congr fun o ho => ?_
  rw [le_meet (by rw [boxL_len ho, boxL_len ha]) (by rw [boxL_len ha, boxL_len hb])]
theorem m_either {bs : List Nat} (f : List Int → Int) {a b : List Int} (ha : a ∈ boxL bs) (hb : b ∈ boxL bs) : S (boxL bs) (fun o => if (leB o a || leB o b) = true then sumOver (cornersL o) f else 0) = f a + f b - f (meetL a b) := by
  rw [← m_both f ha hb, ← m1 bs f a ha, ← m1 bs f b hb, ← S_add, ← S_sub]
  refine S_congr fun o _ => ?_
  cases leB o a <;> cases leB o b <;> simp
end K1

namespace K1
open PySem PySem.Spec PyProof.Rows L2
theorem PotAt.there {H : Hp} {p : Addr} (h : PotAt H p) : ∃ o, H p = some o := let ⟨_, _, _, e, _⟩ := h; ⟨_, e⟩
theorem PotAt.same {H H' : Hp} {p : Addr} (h : PotAt H p) (e : Same H H') : PotAt H' p := let ⟨a, b, c, e1, r⟩ := h; ⟨a, b, c, e _ _ e1, r⟩
theorem PotAt.ne {H : Hp} {p q : Addr} (h : PotAt H p) (n : H q = none) : p ≠ q := let ⟨_, _, _, e, _⟩ := h; ne_of_none e n
theorem PotAt.upd {H : Hp} {p q : Addr} {o : HO} (h : PotAt H p) (n : p ≠ q) : PotAt (L2.upd H q o) p := let ⟨a, b, c, e1, r⟩ := h; ⟨a, b, c, by rw [upd_ne n]; exact e1, r⟩
section
variable {P : Program} {w : World} {K : PySem.W.Frag} {mg : Str → Option Value} {base : Heap}
def spMoved (K : PySem.W.Frag) : Sp := fun vs H Q _ => ∃ (p b : Addr) (m : List Int), vs = [.ref p, .ref b] ∧ PotAt H p ∧ SqT K H b (m.map V.int) ∧ m.length ≤ 6 ∧ (∀ c ∈ m, 0 ≤ c) ∧
  ∀ H' a (m' : List Int), SameB p H H' → PotAt H' p → H a = none → H' a = some (.tup (m'.map V.int)) → m'.length = m.length → (∀ c ∈ m', 0 ≤ c) → Q (.ref a) H'
theorem d_law_moved (B : Bt mg) (T : Top K mg "_law_moved" s_law_moved ["pot", "spot"]) (D_law_draw : Def P w K mg base "_law_draw" 1 ["pot", "size"] (spDraw K)) (D_law_great : Def P w K mg base "_law_great" 2 ["pot"] (spGreat K)) : Def P w K mg base "_law_moved" 3 ["pot", "spot"] (spMoved K) := by
  refine mk_def T sc_law_moved (by rintro _ _ _ _ ⟨_, _, _, rfl, _⟩; rfl) fun f cdv A outer s H vs Q E hr h => ?_
  obtain ⟨p, b, m, rfl, pt, hb, hm, h0, q⟩ := h
  refine ⟨_, (pss_cons (ps_set (i := 2) sc_law_moved.nd rfl (Or.inl rfl) (pe_lst pa_nil))
      (pss_cons (ps_for PassesOwn.never rfl (pi_tup (pv 1)) (pg_name (i := 3) sc_law_moved.nd rfl (Or.inl rfl)) (pss_one (ps_if (pt_cmpR op_eq (pe_def D_law_draw (hr.mono (by decide)) (by rfl) (pa_cons (pv 0) (pa_cons pe_int pa_nil))) pe_int (nomark _)) (pss_one (ps_expr (pe_bm PySem.F.plainAttrs_list PySem.F.slot_list_append PySem.F.type_list_append mt_append (pv 2) (pa_cons (pe_op op_add (pv 3) (pe_def D_law_great (hr.mono (by decide)) (by rfl) (pa_cons (pv 0) pa_nil))) pa_nil)))) (pss_one (ps_expr (pe_bm PySem.F.plainAttrs_list PySem.F.slot_list_append PySem.F.type_list_append mt_append (pv 2) (pa_cons (pv 3) pa_nil)))))))
      (pss_one (ps_ret (pe_callTy call_tuple_of (by rfl) B.m_tuple (by decide +kernel) (pa_cons (pv 2) pa_nil)))))), ?_⟩
  refine ⟨Nat.zero_le _, fun L hL => ?_⟩
  obtain ⟨pa, pb, pc, ep, _⟩ := id pt
  have npL : p ≠ L := ne_of_none ep hL
  refine ⟨.ref b, rfl, b, rfl, ⟨_, (same_upd hL).seqT hb⟩, ?_⟩
  refine for_tup (xs := m.map V.int) (fun i σ H' => ∃ (y3 : Option V) (ms : List Int), σ = [some (.ref p), some (.ref b), some (.ref L), y3] ∧ SameB p H H' ∧ PotAt H' p ∧ H' L = some (.lst (ms.map V.int)) ∧ ms.length = i ∧ ∀ c ∈ ms, 0 ≤ c)
    ⟨none, [], rfl, Same.b (same_upd hL), pt.same (same_upd hL), upd_same, rfl, fun c hc => by simp at hc⟩ (fun i σ H' _ pv' => ?_) (fun i x σ H' hx pv' => ?_) (fun σ H' pv' => ?_)
  · obtain ⟨_, _, rfl, e, _⟩ := pv'
    exact e.seqT ep hb
  · obtain ⟨y3, ms, rfl, e, pt1, eL, hl, hms⟩ := pv'
    obtain ⟨c, hc, rfl⟩ := int_at hx
    have hc0 : 0 ≤ c := h0 c (List.mem_of_getElem? hc)
    have hi : i < m.length := (List.getElem?_eq_some_iff.mp hc).1
    refine ⟨.ref p, rfl, p, 2, rfl, pt1, by decide, by decide, fun H1 r s1 p1 r0 r1 => ?_⟩
    have eL1 := s1 _ _ npL.symm eL
    have fin : ∀ (z : Int) H2, 0 ≤ z → SameB p H H2 → PotAt H2 p → H2 L = some (.lst (ms.map V.int)) → ∃ (y3 : Option V) (ms' : List Int), [some (.ref p), some (.ref b), some (.ref L), some (.int c)] = [some (.ref p), some (.ref b), some (.ref L), y3] ∧ SameB p H (upd H2 L (.lst (ms.map V.int ++ [.int z]))) ∧ PotAt (upd H2 L (.lst (ms.map V.int ++ [.int z]))) p ∧ upd H2 L (.lst (ms.map V.int ++ [.int z])) L = some (.lst (ms'.map V.int)) ∧ ms'.length = i + 1 ∧ ∀ c ∈ ms', 0 ≤ c := fun z H2 hz s2 p2 e2 => by
      refine ⟨_, ms ++ [z], rfl, s2.mut hL, p2.upd npL, by rw [upd_same, List.map_append]; rfl, by simp [hl], fun c' hc' => ?_⟩
      rcases List.mem_append.mp hc' with h' | h'
      · exact hms c' h'
      · rw [List.mem_singleton.mp h']
        exact hz
    have hsz : (ms.map V.int).length < sizeLine := Nat.lt_of_le_of_lt (show (ms.map V.int).length ≤ 6 by simp; omega) (by decide)
    refine ⟨rfl, _, rfl, ite2 (fun z => ?_) (fun z => ?_)⟩
    · refine ⟨.ref L, rfl, .inl ⟨rfl, _, SqL.of eL1⟩, .int c, rfl, .ref p, rfl, p, rfl, p1, fun H2 r' s2 p2 q0 q1 => ?_⟩
      exact ⟨_, _, rfl, rfl, L, _, _, rfl, rfl, s2 _ _ npL.symm eL1, hsz, fin _ _ (by omega) ((e.trans s1).trans s2) p2 (s2 _ _ npL.symm eL1)⟩
    · refine ⟨.ref L, rfl, .inl ⟨rfl, _, SqL.of eL1⟩, .int c, rfl, L, _, _, rfl, rfl, eL1, hsz, fin _ _ hc0 (e.trans s1) p1 eL1⟩
  · obtain ⟨y3, ms, rfl, e, pt1, eL, hl, hms⟩ := pv'
    refine ⟨.ref L, rfl, L, _, rfl, .inl ⟨SqL.of eL, fun a ha => ?_⟩⟩
    refine q _ a ms ?_ (pt1.upd (pt1.ne ha)) (e.fresh pt.there ha pt1.there) upd_same (by rw [hl, List.length_map]) hms
    exact e.trans (Same.b (same_upd ha))
end
end K1

namespace K1
open PySem PySem.Spec PyProof.Rows L2
theorem can_ints : ∀ ns : List Int, PyData.canLayAll0 (ns.map PyData.int) = true
  | [] => rfl
  | n :: ns => can_ints ns
theorem depth_ints : ∀ ns : List Int, PyData.depthAll (ns.map PyData.int) = 0
  | [] => rfl
  | n :: ns => by
    show max 0 (PyData.depthAll (ns.map PyData.int)) = 0
    rw [depth_ints ns]
    rfl
theorem shaped_mo (m : List Int) : SeqAt.shaped (mo m) = true := by
  unfold SeqAt.shaped
  rw [show PyData.canLay0 (mo m) = true from can_ints m, Bool.true_and]
  refine decide_eq_true ?_
  show PyData.depthAll (m.map PyData.int) + 1 ≤ 64
  rw [depth_ints]
  decide
theorem eqvAll_ints : ∀ ns ms : List Int, PyData.eqvAll (ns.map PyData.int) (ms.map PyData.int) = decide (ns = ms)
  | [], [] => rfl
  | [], _ :: _ => rfl
  | _ :: _, [] => rfl
  | n :: ns, m :: ms => by
    show ((n == m) && PyData.eqvAll (ns.map PyData.int) (ms.map PyData.int)) = _
    rw [eqvAll_ints ns ms, Bool.eq_iff_iff]
    simp
theorem eqv_mo (a b : List Int) : PyData.eqv (mo a) (mo b) = decide (a = b) := eqvAll_ints a b
/-! ### tables written out -/
def tabL (box : List (List Int)) (g : List Int → Int) : List (List Key × V) := box.map fun m => (kk m, V.int (g m))
theorem tab_get {g : List Int → Int} {m : List Int} : ∀ {box : List (List Int)}, m ∈ box → valV (tabL box g) (kk m) = some (.int (g m))
  | [], h => by simp at h
  | x :: box, h => by
    by_cases e : x = m
    · subst e
      exact valV_pos rfl
    · have h2 : m ∈ box := by
        rcases List.mem_cons.mp h with h | h
        · exact absurd h.symm e
        · exact h
      show valV ((kk x, V.int (g x)) :: tabL box g) (kk m) = _
      rw [valV_neg (show ¬ kk x = kk m from fun z => e (kk_inj z))]
      exact tab_get h2
theorem tab_none {g : List Int → Int} {m : List Int} : ∀ {box : List (List Int)}, m ∉ box → valV (tabL box g) (kk m) = none
  | [], _ => rfl
  | x :: box, h => by
    show valV ((kk x, V.int (g x)) :: tabL box g) (kk m) = _
    rw [valV_neg (show ¬ kk x = kk m from fun z => h (by rw [kk_inj z]; exact List.mem_cons_self))]
    exact tab_none fun z => h (List.mem_cons_of_mem _ z)
theorem tab_at {box : List (List Int)} {g : List Int → Int} {i : Nat} {k : List Key} {v : V} (h : (tabL box g)[i]? = some (k, v)) : ∃ m, box[i]? = some m ∧ k = kk m ∧ v = .int (g m) := by
  obtain ⟨m, hm, e⟩ := map_at h
  cases e
  exact ⟨m, hm, rfl, rfl⟩
theorem dget_rd {H : Hp} {d b : Addr} {kvs : List (List Key × V)} {k : List Int} {v : V} (h : Rd H d (.dT kvs)) (hb : H b = some (.tup (k.map V.int))) (hv : valV kvs (kk k) = some v) : DGet H d (.ref b) (some v) :=
  .inr ⟨kvs, kk k, b, h, rfl, by rw [kk_kV]; exact hb, hv.symm⟩
def optB (p : List Int → Bool) : Option (List Int) → Bool
  | some o => p o
  | none => false
def optV (g : List Int → Int) : Option (List Int) → V
  | some o => .int (g o)
  | none => .non
theorem filt_sum {box : List (List Int)} {g : List Int → Int} {p : List Int → Bool} : (((List.range box.length).filter fun i => optB p box[i]?).map fun i => optV g box[i]?) = ((box.filter p).map g).map V.int := by
  induction box with
  | nil => rfl
  | cons x box ih =>
    rw [List.length_cons, List.range_succ_eq_map, List.filter_cons, List.filter_map, List.filter_cons]
    have e0 : optB p (x :: box)[0]? = p x := rfl
    rw [e0]
    by_cases h : p x = true
    · rw [if_pos h, if_pos h, List.map_cons, List.map_cons, List.map_cons, List.map_map, ← ih]
      rfl
    · rw [if_neg h, if_neg h, List.map_map, ← ih]
      rfl
theorem or_vars {σ : L2.St} {H : Hp} {i j : Nat} {b1 b2 : Bool} {Q : Bool → Hp → Prop} (h1 : σ[i]? = some (some (.bl b1))) (h2 : σ[j]? = some (some (.bl b2))) (q : Q (b1 || b2) H) : tOr (tB (tVar i)) (tB (tVar j)) σ H Q := by
  refine ⟨_, h1, _, rfl, ?_⟩
  cases b1 with
  | true => exact iteT q
  | false => exact iteF ⟨_, h2, _, rfl, q⟩
section
variable {P : Program} {w : World} {K : PySem.W.Frag} {mg : Str → Option Value} {base : Heap}
def spTwoHold (K : PySem.W.Frag) : Sp := fun vs H Q _ => ∃ (a1 a2 dt dp : Addr) (bs : List Nat) (x y : List Int) (f : List Int → Int), vs = [.ref a1, .ref a2, .ref dt, .ref dp] ∧ H a1 = some (.tup (x.map V.int)) ∧ H a2 = some (.tup (y.map V.int)) ∧ x ∈ boxL bs ∧ y ∈ boxL bs ∧ bs.length ≤ 6 ∧ (boxL bs).length ≤ 1000 ∧
  Tab H dt (· ∈ boxL bs) f ∧ dt ≠ dp ∧ H dp = some (.dT (tabL (boxL bs) fun o => sumOver (cornersL o) f)) ∧ ∀ H', Same H H' → Q (.bl true) H'
theorem d_law_two_hold (B : Bt mg) (T : Top K mg "_law_two_hold" s_law_two_hold ["first", "second", "table", "parts"]) (Dbefore : Def P w K mg base "before" 1 ["first", "second"] (spB K leB)) (Djoin_of : Def P w K mg base "join_of" 1 ["first", "second"] (spM K joinL)) (Dmeet_of : Def P w K mg base "meet_of" 1 ["first", "second"] (spM K meetL))
    (D_law_join : Def P w K mg base "_law_join" 1 ["one", "other"] (spM K joinL)) (D_law_meet : Def P w K mg base "_law_meet" 1 ["one", "other"] (spM K meetL)) : Def P w K mg base "_law_two_hold" 2 ["first", "second", "table", "parts"] (spTwoHold K) := by
  refine mk_def T sc_law_two_hold (by rintro _ _ _ _ ⟨_, _, _, _, _, _, _, _, rfl, _⟩; rfl) fun ff cdv A outer s H vs Q E hr h => ?_
  obtain ⟨a1, a2, dt, dp, bs, x, y, f, rfl, h1, h2, hx, hy, hbs, hbl, ht, ndp, hp, q⟩ := h
  have lx := boxL_len hx
  have ly := boxL_len hy
  obtain ⟨hme, hjo⟩ := box_meet bs x hx y hy
  refine ⟨_, (pss_cons (ps_set (i := 4) sc_law_two_hold.nd rfl (Or.inl rfl) (pe_def Dmeet_of (hr.mono (by decide)) (by rfl) (pa_cons (pv 0) (pa_cons (pv 1) pa_nil))))
      (pss_cons (ps_set (i := 5) sc_law_two_hold.nd rfl (Or.inl rfl) (pe_def Djoin_of (hr.mono (by decide)) (by rfl) (pa_cons (pv 0) (pa_cons (pv 1) pa_nil))))
      (pss_cons (ps_if (pw_or (pt_cmpR (op_neD (hu64 hr)) (pv 4) (pe_def D_law_meet (hr.mono (by decide)) (by rfl) (pa_cons (pv 0) (pa_cons (pv 1) pa_nil))) (nomark _)) (pw_or1 (pt_cmpR (op_neD (hu64 hr)) (pv 5) (pe_def D_law_join (hr.mono (by decide)) (by rfl) (pa_cons (pv 0) (pa_cons (pv 1) pa_nil))) (nomark _)))).pt (pss_one (ps_ret pe_bl)) pss_nil)
      (pss_cons (ps_for PassesOwn.never rfl (pi_list (pe_lst (pa_cons (pv 0) (pa_cons (pv 1) (pa_cons (pv 4) (pa_cons (pv 5) pa_nil)))))) (pg_name (i := 6) sc_law_two_hold.nd rfl (Or.inr rfl)) (pss_one (ps_if (pt_cmpR op_ne (pe_callB (cr_sum rfl) (by rfl) B.m_sum (by decide +kernel) (pa_cons (pe_lock (pe_lc (own := [("other", 7)]) (g := (gName 7)) (tt := (tB (tCall (spB K leB) [] E0 (tCons (tVar 7) (tCons (tVar 6) tNil))))) (te := (tDGet (tVar 3) (tVar 7))) rfl sc_law_two_hold.nd (pi_keys (pv 3)) (blkOk_by (own := [("other", 7)]) (N := N_law_two_hold) (sc := defScope s_law_two_hold) (by decide +kernel)) (fun _ _ _ _ _ => (pg_name (i := 7) sc_law_two_hold.nd rfl (Or.inl rfl))) (fun _ _ _ _ _ => (pts_one (pt_val (pe_def Dbefore (hr.mono (by decide)) (by rfl) (pa_cons (pv 7) (pa_cons (pv 6) pa_nil)))))) (fun _ _ _ _ _ => (pe_dget (hu_of hr) (pv 3) (pv 7) (fun _ _ => rfl))))) pa_nil)) (pe_dget (hu_of hr) (pv 2) (pv 6) (fun _ _ => rfl)) (nomark _)) (pss_one (ps_ret pe_bl)) pss_nil)))
      (pss_cons (ps_set (i := 8) sc_law_two_hold.nd rfl (Or.inl rfl) pe_int)
      (pss_cons (ps_set (i := 9) sc_law_two_hold.nd rfl (Or.inl rfl) pe_int)
      (pss_cons (ps_lock (ps_for PassesOwn.never rfl (pi_keys (pv 3)) (pg_name (i := 6) sc_law_two_hold.nd rfl (Or.inr rfl)) (pss_cons (ps_set (i := 10) sc_law_two_hold.nd rfl (Or.inl rfl) (pe_def Dbefore (hr.mono (by decide)) (by rfl) (pa_cons (pv 6) (pa_cons (pv 0) pa_nil))))
      (pss_cons (ps_set (i := 11) sc_law_two_hold.nd rfl (Or.inl rfl) (pe_def Dbefore (hr.mono (by decide)) (by rfl) (pa_cons (pv 6) (pa_cons (pv 1) pa_nil))))
      (Evl.pss_cut (ps_if (pw_and (pt_val (pv 10)) (pw_and1 (pt_val (pv 11)))).pt (pss_one (ps_set (i := 8) sc_law_two_hold.nd rfl (Or.inl rfl) (pe_op op_add (pv 8) (pe_dget (hu_of hr) (pv 3) (pv 6) (fun _ _ => rfl))))) pss_nil)
      (pss_one (ps_if (pw_or (pt_val (pv 10)) (pw_or1 (pt_val (pv 11)))).pt (pss_cons (ps_set (i := 9) sc_law_two_hold.nd rfl (Or.inl rfl) (pe_op op_add (pv 9) (pe_dget (hu_of hr) (pv 3) (pv 6) (fun _ _ => rfl))))
      (pss_one (ps_if (pt_not (pt_val (pe_def Dbefore (hr.mono (by decide)) (by rfl) (pa_cons (pv 6) (pa_cons (pv 5) pa_nil))))) (pss_one (ps_ret pe_bl)) pss_nil))) pss_nil)))))))
      (pss_one (ps_ret (pe_and (pe_cmpR op_eq (pv 8) (pe_dget (hu_of hr) (pv 2) (pv 4) (fun _ _ => rfl)) (nomark _)) (pe_one (pe_cmpR op_eq (pv 9) (pe_op op_sub (pe_op op_add (pe_dget (hu_of hr) (pv 2) (pv 0) (fun _ _ => rfl)) (pe_dget (hu_of hr) (pv 2) (pv 1) (fun _ _ => rfl))) (pe_dget (hu_of hr) (pv 2) (pv 4) (fun _ _ => rfl))) (nomark _))))))))))))), ?_⟩
  generalize hg : (fun o => sumOver (cornersL o) f) = g at hp
  have hlen : (tabL (boxL bs) g).length = (boxL bs).length := by simp [tabL]
  -- lower, upper
  refine ⟨.ref a1, rfl, .ref a2, rfl, a1, a2, x, y, rfl, SqT.of h1, SqT.of h2, by omega, by omega, fun H1 p3 s1 n3 e3 => ?_⟩
  refine ⟨.ref a1, rfl, .ref a2, rfl, a1, a2, x, y, rfl, s1.seqT (SqT.of h1), s1.seqT (SqT.of h2), by omega, by omega, fun H2 p4 s2 n4 e4 => ?_⟩
  have s02 := s1.trans s2
  -- the two agree with the law's own
  refine ⟨.ref p3, rfl, .ref a1, rfl, .ref a2, rfl, a1, a2, x, y, rfl, s02.seqT (SqT.of h1), s02.seqT (SqT.of h2), by omega, by omega, fun H3 p5 s3 n5 e5 => ?_⟩
  have s03 := s02.trans s3
  refine ⟨mo (meetL x y), mo (meetL x y), Da.dp _ _ (Mo.of (s3 _ _ (s2 _ _ e3))), Da.dp _ _ (Mo.of e5), shaped_mo _, shaped_mo _, _, rfl, ?_⟩
  rw [eqv_mo, decide_eq_true rfl]
  refine iteF ⟨.ref p4, rfl, .ref a1, rfl, .ref a2, rfl, a1, a2, x, y, rfl, s03.seqT (SqT.of h1), s03.seqT (SqT.of h2), by omega, by omega, fun H4 p6 s4 n6 e6 => ?_⟩
  have s04 := s03.trans s4
  refine ⟨mo (joinL x y), mo (joinL x y), Da.dp _ _ (Mo.of (s4 _ _ (s3 _ _ e4))), Da.dp _ _ (Mo.of e6), shaped_mo _, shaped_mo _, _, rfl, ?_⟩
  rw [eqv_mo, decide_eq_true rfl]
  have t3 : H4 p3 = some (.tup ((meetL x y).map V.int)) := s4 _ _ (s3 _ _ (s2 _ _ e3))
  have t4 : H4 p4 = some (.tup ((joinL x y).map V.int)) := s4 _ _ (s3 _ _ e4)
  have t1 := s04 _ _ h1
  have t2 := s04 _ _ h2
  -- the four sums
  refine iteF ⟨.ref a1, rfl, .ref a2, rfl, .ref p3, rfl, .ref p4, rfl, by show 4 ≤ sizeLine; decide, fun L hL => ⟨L, rfl, ⟨_, SqL.of upd_same⟩, ?_⟩⟩
  have s05 : Same H (upd H4 L (.lst [.ref a1, .ref a2, .ref p3, .ref p4])) := s04.trans (same_upd hL)
  have s45 : Same H4 (upd H4 L (.lst [.ref a1, .ref a2, .ref p3, .ref p4])) := same_upd hL
  refine for_list (xs := [.ref a1, .ref a2, .ref p3, .ref p4]) (fun i σ H' => ∃ (y6 y7 y8 y9 y10 y11 : Option V), σ = [some (.ref a1), some (.ref a2), some (.ref dt), some (.ref dp), some (.ref p3), some (.ref p4), y6, y7, y8, y9, y10, y11] ∧ Same (upd H4 L (.lst [.ref a1, .ref a2, .ref p3, .ref p4])) H')
    ⟨none, none, none, none, none, none, rfl, Same.refl _⟩ (fun i σ H' _ pv' => ?_) (fun i x' σ H' hx' pv' => ?_) (fun σ H' pv' => ?_)
  · obtain ⟨_, _, _, _, _, _, rfl, e⟩ := pv'
    exact SqL.of (e _ _ upd_same)
  · obtain ⟨y6, y7, y8, y9, y10, y11, rfl, e⟩ := pv'
    have e4' : Same H4 H' := s45.trans e
    obtain ⟨a, o, rfl, ho, hbo⟩ : ∃ a o, x' = .ref a ∧ H' a = some (.tup ((o : List Int).map V.int)) ∧ o ∈ boxL bs := by
      match i, hx' with
      | 0, hx' => exact ⟨a1, x, (Option.some.inj hx').symm, e4' _ _ t1, hx⟩
      | 1, hx' => exact ⟨a2, y, (Option.some.inj hx').symm, e4' _ _ t2, hy⟩
      | 2, hx' => exact ⟨p3, _, (Option.some.inj hx').symm, e4' _ _ t3, hme⟩
      | 3, hx' => exact ⟨p4, _, (Option.some.inj hx').symm, e4' _ _ t4, hjo⟩
      | (n + 4), hx' => simp at hx'
    have lo := boxL_len hbo
    have hp' : H' dp = some (.dT (tabL (boxL bs) g)) := e4' _ _ (s04 _ _ hp)
    refine ⟨dp, _, hp', True.intro, fun od => ?_⟩
    have sl : ∀ {b : Addr} {u : HO}, b ≠ dp → H' b = some u → upd H' dp (.frz od (.dT (tabL (boxL bs) g))) b = some u := fun n hb => by
      rw [upd_ne n]
      exact hb
    have ndt : a ≠ dp := ne_of ho hp' (by intro z; cases z)
    refine ⟨.ref dp, rfl, dp, od, rfl, .inr ⟨_, upd_same, fun D hD => ?_⟩⟩
    refine lc_val_if (walk_keysT (kvs := tabL (boxL bs) g)) hD (by omega) (fun H5 e5 => e5 _ _ upd_same) (fun i => optB (fun u => leB u o) (boxL bs)[i]?) (fun i => optV g (boxL bs)[i]?) (fun j x5 H5 H5' Q' R hj e5 y5 k1 k2 => ?_) (fun H5 e5 eD => ?_)
    · obtain ⟨rfl, k, v, qa, hk, rfl, hqa⟩ := y5
      obtain ⟨o', ho', rfl, rfl⟩ := tab_at hk
      rw [kk_kV] at hqa
      have lo' := boxL_len (List.mem_of_getElem? ho')
      refine ⟨rfl, .ref qa, rfl, .ref a, rfl, qa, a, o', o, rfl, SqT.of hqa, e5.seqT (SqT.of (sl ndt ho)), by omega, by omega, fun H6 e6 => ⟨_, rfl, ?_⟩⟩
      by_cases hle : leB o' o = true
      · rw [hle]
        refine iteT ⟨.ref dp, rfl, .ref qa, rfl, dp, _, rfl, dget_rd (.inr ⟨od, e6 _ _ (e5 _ _ upd_same)⟩) (e6 _ _ hqa) (tab_get (List.mem_of_getElem? ho')), ?_⟩
        have := k1 H6 (by simp only [ho', optB]; exact hle) e6
        simp only [ho', optV] at this
        exact this
      · rw [show leB o' o = false by simpa using hle]
        exact iteF (k2 H6 (by simp only [ho', optB]; simpa using hle) e6)
    · refine ⟨e5 _ _ upd_same, ?_⟩
      have nD : D ≠ dp := fun z => by
        subst z
        rw [upd_same] at hD
        cases hD
      have s5 : Same H' (upd H5 dp (.dT (tabL (boxL bs) g))) := same_unlock hp' e5
      rw [hlen, filt_sum] at eD
      refine ⟨D, _, rfl, SqL.of (by rw [upd_ne nD]; exact eD), ?_⟩
      have hsum : (((boxL bs).filter fun o' => leB o' o).map g).sum = f o := by
        have e1 := S_if (boxL bs) (fun o' => leB o' o) g
        unfold S at e1
        rw [e1, ← hg]
        exact m1 bs f o hbo
      rw [hsum]
      refine ⟨.ref dt, rfl, .ref a, rfl, dt, _, rfl, ((((ht.same s04).same e4').same s5).get (s5 _ _ ho) hbo), rfl, _, rfl, ?_⟩
      rw [decide_eq_true rfl]
      exact iteF ⟨_, _, _, _, _, _, rfl, e.trans s5⟩
  · obtain ⟨y6, y7, y8, y9, y10, y11, rfl, e⟩ := pv'
    have e0 : Same H H' := s05.trans e
    have e4' : Same H4 H' := s45.trans e
    have hp' : H' dp = some (.dT (tabL (boxL bs) g)) := e0 _ _ hp
    refine ⟨dp, _, hp', True.intro, fun od => ?_⟩
    have sl : ∀ {b : Addr} {xs : List V}, H' b = some (.tup xs) → upd H' dp (.frz od (.dT (tabL (boxL bs) g))) b = some (.tup xs) := fun {b xs} hb => by
      rw [upd_ne (ne_of hb hp' (by intro z; cases z))]
      exact hb
    refine ⟨.ref dp, rfl, dp, od, rfl, .inr ⟨_, upd_same, ?_⟩⟩
    refine for_it (walk_keysT (kvs := tabL (boxL bs) g)) (fun i σ H5 => ∃ (y6 y7 y10 y11 : Option V), σ = [some (.ref a1), some (.ref a2), some (.ref dt), some (.ref dp), some (.ref p3), some (.ref p4), y6, y7, some (.int (S ((boxL bs).take i) fun o => if (leB o x && leB o y) = true then g o else 0)), some (.int (S ((boxL bs).take i) fun o => if (leB o x || leB o y) = true then g o else 0)), y10, y11] ∧ Same (upd H' dp (.frz od (.dT (tabL (boxL bs) g)))) H5)
      ⟨y6, y7, y10, y11, by rw [List.take_zero]; rfl, Same.refl _⟩ (fun i σ H5 _ pw => ?_) (fun i x' σ H5 H5' hi pw y5 => ?_) (fun σ H5 pw => ?_)
    · obtain ⟨_, _, _, _, rfl, e5⟩ := pw
      exact e5 _ _ upd_same
    · obtain ⟨z6, z7, z10, z11, rfl, e5⟩ := pw
      obtain ⟨rfl, k, v, qa, hk, rfl, hqa⟩ := y5
      obtain ⟨o, ho, rfl, rfl⟩ := tab_at hk
      rw [kk_kV] at hqa
      have lo := boxL_len (List.mem_of_getElem? ho)
      have st1 : ∀ w : List Int → Int, S ((boxL bs).take (i + 1)) w = S ((boxL bs).take i) w + w o := fun w => by
        rw [List.take_add_one, ho, S_append, show (some o).toList = [o] from rfl, S_cons, S_nil, Int.add_zero]
      refine ⟨.ref qa, rfl, .ref a1, rfl, qa, a1, o, x, rfl, SqT.of hqa, SqT.of (e5 _ _ (sl (e4' _ _ t1))), by omega, by omega, fun H6 e6 => ?_⟩
      refine ⟨.ref qa, rfl, .ref a2, rfl, qa, a2, o, y, rfl, SqT.of (e6 _ _ hqa), SqT.of (e6 _ _ (e5 _ _ (sl (e4' _ _ t2)))), by omega, by omega, fun H7 e7 => ?_⟩
      have e57 := (e5.trans e6).trans e7
      have hget : DGet H7 dp (.ref qa) (some (.int (g o))) := dget_rd (.inr ⟨od, e57 _ _ upd_same⟩) (e7 _ _ (e6 _ _ hqa)) (tab_get (List.mem_of_getElem? ho))
      refine ⟨fun σ' H8 => σ' = [some (.ref a1), some (.ref a2), some (.ref dt), some (.ref dp), some (.ref p3), some (.ref p4), some (.ref qa), z7, some (.int (S ((boxL bs).take (i + 1)) fun o => if (leB o x && leB o y) = true then g o else 0)), some (.int (S ((boxL bs).take i) fun o => if (leB o x || leB o y) = true then g o else 0)), some (.bl (leB o x)), some (.bl (leB o y))] ∧ H8 = H7, ?_, ?_⟩
      · refine ⟨_, rfl, _, rfl, ?_⟩
        cases hb1 : leB o x with
        | false =>
          refine iteF (iteF ⟨?_, rfl⟩)
          rw [st1]
          simp [hb1]
        | true =>
          refine iteT ⟨_, rfl, _, rfl, ?_⟩
          cases hb2 : leB o y with
          | false =>
            refine iteF ⟨?_, rfl⟩
            rw [st1]
            simp [hb1, hb2]
          | true =>
            refine iteT ⟨_, rfl, .ref dp, rfl, .ref qa, rfl, dp, _, rfl, hget, _, _, rfl, rfl, ?_, rfl⟩
            rw [st1]
            simp [hb1, hb2]
      · rintro σ' H8 ⟨rfl, rfl⟩
        refine or_vars (b1 := leB o x) (b2 := leB o y) rfl rfl (ite2 (fun hor => ?_) (fun hnor => ?_))
        · refine ⟨_, rfl, .ref dp, rfl, .ref qa, rfl, dp, _, rfl, hget, _, _, rfl, rfl, ?_⟩
          refine ⟨.ref qa, rfl, .ref p4, rfl, qa, p4, o, joinL x y, rfl, SqT.of (e7 _ _ (e6 _ _ hqa)), SqT.of (e7 _ _ (e6 _ _ (e5 _ _ (sl (e4' _ _ t4))))), by rw [lo, boxL_len hjo], by omega, fun H9 e9 => ⟨_, rfl, ?_⟩⟩
          rw [le_join (by omega) (by omega) hor]
          refine iteF ⟨some (.ref qa), z7, some (.bl (leB o x)), some (.bl (leB o y)), ?_, e57.trans e9⟩
          rw [st1 fun o => if (leB o x || leB o y) = true then g o else 0, if_pos hor]
          rfl
        · refine ⟨some (.ref qa), z7, some (.bl (leB o x)), some (.bl (leB o y)), ?_, e57⟩
          rw [st1 fun o => if (leB o x || leB o y) = true then g o else 0, if_neg hnor, Int.add_zero]
    · obtain ⟨z6, z7, z10, z11, rfl, e5⟩ := pw
      have s6 : Same H' (upd H5 dp (.dT (tabL (boxL bs) g))) := same_unlock hp' e5
      have s06 := e0.trans s6
      have tt := ht.same s06
      have b3 := m_both f hx hy
      have b4 := m_either f hx hy
      have eg : ∀ o, sumOver (cornersL o) f = g o := fun o => by rw [← hg]
      simp only [eg] at b3 b4
      rw [hlen, List.take_of_length_le (Nat.le_refl _), b3, b4]
      refine ⟨e5 _ _ upd_same, _, rfl, .ref dt, rfl, .ref p3, rfl, dt, _, rfl, tt.get (s6 _ _ (e4' _ _ t3)) hme, rfl, _, rfl, ?_⟩
      rw [decide_eq_true rfl]
      refine iteT ⟨_, rfl, .ref dt, rfl, .ref a1, rfl, dt, _, rfl, tt.get (s06 _ _ h1) hx, .ref dt, rfl, .ref a2, rfl, dt, _, rfl, tt.get (s06 _ _ h2) hy, _, _, rfl, rfl, .ref dt, rfl, .ref p3, rfl, dt, _, rfl, tt.get (s6 _ _ (e4' _ _ t3)) hme, _, _, rfl, rfl, rfl, ?_⟩
      rw [decide_eq_true rfl]
      exact q _ s06
end
end K1

namespace K1
open PySem PySem.Spec PyProof.Rows L2
/-! ### the law -/
theorem rgV_rng (b : Nat) : rgV 0 ((b : Int) + 1) = (rng b).map V.int := by
  unfold rgV rng
  rw [show (((b : Int) + 1) - 0).toNat = b + 1 by omega, List.map_map]
  refine List.map_congr_left fun i _ => ?_
  show V.int (0 + (i : Nat)) = V.int (i : Nat)
  rw [Int.zero_add]
theorem rng_len (b : Nat) : (rng b).length = b + 1 := by simp [rng]
theorem box_size {N : Nat} : ∀ bs : List Nat, (∀ b ∈ bs, b < N) → (boxL bs).length ≤ N ^ bs.length := by
  refine rev_bs (fun _ => by simp [boxL, gridL]) fun bs b ih h => ?_
  have h1 := ih fun c hc => h c (by simp [hc])
  have h2 : b < N := h b (by simp)
  rw [boxL_snoc]
  have e : ∀ l : List (List Int), (l.flatMap fun h => (rng b).map fun x => h ++ [x]).length = l.length * (b + 1) := by
    intro l
    induction l with
    | nil => simp
    | cons x l ihl => rw [List.flatMap_cons, List.length_append, ihl, List.length_map, rng_len, List.length_cons, Nat.succ_mul, Nat.add_comm]
  rw [e, List.length_append, List.length_singleton, Nat.pow_succ]
  exact Nat.mul_le_mul h1 h2
/-- how many a coordinate may be at most, by the axes -/
def cap (n : Int) : Int := if n = 1 then 8 else if n = 2 then 5 else if n = 3 then 4 else 3
theorem cap_at {n : Int} (h1 : 1 ≤ n) (h2 : n ≤ 4) : atI [V.int 8, .int 5, .int 4, .int 3] (n - 1) = some (.int (cap n)) := by
  have : n = 1 ∨ n = 2 ∨ n = 3 ∨ n = 4 := by omega
  rcases this with rfl | rfl | rfl | rfl <;> rfl
theorem cap_pos {n : Int} : 0 < cap n ∧ cap n ≤ 8 := by
  unfold cap
  split
  · omega
  · split
    · omega
    · split <;> omega
theorem box_81 {n : Int} {bs : List Nat} (h1 : 1 ≤ n) (h2 : n ≤ 4) (hl : (bs.length : Int) = n) (hb : ∀ b ∈ bs, (b : Int) < cap n) : (boxL bs).length ≤ 81 ∧ ∀ i, (boxL (bs.take i)).length ≤ 10000 := by
  have s1 := box_size (N := (cap n).toNat) bs fun b h => by have := hb b h; omega
  have hn : n = 1 ∨ n = 2 ∨ n = 3 ∨ n = 4 := by omega
  refine ⟨Nat.le_trans s1 ?_, fun i => ?_⟩
  · rcases hn with rfl | rfl | rfl | rfl
    · rw [show bs.length = 1 by omega]; decide
    · rw [show bs.length = 2 by omega]; decide
    · rw [show bs.length = 3 by omega]; decide
    · rw [show bs.length = 4 by omega]; decide
  · refine Nat.le_trans (box_size (N := 8) _ fun b h => ?_) ?_
    · have := hb b (List.mem_of_mem_take h)
      have := (cap_pos (n := n)).2
      omega
    · have l4 : (bs.take i).length ≤ 4 := by
        rw [List.length_take]
        omega
      exact Nat.le_trans (Nat.pow_le_pow_right (by decide) l4) (by decide)
theorem valV_tab {box : List (List Int)} {f f' : List Int → Int} (h : ∀ m ∈ box, f m = f' m) : tabL box f = tabL box f' := by
  unfold tabL
  refine List.map_congr_left fun m hm => ?_
  rw [h m hm]
theorem nodup_take {box : List (List Int)} (h : box.Nodup) {i : Nat} {m : List Int} (hm : box[i]? = some m) : m ∉ box.take i := fun z => by
  obtain ⟨j, hj⟩ := List.mem_iff_getElem?.mp z
  rw [List.getElem?_take] at hj
  split at hj
  · rename_i hji
    have := nd_ix h hj hm
    omega
  · cases hj
theorem corner_in : ∀ bs, ∀ m ∈ boxL bs, ∀ p ∈ cornersL m, p.1 ∈ boxL bs := by
  refine rev_bs ?_ fun bs b ih m hm p hp => ?_
  · intro m hm p hp
    simp [boxL, gridL] at hm
    subst hm
    simp [cornersL] at hp
    subst hp
    simp [boxL, gridL]
  · obtain ⟨h, c, hh, hc, rfl⟩ := mem_snoc.mp hm
    obtain ⟨c0, cb⟩ := mem_rng.mp hc
    rw [cornersL_snoc] at hp
    unfold cstep at hp
    obtain ⟨p', hp', hq0⟩ := List.mem_flatMap.mp hp
    obtain ⟨q, hq, rfl⟩ := List.mem_map.mp hq0
    refine mem_snoc.mpr ⟨p'.1, q.1, ih h hh p' hp', mem_rng.mpr ?_, rfl⟩
    unfold choices at hq
    split at hq
    · simp at hq
      rcases hq with rfl | rfl
      · exact ⟨by show 0 ≤ c - 1; omega, by show c - 1 ≤ b; omega⟩
      · exact ⟨c0, cb⟩
    · simp at hq
      subst hq
      exact ⟨c0, cb⟩
theorem box_pos : ∀ bs, 0 < (boxL bs).length := by
  refine rev_bs (by simp [boxL, gridL]) fun bs b ih => ?_
  rw [boxL_snoc]
  obtain ⟨x, hx⟩ := List.exists_mem_of_length_pos ih
  refine List.length_pos_of_mem (a := x ++ [0]) (List.mem_flatMap.mpr ⟨x, hx, List.mem_map.mpr ⟨0, mem_rng.mpr ⟨by omega, by omega⟩, rfl⟩⟩)
theorem tab_of {H : Hp} {d : Addr} {box : List (List Int)} {f : List Int → Int} (e : H d = some (.dT (tabL box f))) : Tab H d (· ∈ box) f := ⟨_, e, fun _ hk => tab_get hk⟩
theorem filt_sumL {box : List (List Int)} {f : List Int → Int} {p : List Int → Bool} : ((box.filter p).map f).sum = S box fun o => if p o = true then f o else 0 := S_if box p f
section
variable {P : Program} {w : World} {K : PySem.W.Frag} {mg : Str → Option Value} {base : Heap}
def spLaw (K : PySem.W.Frag) : Sp := fun vs H Q _ => ∃ (a : Addr) (ns : List Int), vs = [.ref a] ∧ SqL K H a (ns.map V.int) ∧ ns.length ≤ 63 ∧ ∀ H', Q (.bl true) H'
theorem d_law (B : Bt mg) (T : Top K mg "law" slaw ["script"]) (D_law_pot : Def P w K mg base "_law_pot" 1 ["script"] (spPot K)) (D_law_draw : Def P w K mg base "_law_draw" 1 ["pot", "size"] (spDraw K)) (D_law_grid : Def P w K mg base "_law_grid" 1 ["levels"] (spGrid K))
    (D_law_amount : Def P w K mg base "_law_amount" 3 ["pot"] (spAmount K)) (Dcorners : Def P w K mg base "corners" 1 ["moment"] (spCorners K)) (Dcorners_moment : DefK P w K mg base "corners" 1 ["moment"] ["moment"] (fun vs zs => vs ++ zs) (spCorners K)) (D_law_are_corners : Def P w K mg base "_law_are_corners" 3 ["told", "spot"] (spAreCorners K))
    (D_law_sum_over : Def P w K mg base "_law_sum_over" 1 ["told", "table"] (spSumOver K)) (D_law_two_hold : Def P w K mg base "_law_two_hold" 2 ["first", "second", "table", "parts"] (spTwoHold K)) (D_law_before : Def P w K mg base "_law_before" 1 ["one", "other"] (spB K leB)) (D_law_moved : Def P w K mg base "_law_moved" 3 ["pot", "spot"] (spMoved K)) :
    Def P w K mg base "law" 4 ["script"] (spLaw K) := by
  refine mk_def T sclaw (by rintro _ _ _ _ ⟨_, _, rfl, _⟩; rfl) fun ff cdv A outer s H vs Q E hr h => ?_
  obtain ⟨a, ns, rfl, hS, hns, q⟩ := h
  refine ⟨_, (pss_cons (ps_set (i := 1) sclaw.nd rfl (Or.inr rfl) (pe_def D_law_pot (hr.mono (by decide)) (by rfl) (pa_cons (pv 0) pa_nil)))
      (pss_cons (ps_set (i := 2) sclaw.nd rfl (Or.inr rfl) (pe_op op_add pe_int (pe_def D_law_draw (hr.mono (by decide)) (by rfl) (pa_cons (pv 1) (pa_cons pe_int pa_nil)))))
      (pss_cons (ps_setLc (i := 3) (own := [("k", 4)]) (g := (gName 4)) (tt := tYes) (te := (tCall (spDraw K) [] E0 (tCons (tVar 1) (tCons (tOp (rIxL K) (tLst (tCons (tC (.int 8)) (tCons (tC (.int 5)) (tCons (tC (.int 4)) (tCons (tC (.int 3)) tNil))))) (tOp ySub (tVar 2) (tC (.int 1)))) tNil)))) rfl sclaw.nd rfl rfl (sw_true rfl rfl rfl (by decide +kernel)) (pi_range1 (by rfl) B.m_range (pa_cons (pv 2) pa_nil)) (blkOk_by (own := [("k", 4)]) (N := Nlaw) (sc := defScope slaw) (by decide +kernel)) (fun _ _ _ _ _ => (pg_name (i := 4) sclaw.nd rfl (Or.inl rfl))) (fun _ _ _ _ _ => pts_nil) (fun _ _ _ _ _ => (pe_def D_law_draw (hr.mono (by decide)) (by rfl) (pa_cons (pv 1) (pa_cons (pe_ix ix_list (pe_lst (pa_cons pe_int (pa_cons pe_int (pa_cons pe_int (pa_cons pe_int pa_nil))))) (pe_op op_sub (pv 2) pe_int) (fun _ _ => rfl)) pa_nil)))))
      (pss_cons (ps_set (i := 5) sclaw.nd rfl (Or.inl rfl) (pe_def D_law_grid (hr.mono (by decide)) (by rfl) (pa_cons (pe_lc (own := [("bound", 6)]) (g := (gName 6)) (tt := tYes) (te := (tLstRg (tRg1 (tOp yAdd (tVar 6) (tC (.int 1)))))) rfl sclaw.nd (pi_list (pv 3)) (blkOk_by (own := [("bound", 6)]) (N := Nlaw) (sc := defScope slaw) (by decide +kernel)) (fun _ _ _ _ _ => (pg_name (i := 6) sclaw.nd rfl (Or.inl rfl))) (fun _ _ _ _ _ => pts_nil) (fun _ _ _ _ _ => (pe_listRg rfl (by rfl) B.m_list (prg_1 (by rfl) B.m_range (pe_op op_add (pv 6) pe_int))))) pa_nil)))
      (pss_cons (ps_set (i := 7) sclaw.nd rfl (Or.inr rfl) (pe_dnewT))
      (pss_cons (ps_for PassesOwn.never rfl (pi_list (pv 5)) (pg_name (i := 8) sclaw.nd rfl (Or.inl rfl)) (pss_one (ps_dput (hu_of hr) (pv 7) (pv 8) (pe_def D_law_amount (hr.mono (by decide)) (by rfl) (pa_cons (pv 1) pa_nil)) rfl)))
      (pss_cons (ps_set (i := 9) sclaw.nd rfl (Or.inl rfl) (pe_dnewT))
      (pss_cons (ps_for PassesOwn.never rfl (pi_list (pv 5)) (pg_name (i := 8) sclaw.nd rfl (Or.inl rfl)) (pss_cons (ps_set (i := 10) sclaw.nd rfl (Or.inl rfl) (pe_def Dcorners (hr.mono (by decide)) (by rfl) (pa_cons (pv 8) pa_nil)))
      (pss_cons (ps_if (pt_not (pt_val (pe_def D_law_are_corners (hr.mono (by decide)) (by rfl) (pa_cons (pv 10) (pa_cons (pv 8) pa_nil))))) (pss_one (ps_ret pe_bl)) pss_nil)
      (pss_one (ps_dput (hu_of hr) (pv 9) (pv 8) (pe_def D_law_sum_over (hr.mono (by decide)) (by rfl) (pa_cons (pv 10) (pa_cons (pv 7) pa_nil))) rfl)))))
      (pss_cons (ps_set (i := 11) sclaw.nd rfl (Or.inl rfl) (pe_ix ix_list (pv 5) (pe_def D_law_draw (hr.mono (by decide)) (by rfl) (pa_cons (pv 1) (pa_cons (pe_callB call_len_seq (by rfl) B.m_len PySem.boot_len (pa_cons (pv 5) pa_nil)) pa_nil))) (fun _ _ => rfl)))
      (pss_cons (ps_set (i := 12) sclaw.nd rfl (Or.inl rfl) (pe_ix ix_list (pv 5) (pe_def D_law_draw (hr.mono (by decide)) (by rfl) (pa_cons (pv 1) (pa_cons (pe_callB call_len_seq (by rfl) B.m_len PySem.boot_len (pa_cons (pv 5) pa_nil)) pa_nil))) (fun _ _ => rfl)))
      (pss_cons (ps_if (pt_not (pt_val (pe_def D_law_two_hold (hr.mono (by decide)) (by rfl) (pa_cons (pv 11) (pa_cons (pv 12) (pa_cons (pv 7) (pa_cons (pv 9) pa_nil))))))) (pss_one (ps_ret pe_bl)) pss_nil)
      (pss_cons (ps_set (i := 10) sclaw.nd rfl (Or.inl rfl) (pe_defK0 Dcorners_moment (hr.mono (by decide)) (by rfl) (pk_cons (pv 11) pk_nil)))
      (pss_cons (ps_if (pt_not (pt_val (pe_def D_law_are_corners (hr.mono (by decide)) (by rfl) (pa_cons (pv 10) (pa_cons (pv 11) pa_nil))))) (pss_one (ps_ret pe_bl)) pss_nil)
      (pss_cons (ps_set (i := 13) sclaw.nd rfl (Or.inl rfl) (pe_dnewT))
      (pss_cons (ps_for PassesOwn.never rfl (pi_list (pv 10)) (pg_name (i := 14) sclaw.nd rfl (Or.inr rfl)) (pss_one (ps_dput (hu_of hr) (pv 13) (pe_ix ix_tup (pv 14) pe_int (fun _ _ => rfl)) (pe_callB (cr_sum rfl) (by rfl) B.m_sum (by decide +kernel) (pa_cons (pe_lc (own := [("one", 8)]) (g := (gName 8)) (tt := (tB (tCall (spB K leB) [] E0 (tCons (tVar 8) (tCons (tOp (rIxT K) (tVar 14) (tC (.int 0))) tNil))))) (te := (tDGet (tVar 7) (tVar 8))) rfl sclaw.nd (pi_list (pv 5)) (blkOk_by (own := [("one", 8)]) (N := Nlaw) (sc := defScope slaw) (by decide +kernel)) (fun _ _ _ _ _ => (pg_name (i := 8) sclaw.nd rfl (Or.inl rfl))) (fun _ _ _ _ _ => (pts_one (pt_val (pe_def D_law_before (hr.mono (by decide)) (by rfl) (pa_cons (pv 8) (pa_cons (pe_ix ix_tup (pv 14) pe_int (fun _ _ => rfl)) pa_nil)))))) (fun _ _ _ _ _ => (pe_dget (hu_of hr) (pv 7) (pv 8) (fun _ _ => rfl)))) pa_nil)) rfl)))
      (pss_cons (ps_if (pt_cmpR op_ne (pe_def D_law_sum_over (hr.mono (by decide)) (by rfl) (pa_cons (pv 10) (pa_cons (pv 13) pa_nil))) (pe_dget (hu_of hr) (pv 7) (pv 11) (fun _ _ => rfl)) (nomark _)) (pss_one (ps_ret pe_bl)) pss_nil)
      (pss_cons (ps_set (i := 15) sclaw.nd rfl (Or.inl rfl) (pe_def D_law_moved (hr.mono (by decide)) (by rfl) (pa_cons (pv 1) (pa_cons (pv 11) pa_nil))))
      (pss_one (ps_ret (pe_def D_law_are_corners (hr.mono (by decide)) (by rfl) (pa_cons (pe_def Dcorners (hr.mono (by decide)) (by rfl) (pa_cons (pv 15) pa_nil)) (pa_cons (pv 15) pa_nil)))))))))))))))))))))), ?_⟩
  -- pot, span
  refine ⟨.ref a, rfl, a, ns, rfl, hS, fun H1 p s1 np pt1 => ?_⟩
  refine ⟨.ref p, rfl, p, 4, rfl, pt1, by decide, by decide, fun H2 r s2 pt2 r0 r4 => ⟨_, _, rfl, rfl, ?_⟩⟩
  have sp1 : 1 ≤ (1 + r) := by omega
  have sp4 : (1 + r) ≤ 4 := by omega
  -- bounds
  refine ⟨.int (1 + r), rfl, (1 + r), rfl, by omega, by omega, fun Db hDb => ?_⟩
  have npDb := pt2.ne hDb
  refine lc_it (walk_range (lo := 0) (n := (1 + r).toNat)) (fun i H' => SameB p H2 H' ∧ PotAt H' p ∧ ∃ bs : List Nat, H' Db = some (.lst (bs.map fun b => V.int (b : Nat))) ∧ bs.length = i ∧ ∀ b ∈ bs, (b : Int) < cap (1 + r))
    ⟨Same.b (same_upd hDb), pt2.upd npDb, [], upd_same, rfl, fun b hb => by simp at hb⟩ (fun i H' _ _ => True.intro) (fun i x H' H'' hi pv' y => ?_) (fun H3 pv' => ?_)
  · obtain ⟨rfl, rfl⟩ := y
    obtain ⟨e1, pt3, bs, eb, hl, hb⟩ := pv'
    refine ⟨rfl, .ref p, rfl, by show 4 ≤ sizeLine; decide, fun l hl2 => ⟨.int (1 + r), rfl, _, _, rfl, rfl, l, _, (1 + r) - 1, _, rfl, rfl, SqL.of upd_same, cap_at sp1 sp4, p, cap (1 + r), rfl, pt3.upd (pt3.ne hl2), cap_pos.1, by have := (cap_pos (n := 1 + r)).2; omega, fun H5 r' s5 pt5 r0' r1' => ?_⟩⟩
    have eb5 : H5 Db = some (.lst (bs.map fun b => V.int (b : Nat))) := s5 _ _ npDb.symm (same_upd hl2 _ _ eb)
    refine ⟨_, eb5, ?_, ((e1.trans (Same.b (same_upd hl2))).trans s5).mut hDb, pt5.upd npDb, bs ++ [r'.toNat], ?_, by simp [hl], fun b hb' => ?_⟩
    · rw [List.length_map, hl]
      exact Nat.lt_of_lt_of_le hi (Nat.le_trans (show (1 + r).toNat ≤ 4 by omega) (by decide))
    · rw [upd_same, List.map_append]
      simp only [List.map_cons, List.map_nil]
      rw [Int.toNat_of_nonneg r0']
    · rcases List.mem_append.mp hb' with h' | h'
      · exact hb b h'
      · rw [List.mem_singleton.mp h']
        omega
  · obtain ⟨e3, pt3, bs, eb, hl, hb⟩ := pv'
    have hbl : (bs.length : Int) = (1 + r) := by omega
    obtain ⟨h81, htk⟩ := box_81 sp1 sp4 hbl hb
    -- [list(range(bound + 1)) for bound in bounds]
    refine ⟨.ref Db, rfl, Db, rfl, ⟨_, SqL.of eb⟩, fun Dr hDr => ?_⟩
    refine lc_it (walk_list (K := K) (xs := bs.map fun b => V.int (b : Nat))) (fun i H' => Same H3 H' ∧ ∃ acc, H' Dr = some (.lst acc) ∧ acc.length = i ∧ ∀ j b, j < i → bs[j]? = some b → ∃ qa, acc[j]? = some (.ref qa) ∧ qa ≠ Dr ∧ H' qa = some (.lst ((rng b).map V.int)))
      ⟨same_upd hDr, [], upd_same, rfl, fun j b hj => by omega⟩ (fun i H' _ pw => SqL.of (pw.1 _ _ eb)) (fun i x H' H'' hi pw y => ?_) (fun H4 pw => ?_)
    · obtain ⟨rfl, hx⟩ := y
      obtain ⟨b, hbi, rfl⟩ := map_at hx
      obtain ⟨e4, acc, ea, hla, hacc⟩ := pw
      have hb8 : b < 8 := by
        have := hb b (List.mem_of_getElem? hbi)
        have := (cap_pos (n := 1 + r)).2
        omega
      refine ⟨rfl, _, rfl, _, _, rfl, rfl, _, rfl, ⟨by decide, by decide, by omega, by omega, by omega⟩, fun qa hqa => ?_⟩
      have nq : qa ≠ Dr := (ne_of_none ea hqa).symm
      have ea' := same_upd (o := .lst (rgV 0 ((b : Int) + 1))) hqa _ _ ea
      refine ⟨acc, ea', ?_, (e4.trans (same_upd hqa)).mut hDr, _, upd_same, by simp [hla], fun j b' hj hj2 => ?_⟩
      · rw [hla]
        have : i < bs.length := by simpa using hi
        exact Nat.lt_of_lt_of_le this (Nat.le_trans (show bs.length ≤ 4 by omega) (by decide))
      · by_cases hji : j < i
        · obtain ⟨qb, h1, h2, h3⟩ := hacc j b' hji hj2
          refine ⟨qb, by rw [List.getElem?_append_left (by omega)]; exact h1, h2, ?_⟩
          rw [upd_ne h2]
          exact same_upd hqa _ _ h3
        · have : j = i := by omega
          subst this
          rw [hbi] at hj2
          cases hj2
          refine ⟨qa, by rw [List.getElem?_append_right (by omega), hla, Nat.sub_self]; rfl, nq, ?_⟩
          rw [upd_ne nq, upd_same, rgV_rng]
    · obtain ⟨e4, acc, ea, hla, hacc⟩ := pw
      rw [List.length_map] at hla hacc
      have hrows : DaAll K H4 acc ((bs.map rng).map li) := by
        have key : ∀ (bs : List Nat) (acc : List V), acc.length = bs.length → (∀ j b, j < bs.length → bs[j]? = some b → ∃ qa, acc[j]? = some (.ref qa) ∧ qa ≠ Dr ∧ H4 qa = some (.lst ((rng b).map V.int))) → DaAll K H4 acc ((bs.map rng).map li) := by
          intro bs
          induction bs with
          | nil =>
            intro acc h _
            rw [List.length_eq_zero_iff.mp h]
            exact .nil
          | cons b bs ih =>
            intro acc h hh
            cases acc with
            | nil => cases h
            | cons v acc =>
              obtain ⟨qa, h1, _, h3⟩ := hh 0 b (by simp) rfl
              cases Option.some.inj h1
              exact .cons (.lst (SqL.of h3) (da_ints _)) (ih acc (by simpa using h) fun j b' hj hj2 => hh (j + 1) b' (by simpa using hj) hj2)
        exact key bs acc hla hacc
      refine ⟨Dr, bs.map rng, rfl, .lst (SqL.of ea) hrows, by simp; omega, fun i => ?_, fun rr hr' => ?_, fun H5 G gv s5 nG eG dG => ?_⟩
      · have := htk i
        unfold boxL at this
        rw [List.map_take] at this
        exact this
      · obtain ⟨b, hb', rfl⟩ := List.mem_map.mp hr'
        have := hb b hb'
        have := (cap_pos (n := 1 + r)).2
        rw [rng_len]
        omega
      · -- table = {}
        have pt5 : PotAt H5 p := (pt3.same e4).same s5
        have npG : G ≠ p := fun z => by
          subst z
          obtain ⟨o, ho⟩ := (pt3.same e4).there
          rw [nG] at ho
          cases ho
        have lg := dG.length
        rw [List.length_map] at lg
        have hbx : gridL (bs.map rng) = boxL bs := rfl
        rw [hbx] at dG lg
        have bnd := box_nodup bs
        have lm : ∀ {m : List Int}, m ∈ boxL bs → m.length ≤ 6 := fun hm => by
          rw [boxL_len hm]
          omega
        refine fun dt hdt => ?_
        have npt : dt ≠ p := (pt5.ne hdt).symm
        refine ⟨.ref G, rfl, G, rfl, ⟨_, SqL.of (same_upd hdt _ _ eG)⟩, ?_⟩
        refine for_list (xs := gv) (fun i σ H' => ∃ (y8 : Option V) (f : List Int → Int), σ = [some (.ref a), some (.ref p), some (.int (1 + r)), some (.ref Db), none, some (.ref G), none, some (.ref dt), y8, none, none, none, none, none, none, none] ∧ SameB p H5 H' ∧ PotAt H' p ∧ H' dt = some (.dT (tabL ((boxL bs).take i) f)))
          ⟨none, fun _ => 0, rfl, Same.b (same_upd hdt), pt5.upd (pt5.ne hdt), upd_same⟩ (fun i σ H' _ pw => ?_) (fun i x σ H' hx pw => ?_) (fun σ H6 pw => ?_)
        · obtain ⟨_, _, rfl, e6, _⟩ := pw
          exact SqL.of (e6 _ _ npG eG)
        · obtain ⟨y8, f, rfl, e6, pt6, et⟩ := pw
          obtain ⟨d, hd1, hd2⟩ := dG.get hx
          obtain ⟨m, hm, rfl⟩ := mo_at hd1
          obtain ⟨b, rfl, hb2⟩ := Mo.trk hd2
          obtain ⟨pa, pb, pc, ep5, _⟩ := id pt5
          have nbp : b ≠ p := ne_of hb2 ep5 (by intro z; cases z)
          refine ⟨.ref p, rfl, p, rfl, pt6, fun H8 v s8 pt8 => ⟨.ref dt, rfl, .ref b, rfl, dt, _, rfl, DPut.t (k := kk m) (s8 _ _ npt et) (by rw [kk_kV]; exact s8 _ _ nbp (e6 _ _ nbp hb2)) ?_, ?_⟩⟩
          · simp only [tabL, List.length_map, List.length_take]
            exact Nat.lt_of_le_of_lt (Nat.le_trans (Nat.min_le_right _ _) h81) (by decide)
          · refine ⟨_, fun o => if o = m then v else f o, rfl, (e6.trans s8).mut hdt, pt8.upd npt.symm, ?_⟩
            have nin := nodup_take bnd hm
            rw [upd_same, putK_new _ (tab_none nin), List.take_add_one, hm]
            unfold tabL
            rw [List.map_append]
            congr 3
            · refine List.map_congr_left fun o ho => ?_
              show (kk o, V.int (f o)) = (kk o, V.int (if o = m then _ else f o))
              rw [if_neg (fun z : o = m => nin (by rw [← z]; exact ho))]
            · simp
        · obtain ⟨y8, f, rfl, e6, pt6, et⟩ := pw
          rw [lg, List.take_of_length_le (Nat.le_refl _)] at et
          obtain ⟨pa, pb, pc, ep5, _⟩ := id pt5
          have eG6 : H6 G = some (.lst gv) := e6 _ _ npG eG
          have dG6 : DaAll K H6 gv ((boxL bs).map mo) := Da.stAll (SameB.st e6 ep5 True.intro) _ _ (imm_mos _) dG
          -- parts = {}
          refine fun dp hdp => ?_
          have ntp : dt ≠ dp := ne_of_none et hdp
          refine ⟨.ref G, rfl, G, rfl, ⟨_, SqL.of (same_upd hdp _ _ eG6)⟩, ?_⟩
          refine for_list (xs := gv) (fun i σ H' => ∃ (y8 y10 : Option V), σ = [some (.ref a), some (.ref p), some (.int (1 + r)), some (.ref Db), none, some (.ref G), none, some (.ref dt), y8, some (.ref dp), y10, none, none, none, none, none] ∧ Same H6 H' ∧ H' dp = some (.dT (tabL ((boxL bs).take i) fun o => sumOver (cornersL o) f)))
            ⟨y8, none, rfl, same_upd hdp, upd_same⟩ (fun i σ H' _ pw => ?_) (fun i x σ H' hx pw => ?_) (fun σ H7 pw => ?_)
          · obtain ⟨_, _, rfl, e7, _⟩ := pw
            exact SqL.of (e7 _ _ eG6)
          · obtain ⟨y8, y10, rfl, e7, edp⟩ := pw
            obtain ⟨d, hd1, hd2⟩ := dG6.get hx
            obtain ⟨m, hm, rfl⟩ := mo_at hd1
            obtain ⟨b, rfl, hb2⟩ := Mo.trk hd2
            have hmem := List.mem_of_getElem? hm
            have hm6 := lm hmem
            refine ⟨.ref b, rfl, b, m, rfl, SqT.of (e7 _ _ hb2), hm6, fun H9 g9 gv9 s9 n9 e9 d9 => ?_⟩
            refine ⟨.ref g9, rfl, .ref b, rfl, g9, b, gv9, m, rfl, e9, d9, SqT.of (s9 _ _ (e7 _ _ hb2)), hm6, box_nonneg bs m hmem, fun H10 s10 => ⟨_, rfl, iteF ?_⟩⟩
            have l64 := cornersL_small m.length m rfl
            have l6 : (2 : Nat) ^ m.length ≤ 2 ^ 6 := Nat.pow_le_pow_right (by decide) hm6
            have e710 := (e7.trans s9).trans s10
            refine ⟨.ref g9, rfl, .ref dt, rfl, g9, dt, gv9, cornersL m, (· ∈ boxL bs), f, rfl, s10 _ _ e9, Da.sameAll s10 _ _ d9, by omega, fun p' hp' => (cornersL_lens m.length m rfl p' hp').2, fun p' hp' => corner_in bs m hmem p' hp', tab_of (e710 _ _ et), fun H11 s11 => ?_⟩
            have e711 := e710.trans s11
            have edp11 := s11 _ _ (s10 _ _ (s9 _ _ edp))
            refine ⟨.ref dp, rfl, .ref b, rfl, dp, _, rfl, DPut.t (k := kk m) edp11 (by rw [kk_kV]; exact e711 _ _ hb2) ?_, ?_⟩
            · simp only [tabL, List.length_map, List.length_take]
              exact Nat.lt_of_le_of_lt (Nat.le_trans (Nat.min_le_right _ _) h81) (by decide)
            · refine ⟨_, _, rfl, e711.mut hdp, ?_⟩
              rw [upd_same, putK_new _ (tab_none (nodup_take bnd hm)), List.take_add_one, hm]
              unfold tabL
              rw [List.map_append]
              rfl
          · obtain ⟨y8, y10, rfl, e7, edp⟩ := pw
            rw [lg, List.take_of_length_le (Nat.le_refl _)] at edp
            have pt7 := pt6.same e7
            have eG7 := e7 _ _ eG6
            have dG7 := Da.sameAll e7 _ _ dG6
            have hpos := box_pos bs
            have ndp : dp ≠ p := fun z => by
              subst z
              obtain ⟨o, ho⟩ := pt6.there
              rw [hdp] at ho
              cases ho
            obtain ⟨pa7, pb7, pc7, ep7, _⟩ := id pt7
            -- first
            refine ⟨.ref G, rfl, .ref p, rfl, .ref G, rfl, G, _, rfl, .inl (SqL.of eG7), p, _, rfl, pt7, by omega, by omega, fun H8 r1 s8 pt8 r10 r11 => ?_⟩
            obtain ⟨x, hx⟩ : ∃ x, (boxL bs)[r1.toNat]? = some x := ⟨_, List.getElem?_eq_getElem (by omega)⟩
            obtain ⟨v1, hv1, dv1⟩ := dG7.at (i := r1.toNat) (d := mo x) (by simp [hx])
            obtain ⟨a1, rfl, ea1⟩ := Mo.trk dv1
            have na1 : a1 ≠ p := ne_of ea1 ep7 (by intro z; cases z)
            refine ⟨G, gv, r1, _, rfl, rfl, SqL.of (s8 _ _ npG eG7), at_of (j := r1.toNat) (by omega) hv1, ?_⟩
            -- second
            refine ⟨.ref G, rfl, .ref p, rfl, .ref G, rfl, G, _, rfl, .inl (SqL.of (s8 _ _ npG eG7)), p, _, rfl, pt8, by omega, by omega, fun H9 r2 s9 pt9 r20 r21 => ?_⟩
            obtain ⟨y, hy⟩ : ∃ y, (boxL bs)[r2.toNat]? = some y := ⟨_, List.getElem?_eq_getElem (by omega)⟩
            obtain ⟨v2, hv2, dv2⟩ := dG7.at (i := r2.toNat) (d := mo y) (by simp [hy])
            obtain ⟨a2, rfl, ea2⟩ := Mo.trk dv2
            have na2 : a2 ≠ p := ne_of ea2 ep7 (by intro z; cases z)
            have s79 : SameB p H7 H9 := s8.trans s9
            refine ⟨G, gv, r2, _, rfl, rfl, SqL.of (s79 _ _ npG eG7), at_of (j := r2.toNat) (by omega) hv2, ?_⟩
            have xin := List.mem_of_getElem? hx
            have yin := List.mem_of_getElem? hy
            have x6 := lm xin
            have et9 : H9 dt = some (.dT (tabL (boxL bs) f)) := s79 _ _ npt (e7 _ _ et)
            -- if not _law_two_hold(first, second, table, parts)
            refine ⟨.ref a1, rfl, .ref a2, rfl, .ref dt, rfl, .ref dp, rfl, a1, a2, dt, dp, bs, x, y, f, rfl, s79 _ _ na1 ea1, s79 _ _ na2 ea2, xin, yin, by omega, by omega, tab_of et9, ntp, s79 _ _ ndp edp, fun H10 s10 => ⟨_, rfl, iteF ?_⟩⟩
            have t10 : H10 a1 = some (.tup (x.map V.int)) := s10 _ _ (s79 _ _ na1 ea1)
            -- told = corners(moment=first)
            refine ⟨.ref a1, rfl, a1, x, rfl, SqT.of t10, x6, fun H11 g1 gv1 s11 n11 e11 d11 => ?_⟩
            have t11 := s11 _ _ t10
            refine ⟨.ref g1, rfl, .ref a1, rfl, g1, a1, gv1, x, rfl, e11, d11, SqT.of t11, x6, box_nonneg bs x xin, fun H12 s12 => ⟨_, rfl, iteF ?_⟩⟩
            have l64 := cornersL_small x.length x rfl
            have l6 : (2 : Nat) ^ x.length ≤ 2 ^ 6 := Nat.pow_le_pow_right (by decide) x6
            have lg1 := d11.length
            rw [List.length_map] at lg1
            have et12 : H12 dt = some (.dT (tabL (boxL bs) f)) := s12 _ _ (s11 _ _ (s10 _ _ et9))
            have eG12 : H12 G = some (.lst gv) := s12 _ _ (s11 _ _ (s10 _ _ (s79 _ _ npG eG7)))
            have dG12 : DaAll K H12 gv ((boxL bs).map mo) := Da.sameAll ((s10.trans s11).trans s12) _ _ (Da.stAll (SameB.st s79 ep7 True.intro) _ _ (imm_mos _) dG7)
            have d12 := Da.sameAll s12 _ _ d11
            have e12 := s12 _ _ e11
            have pt12 := ((pt9.same s10).same s11).same s12
            have t12 := s12 _ _ t11
            -- sums = {}
            refine fun ds hds => ?_
            refine ⟨.ref g1, rfl, g1, rfl, ⟨_, SqL.of (same_upd hds _ _ e12)⟩, ?_⟩
            refine for_list (xs := gv1) (fun i σ H' => ∃ (y14 : Option V) (kvs : List (List Key × V)), σ = [some (.ref a), some (.ref p), some (.int (1 + r)), some (.ref Db), none, some (.ref G), none, some (.ref dt), y8, some (.ref dp), some (.ref g1), some (.ref a1), some (.ref a2), some (.ref ds), y14, none] ∧ Same H12 H' ∧ H' ds = some (.dT kvs) ∧ kvs.length ≤ i ∧ ∀ c, (∃ p' ∈ (cornersL x).take i, p'.1 = c) → valV kvs (kk c) = some (.int (S (boxL bs) fun o => if leB o c = true then f o else 0)))
              ⟨none, [], rfl, same_upd hds, upd_same, Nat.le_refl _, fun c hc => by simp at hc⟩ (fun i σ H' _ pw => ?_) (fun i x' σ H' hx' pw => ?_) (fun σ H13 pw => ?_)
            · obtain ⟨_, _, rfl, e13, _⟩ := pw
              exact SqL.of (e13 _ _ e12)
            · obtain ⟨y14, kvs, rfl, e13, eds, hkl, hkv⟩ := pw
              obtain ⟨d, hd1, hd2⟩ := d12.get hx'
              obtain ⟨pq, hpq, rfl⟩ := map_at hd1
              obtain ⟨ap, xp, rfl, hap, hxp⟩ := pr_inv (Da.same e13 _ _ hd2)
              obtain ⟨b, rfl, hb2⟩ := hxp.trk
              have hpm := List.mem_of_getElem? hpq
              have pin := corner_in bs x xin pq hpm
              have lpq := boxL_len pin
              -- sum([table[one] for one in box if _law_before(one, pair[0])])
              refine ⟨.ref G, rfl, G, rfl, ⟨_, SqL.of (e13 _ _ eG12)⟩, fun D hD => ?_⟩
              refine lc_val_if (walk_list (K := K) (xs := gv)) hD (by omega) (fun H14 e14 => SqL.of (e14 _ _ (e13 _ _ eG12))) (fun i => optB (fun u => leB u pq.1) (boxL bs)[i]?) (fun i => optV f (boxL bs)[i]?) (fun j x5 H14 H14' Q' R hj e14 y5 k1 k2 => ?_) (fun H14 e14 eD => ?_)
              · obtain ⟨rfl, hx5⟩ := y5
                obtain ⟨d, hd3, hd4⟩ := dG12.get hx5
                obtain ⟨o, ho, rfl⟩ := mo_at hd3
                obtain ⟨qa, rfl, hqa⟩ := Mo.trk hd4
                have lo := boxL_len (List.mem_of_getElem? ho)
                have hqa14 := e14 _ _ (e13 _ _ hqa)
                refine ⟨rfl, .ref qa, rfl, .ref ap, rfl, ap, _, 0, _, rfl, rfl, e14.seqT hap, atI_nat (j := 0) rfl, qa, b, o, pq.1, rfl, SqT.of hqa14, SqT.of (e14 _ _ hb2), by omega, by omega, fun H15 e15 => ⟨_, rfl, ?_⟩⟩
                by_cases hle : leB o pq.1 = true
                · rw [hle]
                  refine iteT ⟨.ref dt, rfl, .ref qa, rfl, dt, _, rfl, dget_rd (.inl (e15 _ _ (e14 _ _ (e13 _ _ et12)))) (e15 _ _ hqa14) (tab_get (List.mem_of_getElem? ho)), ?_⟩
                  have := k1 H15 (by simp only [ho, optB]; exact hle) e15
                  simp only [ho, optV] at this
                  exact this
                · rw [show leB o pq.1 = false by simpa using hle]
                  exact iteF (k2 H15 (by simp only [ho, optB]; simpa using hle) e15)
              · have lg' : gv.length = (boxL bs).length := lg
                rw [lg', filt_sum] at eD
                refine ⟨D, _, rfl, SqL.of eD, .ref ds, rfl, .ref ap, rfl, ap, _, 0, _, rfl, rfl, e14.seqT hap, atI_nat (j := 0) rfl, ds, _, rfl, DPut.t (k := kk pq.1) (e14 _ _ eds) (by rw [kk_kV]; exact e14 _ _ hb2) ?_, ?_⟩
                · have : i < gv1.length := (List.getElem?_eq_some_iff.mp hx').1
                  exact Nat.lt_of_le_of_lt (show kvs.length ≤ 64 by omega) (by decide)
                · refine ⟨_, _, rfl, (e13.trans e14).mut hds, upd_same, Nat.le_trans (length_putK _ _ _) (by omega), fun c hc => ?_⟩
                  rw [valV_put]
                  by_cases hcc : kk c = kk pq.1
                  · rw [if_pos hcc, kk_inj hcc, filt_sumL]
                  · rw [if_neg hcc]
                    refine hkv c ?_
                    obtain ⟨p', hp', rfl⟩ := hc
                    rw [List.take_add_one, hpq] at hp'
                    rcases List.mem_append.mp hp' with h' | h'
                    · exact ⟨p', h', rfl⟩
                    · have : p' = pq := by simpa using h'
                      exact absurd (by rw [this]) hcc
            · obtain ⟨y14, kvs, rfl, e13, eds, hkl, hkv⟩ := pw
              rw [lg1, List.take_of_length_le (Nat.le_refl _)] at hkv
              -- if _law_sum_over(told, sums) != table[first]
              refine ⟨.ref g1, rfl, .ref ds, rfl, g1, ds, gv1, cornersL x, (fun c => ∃ p' ∈ cornersL x, p'.1 = c), _, rfl, e13 _ _ e12, Da.sameAll e13 _ _ d12, by omega, fun p' hp' => (cornersL_lens x.length x rfl p' hp').2, fun p' hp' => ⟨p', hp', rfl⟩, ⟨kvs, eds, hkv⟩, fun H14 s14 => ?_⟩
              have e14 := e13.trans s14
              rw [m2 bs f x xin]
              refine ⟨.ref dt, rfl, .ref a1, rfl, dt, _, rfl, (tab_of (e14 _ _ et12)).get (e14 _ _ t12) xin, rfl, _, rfl, ?_⟩
              rw [decide_eq_true rfl]
              -- moved
              refine iteF ⟨.ref p, rfl, .ref a1, rfl, p, a1, x, rfl, pt12.same e14, SqT.of (e14 _ _ t12), x6, box_nonneg bs x xin, fun H15 am m' s15 pt15 n15 e15 hl' h0' => ?_⟩
              refine ⟨.ref am, rfl, am, m', rfl, SqT.of e15, by omega, fun H16 g2 gv2 s16 n16 e16 d16 => ?_⟩
              exact ⟨.ref am, rfl, g2, am, gv2, m', rfl, e16, d16, SqT.of (s16 _ _ e15), by omega, h0', fun H17 _ => q H17⟩
end
end K1

namespace K1
open PySem PySem.Spec PyProof.Rows L2
section
theorem all_mk {l : PySem.W.OpenLaw} {w : World} {K : PySem.W.Frag} {h : Heap} {mg : Str → Option Value} {fa f0 f1 f2 f3 f4 f5 f6 f7 f8 f9 f10 f11 f12 f13 f14 f15 f16 f17 f18 : Addr} (X : K.In h) (G : h.Ns mainGlobals mg) (hfa : mg "law" = some (.ref fa))
    {od0 an0 : Option Addr} {sl0 : Array (Option Value)} {oc0 kV0 dc0 pm0 cd0 ct0 : Value}
    {od1 an1 : Option Addr} {sl1 : Array (Option Value)} {oc1 kV1 dc1 pm1 cd1 ct1 : Value}
    {od2 an2 : Option Addr} {sl2 : Array (Option Value)} {oc2 kV2 dc2 pm2 cd2 ct2 : Value}
    {od3 an3 : Option Addr} {sl3 : Array (Option Value)} {oc3 kV3 dc3 pm3 cd3 ct3 : Value}
    {od4 an4 : Option Addr} {sl4 : Array (Option Value)} {oc4 kV4 dc4 pm4 cd4 ct4 : Value}
    {od5 an5 : Option Addr} {sl5 : Array (Option Value)} {oc5 kV5 dc5 pm5 cd5 ct5 : Value}
    {od6 an6 : Option Addr} {sl6 : Array (Option Value)} {oc6 kV6 dc6 pm6 cd6 ct6 : Value}
    {od7 an7 : Option Addr} {sl7 : Array (Option Value)} {oc7 kV7 dc7 pm7 cd7 ct7 : Value}
    {od8 an8 : Option Addr} {sl8 : Array (Option Value)} {oc8 kV8 dc8 pm8 cd8 ct8 : Value}
    {od9 an9 : Option Addr} {sl9 : Array (Option Value)} {oc9 kV9 dc9 pm9 cd9 ct9 : Value}
    {od10 an10 : Option Addr} {sl10 : Array (Option Value)} {oc10 kV10 dc10 pm10 cd10 ct10 : Value}
    {od11 an11 : Option Addr} {sl11 : Array (Option Value)} {oc11 kV11 dc11 pm11 cd11 ct11 : Value}
    {od12 an12 : Option Addr} {sl12 : Array (Option Value)} {oc12 kV12 dc12 pm12 cd12 ct12 : Value}
    {od13 an13 : Option Addr} {sl13 : Array (Option Value)} {oc13 kV13 dc13 pm13 cd13 ct13 : Value}
    {od14 an14 : Option Addr} {sl14 : Array (Option Value)} {oc14 kV14 dc14 pm14 cd14 ct14 : Value}
    {od15 an15 : Option Addr} {sl15 : Array (Option Value)} {oc15 kV15 dc15 pm15 cd15 ct15 : Value}
    {od16 an16 : Option Addr} {sl16 : Array (Option Value)} {oc16 kV16 dc16 pm16 cd16 ct16 : Value}
    {od17 an17 : Option Addr} {sl17 : Array (Option Value)} {oc17 kV17 dc17 pm17 cd17 ct17 : Value}
    {od18 an18 : Option Addr} {sl18 : Array (Option Value)} {oc18 kV18 dc18 pm18 cd18 ct18 : Value}
    (a0 : PySem.W.nsIn K mainGlobals "before" = some (some (.ref f0))) (l0 : K.lookup f0 = some ⟨oc0, od0, .func (PySem.W.fnOf "before" "before" (defArgs sbefore) (defBody sbefore) (defScope sbefore) .none kV0 dc0 pm0 an0 cd0 ct0), sl0⟩) (c0 : PySem.W.codeIn K cd0 "before" = true) (k0 : PySem.W.keepIn K (.ref f0) = true)
    (a1 : PySem.W.nsIn K mainGlobals "join_of" = some (some (.ref f1))) (l1 : K.lookup f1 = some ⟨oc1, od1, .func (PySem.W.fnOf "join_of" "join_of" (defArgs sjoin_of) (defBody sjoin_of) (defScope sjoin_of) .none kV1 dc1 pm1 an1 cd1 ct1), sl1⟩) (c1 : PySem.W.codeIn K cd1 "join_of" = true) (k1 : PySem.W.keepIn K (.ref f1) = true)
    (a2 : PySem.W.nsIn K mainGlobals "meet_of" = some (some (.ref f2))) (l2 : K.lookup f2 = some ⟨oc2, od2, .func (PySem.W.fnOf "meet_of" "meet_of" (defArgs smeet_of) (defBody smeet_of) (defScope smeet_of) .none kV2 dc2 pm2 an2 cd2 ct2), sl2⟩) (c2 : PySem.W.codeIn K cd2 "meet_of" = true) (k2 : PySem.W.keepIn K (.ref f2) = true)
    (a3 : PySem.W.nsIn K mainGlobals "corners" = some (some (.ref f3))) (l3 : K.lookup f3 = some ⟨oc3, od3, .func (PySem.W.fnOf "corners" "corners" (defArgs scorners) (defBody scorners) (defScope scorners) .none kV3 dc3 pm3 an3 cd3 ct3), sl3⟩) (c3 : PySem.W.codeIn K cd3 "corners" = true) (k3 : PySem.W.keepIn K (.ref f3) = true)
    (a4 : PySem.W.nsIn K mainGlobals "_law_pot" = some (some (.ref f4))) (l4 : K.lookup f4 = some ⟨oc4, od4, .func (PySem.W.fnOf "_law_pot" "_law_pot" (defArgs s_law_pot) (defBody s_law_pot) (defScope s_law_pot) .none kV4 dc4 pm4 an4 cd4 ct4), sl4⟩) (c4 : PySem.W.codeIn K cd4 "_law_pot" = true) (k4 : PySem.W.keepIn K (.ref f4) = true)
    (a5 : PySem.W.nsIn K mainGlobals "_law_draw" = some (some (.ref f5))) (l5 : K.lookup f5 = some ⟨oc5, od5, .func (PySem.W.fnOf "_law_draw" "_law_draw" (defArgs s_law_draw) (defBody s_law_draw) (defScope s_law_draw) .none kV5 dc5 pm5 an5 cd5 ct5), sl5⟩) (c5 : PySem.W.codeIn K cd5 "_law_draw" = true) (k5 : PySem.W.keepIn K (.ref f5) = true)
    (a6 : PySem.W.nsIn K mainGlobals "_law_great" = some (some (.ref f6))) (l6 : K.lookup f6 = some ⟨oc6, od6, .func (PySem.W.fnOf "_law_great" "_law_great" (defArgs s_law_great) (defBody s_law_great) (defScope s_law_great) .none kV6 dc6 pm6 an6 cd6 ct6), sl6⟩) (c6 : PySem.W.codeIn K cd6 "_law_great" = true) (k6 : PySem.W.keepIn K (.ref f6) = true)
    (a7 : PySem.W.nsIn K mainGlobals "_law_amount" = some (some (.ref f7))) (l7 : K.lookup f7 = some ⟨oc7, od7, .func (PySem.W.fnOf "_law_amount" "_law_amount" (defArgs s_law_amount) (defBody s_law_amount) (defScope s_law_amount) .none kV7 dc7 pm7 an7 cd7 ct7), sl7⟩) (c7 : PySem.W.codeIn K cd7 "_law_amount" = true) (k7 : PySem.W.keepIn K (.ref f7) = true)
    (a8 : PySem.W.nsIn K mainGlobals "_law_grid" = some (some (.ref f8))) (l8 : K.lookup f8 = some ⟨oc8, od8, .func (PySem.W.fnOf "_law_grid" "_law_grid" (defArgs s_law_grid) (defBody s_law_grid) (defScope s_law_grid) .none kV8 dc8 pm8 an8 cd8 ct8), sl8⟩) (c8 : PySem.W.codeIn K cd8 "_law_grid" = true) (k8 : PySem.W.keepIn K (.ref f8) = true)
    (a9 : PySem.W.nsIn K mainGlobals "_law_is_integer" = some (some (.ref f9))) (l9 : K.lookup f9 = some ⟨oc9, od9, .func (PySem.W.fnOf "_law_is_integer" "_law_is_integer" (defArgs s_law_is_integer) (defBody s_law_is_integer) (defScope s_law_is_integer) .none kV9 dc9 pm9 an9 cd9 ct9), sl9⟩) (c9 : PySem.W.codeIn K cd9 "_law_is_integer" = true) (k9 : PySem.W.keepIn K (.ref f9) = true)
    (a10 : PySem.W.nsIn K mainGlobals "_law_before" = some (some (.ref f10))) (l10 : K.lookup f10 = some ⟨oc10, od10, .func (PySem.W.fnOf "_law_before" "_law_before" (defArgs s_law_before) (defBody s_law_before) (defScope s_law_before) .none kV10 dc10 pm10 an10 cd10 ct10), sl10⟩) (c10 : PySem.W.codeIn K cd10 "_law_before" = true) (k10 : PySem.W.keepIn K (.ref f10) = true)
    (a11 : PySem.W.nsIn K mainGlobals "_law_meet" = some (some (.ref f11))) (l11 : K.lookup f11 = some ⟨oc11, od11, .func (PySem.W.fnOf "_law_meet" "_law_meet" (defArgs s_law_meet) (defBody s_law_meet) (defScope s_law_meet) .none kV11 dc11 pm11 an11 cd11 ct11), sl11⟩) (c11 : PySem.W.codeIn K cd11 "_law_meet" = true) (k11 : PySem.W.keepIn K (.ref f11) = true)
    (a12 : PySem.W.nsIn K mainGlobals "_law_join" = some (some (.ref f12))) (l12 : K.lookup f12 = some ⟨oc12, od12, .func (PySem.W.fnOf "_law_join" "_law_join" (defArgs s_law_join) (defBody s_law_join) (defScope s_law_join) .none kV12 dc12 pm12 an12 cd12 ct12), sl12⟩) (c12 : PySem.W.codeIn K cd12 "_law_join" = true) (k12 : PySem.W.keepIn K (.ref f12) = true)
    (a13 : PySem.W.nsIn K mainGlobals "_law_is_corner" = some (some (.ref f13))) (l13 : K.lookup f13 = some ⟨oc13, od13, .func (PySem.W.fnOf "_law_is_corner" "_law_is_corner" (defArgs s_law_is_corner) (defBody s_law_is_corner) (defScope s_law_is_corner) .none kV13 dc13 pm13 an13 cd13 ct13), sl13⟩) (c13 : PySem.W.codeIn K cd13 "_law_is_corner" = true) (k13 : PySem.W.keepIn K (.ref f13) = true)
    (a14 : PySem.W.nsIn K mainGlobals "_law_are_corners" = some (some (.ref f14))) (l14 : K.lookup f14 = some ⟨oc14, od14, .func (PySem.W.fnOf "_law_are_corners" "_law_are_corners" (defArgs s_law_are_corners) (defBody s_law_are_corners) (defScope s_law_are_corners) .none kV14 dc14 pm14 an14 cd14 ct14), sl14⟩) (c14 : PySem.W.codeIn K cd14 "_law_are_corners" = true) (k14 : PySem.W.keepIn K (.ref f14) = true)
    (a15 : PySem.W.nsIn K mainGlobals "_law_sum_over" = some (some (.ref f15))) (l15 : K.lookup f15 = some ⟨oc15, od15, .func (PySem.W.fnOf "_law_sum_over" "_law_sum_over" (defArgs s_law_sum_over) (defBody s_law_sum_over) (defScope s_law_sum_over) .none kV15 dc15 pm15 an15 cd15 ct15), sl15⟩) (c15 : PySem.W.codeIn K cd15 "_law_sum_over" = true) (k15 : PySem.W.keepIn K (.ref f15) = true)
    (a16 : PySem.W.nsIn K mainGlobals "_law_moved" = some (some (.ref f16))) (l16 : K.lookup f16 = some ⟨oc16, od16, .func (PySem.W.fnOf "_law_moved" "_law_moved" (defArgs s_law_moved) (defBody s_law_moved) (defScope s_law_moved) .none kV16 dc16 pm16 an16 cd16 ct16), sl16⟩) (c16 : PySem.W.codeIn K cd16 "_law_moved" = true) (k16 : PySem.W.keepIn K (.ref f16) = true)
    (a17 : PySem.W.nsIn K mainGlobals "_law_two_hold" = some (some (.ref f17))) (l17 : K.lookup f17 = some ⟨oc17, od17, .func (PySem.W.fnOf "_law_two_hold" "_law_two_hold" (defArgs s_law_two_hold) (defBody s_law_two_hold) (defScope s_law_two_hold) .none kV17 dc17 pm17 an17 cd17 ct17), sl17⟩) (c17 : PySem.W.codeIn K cd17 "_law_two_hold" = true) (k17 : PySem.W.keepIn K (.ref f17) = true)
    (a18 : PySem.W.nsIn K mainGlobals "law" = some (some (.ref f18))) (l18 : K.lookup f18 = some ⟨oc18, od18, .func (PySem.W.fnOf "law" "law" (defArgs slaw) (defBody slaw) (defScope slaw) .none kV18 dc18 pm18 an18 cd18 ct18), sl18⟩) (c18 : PySem.W.codeIn K cd18 "law" = true) (k18 : PySem.W.keepIn K (.ref f18) = true)
    (z0 : PySem.W.nsIn K mainGlobals "all" = some none)
    (z1 : PySem.W.nsIn K mainGlobals "zip" = some none)
    (z2 : PySem.W.nsIn K mainGlobals "tuple" = some none)
    (z3 : PySem.W.nsIn K mainGlobals "max" = some none)
    (z4 : PySem.W.nsIn K mainGlobals "min" = some none)
    (z5 : PySem.W.nsIn K mainGlobals "int" = some none)
    (z6 : PySem.W.nsIn K mainGlobals "bool" = some none)
    (z7 : PySem.W.nsIn K mainGlobals "len" = some none)
    (z8 : PySem.W.nsIn K mainGlobals "range" = some none)
    (z9 : PySem.W.nsIn K mainGlobals "isinstance" = some none)
    (z10 : PySem.W.nsIn K mainGlobals "list" = some none)
    (z11 : PySem.W.nsIn K mainGlobals "sum" = some none)
    : ∃ fd : FuncData, (∀ (s : Shared) (v : Value), BindsTo s fd ⟨[v], []⟩ [("script", v)]) ∧ ∀ base : Heap, K.In base → base.Ns mainGlobals mg → FnOk l.prog w K mg base CX0 4 fa fd ["script"] (spLaw K) := by
  have e := hfa.symm.trans (PySem.W.mg_of X G a18)
  cases e
  have B : Bt mg := ⟨PySem.W.mg_none_of X G z0, PySem.W.mg_none_of X G z1, PySem.W.mg_none_of X G z2, PySem.W.mg_none_of X G z3, PySem.W.mg_none_of X G z4, PySem.W.mg_none_of X G z5, PySem.W.mg_none_of X G z6, PySem.W.mg_none_of X G z7, PySem.W.mg_none_of X G z8, PySem.W.mg_none_of X G z9, PySem.W.mg_none_of X G z10, PySem.W.mg_none_of X G z11⟩
  have F0 := fun_mk (st := sbefore) l0 c0 k0
  have Tbefore : Top K mg "before" sbefore ["first", "second"] := ⟨_, _, F0, PySem.W.mg_of X G a0, F0.binds (ps := ["first", "second"]) fun _ _ _ _ _ _ us hl => match us, hl with | [_, _], _ => rfl⟩
  have F1 := fun_mk (st := sjoin_of) l1 c1 k1
  have Tjoin_of : Top K mg "join_of" sjoin_of ["first", "second"] := ⟨_, _, F1, PySem.W.mg_of X G a1, F1.binds (ps := ["first", "second"]) fun _ _ _ _ _ _ us hl => match us, hl with | [_, _], _ => rfl⟩
  have F2 := fun_mk (st := smeet_of) l2 c2 k2
  have Tmeet_of : Top K mg "meet_of" smeet_of ["first", "second"] := ⟨_, _, F2, PySem.W.mg_of X G a2, F2.binds (ps := ["first", "second"]) fun _ _ _ _ _ _ us hl => match us, hl with | [_, _], _ => rfl⟩
  have F3 := fun_mk (st := scorners) l3 c3 k3
  have Tcorners : Top K mg "corners" scorners ["moment"] := ⟨_, _, F3, PySem.W.mg_of X G a3, F3.binds (ps := ["moment"]) fun _ _ _ _ _ _ us hl => match us, hl with | [_], _ => rfl⟩
  have F4 := fun_mk (st := s_law_pot) l4 c4 k4
  have T_law_pot : Top K mg "_law_pot" s_law_pot ["script"] := ⟨_, _, F4, PySem.W.mg_of X G a4, F4.binds (ps := ["script"]) fun _ _ _ _ _ _ us hl => match us, hl with | [_], _ => rfl⟩
  have F5 := fun_mk (st := s_law_draw) l5 c5 k5
  have T_law_draw : Top K mg "_law_draw" s_law_draw ["pot", "size"] := ⟨_, _, F5, PySem.W.mg_of X G a5, F5.binds (ps := ["pot", "size"]) fun _ _ _ _ _ _ us hl => match us, hl with | [_, _], _ => rfl⟩
  have F6 := fun_mk (st := s_law_great) l6 c6 k6
  have T_law_great : Top K mg "_law_great" s_law_great ["pot"] := ⟨_, _, F6, PySem.W.mg_of X G a6, F6.binds (ps := ["pot"]) fun _ _ _ _ _ _ us hl => match us, hl with | [_], _ => rfl⟩
  have F7 := fun_mk (st := s_law_amount) l7 c7 k7
  have T_law_amount : Top K mg "_law_amount" s_law_amount ["pot"] := ⟨_, _, F7, PySem.W.mg_of X G a7, F7.binds (ps := ["pot"]) fun _ _ _ _ _ _ us hl => match us, hl with | [_], _ => rfl⟩
  have F8 := fun_mk (st := s_law_grid) l8 c8 k8
  have T_law_grid : Top K mg "_law_grid" s_law_grid ["levels"] := ⟨_, _, F8, PySem.W.mg_of X G a8, F8.binds (ps := ["levels"]) fun _ _ _ _ _ _ us hl => match us, hl with | [_], _ => rfl⟩
  have F9 := fun_mk (st := s_law_is_integer) l9 c9 k9
  have T_law_is_integer : Top K mg "_law_is_integer" s_law_is_integer ["told"] := ⟨_, _, F9, PySem.W.mg_of X G a9, F9.binds (ps := ["told"]) fun _ _ _ _ _ _ us hl => match us, hl with | [_], _ => rfl⟩
  have F10 := fun_mk (st := s_law_before) l10 c10 k10
  have T_law_before : Top K mg "_law_before" s_law_before ["one", "other"] := ⟨_, _, F10, PySem.W.mg_of X G a10, F10.binds (ps := ["one", "other"]) fun _ _ _ _ _ _ us hl => match us, hl with | [_, _], _ => rfl⟩
  have F11 := fun_mk (st := s_law_meet) l11 c11 k11
  have T_law_meet : Top K mg "_law_meet" s_law_meet ["one", "other"] := ⟨_, _, F11, PySem.W.mg_of X G a11, F11.binds (ps := ["one", "other"]) fun _ _ _ _ _ _ us hl => match us, hl with | [_, _], _ => rfl⟩
  have F12 := fun_mk (st := s_law_join) l12 c12 k12
  have T_law_join : Top K mg "_law_join" s_law_join ["one", "other"] := ⟨_, _, F12, PySem.W.mg_of X G a12, F12.binds (ps := ["one", "other"]) fun _ _ _ _ _ _ us hl => match us, hl with | [_, _], _ => rfl⟩
  have F13 := fun_mk (st := s_law_is_corner) l13 c13 k13
  have T_law_is_corner : Top K mg "_law_is_corner" s_law_is_corner ["pair", "spot"] := ⟨_, _, F13, PySem.W.mg_of X G a13, F13.binds (ps := ["pair", "spot"]) fun _ _ _ _ _ _ us hl => match us, hl with | [_, _], _ => rfl⟩
  have F14 := fun_mk (st := s_law_are_corners) l14 c14 k14
  have T_law_are_corners : Top K mg "_law_are_corners" s_law_are_corners ["told", "spot"] := ⟨_, _, F14, PySem.W.mg_of X G a14, F14.binds (ps := ["told", "spot"]) fun _ _ _ _ _ _ us hl => match us, hl with | [_, _], _ => rfl⟩
  have F15 := fun_mk (st := s_law_sum_over) l15 c15 k15
  have T_law_sum_over : Top K mg "_law_sum_over" s_law_sum_over ["told", "table"] := ⟨_, _, F15, PySem.W.mg_of X G a15, F15.binds (ps := ["told", "table"]) fun _ _ _ _ _ _ us hl => match us, hl with | [_, _], _ => rfl⟩
  have F16 := fun_mk (st := s_law_moved) l16 c16 k16
  have T_law_moved : Top K mg "_law_moved" s_law_moved ["pot", "spot"] := ⟨_, _, F16, PySem.W.mg_of X G a16, F16.binds (ps := ["pot", "spot"]) fun _ _ _ _ _ _ us hl => match us, hl with | [_, _], _ => rfl⟩
  have F17 := fun_mk (st := s_law_two_hold) l17 c17 k17
  have T_law_two_hold : Top K mg "_law_two_hold" s_law_two_hold ["first", "second", "table", "parts"] := ⟨_, _, F17, PySem.W.mg_of X G a17, F17.binds (ps := ["first", "second", "table", "parts"]) fun _ _ _ _ _ _ us hl => match us, hl with | [_, _, _, _], _ => rfl⟩
  have F18 := fun_mk (st := slaw) l18 c18 k18
  have Tlaw : Top K mg "law" slaw ["script"] := ⟨_, _, F18, PySem.W.mg_of X G a18, F18.binds (ps := ["script"]) fun _ _ _ _ _ _ us hl => match us, hl with | [_], _ => rfl⟩
  have TKcorners_moment : TopK K mg "corners" scorners ["moment"] ["moment"] (fun vs zs => vs ++ zs) := ⟨_, _, fun us ws => us ++ ws, F3, PySem.W.mg_of X G a3, ⟨fun s us ws _ hl => match us, ws, hl with
    | [], [_], _ => .of_eq rfl
    | [_], [], _ => .of_eq rfl, fun r1 r2 => r1.append r2⟩⟩
  refine ⟨PySem.W.fnOf "law" "law" (defArgs slaw) (defBody slaw) (defScope slaw) .none kV18 dc18 pm18 an18 cd18 ct18, fun s v => .of_eq rfl, fun base _ _ => ?_⟩
  have D1 := d_before (P := l.prog) (w := w) (K := K) (base := base) B Tbefore
  have D2 := d_join_of (P := l.prog) (w := w) (K := K) (base := base) B Tjoin_of
  have D3 := d_meet_of (P := l.prog) (w := w) (K := K) (base := base) B Tmeet_of
  have D4 := d_corners (P := l.prog) (w := w) (K := K) (base := base) B Tcorners
  have D4k := D4.kw TKcorners_moment
  have D5 := d_law_pot (P := l.prog) (w := w) (K := K) (base := base) B T_law_pot
  have D6 := d_law_draw (P := l.prog) (w := w) (K := K) (base := base) B T_law_draw
  have D7 := d_law_great (P := l.prog) (w := w) (K := K) (base := base) B T_law_great D6
  have D8 := d_law_amount (P := l.prog) (w := w) (K := K) (base := base) B T_law_amount D6 D7
  have D9 := d_law_grid (P := l.prog) (w := w) (K := K) (base := base) B T_law_grid
  have D10 := d_law_is_integer (P := l.prog) (w := w) (K := K) (base := base) B T_law_is_integer
  have D11 := d_law_before (P := l.prog) (w := w) (K := K) (base := base) B T_law_before
  have D12 := d_law_meet (P := l.prog) (w := w) (K := K) (base := base) B T_law_meet
  have D13 := d_law_join (P := l.prog) (w := w) (K := K) (base := base) B T_law_join
  have D14 := d_law_is_corner (P := l.prog) (w := w) (K := K) (base := base) B T_law_is_corner D10
  have D15 := d_law_are_corners (P := l.prog) (w := w) (K := K) (base := base) B T_law_are_corners D14
  have D16 := d_law_sum_over (P := l.prog) (w := w) (K := K) (base := base) B T_law_sum_over
  have D17 := d_law_moved (P := l.prog) (w := w) (K := K) (base := base) B T_law_moved D6 D7
  have D18 := d_law_two_hold (P := l.prog) (w := w) (K := K) (base := base) B T_law_two_hold D1 D2 D3 D13 D12
  have D := d_law B Tlaw D5 D6 D9 D8 D4 D4k D15 D16 D18 D11 D17
  obtain ⟨f, fd', F, g, _, _, _, _, _, lk⟩ := D
  obtain rfl : fa = f := Value.ref.inj (Option.some.inj ((PySem.W.mg_of X G a18).symm.trans g))
  rw [l18] at lk
  cases lk
  exact F
end
end K1
open PySem PySem.W PyProof.Rows
set_option maxHeartbeats 0 in
theorem PySem.Challenge.cw_deltamill_k01_whole_corners_add_up_holds : PySem.Challenge.rw_deltamill_k01_whole_corners_add_up.Holds := by
  w_on; o_law; k_head; (case hw => w_witness2)
  k_fill
  refine L2.walk_of (l := PySem.Challenge.rw_deltamill_k01_whole_corners_add_up) (n := 63) (k := 4) (x := "script") (CX := fun _ => L2.CX0) (sp := fun w => K1.spLaw _) rfl (by decide) rfl ⟨rfl, by decide, by decide⟩ (fun w h Y => PySem.W.kIn_of Y) ?F (fun _ _ a ns hl _ hS => ⟨a, ns, rfl, hS, hl, fun _ => rfl⟩) (fun _ _ _ _ _ h => h)
  case F =>
    intro w mg fa h KX G hmg
    refine' K1.all_mk KX G hmg ?a0 ?l0 ?c0 ?k0 ?a1 ?l1 ?c1 ?k1 ?a2 ?l2 ?c2 ?k2 ?a3 ?l3 ?c3 ?k3 ?a4 ?l4 ?c4 ?k4 ?a5 ?l5 ?c5 ?k5 ?a6 ?l6 ?c6 ?k6 ?a7 ?l7 ?c7 ?k7 ?a8 ?l8 ?c8 ?k8 ?a9 ?l9 ?c9 ?k9 ?a10 ?l10 ?c10 ?k10 ?a11 ?l11 ?c11 ?k11 ?a12 ?l12 ?c12 ?k12 ?a13 ?l13 ?c13 ?k13 ?a14 ?l14 ?c14 ?k14 ?a15 ?l15 ?c15 ?k15 ?a16 ?l16 ?c16 ?k16 ?a17 ?l17 ?c17 ?k17 ?a18 ?l18 ?c18 ?k18 ?z0 ?z1 ?z2 ?z3 ?z4 ?z5 ?z6 ?z7 ?z8 ?z9 ?z10 ?z11
    (case a0 => k_is); (case l0 => k_is); (case c0 => k_is); (case k0 => k_is); (case a1 => k_is); (case l1 => k_is); (case c1 => k_is); (case k1 => k_is); (case a2 => k_is); (case l2 => k_is); (case c2 => k_is); (case k2 => k_is); (case a3 => k_is); (case l3 => k_is); (case c3 => k_is); (case k3 => k_is); (case a4 => k_is); (case l4 => k_is); (case c4 => k_is); (case k4 => k_is); (case a5 => k_is); (case l5 => k_is); (case c5 => k_is); (case k5 => k_is); (case a6 => k_is); (case l6 => k_is); (case c6 => k_is); (case k6 => k_is); (case a7 => k_is); (case l7 => k_is); (case c7 => k_is); (case k7 => k_is); (case a8 => k_is); (case l8 => k_is); (case c8 => k_is); (case k8 => k_is); (case a9 => k_is); (case l9 => k_is); (case c9 => k_is); (case k9 => k_is); (case a10 => k_is); (case l10 => k_is); (case c10 => k_is); (case k10 => k_is); (case a11 => k_is); (case l11 => k_is); (case c11 => k_is); (case k11 => k_is); (case a12 => k_is); (case l12 => k_is); (case c12 => k_is); (case k12 => k_is); (case a13 => k_is); (case l13 => k_is); (case c13 => k_is); (case k13 => k_is); (case a14 => k_is); (case l14 => k_is); (case c14 => k_is); (case k14 => k_is); (case a15 => k_is); (case l15 => k_is); (case c15 => k_is); (case k15 => k_is); (case a16 => k_is); (case l16 => k_is); (case c16 => k_is); (case k16 => k_is); (case a17 => k_is); (case l17 => k_is); (case c17 => k_is); (case k17 => k_is); (case a18 => k_is); (case l18 => k_is); (case c18 => k_is); (case k18 => k_is); (case z0 => k_is); (case z1 => k_is); (case z2 => k_is); (case z3 => k_is); (case z4 => k_is); (case z5 => k_is); (case z6 => k_is); (case z7 => k_is); (case z8 => k_is); (case z9 => k_is); (case z10 => k_is); (case z11 => k_is)
